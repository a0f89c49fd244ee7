import PyProof.Rows.All
import Wide.All
import OpenK.AllK
import Wide.FinOn
import Lean
import PyProof.EqAt
import PyProof.EqKinds
import PyProof.TupleCall
import PyProof.SetRoads
import PyProof.Rows.SetFrom
import PyProof.StrWalks
import PyProof.FactsAll.set
import PyProof.FactsAll.subtypes_3
import PyProof.CollectWalk
import PyProof.CollectStr
import PyProof.StationsW
import PyProof.RulesAs
import KE.KTryMore
import PyProof.NsDelKeeps
import PyProof.ListStr
import PyProof.TupleOfStr
import PyProof.ConsumeS
import KE.KEqDict
import PyProof.DictWalks
import PyProof.DictUpdate
import KE.KLam
import OpenK.KCell
import KE.KMinKey
import PyProof.Rows.StrInSeq3
import PyProof.DictDisplay
import PyProof.ListRange
import PyProof.Rows.StrNews2
import KE.KRevIter
import KE.KDictList
import PySem.Challenge.RW_lackword_k43_the_oftenest
set_option Elab.async false
set_option linter.all false
def YAA:=@PySem.wpAny_bind
def YAB:=@PySem.Heap.get?_push_of_some
def YAC:=@PySem.wpAny_pure
def YAD:=@List.length_map
def YAE:=@Bool.false_ne_true
def YAF:=@PySem.Heap.get?_push_size
def YAG:=@PySem.Heap.lt_size
def YAH:=@List.size_toArray
def YAI:=@List.length_append
def YAJ:=@if_neg
def YAK:=@PyProof.Rows.wpS_bind
def YAL:=@List.getElem?_eq_getElem
def YAM:=@List.mem_cons
def YAN:=@Array.length_toList
def YAO:=@if_pos
def YAP:=@Nat.le_refl
def YAQ:=@Nat.le_trans
def YAR:=@List.getD_eq_getElem?_getD
def YAS:=@PySem.W.mg_of
def YAT:=@Bool.and_eq_true
def YAU:=@PyProof.Rows.wpS_pure
def YAV:=@List.length_take
def YAW:=@List.getElem?_eq_some_iff
def YAX:=@List.mem_singleton
def YAY:=@Nat.ne_of_lt
def YAZ:=@List.mem_cons_of_mem
def YAa:=@PySem.Heap.SameBut.update
def YAb:=@List.mem_of_mem_take
def YAc:=@List.mem_of_mem_drop
def YAd:=@List.mem_cons_self
def YAe:=@List.mem_of_getElem?
def YAf:=@List.mem_append
def YAg:=@List.map_cons
def YAh:=@List.append_assoc
def YAi:=@Nat.lt_of_lt_of_le
def YAj:=@List.take_append_drop
def YAk:=@List.getElem?_map
def YAl:=@Array.getElem?_toList
def YAm:=@List.length_drop
def YAn:=@List.getElem?_append_right
def YAo:=@List.take_of_length_le
def YAp:=@List.length_cons
def YAq:=@List.mem_range
def YAr:=@List.getElem?_append_left
def YAs:=@PySem.Heap.size_push
def YAt:=@Nat.lt_irrefl
def YAu:=@List.length_singleton
def YAv:=@PySem.W.mg_none_of
def YAw:=@Ne.symm
def YAx:=@Array.toList_extract
def YAy:=@PySem.wpAny_holding
def YAz:=@List.mem_append_right
def YBA:=@Array.toList_append
def YBB:=@PySem.wpAny_mono
def YBC:=@PySem.Heap.get?_update_other
def YBD:=@List.lookup_cons
def YBE:=@List.all_eq_true
def YBF:=@PySem.W.kia_one
def YBG:=@Bool.eq_iff_iff
def YBH:=@PySem.F.plainAttrs_list
def YBI:=@Nat.zero_le
def YBJ:=@PySem.PassesOwn.never
def YBK:=@List.pairwise_append
def YBL:=@List.length_dropLast
def YBM:=@PySem.wpAny_Call_Name_kw
def YBN:=@List.pairwise_cons
def YBO:=@PyProof.Rows.wpS_forRange
def YBP:=@PySem.mem_of_lookup
def YBQ:=@List.length_filter_le
def YBR:=@PySem.Heap.get?_update_self
def YBS:=@PySem.wpAny_setField
def YBT:=@List.mem_reverse
def YBU:=@List.drop_zero
def YBV:=@PySem.wpAny_loadPart_at
def YBW:=@Array.toList_push
def YBX:=@List.mem_map
def YBY:=@Bool.false_and
def YBZ:=@PySem.wpAny_newObj_type
def YBa:=@List.map_map
def YBb:=@List.length_range
def YBc:=@List.getElem?_eq_none
def YBd:=@Int.toNat_natCast
def YBe:=@PySem.wpAny_seqItems
def YBf:=@PySem.wpAny_field
def YBg:=@Nat.min_eq_left
def YBh:=@PySem.W.looks_findIn
def YBi:=@PySem.Around.under_plainId
def YBj:=@PySem.wpAny_call_entry
def YBk:=@List.not_mem_nil
def YBl:=@PySem.F.plain_max_loop
def YBm:=@List.pairwise_map
def YBn:=@List.length_pos_iff
def YBo:=@PySem.W.callWith_K
def YBp:=@Int.emod_lt_of_pos
def YBq:=@Bool.false_eq_true
def YBr:=@Bool.true_and
def YBs:=@PySem.wpAny_truthy_bool
def YBt:=@PySem.wpAny_rule
def YBu:=@Bool.eq_false_iff
def YBv:=@List.mem_filter
def YBw:=@List.forIn_cons
def YBx:=@Int.emod_nonneg
def YBy:=@PyProof.Rows.wpS_mono
def YBz:=@Array.getElem?_eq_some_iff
def YCA:=@PySem.IsL.isList
def YCB:=@List.getElem_mem
def YCC:=@PySem.wpAny_attempt
def YCD:=@PySem.Obj.data_mapFields
def YCE:=@Nat.lt_of_le_of_lt
def YCF:=@List.contains_cons
def YCG:=@List.pairwise_iff_getElem
def YCH:=@List.drop_eq_getElem_cons
def YCI:=@PyProof.Rows.wpS_modify
def YCJ:=@PySem.wpAny_call
def YCK:=@PySem.F.type_list_append
def YCL:=@PySem.F.slot_list_append
def YCM:=@Nat.lt_succ_of_lt
def YCN:=@List.nodup_cons
def YCO:=@List.map_append
def YCP:=@List.flatten_cons
def YCQ:=@Nat.le_of_eq
def YCR:=@List.mem_map_of_mem
def YCS:=@PySem.W.any_some
def YCT:=@Option.bind_some
def YCU:=@List.take_length
def YCV:=@List.getLast?_eq_some_getLast
def YCW:=@List.drop_append_of_le_length
def YCX:=@List.take_take
def YCY:=@Bool.and_false
def YCZ:=@List.drop_eq_nil_of_le
def YCa:=@List.getElem?_take
def YCb:=@List.getElem?_drop
def YCc:=@PySem.W.methodCall_KW
def YCd:=@PyProof.Rows.callWith_type1
def YCe:=@Nat.le_succ
def YCf:=@List.range_succ
def YCg:=@List.foldl_cons
def YCh:=@List.append_nil
def YCi:=@PySem.wpAny_setState_of
def YCj:=@PySem.wpAny_pyIter_list
def YCk:=@PySem.W.kitx_list
def YCl:=@List.take_sublist
def YCm:=@List.ext_getElem?
def YCn:=@PySem.F.slot_tuple_iterator_next
def YCo:=@Array.perm_iff_toList_perm
def YCp:=@List.dropLast_concat
def YCq:=@Array.toArray_toList
def YCr:=@List.drop_drop
def YCs:=@PySem.wpAny_askSetting
def YCt:=@PySem.wpAny_isSubtype_exc
def YCu:=@List.getElem_of_mem
def YCv:=@Nat.ne_of_gt
def YCw:=@Nat.le_of_lt
def YCx:=@PySem.wpAny_setField_rec
def YCy:=@List.length_eq_zero_iff
def YCz:=@List.find?_cons
def YDA:=@List.not_lt
def YDB:=@List.nodup_append
def YDC:=@PySem.wpAny_tryCatch
def YDD:=@PyProof.Rows.callWith_builtin1
def YDE:=@PySem.Obj.isFreed_of_fields
def YDF:=@List.dropLast_eq_take
def YDG:=@Nat.succ_le_succ
def YDH:=@List.ext_getElem
def YDI:=@List.eq_nil_of_length_eq_zero
def YDJ:=@List.cons_append
def YDK:=@List.mem_append_left
def YDL:=@PySem.F.excBase_ValueError
def YDM:=@PySem.wpAny_standAt
def YDN:=@PySem.wpAny_newList
def YDO:=@List.dropLast_concat_getLast
def YDP:=@PyProof.Rows.wpS_get
def YDQ:=@PySem.wpAny_updateSeq
def YDR:=@PySem.wpAny_passesOwn
def YDS:=@PySem.wpAny_letGo
def YDT:=@PySem.wpAny_execs_nil
def YDU:=@PySem.W.looks_mroIn
def YDV:=@Option.map_some
def YDW:=@List.map_congr_left
def YDX:=@List.filterMap_cons
def YDY:=@List.length_eraseIdx_of_lt
def YDZ:=@Array.toList_setIfInBounds
def YDa:=@PySem.W.kitx_tuple
def YDb:=@List.filter_append
def YDc:=@PySem.Calls.spliced_cons
set_option maxRecDepth 100000
namespace L2
open PySem PySem.Spec PyProof.Rows
abbrev Key:=Sum Int Str
def Zej:Key→Value→Bool
 | .inl k,v=>Value.isInt k v
 | .inr x,v=>Value.isStrOf x v
def keyH (w:World):Key→Int
 | .inl k=>hashInt k
 | .inr x=>hashStr w x
theorem ZaU:∀ {k:Key} {v:Value},Zej k v=true→(∃i t,k=Sum.inl i∧v=Value.int i t)∨(∃x t,k=Sum.inr x∧v=Value.str x t)
 | .inl i,v,h=>by
  obtain⟨t,e⟩:=Value.isInt_shape (k:=i) (v:=v) h
  exact .inl ⟨i,t,rfl,e⟩
 | .inr x,v,h=>by
  obtain⟨t,e⟩:=Value.isStrOf_shape (x:=x) (v:=v) h
  exact .inr ⟨x,t,rfl,e⟩
theorem Zh6 (i:Int)(t:Tok):Zej (.inl i) (.int i t)=true:=by simp[Zej,Value.isInt]
theorem Zh5 (x:Str)(t:Tok):Zej (.inr x) (.str x t)=true:=by simp[Zej,Value.isStrOf]
theorem ZmV (a b:Int):decide ((Sum.inl a:Key)=Sum.inl b)=(a == b):=by
 by_cases e:a=b
 ·subst e;simp
 ·have h:¬(Sum.inl a:Key)=Sum.inl b:=fun q=>e (Sum.inl.inj q)
  rw[decide_eq_false h]
  exact(beq_eq_false_iff_ne.mpr e).symm
theorem ZmS (a b:Str):decide ((Sum.inr a:Key)=Sum.inr b)=decide (a=b):=by
 by_cases e:a=b
 ·subst e;simp
 ·have h:¬(Sum.inr a:Key)=Sum.inr b:=fun q=>e (Sum.inr.inj q)
  rw[decide_eq_false h,decide_eq_false e]
theorem ZmU (a:Int)(b:Str):decide ((Sum.inl a:Key)=Sum.inr b)=false:=decide_eq_false (fun q=>nomatch q)
theorem ZmT (a:Str)(b:Int):decide ((Sum.inr a:Key)=Sum.inl b)=false:=decide_eq_false (fun q=>nomatch q)
def ZaL (prog:Program)(w:World):PySem.KeyKind prog w Key where
 is:=Zej
 hash:=keyH w
 inj:=fun v a b ha hb=>by
  rcases ZaU ha with⟨i,t,rfl,rfl⟩|⟨x,t,rfl,rfl⟩
  ·rcases ZaU hb with⟨j,u,rfl,e⟩|⟨y,u,rfl,e⟩
   ·injection e with e1 _;rw[e1]
   ·exact nomatch e
  ·rcases ZaU hb with⟨j,u,rfl,e⟩|⟨y,u,rfl,e⟩
   ·exact nomatch e
   ·injection e with e1 _;rw[e1]
 byValue:=fun k v h=>by
  rcases ZaU h with⟨i,t,rfl,rfl⟩|⟨x,t,rfl,rfl⟩<;>rfl
 pyHash:=fun hv h=>by
  rcases ZaU hv with⟨i,t,rfl,rfl⟩|⟨x,t,rfl,rfl⟩
  ·exact wpAny_pyHash_int h
  ·exact wpAny_pyHash_str h
 eqBool:=fun hu hv h=>by
  rcases ZaU hu with⟨i,t,rfl,rfl⟩|⟨x,t,rfl,rfl⟩
  ·rcases ZaU hv with⟨j,u,rfl,rfl⟩|⟨y,u,rfl,rfl⟩
   ·rw[ZmV]at h;exact wpAny_eqBool_int h
   ·rw[ZmU]at h;exact SeqAt.EqAt.int_str i t y u _ _ _ _ h
  ·rcases ZaU hv with⟨j,u,rfl,rfl⟩|⟨y,u,rfl,rfl⟩
   ·rw[ZmT]at h;exact SeqAt.EqAt.str_int x t j u _ _ _ _ h
   ·rw[ZmS]at h;exact wpAny_eqBool_str h
 «strs»:=fun k x t v h=>by
  rcases ZaU h with⟨i,u,rfl,e⟩|⟨y,u,rfl,e⟩
  ·exact nomatch e
  ·injection e with e1 _
   subst e1
   cases v<;>rfl
theorem ZfG (prog:Program)(w:World)(i:Int)(t:Tok):(ZaL prog w).is (.inl i) (.int i t)=true:=Zh6 i t
theorem Zdk (prog:Program)(w:World)(x:Str)(t:Tok):(ZaL prog w).is (.inr x) (.str x t)=true:=Zh5 x t
inductive V where
 | non | bl (b:Bool) | int (i:Int) | str (x:Str) | byt (b:Array UInt8) | flt (b:UInt64) | ref (a:Addr) | ty (n:String)
 deriving DecidableEq
def RelV:V→Value→Prop
 | .non,u=>u=Value.none
 | .bl b,u=>u=Value.bool b
 | .int i,u=>∃t,u=Value.int i t
 | .str x,u=>∃t,u=Value.str x t
 | .byt b,u=>∃t,u=Value.bytes b t
 | .flt b,u=>∃t,u=Value.float b t
 | .ref a,u=>u=Value.ref a
 | .ty n,u=>u=Value.type n
abbrev Vals:List V→List Value→Prop:=Paired RelV
theorem Vals.length {xs:List V}{us:List Value}(r:Vals xs us):xs.length=us.length:=Paired.length r
theorem Vals.get:∀ {xs:List V} {us:List Value} {i:Nat} {x:V},Vals xs us→xs[i]?=some x→∃u,us[i]?=some u∧RelV x u
 | _,_,_,_,.nil,e=>by simp at e
 | _,_,0,_,.cons r _,e=>by simp at e;subst e;exact⟨_,rfl,r⟩
 | _,_,i+1,x,.cons _ t,e=>by
  obtain⟨u,h1,h2⟩:=Vals.get (i:=i) (x:=x) t (by simpa using e)
  exact⟨u,by simpa using h1,h2⟩
theorem Vals.set {x:V}{u:Value}(r:RelV x u):∀ {xs:List V} {us:List Value} (i:Nat),Vals xs us→Vals (xs.set i x) (us.set i u)
 | _,_,_,.nil=>.nil
 | _,_,0,.cons _ t=>.cons r t
 | _,_,i+1,.cons q t=>.cons q (Vals.set r i t)
theorem Vals.append:∀ {xs ys:List V} {us ws:List Value},Vals xs us→Vals ys ws→Vals (xs++ys) (us++ws)
 | _,_,_,_,.nil,s=>s
 | _,_,_,_,.cons r t,s=>.cons r (Vals.append t s)
theorem Vals.take:∀ {xs:List V} {us:List Value} (n:Nat),Vals xs us→Vals (xs.take n) (us.take n)
 | _,_,0,_=>.nil
 | _,_,_+1,.nil=>.nil
 | _,_,n+1,.cons r t=>.cons r (Vals.take n t)
theorem Vals.drop:∀ {xs:List V} {us:List Value} (n:Nat),Vals xs us→Vals (xs.drop n) (us.drop n)
 | _,_,0,r=>r
 | _,_,_+1,.nil=>.nil
 | _,_,n+1,.cons _ t=>Vals.drop n t
def RelO:Option V→Option Value→Prop
 | some v,some u=>RelV v u
 | none,none=>True
 | _,_=>False
def KV {κ:Type}:List (κ×V)→List (κ×Value)→Prop:=Paired fun (p:κ×V) (q:κ×Value)=>p.1=q.1∧RelV p.2 q.2
def kV:Key→V
 | .inl i=>.int i
 | .inr x=>.str x
inductive HO where
 | lst (xs:List V)
 | tup (xs:List V)
 | dK (kvs:List (Key×V)) | dT (kvs:List (List Key×V))
 | set (S:Int→Bool) (n:Nat)
 | ins (C dx:Addr) (fs:List (Str×V))
 | own (x:Addr)
 | xd (fs:List (Str×V))
 | met (f x:Addr)
 | rng (lo hi:Int)
 | frz (o:Obj) (u:HO)
 | tbl (ps:Array Value)
 | ext (φ:Heap→Prop)
abbrev Hp:=Addr→Option HO
def upd (H:Hp)(a:Addr)(o:HO):Hp:=fun b=>if b=a then some o else H b
theorem Zae {H:Hp}{a:Addr}{o:HO}:upd H a o a=some o:=by unfold upd;rw[YAO rfl]
theorem Zaf {H:Hp}{a b:Addr}{o:HO}(h:b≠a):upd H a o b=H b:=by unfold upd;rw[YAJ h]
theorem Zo6 {H:Hp}{a b:Addr}{o u:HO}(h:H a=some o)(h':H b=some u)(d:o≠u):a≠b:=by
 intro e;subst e;rw[h]at h';exact d (Option.some.inj h')
theorem Zan {H:Hp}{a b:Addr}{o:HO}(h:H a=some o)(h':H b=none):a≠b:=by
 intro e;subst e;rw[h]at h';cases h'
section
variable (P:Program)(w:World)
def ObjOk (H:Hp)(h:Heap)(a:Addr):HO→Prop
 | .lst xs=>xs.length≤sizeLine∧∃(its:List Value) (n:Nat),Vals xs its∧h.get? a=some { cls:=.type "list",data:=.seq its.toArray n }
 | .tup xs=>xs.length≤sizeLine∧∃its:List Value,Vals xs its∧IsTup h a its.toArray
 | .dK kvs=>kvs.length≤sizeLine∧(a == sysModules)=false∧∃vs,KV kvs vs∧h.DictOf (ZaL P w) a vs
 | .dT kvs=>kvs.length≤sizeLine∧(a == sysModules)=false∧∃xs:List (List Key×Addr×Value),
   Paired (fun (p:List Key×V) (q:List Key×Addr×Value)=>p.1=q.1∧H q.2.1=some (.tup (p.1.map kV))∧RelV p.2 q.2.2) kvs xs ∧
   ∃o es ep,h.get? a=some o∧o.ExactDict∧o.data=.dict es ep∧es.toList=xs.map (entryOfKey (tupleKind (ZaL P w)))∧(xs.map (·.1)).Nodup
 | .set S n=>h.SetOf (intKind P w) a S n
 | .ins C dx fs=>H dx=some (.own a)∧fs.length≤1000∧dx≠a∧h.get? a=some (PySem.W.instObj C dx) ∧
   ∃mA,h.Ns1 dx mA∧(∀f,RelO (fs.lookup f) (mA f))∧PySem.Within mA (fs.map (·.1))
 | .own _=>∃o,h.get? a=some o
 | .xd fs=>∃mA,h.Ns1 a mA∧∀f,RelO (fs.lookup f) (mA f)
 | .rng lo hi=>∃t u v,h.get? a=some { cls:=.type "range",data:=.fields #[.int lo t,.int hi u,.int 1 v] }
 | .frz o u=>h.get? a=some o∧ObjOk H h a u
 | .tbl ps=>h.get? a=some { cls:=.none,data:=.fields ps }
 | .met f x=>h.get? a=some (PySem.W.methodObj (.ref f) (.ref x))
 | .ext φ=>φ h∧(∃o,h.get? a=some o)∧∀h1 h2:Heap,φ h1→(∀o,h1.get? a=some o→h2.get? a=some o)→φ h2
def HOk (H:Hp)(h:Heap):Prop:=∀a o,H a=some o→ObjOk P w H h a o
end
section
variable {P:Program}{w:World}{H H':Hp}{h h':Heap}{a:Addr}{o:HO}
theorem ObjOk.lt (x:ObjOk P w H h a o):a<h.objs.size:=by
 cases o with
 | lst xs=>obtain⟨_,_,_,_,e⟩:=x;exact YAG e
 | tup xs=>obtain⟨_,_,_,p⟩:=x;exact p.lt
 | dK kvs=>obtain⟨_,_,_,_,o,_,_,e,_⟩:=x;exact YAG e
 | dT kvs=>obtain⟨_,_,_,_,o,_,_,e,_⟩:=x;exact YAG e
 | set S n=>obtain⟨o,_,_,_,e,_⟩:=x;exact YAG e
 | ins C dx fs=>obtain⟨_,_,_,e,_⟩:=x;exact YAG e
 | own y=>obtain⟨_,e⟩:=x;exact YAG e
 | xd fs=>obtain⟨_,⟨_,_,_,e,_⟩,_⟩:=x;exact YAG e
 | rng lo hi=>obtain⟨_,_,_,e⟩:=x;exact YAG e
 | frz ob u=>obtain⟨e,_⟩:=x;exact YAG e
 | tbl ps=>exact YAG (show h.get? a=some _ from x)
 | met f y=>exact YAG (show h.get? a=some _ from x)
 | ext φ=>obtain⟨_,⟨_,e⟩,_⟩:=x;exact YAG e
theorem Paired.mapP {α β:Type}{F G:α→β→Prop}:∀ {l₁:List α} {l₂:List β},Paired F l₁ l₂→(∀a b,F a b→G a b)→Paired G l₁ l₂
 | _,_,.nil,_=>.nil
 | _,_,.cons r t,f=>.cons (f _ _ r) (Paired.mapP t f)
theorem ObjOk.stay (x:ObjOk P w H h a o)(k:∀b u,(b=a∨H b=some (.own a))→h.get? b=some u→h'.get? b=some u)
  (ho:∀b,H b=some (.own a)→H' b=some (.own a)) (ht:∀b xs,H b=some (.tup xs)→H' b=some (.tup xs)):ObjOk P w H' h' a o:=by
 induction o with
 | lst xs=>obtain⟨z,its,n,r,e⟩:=x;exact⟨z,its,n,r,k _ _ (.inl rfl) e⟩
 | tup xs=>obtain⟨z,its,r,ob,e,c⟩:=x;exact⟨z,its,r,ob,k _ _ (.inl rfl) e,c⟩
 | dK kvs=>obtain⟨z,y,vs,r,ob,es,ep,e,c⟩:=x;exact⟨z,y,vs,r,ob,es,ep,k _ _ (.inl rfl) e,c⟩
 | dT kvs=>
  obtain⟨z,y,xs,r,ob,es,ep,e,c⟩:=x
  exact⟨z,y,xs,Paired.mapP r fun p q z=>⟨z.1,ht _ _ z.2.1,z.2.2⟩,ob,es,ep,k _ _ (.inl rfl) e,c⟩
 | set S n=>obtain⟨ob,es,ep,t,e,c⟩:=x;exact⟨ob,es,ep,t,k _ _ (.inl rfl) e,c⟩
 | ins C dx fs=>
  obtain⟨d,z,ne,e,mA,⟨od,es,ep,e2,c⟩,r⟩:=x
  exact⟨ho _ d,z,ne,k _ _ (.inl rfl) e,mA,⟨od,es,ep,k _ _ (.inr d) e2,c⟩,r⟩
 | own y=>obtain⟨ob,e⟩:=x;exact⟨ob,k _ _ (.inl rfl) e⟩
 | xd fs=>obtain⟨mA,⟨od,es,ep,e,c⟩,r⟩:=x;exact⟨mA,⟨od,es,ep,k _ _ (.inl rfl) e,c⟩,r⟩
 | rng lo hi=>obtain⟨t,u,v,e⟩:=x;exact⟨t,u,v,k _ _ (.inl rfl) e⟩
 | frz ob u ih=>obtain⟨e,q⟩:=x;exact⟨k _ _ (.inl rfl) e,ih q⟩
 | tbl ps=>
  have e:h.get? a=some { cls:=.none,data:=.fields ps }:=x
  show h'.get? a=some { cls:=.none,data:=.fields ps }
  exact k a _ (.inl rfl) e
 | met f y=>
  have e:h.get? a=some (PySem.W.methodObj (.ref f) (.ref y)):=x
  show h'.get? a=some (PySem.W.methodObj (.ref f) (.ref y))
  exact k a _ (.inl rfl) e
 | ext φ=>obtain⟨p,⟨o,e⟩,st⟩:=x;exact⟨st _ _ p fun o q=>k _ _ (.inl rfl) q,⟨o,k _ _ (.inl rfl) e⟩,st⟩
theorem HOk.lt (x:HOk P w H h)(e:H a=some o):a<h.objs.size:=(x a o e).lt
theorem HOk.fresh (x:HOk P w H h)(e:h.objs.size≤a):H a=none:=by
 cases q:H a with
 | none=>rfl
 | some u=>exact absurd (YAi (x.lt q) e) (YAt _)
theorem HOk.kept (x:HOk P w H h)(k:∀b u,h.get? b=some u→h'.get? b=some u):HOk P w H h':=fun a o e=>
 (x a o e).stay (fun b u _ q=>k b u q) (fun _ q=>q) fun _ _ q=>q
theorem HOk.laid (x:HOk P w H h)(k:∀b u,h.get? b=some u→h'.get? b=some u)(hp:h.objs.size≤a)(new:ObjOk P w (upd H a o) h' a o):HOk P w (upd H a o) h':=fun b u e=>by
 have hn:=x.fresh hp
 by_cases hb:b=a
 ·subst hb;rw[Zae]at e;cases e;exact new
 ·rw[Zaf hb]at e
  exact(x b u e).stay (fun c v _ q=>k c v q) (fun c q=>by rw[Zaf (Zan q hn)];exact q) fun c xs q=>by rw[Zaf (Zan q hn)];exact q
end
def Rd (H:Hp)(a:Addr)(u:HO):Prop:=H a=some u∨∃o,H a=some (.frz o u)
theorem Rd.ok {P:Program}{w:World}{H:Hp}{h:Heap}{a:Addr}{u:HO}(r:Rd H a u)(x:HOk P w H h):ObjOk P w H h a u:=by
 rcases r with r | ⟨o,r⟩
 ·exact x a u r
 ·obtain⟨_,q⟩:=x a _ r
  exact q
def Mut:Option HO→Prop
 | some (.lst _)=>True
 | some (.dK _)=>True
 | some (.dT _)=>True
 | some (.set _ _)=>True
 | some (.ins _ _ _)=>True
 | some (.ext _)=>True
 | _=>False
section
variable {P:Program}{w:World}{H:Hp}{h h':Heap}{x e:Addr}{o':HO}
theorem HOk.write (ok:HOk P w H h)(mu:Mut (H x))(he:e=x∨H e=some (.own x))(k:∀b u,b≠e→h.get? b=some u→h'.get? b=some u)(heo:∃u,h'.get? e=some u)
  (new:ObjOk P w (upd H x o') h' x o'):HOk P w (upd H x o') h':=fun b u q=>by
 have nown:∀c y,H c=some (.own y)→c≠x:=fun c y r z=>by subst z;rw[r]at mu;exact mu
 have ntup:∀c xs,H c=some (.tup xs)→c≠x:=fun c xs r z=>by subst z;rw[r]at mu;exact mu
 by_cases hb:b=x
 ·subst hb;rw[Zae]at q;cases q;exact new
 ·rw[Zaf hb]at q
  by_cases hbe:b=e
  ·have q':H b=some (.own x):=by
    rcases he with z | z
    ·exact absurd (hbe.trans z) hb
    ·rw[hbe];exact z
   rw[q]at q';cases q'
   obtain⟨v,hv⟩:=heo
   exact⟨v,by rw[hbe];exact hv⟩
  ·refine(ok b u q).stay (fun c v hc r=>k c v ?_ r) (fun c r=>by rw[Zaf (nown c b r)];exact r) fun c xs r=>by rw[Zaf (ntup c xs r)];exact r
   rcases hc with rfl | hc
   ·exact hbe
   ·rintro rfl
    rcases he with z | z
    ·exact nown c b hc z
    ·rw[hc]at z;cases z;exact hb rfl
end
structure Un (fs ex:List Addr)(H H':Hp)(h h':Heap):Prop where
 keep:∀b o,h.get? b=some o→H b=none→b∉fs→b∉ex→h'.get? b=some o
 slot:∀b o,h.get? b=some o→H b=none→b∈fs→b∉ex→∃sl,h'.get? b=some { o with slots:=sl }
 free:∀b o,h.get? b=some o→H b=none→b∉ex→H' b=none
 there:∀b o,h.get? b=some o→b∉ex→∃o',h'.get? b=some o'
 tups:∀b xs,H b=some (.tup xs)→H' b=some (.tup xs)
 frzs:∀b o u,H b=some (.frz o u)→H' b=some (.frz o u)
 tbls:∀b ps,H b=some (.tbl ps)→∃more,H' b=some (.tbl (ps++more))
section
variable {fs fs' ex ex':List Addr}{H H1 H2:Hp}{h h1 h2 h':Heap}{a x e:Addr}{o:HO}
theorem Un.any (u:Un fs ex H H1 h h1){b:Addr}{ob:Obj}(q:h.get? b=some ob)(n:H b=none)(hx:b∉ex):∃sl,h1.get? b=some { ob with slots:=sl }:=by
 by_cases hb:b∈fs
 ·exact u.slot b ob q n hb hx
 ·exact⟨ob.slots,u.keep b ob q n hb hx⟩
theorem Un.trans (a:Un fs ex H H1 h h1)(b:Un fs ex H1 H2 h1 h2):Un fs ex H H2 h h2 where
 keep:=fun c ob q n hc hx=>b.keep c ob (a.keep c ob q n hc hx) (a.free c ob q n hx) hc hx
 slot:=fun c ob q n hc hx=>by
  obtain⟨sl,e1⟩:=a.slot c ob q n hc hx
  obtain⟨sl',e2⟩:=b.slot c _ e1 (a.free c ob q n hx) hc hx
  exact⟨sl',e2⟩
 free:=fun c ob q n hx=>by
  obtain⟨o',e1⟩:=a.there c ob q hx
  exact b.free c o' e1 (a.free c ob q n hx) hx
 there:=fun c ob q hx=>by
  obtain⟨o',e1⟩:=a.there c ob q hx
  exact b.there c o' e1 hx
 tups:=fun c xs q=>b.tups c xs (a.tups c xs q)
 frzs:=fun c ob xs q=>b.frzs c ob xs (a.frzs c ob xs q)
 tbls:=fun c ps q=>by
  obtain⟨m1,e1⟩:=a.tbls c ps q
  obtain⟨m2,e2⟩:=b.tbls c _ e1
  exact⟨m1++m2,by rw[e2,Array.append_assoc]⟩
theorem Un.kept (k:∀b u,h.get? b=some u→h'.get? b=some u):Un fs ex H H h h':=
 ⟨fun b ob q _ _ _=>k b ob q,fun b ob q _ _ _=>⟨ob.slots,k b ob q⟩,fun _ _ _ n _=>n,fun b ob q _=>⟨ob,k b ob q⟩,fun _ _ q=>q,fun _ _ _ q=>q,fun _ ps q=>⟨#[],by rw[q];simp⟩⟩
theorem Un.refl:Un fs ex H H h h:=Un.kept fun _ _ q=>q
theorem Un.laid (k:∀b u,h.get? b=some u→h'.get? b=some u)(hp:h.objs.size≤a)(hn:H a=none):Un fs ex H (upd H a o) h h' where
 keep:=fun b u q _ _ _=>k b u q
 slot:=fun b u q _ _ _=>⟨u.slots,k b u q⟩
 free:=fun b u q n _=>by rw[Zaf (YAY (YAi (YAG q) hp))];exact n
 there:=fun b u q _=>⟨u,k b u q⟩
 tups:=fun b xs q=>by rw[Zaf (Zan q hn)];exact q
 frzs:=fun b u xs q=>by rw[Zaf (Zan q hn)];exact q
 tbls:=fun b ps q=>⟨#[],by rw[Zaf (Zan q hn),q];simp⟩
theorem Un.write (mu:Mut (H x))(he:e=x∨H e=some (.own x))(k:∀b u,b≠e→h.get? b=some u→h'.get? b=some u)(heo:∃u,h'.get? e=some u):Un fs ex H (upd H x o) h h':=by
 have hx:∀b,H b=none→b≠x:=fun b n z=>by subst z;rw[n]at mu;exact mu
 have hb:∀b,H b=none→b≠e:=fun b n z=>by
  subst z
  rcases he with r | r
  ·exact hx b n r
  ·rw[n]at r;cases r
 have hm:∀b u,H b=some u→¬Mut (some u)→b≠x:=fun b u q nm z=>by subst z;rw[q]at mu;exact nm mu
 refine⟨fun b u q n _ _=>k b u (hb b n) q,fun b u q n _ _=>⟨u.slots,k b u (hb b n) q⟩,fun b u q n _=>by rw[Zaf (hx b n)];exact n,fun b u q _=>?_,
  fun b xs q=>by rw[Zaf (hm b _ q fun z=>z)];exact q,fun b u xs q=>by rw[Zaf (hm b _ q fun z=>z)];exact q,fun b ps q=>⟨#[],by rw[Zaf (hm b _ q fun z=>z),q];simp⟩⟩
 by_cases hbe:b=e
 ·subst hbe;exact heo
 ·exact⟨u,k b u hbe q⟩
end
def trk (h:Heap)(H:Hp):List Addr:=(List.range h.objs.size).filter fun a=>(H a).isSome
def hidT (h:Heap)(H:Hp):Heap:=PySem.W.hideAll h (trk h H)
theorem Zfc (h:Heap)(H:Hp):(hidT h H).objs.size=h.objs.size:=PySem.W.hideAll_size _ _
theorem Zgt {h:Heap}{H:Hp}{b:Addr}{o:Obj}(e:h.get? b=some o)(n:H b=none):(hidT h H).get? b=some o:=
 PySem.W.hideAll_get _ e fun hm=>by
  have q:(H b).isSome=true:=(YBv.mp hm).2
  rw[n]at q;simp at q
theorem ZhQ {h:Heap}{H:Hp}{b:Addr}{o:Obj}(e:(hidT h H).get? b=some o):h.get? b=some o∧H b=none:=by
 have e':h.get? b=some o:=PySem.W.of_hideAll (trk h H) e
 refine⟨e',?_⟩
 cases q:H b with
 | none=>rfl
 | some x=>
  have hm:b∈trk h H:=YBv.mpr ⟨YAq.mpr (YAG e'),by simp[q]⟩
  have z:(hidT h H).get? b=none:=PySem.W.hideAll_none (trk h H) hm
  rw[z]at e;cases e
def Zlo (g h:Heap)(L:Addr):List (Addr×Obj):=(List.range h.objs.size).filterMap fun a=>if a=L∨(g.get? a).isSome=true then none else (h.get? a).map fun o=>(a,o)
def rest (g h:Heap)(L d:Addr):List (Addr×Obj):=(Zlo g h L).filter fun p=>decide (p.1≠d)
structure Mod (K:PySem.W.Frag)(mg:Str→Option Value)(base:Heap):Prop where
 kin:K.In base
 glob:base.Ns mainGlobals mg
 blt:∃mb,base.Ns builtinsNs mb∧∀x:Str,x≠"__name__"→mb x=bootBuiltins x
 nolimit:base.NoLimit
structure Cx where
 prog:Program
 w:World
 K:PySem.W.Frag
 mg:Str→Option Value
 base:Heap
 A:Around
 N:List Str
 s₀:Shared
 H₀:Hp
 env:Env
 outer:List Env
 stack:List Env
 ex:List Addr
 fn:Str→Bool
 calm:Bool
 pn:List (Addr×Obj)
 xe:Value→Shared→Prop
def frs (l:List Env):List Addr:=l.filterMap (·.frame)
abbrev Cx.fs (X:Cx):List Addr:=frs X.outer
def Vis (sc:Scope)(x:Str):Prop:=sc.names.lookup x=some .local∨sc.names.lookup x=some .cell∨sc.names.lookup x=some .free
def Loc (sc:Scope)(x:Str):Prop:=sc.names.lookup x=some .local∨sc.names.lookup x=some .cell
def Look (env:Env)(h:Heap)(m:Str→Option Value)(x:Str)(u:Value):Prop:=
 (env.kindOf x=some .local∧m x=some u)∨((env.kindOf x=some .cell∨env.kindOf x=some .free)∧∃c,env.cells.lookup x=some c∧h.IsCell c (some u))
structure Cx.Ok (X:Cx):Prop where
 mod:Mod X.K X.mg X.base
 kind:X.env.scope.kind=.function
 glob:X.env.globals=mainGlobals
 blt:X.env.builtins=builtinsNs
 above:X.s₀.heap.objs.size≤X.env.locals
 inj:∀x y c,X.env.cells.lookup x=some c→X.env.cells.lookup y=some c→x=y
 has:∀x,(X.env.kindOf x=some .cell∨X.env.kindOf x=some .free)→∃c,X.env.cells.lookup x=some c
 cab:∀x c,X.fn x=true→X.env.cells.lookup x=some c→X.s₀.heap.objs.size≤c
 hd:X.calm=true→X.A.handled=none
 frames:X.A.frames=some X.stack
 stk:X.stack=X.outer∨(X.stack=X.env::X.outer∧X.env.frame=some X.env.locals)
 exf:∀b∈X.ex,b≠X.env.locals∧∀x c,X.env.cells.lookup x=some c→c≠b
 bs:∀b o,X.base.get? b=some o→X.s₀.heap.get? b=some o∧X.H₀ b=none
 bsz:X.base.objs.size≤X.s₀.heap.objs.size
 noex:∀b o,X.base.get? b=some o→b∉X.ex
 exfs:∀b∈X.ex,b∉X.fs
 funs:X.s₀.heap.FunFrames X.base X.outer
 frf:∀b∈X.fs,X.H₀ b=none
structure Inv (X:Cx)(pins:List (Addr×Obj))(σ:List (Option V))(H:Hp)(s:Shared):Prop where
 ok:X.Ok
 os:s.os=X.s₀.os
 bare:AllBare s.gens
 base:Un X.fs X.ex X.H₀ H X.s₀.heap s.heap
 loc:∃m,s.heap.Ns X.env.locals m∧∀(i:Nat) (x:Str) (v:V),X.N[i]?=some x→σ[i]?=some (some v)→Vis X.env.scope x→∃u,RelV v u∧Look X.env s.heap m x u
 cell:∀x c,X.env.cells.lookup x=some c→∃v,s.heap.IsCell c v
 free:H X.env.locals=none
 freeC:∀x c,X.env.cells.lookup x=some c→H c=none
 pin:∀p∈X.pn++pins,s.heap.get? p.1=some p.2∧H p.1=none∧p.1≠X.env.locals∧p.1∉X.fs∧∀v,p.2.data≠.cell v
 hok:HOk X.prog X.w H s.heap
 len:σ.length=X.N.length
section
variable {X:Cx}{pins:List (Addr×Obj)}{σ:List (Option V)}{H H':Hp}{s:Shared}{h':Heap}
theorem Cx.Ok.nofr (ok:X.Ok){b:Addr}{o:Obj}(e:X.base.get? b=some o):b∉X.fs:=fun hb=>by
 have:=(ok.funs.mem hb).1
 rw[e]at this;cases this
theorem Inv.bs (I:Inv X pins σ H s):∀b o,X.base.get? b=some o→s.heap.get? b=some o∧H b=none:=fun b o e=>
 ⟨I.base.keep b o (I.ok.bs b o e).1 (I.ok.bs b o e).2 (I.ok.nofr e) (I.ok.noex b o e),I.base.free b o (I.ok.bs b o e).1 (I.ok.bs b o e).2 (I.ok.noex b o e)⟩
theorem Inv.bk (I:Inv X pins σ H s):∀b o,X.base.get? b=some o→s.heap.get? b=some o:=fun b o e=>(I.bs b o e).1
theorem Inv.mod (I:Inv X pins σ H s):Mod X.K X.mg X.base:=I.ok.mod
theorem Inv.kIn (I:Inv X pins σ H s):X.K.In s.heap:=I.ok.mod.kin.keeps I.bk
theorem Inv.lt (I:Inv X pins σ H s):X.env.locals<s.heap.objs.size:=let ⟨_,hn,_⟩:=I.loc;hn.lt
theorem Inv.sz (I:Inv X pins σ H s):X.s₀.heap.objs.size≤s.heap.objs.size:=YAQ I.ok.above (YCw I.lt)
theorem Inv.nofs (I:Inv X pins σ H s){a:Addr}(h:s.heap.objs.size≤a):a∉X.fs:=fun hb=>by
 obtain⟨_,o,ho,_⟩:=I.ok.funs.mem hb
 exact absurd (YAi (YAG ho) (YAQ I.sz h)) (YAt _)
theorem Inv.cne (I:Inv X pins σ H s):∀x c,X.env.cells.lookup x=some c→c≠X.env.locals:=fun x c e z=>by
 obtain⟨v,o,ho,hd⟩:=I.cell x c e
 obtain⟨m,⟨o',es,ep,ho',hd',_⟩,_⟩:=I.loc
 rw[z,ho']at ho;cases ho;rw[hd']at hd;cases hd
theorem Inv.funs (I:Inv X pins σ H s):s.heap.FunFrames X.base X.outer:=by
 have all:∀(l:List Env),(∀b∈frs l,b∈X.fs)→X.s₀.heap.FunFrames X.base l→s.heap.FunFrames X.base l:=by
  intro l
  induction l with
  | nil=>intro _ _;trivial
  | cons env r ih=>
   intro hs hl
   obtain⟨hk,⟨L,o,hf,hn,ho,hd⟩,hr⟩:=hl
   have hL:L∈X.fs:=hs L (by unfold frs;rw[YDX,hf];exact YAd)
   obtain⟨sl,e⟩:=I.base.slot L o ho (I.ok.frf L hL) hL fun z=>I.ok.exfs L z hL
   exact⟨hk,⟨L,_,hf,hn,e,hd⟩,ih (fun b hb=>hs b (by unfold frs;rw[YDX,hf];exact YAZ _ hb)) hr⟩
 exact all X.outer (fun _ hb=>hb) I.ok.funs
theorem Inv.stack (I:Inv X pins σ H s):s.heap.FunFrames X.base X.stack:=by
 rcases I.ok.stk with e | ⟨e,hf⟩
 ·rw[e];exact I.funs
 ·rw[e]
  obtain⟨m,hn,_⟩:=I.loc
  refine .cons (by rw[I.ok.kind];decide) hf hn ?_ I.funs
  exact Heap.get?_none_of_le (YAQ I.ok.bsz I.ok.above)
theorem Inv.stkSub (I:Inv X pins σ H s):∀b∈frs X.stack,b∈X.env.locals::X.fs:=fun b hb=>by
 rcases I.ok.stk with e | ⟨e,hf⟩
 ·rw[e]at hb;exact YAZ _ hb
 ·rw[e]at hb
  unfold frs at hb
  rw[YDX,hf]at hb
  exact hb
theorem Inv.stkFree (I:Inv X pins σ H s):∀b∈frs X.stack,H b=none:=fun b hb=>by
 rcases YAM.mp (I.stkSub b hb) with e | hb
 ·rw[e];exact I.free
 ·obtain⟨_,o,ho,_⟩:=I.ok.funs.mem hb
  exact I.base.free b o ho (I.ok.frf b hb) fun z=>I.ok.exfs b z hb
theorem Inv.step {g':Array GenState}{t':Nat}{d':Drawn}{ch:List Addr}(I:Inv X pins σ H s)
  (hch:∀b∈ch,(b∈X.ex∨X.s₀.heap.objs.size≤b)∧b≠X.env.locals∧(∀x c,X.env.cells.lookup x=some c→c≠b)∧∀p∈X.pn++pins,p.1≠b)
  (keep:∀b o,b≠X.env.locals→b∉X.fs→b∉ch→s.heap.get? b=some o→H b=none→h'.get? b=some o)
  (slot:∀b o,b≠X.env.locals→b∈X.fs→b∉ch→s.heap.get? b=some o→H b=none→∃sl,h'.get? b=some { o with slots:=sl }) (free:∀b o,b∉ch→s.heap.get? b=some o→H b=none→H' b=none)
  (there:∀b o,b∉ch→s.heap.get? b=some o→∃o',h'.get? b=some o')
  (tups:∀b xs,H b=some (.tup xs)→H' b=some (.tup xs)) (frzs:∀b o u,H b=some (.frz o u)→H' b=some (.frz o u)) (tbls:∀b ps,H b=some (.tbl ps)→∃more,H' b=some (.tbl (ps++more)))
  (ns:∀m,s.heap.Ns X.env.locals m→h'.Ns X.env.locals m) (hok:HOk X.prog X.w H' h') (hg:AllBare g'):
  Inv X pins σ H' { s with heap:=h',gens:=g',drawn:=d',toks:=t' }:=by
 have neL:∀b o,X.s₀.heap.get? b=some o→b≠X.env.locals:=fun b o e=>YAY (YAi (YAG e) I.ok.above)
 have neC:∀b o,X.s₀.heap.get? b=some o→b∉X.ex→b∉ch:=fun b o e hx hb=>by
  rcases (hch b hb).1 with z | z
  ·exact hx z
  ·exact absurd (YAi (YAG e) z) (YAt _)
 have cellK:∀x c,X.env.cells.lookup x=some c→∀v,s.heap.IsCell c v→h'.IsCell c v:=fun x c e v ⟨o,ho,hd⟩=>by
  have nch:c∉ch:=fun z=>(hch c z).2.2.1 x c e rfl
  by_cases hc:c∈X.fs
  ·obtain⟨sl,q⟩:=slot c o (I.cne x c e) hc nch ho (I.freeC x c e)
   exact⟨_,q,hd⟩
  ·exact⟨o,keep c o (I.cne x c e) hc nch ho (I.freeC x c e),hd⟩
 refine⟨I.ok,I.os,hg,⟨fun b o e n hb hx=>?_,fun b o e n hb hx=>?_,fun b o e n hx=>?_,fun b o e hx=>?_,fun b xs e=>tups b xs (I.base.tups b xs e),fun b o xs e=>frzs b o xs (I.base.frzs b o xs e),fun b ps e=>?_⟩,?_,fun x c e=>?_,?_,fun x c e=>?_,fun p hp=>?_,hok,I.len⟩
 ·exact keep b o (neL b o e) hb (neC b o e hx) (I.base.keep b o e n hb hx) (I.base.free b o e n hx)
 ·obtain⟨sl,e1⟩:=I.base.slot b o e n hb hx
  obtain⟨sl',e2⟩:=slot b _ (neL b o e) hb (neC b o e hx) e1 (I.base.free b o e n hx)
  exact⟨sl',e2⟩
 ·obtain⟨o',e1⟩:=I.base.there b o e hx
  exact free b o' (neC b o e hx) e1 (I.base.free b o e n hx)
 ·obtain⟨o',e1⟩:=I.base.there b o e hx
  exact there b o' (neC b o e hx) e1
 ·obtain⟨m1,e1⟩:=I.base.tbls b ps e
  obtain⟨m2,e2⟩:=tbls b _ e1
  exact⟨m1++m2,by rw[e2,Array.append_assoc]⟩
 ·obtain⟨m,hn,hl⟩:=I.loc
  refine⟨m,ns m hn,fun i x v e1 e2 e3=>?_⟩
  obtain⟨u,r,l⟩:=hl i x v e1 e2 e3
  refine⟨u,r,?_⟩
  rcases l with l | ⟨k,c,e,z⟩
  ·exact .inl l
  ·exact .inr ⟨k,c,e,cellK x c e _ z⟩
 ·obtain⟨v,z⟩:=I.cell x c e
  exact⟨v,cellK x c e v z⟩
 ·obtain⟨m,⟨o,_,_,ho,_⟩,_⟩:=I.loc
  exact free _ o (fun z=>(hch _ z).2.1 rfl) ho I.free
 ·obtain⟨v,o,ho,hd⟩:=I.cell x c e
  exact free c o (fun z=>(hch c z).2.2.1 x c e rfl) ho (I.freeC x c e)
 ·obtain⟨e,n,ne,nf,d⟩:=I.pin p hp
  have nch:p.1∉ch:=fun z=>(hch p.1 z).2.2.2 p hp rfl
  exact⟨keep p.1 p.2 ne nf nch e n,free p.1 p.2 nch e n,ne,nf,d⟩
theorem Inv.un {t':Nat}(I:Inv X pins σ H s)(u:Un X.fs [] H H' s.heap h')(hok:HOk X.prog X.w H' h'):Inv X pins σ H' { s with heap:=h',toks:=t' }:=by
 obtain⟨m,⟨o,es,ep,ho,r⟩,_⟩:=id I.loc
 obtain⟨sl,hL⟩:=u.any ho I.free (by simp)
 exact I.step (g':=s.gens) (d':=s.drawn) (ch:=[]) (fun _ z=>nomatch z) (fun b o _ hb _ e n=>u.keep b o e n hb (by simp)) (fun b o _ hb _ e n=>u.slot b o e n hb (by simp)) (fun b o _ e n=>u.free b o e n (by simp)) (fun b o _ e=>u.there b o e (by simp)) u.tups u.frzs u.tbls (fun m' hm=>by
  obtain⟨o',es',ep',ho',r'⟩:=hm
  rw[ho]at ho';cases ho'
  exact⟨_,es',ep',hL,r'⟩) hok I.bare
theorem Inv.call {g':Array GenState}{t':Nat}{d':Drawn}{ch:List Addr}(I:Inv X pins σ H s)(u:Un (frs X.stack) ch H H' s.heap h')(hok:HOk X.prog X.w H' h')(hg:AllBare g')
  (hch:∀b∈ch,(b∈X.ex∨X.s₀.heap.objs.size≤b)∧b≠X.env.locals∧(∀x c,X.env.cells.lookup x=some c→c≠b)∧∀p∈X.pn++pins,p.1≠b):
  Inv X pins σ H' { s with heap:=h',gens:=g',drawn:=d',toks:=t' }:=by
 obtain⟨m,⟨o,es,ep,ho,r⟩,_⟩:=id I.loc
 obtain⟨sl,hL⟩:=u.any ho I.free fun z=>(hch _ z).2.1 rfl
 exact I.step (ch:=ch) hch (fun b o hL hb hc e n=>u.keep b o e n (fun z=>(YAM.mp (I.stkSub b z)).elim hL hb) hc) (fun b o _ _ hc e n=>u.any e n hc) (fun b o hc e n=>u.free b o e n hc) (fun b o hc e=>u.there b o e hc) u.tups u.frzs u.tbls (fun m' hm=>by
  obtain⟨o',es',ep',ho',r'⟩:=hm
  rw[ho]at ho';cases ho'
  exact⟨_,es',ep',hL,r'⟩) hok hg
theorem Inv.turned {t':Nat}{it:Addr}(I:Inv X pins σ H s)(k:∀b o,b≠it→s.heap.get? b=some o→h'.get? b=some o)(hn:H it=none)(hL:it≠X.env.locals)
  (h1:it∈X.ex∨X.s₀.heap.objs.size≤it) (h2:∀x c,X.env.cells.lookup x=some c→c≠it) (h3:∀p∈X.pn++pins,p.1≠it):Inv X pins σ H { s with heap:=h',toks:=t' }:=by
 have nit:∀b u,H b=some u→b≠it:=fun b u e z=>by rw[z,hn]at e;cases e
 refine I.step (g':=s.gens) (d':=s.drawn) (ch:=[it]) (fun b hb=>?_) (fun b o _ _ hc e _=>k b o (fun z=>hc (by simp[z])) e) (fun b o _ _ hc e _=>⟨o.slots,k b o (fun z=>hc (by simp[z])) e⟩) (fun _ _ _ _ n=>n)
  (fun b o hc e=>⟨o,k b o (fun z=>hc (by simp[z])) e⟩) (fun _ _ e=>e) (fun _ _ _ e=>e) (fun b ps e=>⟨#[],by rw[e];simp⟩) (fun m hm=>?_) (fun b u e=>?_) I.bare
 ·have e:b=it:=by simpa using hb
  subst e
  exact⟨h1,hL,h2,h3⟩
 ·obtain⟨o,es,ep,ho,r⟩:=hm
  exact⟨o,es,ep,k _ o (YAw hL) ho,r⟩
 ·refine(I.hok b u e).stay (fun c v hc q=>k c v ?_ q) (fun _ q=>q) fun _ _ q=>q
  rcases hc with z | z
  ·rw[z];exact nit b u e
  ·exact nit c _ z
theorem Inv.tok (I:Inv X pins σ H s)(t:Nat):Inv X pins σ H { s with toks:=t }:=I.un (h':=s.heap) (t':=t) Un.refl I.hok
theorem Inv.kept {t':Nat}(I:Inv X pins σ H s)(k:∀b u,s.heap.get? b=some u→h'.get? b=some u):Inv X pins σ H { s with heap:=h',toks:=t' }:=I.un (Un.kept k) (I.hok.kept k)
theorem Inv.laid {a:Addr}{o:HO}{t':Nat}(I:Inv X pins σ H s)(k:∀b u,s.heap.get? b=some u→h'.get? b=some u)(hp:s.heap.objs.size≤a)(new:ObjOk X.prog X.w (upd H a o) h' a o):
  Inv X pins σ (upd H a o) { s with heap:=h',toks:=t' }:=I.un (Un.laid k hp (I.hok.fresh hp)) (I.hok.laid k hp new)
theorem Inv.write {x e:Addr}{o:HO}{t':Nat}(I:Inv X pins σ H s)(mu:Mut (H x))(he:e=x∨H e=some (.own x))(k:∀b u,b≠e→s.heap.get? b=some u→h'.get? b=some u)(heo:∃u,h'.get? e=some u)
  (new:ObjOk X.prog X.w (upd H x o) h' x o):Inv X pins σ (upd H x o) { s with heap:=h',toks:=t' }:=I.un (Un.write mu he k heo) (I.hok.write mu he k heo new)
theorem Inv.pins_of {pins':List (Addr×Obj)}(I:Inv X pins σ H s)(h:∀p∈pins',s.heap.get? p.1=some p.2∧H p.1=none∧p.1≠X.env.locals∧p.1∉X.fs∧∀v,p.2.data≠.cell v):Inv X pins' σ H s:=
 ⟨I.ok,I.os,I.bare,I.base,I.loc,I.cell,I.free,I.freeC,fun p hp=>(YAf.mp hp).elim (fun z=>I.pin p (YDK _ z)) (h p),I.hok,I.len⟩
theorem Zec {N:List Str}(hN:N.Nodup){i j:Nat}{x:Str}(a:N[i]?=some x)(b:N[j]?=some x):i=j:=by
 obtain⟨h1,e1⟩:=YAW.mp a
 obtain⟨h2,e2⟩:=YAW.mp b
 exact(List.getElem_inj hN).mp (e1.trans e2.symm)
theorem ZeE {M:Model}{A:Around}{E:Value→Shared→Prop}{i:Nat}{x:Str}{v:V}{u:Value}{Q:Unit→Shared→Prop}(I:Inv X pins σ H s)(hN:X.N.Nodup)(hi:X.N[i]?=some x)(hx:Loc X.env.scope x)(r:RelV v u)
  (h:∀s',Inv X pins (σ.set i (some v)) H s'→(∃a,Heap.SameBut a s.heap s'.heap∧(a=X.env.locals∨X.env.cells.lookup x=some a))→Q () s') (hf:X.fn x=true∨X.env.scope.names.lookup x=some .local:=by first | exact .inl rfl | exact .inr rfl | assumption):wpAny M A (storeName X.env x u) Q E s:=by
 obtain⟨m,hn,hl⟩:=id I.loc
 have hcls:(X.env.scope.kind == .class || (X.env.scope.kind == .module&&X.env.locals != X.env.globals))=false:=by rw[I.ok.kind];rfl
 have hiσ:i<σ.length:=by rw[I.len];exact(YAW.mp hi).1
 have cne:=I.cne
 have tracked:∀ {a:Addr} {h':Heap},(∃o,s.heap.get? a=some o∧H a=none)→Heap.SameBut a s.heap h'→HOk X.prog X.w H h':=fun {a h'} ha hs b ob e=>by
  obtain⟨_,_,hfree⟩:=ha
  refine(I.hok b ob e).stay (fun c w' hc q=>(hs.2 c ?_).trans q) (fun _ q=>q) fun _ _ q=>q
  rintro rfl
  rcases hc with rfl | hc
  ·rw[hfree]at e;cases e
  ·rw[hfree]at hc;cases hc
 rcases hx with hk | hk
 ·refine wpAny_storeName_local hk hn (fun h' hn' hs=>?_) hcls
  obtain⟨oL,_,_,hoL,_⟩:=id hn
  refine h _ ⟨I.ok,I.os,I.bare,⟨fun b o e n hb hx=>?_,fun b o e n hb hx=>?_,I.base.free,fun b o e hx=>?_,I.base.tups,I.base.frzs,I.base.tbls⟩,⟨_,hn',fun j y v' e1 e2 e3=>?_⟩,fun y c e=>?_,I.free,I.freeC,fun p hp=>?_,tracked ⟨oL,hoL,I.free⟩ hs,by simpa using I.len⟩ ⟨_,hs,.inl rfl⟩
  ·exact(hs.2 b (YAY (YAi (YAG e) I.ok.above))).trans (I.base.keep b o e n hb hx)
  ·obtain⟨sl,e1⟩:=I.base.slot b o e n hb hx
   exact⟨sl,(hs.2 b (YAY (YAi (YAG e) I.ok.above))).trans e1⟩
  ·obtain⟨o',e1⟩:=I.base.there b o e hx
   exact⟨o',(hs.2 b (YAY (YAi (YAG e) I.ok.above))).trans e1⟩
  ·by_cases hj:j=i
   ·subst hj
    rw[hi]at e1;cases e1
    rw[List.getElem?_set_self hiσ]at e2
    cases e2
    exact⟨u,r,.inl ⟨hk,by simp⟩⟩
   ·rw[List.getElem?_set_ne (YAw hj)]at e2
    obtain⟨u',r',q⟩:=hl j y v' e1 e2 e3
    refine⟨u',r',?_⟩
    rcases q with⟨k,e⟩|⟨k,c,e,z⟩
    ·refine .inl ⟨k,?_⟩
     have:y≠x:=fun e=>hj (Zec hN e1 (e▸hi))
     simp[this,e]
    ·exact .inr ⟨k,c,e,z.sameBut hs (cne y c e)⟩
  ·obtain⟨w',z⟩:=I.cell y c e
   exact⟨w',z.sameBut hs (cne y c e)⟩
  ·obtain⟨e,n,ne,nf,d⟩:=I.pin p hp
   exact⟨(hs.2 p.1 ne).trans e,n,ne,nf,d⟩
 ·have hfn:X.fn x=true:=by
   rcases hf with z | z
   ·exact z
   ·rw[z]at hk;cases hk
  obtain⟨c,hc⟩:=I.ok.has x (.inl hk)
  obtain⟨w',z⟩:=I.cell x c hc
  refine wpAny_storeName_cell I.ok.kind hk hc z (fun h' hc' hs=>?_)
  obtain⟨oc,hoc,hocd⟩:=id z
  refine h { s with heap:=h' } ⟨I.ok,I.os,I.bare,⟨fun b o e n hb hx=>?_,fun b o e n hb hx=>?_,I.base.free,fun b o e hx=>?_,I.base.tups,I.base.frzs,I.base.tbls⟩,⟨m,hn.sameBut hs (YAw (cne x c hc)),fun j y v' e1 e2 e3=>?_⟩,fun y c' e=>?_,I.free,I.freeC,fun p hp=>?_,tracked ⟨oc,hoc,I.freeC x c hc⟩ hs,by simpa using I.len⟩ ⟨c,hs,.inr hc⟩
  ·exact(hs.2 b (YAY (YAi (YAG e) (I.ok.cab x c hfn hc)))).trans (I.base.keep b o e n hb hx)
  ·obtain⟨sl,e1⟩:=I.base.slot b o e n hb hx
   exact⟨sl,(hs.2 b (YAY (YAi (YAG e) (I.ok.cab x c hfn hc)))).trans e1⟩
  ·obtain⟨o',e1⟩:=I.base.there b o e hx
   exact⟨o',(hs.2 b (YAY (YAi (YAG e) (I.ok.cab x c hfn hc)))).trans e1⟩
  ·by_cases hj:j=i
   ·subst hj
    rw[hi]at e1;cases e1
    rw[List.getElem?_set_self hiσ]at e2
    cases e2
    exact⟨u,r,.inr ⟨.inl hk,c,hc,hc'⟩⟩
   ·rw[List.getElem?_set_ne (YAw hj)]at e2
    obtain⟨u',r',q⟩:=hl j y v' e1 e2 e3
    refine⟨u',r',?_⟩
    rcases q with q | ⟨k,c',e,z'⟩
    ·exact .inl q
    ·refine .inr ⟨k,c',e,z'.sameBut hs ?_⟩
     rintro rfl
     exact hj (Zec hN e1 (I.ok.inj _ _ _ e hc▸hi))
  ·by_cases hcc:c'=c
   ·subst hcc;exact⟨_,hc'⟩
   ·obtain⟨w2,z2⟩:=I.cell y c' e
    exact⟨w2,z2.sameBut hs hcc⟩
  ·obtain⟨e,n,ne,nf,d⟩:=I.pin p hp
   refine⟨(hs.2 p.1 ?_).trans e,n,ne,nf,d⟩
   intro q
   rw[q,hoc]at e
   have q':oc=p.2:=Option.some.inj e
   exact d w' (by rw[←q'];exact hocd)
theorem ZcU {M:Model}{A:Around}{E:Value→Shared→Prop}{i:Nat}{x:Str}{v:V}{u:Value}{Q:Unit→Shared→Prop}(I:Inv X pins σ H s)(hN:X.N.Nodup)(hi:X.N[i]?=some x)(hx:Loc X.env.scope x)(r:RelV v u)
  (h:∀s',Inv X pins (σ.set i (some v)) H s'→Q () s') (hf:X.fn x=true∨X.env.scope.names.lookup x=some .local:=by first | exact .inl rfl | exact .inr rfl | assumption):wpAny M A (storeName X.env x u) Q E s:=
 ZeE I hN hi hx r (fun s' I' _=>h s' I') hf
theorem Inv.call' {s':Shared}{ch:List Addr}(I:Inv X pins σ H s)(ho:s'.os=s.os)(u:Un (frs X.stack) ch H H' s.heap s'.heap)(hok:HOk X.prog X.w H' s'.heap)(hg:AllBare s'.gens)
  (hch:∀b∈ch,(b∈X.ex∨X.s₀.heap.objs.size≤b)∧b≠X.env.locals∧(∀x c,X.env.cells.lookup x=some c→c≠b)∧∀p∈X.pn++pins,p.1≠b):Inv X pins σ H' s':=by
 obtain⟨h',g',d',t',o'⟩:=s'
 have e:o'=s.os:=ho
 subst e
 exact I.call (g':=g') (t':=t') (d':=d') u hok hg hch
end
abbrev XK:=Value→Option Addr→Hp→Prop
abbrev St:=List (Option V)
abbrev VK:=V→Hp→Prop
abbrev TE:=St→Hp→VK→Prop
abbrev TT:=St→Hp→(Bool→Hp→Prop)→Prop
abbrev TA:=St→Hp→(List V→Hp→Prop)→Prop
structure Ends where
 nx:St→Hp→Prop
 rt:VK
 bk:St→Hp→Prop:=fun _ _=>False
 ct:St→Hp→Prop:=fun _ _=>False
abbrev TS:=Ends→St→Hp→Prop
def EP (X:Cx)(pins:List (Addr×Obj))(σ:St)(Q:VK)(u:Value)(s':Shared):Prop:=∃v H',Inv X pins σ H' s'∧RelV v u∧Q v H'
def TP (X:Cx)(pins:List (Addr×Obj))(σ:St)(Q:Bool→Hp→Prop)(b:Bool)(s':Shared):Prop:=∃H',Inv X pins σ H' s'∧Q b H'
def AP (X:Cx)(pins:List (Addr×Obj))(σ:St)(Q:List V→Hp→Prop)(us:List Value)(s':Shared):Prop:=∃vs H',Inv X pins σ H' s'∧Vals vs us∧Q vs H'
def SP (X:Cx)(pins:List (Addr×Obj))(D:Ends)(f:Flow)(s':Shared):Prop:=
 match f with
 | .next=>∃σ' H',Inv X pins σ' H' s'∧D.nx σ' H'
 | .brk=>∃σ' H',Inv X pins σ' H' s'∧D.bk σ' H'
 | .cont=>∃σ' H',Inv X pins σ' H' s'∧D.ct σ' H'
 | .ret u=>∃v σ' H',Inv X pins σ' H' s'∧RelV v u∧D.rt v H'
def PE (X:Cx)(e:Expr)(t:TE):Prop:=
 ∀(pins:List (Addr×Obj)) (s:Shared) (σ:St) (H:Hp) (Q:VK),Inv X pins σ H s→t σ H Q→wpAny (model X.prog X.w) X.A (eval e X.env) (EP X pins σ Q) X.xe s
def PT (X:Cx)(e:Expr)(t:TT):Prop:=
 ∀(pins:List (Addr×Obj)) (s:Shared) (σ:St) (H:Hp) (Q:Bool→Hp→Prop),Inv X pins σ H s→t σ H Q→wpAny (model X.prog X.w) X.A (isTrue e X.env (eval e X.env)) (TP X pins σ Q) X.xe s
def PW (X:Cx)(e:Expr)(t:TT):Prop:=
 ∀(whole:Sem Value) (pins:List (Addr×Obj)) (s:Shared) (σ:St) (H:Hp) (Q:Bool→Hp→Prop),Inv X pins σ H s→t σ H Q→wpAny (model X.prog X.w) X.A (isTrue e X.env whole) (TP X pins σ Q) X.xe s
theorem PW.pt {X:Cx}{e:Expr}{t:TT}(h:PW X e t):PT X e t:=h _
def PA (X:Cx)(es:List Expr)(t:TA):Prop:=
 ∀(pos:Pos) (pins:List (Addr×Obj)) (s:Shared) (σ:St) (H:Hp) (Q:List V→Hp→Prop),Inv X pins σ H s→t σ H Q→wpAny (model X.prog X.w) X.A (spliced (backTo pos (starEach es X.env))) (AP X pins σ Q) X.xe s
def PS (X:Cx)(st:Stmt)(t:TS):Prop:=
 ∀(pins:List (Addr×Obj)) (s:Shared) (σ:St) (H:Hp) (D:Ends),Inv X pins σ H s→t D σ H→wpAny (model X.prog X.w) X.A (exec st X.env) (SP X pins D) X.xe s
def PSs (X:Cx)(st:List Stmt)(t:TS):Prop:=
 ∀(pins:List (Addr×Obj)) (s:Shared) (σ:St) (H:Hp) (D:Ends),Inv X pins σ H s→t D σ H→wpAny (model X.prog X.w) X.A (execs st X.env) (SP X pins D) X.xe s
theorem thn {α:Type}{t:Sem α}{Q Q':α→Shared→Prop}{M:Model}{A:Around}{E:Value→Shared→Prop}{s:Shared}(h:wpAny M A t Q E s)(hQ:∀a s,Q a s→Q' a s):wpAny M A t Q' E s:=YBB h hQ fun _ _ x=>x
section
variable {X:Cx}
theorem bin {a b:Expr}{ta tb:TE}(ha:PE X a ta)(hb:PE X b tb){pins:List (Addr×Obj)}{s:Shared}{σ:St}{H:Hp}{R:V→V→Hp→Prop}(I:Inv X pins σ H s)(h:ta σ H fun x H1=>tb σ H1 fun y H2=>R x y H2)
  {α:Type} {Q:α→Shared→Prop} {f:Value→Value→Sem α}
  (hf:∀v u s2 x y H2,Inv X pins σ H2 s2→RelV x v→RelV y u→R x y H2→wpAny (model X.prog X.w) X.A (f v u) Q X.xe s2):
  wpAny (model X.prog X.w) X.A (eval a X.env) (fun v s₁=>wpAny (model X.prog X.w) X.A (eval b X.env) (fun u s₂=>wpAny (model X.prog X.w) X.A (f v u) Q X.xe s₂) X.xe s₁) X.xe s:=by
 refine thn (ha pins s σ H _ I h) fun v s1 ⟨x,H1,I1,r1,q1⟩=>?_
 refine thn (hb pins s1 σ H1 _ I1 q1) fun u s2 ⟨y,H2,I2,r2,q2⟩=>?_
 exact hf v u s2 x y H2 I2 r1 r2 q2
def tVar (i:Nat):TE:=fun σ H Q=>∃v,σ[i]?=some (some v)∧Q v H
def tC (v:V):TE:=fun _ H Q=>Q v H
theorem Zl7 {i:Nat} {x:Str} {pos:Pos} (hN:X.N[i]?=some x) (hv:Vis X.env.scope x) (hd:(x == ("__debug__":Str))=false:=by decide) (hcd:(x == ("__classdict__":Str))=false:=by decide):PE X (.Name x pos) (tVar i):=by
 intro pins s σ H Q I h
 obtain⟨v,e,h⟩:=h
 obtain⟨m,hn,hl⟩:=I.loc
 obtain⟨u,r,l⟩:=hl i x v hN e hv
 have fin:EP X pins σ Q u s:=⟨v,H,I,r,h⟩
 rcases l with⟨hk,hm⟩|⟨hk,c,hc,hcell⟩
 ·exact wpAny_Name (wpAny_loadName_local I.ok.kind hk hn hm fin) hd
 ·rcases hk with hk | hk
  ·exact wpAny_Name (wpAny_loadName_cell I.ok.kind hk hc hcell fin) hd
  ·exact wpAny_Name (wpAny_loadName_free I.ok.kind hk hc hcell fin hcd) hd
theorem Zak {i j pos}:PE X (.Constant (.int i) j pos) (tC (.int i)):=fun _ _ _ H _ I h=>wpAny_Constant_int ⟨.int i,H,I.tok _,⟨_,rfl⟩,h⟩
theorem Zbv {b j pos}:PE X (.Constant (.bool b) j pos) (tC (.bl b)):=fun _ _ _ H _ I h=>Constant_bool ⟨.bl b,H,I,rfl,h⟩
theorem ZdQ {j pos}:PE X (.Constant .none j pos) (tC .non):=fun _ _ _ H _ I h=>Constant_none ⟨.non,H,I,rfl,h⟩
theorem Zl8 {x j pos}:PE X (.Constant (.str x) j pos) (tC (.str x)):=fun _ _ _ H _ I h=>Calls.Constant_str ⟨.str x,H,I.tok _,⟨_,rfl⟩,h⟩
def Gl (X:Cx)(x:Str):Prop:=X.env.kindOf x=some .globalImplicit
theorem ZbG {E:Value→Shared→Prop}{pins:List (Addr×Obj)}{s:Shared}{σ:St}{H:Hp}{x:Str}{u:Value}{pos:Pos}{Q:Value→Shared→Prop}(I:Inv X pins σ H s)(hg:Gl X x)(hm:X.mg x=some u)(h:Q u s)
  (hd:(x == ("__debug__":Str))=false:=by decide):wpAny (model X.prog X.w) X.A (eval (.Name x pos) X.env) Q E s:=
 Calls.Name_function_global I.ok.kind hg (Calls.loadGlobal_global (by rw[I.ok.glob];exact I.mod.glob.keeps I.bk) hm h) hd
theorem ZcL {E:Value→Shared→Prop}{pins:List (Addr×Obj)}{s:Shared}{σ:St}{H:Hp}{x:Str}{u:Value}{pos:Pos}{Q:Value→Shared→Prop}(I:Inv X pins σ H s)(hg:Gl X x)(hm:X.mg x=none)(hv:bootBuiltins x=some u)(h:Q u s)
  (hn:x≠"__name__":=by decide) (hd:(x == ("__debug__":Str))=false:=by decide):wpAny (model X.prog X.w) X.A (eval (.Name x pos) X.env) Q E s:=by
 obtain⟨mb,h1,h2⟩:=I.mod.blt
 exact Calls.Name_function_global I.ok.kind hg (Calls.loadGlobal_builtin (by rw[I.ok.glob];exact I.mod.glob.keeps I.bk) hm (by rw[I.ok.blt];exact h1.keeps I.bk) ((h2 x hn).trans hv) h) hd
theorem ZcB {x:Str} {v:V} {u:Value} {pos:Pos} (hg:Gl X x) (hm:X.mg x=some u) (r:RelV v u) (hd:(x == ("__debug__":Str))=false:=by decide):PE X (.Name x pos) (tC v):=
 fun _ _ _ H _ I h=>ZbG I hg hm ⟨v,H,I,r,h⟩ hd
theorem Zaz {x:Str} {v:V} {u:Value} {pos:Pos} (hg:Gl X x) (hm:X.mg x=none) (hv:bootBuiltins x=some u) (r:RelV v u) (hn:x≠"__name__":=by decide) (hd:(x == ("__debug__":Str))=false:=by decide):PE X (.Name x pos) (tC v):=
 fun _ _ _ H _ I h=>ZcL I hg hm hv ⟨v,H,I,r,h⟩ hn hd
variable {a b:Expr}{ta tb:TE}{pos:Pos}
def PC (X:Cx)(op:CmpOp)(a b:Expr)(t:TE):Prop:=
 ∀(pins:List (Addr×Obj)) (s:Shared) (σ:St) (H:Hp) (Q:VK),Inv X pins σ H s→t σ H Q →
  wpAny (model X.prog X.w) X.A (eval a X.env) (fun v s₁=>wpAny (model X.prog X.w) X.A (eval b X.env) (fun u s₂=>wpAny (model X.prog X.w) X.A (compareOp op v u) (EP X pins σ Q) X.xe s₂) X.xe s₁) X.xe s
theorem Zi6 (b:Expr){op:CmpOp}(h:op≠.In)(h2:op≠.NotIn):behindInMarks op b=false:=by
 have e1:(op == CmpOp.In)=false:=by cases op<;>first | rfl | exact absurd rfl h
 have e2:(op == CmpOp.NotIn)=false:=by cases op<;>first | rfl | exact absurd rfl h2
 cases b<;>simp[behindInMarks,e1,e2]
def tB (t:TE):TT:=fun σ H Q=>t σ H fun x H1=>∃c,x=.bl c∧Q c H1
theorem Zpf {op:CmpOp}{t:TE}(h:PC X op a b t)(h1:behindInMarks op b=false:=by first | exact Zi6 _ (by decide) (by decide) | rfl):PT X (.Compare a [op] [b] pos) (tB t):=by
 intro pins s σ H Q I hw
 refine wpAny_isTrue_Compare1 (thn (h pins s σ H _ I hw) fun v s1 h1=>thn h1 fun u s2 h2=>thn h2 fun c s3 ⟨x,H1,I1,r1,q1⟩=>?_) h1
 obtain⟨d,rfl,q⟩:=q1
 cases r1
 exact YBs ⟨H1,I1,q⟩
theorem ZaZ {e:Expr}{t:TE}(h:PE X e t)(he:∀whole,isTrue e X.env whole=(do let v ←whole;standAt e.pos;holding [v] (truthy v)):=by intro _;rfl):PT X e (tB t):=by
 intro pins s σ H Q I hw
 refine isTrue_plain (thn (h pins s σ H _ I hw) fun v s1 ⟨x,H1,I1,r1,q1⟩=>?_) (he _)
 obtain⟨d,rfl,q⟩:=q1
 cases r1
 exact YBs ⟨H1,I1,q⟩
variable {tA tB':TT}{rest:List Expr}
def tAnd (t u:TT):TT:=fun σ H Q=>t σ H fun c H1=>if c=true then u σ H1 Q else Q false H1
def tOr (t u:TT):TT:=fun σ H Q=>t σ H fun c H1=>if c=true then Q true H1 else u σ H1 Q
def tNot (t:TT):TT:=fun σ H Q=>t σ H fun c H1=>Q (!c) H1
theorem ZhC (ha:PT X a tA):PW X (.BoolOp .And [a] pos) tA:=by
 intro wh pins s σ H Q I h
 refine isTrue_and (thn (ha pins s σ H Q I h) fun c s1 e=>?_)
 cases c with
 | true=>exact isTrue_and_nil e
 | false=>exact e
theorem ZdO (ha:PT X a tA):PW X (.BoolOp .Or [a] pos) tA:=by
 intro wh pins s σ H Q I h
 refine isTrue_or (thn (ha pins s σ H Q I h) fun c s1 e=>?_)
 cases c with
 | false=>exact isTrue_or_nil e
 | true=>exact e
theorem ZjN (ha:PT X a tA)(hb:PW X (.BoolOp .And (b::rest) pos) tB'):PW X (.BoolOp .And (a::b::rest) pos) (tAnd tA tB'):=by
 intro wh pins s σ H Q I h
 refine isTrue_and (thn (ha pins s σ H _ I h) fun c s1 ⟨H1,I1,q1⟩=>?_)
 cases c with
 | true=>exact hb wh pins s1 σ H1 Q I1 q1
 | false=>exact⟨H1,I1,q1⟩
theorem ZgO (ha:PT X a tA)(hb:PW X (.BoolOp .Or (b::rest) pos) tB'):PW X (.BoolOp .Or (a::b::rest) pos) (tOr tA tB'):=by
 intro wh pins s σ H Q I h
 refine isTrue_or (thn (ha pins s σ H _ I h) fun c s1 ⟨H1,I1,q1⟩=>?_)
 cases c with
 | true=>exact⟨H1,I1,q1⟩
 | false=>exact hb wh pins s1 σ H1 Q I1 q1
theorem Zbg (ha:PT X a tA):PT X (.UnaryOp .Not a pos) (tNot tA):=by
 intro pins s σ H Q I h
 exact isTrue_not (ha pins s σ H (fun c H1=>Q (!c) H1) I h)
def ZlJ (ta tb:TE):TE:=fun σ H Q=>ta σ H fun x H1=>∃c,x=.bl c∧if c=true then tb σ H1 Q else Q (.bl false) H1
def tOrV (ta tb:TE):TE:=fun σ H Q=>ta σ H fun x H1=>∃c,x=.bl c∧if c=true then Q (.bl true) H1 else tb σ H1 Q
def Zny (ta:TE):TE:=fun σ H Q=>ta σ H fun x H1=>∃c,x=.bl c∧Q (.bl (!c)) H1
theorem ZbP {op}{t:TE}(h:PE X a t):PE X (.BoolOp op [a] pos) t:=fun pins s σ H Q I hw=>BoolOp_one (h pins s σ H Q I hw)
theorem Zbn (ha:PE X a ta)(hb:PE X (.BoolOp .And (b::rest) pos) tb):PE X (.BoolOp .And (a::b::rest) pos) (ZlJ ta tb):=by
 intro pins s σ H Q I h
 refine BoolOp_and (thn (ha pins s σ H _ I h) fun v s1 ⟨x,H1,I1,r1,q1⟩=>?_)
 obtain⟨c,rfl,q1⟩:=q1
 cases r1
 refine YBs ?_
 cases c with
 | true=>exact hb pins s1 σ H1 Q I1 q1
 | false=>exact⟨.bl false,H1,I1,rfl,q1⟩
def tIf (t:TT)(ta tb:TE):TE:=fun σ H Q=>t σ H fun c H1=>if c=true then ta σ H1 Q else tb σ H1 Q
end
def SqL (K:PySem.W.Frag)(H:Hp)(a:Addr)(xs:List V):Prop:=
 Rd H a (.lst xs) ∨
  ∃(o:Obj) (its:Array Value) (n:Nat),K.lookup a=some o∧o.cls=.type "list"∧o.dict=none∧o.data=.seq its n∧its.size≤sizeLine∧Vals xs its.toList
def SqT (K:PySem.W.Frag)(H:Hp)(a:Addr)(xs:List V):Prop:=
 Rd H a (.tup xs) ∨
  ∃(o:Obj) (its:Array Value) (n:Nat),K.lookup a=some o∧o.cls=.type "tuple"∧o.data=.seq its n∧its.size≤sizeLine∧Vals xs its.toList
def absV:Value→Option V
 | .none=>some .non
 | .bool b=>some (.bl b)
 | .int i _=>some (.int i)
 | .str x _=>some (.str x)
 | .bytes b _=>some (.byt b)
 | .float b _=>some (.flt b)
 | .ref a=>some (.ref a)
 | .type n=>some (.ty n)
 | _=>none
theorem RelV.abs {x:V}{u:Value}(r:RelV x u):absV u=some x:=by
 cases x with
 | non=>cases r;rfl
 | bl _=>cases r;rfl
 | int _=>obtain⟨t,rfl⟩:=r;rfl
 | str _=>obtain⟨t,rfl⟩:=r;rfl
 | byt _=>obtain⟨t,rfl⟩:=r;rfl
 | flt _=>obtain⟨t,rfl⟩:=r;rfl
 | ref _=>cases r;rfl
 | ty _=>cases r;rfl
theorem RelV.inj {x y:V}{u:Value}(r:RelV x u)(q:RelV y u):x=y:=Option.some.inj (r.abs.symm.trans q.abs)
theorem Vals.inj:∀ {xs ys:List V} {us:List Value},Vals xs us→Vals ys us→xs=ys
 | _,_,_,.nil,.nil=>rfl
 | _,_,_,.cons r t,.cons r' t'=>by rw[r.inj r',Vals.inj t t']
section
variable {X:Cx}{pins:List (Addr×Obj)}{σ:St}{H:Hp}{s:Shared}{a:Addr}{xs ys:List V}
theorem Inv.list (I:Inv X pins σ H s)(h:SqL X.K H a xs):∃its:List Value,Vals xs its∧PlainL s.heap a its.toArray∧xs.length≤sizeLine:=by
 rcases h with h | ⟨o,its,n,hk,hc,hd,hs,hz,r⟩
 ·obtain⟨z,its,n,r,e⟩:=h.ok I.hok
  exact⟨its,r,⟨_,n,e,rfl,rfl,rfl⟩,z⟩
 ·refine⟨its.toList,r,⟨o,n,I.kIn a o hk,hc,hd,by simpa using hs⟩,?_⟩
  have e:=r.length
  simp only[YAN]at e
  omega
theorem Inv.tuple (I:Inv X pins σ H s)(h:SqT X.K H a xs):∃its:List Value,Vals xs its∧IsTup s.heap a its.toArray∧xs.length≤sizeLine:=by
 rcases h with h | ⟨o,its,n,hk,hc,hs,hz,r⟩
 ·obtain⟨z,its,r,p⟩:=h.ok I.hok
  exact⟨its,r,p,z⟩
 ·refine⟨its.toList,r,⟨o,I.kIn a o hk,hc,n,by simpa using hs⟩,?_⟩
  have e:=r.length
  simp only[YAN]at e
  omega
theorem Inv.list_inj (I:Inv X pins σ H s)(h:SqL X.K H a xs)(h':SqL X.K H a ys):xs=ys:=by
 obtain⟨its,r,⟨o,n,e,_,_,d⟩,_⟩:=I.list h
 obtain⟨its',r',⟨o',n',e',_,_,d'⟩,_⟩:=I.list h'
 rw[e]at e';cases e'
 rw[d]at d'
 injection d' with d1 _
 have:its=its':=by simpa using congrArg Array.toList d1
 subst this
 exact r.inj r'
theorem Inv.tuple_inj (I:Inv X pins σ H s)(h:SqT X.K H a xs)(h':SqT X.K H a ys):xs=ys:=by
 obtain⟨its,r,⟨o,e,_,n,d⟩,_⟩:=I.tuple h
 obtain⟨its',r',⟨o',e',_,n',d'⟩,_⟩:=I.tuple h'
 rw[e]at e';cases e'
 rw[d]at d'
 injection d' with d1 _
 have:its=its':=by simpa using congrArg Array.toList d1
 subst this
 exact r.inj r'
end
abbrev Cx.wish (X:Cx)(E:Value→Shared→Prop):Cx:={ X with xe:=E }
abbrev Cx.nox (X:Cx):Cx:=X.wish fun _ _=>False
theorem Cx.Ok.wish {X:Cx}(ok:X.Ok)(E:Value→Shared→Prop):(X.wish E).Ok:=
 ⟨ok.mod,ok.kind,ok.glob,ok.blt,ok.above,ok.inj,ok.has,ok.cab,ok.hd,ok.frames,ok.stk,ok.exf,ok.bs,ok.bsz,ok.noex,ok.exfs,ok.funs,ok.frf⟩
theorem Cx.Ok.unwish {X:Cx}{E:Value→Shared→Prop}(ok:(X.wish E).Ok):X.Ok:=
 ⟨ok.mod,ok.kind,ok.glob,ok.blt,ok.above,ok.inj,ok.has,ok.cab,ok.hd,ok.frames,ok.stk,ok.exf,ok.bs,ok.bsz,ok.noex,ok.exfs,ok.funs,ok.frf⟩
section
variable {X:Cx}{pins:List (Addr×Obj)}{σ:St}{H:Hp}{s:Shared}{E:Value→Shared→Prop}
theorem Inv.wish (I:Inv X pins σ H s)(E:Value→Shared→Prop):Inv (X.wish E) pins σ H s:=⟨I.ok.wish E,I.os,I.bare,I.base,I.loc,I.cell,I.free,I.freeC,I.pin,I.hok,I.len⟩
theorem Inv.unwish (I:Inv (X.wish E) pins σ H s):Inv X pins σ H s:=⟨I.ok.unwish,I.os,I.bare,I.base,I.loc,I.cell,I.free,I.freeC,I.pin,I.hok,I.len⟩
theorem SP.unwish {D:Ends}{f:Flow}{s':Shared}(h:SP (X.wish E) pins D f s'):SP X pins D f s':=by
 cases f with
 | next=>obtain⟨σ',H',I,q⟩:=h;exact⟨σ',H',I.unwish,q⟩
 | brk=>obtain⟨σ',H',I,q⟩:=h;exact⟨σ',H',I.unwish,q⟩
 | cont=>obtain⟨σ',H',I,q⟩:=h;exact⟨σ',H',I.unwish,q⟩
 | ret u=>obtain⟨v,σ',H',I,r,q⟩:=h;exact⟨v,σ',H',I.unwish,r,q⟩
theorem PSs.nox {st:List Stmt}{t:TS}(h:PSs X.nox st t):PSs X st t:=fun pins s σ H D I hw=>
 YBB (h pins s σ H D (I.wish _) hw) (fun _ _ q=>q.unwish) fun _ _ z=>False.elim z
end
section
variable {X:Cx}{st:Stmt}{rest:List Stmt}{t u:TS}{e:Expr}{te:TE}{pos:Pos}
def tNext:TS:=fun D σ H=>D.nx σ H
def tSeq (t u:TS):TS:=fun D σ H=>t { D with nx:=u D } σ H
theorem Zat:PSs X [] tNext:=fun _ _ σ H _ I h=>YDT ⟨σ,H,I,h⟩
theorem Zac (h1:PS X st t)(h2:PSs X rest u):PSs X (st::rest) (tSeq t u):=by
 intro pins s σ H D I h
 refine wpAny_execs_cons (thn (h1 pins s σ H { D with nx:=u D } I h) fun f s1 q=>?_)
 cases f with
 | next=>
  obtain⟨σ',H',I',q⟩:=q
  exact h2 pins s1 σ' H' D I' q
 | ret v=>exact q
 | brk=>exact q
 | cont=>exact q
theorem Zad (h1:PS X st t):PSs X [st] t:=by
 intro pins s σ H D I h
 refine wpAny_execs_cons (thn (h1 pins s σ H D I h) fun f s1 q=>?_)
 cases f with
 | next=>exact YDT q
 | ret v=>exact q
 | brk=>exact q
 | cont=>exact q
theorem Inv.quiet {pins:List (Addr×Obj)}{σ:St}{H:Hp}{s:Shared}(I:Inv X pins σ H s):interactive X.env=false:=by simp[interactive,I.ok.kind]
def ZlE (te:TE):TS:=fun D σ H=>te σ H fun _ H1=>D.nx σ H1
theorem ZaX (he:PE X e te)(hs:swapsWith e none pos.line X.env=pure false:=by rfl):PS X (.Expr e pos) (ZlE te):=by
 intro pins s σ H D I h
 exact wpAny_Expr_any (thn (he pins s σ H _ I h) fun v s1 ⟨x,H1,I1,r1,q1⟩=>⟨σ,H1,I1,q1⟩) I.quiet hs
def tRet (te:TE):TS:=fun D σ H=>te σ H D.rt
theorem Zar (he:PE X e te):PS X (.Return (some e) pos) (tRet te):=by
 intro pins s σ H D I h
 exact wpAny_Return_some (thn (he pins s σ H _ I h) fun v s1 ⟨x,H1,I1,r1,q1⟩=>⟨x,σ,H1,I1,r1,q1⟩)
def Znx:TS:=fun D _ H=>D.rt .non H
def tIfS (c:TT)(t u:TS):TS:=fun D σ H=>c σ H fun b H1=>if b=true then t D σ H1 else u D σ H1
theorem ZaW {c:Expr}{a b:List Stmt}{tc:TT}(hc:PT X c tc)(ha:PSs X a t)(hb:PSs X b u):PS X (.If c a b pos) (tIfS tc t u):=by
 intro pins s σ H D I h
 refine wpAny_If (thn (hc pins s σ H _ I h) fun d s1 ⟨H1,I1,q1⟩=>?_)
 cases d with
 | true=>exact ha pins s1 σ H1 D I1 q1
 | false=>exact hb pins s1 σ H1 D I1 q1
end
abbrev TG:=V→St→Hp→(St→Hp→Prop)→Prop
abbrev TGs:=List V→St→Hp→(St→Hp→Prop)→Prop
def PG (X:Cx)(target:Expr)(t:TG):Prop:=
 ∀(pins:List (Addr×Obj)) (s:Shared) (σ:St) (H:Hp) (v:V) (u:Value) (Q:St→Hp→Prop),Inv X pins σ H s→RelV v u→t v σ H Q →
  wpAny (model X.prog X.w) X.A (assign target X.env u) (fun _ s'=>∃σ' H',Inv X pins σ' H' s'∧Q σ' H') X.xe s
def PGs (X:Cx)(ts:List Expr)(t:TGs):Prop:=
 ∀(pins:List (Addr×Obj)) (s:Shared) (σ:St) (H:Hp) (vs:List V) (us:List Value) (Q:St→Hp→Prop),Inv X pins σ H s→Vals vs us→t vs σ H Q →
  wpAny (model X.prog X.w) X.A (assignInOrder ((assignEach ts X.env).map (·.2)) us) (fun _ s'=>∃σ' H',Inv X pins σ' H' s'∧Q σ' H') X.xe s
abbrev TIp:=V→V→Hp→VK→Prop
section
variable {X:Cx}{pos:Pos}
def ZcR (i:Nat):TG:=fun v σ H Q=>Q (σ.set i (some v)) H
theorem ZaC {i:Nat}{x:Str}(hN:X.N.Nodup)(hi:X.N[i]?=some x)(hx:Loc X.env.scope x)(hf:X.fn x=true∨X.env.scope.names.lookup x=some .local:=by first | exact .inl rfl | exact .inr rfl | assumption):PG X (.Name x pos) (ZcR i):=by
 intro pins s σ H v u Q I r h
 exact wpAny_assign_Name (ZcU I hN hi hx r (fun s' I'=>⟨_,H,I',h⟩) hf)
def gNil:TGs:=fun vs σ H Q=>vs=[]∧Q σ H
def Znb (t:TG)(u:TGs):TGs:=fun vs σ H Q=>∃v r,vs=v::r∧t v σ H fun σ' H'=>u r σ' H' Q
theorem ZhI:PGs X [] gNil:=by
 intro pins s σ H vs us Q I r h
 obtain⟨e,h⟩:=h
 subst e
 cases r
 exact assignInOrder_nil ⟨σ,H,I,h⟩
theorem ZcV {e:Expr}{es:List Expr}{t:TG}{u:TGs}(h1:PG X e t)(h2:PGs X es u)
  (hs:(assignEach (e::es) X.env).map (·.2)=assign e X.env::(assignEach es X.env).map (·.2):=by rfl):PGs X (e::es) (Znb t u):=by
 intro pins s σ H vs us Q I r h
 obtain⟨v,vr,e1,h⟩:=h
 subst e1
 cases r with
 | cons r rr=>
  rw[hs]
  refine assignInOrder_cons (thn (h1 pins s σ H _ _ _ I r h) fun _ s1 ⟨σ1,H1,I1,q1⟩=>?_)
  exact h2 pins s1 σ1 H1 _ _ Q I1 rr q1
def gTup (K:PySem.W.Frag)(n:Nat)(t:TGs):TG:=fun v σ H Q=>∃a xs,v=.ref a∧SqT K H a xs∧xs.length=n∧t xs σ H Q
theorem ZjO {es:List Expr}{k:Nat}{t:TGs}{n:Nat}(hc:X.calm=true)(h:PGs X es t)
  (hn:(assignEach es X.env).length=n:=by rfl) (hst:(assignEach es X.env).findIdx? (·.1)=none:=by rfl):PG X (.Tuple es k pos) (gTup X.K n t):=by
 intro pins s σ H v u Q I r hw
 obtain⟨a,xs,e1,hq,hl,hw⟩:=hw
 subst e1
 cases r
 obtain⟨its,rv,ht,hz⟩:=I.tuple hq
 refine assign_Tuple_tuple (I.ok.hd hc) ht (by simp[hn,←hl,rv.length]) hst fun h' hx=>?_
 have I1:Inv X pins σ H { s with heap:=h' }:=I.kept (t':=s.toks) fun b o e=>hx b o (YAY (YAG e)) e
 exact h pins _ σ H xs _ Q I1 (by simpa using rv) hw
def tAsg (te:TE)(g:TG):TS:=fun D σ H=>te σ H fun x H1=>g x σ H1 D.nx
theorem Zaw {i:Nat}{x:Str}{e:Expr}{te:TE}{pos':Pos}(hN:X.N.Nodup)(hi:X.N[i]?=some x)(hx:Loc X.env.scope x)(he:PE X e te)(hs:swapsWith e (some (.Name x pos')) pos.line X.env=pure false:=by rfl)(hf:X.fn x=true∨X.env.scope.names.lookup x=some .local:=by first | exact .inl rfl | exact .inr rfl | assumption):
  PS X (.Assign [.Name x pos'] e pos) (tAsg te (ZcR i)):=by
 intro pins s σ H D I h
 refine wpAny_Assign_Name (thn (he pins s σ H _ I h) fun v s1 ⟨y,H1,I1,r1,q1⟩=>?_) hs
 exact ZcU I1 hN hi hx r1 (fun s2 I2=>⟨_,H1,I2,q1⟩) hf
def tPar (i j:Nat)(ta:TA):TS:=fun D σ H=>ta σ H fun vs H1=>∃v w,vs=[v,w]∧D.nx ((σ.set i (some v)).set j (some w)) H1
def tAug (i:Nat)(te:TE)(ti:TIp):TS:=fun D σ H=>∃x,σ[i]?=some (some x)∧te σ H fun y H1=>ti x y H1 fun z H2=>D.nx (σ.set i (some z)) H2
def ipI (f:Int→Int→Int):TIp:=fun x y H Q=>∃i j,x=.int i∧y=.int j∧Q (.int (f i j)) H
end
section
variable {X:Cx}{pos:Pos}
def ZjF (c:TT)(tb:TS):TS:=fun D σ H=>∃W:Nat→St→Hp→Prop,(∃m,W m σ H)∧∀m σ H,W m σ H →
 c σ H fun b H1=>if b=true then ∃N:St→Hp→Prop,(∀σ' H',N σ' H'→∃m',m'<m∧W m' σ' H')∧tb { D with nx:=N,ct:=N,bk:=D.nx } σ H1 else D.nx σ H1
end
structure It where
 go:Nat→Hp→Prop
 yld:Nat→Hp→V→Hp→Prop
 stop:Nat→Hp→Prop
def FpOk (X:Cx)(pins:List (Addr×Obj))(H:Hp)(b:Addr):Prop:=
 H b=none∧b≠X.env.locals∧b∉X.fs∧(b∈X.ex∨X.s₀.heap.objs.size≤b)∧(∀x c,X.env.cells.lookup x=some c→c≠b)∧∀p∈X.pn++pins,p.1≠b
theorem Inv.fpOk {X:Cx}{pins:List (Addr×Obj)}{σ:St}{H H':Hp}{s:Shared}{b:Addr}(I:Inv X pins σ H s)(hb:s.heap.objs.size≤b)(hn:H' b=none):FpOk X pins H' b:=by
 refine⟨hn,YCv (YAi I.lt hb),I.nofs hb,.inr (YAQ I.sz hb),fun x c e z=>?_,fun p hp z=>?_⟩
 ·obtain⟨v,q⟩:=I.cell x c e
  exact absurd (YAi q.lt (by rw[z];exact hb)) (YAt _)
 ·exact absurd (YAi (YAG (I.pin p hp).1) (by rw[z];exact hb)) (YAt _)
structure Turn (P:Program)(w:World)(K:PySem.W.Frag)(tg:Expr)(J:It)(fp:List Addr)(it:Addr)(tn:Nat→Heap→Prop):Prop where
 mem:it∈fp
 obj:∀i h,tn i h→∀b∈fp,∃o,h.get? b=some o∧∀v,o.data≠.cell v
 keep:∀i h h',tn i h→(∀b∈fp,∀o,h.get? b=some o→h'.get? b=some o)→tn i h'
 item:∀(X:Cx),X.prog=P→X.w=w→X.K=K→X.calm=true→∀(i:Nat) (pins:List (Addr×Obj)) (s:Shared) (σ:St) (H:Hp) (E:Value→Shared→Prop),Inv X pins σ H s→(∀b∈fp,FpOk X pins H b)→tn i s.heap→J.go i H →
  wpAny (model P w) X.A (pyNext (.ref it)) (fun r s1=>∃u,r=some u ∧
   wpAny (model P w) X.A (letOwnedTupleGo tg (.ref it) u) (fun _ s2=>∃x H',Inv X pins σ H' s2∧RelV x u∧J.yld i H x H'∧tn (i+1) s2.heap∧∀b∈fp,H' b=none) E s1) E s
 done:∀(X:Cx),X.prog=P→X.w=w→X.K=K→X.calm=true→∀(i:Nat) (pins:List (Addr×Obj)) (s:Shared) (σ:St) (H:Hp) (E:Value→Shared→Prop),Inv X pins σ H s→(∀b∈fp,FpOk X pins H b)→tn i s.heap→J.stop i H →
  wpAny (model P w) X.A (pyNext (.ref it)) (fun r s1=>r=none∧Inv X pins σ H s1) E s
 self:∀(A:Around) (i:Nat) (s:Shared) (Q:Value→Shared→Prop) (E:Value→Shared→Prop),tn i s.heap→Q (.ref it) s→wpAny (model P w) A (pyIter (.ref it)) Q E s
abbrev TI:=St→Hp→(It→Hp→Prop)→Prop
def PIE (X:Cx)(pins:List (Addr×Obj))(σ:St)(tg:Expr)(R:It→Hp→Prop)(itv:Value)(s2:Shared):Prop:=
 ∃(it:Addr) (fp:List Addr) (tn:Nat→Heap→Prop) (J:It) (H':Hp),itv=.ref it∧Inv X pins σ H' s2∧Turn X.prog X.w X.K tg J fp it tn∧tn 0 s2.heap∧(∀b∈fp,FpOk X pins H' b)∧R J H'
def PI (X:Cx)(tg iter:Expr)(wi:TI):Prop:=
 ∀(pins:List (Addr×Obj)) (s:Shared) (σ:St) (H:Hp) (R:It→Hp→Prop),Inv X pins σ H s→wi σ H R →
  wpAny (model X.prog X.w) X.A (eval iter X.env) (fun v s1=>wpAny (model X.prog X.w) X.A (pyIter v) (PIE X pins σ tg R) X.xe s1) X.xe s
theorem Zk5 {M:Model}{A:Around}{E:Value→Shared→Prop}{s:Shared}{tg:Expr}{it:Addr}{u:Value}{o:Obj}{n:String}{vs:Array Value}{Q:Unit→Shared→Prop}(ho:s.heap.get? it=some o)(hc:o.cls=.type n)(hd:o.data=.fields vs)
    (hn:["enumerate","zip","dict_itemiterator","dict_reverseitemiterator","odict_iterator","itertools.zip_longest","itertools.pairwise"].contains n=false) (hQ:Q () s):wpAny M A (letOwnedTupleGo tg (.ref it) u) Q E s:=by
  unfold letOwnedTupleGo
  cases tg<;>first
    | exact YAC hQ
    | (cases u<;>first
        | exact YAC hQ
        | (refine YAA (wpAny_load ho ?_)
           rw[hc,hd]
           show wpAny M A (if (["enumerate","zip","dict_itemiterator","dict_reverseitemiterator","odict_iterator","itertools.zip_longest","itertools.pairwise"].contains n&&vs[0]? == some (rawInt _))=true then _ else _) Q E s
           rw[YAJ (by intro h;rw[hn,YBY]at h;cases h)]
           exact YAC hQ))
def Itl (K:PySem.W.Frag)(a:Addr):It:=
 ⟨fun i H=>∃xs x,SqL K H a xs∧xs[i]?=some x,fun i H x H'=>H'=H∧∀xs,SqL K H a xs→xs[i]?=some x,fun i H=>∃xs,SqL K H a xs∧xs.length≤i⟩
def Itt (K:PySem.W.Frag)(a:Addr):It:=
 ⟨fun i H=>∃xs x,SqT K H a xs∧xs[i]?=some x,fun i H x H'=>H'=H∧∀xs,SqT K H a xs→xs[i]?=some x,fun i H=>∃xs,SqT K H a xs∧xs.length≤i⟩
def Itr (lo:Int)(n:Nat):It:=⟨fun i _=>i<n,fun i H x H'=>H'=H∧x=.int (lo+i),fun i _=>n≤i⟩
theorem Zho {P:Program}{w:World}{K:PySem.W.Frag}{tg:Expr}(a it:Addr):Turn P w K tg (Itl K a) [it] it (fun i h=>h.IsListIter it a i) where
 mem:=by simp
 obj:=fun i h st b hb=>by
  have e:b=it:=by simpa using hb
  subst e
  obtain⟨o,e,c,d⟩:=st
  exact⟨o,e,fun v z=>by rw[d]at z;cases z⟩
 keep:=fun i h h' st k=>st.at fun o e=>k it (by simp) o e
 item:=by
  intro X hP hw hK hc i pins s σ H E I hf st hg
  subst hP hw hK
  obtain⟨xs,x,hq,hx⟩:=hg
  obtain⟨its,rv,p,hz⟩:=I.list hq
  obtain⟨u,hu,ru⟩:=rv.get hx
  obtain⟨f0,f1,f2,f3,f4,f5⟩:=hf it (by simp)
  refine wpAny_pyNext_list_item st p.isList (x:=u) (by simpa using hu) fun h' st' sb=>?_
  have I1:Inv X pins σ H { s with heap:=h' }:=I.turned (t':=s.toks) (fun b o hb e=>(sb.2 b hb).trans e) f0 f1 f3 f4 f5
  obtain⟨o,e,c,d⟩:=id st'
  exact⟨u,rfl,Zk5 (s:={ s with heap:=h' }) e c d (by decide) ⟨x,H,I1,ru,⟨rfl,fun ys hy=>by rw[I.list_inj hy hq];exact hx⟩,st',fun b hb=>(hf b hb).1⟩⟩
 done:=by
  intro X hP hw hK hc i pins s σ H E I hf st hg
  subst hP hw hK
  obtain⟨xs,hq,hx⟩:=hg
  obtain⟨its,rv,p,hz⟩:=I.list hq
  obtain⟨f0,f1,f2,f3,f4,f5⟩:=hf it (by simp)
  have hl:=rv.length
  exact wpAny_pyNext_list_end (I.ok.hd hc) st p.isList (by simp;omega) fun h' eb=>⟨rfl,I.turned (t':=s.toks) (fun b o hb e=>eb b o hb e) f0 f1 f3 f4 f5⟩
 self:=fun _ _ _ _ _ st h=>wpAny_pyIter_listiter st h
theorem ZgE {P:Program}{w:World}{K:PySem.W.Frag}{tg:Expr}(it:Addr)(lo:Int)(n:Nat):Turn P w K tg (Itr lo n) [it] it (fun i h=>IsRangeIter h it (lo+(i:Nat)*1) ((n:Int)-(i:Nat)) 1) where
 mem:=by simp
 obj:=fun i h st b hb=>by
  have e:b=it:=by simpa using hb
  subst e
  exact⟨_,st,fun v z=>by
   have z':Data.fields _=Data.cell v:=z
   cases z'⟩
 keep:=fun i h h' st k=>k it (by simp) _ st
 item:=by
  intro X hP hw hK hc i pins s σ H E I hf st hg
  subst hP hw hK
  obtain⟨f0,f1,f2,f3,f4,f5⟩:=hf it (by simp)
  have W:=Walks.range (prog:=X.prog) (w:=X.w) (I.ok.hd hc) it lo 1 n
  refine W.item i s _ _ hg st fun v h' tk hv st' kk=>?_
  obtain⟨t,rfl⟩:=hv
  have I1:Inv X pins σ H { s with heap:=h',toks:=tk }:=I.turned (fun b o hb e=>kk b o (by simpa using hb) e) f0 f1 f3 f4 f5
  refine⟨_,rfl,Zk5 (s:={ s with heap:=h',toks:=tk }) (n:="range_iterator") st' rfl rfl (by decide) ⟨.int (lo+i),H,I1,⟨t,?_⟩,⟨rfl,rfl⟩,st',fun b hb=>(hf b hb).1⟩⟩
  rw[Int.mul_one]
 done:=by
  intro X hP hw hK hc i pins s σ H E I hf st hg
  subst hP hw hK
  obtain⟨f0,f1,f2,f3,f4,f5⟩:=hf it (by simp)
  exact wpAny_pyNext_range_end (I.ok.hd hc) st (by have:n≤i:=hg;omega) fun h' eb=>⟨rfl,I.turned (t':=s.toks) (fun b o hb e=>eb b o hb e) f0 f1 f3 f4 f5⟩
 self:=fun _ _ _ _ _ st h=>wpAny_pyIter_rangeiter st h
section
variable {X:Cx}{tg:Expr}
def Zk3 (K:PySem.W.Frag)(tl:TE):TI:=fun σ H R=>tl σ H fun x H1=>∃a,x=.ref a∧(∃xs,SqL K H1 a xs)∧R (Itl K a) H1
def iTup (K:PySem.W.Frag)(tl:TE):TI:=fun σ H R=>tl σ H fun x H1=>∃a,x=.ref a∧(∃xs,SqT K H1 a xs)∧R (Itt K a) H1
theorem Zkz {l:Expr}{tl:TE}(hl:PE X l tl):PI X tg l (Zk3 X.K tl):=by
 intro pins s σ H R I h
 refine thn (hl pins s σ H _ I h) fun v s1 ⟨x,H1,I1,r1,q1⟩=>?_
 obtain⟨a,e,⟨xs,hq⟩,q⟩:=q1
 subst e
 cases r1
 obtain⟨its,rv,p,hz⟩:=I1.list hq
 refine YCj p.isList ?_
 refine⟨s1.heap.objs.size,[s1.heap.objs.size],_,_,H1,rfl,I1.kept (t':=s1.toks) fun b o e=>YAB _ e,Zho a _,⟨_,YAF _ rfl,rfl,rfl⟩,fun b hb=>?_,q⟩
 have e:b=s1.heap.objs.size:=by simpa using hb
 subst e
 exact I1.fpOk (YAP _) (I1.hok.fresh (YAP _))
theorem Zgc {pins:List (Addr×Obj)}{σ:St}{H:Hp}{s:Shared}{R:It→Hp→Prop}{E:Value→Shared→Prop}{lo hi:Int}{t u v:Tok}{tk:Nat}(I:Inv X pins σ H s)(h1:-(2 ^ 62)≤lo)(h2:lo<2 ^ 62)(h3:-(2 ^ 62)≤hi)(h4:hi<2 ^ 62)
  (q:R (Itr lo (hi-lo).toNat) H):wpAny (model X.prog X.w) X.A (pyIter (.ref s.heap.objs.size)) (PIE X pins σ tg R) E { s with heap:=s.heap.push { cls:=.type "range",data:=.fields #[.int lo t,.int hi u,.int 1 v] },toks:=tk }:=by
 refine wpAny_pyIter_range (IsRange.new ..) (small_one h1 h2 h3 h4) ?_
 have I1:Inv X pins σ H { s with heap:=s.heap.push { cls:=.type "range",data:=.fields #[.int lo t,.int hi u,.int 1 v] },toks:=tk }:=I.kept fun b o e=>YAB _ e
 refine⟨(s.heap.push { cls:=.type "range",data:=.fields #[.int lo t,.int hi u,.int 1 v] }).objs.size,[(s.heap.push { cls:=.type "range",data:=.fields #[.int lo t,.int hi u,.int 1 v] }).objs.size],_,_,H,rfl,
  I1.kept (t':=tk) fun b o e=>YAB _ e,ZgE _ lo (hi-lo).toNat,?_,fun b hb=>?_,q⟩
 ·have e1:lo+((0:Nat):Int)*1=lo:=by simp
  have e2:(((hi-lo).toNat:Nat):Int)-((0:Nat):Int)=Builtin.Range.rangeSize lo hi 1:=by rw[rangeSize_one];split<;>omega
  show IsRangeIter _ _ (lo+((0:Nat):Int)*1) ((((hi-lo).toNat:Nat):Int)-((0:Nat):Int)) 1
  rw[e1,e2]
  exact YAF _ rfl
 ·have e:b=(s.heap.push { cls:=.type "range",data:=.fields #[.int lo t,.int hi u,.int 1 v] }).objs.size:=by simpa using hb
  subst e
  exact I1.fpOk (YAP _) (I1.hok.fresh (YAP _))
def Zm7 (ta:TA):TI:=fun σ H R=>ta σ H fun vs H1=>∃j:Int,vs=[.int j]∧-(2 ^ 62)≤j∧j<2 ^ 62∧R (Itr 0 j.toNat) H1
def Zm6 (ta:TA):TI:=fun σ H R=>ta σ H fun vs H1=>∃i j:Int,vs=[.int i,.int j]∧(-(2 ^ 62)≤i∧i<2 ^ 62∧-(2 ^ 62)≤j∧j<2 ^ 62)∧R (Itr i (j-i).toNat) H1
theorem Zbz {a:Expr} {ta:TA} {p pos:Pos} (hg:Gl X "range") (hm:X.mg "range"=none) (ha:PA X [a] ta) (hs:starEach [a] X.env=[(false,eval a X.env)]:=by rfl):PI X tg (.Call (.Name "range" p) [a] [] pos) (Zm7 ta):=by
 intro pins s σ H R I h
 refine Call_ (ZcL I hg hm boot_range (YCd (thn (ha pos pins s σ H _ I h) fun us s1 ⟨vs,H1,I1,r1,q1⟩=>?_) hs rfl))
 obtain⟨j,e,q1,q2,q⟩:=q1
 subst e
 cases r1 with
 | cons r rr=>
  cases rr
  obtain⟨t,rfl⟩:=r
  exact call_range_1 (Zgc I1 (by omega) (by omega) q1 q2 (by simpa using q))
theorem ZeL {a b:Expr} {ta:TA} {p pos:Pos} (hg:Gl X "range") (hm:X.mg "range"=none) (ha:PA X [a,b] ta) (hs:starEach [a,b] X.env=[(false,eval a X.env),(false,eval b X.env)]:=by rfl) (hs2:starEach [b] X.env=[(false,eval b X.env)]:=by rfl):
  PI X tg (.Call (.Name "range" p) [a,b] [] pos) (Zm6 ta):=by
 intro pins s σ H R I h
 refine Call_ (ZcL I hg hm boot_range (YCd (thn (ha pos pins s σ H _ I h) fun us s1 ⟨vs,H1,I1,r1,q1⟩=>?_) (by rw[hs,hs2]) (by rw[hs2];rfl)))
 obtain⟨i,j,e,⟨q1,q2,q3,q4⟩,q⟩:=q1
 subst e
 cases r1 with
 | cons r rr=>
  cases rr with
  | cons r' rr=>
   cases rr
   obtain⟨t,rfl⟩:=r
   obtain⟨t',rfl⟩:=r'
   exact call_range_2 (Zgc I1 q1 q2 q3 q4 q)
def tFor (wi:TI)(g:TG)(tb:TS):TS:=fun D σ H=>wi σ H fun J H1=>∃W:Nat→Nat→St→Hp→Prop,(∃m,W 0 m σ H1)∧∀i m σ H,W i m σ H →
 (J.stop i H∧D.nx σ H)∨(J.go i H∧∃N:St→Hp→Prop,(∀σ' H',N σ' H'→∃m',m'<m∧W (i+1) m' σ' H')∧∀x H',J.yld i H x H'→g x σ H' fun σ2 H2=>tb { D with nx:=N,ct:=N,bk:=D.nx } σ2 H2)
def ZeJ (fp:List Addr)(h:Heap):List (Addr×Obj):=fp.filterMap fun b=>(h.get? b).map fun o=>(b,o)
theorem Zb0 {fp:List Addr}{h:Heap}{b:Addr}{o:Obj}(hb:b∈fp)(e:h.get? b=some o):(b,o)∈ZeJ fp h:=List.mem_filterMap.mpr ⟨b,hb,by rw[e];rfl⟩
theorem ZhP {fp:List Addr}{h:Heap}{p:Addr×Obj}(hp:p∈ZeJ fp h):p.1∈fp∧h.get? p.1=some p.2:=by
 obtain⟨b,hb,e⟩:=List.mem_filterMap.mp hp
 cases q:h.get? b with
 | none=>rw[q]at e;cases e
 | some o=>
  rw[q]at e
  have e':(b,o)=p:=Option.some.inj e
  subst e'
  exact⟨hb,q⟩
theorem Inv.pinned {pins:List (Addr×Obj)}{σ:St}{H:Hp}{s:Shared}{fp:List Addr}(I:Inv X pins σ H s)(hf:∀b∈fp,FpOk X pins H b)(ho:∀b∈fp,∃o,s.heap.get? b=some o∧∀v,o.data≠.cell v):Inv X (pins++ZeJ fp s.heap) σ H s:=
 I.pins_of fun p hp=>(YAf.mp hp).elim (fun z=>I.pin p (YAz _ z)) fun z=>by
  obtain⟨hb,e⟩:=ZhP z
  obtain⟨f0,f1,f2,_⟩:=hf p.1 hb
  obtain⟨o,e',d⟩:=ho p.1 hb
  rw[e]at e';cases e'
  exact⟨e,f0,f1,f2,d⟩
theorem Inv.unpinned {pins pl:List (Addr×Obj)}{σ:St}{H:Hp}{s:Shared}(I:Inv X (pins++pl) σ H s):Inv X pins σ H s:=I.pins_of fun p hp=>I.pin p (YAz _ (YDK _ hp))
theorem Zbs {iter:Expr}{body:List Stmt}{wi:TI}{g:TG}{tb:TS}{pos:Pos}(hp:PassesOwn (model X.prog X.w) X.A X.env X.xe)(hc:X.calm=true)(hi:PI X tg iter wi)(hg:PG X tg g)(hb:PSs X body tb)
  (hs:∀x,foldedSetIterable iter X.env x=pure x:=by intro _;rfl):PS X (.For tg iter body [] pos) (tFor wi g tb):=by
 intro pins s σ H D I h
 refine wpAny_For (thn (hi pins s σ H _ I h) fun v s1 h1=>thn h1 fun itv s2 h2=>?_) hs
 obtain⟨it,fp,tn,J,H2,e,I2,T,st2,f2,W,⟨m0,w0⟩,turn⟩:=h2
 subst e
 have stat:∀ {H':Hp},(∀b∈fp,H' b=none)→∀b∈fp,FpOk X pins H' b:=fun hn b hb=>⟨hn b hb,(f2 b hb).2⟩
 refine codeAny_forLoop_any (fun n s'=>∃i σ' H',Inv X pins σ' H' s'∧tn i s'.heap∧(∀b∈fp,H' b=none)∧W i n σ' H') ?_ m0 ⟨0,σ,H2,I2,st2,fun b hb=>(f2 b hb).1,w0⟩
 rintro n s3 ⟨i,σ3,H3,I3,st3,fr3,w3⟩
 rcases turn i n σ3 H3 w3 with⟨stop,qn⟩|⟨go,N,hN,step⟩
 ·refine YDR hp (thn (T.done X rfl rfl rfl hc i pins s3 σ3 H3 X.xe I3 (stat fr3) st3 stop) fun r s4 ⟨hr,I4⟩=>?_)
  subst hr
  exact YDT ⟨σ3,H3,I4,qn⟩
 ·refine YDR hp (thn (T.item X rfl rfl rfl hc i pins s3 σ3 H3 X.xe I3 (stat fr3) st3 go) fun r s4 ⟨u,hr,h4⟩=>?_)
  subst hr
  refine YDR hp (thn h4 fun _ s5 ⟨x,H5,I5,r5,y5,st5,fr5⟩=>?_)
  have I5':=I5.pinned (stat fr5) (T.obj _ _ st5)
  refine YDR hp (thn (hg _ s5 σ3 H5 x u _ I5' r5 (step x H5 y5)) fun _ s6 ⟨σ6,H6,I6,q6⟩=>?_)
  refine YDR hp (thn (hb _ s6 σ6 H6 _ I6 q6) fun f s7 q7=>?_)
  have again:∀ {σ7:St} {H7:Hp},Inv X (pins++ZeJ fp s5.heap) σ7 H7 s7→N σ7 H7→∃m,m<n∧∃i σ' H',Inv X pins σ' H' s7∧tn i s7.heap∧(∀b∈fp,H' b=none)∧W i m σ' H':=fun {σ7 H7} I7 n7=>by
   obtain⟨m',hm,w7⟩:=hN σ7 H7 n7
   refine⟨m',hm,i+1,σ7,H7,I7.unpinned,T.keep _ _ _ st5 fun b hb o e=>(I7.pin (b,o) (YAz _ (YAz _ (Zb0 hb e)))).1,fun b hb=>?_,w7⟩
   obtain⟨o,e,d⟩:=T.obj _ _ st5 b hb
   exact(I7.pin (b,o) (YAz _ (YAz _ (Zb0 hb e)))).2.1
  cases f with
  | next=>obtain⟨σ7,H7,I7,n7⟩:=q7;exact again I7 n7
  | cont=>obtain⟨σ7,H7,I7,n7⟩:=q7;exact again I7 n7
  | brk=>obtain⟨σ7,H7,I7,q7⟩:=q7;exact⟨σ7,H7,I7.unpinned,q7⟩
  | ret v=>obtain⟨x7,σ7,H7,I7,r7,q7⟩:=q7;exact⟨x7,σ7,H7,I7.unpinned,r7,q7⟩
end
theorem Zjm {K:PySem.W.Frag}{a:Addr}{xs:List V}{g:TG}{tb:TS}{D:Ends}{σ:St}{H:Hp}(Pv:Nat→St→Hp→Prop)(h0:Pv 0 σ H)(hl:∀i σ H,i≤xs.length→Pv i σ H→SqL K H a xs)
  (hs:∀i x σ H,xs[i]?=some x→Pv i σ H→g x σ H fun σ2 H2=>tb { D with nx:=Pv (i+1),ct:=Pv (i+1),bk:=D.nx } σ2 H2) (hd:∀σ H,Pv xs.length σ H→D.nx σ H):
  ∃W:Nat→Nat→St→Hp→Prop,(∃m,W 0 m σ H)∧∀i m σ H,W i m σ H →
   ((Itl K a).stop i H∧D.nx σ H)∨((Itl K a).go i H∧∃N:St→Hp→Prop,(∀σ' H',N σ' H'→∃m',m'<m∧W (i+1) m' σ' H')∧∀x H',(Itl K a).yld i H x H'→g x σ H' fun σ2 H2=>tb { D with nx:=N,ct:=N,bk:=D.nx } σ2 H2):=by
 refine⟨fun i m σ H=>m=xs.length-i∧i≤xs.length∧Pv i σ H,⟨xs.length,by simp,YBI _,h0⟩,?_⟩
 rintro i m σ H ⟨rfl,hi,p⟩
 have q:=hl i σ H hi p
 by_cases hlt:i<xs.length
 ·refine .inr ⟨⟨xs,xs[i],q,by simp[hlt]⟩,Pv (i+1),fun σ' H' p'=>⟨xs.length-(i+1),by omega,rfl,hlt,p'⟩,fun x H' y=>?_⟩
  obtain⟨e,y⟩:=y
  subst e
  exact hs i x σ _ (y xs q) p
 ·have e:i=xs.length:=by omega
  subst e
  exact .inl ⟨⟨xs,q,YAP _⟩,hd σ H p⟩
theorem Zie {lo:Int}{n:Nat}{g:TG}{tb:TS}{D:Ends}{σ:St}{H:Hp}(Pv:Nat→St→Hp→Prop)(h0:Pv 0 σ H)
  (hs:∀i σ H,i<n→Pv i σ H→g (.int (lo+i)) σ H fun σ2 H2=>tb { D with nx:=Pv (i+1),ct:=Pv (i+1),bk:=D.nx } σ2 H2) (hd:∀σ H,Pv n σ H→D.nx σ H):
  ∃W:Nat→Nat→St→Hp→Prop,(∃m,W 0 m σ H)∧∀i m σ H,W i m σ H →
   ((Itr lo n).stop i H∧D.nx σ H)∨((Itr lo n).go i H∧∃N:St→Hp→Prop,(∀σ' H',N σ' H'→∃m',m'<m∧W (i+1) m' σ' H')∧∀x H',(Itr lo n).yld i H x H'→g x σ H' fun σ2 H2=>tb { D with nx:=N,ct:=N,bk:=D.nx } σ2 H2):=by
 refine⟨fun i m σ H=>m=n-i∧i≤n∧Pv i σ H,⟨n,by simp,YBI _,h0⟩,?_⟩
 rintro i m σ H ⟨rfl,hi,p⟩
 by_cases hlt:i<n
 ·refine .inr ⟨hlt,Pv (i+1),fun σ' H' p'=>⟨n-(i+1),by omega,rfl,hlt,p'⟩,fun x H' y=>?_⟩
  obtain⟨e,y⟩:=y
  subst e y
  exact hs i σ _ hlt p
 ·have e:i=n:=by omega
  subst e
  exact .inl ⟨YAP _,hd σ H p⟩
abbrev R2:=V→V→Hp→VK→Prop
def OpR (X:Cx)(f:Value→Value→Sem Value)(r:R2):Prop:=
 ∀(pins:List (Addr×Obj)) (s:Shared) (σ:St) (H:Hp) (x y:V) (v u:Value) (Q:VK),Inv X pins σ H s→RelV x v→RelV y u→r x y H Q →
  wpAny (model X.prog X.w) X.A (f v u) (EP X pins σ Q) X.xe s
def UnR (X:Cx)(f:Value→Sem Value)(r:V→Hp→VK→Prop):Prop:=
 ∀(pins:List (Addr×Obj)) (s:Shared) (σ:St) (H:Hp) (x:V) (v:Value) (Q:VK),Inv X pins σ H s→RelV x v→r x H Q →
  wpAny (model X.prog X.w) X.A (f v) (EP X pins σ Q) X.xe s
def Zch (X:Cx)(f:Value)(r:List V→Hp→VK→Prop):Prop:=
 ∀(pins:List (Addr×Obj)) (s:Shared) (σ:St) (H:Hp) (xs:List V) (us:List Value) (Q:VK),Inv X pins σ H s→Vals xs us→r xs H Q →
  wpAny (model X.prog X.w) X.A (call f us) (EP X pins σ Q) X.xe s
def TruR (X:Cx)(r:V→Hp→(Bool→Hp→Prop)→Prop):Prop:=
 ∀(pins:List (Addr×Obj)) (s:Shared) (σ:St) (H:Hp) (x:V) (v:Value) (Q:Bool→Hp→Prop),Inv X pins σ H s→RelV x v→r x H Q →
  wpAny (model X.prog X.w) X.A (truthy v) (TP X pins σ Q) X.xe s
def tOp (r:R2)(ta tb:TE):TE:=fun σ H Q=>ta σ H fun x H1=>tb σ H1 fun y H2=>r x y H2 Q
def tUn (r:V→Hp→VK→Prop)(ta:TE):TE:=fun σ H Q=>ta σ H fun x H1=>r x H1 Q
def rI (C:Int→Int→Prop)(g:Int→Int→V):R2:=fun x y H Q=>∃i j,x=.int i∧y=.int j∧C i j∧Q (g i j) H
def rI0 (g:Int→Int→V):R2:=fun x y H Q=>∃i j,x=.int i∧y=.int j∧Q (g i j) H
def rU (g:Int→V):V→Hp→VK→Prop:=fun x H Q=>∃i,x=.int i∧Q (g i) H
section
variable {X:Cx}{a b c:Expr}{ta tb tc:TE}{pos:Pos}
theorem binT (ha:PE X a ta)(hb:PE X b tb){pins:List (Addr×Obj)}{s:Shared}{σ:St}{H:Hp}{R:V→V→Hp→Prop}(I:Inv X pins σ H s)
  (h:ta σ H fun x H1=>tb σ H1 fun y H2=>R x y H2) {Q:Value→Shared→Prop} {f:Value→Value→Sem Value}
  (hf:∀v u s2 x y H2,Inv X pins σ H2 s2→RelV x v→RelV y u→R x y H2→wpAny (model X.prog X.w) X.A (f v u) Q X.xe s2):
  wpAny (model X.prog X.w) X.A (eval a X.env) (fun v s₁=>wpAny (model X.prog X.w) X.A (eval b X.env) (fun u s₂=>wpAny (model X.prog X.w) X.A (f v u) Q X.xe s₂) X.xe s₁) X.xe s:=by
 refine thn (ha pins s σ H _ I h) fun v s1 ⟨x,H1,I1,r1,q1⟩=>?_
 refine thn (hb pins s1 σ H1 _ I1 q1) fun u s2 ⟨y,H2,I2,r2,q2⟩=>?_
 exact hf v u s2 x y H2 I2 r1 r2 q2
theorem Zau {op:Operator}{r:R2}(ho:OpR X (binaryOp op) r)(ha:PE X a ta)(hb:PE X b tb):PE X (.BinOp a op b pos) (tOp r ta tb):=by
 intro pins s σ H Q I h
 exact wpAny_BinOp (binT ha hb I h fun v u s2 x y H2 I2 rx ry q=>ho pins s2 σ H2 x y v u Q I2 rx ry q)
theorem ZkA {op:UnaryOp}{r:V→Hp→VK→Prop}(ho:UnR X (unaryOp op) r)(ha:PE X a ta):PE X (.UnaryOp op a pos) (tUn r ta):=by
 intro pins s σ H Q I h
 exact UnaryOp_ (thn (ha pins s σ H _ I h) fun v s1 ⟨x,H1,I1,r1,q1⟩=>ho pins s1 σ H1 x v Q I1 r1 q1)
theorem opI {f:Value→Value→Sem Value}{C:Int→Int→Prop}{g:Int→Int→Int}
  (rule:∀(i j:Int) (t u:Tok) (s:Shared) (Q:Value→Shared→Prop) (E:Value→Shared→Prop),C i j→Q (.int (g i j) s.toks) { s with toks:=s.toks+1 }→wpAny (model X.prog X.w) X.A (f (.int i t) (.int j u)) Q E s):
  OpR X f (rI C fun i j=>.int (g i j)):=by
 intro pins s σ H x y v u Q I rx ry h
 obtain⟨i,j,rfl,rfl,hc,q⟩:=h
 obtain⟨t,rfl⟩:=rx
 obtain⟨t',rfl⟩:=ry
 exact rule i j t t' s _ _ hc ⟨.int (g i j),H,I.tok _,⟨_,rfl⟩,q⟩
theorem opI0 {f:Value→Value→Sem Value}{g:Int→Int→Int}
  (rule:∀(i j:Int) (t u:Tok) (s:Shared) (Q:Value→Shared→Prop) (E:Value→Shared→Prop),Q (.int (g i j) s.toks) { s with toks:=s.toks+1 }→wpAny (model X.prog X.w) X.A (f (.int i t) (.int j u)) Q E s):
  OpR X f (rI0 fun i j=>.int (g i j)):=by
 intro pins s σ H x y v u Q I rx ry h
 obtain⟨i,j,rfl,rfl,q⟩:=h
 obtain⟨t,rfl⟩:=rx
 obtain⟨t',rfl⟩:=ry
 exact rule i j t t' s _ _ ⟨.int (g i j),H,I.tok _,⟨_,rfl⟩,q⟩
theorem opB0 {f:Value→Value→Sem Value}{g:Int→Int→Bool}
  (rule:∀(i j:Int) (t u:Tok) (s:Shared) (Q:Value→Shared→Prop) (E:Value→Shared→Prop),Q (.bool (g i j)) s→wpAny (model X.prog X.w) X.A (f (.int i t) (.int j u)) Q E s):
  OpR X f (rI0 fun i j=>.bl (g i j)):=by
 intro pins s σ H x y v u Q I rx ry h
 obtain⟨i,j,rfl,rfl,q⟩:=h
 obtain⟨t,rfl⟩:=rx
 obtain⟨t',rfl⟩:=ry
 exact rule i j t t' s _ _ ⟨.bl (g i j),H,I,rfl,q⟩
def CDiv (i j:Int):Prop:=0<j∧j<1073741824
def CMul (i j:Int):Prop:=(-(2 ^ 64)<i∧i<2 ^ 64)∨(-(2 ^ 64)<j∧j<2 ^ 64)
theorem CMul.ok {i j:Int}(h:CMul i j):IntMulOk i j:=by
 rcases h with⟨h1,h2⟩|⟨h1,h2⟩
 ·exact .of_left (intBits_le_64 h1 h2)
 ·exact .of_right (intBits_le_64 h1 h2)
theorem Za0:OpR X (binaryOp .Add) (rI0 fun i j=>.int (i+j)):=opI0 fun _ _ _ _ _ _ _ q=>add_int q
theorem ZdR:OpR X (binaryOp .Sub) (rI0 fun i j=>.int (i-j)):=opI0 fun _ _ _ _ _ _ _ q=>sub_int q
theorem Zdj:OpR X (binaryOp .Mult) (rI CMul fun i j=>.int (i*j)):=opI fun _ _ _ _ _ _ _ hc q=>mul_int q hc.ok
theorem Zbo:OpR X (binaryOp .FloorDiv) (rI CDiv fun i j=>.int (i/j)):=opI fun i j _ _ _ _ _ hc q=>by
 have h1:(0:Int)<j:=hc.1
 have h2:j<1073741824:=hc.2
 exact floordiv_int (by omega) (by rw[Int.fdiv_eq_ediv_of_nonneg i (by omega)];exact q) (.inl (PyProof.noPylong_small (by omega)))
theorem Zbc:OpR X (binaryOp .Mod) (rI (fun _ j=>0<j) fun i j=>.int (i % j)):=opI fun i j _ _ _ _ _ hc q=>by
 have h1:(0:Int)<j:=hc
 exact mod_int' (by omega) (by rw[Int.fmod_eq_emod_of_nonneg i (by omega)];exact q)
theorem unI {f:Value→Sem Value}{g:Int→Int}
  (rule:∀(i:Int) (t:Tok) (s:Shared) (Q:Value→Shared→Prop) (E:Value→Shared→Prop),Q (.int (g i) s.toks) { s with toks:=s.toks+1 }→wpAny (model X.prog X.w) X.A (f (.int i t)) Q E s):
  UnR X f (rU fun i=>.int (g i)):=by
 intro pins s σ H x v Q I rx h
 obtain⟨i,rfl,q⟩:=h
 obtain⟨t,rfl⟩:=rx
 exact rule i t s _ _ ⟨.int (g i),H,I.tok _,⟨_,rfl⟩,q⟩
theorem Zhk:UnR X (unaryOp .USub) (rU fun i=>.int (-i)):=unI fun _ _ _ _ _ q=>neg_int q
end
def scal:V→V→Bool
 | .non,.non=>true | .non,.int _=>true | .int _,.non=>true | .non,.bl _=>true | .bl _,.non=>true | .non,.str _=>true | .str _,.non=>true
 | .int _,.int _=>true | .bl _,.bl _=>true | .str _,.str _=>true | .byt _,.byt _=>true
 | .int _,.str _=>true | .str _,.int _=>true | .bl _,.str _=>true | .str _,.bl _=>true
 | _,_=>false
def rEq:R2:=fun x y H Q=>scal x y=true∧Q (.bl (decide (x=y))) H
def rNe:R2:=fun x y H Q=>scal x y=true∧Q (.bl (!decide (x=y))) H
theorem Zij {i j:Int}:decide (V.int i=V.int j)=(i == j):=by
 rw[YBG]
 simp
theorem Zj3 {i j:Bool}:decide (V.bl i=V.bl j)=(i == j):=by
 rw[YBG]
 simp
theorem Zii {i j:Str}:decide (V.str i=V.str j)=(i == j):=by
 rw[YBG]
 simp
theorem Zik {i j:Array UInt8}:decide (V.byt i=V.byt j)=(i.toList == j.toList):=by
 rw[YBG]
 cases i
 cases j
 simp
section
variable {X:Cx}{a b c:Expr}{ta tb tc:TE}{pos:Pos}
theorem ZaE {pins:List (Addr×Obj)}{σ:St}{H:Hp}{s:Shared}{Q:VK}{k k':Bool}(I:Inv X pins σ H s)(q:Q (.bl k) H)(e:k=k'):EP X pins σ Q (.bool k') s:=by
 subst e
 exact⟨.bl k,H,I,rfl,q⟩
theorem ZoN:OpR X (compareOp .Eq) rEq:=by
 intro pins s σ H x y v u Q I rx ry h
 obtain⟨hs,q⟩:=h
 cases x with
 | non=>
  cases rx
  cases y with
  | non=>cases ry;exact PySem.EqNone.eq_none_none (ZaE I q (by simp))
  | bl j=>cases ry;exact PySem.EqNone.eq_none_bool (ZaE I q (by simp))
  | int j=>obtain⟨t',rfl⟩:=ry;exact PySem.EqNone.eq_none_int (ZaE I q (by simp))
  | str j=>obtain⟨t',rfl⟩:=ry;exact PySem.EqNone.eq_none_str (ZaE I q (by simp))
  | _=>exact absurd (show false=true from hs) YAE
 | bl i=>
  cases rx
  cases y with
  | non=>cases ry;exact PySem.EqNone.eq_bool_none (ZaE I q (by simp))
  | bl j=>cases ry;exact eq_bool (ZaE I q Zj3)
  | str j=>obtain⟨t',rfl⟩:=ry;exact PySem.EqMixed.eq_bool_str (ZaE I q (by simp))
  | _=>exact absurd (show false=true from hs) YAE
 | int i=>
  obtain⟨t,rfl⟩:=rx
  cases y with
  | non=>cases ry;exact PySem.EqNone.eq_int_none (ZaE I q (by simp))
  | int j=>obtain⟨t',rfl⟩:=ry;exact eq_int (ZaE I q Zij)
  | str j=>obtain⟨t',rfl⟩:=ry;exact PySem.EqMixed.eq_int_str (ZaE I q (by simp))
  | _=>exact absurd (show false=true from hs) YAE
 | str i=>
  obtain⟨t,rfl⟩:=rx
  cases y with
  | non=>cases ry;exact PySem.EqNone.eq_str_none (ZaE I q (by simp))
  | bl j=>cases ry;exact PySem.EqMixed.eq_str_bool (ZaE I q (by simp))
  | int j=>obtain⟨t',rfl⟩:=ry;exact PySem.EqMixed.eq_str_int (ZaE I q (by simp))
  | str j=>obtain⟨t',rfl⟩:=ry;exact eq_str (ZaE I q Zii)
  | _=>exact absurd (show false=true from hs) YAE
 | byt i=>
  obtain⟨t,rfl⟩:=rx
  cases y with
  | byt j=>obtain⟨t',rfl⟩:=ry;exact PySem.W.eq_bytes (ZaE I q Zik)
  | _=>exact absurd (show false=true from hs) YAE
 | _=>cases y<;>exact absurd (show false=true from hs) YAE
theorem ZoL:OpR X (compareOp .NotEq) rNe:=by
 intro pins s σ H x y v u Q I rx ry h
 obtain⟨hs,q⟩:=h
 cases x with
 | non=>
  cases rx
  cases y with
  | non=>cases ry;exact PySem.EqNone.ne_none_none (ZaE I q (by simp))
  | bl j=>cases ry;exact PySem.EqNone.ne_none_bool (ZaE I q (by simp))
  | int j=>obtain⟨t',rfl⟩:=ry;exact PySem.EqNone.ne_none_int (ZaE I q (by simp))
  | str j=>obtain⟨t',rfl⟩:=ry;exact PySem.EqNone.ne_none_str (ZaE I q (by simp))
  | _=>exact absurd (show false=true from hs) YAE
 | bl i=>
  cases rx
  cases y with
  | non=>cases ry;exact PySem.EqNone.ne_bool_none (ZaE I q (by simp))
  | bl j=>cases ry;exact ne_bool (ZaE I q (congrArg not Zj3))
  | str j=>obtain⟨t',rfl⟩:=ry;exact PySem.EqMixed.ne_bool_str (ZaE I q (by simp))
  | _=>exact absurd (show false=true from hs) YAE
 | int i=>
  obtain⟨t,rfl⟩:=rx
  cases y with
  | non=>cases ry;exact PySem.EqNone.ne_int_none (ZaE I q (by simp))
  | int j=>obtain⟨t',rfl⟩:=ry;exact ne_int (ZaE I q (congrArg not Zij))
  | str j=>obtain⟨t',rfl⟩:=ry;exact PySem.EqMixed.ne_int_str (ZaE I q (by simp))
  | _=>exact absurd (show false=true from hs) YAE
 | str i=>
  obtain⟨t,rfl⟩:=rx
  cases y with
  | non=>cases ry;exact PySem.EqNone.ne_str_none (ZaE I q (by simp))
  | bl j=>cases ry;exact PySem.EqMixed.ne_str_bool (ZaE I q (by simp))
  | int j=>obtain⟨t',rfl⟩:=ry;exact PySem.EqMixed.ne_str_int (ZaE I q (by simp))
  | str j=>obtain⟨t',rfl⟩:=ry;exact ne_str (ZaE I q (congrArg not Zii))
  | _=>exact absurd (show false=true from hs) YAE
 | byt i=>
  obtain⟨t,rfl⟩:=rx
  cases y with
  | byt j=>obtain⟨t',rfl⟩:=ry;exact PySem.W.ne_bytes (ZaE I q (congrArg not Zik))
  | _=>exact absurd (show false=true from hs) YAE
 | _=>cases y<;>exact absurd (show false=true from hs) YAE
theorem Zmd:OpR X (compareOp .Lt) (rI0 fun i j=>.bl (decide (i<j))):=opB0 fun _ _ _ _ _ _ _ q=>lt_int q
theorem ZkG:OpR X (compareOp .LtE) (rI0 fun i j=>.bl (decide (i≤j))):=opB0 fun _ _ _ _ _ _ _ q=>le_int q
theorem ZiZ:OpR X (compareOp .Gt) (rI0 fun i j=>.bl (decide (j<i))):=opB0 fun _ _ _ _ _ _ _ q=>gt_int q
theorem ZoM:OpR X (compareOp .GtE) (rI0 fun i j=>.bl (decide (j≤i))):=opB0 fun _ _ _ _ _ _ _ q=>ge_int q
theorem ZeP:OpR X (compareOp .In) (fun x y H Q=>∃i j,x=.str i∧y=.str j∧Q (.bl (!(Builtin.Str.occurrences j i 0 j.length 1).isEmpty)) H):=by
 intro pins s σ H x y v u Q I rx ry h
 obtain⟨i,j,rfl,rfl,q⟩:=h
 obtain⟨t,rfl⟩:=rx
 obtain⟨t',rfl⟩:=ry
 exact in_str (ZaE I q rfl)
theorem Zgj:OpR X (compareOp .Is) (fun x y H Q=>y=.non∧Q (.bl (decide (x=.non))) H):=by
 intro pins s σ H x y v u Q I rx ry h
 obtain⟨rfl,q⟩:=h
 cases ry
 refine is_none_gen (ZaE I q ?_)
 cases x<;>first
  | (cases rx;rfl)
  | (obtain⟨t,rfl⟩:=rx;rfl)
theorem ZeN:OpR X (compareOp .NotIn) (fun x y H Q=>∃i j,x=.str i∧y=.str j∧Q (.bl (!(!(Builtin.Str.occurrences j i 0 j.length 1).isEmpty))) H):=by
 intro pins s σ H x y v u Q I rx ry h
 obtain⟨i,j,rfl,rfl,q⟩:=h
 obtain⟨t,rfl⟩:=rx
 obtain⟨t',rfl⟩:=ry
 exact notIn_str (ZaE I q rfl)
theorem Zax (b:Expr){op:CmpOp}(h:op≠.In:=by decide)(h2:op≠.NotIn:=by decide):behindInMarks op b=false:=by
 have e1:(op == CmpOp.In)=false:=by cases op<;>first | rfl | exact absurd rfl h
 have e2:(op == CmpOp.NotIn)=false:=by cases op<;>first | rfl | exact absurd rfl h2
 cases b<;>simp[behindInMarks,e1,e2]
theorem ZaK {op:CmpOp}{r:R2}(ho:OpR X (compareOp op) r)(ha:PE X a ta)(hb:PE X b tb)(hm:behindInMarks op b=false):PE X (.Compare a [op] [b] pos) (tOp r ta tb):=by
 intro pins s σ H Q I h
 exact wpAny_Compare1 (binT ha hb I h fun v u s2 x y H2 I2 rx ry q=>ho pins s2 σ H2 x y v u Q I2 rx ry q) hm
def Zly (t:TE):TT:=fun σ H Q=>t σ H fun x H'=>∃k,x=.bl k∧Q k H'
theorem ZaG {op:CmpOp}{r:R2}(ho:OpR X (compareOp op) r)(ha:PE X a ta)(hb:PE X b tb)(hm:behindInMarks op b=false):PT X (.Compare a [op] [b] pos) (Zly (tOp r ta tb)):=by
 intro pins s σ H Q I h
 refine wpAny_isTrue_Compare1 (thn (ha pins s σ H _ I h) fun v s1 ⟨x,H1,I1,r1,q1⟩=>thn (hb pins s1 σ H1 _ I1 q1) fun u s2 ⟨y,H2,I2,r2,q2⟩=>
  thn (ho pins s2 σ H2 x y v u _ I2 r1 r2 q2) fun c s3 ⟨z,H3,I3,r3,k,e,q3⟩=>?_) hm
 subst e
 cases r3
 exact YBs ⟨H3,I3,q3⟩
def ZlI (r r':R2)(ta tb tc:TE):TE:=fun σ H Q=>ta σ H fun x H1=>tb σ H1 fun y H2=>r x y H2 fun z H3=>∃k,z=.bl k ∧
 (if k=true then tc σ H3 fun w' H4=>r' y w' H4 Q else Q (.bl false) H3)
def TruV (K:PySem.W.Frag)(x:V)(H:Hp)(k:Bool):Prop:=
 match x with
 | .non=>k=false
 | .bl b=>k=b
 | .int i=>k=(i != 0)
 | .str y=>y.length≤sizeLine∧k=((y.length:Int) != 0)
 | .byt y=>y.size≤sizeLine∧k=((y.size:Int) != 0)
 | .ref p=>(∃xs,SqL K H p xs∧k=!xs.isEmpty)∨(∃xs,SqT K H p xs∧k=!xs.isEmpty)∨∃kvs,H p=some (.dK kvs)∧k=!kvs.isEmpty
 | _=>False
theorem Zg6 {κ:Type}{kvs:List (κ×V)}{vs:List (κ×Value)}(r:KV kvs vs):(!vs.isEmpty)=!kvs.isEmpty:=by
 cases r<;>rfl
theorem ZdV {xs:List V}{its:List Value}(r:Vals xs its):(!its.toArray.isEmpty)=!xs.isEmpty:=by
 cases r<;>simp
theorem Ze0:(sizeLine:Nat)<2 ^ 63:=by rw[sizeLine_eq];decide
theorem Zpe:TruR X (fun x H Q=>∃k,TruV X.K x H k∧Q k H):=by
 intro pins s σ H x v Q I rx h
 obtain⟨k,e,q⟩:=h
 have hl:=Ze0
 have hs:sizeLine=16777216:=sizeLine_eq
 cases x with
 | non=>
  cases rx
  have e':k=false:=e
  subst e'
  exact truthy_none ⟨H,I,q⟩
 | bl b=>
  cases rx
  have e':k=b:=e
  subst e'
  exact YBs ⟨H,I,q⟩
 | int i=>
  obtain⟨t,rfl⟩:=rx
  have e':k=(i != 0):=e
  subst e'
  exact PySem.P.truthy_int ⟨H,I,q⟩
 | str y=>
  obtain⟨t,rfl⟩:=rx
  obtain⟨hy,e'⟩:y.length≤sizeLine∧k=((y.length:Int) != 0):=e
  subst e'
  exact PySem.P.truthy_str (by omega) ⟨H,I.tok _,q⟩
 | byt y=>
  obtain⟨t,rfl⟩:=rx
  obtain⟨hy,e'⟩:y.size≤sizeLine∧k=((y.size:Int) != 0):=e
  subst e'
  exact PySem.W.truthy_bytes (by omega) ⟨H,I.tok _,q⟩
 | ref p=>
  cases rx
  have e':(∃xs,SqL X.K H p xs∧k=!xs.isEmpty)∨(∃xs,SqT X.K H p xs∧k=!xs.isEmpty)∨∃kvs,H p=some (.dK kvs)∧k=!kvs.isEmpty:=e
  rcases e' with⟨xs,hx,e'⟩|⟨xs,hx,e'⟩|⟨kvs,hx,e'⟩
  ·subst e'
   obtain⟨its,r,pl,hz⟩:=I.list hx
   have hlen:=r.length
   exact wpAny_truthy_list pl.isList (by simp only[YAH];omega) ⟨H,I.tok _,by rw[ZdV r];exact q⟩
  ·subst e'
   obtain⟨its,r,pl,hz⟩:=I.tuple hx
   have hlen:=r.length
   exact truthy_tuple pl (by simp only[YAH];omega) ⟨H,I.tok _,by rw[ZdV r];exact q⟩
  ·subst e'
   obtain⟨hz,hS,vs,r,m⟩:kvs.length≤sizeLine∧(p == sysModules)=false∧∃vs,KV kvs vs∧s.heap.DictOf (ZaL X.prog X.w) p vs:=I.hok p _ hx
   have hlen:kvs.length=vs.length:=Paired.length r
   exact wpAny_truthy_dict hS m (by omega) ⟨H,I.tok _,by rw[Zg6 r];exact q⟩
 | _=>exact(show False from e).elim
theorem ZgQ:OpR X (binaryOp .Add) (fun x y H Q=>∃i j,x=.str i∧y=.str j∧i.length+j.length≤sizeLine∧Q (.str (i++j)) H):=by
 intro pins s σ H x y v u Q I rx ry h
 obtain⟨i,j,rfl,rfl,hz,q⟩:=h
 obtain⟨t,rfl⟩:=rx
 obtain⟨t',rfl⟩:=ry
 exact add_str (fun t' tk=>⟨.str (i++j),H,I.tok _,⟨_,rfl⟩,q⟩) hz
theorem vals1 {x:V}{us:List Value}(r:Vals [x] us):∃u,us=[u]∧RelV x u:=by
 cases r with
 | cons r1 r2=>cases r2;exact⟨_,rfl,r1⟩
def LenV (K:PySem.W.Frag)(x:V)(H:Hp)(n:Nat):Prop:=
 match x with
 | .str y=>y.length≤sizeLine∧n=y.length
 | .byt y=>y.size≤sizeLine∧n=y.size
 | .ref p=>(∃xs,SqL K H p xs∧n=xs.length)∨∃xs,SqT K H p xs∧n=xs.length
 | _=>False
theorem Zjx:Zch X (.builtin "len") (fun xs H Q=>∃x n,xs=[x]∧LenV X.K x H n∧Q (.int n) H):=by
 intro pins s σ H xs us Q I r h
 obtain⟨x,n,rfl,e,q⟩:=h
 obtain⟨u,rfl,rx⟩:=vals1 r
 have hl:=Ze0
 have hs:sizeLine=16777216:=sizeLine_eq
 cases x with
 | str y=>
  obtain⟨t,rfl⟩:=rx
  obtain⟨hy,e'⟩:y.length≤sizeLine∧n=y.length:=e
  subst e'
  exact len_str (by omega) ⟨.int _,H,I.tok _,⟨_,rfl⟩,q⟩
 | byt y=>
  obtain⟨t,rfl⟩:=rx
  obtain⟨hy,e'⟩:y.size≤sizeLine∧n=y.size:=e
  subst e'
  exact PySem.W.len_bytes (by omega) ⟨.int _,H,I.tok _,⟨_,rfl⟩,q⟩
 | ref p=>
  cases rx
  have e':(∃xs,SqL X.K H p xs∧n=xs.length)∨∃xs,SqT X.K H p xs∧n=xs.length:=e
  rcases e' with⟨xs,hx,e'⟩|⟨xs,hx,e'⟩
  ·subst e'
   obtain⟨its,r',pl,hz⟩:=I.list hx
   have hlen:=r'.length
   exact Calls.call_len_list pl.isList (by simp only[YAH];omega) ⟨.int xs.length,H,I.tok _,⟨_,by simp only[YAH];rw[hlen]⟩,q⟩
  ·subst e'
   obtain⟨its,r',pl,hz⟩:=I.tuple hx
   have hlen:=r'.length
   exact len_tuple pl (by simp only[YAH];omega) ⟨.int xs.length,H,I.tok _,⟨_,by simp only[YAH];rw[hlen]⟩,q⟩
 | _=>exact(show False from e).elim
end
structure ObjM (h:Heap)(x dx C:Addr)(mA:Str→Option Value):Prop where
 obj:h.get? x=some (PySem.W.instObj C dx)
 ns:h.Ns1 dx mA
 ne:dx≠x
theorem Zdn {h:Heap}{dx:Addr}{mA:Str→Option Value}(n:h.Ns1 dx mA):∃od,h.get? dx=some od∧∀name,PySem.W.lookIn name od=some (mA name):=by
 obtain⟨o,es,ep,ho,hd,hk,_,hm⟩:=n
 refine⟨o,ho,fun name=>?_⟩
 have e:=hm name
 unfold nsFind findBy at e
 rw[←Array.find?_toList]at e
 unfold PySem.W.lookIn
 rw[hd]
 dsimp only
 split
 ·rename_i y q
  rw[q]at e
  exact congrArg some e
 ·rename_i q
  rw[q]at e
  have a:es.toList.any (·.refKey)=false:=by
   rw[List.any_eq_false]
   intro y hy
   obtain⟨z,t,hkey⟩:=hk y (Array.mem_toList_iff.mp hy)
   simp[DictEntry.refKey,hkey]
  have a':¬es.toList.any (·.refKey)=true:=by rw[a];exact YAE
  rw[YAJ a']
  exact congrArg some e
theorem ObjM.look {h:Heap}{x dx C:Addr}{mA:Str→Option Value}(I:ObjM h x dx C mA):∃od,PySem.W.InstAt h x (PySem.W.instObj C dx) C (some od)∧∀name,PySem.W.lookIn name od=some (mA name):=
 let ⟨od,ho,hl⟩:=Zdn I.ns
 ⟨od,⟨I.obj,rfl,rfl,ho⟩,hl⟩
section
variable {prog:Program}{w:World}{A:Around}{E:Value→Shared→Prop}{s:Shared}{K:PySem.W.Frag}{x dx C f:Addr}{mA:Str→Option Value}{name:Str}{v:Value}
theorem Zk6 {expr:Bool}{Q:Value→Shared→Prop}(X:K.In s.heap)(I:ObjM s.heap x dx C mA)(hg:PySem.W.plainGet K C name=true)(hh:PySem.W.hasDictIn K C=true)
  (ha:PySem.W.findIn K (.ref C) name=some none) (hv:mA name=some v) (hv':PySem.W.handedIn v=true) (h:Q v { s with toks:=s.toks+1 }):
  wpAny (model prog w) A (getAttr (.ref x) name expr) Q E s:=by
 obtain⟨od,J,hl⟩:=I.look
 exact PySem.W.get_value X J (PySem.W.plainGet_of hg).1 (PySem.W.findObj_own hh ha rfl (by rw[hl,hv])) hv' h
theorem Zjk {pl:Sem Bool}{Q:Value×List Value→Shared→Prop}(X:K.In s.heap)(I:ObjM s.heap x dx C mA)(hg:PySem.W.plainGet K C name=true)
  (hf:PySem.W.findIn K (.ref C) name=some (some (.ref f))) (ht:PySem.W.isFn K (.ref f)=true) (hv:mA name=none) (h:Q (.ref f,[.ref x]) s):
  wpAny (model prog w) A (getMethod (.ref x) name pl) Q E s:=by
 obtain⟨od,J,hl⟩:=I.look
 exact PySem.W.method_fn X J (PySem.W.plainGet_of hg).1 (PySem.W.plainGet_of hg).2 hf (beq_iff_eq.mp ht) (by show (PySem.W.lookIn name od).map (·.isSome)=some false;rw[hl,hv];rfl) h
theorem Zkl {ns:List Str}{Q:Unit→Shared→Prop}(X:K.In s.heap)(I:ObjM s.heap x dx C mA)
  (hs:PySem.W.findIn K (.ref C) "__setattr__"=some (some (.builtin "object.__setattr__"))) (hp:PySem.W.plainOver K C=true) (ht:PySem.W.takerIn K C name=some none) (hh:PySem.W.hasDictIn K C=true)
  (hw:PySem.Within mA ns) (hsz:ns.length≤sizeLine)
  (h:∀h',ObjM h' x dx C (fun y=>if y=name then some v else mA y)→Heap.SameBut dx s.heap h'→Q () { s with heap:=h',toks:=s.toks+2 }):
  wpAny (model prog w) A (setAttr (.ref x) name v) Q E s:=by
 obtain⟨od,J,hl⟩:=I.look
 refine PySem.W.set_plain X J hs (PySem.W.osa_open (s:={ s with toks:=s.toks+1 }) (r:=none) X J hp ht fun b=>?_)
 obtain⟨cd,hc,hd'⟩:=YCS hh
 have hx:s.heap.get? x=some ⟨.ref C,some dx,.plain,#[]⟩:=I.obj
 refine YAA (YAC (YAA (YAA (wpAny_loadPart hx (YAA (PySem.W.Looks.here (s:={ s with toks:=s.toks+1 }) (PySem.W.looks_clsIn X hc) ?_))))))
 rw[hd']
 refine YAC (a:=some dx) (YAA (YAC (YAA ?_)))
 refine wpAny_nsSet1 (s:={ s with toks:=s.toks+1 }) I.ns fun h' hn2 hs2=>?_
 obtain⟨oD,esD,epD,hoD,hdD,hcD⟩:=hn2.count (PySem.Within.cons name v hw)
 refine YAA (wpAny_lookBehind hoD (by rw[hdD];exact pastItsLine_dict (YAQ hcD (by rw[YAp];omega))) ?_)
 exact YAC (h _ ⟨(hs2.2 _ (YAw I.ne)).trans I.obj,hn2,I.ne⟩ hs2)
theorem Zja {R:Result→Shared→Prop}{vs:List Value}{kw:List (Str×Value)}(X:K.In s.heap)(hm:PySem.W.makesIn K C=true)
  (hi:PySem.W.findIn K (.ref C) "__init__"=some (some (.ref f))) (hf:PySem.W.typeIn K (.ref f)=some (.type "function"))
  (h:codeAny (model prog w) (A.under (.builtin "type.__call__" ⟨.ref C::vs,kw⟩)) (.call (.ref f) ⟨.ref (s.heap.objs.size+1)::vs,kw⟩) (PySem.W.InitBack (s.heap.objs.size+1) R)
   { s with heap:=(s.heap.push PySem.W.emptyDict).push (PySem.W.instObj C s.heap.objs.size) }):
  codeAny (model prog w) A (.call (.ref C) ⟨vs,kw⟩) R s:=by
 obtain⟨hh,g,d,t,os⟩:=s
 exact PySem.W.make_core (PySem.W.makes_of X hm) (YBh X hi) (fun self=>PySem.W.bind_fn X self hf) (.inl rfl) h
end
def putF (f:Str)(v:V):List (Str×V)→List (Str×V)
 | []=>[(f,v)]
 | (g,x)::r=>if g=f then (g,v)::r else (g,x)::putF f v r
theorem Zaq (f g:Str)(v:V):∀fs:List (Str×V),(putF f v fs).lookup g=if g=f then some v else fs.lookup g
 | []=>by
  show List.lookup g [(f,v)]=_
  by_cases h:g=f
  ·have hb:(g == f)=true:=beq_iff_eq.mpr h
   simp only[List.lookup,hb,YAO h]
  ·have hb:(g == f)=false:=beq_eq_false_iff_ne.mpr h
   simp only[List.lookup,hb,YAJ h]
 | (k,x)::r=>by
  have ih:=Zaq f g v r
  rw[show putF f v ((k,x)::r)=(if k=f then (k,v)::r else (k,x)::putF f v r) from rfl]
  by_cases hk:k=f
  ·rw[YAO hk]
   by_cases h:g=k
   ·have hb:(g == k)=true:=beq_iff_eq.mpr h
    simp only[List.lookup,hb,YAO (h.trans hk)]
   ·have hb:(g == k)=false:=beq_eq_false_iff_ne.mpr h
    simp only[List.lookup,hb,YAJ (fun e:g=f=>h (e.trans hk.symm))]
  ·rw[YAJ hk]
   by_cases h:g=k
   ·have hb:(g == k)=true:=beq_iff_eq.mpr h
    simp only[List.lookup,hb,YAJ (fun e:g=f=>hk (h.symm.trans e))]
   ·have hb:(g == k)=false:=beq_eq_false_iff_ne.mpr h
    simp only[List.lookup,hb]
    exact ih
theorem ZbS (f:Str)(v:V):∀fs:List (Str×V),f∈(putF f v fs).map (·.1)∧∀g,g∈fs.map (·.1)→g∈(putF f v fs).map (·.1)
 | []=>⟨by simp[putF],fun g h=>by simp at h⟩
 | (k,x)::r=>by
  obtain⟨i1,i2⟩:=ZbS f v r
  rw[show putF f v ((k,x)::r)=(if k=f then (k,v)::r else (k,x)::putF f v r) from rfl]
  by_cases hk:k=f
  ·rw[YAO hk]
   subst hk
   exact⟨by simp,fun g h=>by simpa using h⟩
  ·rw[YAJ hk]
   refine⟨?_,fun g h=>?_⟩
   ·rw[YAg]
    exact YAZ _ i1
   ·rw[YAg]at h ⊢
    rcases YAM.mp h with e | e
    ·exact YAM.mpr (.inl e)
    ·exact YAZ _ (i2 g e)
theorem Zcb (f:Str)(v:V):∀fs:List (Str×V),(putF f v fs).length≤fs.length+1
 | []=>by simp[putF]
 | (k,x)::r=>by
  have ih:=Zcb f v r
  rw[show putF f v ((k,x)::r)=(if k=f then (k,v)::r else (k,x)::putF f v r) from rfl]
  by_cases hk:k=f
  ·rw[YAO hk,YAp,YAp];omega
  ·rw[YAJ hk,YAp,YAp];omega
theorem RelO.some_of {v:V}{o:Option Value}(r:RelO (some v) o):∃u,o=some u∧RelV v u:=by
 cases o with
 | none=>exact(show False from r).elim
 | some u=>exact⟨u,rfl,r⟩
theorem RelO.none_of {o:Option Value}(r:RelO none o):o=none:=by
 cases o with
 | none=>rfl
 | some u=>exact(show False from r).elim
theorem Zfd {v:V}{u:Value}(r:RelV v u):PySem.W.handedIn u=true:=by
 cases v with
 | non=>cases (show u=Value.none from r);rfl
 | bl b=>cases (show u=Value.bool b from r);rfl
 | int i=>obtain⟨t,e⟩:=(show ∃t,u=Value.int i t from r);cases e;rfl
 | str x=>obtain⟨t,e⟩:=(show ∃t,u=Value.str x t from r);cases e;rfl
 | byt b=>obtain⟨t,e⟩:=(show ∃t,u=Value.bytes b t from r);cases e;rfl
 | flt b=>obtain⟨t,e⟩:=(show ∃t,u=Value.float b t from r);cases e;rfl
 | ref a=>cases (show u=Value.ref a from r);rfl
 | ty n=>cases (show u=Value.type n from r);rfl
section
variable {P:Program}{w:World}{H H':Hp}{h h':Heap}{a C dx:Addr}{fs fs':List (Str×V)}
theorem Zek (hok:HOk P w H h)(e:H a=some (.ins C dx fs)):∃mA,ObjM h a dx C mA∧(∀f,RelO (fs.lookup f) (mA f))∧PySem.Within mA (fs.map (·.1))∧fs.length≤1000∧H dx=some (.own a):=by
 obtain⟨d,z,ne,ob,mA,n,r,q⟩:=(show ObjOk P w H h a (.ins C dx fs) from hok a _ e)
 exact⟨mA,⟨ob,n,ne⟩,r,q,z,d⟩
end
structure Cls (K:PySem.W.Frag)(C:Addr):Prop where
 pg:PySem.W.plainGet K C Str.empty=true
 hd:PySem.W.hasDictIn K C=true
 po:PySem.W.plainOver K C=true
 sa:PySem.W.findIn K (.ref C) "__setattr__"=some (some (.builtin "object.__setattr__"))
theorem Cls.get {K:PySem.W.Frag}{C:Addr}(c:Cls K C)(f:Str):PySem.W.plainGet K C f=true:=c.pg
def NoAttr (K:PySem.W.Frag)(C:Addr)(f:Str):Prop:=PySem.W.findIn K (.ref C) f=some none
theorem NoAttr.taker {K:PySem.W.Frag}{C:Addr}{f:Str}(n:NoAttr K C f):PySem.W.takerIn K C f=some none:=by
 unfold PySem.W.takerIn
 rw[show PySem.W.findIn K (.ref C) f=some none from n]
 rfl
structure Meth (K:PySem.W.Frag)(C:Addr)(m:Str)(f:Addr):Prop where
 at_:PySem.W.findIn K (.ref C) m=some (some (.ref f))
 fn:PySem.W.isFn K (.ref f)=true
 kp:PySem.W.keepIn K (.ref f)=true
section
variable {X:Cx}{pins:List (Addr×Obj)}{σ:St}{H:Hp}{s:Shared}{a C dx:Addr}{fs:List (Str×V)}{f:Str}{v:V}{A:Around}{E:Value→Shared→Prop}
theorem Zg7 {b:Bool}{Q:Value→Shared→Prop}(I:Inv X pins σ H s)(e:H a=some (.ins C dx fs))(c:Cls X.K C)(n:NoAttr X.K C f)(l:fs.lookup f=some v)
  (h:∀u s',Inv X pins σ H s'→RelV v u→Q u s'):wpAny (model X.prog X.w) A (getAttr (.ref a) f b) Q E s:=by
 obtain⟨mA,O,r,_,_,_⟩:=Zek I.hok e
 obtain⟨u,hu,ru⟩:=RelO.some_of (v:=v) (o:=mA f) (by rw[←l];exact r f)
 exact Zk6 I.kIn O (c.get f) c.hd n hu (Zfd ru) (h u _ (I.tok _) ru)
theorem ZcE {m:Str}{g:Addr}{pl:Sem Bool}{Q:Value×List Value→Shared→Prop}(I:Inv X pins σ H s)(e:H a=some (.ins C dx fs))(c:Cls X.K C)(k:Meth X.K C m g)(l:fs.lookup m=none)
  (h:Q (.ref g,[.ref a]) s):wpAny (model X.prog X.w) A (getMethod (.ref a) m pl) Q E s:=by
 obtain⟨mA,O,r,_,_,_⟩:=Zek I.hok e
 have hn:mA m=none:=RelO.none_of (by rw[←l];exact r m)
 exact Zjk I.kIn O (c.get m) k.at_ k.fn hn h
theorem ZgK {y:V}{u:Value}{Q:Unit→Shared→Prop}(I:Inv X pins σ H s)(e:H a=some (.ins C dx fs))(c:Cls X.K C)(n:NoAttr X.K C f)(hl:fs.length<1000)(ry:RelV y u)
  (h:∀s',Inv X pins σ (upd H a (.ins C dx (putF f y fs))) s'→Q () s'):wpAny (model X.prog X.w) A (setAttr (.ref a) f u) Q E s:=by
 obtain⟨mA,O,r,wi,_,ho⟩:=Zek I.hok e
 have hz:(fs.map (·.1)).length≤sizeLine:=by rw[YAD,sizeLine_eq];omega
 refine Zkl I.kIn O c.sa c.po n.taker c.hd wi hz fun h' O' sb=>h _ ?_
 have hd:∃o,h'.get? dx=some o:=let ⟨o,_,_,e',_⟩:=O'.ns;⟨o,e'⟩
 refine I.write (x:=a) (e:=dx) (by rw[e];exact True.intro) (.inr ho) (fun b q hb z=>(sb.2 b hb).trans z) hd ?_
 refine⟨by rw[Zaf O.ne];exact ho,?_,O.ne,O'.obj,_,O'.ns,fun g=>?_,fun g hg=>?_⟩
 ·have:=Zcb f y fs;omega
 ·show RelO ((putF f y fs).lookup g) (if g=f then some u else mA g)
  rw[Zaq]
  by_cases q:g=f
  ·rw[YAO q,YAO q];exact ry
  ·rw[YAJ q,YAJ q];exact r g
 ·by_cases q:g=f
  ·rw[q];exact(ZbS f y fs).1
  ·refine(ZbS f y fs).2 g (wi g fun z=>hg ?_)
   show (if g=f then some u else mA g)=none
   rw[YAJ q];exact z
theorem Inv.made (I:Inv X pins σ H s):Inv X pins σ (upd (upd H s.heap.objs.size (.own (s.heap.objs.size+1))) (s.heap.objs.size+1) (.ins C s.heap.objs.size []))
  { s with heap:=(s.heap.push PySem.W.emptyDict).push (PySem.W.instObj C s.heap.objs.size) }:=by
 have e1:(s.heap.push PySem.W.emptyDict).get? s.heap.objs.size=some PySem.W.emptyDict:=YAF s.heap rfl
 have e2:((s.heap.push PySem.W.emptyDict).push (PySem.W.instObj C s.heap.objs.size)).get? (s.heap.objs.size+1)=some (PySem.W.instObj C s.heap.objs.size):=by
  have:=YAF (s.heap.push PySem.W.emptyDict) (o:=PySem.W.instObj C s.heap.objs.size) rfl
  rwa [YAs]at this
 have e3:(s.heap.push PySem.W.emptyDict).Ns s.heap.objs.size (fun _=>none):=⟨PySem.W.emptyDict,#[],_,e1,rfl,(fun e he=>absurd he (by simp)),fun _=>rfl⟩
 have I1:=I.laid (a:=s.heap.objs.size) (o:=.own (s.heap.objs.size+1)) (h':=s.heap.push PySem.W.emptyDict) (t':=s.toks) (fun b u q=>YAB _ q) (YAP _) ⟨_,e1⟩
 refine I1.laid (a:=s.heap.objs.size+1) (o:=.ins C s.heap.objs.size []) (t':=s.toks) (fun b u q=>YAB _ q) (YCQ (YAs _ _)) ?_
 have ne:s.heap.objs.size≠s.heap.objs.size+1:=YAY (Nat.lt_succ_self _)
 refine⟨by rw[Zaf ne,Zae],YBI _,ne,e2,fun _=>none,(Heap.Ns1.of_empty e3).at fun o q=>YAB _ q,fun _=>True.intro,fun y hy=>absurd rfl hy⟩
theorem Ziz {prog:Program}{w:World}{env:Env}{e:Expr}{f:Str}{pos:Pos}{s:Shared}{Q:Value→Shared→Prop}(hb:attributeBase e f env (eval e env)=eval e env)
  (h:wpAny (model prog w) A (eval e env) (fun o s₁=>wpAny (model prog w) A (getAttr o f true) Q E s₁) E s):wpAny (model prog w) A (eval (.Attribute e f pos) env) Q E s:=
 Attribute_any_ h (by rw[arm_eval_Attribute,hb])
end
def tFld (K:PySem.W.Frag)(ta:TE)(f:Str):TE:=fun σ H Q=>ta σ H fun x H1=>∃a C dx fs v,x=.ref a∧H1 a=some (.ins C dx fs)∧Cls K C∧NoAttr K C f∧fs.lookup f=some v∧Q v H1
def sFld (K:PySem.W.Frag)(ta tv:TE)(f:Str):TS:=fun D σ H=>tv σ H fun y H1=>ta σ H1 fun x H2=>∃a C dx fs,x=.ref a∧H2 a=some (.ins C dx fs)∧Cls K C∧NoAttr K C f∧fs.length<1000 ∧
 D.nx σ (upd H2 a (.ins C dx (putF f y fs)))
section
variable {X:Cx}{o e value:Expr}{f:Str}{pos pos' tpos:Pos}{ta tv:TE}
theorem Zl9 (he:PE X e ta)(hb:attributeBase e f X.env (eval e X.env)=eval e X.env):PE X (.Attribute e f pos) (tFld X.K ta f):=by
 intro pins s σ H Q I h
 refine Ziz hb (thn (he pins s σ H _ I h) fun u s1 ⟨x,H1,I1,rx,a,C,dx,fs,v,ex,ea,c,n,l,q⟩=>?_)
 subst ex
 obtain rfl:u=Value.ref a:=rx
 exact Zg7 I1 ea c n l fun u' s2 I2 ru=>⟨v,H1,I2,ru,q⟩
theorem ZdP (ha:PE X o ta)(hv:PE X value tv)(hs:swapsWith value (some (.Attribute o f pos')) pos.line X.env=pure false):PS X (.Assign [.Attribute o f pos'] value pos) (sFld X.K ta tv f):=by
 intro pins s σ H D I h
 refine plainObj_wpAny_Assign_Attribute (thn (hv pins s σ H _ I h) fun u s1 ⟨y,H1,I1,ry,q⟩=>thn (ha pins s1 σ H1 _ I1 q) fun ov s2 ⟨x,H2,I2,rx,a,C,dx,fs,ex,ea,c,n,l,q2⟩=>?_) hs
 subst ex
 obtain rfl:ov=Value.ref a:=rx
 exact ZgK I2 ea c n l ry fun s3 I3=>⟨σ,_,I3,q2⟩
theorem ZkL {pl:Sem Bool}{m:Str}{apos:Pos}{args:List Expr}{pins:List (Addr×Obj)}{s:Shared}{σ:St}{H:Hp}{Q:Value→Shared→Prop}{te:TE}(he:PE X e te)(I:Inv X pins σ H s)
  (h:te σ H fun x H1=>∃a C dx fs g,x=.ref a∧H1 a=some (.ins C dx fs)∧Cls X.K C∧Meth X.K C m g∧fs.lookup m=none ∧
   ∀s1,Inv X pins σ H1 s1→wpAny (model X.prog X.w) X.A (callWith pos (.ref g) [.ref a] (backTo pos (starEach args X.env)) (backToKw pos (keywordEach [] X.env))) Q X.xe s1)
  (ht:eval (.Call (.Attribute e m apos) args [] pos) X.env=(do
   let ov ←eval e X.env
   standAt apos.atName
   let (f,first) ←holding [ov] (getMethod ov m pl)
   callWith pos f first (backTo pos (starEach args X.env)) (backToKw pos (keywordEach [] X.env)))):
  wpAny (model X.prog X.w) X.A (eval (.Call (.Attribute e m apos) args [] pos) X.env) Q X.xe s:=by
 refine YCc (pl:=pl) (thn (he pins s σ H _ I h) fun u s1 ⟨x,H1,I1,rx,a,C,dx,fs,g,ex,ea,c,k,l,q⟩=>?_) ht
 subst ex
 obtain rfl:u=Value.ref a:=rx
 exact ZcE I1 ea c k l (q s1 I1)
end
section
variable {X:Cx}{pins:List (Addr×Obj)}{σ:St}{H:Hp}{s:Shared}{A:Around}{E:Value→Shared→Prop}{Q:Value→Shared→Prop}{c:Value}{b:Bool}
inductive TyOf (K:PySem.W.Frag) (H:Hp):V→Value→Prop where
 | non:TyOf K H .non (.type "NoneType")
 | bl (x:Bool):TyOf K H (.bl x) (.type "bool")
 | int (i:Int):TyOf K H (.int i) (.type "int")
 | str (x:Str):TyOf K H (.str x) (.type "str")
 | flt (x:UInt64):TyOf K H (.flt x) (.type "float")
 | lst {a:Addr} {xs:List V} (e:H a=some (.lst xs)):TyOf K H (.ref a) (.type "list")
 | frz {a:Addr} {o:Obj} {xs:List V} (e:H a=some (.frz o (.lst xs))):TyOf K H (.ref a) (.type "list")
 | tup {a:Addr} {xs:List V} (e:H a=some (.tup xs)):TyOf K H (.ref a) (.type "tuple")
 | dK {a:Addr} {kvs:List (Key×V)} (e:H a=some (.dK kvs)):TyOf K H (.ref a) (.type "dict")
 | dT {a:Addr} {kvs:List (List Key×V)} (e:H a=some (.dT kvs)):TyOf K H (.ref a) (.type "dict")
 | ins {a C dx:Addr} {fs:List (Str×V)} (e:H a=some (.ins C dx fs)) (cl:Cls K C) (ha:PySem.W.findIn K (.ref C) "__class__"=some (some (.builtin "object.__class__")))
   (hn:PySem.W.specialIn K (.builtin "object.__class__") "__get__"=some (some (.builtin "getset_descriptor.__get__"))) (htk:PySem.W.takesIn K (.builtin "object.__class__")=some true)
   (hm:PySem.W.mroIn K C (.type "object")=some true):TyOf K H (.ref a) (.ref C)
theorem Zh9 {x:V}{u t:Value}(I:Inv X pins σ H s)(rx:RelV x u)(ty:TyOf X.K H x t)(e:PySem.W.kitOne X.K t c=some b)(h:∀tk,Q (.bool b) { s with toks:=tk }):
  wpAny (model X.prog X.w) A (call (.builtin "isinstance") [u,c]) Q E s:=by
 cases ty with
 | non=>cases (show u=Value.none from rx);exact YBF PySem.W.kitx_none I.kIn True.intro e (fun z=>nomatch z) h
 | bl y=>cases (show u=Value.bool y from rx);exact YBF PySem.W.kitx_bool I.kIn True.intro e (fun z=>nomatch z) h
 | int i=>obtain⟨t,q⟩:=(show ∃t,u=Value.int i t from rx);cases q;exact YBF PySem.W.kitx_int I.kIn True.intro e (fun z=>nomatch z) h
 | str y=>obtain⟨t,q⟩:=(show ∃t,u=Value.str y t from rx);cases q;exact YBF PySem.W.kitx_str I.kIn True.intro e (fun z=>nomatch z) h
 | flt y=>obtain⟨t,q⟩:=(show ∃t,u=Value.float y t from rx);cases q;exact YBF PySem.W.kitx_float I.kIn True.intro e (fun z=>nomatch z) h
 | @lst a xs ea=>
  cases (show u=Value.ref a from rx)
  obtain⟨_,_,n,_,h1⟩:=(show ObjOk X.prog X.w H s.heap a (.lst xs) from I.hok a _ ea)
  exact YBF YCk I.kIn ⟨_,h1,rfl⟩ e (fun z=>nomatch z) h
 | @frz a ob xs ea=>
  cases (show u=Value.ref a from rx)
  obtain⟨_,_,_,n,_,h1⟩:=(show ObjOk X.prog X.w H s.heap a (.frz ob (.lst xs)) from I.hok a _ ea)
  exact YBF YCk I.kIn ⟨_,h1,rfl⟩ e (fun z=>nomatch z) h
 | @tup a xs ea=>
  cases (show u=Value.ref a from rx)
  obtain⟨_,_,_,p⟩:=(show ObjOk X.prog X.w H s.heap a (.tup xs) from I.hok a _ ea)
  obtain⟨o,h1,h2,_⟩:=p
  exact YBF YDa I.kIn ⟨o,h1,h2⟩ e (fun z=>nomatch z) h
 | @dK a kvs ea=>
  cases (show u=Value.ref a from rx)
  obtain⟨_,_,vs,_,p⟩:=(show ObjOk X.prog X.w H s.heap a (.dK kvs) from I.hok a _ ea)
  obtain⟨o,es,ep,h1,h2,_⟩:=p
  exact YBF PySem.W.kitx_dict I.kIn ⟨o,h1,h2.1⟩ e (fun z=>nomatch z) h
 | @dT a kvs ea=>
  cases (show u=Value.ref a from rx)
  obtain⟨_,_,xs,_,o,es,ep,h1,h2,_⟩:=(show ObjOk X.prog X.w H s.heap a (.dT kvs) from I.hok a _ ea)
  exact YBF PySem.W.kitx_dict I.kIn ⟨o,h1,h2.1⟩ e (fun z=>nomatch z) h
 | @ins a C dx fs ea cl ha hn htk hm=>
  cases (show u=Value.ref a from rx)
  obtain⟨mA,O,_⟩:=Zek I.hok ea
  obtain⟨od,J,_⟩:=O.look
  exact YBF (PySem.W.kitx_own (cl.get _) cl.hd ha hn htk hm) I.kIn J e (fun z=>nomatch z) h
end
structure Room (k:Nat)(A:Around):Prop where
 hd:A.handled=none
 dp:A.depth+3*k+5<recursionLimit
 un:A.units+16*k+200<cLine
theorem Room.mono {j k:Nat}{A:Around}(r:Room k A)(h:j≤k):Room j A:=⟨r.hd,by have:=r.dp;omega,by have:=r.un;omega⟩
theorem Room.deeper {k:Nat}{A:Around}(r:Room (k+1) A)(env:Env):Room k (A.deeper env):=
 ⟨r.hd,by have:=r.dp;show A.depth+1+3*k+5<_;omega,by have:=r.un;show A.units+3+16*k+200<_;omega⟩
theorem Room.in1 {k:Nat}{A:Around}(r:Room (k+1) A):Room k A.in1:=
 ⟨r.hd,by have:=r.dp;show A.depth+3*k+5<_;omega,by have:=r.un;show A.units+1+16*k+200<_;omega⟩
theorem ZgZ {A:Around}{C:Addr}{us:List Value}{kw:List (Str×Value)}:(A.under (.builtin "type.__call__" ⟨.ref C::us,kw⟩)).depth=A.depth+1:=by
 first | rfl | simp[Around.under,Code.weight,Code.isCreation,Code.isGuard,Code.isCaller,Code.frames,Code.isFrame,guardIds]
theorem ZgY {A:Around}{C:Addr}{us:List Value}{kw:List (Str×Value)}:(A.under (.builtin "type.__call__" ⟨.ref C::us,kw⟩)).units=A.units+1:=by
 first | rfl | simp[Around.under,Code.cUnits,Code.frames,Code.isFrame]
theorem Room.make {k:Nat}{A:Around}(r:Room (k+1) A)(C:Addr)(us:List Value)(kw:List (Str×Value)):Room k (A.under (.builtin "type.__call__" ⟨.ref C::us,kw⟩)):=
 ⟨r.hd,by have:=r.dp;rw[ZgZ];omega,by have:=r.un;rw[ZgY];omega⟩
theorem Room.depth {k:Nat}{A:Around}(r:Room k A):A.depth<recursionLimit:=by have:=r.dp;omega
theorem Room.units {k:Nat}{A:Around}(r:Room k A):A.units+64<cLine:=by have:=r.un;omega
def tNil:TA:=fun _ H Q=>Q [] H
def Zkf (ta:TE)(tr:TA):TA:=fun σ H Q=>ta σ H fun x H1=>tr σ H1 fun xs H2=>Q (x::xs) H2
section
variable {X:Cx}{e:Expr}{es:List Expr}{te:TE}{t:TA}{pos:Pos}
theorem Zab:PA X [] tNil:=fun _ _ _ _ H Q I h=>Calls.spliced_nil ⟨[],H,I,.nil,h⟩
theorem Zaa (ha:PE X e te)(hr:PA X es t)(hs:starEach (e::es) X.env=(false,eval e X.env)::starEach es X.env:=by rfl):PA X (e::es) (Zkf te t):=by
 intro pos pins s σ H Q I h
 rw[hs]
 show wpAny _ _ (spliced ((false,eval e X.env)::backTo pos (starEach es X.env))) _ _ s
 refine YDc (thn (ha pins s σ H _ I h) fun u s1 ⟨x,H1,I1,r1,q1⟩=>?_)
 exact thn (hr pos pins s1 σ H1 _ I1 q1) fun us s2 ⟨xs,H2,I2,r2,q2⟩=>⟨x::xs,H2,I2,.cons r1 r2,q2⟩
def tTup (t:TA):TE:=fun σ H Q=>t σ H fun xs H1=>xs.length≤sizeLine∧∀p,H1 p=none→Q (.ref p) (upd H1 p (.tup xs))
def tLst (t:TA):TE:=fun σ H Q=>t σ H fun xs H1=>xs.length≤sizeLine∧∀p,H1 p=none→Q (.ref p) (upd H1 p (.lst xs))
theorem Zbl {x1}(h:PA X es t):PE X (.Tuple es x1 pos) (tTup t):=by
 intro pins s σ H Q I hq
 refine wpAny_Tuple_spliced (thn (h pos pins s σ H _ I hq) fun us s1 ⟨xs,H1,I1,r,z,q⟩=>⟨by rw[←r.length];exact z,?_⟩)
 have hf:H1 s1.heap.objs.size=none:=I1.hok.fresh (YAP _)
 refine⟨.ref s1.heap.objs.size,upd H1 s1.heap.objs.size (.tup xs),I1.laid (t':=s1.toks) (fun b u e=>YAB _ e) (YAP _) ?_,rfl,q _ hf⟩
 exact⟨z,us,r,⟨_,YAF _ rfl,rfl,_,rfl⟩⟩
theorem Zdh (h:PA X es t):PE X (.List es pos) (tLst t):=by
 intro pins s σ H Q I hq
 refine wpAny_List_spliced (thn (h pos pins s σ H _ I hq) fun us s1 ⟨xs,H1,I1,r,z,q⟩=>⟨by rw[←r.length];exact z,?_⟩)
 have hf:H1 s1.heap.objs.size=none:=I1.hok.fresh (YAP _)
 refine⟨.ref s1.heap.objs.size,upd H1 s1.heap.objs.size (.lst xs),I1.laid (t':=s1.toks) (fun b u e=>YAB _ e) (YAP _) ?_,rfl,q _ hf⟩
 exact⟨z,us,0,r,YAF _ rfl⟩
end
abbrev Sp:=List V→Hp→VK→XK→Prop
abbrev CXT:=List Env→Hp→Shared→XK→Value→Shared→Prop
structure Env0 (P:Program)(w:World)(K:PySem.W.Frag)(mg:Str→Option Value)(base:Heap)(A:Around)(outer:List Env)(s:Shared)(H:Hp):Prop where
 frames:A.frames=some outer
 mod:Mod K mg base
 bs:∀b o,base.get? b=some o→s.heap.get? b=some o∧H b=none
 bsz:base.objs.size≤s.heap.objs.size
 funs:s.heap.FunFrames base outer
 frf:∀b∈frs outer,H b=none
 hok:HOk P w H s.heap
 bare:AllBare s.gens
def CE (outer:List Env)(P:Program)(w:World)(H:Hp)(s:Shared)(Q:VK)(u:Value)(s':Shared):Prop:=
 ∃v H',s'.os=s.os∧AllBare s'.gens∧Un (frs outer) [] H H' s.heap s'.heap∧HOk P w H' s'.heap∧RelV v u∧Q v H'
def CR (CX:CXT)(outer:List Env)(P:Program)(w:World)(H:Hp)(s:Shared)(Q:VK)(E:XK)(r:Result)(s':Shared):Prop:=
 match r with
 | .ok (.ret u)=>CE outer P w H s Q u s'
 | .ok _=>False
 | .error e=>CX outer H s E e s'
structure FnOk (P:Program)(w:World)(K:PySem.W.Frag)(mg:Str→Option Value)(base:Heap)(CX:CXT)(k:Nat)(f:Addr)(fd:FuncData)(ps:List Str)(sp:Sp):Prop where
 len:∀vs H Q E,sp vs H Q E→vs.length=ps.length
 run:∀(A:Around) (outer:List Env) (s:Shared) (H:Hp) (args:Args) (us:List Value) (vs:List V) (Q:VK) (E:XK),Room k A→Env0 P w K mg base A outer s H→BindsTo s fd args (ps.zip us)→Vals vs us→sp vs H Q E →
  codeAny (model P w) A (.call (.ref f) args) (CR CX outer P w H s Q E) s
theorem Env0.make {P:Program}{w:World}{K:PySem.W.Frag}{mg:Str→Option Value}{base:Heap}{A:Around}{outer:List Env}{s:Shared}{H:Hp}(e:Env0 P w K mg base A outer s H)(C:Addr)(us:List Value)(kw:List (Str×Value)):
  Env0 P w K mg base (A.under (.builtin "type.__call__" ⟨.ref C::us,kw⟩)) outer s H:=⟨by first | exact e.frames | (simpa [Around.under,Code.envs,Code.isFrame,pushEnvs] using e.frames),e.mod,e.bs,e.bsz,e.funs,e.frf,e.hok,e.bare⟩
theorem Env0.in1 {P:Program}{w:World}{K:PySem.W.Frag}{mg:Str→Option Value}{base:Heap}{A:Around}{outer:List Env}{s:Shared}{H:Hp}(e:Env0 P w K mg base A outer s H):
  Env0 P w K mg base A.in1 outer s H:=⟨e.frames,e.mod,e.bs,e.bsz,e.funs,e.frf,e.hok,e.bare⟩
section
variable {X:Cx}{pins:List (Addr×Obj)}{σ:St}{H:Hp}{s s':Shared}
theorem Inv.env0 (I:Inv X pins σ H s):Env0 X.prog X.w X.K X.mg X.base X.A X.stack s H:=
 ⟨I.ok.frames,I.ok.mod,I.bs,YAQ I.ok.bsz I.sz,I.stack,I.stkFree,I.hok,I.bare⟩
theorem Inv.after {Q:VK}{u:Value}(I:Inv X pins σ H s)(h:CE X.stack X.prog X.w H s Q u s'):EP X pins σ Q u s':=by
 obtain⟨v,H',os,bare,un,hok,r,q⟩:=h
 obtain⟨hh,g,d,t,os'⟩:=s'
 obtain rfl:os'=s.os:=os
 exact⟨v,H',I.call (h':=hh) (g':=g) (d':=d) (t':=t) (ch:=[]) un hok bare (fun b z=>absurd z (by simp)),r,q⟩
end
def Zkh (sp:Sp)(dvs:List V)(E:XK)(t:TA):TE:=fun σ H Q=>t σ H fun vs H1=>sp (vs++dvs) H1 Q E
def Zkc (C:Addr)(m:Str)(sp:Sp)(dvs:List V)(E:XK)(ta:TE)(t:TA):TE:=fun σ H Q=>ta σ H fun x H1=>∃a dx fs,x=.ref a∧H1 a=some (.ins C dx fs)∧fs.lookup m=none ∧
 t σ H1 fun vs H2=>sp (x::(vs++dvs)) H2 Q E
def ZlC (C:Addr)(sp:Sp)(dvs:List V)(E:XK)(t:TA):TE:=fun σ H Q=>t σ H fun vs H1=>∀x dx,H1 x=none→H1 dx=none→dx≠x →
 sp (.ref x::(vs++dvs)) (upd (upd H1 dx (.own x)) x (.ins C dx [])) (fun v H2=>v=.non∧Q (.ref x) H2) E
def Binds (K:PySem.W.Frag)(fd:FuncData)(ps:List Str)(ds:List Value):Prop:=
 ∀(s:Shared) (us:List Value),K.In s.heap→(us++ds).length=ps.length→BindsTo s fd ⟨us,[]⟩ (ps.zip (us++ds))
theorem Binds.all {K:PySem.W.Frag}{fd:FuncData}{ps:List Str}(h:∀us:List Value,us.length=ps.length→bindArgs fd ⟨us,[]⟩=pure (ps.zip us)):Binds K fd ps []:=fun s us _ hl=>by
 rw[YCh]at hl ⊢
 exact .of_eq (h us hl)
def ZbD (CX:CXT)(X:Cx)(E:XK):Prop:=∀(pins:List (Addr×Obj)) (σ:St) (H:Hp) (s:Shared) (e:Value) (s':Shared),Inv X pins σ H s→CX X.stack H s E e s'→X.xe e s'
section
variable {X:Cx}{CX:CXT}{k:Nat}{f C:Addr}{fd:FuncData}{ps:List Str}{sp:Sp}{dvs:List V}{ds:List Value}{E:XK}{x m:Str}{p pos apos:Pos}{e o:Expr}{es:List Expr}{ta:TE}{t:TA}
theorem ZeI {pins:List (Addr×Obj)}{σ:St}{H:Hp}{s:Shared}{Q:VK}{us:List Value}{vs:List V}(F:FnOk X.prog X.w X.K X.mg X.base CX k f fd ps sp)(hr:Room k X.A)(hb:Binds X.K fd ps ds)(hd:Vals dvs ds)(hx:ZbD CX X E)
  (I:Inv X pins σ H s) (r:Vals vs us) (h:sp (vs++dvs) H Q E):wpAny (model X.prog X.w) X.A (call (.ref f) us) (EP X pins σ Q) X.xe s:=by
 have r2:Vals (vs++dvs) (us++ds):=r.append hd
 have hl:(us++ds).length=ps.length:=by rw[←r2.length];exact F.len _ _ _ _ h
 refine YCJ (codeAny_mono (F.run X.A X.stack s H ⟨us,[]⟩ (us++ds) (vs++dvs) Q E hr I.env0 (hb s us I.kIn hl) r2 h) fun r s' hq=>?_)
 cases r with
 | error e=>exact hx pins σ H s e s' I hq
 | ok fl=>
  cases fl with
  | ret u=>exact I.after hq
  | next=>exact False.elim hq
  | brk=>exact False.elim hq
  | cont=>exact False.elim hq
theorem Zao (F:FnOk X.prog X.w X.K X.mg X.base CX k f fd ps sp)(hr:Room k X.A)(hg:Gl X x)(hm:X.mg x=some (.ref f))(hk:PySem.W.keepIn X.K (.ref f)=true)(hb:Binds X.K fd ps ds)(hd:Vals dvs ds)(hx:ZbD CX X E)
  (ha:PA X (e::es) t) (hdb:(x == ("__debug__":Str))=false:=by decide) (he:starEach (e::es) X.env=(false,eval e X.env)::starEach es X.env:=by rfl) (hpl:(backTo pos (starEach es X.env)).any (·.1)=false:=by rfl):
  PE X (.Call (.Name x p) (e::es) [] pos) (Zkh sp dvs E t):=by
 intro pins s σ H Q I h
 refine YBM (ZbG I hg hm ?_ hdb)
 refine YBo (h₀:=X.base) I.ok.mod.kin hk (thn (ha pos pins s σ H _ I h) fun us s1 ⟨vs,H1,I1,r,q⟩=>⟨I1.kIn,?_⟩) he hpl
 exact ZeI F hr hb hd hx I1 r q
theorem Zbe {pl:Sem Bool}(he:PE X o ta)(c:Cls X.K C)(hm:Meth X.K C m f)(F:FnOk X.prog X.w X.K X.mg X.base CX k f fd ps sp)(hr:Room k X.A)(hb:Binds X.K fd ps ds)(hd:Vals dvs ds)(hx:ZbD CX X E)(ha:PA X (e::es) t)
  (hst:starEach (e::es) X.env=(false,eval e X.env)::starEach es X.env:=by rfl) (hpl:(backTo pos (starEach es X.env)).any (·.1)=false:=by rfl)
  (ht:eval (.Call (.Attribute o m apos) (e::es) [] pos) X.env=(do
   let ov ←eval o X.env
   standAt apos.atName
   let (f,first) ←holding [ov] (getMethod ov m pl)
   callWith pos f first (backTo pos (starEach (e::es) X.env)) (backToKw pos (keywordEach [] X.env))):=by rfl):
  PE X (.Call (.Attribute o m apos) (e::es) [] pos) (Zkc C m sp dvs E ta t):=by
 intro pins s σ H Q I h
 refine YCc (pl:=pl) (thn (he pins s σ H _ I h) fun u s1 ⟨x,H1,I1,rx,a,dx,fs,ex,ea,l,q⟩=>?_) ht
 subst ex
 obtain rfl:u=Value.ref a:=rx
 refine ZcE I1 ea c hm l ?_
 refine YBo (first:=[.ref a]) (h₀:=X.base) I.ok.mod.kin hm.kp (thn (ha pos pins s1 σ H1 _ I1 q) fun us s2 ⟨vs,H2,I2,r,q2⟩=>⟨I2.kIn,?_⟩) hst hpl
 exact ZeI (us:=.ref a::us) (vs:=.ref a::vs) F hr hb hd hx I2 (.cons rfl r) q2
theorem Za4 {pl:Sem Bool}(he:PE X o ta)(c:Cls X.K C)(hm:Meth X.K C m f)(F:FnOk X.prog X.w X.K X.mg X.base CX k f fd ps sp)(hr:Room k X.A)(hb:Binds X.K fd ps ds)(hd:Vals dvs ds)(hx:ZbD CX X E)
  (ht:eval (.Call (.Attribute o m apos) [] [] pos) X.env=(do
   let ov ←eval o X.env
   standAt apos.atName
   let (f,first) ←holding [ov] (getMethod ov m pl)
   callWith pos f first (backTo pos (starEach [] X.env)) (backToKw pos (keywordEach [] X.env))):=by rfl):
  PE X (.Call (.Attribute o m apos) [] [] pos) (Zkc C m sp dvs E ta tNil):=by
 intro pins s σ H Q I h
 refine YCc (pl:=pl) (thn (he pins s σ H _ I h) fun u s1 ⟨x,H1,I1,rx,a,dx,fs,ex,ea,l,q⟩=>?_) ht
 subst ex
 obtain rfl:u=Value.ref a:=rx
 refine ZcE I1 ea c hm l ?_
 exact PySem.W.callWith_K0 (first:=[.ref a]) I1.kIn hm.kp (ZeI (us:=[.ref a]) (vs:=[.ref a]) F hr hb hd hx I1 (.cons rfl .nil) q)
structure Mk (K:PySem.W.Frag)(C f:Addr):Prop where
 makes:PySem.W.makesIn K C=true
 init:PySem.W.findIn K (.ref C) "__init__"=some (some (.ref f))
 fn:PySem.W.isFn K (.ref f)=true
 kp:PySem.W.keepIn K (.ref C)=true
theorem ZiQ {pins:List (Addr×Obj)}{σ:St}{H:Hp}{s:Shared}{Q:VK}{us:List Value}{vs:List V}(M:Mk X.K C f)(F:FnOk X.prog X.w X.K X.mg X.base CX k f fd ps sp)(hr:Room (k+1) X.A)(hb:Binds X.K fd ps ds)(hd:Vals dvs ds)
  (hx:ZbD CX X E) (I:Inv X pins σ H s) (r:Vals vs us)
  (h:∀x dx,H x=none→H dx=none→dx≠x→sp (.ref x::(vs++dvs)) (upd (upd H dx (.own x)) x (.ins C dx [])) (fun v H2=>v=.non∧Q (.ref x) H2) E):
  wpAny (model X.prog X.w) X.A (call (.ref C) us) (EP X pins σ Q) X.xe s:=by
 have hq:=h (s.heap.objs.size+1) s.heap.objs.size (I.hok.fresh (YCe _)) (I.hok.fresh (YAP _)) (YAY (Nat.lt_succ_self _))
 have I2:=Inv.made (C:=C) I
 have r2:Vals (V.ref (s.heap.objs.size+1)::(vs++dvs)) (Value.ref (s.heap.objs.size+1)::(us++ds)):=.cons rfl (r.append hd)
 have hl:(Value.ref (s.heap.objs.size+1)::us++ds).length=ps.length:=by
  have e:=r2.length
  rw[F.len _ _ _ _ hq]at e
  exact e.symm
 refine YCJ (Zja (f:=f) I.kIn M.makes M.init (beq_iff_eq.mp M.fn) (codeAny_mono (F.run _ X.stack _ _ ⟨Value.ref (s.heap.objs.size+1)::us,[]⟩ (Value.ref (s.heap.objs.size+1)::(us++ds)) _ _ E (hr.make C us [])
  (I2.env0.make C us []) (hb _ (Value.ref (s.heap.objs.size+1)::us) I2.kIn hl) r2 hq) fun r s' hq'=>?_))
 cases r with
 | error e=>exact hx pins σ _ _ e s' I2 hq'
 | ok fl=>
  cases fl with
  | ret u=>
   obtain⟨v,H',I3,rv,ev,q3⟩:=I2.after hq'
   subst ev
   exact⟨rv,⟨V.ref (s.heap.objs.size+1),H',I3,rfl,q3⟩⟩
  | next=>exact False.elim hq'
  | brk=>exact False.elim hq'
  | cont=>exact False.elim hq'
theorem ZhK (M:Mk X.K C f)(F:FnOk X.prog X.w X.K X.mg X.base CX k f fd ps sp)(hr:Room (k+1) X.A)(hg:Gl X x)(hm:X.mg x=some (.ref C))(hb:Binds X.K fd ps ds)(hd:Vals dvs ds)(hx:ZbD CX X E)
  (ha:PA X (e::es) t) (hdb:(x == ("__debug__":Str))=false:=by decide) (he:starEach (e::es) X.env=(false,eval e X.env)::starEach es X.env:=by rfl) (hpl:(backTo pos (starEach es X.env)).any (·.1)=false:=by rfl):
  PE X (.Call (.Name x p) (e::es) [] pos) (ZlC C sp dvs E t):=by
 intro pins s σ H Q I h
 refine YBM (ZbG I hg hm ?_ hdb)
 refine YBo (h₀:=X.base) I.ok.mod.kin M.kp (thn (ha pos pins s σ H _ I h) fun us s1 ⟨vs,H1,I1,r,q⟩=>⟨I1.kIn,?_⟩) he hpl
 exact ZiQ M F hr hb hd hx I1 r q
end
section
variable {X:Cx}{CX:CXT}{k:Nat}{f C:Addr}{fd:FuncData}{ps ks:List Str}{sp:Sp}{E:XK}{x m:Str}{p pos apos kpos:Pos}{e o:Expr}{es:List Expr}{kws:List Keyword}{te ta:TE}{t tk:TA}{nm:Option Str}
variable {g:List Value→List Value→List Value}{gV:List V→List V→List V}
end
structure FnScope (N P:List Str)(sc:Scope):Prop where
 kind:sc.kind=.function
 co:sc.isCoroutine=false
 gen:sc.isGenerator=false
 nd:N.Nodup
 pre:N.take P.length=P
 par:∀x∈P,sc.names.lookup x=some .local∨sc.names.lookup x=some .cell
 nofree:∀y∈sc.names,y.2≠.free
theorem Zfn {kindOf:Str→Option NameKind}{x:Str}:∀ {binds:List (Str×Value)} {m:Str→Option Value},(∀v,(x,v)∉binds)→bindL kindOf binds m x=m x
 | [],_,_=>rfl
 | (n,v)::r,m,h=>by
  unfold bindL
  rw[Zfn fun w hw=>h w (YAZ _ hw)]
  split
  ·have:x≠n:=by rintro rfl;exact h v YAd
   simp[this]
  ·rfl
theorem Zfp {kindOf:Str→Option NameKind}{x:Str}:∀ {binds:List (Str×Value)} {m:Str→Option Value},(∀v,(x,v)∉binds)→bindC kindOf binds m x=m x
 | [],_,_=>rfl
 | (n,v)::r,m,h=>by
  unfold bindC
  rw[Zfp fun w hw=>h w (YAZ _ hw)]
  split
  ·rfl
  ·have:x≠n:=by rintro rfl;exact h v YAd
   simp[this]
theorem Zfo {kindOf:Str→Option NameKind}{x:Str}{v:Value}:∀ {P:List Str} {vs:List Value} {i:Nat} {m:Str→Option Value},P.Nodup→P[i]?=some x→vs[i]?=some v→kindOf x=some .local →
  bindL kindOf (P.zip vs) m x=some v
 | [],_,_,_,_,h,_,_=>by simp at h
 | _::_,[],_,_,_,_,h,_=>by simp at h
 | p::P,w::vs,0,m,nd,h1,h2,hk=>by
  simp at h1 h2;subst h1;subst h2
  show bindL kindOf ((p,w)::P.zip vs) m p=_
  unfold bindL
  rw[Zfn fun v hv=>(YCN.mp nd).1 (List.of_mem_zip hv).1,YAO hk]
  simp
 | p::P,w::vs,i+1,m,nd,h1,h2,hk=>by
  show bindL kindOf ((p,w)::P.zip vs) m x=_
  unfold bindL
  exact Zfo (i:=i) (YCN.mp nd).2 (by simpa using h1) (by simpa using h2) hk
theorem Zfq {kindOf:Str→Option NameKind}{x:Str}{v:Value}:∀ {P:List Str} {vs:List Value} {i:Nat} {m:Str→Option Value},P.Nodup→P[i]?=some x→vs[i]?=some v→kindOf x≠some .local →
  bindC kindOf (P.zip vs) m x=some v
 | [],_,_,_,_,h,_,_=>by simp at h
 | _::_,[],_,_,_,_,h,_=>by simp at h
 | p::P,w::vs,0,m,nd,h1,h2,hk=>by
  simp at h1 h2;subst h1;subst h2
  show bindC kindOf ((p,w)::P.zip vs) m p=_
  unfold bindC
  rw[Zfp fun v hv=>(YCN.mp nd).1 (List.of_mem_zip hv).1,YAJ hk]
  simp
 | p::P,w::vs,i+1,m,nd,h1,h2,hk=>by
  show bindC kindOf ((p,w)::P.zip vs) m x=_
  unfold bindC
  exact Zfq (i:=i) (YCN.mp nd).2 (by simpa using h1) (by simpa using h2) hk
def start (N:List Str)(vs:List V):St:=vs.map some++List.replicate (N.length-vs.length) none
def cxOf (CX:CXT)(P:Program)(w:World)(K:PySem.W.Frag)(mg:Str→Option Value)(base:Heap)(N:List Str)(qual:Str)(scope:Scope)(f:Addr)(cd:Value)(A:Around)(outer:List Env)(s:Shared)(H:Hp)(E:XK):Cx where
 prog:=P
 w:=w
 K:=K
 mg:=mg
 base:=base
 A:=A.deeper (envOfC qual scope s.heap.objs.size f cd)
 N:=N
 s₀:=s
 H₀:=H
 env:=envOfC qual scope s.heap.objs.size f cd
 outer:=outer
 stack:=envOfC qual scope s.heap.objs.size f cd::outer
 ex:=[]
 calm:=true
 fn:=fun _=>true
 pn:=[]
 xe:=fun e s'=>wpAny (model P w) (A.deeper (envOfC qual scope s.heap.objs.size f cd)) (leaving (envOfC qual scope s.heap.objs.size f cd) e) (fun _ s''=>CX outer H s E e s'') (fun e' s''=>CX outer H s E e' s'') s'
theorem Zgz {sc:Scope}{n:Nat}{x:Str}(h:sc.names.lookup x=some .cell):∃c,(cellsFrom n sc.names []).lookup x=some c:=by
 have q:=PySem.W.cellsFrom_some sc.names n [] (.inl h)
 exact Option.isSome_iff_exists.mp q
theorem Zia {CX:CXT}{P:Program}{w:World}{K:PySem.W.Frag}{mg:Str→Option Value}{base:Heap}{N ps:List Str}{qual:Str}{scope:Scope}{f:Addr}{cd:Value}{A:Around}{outer:List Env}{s s1:Shared}{H:Hp}{E:XK}{us:List Value}{vs:List V}
  (S:FnScope N ps scope) (hd:A.handled=none) (e0:Env0 P w K mg base A outer s H) (hl:vs.length=ps.length) (r:Vals vs us)
  (x:InCallC s s.heap.objs.size (bindL (envOfC qual scope s.heap.objs.size f cd).kindOf (ps.zip us) fun _=>none) (cellsFrom (s.heap.objs.size+1) scope.names []) (bindC (envOfC qual scope s.heap.objs.size f cd).kindOf (ps.zip us) fun _=>none) s1):
  Inv (cxOf CX P w K mg base N qual scope f cd A outer s H E) [] (start N vs) H s1:=by
 have hpl:ps.length≤N.length:=by have:=congrArg List.length S.pre;rw[YAV]at this;omega
 obtain⟨h1,tk,rfl,hk⟩:=x.done
 have noA:∀b:Addr,b∉(cxOf CX P w K mg base N qual scope f cd A outer s H E).ex:=fun b z=>absurd (show b∈([]:List Addr) from z) (by simp)
 refine⟨⟨e0.mod,S.kind,rfl,rfl,YAP _,fun y z c h1 h2=>?_,fun y hy=>?_,fun y c _ h=>?_,fun _=>hd,Around.frames_deeper e0.frames,.inr ⟨rfl,rfl⟩,fun b z=>absurd z (noA b),e0.bs,e0.bsz,fun b _ _=>noA b,fun b z=>absurd z (noA b),e0.funs,e0.frf⟩,
  rfl,e0.bare,Un.kept hk,⟨_,x.toInCall.ns,fun i y v h1 h2 h3=>?_⟩,fun y c h=>⟨_,x.cell y c h⟩,e0.hok.fresh (YAP _),fun y c h=>?_,fun p hp=>absurd (show p∈([]:List (Addr×Obj)) from hp) (by simp),e0.hok.kept hk,?_⟩
 ·exact name_of_addr x.apart (YBP h1) (YBP h2)
 ·have hy:scope.names.lookup y=some .cell∨scope.names.lookup y=some .free:=hy
  rcases hy with hy | hy
  ·exact Zgz hy
  ·exact absurd rfl (S.nofree _ (YBP hy))
 ·exact YCw (x.above y c (YBP h))
 ·have hi:i<vs.length:=by
   unfold start at h2
   by_cases hi:i<vs.length
   ·exact hi
   ·rw[YAn (by simpa using hi)]at h2
    rw[List.getElem?_replicate]at h2
    split at h2<;>cases h2
  have ha:vs[i]?=some v:=by
   unfold start at h2
   rw[YAr (by simpa using hi),YAk]at h2
   cases e:vs[i]? with
   | none=>rw[e]at h2;cases h2
   | some a=>rw[e]at h2;cases h2;rfl
  obtain⟨u,hu,rv⟩:=r.get ha
  have hp:ps[i]?=some y:=by
   rw[←S.pre,List.getElem?_take_of_lt (by omega)];exact h1
  have ndP:ps.Nodup:=by rw[←S.pre];exact S.nd.sublist (YCl _ _)
  refine⟨u,rv,?_⟩
  rcases S.par y (YAe hp) with k | k
  ·exact .inl ⟨k,Zfo ndP hp hu k⟩
  ·obtain⟨c,e⟩:=Zgz (n:=s.heap.objs.size+1) k
   refine .inr ⟨.inl k,c,e,?_⟩
   have q:=x.cell y c e
   rw[Zfq ndP hp hu (by show scope.names.lookup y≠_;rw[k];decide)]at q
   exact q
 ·exact e0.hok.fresh (YCw (x.above y c (YBP h)))
 ·unfold start
  show _=N.length
  rw[YAI,YAD,List.length_replicate]
  omega
theorem Zjn {CX:CXT}{P:Program}{w:World}{K:PySem.W.Frag}{mg:Str→Option Value}{base:Heap}{k:Nat}{f:Addr}{name qual:Str}{params:Arguments}{body:List Stmt}{scope:Scope}{dV kV doc pm cdv ct oc:Value}{an od:Option Addr}
  {osl:Array (Option Value)} {N ps:List Str} {sp:Sp} (lk:K.lookup f=some ⟨oc,od,.func (PySem.W.fnOf name qual params body scope dV kV doc pm an cdv ct),osl⟩) (hcd:PySem.W.codeIn K cdv qual=true) (S:FnScope N ps scope)
  (len:∀vs H Q E,sp vs H Q E→vs.length=ps.length)
  (hbody:∀(A:Around) (outer:List Env) (s:Shared) (H:Hp) (vs:List V) (Q:VK) (E:XK),Room k (A.deeper (envOfC qual scope s.heap.objs.size f cdv))→sp vs H Q E →
   ∃t,PSs (cxOf CX P w K mg base N qual scope f cdv A outer s H E) body t∧t { nx:=fun _ H'=>Q .non H',rt:=Q } (start N vs) H):
  FnOk P w K mg base CX (k+1) f (PySem.W.fnOf name qual params body scope dV kV doc pm an cdv ct) ps sp:=by
 refine⟨len,fun A outer s H args us vs Q E hr e0 hb r hsp=>?_⟩
 have hl:=len _ _ _ _ hsp
 have KX:K.In s.heap:=e0.mod.kin.keeps fun b o e=>(e0.bs b o e).1
 have lim:s.heap.NoLimit:=e0.mod.nolimit.keeps fun b o e=>(e0.bs b o e).1
 have hkind:∀y∈ps.zip us,scope.names.lookup y.1=some .local∨(scope.names.lookup y.1=some .cell∧((cellsFrom (s.heap.objs.size+1) scope.names []).lookup y.1).isSome=true):=fun ⟨n,v⟩ hy=>by
  rcases S.par n (List.of_mem_zip hy).1 with q | q
  ·exact .inl q
  ·exact .inr ⟨q,PySem.W.cellsFrom_some _ _ _ (.inl q)⟩
 refine codeAny_call_function hr.depth (KX _ _ lk) rfl S.co S.gen rfl (PySem.W.codeRec_of KX hcd) (hb _ _ _ _ ?_)
 refine wpAny_newFunctionEnv_cells S.kind hkind fun env he s1 x=>?_
 subst he
 refine⟨lim.keeps x.toInCall.keep,codeAny_func ?_⟩
 obtain⟨t,ht,hq⟩:=hbody A outer s H vs Q E (hr.deeper _) hsp
 have I:Inv (cxOf CX P w K mg base N qual scope f cdv A outer s H E) [] (start N vs) H s1:=Zia S hr.hd e0 hl r x
 refine YBB (ht [] s1 (start N vs) H _ I hq) (fun fl s' hs=>?_) fun e s' hs=>hs
 have fin:∀ {σ':St} {H':Hp} {v:V} {u:Value},Inv (cxOf CX P w K mg base N qual scope f cdv A outer s H E) [] σ' H' s'→RelV v u→Q v H'→CE outer P w H s Q u s':=
  fun {σ' H' v u} J rv q=>⟨v,H',J.os,J.bare,J.base,J.hok,rv,q⟩
 cases fl with
 | ret u=>
  obtain⟨v,σ',H',J,rv,q⟩:=hs
  exact fin J rv q
 | next=>
  obtain⟨σ',H',J,q⟩:=hs
  exact fin (v:=V.non) (u:=Value.none) J rfl q
 | brk=>
  obtain⟨_,_,_,q⟩:=hs
  exact False.elim q
 | cont=>
  obtain⟨_,_,_,q⟩:=hs
  exact False.elim q
section
variable {X:Cx}{x:Str}{p pos:Pos}{e:Expr}{es:List Expr}{t:TA}{id T:String}{r:List V→Hp→VK→Prop}
def tCB (r:List V→Hp→VK→Prop)(t:TA):TE:=fun σ H Q=>t σ H fun vs H1=>r vs H1 Q
theorem Zah (hc:Zch X (.builtin id) r) (hg:Gl X x) (hm:X.mg x=none) (hv:bootBuiltins x=some (.builtin id)) (ha:PA X (e::es) t) (hn:x≠"__name__":=by decide) (hdb:(x == ("__debug__":Str))=false:=by decide)
  (he:starEach (e::es) X.env=(false,eval e X.env)::starEach es X.env:=by rfl) (hpl:(backTo pos (starEach es X.env)).any (·.1)=false:=by rfl):PE X (.Call (.Name x p) (e::es) [] pos) (tCB r t):=by
 intro pins s σ H Q I h
 refine YBM (ZcL I hg hm hv ?_ hn hdb)
 exact YDD (thn (ha pos pins s σ H _ I h) fun us s1 ⟨vs,H1,I1,r1,q1⟩=>hc pins s1 σ H1 vs us Q I1 r1 q1) he hpl
theorem Zbm (hc:Zch X (.type T) r) (hg:Gl X x) (hm:X.mg x=none) (hv:bootBuiltins x=some (.type T)) (ha:PA X (e::es) t) (hn:x≠"__name__":=by decide) (hdb:(x == ("__debug__":Str))=false:=by decide)
  (he:starEach (e::es) X.env=(false,eval e X.env)::starEach es X.env:=by rfl) (hpl:(backTo pos (starEach es X.env)).any (·.1)=false:=by rfl):PE X (.Call (.Name x p) (e::es) [] pos) (tCB r t):=by
 intro pins s σ H Q I h
 refine YBM (ZcL I hg hm hv ?_ hn hdb)
 exact YCd (thn (ha pos pins s σ H _ I h) fun us s1 ⟨vs,H1,I1,r1,q1⟩=>hc pins s1 σ H1 vs us Q I1 r1 q1) he hpl
end
end L2
namespace HT
open PySem PyProof.Rows
section
open PySem.SeqAt
open PySem.AutoSeq1 (wpAny_loadPart')
open PySem.MeetsSeq PySem.MeetsSeq2 PySem.MeetsSeq3
end
section
variable {prog:Program}{w:World}{A:Around}{E:Value→Shared→Prop}{s:Shared}
def sIx (n d:Nat):Option Int→Nat
 | none=>d
 | some v=>if v<0 then (v+(n:Int)).toNat else min v.toNat n
theorem sIx_none (n d:Nat):sIx n d none=d:=rfl
theorem sIx_nat (n d k:Nat):sIx n d (some (k:Int))=min k n:=by
 show (if (k:Int)<0 then ((k:Int)+(n:Int)).toNat else min (k:Int).toNat n)=min k n
 rw[YAJ (by omega),YBd]
theorem sIx_le (n d:Nat)(hd:d≤n)(o:Option Int):sIx n d o≤n:=by
 cases o with
 | none=>exact hd
 | some v=>
  show (if v<0 then (v+(n:Int)).toNat else min v.toNat n)≤n
  by_cases hv:v<0
  ·rw[YAO hv];omega
  ·rw[YAJ hv];exact Nat.min_le_right _ _
theorem clip_eq (v:Int)(n d:Nat):(if v<0 then max (v+(n:Int)) 0 else min v (n:Int))=((sIx n d (some v):Nat):Int):=by
 show (if v<0 then max (v+(n:Int)) 0 else min v (n:Int))=(((if v<0 then (v+(n:Int)).toNat else min v.toNat n):Nat):Int)
 by_cases hv:v<0
 ·simp only[YAO hv];omega
 ·simp only[YAJ hv];omega
end
end HT
namespace L2
open PySem PySem.Spec PyProof.Rows
abbrev TO:=St→Hp→(Option Int→Hp→Prop)→Prop
def PO (X:Cx)(e:Option Expr)(t:TO):Prop:=
 ∀(pins:List (Addr×Obj)) (s:Shared) (σ:St) (H:Hp) (Q:Option Int→Hp→Prop),Inv X pins σ H s→t σ H Q →
  wpAny (model X.prog X.w) X.A (evalPart e X.env) (fun u s'=>∃o H',Inv X pins σ H' s'∧IsPart u o∧Q o H') X.xe s
def tNoPart:TO:=fun _ H Q=>Q none H
def Zlz (t:TE):TO:=fun σ H Q=>t σ H fun x H1=>∃i,x=.int i∧Q (some i) H1
section
variable {X:Cx}{e:Expr}{te:TE}{lo hi:Option Expr}{tl th:TO}{pos p2:Pos}
theorem Za5:PO X none tNoPart:=by
 intro pins s σ H Q I h
 rw[evalPart_none]
 exact YAC ⟨none,H,I,.none,h⟩
theorem ZaO (h:PE X e te):PO X (some e) (Zlz te):=by
 intro pins s σ H Q I hw
 rw[evalPart_some]
 refine thn (h pins s σ H _ I hw) fun u s1 ⟨x,H1,I1,r1,q1⟩=>?_
 obtain⟨i,rfl,q⟩:=q1
 obtain⟨t,rfl⟩:=r1
 exact⟨some i,H1,I1,.int i t,q⟩
def SlR (X:Cx)(r:V→Option Int→Option Int→Hp→VK→Prop):Prop:=
 ∀(pins:List (Addr×Obj)) (s:Shared) (σ:St) (H:Hp) (x:V) (v vl vu:Value) (lo hi:Option Int) (sl:Addr) (Q:VK),Inv X pins σ H s→RelV x v→s.heap.IsSliceOf sl vl vu .none→IsPart vl lo→IsPart vu hi→r x lo hi H Q →
  ∃T id,typeLookup (.type T) "__getitem__"=pure (some (.builtin id))∧s.TypeIs v T∧wpAny (model X.prog X.w) X.A (getItem v (.ref sl)) (EP X pins σ Q) X.xe s
def tSl (r:V→Option Int→Option Int→Hp→VK→Prop)(te:TE)(tl th:TO):TE:=fun σ H Q=>te σ H fun x H1=>tl σ H1 fun l H2=>th σ H2 fun u H3=>r x l u H3 Q
theorem ZaH {r:V→Option Int→Option Int→Hp→VK→Prop}(hr:SlR X r)(he:PE X e te)(hl:PO X lo tl)(hu:PO X hi th):PE X (.Subscript e (.Slice lo hi none p2) pos) (tSl r te tl th):=by
 intro pins s σ H Q I h
 refine Subscript_ (thn (he pins s σ H _ I h) fun v s1 ⟨x,H1,I1,r1,q1⟩=>?_)
 refine wpAny_Slice (thn (hl pins s1 σ H1 _ I1 q1) fun vl s2 ⟨l,H2,I2,pl,q2⟩=>thn (hu pins s2 σ H2 _ I2 q2) fun vu s3 ⟨u,H3,I3,pu,q3⟩=>?_)
 rw[evalPart_none]
 refine YAC ?_
 have I4:Inv X pins σ H3 { s3 with heap:=s3.heap.push { cls:=.type "slice",data:=.fields #[vl,vu,.none] } }:=I3.kept (t':=s3.toks) fun b ob q=>YAB _ q
 obtain⟨T,id,hT,ht,hg⟩:=hr pins { s3 with heap:=s3.heap.push { cls:=.type "slice",data:=.fields #[vl,vu,.none] } } σ H3 x v vl vu l u s3.heap.objs.size Q I4 r1 (Heap.IsSliceOf.new ..) pl pu q3
 show wpAny (model X.prog X.w) X.A (subscriptTail e (.Slice lo hi none p2) v (.ref s3.heap.objs.size)) (EP X pins σ Q) X.xe { s3 with heap:=s3.heap.push { cls:=.type "slice",data:=.fields #[vl,vu,.none] } }
 exact tail_any (ops:=[.ref s3.heap.objs.size,v]) ht hT hg (by with_unfolding_all rfl)
end
end L2
namespace L2
open PySem PySem.Spec PyProof.Rows
def ixN (n:Nat)(i:Int):Option Nat:=if 0≤i then (if i<n then some i.toNat else none) else if -(n:Int)≤i then some (i+n).toNat else none
def atI {α:Type}(xs:List α)(i:Int):Option α:=(ixN xs.length i).bind fun j=>xs[j]?
theorem ZkZ {n:Nat}{i:Int}{j:Nat}(h:ixN n i=some j):seqIndex? i n=some j∧j<n∧-(n:Int)≤i∧i<n:=by
 unfold ixN at h
 by_cases h0:0≤i
 ·rw[YAO h0]at h
  by_cases h1:i<n
  ·rw[YAO h1]at h
   have e:i.toNat=j:=Option.some.inj h
   exact⟨by rw[seqIndex_of h0 h1,e],by omega,by omega,h1⟩
  ·rw[YAJ h1]at h;cases h
 ·rw[YAJ h0]at h
  by_cases h1:-(n:Int)≤i
  ·rw[YAO h1]at h
   have e:(i+n).toNat=j:=Option.some.inj h
   exact⟨by rw[seqIndex_neg (by omega) h1,e],by omega,h1,by omega⟩
  ·rw[YAJ h1]at h;cases h
theorem ZfY {α:Type}{xs:List α}{i:Int}{v:α}(h:atI xs i=some v):∃j,seqIndex? i xs.length=some j∧xs[j]?=some v∧j<xs.length∧-(xs.length:Int)≤i∧i<xs.length:=by
 unfold atI at h
 cases e:ixN xs.length i with
 | none=>rw[e]at h;cases h
 | some j=>
  rw[e]at h
  obtain⟨h1,h2,h3,h4⟩:=ZkZ e
  exact⟨j,h1,h,h2,h3,h4⟩
def Zlp (b:Expr):Prop:=∀o i,subscripted b false o i=operate [o,i] (getItem o i)
def IxR (X:Cx)(r:R2):Prop:=
 ∀(value slice:Expr) (pins:List (Addr×Obj)) (s:Shared) (σ:St) (H:Hp) (x y:V) (v u:Value) (Q:VK),Inv X pins σ H s→RelV x v→RelV y u→r x y H Q →
  subscripted slice false v u=operate [v,u] (getItem v u)→wpAny (model X.prog X.w) X.A (subscriptTail value slice v u) (EP X pins σ Q) X.xe s
def MtR (X:Cx)(id:String)(r:V→List V→Hp→VK→Prop):Prop:=
 ∀(pins:List (Addr×Obj)) (s:Shared) (σ:St) (H:Hp) (x:V) (xs:List V) (v:Value) (us:List Value) (Q:VK),Inv X pins σ H s→RelV x v→Vals xs us→r x xs H Q →
  wpAny (model X.prog X.w) X.A (call (.builtin id) (v::us)) (EP X pins σ Q) X.xe s
section
variable {X:Cx}{a b:Expr}{ta tb:TE}{pos:Pos}
theorem ZdF {r:R2}(hr:IxR X r)(ha:PE X a ta)(hb:PE X b tb)(hs:Zlp b):PE X (.Subscript a b pos) (tOp r ta tb):=by
 intro pins s σ H Q I h
 exact Subscript_ (binT ha hb I h fun v u s2 x y H2 I2 rx ry q=>hr a b pins s2 σ H2 x y v u Q I2 rx ry q (hs _ _))
def rIxL (K:PySem.W.Frag):R2:=fun x y H Q=>∃p xs i v,x=.ref p∧y=.int i∧SqL K H p xs∧atI xs i=some v∧Q v H
def rIxT (K:PySem.W.Frag):R2:=fun x y H Q=>∃p xs i v,x=.ref p∧y=.int i∧SqT K H p xs∧atI xs i=some v∧Q v H
def rIxS:R2:=fun x y H Q=>∃z i c,x=.str z∧y=.int i∧z.length≤sizeLine∧atI z.cps.toList i=some c∧Q (.str ⟨#[c]⟩) H
theorem ZkY:IxR X (rIxL X.K):=by
 intro value slice pins s σ H x y v u Q I rx ry h hs
 obtain⟨p,xs,i,z,rfl,rfl,hq,he,q⟩:=h
 cases rx
 obtain⟨t,rfl⟩:=ry
 obtain⟨its,r,pl,hz⟩:=I.list hq
 obtain⟨j,h1,h2,h3,h4,h5⟩:=ZfY he
 obtain⟨w,ew,rw'⟩:=r.get h2
 have hl:=r.length
 have hn:=Ze0
 have fin:EP X pins σ Q w s:=⟨z,H,I,rw',q⟩
 by_cases h0:0≤i
 ·have hj:i.toNat=j:=by
   rw[seqIndex_of h0 h5]at h1
   exact Option.some.inj h1
  exact item_listR pl.isList h0 (by omega) (by rw[hj];simpa using ew) fin hs
 ·have hj:(i+(its.toArray.size:Int)).toNat=j:=by
   rw[seqIndex_neg (by omega) h4]at h1
   rw[YAH,←hl]
   exact Option.some.inj h1
  exact subscriptTail_builtinR (x:=w) pl.isList.typeIs slot_list_getitem.lookup
   (wpAny_getItem_list_neg (Q:=fun r s'=>r=w∧EP X pins σ Q r s') pl.isList (by omega) (by rw[YAH]<;>omega) (by omega) (by rw[hj];simpa using ew) ⟨rfl,fin⟩) hs
theorem ZmW:IxR X (rIxT X.K):=by
 intro value slice pins s σ H x y v u Q I rx ry h hs
 obtain⟨p,xs,i,z,rfl,rfl,hq,he,q⟩:=h
 cases rx
 obtain⟨t,rfl⟩:=ry
 obtain⟨its,r,pl,hz⟩:=I.tuple hq
 obtain⟨j,h1,h2,h3,h4,h5⟩:=ZfY he
 obtain⟨w,ew,rw'⟩:=r.get h2
 have hl:=r.length
 have hn:=Ze0
 have fin:EP X pins σ Q w s:=⟨z,H,I,rw',q⟩
 exact subscriptTail_builtinR (x:=w) pl.typeIs slot_tuple_getitem.lookup
  (getItem_tuple (j:=j) (Q:=fun r s'=>r=w∧EP X pins σ Q r s') pl (by omega) (by omega) (by rw[YAH,←hl];exact h1) (by simpa using ew) ⟨rfl,fin⟩) hs
theorem ZmX:IxR X rIxS:=by
 intro value slice pins s σ H x y v u Q I rx ry h hs
 obtain⟨z,i,c,rfl,rfl,hz,he,q⟩:=h
 obtain⟨t,rfl⟩:=rx
 obtain⟨t',rfl⟩:=ry
 obtain⟨j,h1,h2,h3,h4,h5⟩:=ZfY he
 have hl:z.cps.toList.length=z.length:=by simp[Str.length]
 rw[hl]at h1 h4 h5
 have hn:=Ze0
 exact tail_any (typeIs_str s z t) slot_str_getitem.lookup (getItem_str (c:=c) (by
  have e1:decide (i < -(2 ^ 63:Int))=false:=decide_eq_false (by omega)
  have e2:decide (i≥2 ^ 63)=false:=decide_eq_false (by omega)
  rw[e1,e2,Bool.or_false]) (by rw[h1];simpa using h2) ⟨.str ⟨#[c]⟩,H,I.tok _,⟨_,rfl⟩,q⟩) hs
def Zbb:V→Bool
 | .non=>true
 | .bl _=>true
 | .int _=>true
 | .str _=>true
 | _=>false
def eqV:V→V→Bool
 | .non,.non=>true
 | .bl a,.bl b=>a == b
 | .bl a,.int b=>(if a then 1 else 0) == b
 | .int a,.bl b=>a == (if b then 1 else 0)
 | .int a,.int b=>a == b
 | .str a,.str b=>a == b
 | _,_=>false
theorem Zj2 {A:Around}{s:Shared}{y x:V}{u v:Value}(ry:RelV y u)(rx:RelV x v)(fy:Zbb y=true)(fx:Zbb x=true):SeqAt.EqAt A s u v (eqV y x):=by
 cases y with
 | non=>
  cases ry
  cases x with
  | non=>cases rx;exact SeqAt.EqAt.same _
  | bl b=>cases rx;exact SeqAt.EqAt.none_bool b
  | int b=>obtain⟨t,rfl⟩:=rx;exact SeqAt.EqAt.none_int b t
  | str b=>obtain⟨t,rfl⟩:=rx;exact SeqAt.EqAt.none_str b t
  | _=>exact absurd (show false=true from fx) YAE
 | bl a=>
  cases ry
  cases x with
  | non=>cases rx;exact SeqAt.EqAt.bool_none a
  | bl b=>cases rx;exact SeqAt.EqAt.bool_bool a b
  | int b=>obtain⟨t,rfl⟩:=rx;exact SeqAt.EqAt.bool_int a b t
  | str b=>obtain⟨t,rfl⟩:=rx;exact SeqAt.EqAt.bool_str a b t
  | _=>exact absurd (show false=true from fx) YAE
 | int a=>
  obtain⟨t',rfl⟩:=ry
  cases x with
  | non=>cases rx;exact SeqAt.EqAt.int_none a t'
  | bl b=>cases rx;exact SeqAt.EqAt.int_bool a t' b
  | int b=>obtain⟨t,rfl⟩:=rx;exact SeqAt.EqAt.int_int a t' b t
  | str b=>obtain⟨t,rfl⟩:=rx;exact SeqAt.EqAt.int_str a t' b t
  | _=>exact absurd (show false=true from fx) YAE
 | str a=>
  obtain⟨t',rfl⟩:=ry
  cases x with
  | non=>cases rx;exact SeqAt.EqAt.str_none a t'
  | bl b=>cases rx;exact SeqAt.EqAt.str_bool a t' b
  | int b=>obtain⟨t,rfl⟩:=rx;exact SeqAt.EqAt.str_int a t' b t
  | str b=>obtain⟨t,rfl⟩:=rx;exact SeqAt.EqAt.str_str a t' b t
  | _=>exact absurd (show false=true from fx) YAE
 | _=>exact absurd (show false=true from fy) YAE
def eqU (x:V)(u:Value):Bool:=match u with
 | .none=>eqV .non x
 | .bool b=>eqV (.bl b) x
 | .int i _=>eqV (.int i) x
 | .str z _=>eqV (.str z) x
 | _=>false
theorem Zj1 {x y:V}{u:Value}(r:RelV y u)(f:Zbb y=true):eqU x u=eqV y x:=by
 cases y with
 | non=>cases r;rfl
 | bl b=>cases r;rfl
 | int i=>obtain⟨t,rfl⟩:=r;rfl
 | str z=>obtain⟨t,rfl⟩:=r;rfl
 | _=>exact absurd (show false=true from f) YAE
theorem Zf0 {x:V}:∀ {xs:List V} {us:List Value},Vals xs us→xs.all Zbb=true→us.any (eqU x)=xs.any fun y=>eqV y x
 | _,_,.nil,_=>rfl
 | y::xs,u::us,.cons r t,f=>by
  rw[List.all_cons,YAT]at f
  rw[List.any_cons,List.any_cons,Zj1 r f.1,Zf0 t f.2]
theorem Zeg {A:Around}{s:Shared}{x:V}{v:Value}(rx:RelV x v)(fx:Zbb x=true):∀ {xs:List V} {us:List Value},Vals xs us→xs.all Zbb=true→∀u∈us,SeqAt.EqAt A s u v (eqU x u)
 | _,_,.nil,_=>fun u hu=>by cases hu
 | y::xs,u::us,.cons r t,f=>fun u' hu=>by
  rw[List.all_cons,YAT]at f
  rcases YAM.mp hu with rfl | hu
  ·rw[Zj1 r f.1];exact Zj2 r rx f.1 fx
  ·exact Zeg rx fx t f.2 u' hu
def inV (x:V)(xs:List V):Bool:=xs.any fun y=>eqV y x
def rIn (K:PySem.W.Frag)(neg:Bool):R2:=fun x y H Q=>∃p xs,y=.ref p∧(SqL K H p xs∨SqT K H p xs)∧Zbb x=true∧xs.all Zbb=true∧Q (.bl (if neg then !inV x xs else inV x xs)) H
theorem ZeO:OpR X (compareOp .NotIn) (rIn X.K true):=by
 intro pins s σ H x y v u Q I rx ry h
 obtain⟨p,xs,rfl,hq,fx,fs,q⟩:=h
 cases ry
 rcases hq with hq | hq
 ·obtain⟨its,r,pl,hz⟩:=I.list hq
  refine SeqAt.notIn_listAt (eqU x) pl.isList (fun w hw=>Zeg rx fx r fs w (by simpa using hw)) ⟨.bl _,H,I,rfl,?_⟩
  rw[show its.toArray.any (eqU x)=its.any (eqU x) by simp,Zf0 r fs]
  exact q
 ·obtain⟨its,r,pl,hz⟩:=I.tuple hq
  refine SeqAt.notIn_tupleAt (eqU x) pl (fun w hw=>Zeg rx fx r fs w (by simpa using hw)) ⟨.bl _,H,I,rfl,?_⟩
  rw[show its.toArray.any (eqU x)=its.any (eqU x) by simp,Zf0 r fs]
  exact q
def tyV (K:PySem.W.Frag)(T:String)(x:V)(H:Hp):Prop:=match x with
 | .str _=>T="str"
 | .int _=>T="int"
 | .ref p=>(T="list"∧∃xs,SqL K H p xs)∨(T="tuple"∧∃o,K.lookup p=some o∧o.cls=.type "tuple"∧o.dict=none) ∨
   (T="dict"∧((∃kvs,H p=some (.dK kvs))∨∃kvs,H p=some (.dT kvs)))∨(T="set"∧∃S n,H p=some (.set S n))
 | _=>False
theorem ZjB {pins:List (Addr×Obj)}{σ:St}{H:Hp}{s:Shared}{T:String}{x:V}{v:Value}(I:Inv X pins σ H s)(r:RelV x v)(ty:tyV X.K T x H):
  s.TypeIs v T∧∀a,v=.ref a→∃ob,s.heap.get? a=some ob∧ob.dict=none:=by
 cases x with
 | str z=>
  obtain⟨t,rfl⟩:=r
  cases (show T="str" from ty)
  exact⟨typeIs_str s z t,fun _ e=>nomatch e⟩
 | int i=>
  obtain⟨t,rfl⟩:=r
  cases (show T="int" from ty)
  exact⟨typeIs_int s i t,fun _ e=>nomatch e⟩
 | ref p=>
  cases r
  rcases ty with⟨rfl,xs,hq⟩|⟨rfl,o,hk,hc,hd⟩|⟨rfl,hk⟩|⟨rfl,S,n,hk⟩
  ·obtain⟨its,_,pl,_⟩:=I.list hq
   refine⟨pl.isList.typeIs,fun a e=>?_⟩
   cases e
   obtain⟨o,n,e,c,hd,_⟩:=pl
   exact⟨o,e,hd⟩
  ·refine⟨⟨o,I.kIn p o hk,hc⟩,fun a e=>?_⟩
   cases e
   exact⟨o,I.kIn _ o hk,hd⟩
  ·have z:∃o,s.heap.get? p=some o∧o.ExactDict:=by
    rcases hk with⟨kvs,hk⟩|⟨kvs,hk⟩
    ·obtain⟨_,_,_,_,o,_,_,e,ex,_⟩:=I.hok p _ hk
     exact⟨o,e,ex⟩
    ·obtain⟨_,_,_,_,o,_,_,e,ex,_⟩:=I.hok p _ hk
     exact⟨o,e,ex⟩
   obtain⟨o,e,ex⟩:=z
   refine⟨⟨o,e,ex.1⟩,fun a e2=>?_⟩
   cases e2
   exact⟨o,e,ex.2.1⟩
  ·obtain⟨o,_,_,_,e,ex,_⟩:=I.hok p _ hk
   refine⟨⟨o,e,ex.1⟩,fun a e2=>?_⟩
   cases e2
   exact⟨o,e,ex.2.1⟩
 | _=>exact False.elim ty
def tBM0 (K:PySem.W.Frag)(T:String)(r:V→List V→Hp→VK→Prop)(to:TE):TE:=fun σ H Q=>to σ H fun x H1=>tyV K T x H1∧r x [] H1 Q
def tBM (K:PySem.W.Frag)(T:String)(r:V→List V→Hp→VK→Prop)(to:TE)(t:TA):TE:=fun σ H Q=>to σ H fun x H1=>tyV K T x H1∧t σ H1 fun xs H2=>r x xs H2 Q
variable {o e:Expr}{es:List Expr}{to:TE}{t:TA}{name:Str}{apos cpos:Pos}{T id:String}{r:V→List V→Hp→VK→Prop}
theorem Zma (pa:PlainAttrs T) (slot:Slot T name id) (hty:typeOf (.builtin id)=pure (.type "method_descriptor")) (hm:MtR X id r) (ho:PE X o to)
  (hbase:attributeBase o name X.env (eval o X.env)=eval o X.env:=by rfl) (hline:(apos.endLine == cpos.line)=true:=by rfl):PE X (.Call (.Attribute o name apos) [] [] cpos) (tBM0 X.K T r to):=by
 intro pins s σ H Q I h
 refine wpAny_Call_method0_late hbase hline (thn (ho pins s σ H _ I h) fun v s1 ⟨x,H1,I1,r1,ty,q1⟩=>?_)
 obtain⟨h1,h2⟩:=ZjB I1 r1 ty
 exact⟨T,id,pa,slot,hty,h1,h2,Calls.callWith_builtin rfl (PySem.evalArgs_none (hm pins s1 σ H1 x [] v [] Q I1 r1 .nil q1))⟩
theorem ZeM (pa:PlainAttrs T) (slot:Slot T name id) (hty:typeOf (.builtin id)=pure (.type "method_descriptor")) (hm:MtR X id r) (ho:PE X o to) (ha:PA X (e::es) t)
  (hbase:attributeBase o name X.env (eval o X.env)=eval o X.env:=by rfl)
  (hfew:((backTo cpos (starEach (e::es) X.env)).all (fun x=>!x.1)&&(backToKw cpos (keywordEach [] X.env)).all (fun x=>x.1.isSome)
   && decide ((e::es).length+([]:List Keyword).length+(if ([]:List Keyword).isEmpty then 0 else 1)<30))=true:=by rfl)
  (hline:(apos.endLine == cpos.line)=true:=by rfl) (hs:starEach (e::es) X.env=(false,eval e X.env)::starEach es X.env:=by rfl) (hplain:(backTo cpos (starEach es X.env)).any (·.1)=false:=by rfl):
  PE X (.Call (.Attribute o name apos) (e::es) [] cpos) (tBM X.K T r to t):=by
 intro pins s σ H Q I h
 refine wpAny_Call_method_late hbase hfew hline rfl (thn (ho pins s σ H _ I h) fun v s1 ⟨x,H1,I1,r1,ty,q1⟩=>?_)
 obtain⟨h1,h2⟩:=ZjB I1 r1 ty
 refine⟨T,id,pa,slot,hty,h1,h2,?_⟩
 have hA:=ha cpos pins s1 σ H1 _ I1 q1
 rw[hs]at hA ⊢
 refine Calls.callWith_builtin (by show (false || (backTo cpos (starEach es X.env)).any (·.1))=false;rw[hplain]<;>rfl) (Calls.evalArgs_plain ?_)
 exact thn hA fun us s2 ⟨vs,H2,I2,r2,q2⟩=>hm pins s2 σ H2 x vs v us Q I2 r1 r2 q2
end
def MtM (X:Cx)(id:String)(r:V→List V→Hp→VK→Prop):Prop:=
 ∀(pins:List (Addr×Obj)) (s:Shared) (σ:St) (H:Hp) (x:V) (xs:List V) (v:Value) (us:List Value) (Q:VK),Inv X pins σ H s→RelV x v→Vals xs us→r x xs H Q →
  wpAny (model X.prog X.w) X.A (call (.builtin id) (v::us)) (EP X pins σ Q) X.xe s
theorem Vals.one:∀ {x:V} {us:List Value},Vals [x] us→∃u,us=[u]∧RelV x u
 | _,_,.cons r .nil=>⟨_,rfl,r⟩
theorem Vals.two:∀ {x y:V} {us:List Value},Vals [x,y] us→∃u v,us=[u,v]∧RelV x u∧RelV y v
 | _,_,_,.cons r (.cons q .nil)=>⟨_,_,rfl,r,q⟩
theorem Vals.zero:∀ {us:List Value},Vals [] us→us=[]
 | _,.nil=>rfl
theorem Vals.dropLast {xs:List V}{us:List Value}(h:Vals xs us):Vals xs.dropLast us.dropLast:=by
 induction h with
 | nil=>exact .nil
 | cons r t ih=>
  cases t with
  | nil=>exact .nil
  | cons q t'=>exact .cons r ih
theorem Vals.eraseIdx:∀ {xs:List V} {us:List Value} (i:Nat),Vals xs us→Vals (xs.eraseIdx i) (us.eraseIdx i)
 | _,_,_,.nil=>.nil
 | _,_,0,.cons _ t=>t
 | _,_,i+1,.cons r t=>.cons r (Vals.eraseIdx i t)
theorem Zg9 {α:Type}(l:List α):l.eraseIdx (l.length-1)=l.dropLast:=by
 induction l with
 | nil=>rfl
 | cons a r ih=>
  cases r with
  | nil=>rfl
  | cons b r=>
   have e:(a::b::r).length-1=((b::r).length-1)+1:=by
    have h1:(a::b::r).length=r.length+2:=rfl
    have h2:(b::r).length=r.length+1:=rfl
    omega
   rw[e,List.eraseIdx_cons_succ,ih]
   all_goals rfl
theorem Ze1 {α:Type}:∀(l:List α) (i:Nat),(l.eraseIdx i).length≤l.length
 | [],_=>YAP _
 | _::_,0=>YCe _
 | _::r,i+1=>YDG (Ze1 r i)
section
variable {X:Cx}{pins:List (Addr×Obj)}{σ:St}{H:Hp}{s:Shared}{l b:Addr}{xs ys zs:List V}
theorem Inv.lset {its its':List Value}{n:Nat}{f:Array Value→Array Value}{t':Nat}(I:Inv X pins σ H s)(hH:H l=some (.lst xs))
  (e:s.heap.get? l=some { cls:=.type "list",data:=.seq its.toArray n }) (hf:f its.toArray=its'.toArray) (hv:Vals ys its') (hz:ys.length≤sizeLine):
  Inv X pins σ (upd H l (.lst ys)) { s with heap:=s.heap.update l (Obj.mapSeq f),toks:=t' }:=by
 have q:=PySem.IsL.update e f
 rw[hf]at q
 refine I.write (x:=l) (e:=l) (by rw[hH];exact trivial) (.inl rfl) (fun b' u hb hu=>(YBC s.heap (Obj.mapSeq f) (YAw hb)).trans hu) ⟨_,q⟩ ?_
 exact⟨hz,its',_,hv,q⟩
theorem Inv.lnew {its:List Value}{t':Nat}(I:Inv X pins σ H s)(hv:Vals ys its)(hz:ys.length≤sizeLine):
  Inv X pins σ (upd H s.heap.objs.size (.lst ys)) { s with heap:=s.heap.push { cls:=.type "list",data:=.seq its.toArray },toks:=t' }:=
 I.laid (fun _ _ q=>YAB _ q) (YAP _) ⟨hz,its,0,hv,YAF _ rfl⟩
theorem Inv.fresh (I:Inv X pins σ H s):H s.heap.objs.size=none:=I.hok.fresh (YAP _)
theorem Inv.lstM (I:Inv X pins σ H s)(hH:H l=some (.lst xs)):xs.length≤sizeLine∧∃(its:List Value) (n:Nat),Vals xs its∧xs.length=its.length∧s.heap.get? l=some { cls:=.type "list",data:=.seq its.toArray n }:=by
 obtain⟨z,its,n,r,e⟩:=I.hok l _ hH
 exact⟨z,its,n,r,r.length,e⟩
theorem Zi5 {n:Nat}(h:n≤sizeLine):Builtin.List.listTooLong n=false:=by
 unfold Builtin.List.listTooLong
 exact decide_eq_false (by omega)
end
section
variable {X:Cx}
def rAppend:V→List V→Hp→VK→Prop:=fun x vs H Q=>∃l xs y,x=.ref l∧vs=[y]∧H l=some (.lst xs)∧xs.length<sizeLine∧Q .non (upd H l (.lst (xs++[y])))
theorem ZbA:MtM X "list.append" rAppend:=by
 intro pins s σ H x vs v us Q I rx rv h
 obtain⟨l,xs,y,rfl,rfl,hH,hz,q⟩:=h
 cases rx
 obtain⟨u,rfl,ru⟩:=rv.one
 obtain⟨z,its,n,r,hl,e⟩:=I.lstM hH
 refine call_meets F.slot_list_append ⟨_,e,rfl⟩ F.entry_list_append (F.args_list_append_2 _ _) (PySem.list_append l its.toArray n u (by rw[YAH];omega)) ⟨e,?_⟩
 refine⟨.non,_,I.lset (its':=its++[u]) hH e (by simp) (r.append (.cons ru .nil)) ?_,rfl,q⟩
 rw[YAI,YAu]
 omega
def rExtend:V→List V→Hp→VK→Prop:=fun x vs H Q=>∃l b xs zs,x=.ref l∧vs=[.ref b]∧H l=some (.lst xs)∧H b=some (.lst zs)∧xs.length+zs.length≤sizeLine∧Q .non (upd H l (.lst (xs++zs)))
theorem ZmB:MtM X "list.extend" rExtend:=by
 intro pins s σ H x vs v us Q I rx rv h
 obtain⟨l,b,xs,zs,rfl,rfl,hH,hB,hz,q⟩:=h
 cases rx
 obtain⟨u,rfl,ru⟩:=rv.one
 cases ru
 obtain⟨z,its,n,r,hl,e⟩:=I.lstM hH
 obtain⟨z2,its2,n2,r2,hl2,e2⟩:=I.lstM hB
 have hsz:its.toArray.size+its2.toArray.size≤sizeLine:=by rw[YAH,YAH];omega
 have hlong:¬(!its.toArray.isEmpty&&Builtin.List.listTooLong (its.toArray.size+its2.toArray.size))=true:=by
  rw[Zi5 hsz,YCY]
  exact YAE
 refine call_meets F.slot_list_extend ⟨_,e,rfl⟩ F.entry_list_extend (F.args_list_extend_2 _ _)
  (AutoSeq1.list_extend_list_list_0 l its.toArray n b its2.toArray n2 hlong (by rw[YAH];omega) (by omega)) ⟨e,e2,?_⟩
 refine⟨.non,_,I.lset (its':=its++its2) hH e (by simp) (r.append r2) ?_,rfl,q⟩
 rw[YAI]
 omega
def rPop:V→List V→Hp→VK→Prop:=fun x vs H Q=>∃l xs y,x=.ref l∧vs=[]∧H l=some (.lst xs)∧xs[xs.length-1]?=some y∧Q y (upd H l (.lst xs.dropLast))
theorem ZmA:MtM X "list.pop" rPop:=by
 intro pins s σ H x vs v us Q I rx rv h
 obtain⟨l,xs,y,rfl,rfl,hH,hy,q⟩:=h
 cases rx
 have hus:=rv.zero
 subst hus
 obtain⟨z,its,n,r,hl,e⟩:=I.lstM hH
 obtain⟨u,hu,ru⟩:=r.get hy
 have hy':its.toArray[its.toArray.size-1]?=some u:=by
  show its.toArray[its.length-1]?=some u
  rw[←YAl,←hl]
  exact hu
 refine call_meets F.slot_list_pop ⟨_,e,rfl⟩ F.entry_list_pop (F.args_list_pop_1 _) (MeetsSeq.list_pop_last l its.toArray n u hy' (by rw[YAH];omega)) ⟨e,?_⟩
 refine⟨y,_,I.lset (its':=its.dropLast) hH e ?_ r.dropLast ?_,ru,q⟩
 ·show its.toArray.eraseIdxIfInBounds (its.toArray.size-1)=its.dropLast.toArray
  rw[YAH,List.eraseIdxIfInBounds_toArray,Zg9]
 ·rw[YBL]
  omega
def rPopAt:V→List V→Hp→VK→Prop:=fun x vs H Q=>∃l xs i k y,x=.ref l∧vs=[.int i]∧H l=some (.lst xs)∧-(2 ^ 63)≤i∧i<2 ^ 63∧seqIndex? i xs.length=some k∧xs[k]?=some y∧Q y (upd H l (.lst (xs.eraseIdx k)))
theorem Zi8:MtM X "list.pop" rPopAt:=by
 intro pins s σ H x vs v us Q I rx rv h
 obtain⟨l,xs,i,k,y,rfl,rfl,hH,h1,h2,hk,hy,q⟩:=h
 cases rx
 obtain⟨u,rfl,ru⟩:=rv.one
 obtain⟨t,rfl⟩:=ru
 obtain⟨z,its,n,r,hl,e⟩:=I.lstM hH
 obtain⟨w,hw,rw'⟩:=r.get hy
 refine call_meets F.slot_list_pop ⟨_,e,rfl⟩ F.entry_list_pop (F.args_list_pop_2 _ _)
  (MeetsSeq.list_pop_at l its.toArray n i t k w (fitsIndex_both h1 h2) (by rw[YAH,←hl];exact hk) (by rw[←YAl];exact hw) (by rw[YAH];omega)) ⟨e,?_⟩
 refine⟨y,_,I.lset (its':=its.eraseIdx k) hH e ?_ (r.eraseIdx k) ?_,rw',q⟩
 ·show its.toArray.eraseIdxIfInBounds k=(its.eraseIdx k).toArray
  rw[List.eraseIdxIfInBounds_toArray]
 ·have:=Ze1 xs k
  omega
def rCat:R2:=fun x y H Q=>∃l b xs zs,x=.ref l∧y=.ref b∧H l=some (.lst xs)∧H b=some (.lst zs)∧xs.length+zs.length≤sizeLine∧∀p,H p=none→Q (.ref p) (upd H p (.lst (xs++zs)))
theorem Zme:OpR X (binaryOp .Add) rCat:=by
 intro pins s σ H x y v u Q I rx ry h
 obtain⟨l,b,xs,zs,rfl,rfl,hH,hB,hz,q⟩:=h
 cases rx
 cases ry
 obtain⟨z,its,n,r,hl,e⟩:=I.lstM hH
 obtain⟨z2,its2,n2,r2,hl2,e2⟩:=I.lstM hB
 refine PySem.P.add_list e e2 ?_ (by rw[YAH,YAH];omega)
 have ea:its.toArray++its2.toArray=(its++its2).toArray:=by simp
 rw[ea]
 exact⟨.ref _,_,I.lnew (t':=s.toks) (r.append r2) (by rw[YAI];omega),rfl,q _ I.fresh⟩
end
section
variable {prog:Program}{w:World}{A:Around}{E:Value→Shared→Prop}{s:Shared}
end
section
variable {X:Cx}
end
end L2
namespace Att
open PySem PySem.W PySem.Calls PyProof.Rows
theorem Zds {P:Params}{h:Heap}:∀(ns:List Int) (vs:List Value),WellAll P h vs (ns.map WData.int)→IntsAre vs ns:=by
 intro ns
 induction ns with
 | nil=>
  intro vs w
  rw[List.map_nil]at w
  cases w
  exact .nil
 | cons n ns ih=>
  intro vs w
  rw[YAg]at w
  cases w with
  | cons a b=>
   cases a
   exact .cons _ _ (ih _ b)
theorem Zhv {l:OpenLaw}{n:Nat}(hn:l.most=some n){P:Params}{h:Heap}{args:List WData}{vals:List Value}
  (hpre:l.row.toRowW.claim.pre args=true) (hwl:WellAll P h vals args):
  ∃a vs ns,vals=[Value.ref a]∧args=[WData.list (ns.map WData.int)]∧h.get? a=some { cls:=.type "list",data:=.seq vs.toArray }∧IntsAre vs ns∧ns.length≤n:=by
 have hsh:WShape.hasAll [] args [.list .int]=true:=(pre_splitW hpre).1
 have hc:l.pre.holds [] { args:=args }=true:=(pre_splitW hpre).2
 obtain⟨d,r,rfl,h1,h2⟩:=hasAllW_cons hsh
 obtain rfl:=hasAllW_nil h2
 obtain⟨xs,rfl,h3⟩:=hasW_list h1
 obtain⟨ns,rfl⟩:=items_int h3
 have hlen:ns.length≤n:=by
  unfold OpenLaw.pre at hc
  have h4:(WTm.not (.lt (.lit (.int (n:Int))) (.len (.arg 0)))).holds [] { args:=[.list (ns.map .int)] }=true:=by
   have h4:=(holds_andW hc).1
   rw[hn]at h4
   exact h4
  have h5:=condW_of h4 (w_not (w_lt w_lit (w_len_list (w_arg rfl))))
  rw[YAD]at h5
  refine Nat.le_of_not_lt fun q=>?_
  have q':(n:Int)<((ns.length:Nat):Int):=by omega
  first
   | (rw[decide_eq_true q']at h5;exact absurd h5 (by decide))
   | (simp at h5;omega)
 cases hwl with
 | cons w1 w2=>
  cases w2
  cases w1 with
  | list ho hall=>exact⟨_,_,ns,rfl,rfl,ho,Zds ns _ hall,hlen⟩
theorem ZhG (l:OpenLaw)(args:List WData):l.row.toRowW.claim.post args (.bool true) args=true:=
 postW_of (r:=l.row.toRowW) (X:=(true == true))
  (show WShape.has [] (.bool true) .bool=true by first | rfl | decide | simp[WShape.has,WShape.arms,WShape.armsAll])
  (show (WTm.eq .res (.lit (.bool true))).value [] { args:=args,res:=some (.bool true),after:=args }=some (.bool (true == true)) from w_eq_bool (w_res rfl) w_lit) rfl
theorem attach_call {l:OpenLaw}{n:Nat}{q:Program}{loose:List Str}{XP:(Str→Option Value)→Heap→Prop}{YP:World→Heap→Prop}{d:DefRec}
  (hn:l.most=some n) (hdf:d.params.defaults=[])
  (call:∀(w:World) (s₀ s₁:Shared) (mg mb:Str→Option Value) (fa:Addr) (o:Obj) (pm cd doc:Value) (a:Addr) (vs:List Value) (ns:List Int),
   Ground q loose [] XP w s₀ mg mb s₁.heap→YP w s₁.heap →
   s₁.heap.get? fa=some o→o.data=.func (docDef d.name d.params d.body d.scope pm cd doc)→s₁.heap.CodeRec cd d.name→mg d.name=some (.ref fa) →
   s₁.heap.get? a=some { cls:=.type "list",data:=.seq vs.toArray }→IntsAre vs ns→ns.length≤n→s₁.gens=#[] →
   codeAny (model l.prog w) callerA (.call (.ref fa) ⟨[.ref a],[]⟩) (fun r s'=>r=.ok (.ret (.bool true))∧OldK s₁.heap s'.heap∧s'.os=s₁.os∧AllBare s'.gens) s₁):
  WalkO q loose XP YP l.row.toRowW d [] (fun f vs=>PySem.call f vs):=by
 intro w s₀ s₁ mg mb G Y fa o pm cd doc dV kV ho hd hcd hD hmg hg args vals as hpre hlay hrd hwl hlo
 obtain rfl:dV=.none:=Dflts.none hD hdf
 obtain rfl:kV=.none:=Dflts.noKw hD
 obtain⟨a,vs,ns,rfl,rfl,hobj,hints,hlen⟩:=Zhv hn hpre hwl
 refine enter_call (codeAny_mono (call w s₀ s₁ mg mb fa o pm cd doc a vs ns G Y ho (fd_plain hd) hcd hmg hobj hints hlen hg) fun r s' hq=>?_)
 obtain⟨rfl,h2,h3,h4⟩:=hq
 exact⟨.inl ⟨.bool true,.bool true,[],rfl,fun _=>rfl,.bool true,ZhG l _,fun _=>⟨List.Pairwise.nil,fun _ hm=>(nomatch hm)⟩⟩,h2,h3,h4⟩
section
variable {prog:Program}{w:World}{A:Around}{E:Value→Shared→Prop}{s:Shared}{K:Frag}
def ledger (h:Heap)(L d:Addr):List (Addr×Obj):=(List.range h.objs.size).filterMap fun a=>if a=L∨a=d then none else (h.get? a).map fun o=>(a,o)
end
end Att
namespace L2
open PySem PySem.Spec PyProof.Rows
theorem Zc5:∀ {vs:List Value} {ns:List Int},IntsAre vs ns→Vals (ns.map V.int) vs
 | _,_,.nil=>.nil
 | _,_,.cons n t h=>.cons ⟨t,rfl⟩ (Zc5 h)
def Only (H:Hp):Prop:=∀b,H b=none∨∃o xs,H b=some (.frz o (.lst xs))
theorem Zje {P:Program}{w:World}{K:PySem.W.Frag}{mg mb:Str→Option Value}{CX:CXT}{k:Nat}{fa a:Addr}{fd:FuncData}{x:Str}{sp:Sp}{s₁:Shared}{vs:List Value}{ns:List Int}
  (KX:K.In s₁.heap) (hns:s₁.heap.Ns mainGlobals mg) (hb:s₁.heap.Ns builtinsNs mb) (hbb:∀x:Str,x≠"__name__"→mb x=bootBuiltins x) (hlim:s₁.heap.NoLimit) (hg:s₁.gens=#[])
  (ha:s₁.heap.get? a=some { cls:=.type "list",data:=.seq vs.toArray }) (hi:IntsAre vs ns) (hl:ns.length≤sizeLine) (hr:Room k callerA)
  (F:∀base:Heap,K.In base→base.Ns mainGlobals mg→FnOk P w K mg base CX k fa fd [x] sp) (hbind:∀(s:Shared) (u:Value),BindsTo s fd ⟨[u],[]⟩ [(x,u)])
  (hsp:∀H:Hp,Only H→SqL K H a (ns.map V.int)→sp [.ref a] H (fun v _=>v=.bl true) fun _ _ _=>False)
  (hCX:∀H e s',CX [] H s₁ (fun _ _ _=>False) e s'→False):
  codeAny (model P w) callerA (.call (.ref fa) ⟨[.ref a],[]⟩) (fun r s'=>r=.ok (.ret (.bool true))∧OldK s₁.heap s'.heap∧s'.os=s₁.os∧AllBare s'.gens) s₁:=by
 have rv:=Zc5 hi
 have lenV:=hi.length
 have core:∀H:Hp,Only H→SqL K H a (ns.map V.int)→HOk P w H s₁.heap→(∀b,H b≠none→b=a)→(H a≠none→K.lookup a=none) →
   codeAny (model P w) callerA (.call (.ref fa) ⟨[.ref a],[]⟩) (fun r s'=>r=.ok (.ret (.bool true))∧OldK s₁.heap s'.heap∧s'.os=s₁.os∧AllBare s'.gens) s₁:=by
  intro H hO hS hok hA hK
  have base_of:∀ {b:Addr} {o:Obj},s₁.heap.get? b=some o→H b=none→(hidT s₁.heap H).get? b=some o:=fun e n=>Zgt e n
  have noA:∀ {b:Addr} {o:Obj} {es:Array DictEntry} {ep:Nat},s₁.heap.get? b=some o→o.data=.dict es ep→H b=none:=fun {b o es ep} e d=>by
   cases q:H b with
   | none=>rfl
   | some u=>
    have e':b=a:=hA b (by rw[q];simp)
    subst e'
    rw[ha]at e;cases e
    have d':Data.seq vs.toArray _=Data.dict es ep:=d
    cases d'
  have nsK:∀ {b:Addr} {m:Str→Option Value},s₁.heap.Ns b m→(hidT s₁.heap H).Ns b m:=fun {b m} ⟨o,es,ep,e,d,r⟩=>⟨o,es,ep,base_of e (noA e d),d,r⟩
  have hKb:K.In (hidT s₁.heap H):=fun b o e=>base_of (KX b o e) (by
   cases q:H b with
   | none=>rfl
   | some u=>
    have e':b=a:=hA b (by rw[q];simp)
    subst e'
    rw[hK (by rw[q];simp)]at e;cases e)
  have hM:Mod K mg (hidT s₁.heap H):=⟨hKb,nsK hns,⟨mb,nsK hb,hbb⟩,let ⟨mc,h1,h2⟩:=hlim;⟨mc,nsK h1,h2⟩⟩
  have e0:Env0 P w K mg (hidT s₁.heap H) callerA [] s₁ H:=⟨rfl,hM,fun b o e=>ZhQ e,YCQ (Zfc _ _),trivial,fun b hb=>absurd (show b∈([]:List Addr) from hb) (by simp),hok,.of_eq hg⟩
  refine codeAny_mono ((F _ hKb (nsK hns)).run callerA [] s₁ H ⟨[.ref a],[]⟩ [.ref a] [.ref a] _ _ hr e0 (hbind s₁ (.ref a)) (.cons rfl .nil) (hsp H hO hS)) fun r s' h=>?_
  cases r with
  | error e=>exact(hCX H e s' h).elim
  | ok fl=>
   cases fl with
   | next=>exact False.elim h
   | brk=>exact False.elim h
   | cont=>exact False.elim h
   | ret u=>
    obtain⟨v,H',os,bare,un,hok',r',q⟩:=h
    have q':v=.bl true:=q
    subst q'
    obtain rfl:u=Value.bool true:=r'
    refine⟨rfl,OldK.of_keep fun b o e=>?_,os,bare⟩
    cases q:H b with
    | none=>exact un.keep b o e q (by intro z;exact absurd (show b∈([]:List Addr) from z) (by simp)) (by simp)
    | some u=>
     rcases hO b with z | ⟨ob,xs,z⟩
     ·rw[q]at z;cases z
     ·have z2:=un.frzs b ob _ z
      obtain⟨e1,_⟩:=hok b _ z
      obtain⟨e2,_⟩:=hok' b _ z2
      rw[e]at e1;cases e1
      exact e2
 cases hk:K.lookup a with
 | some o=>
  have e:=KX a o hk
  rw[ha]at e
  cases e
  refine core (fun _=>none) (fun _=>.inl rfl) (.inr ⟨_,vs.toArray,_,hk,rfl,rfl,rfl,by rw[YAH,lenV];exact hl,by simpa using rv⟩) (fun b u z=>by have z':(none:Option HO)=some u:=z;cases z') (fun b z=>absurd rfl z) fun z=>absurd rfl z
 | none=>
  refine core (fun b=>if b=a then some (.frz { cls:=.type "list",data:=.seq vs.toArray } (.lst (ns.map V.int))) else none) (fun b=>?_) (.inl (.inr ⟨{ cls:=.type "list",data:=.seq vs.toArray },YAO rfl⟩)) (fun b u z=>?_) (fun b z=>?_) fun _=>hk
  ·by_cases hb:b=a
   ·exact .inr ⟨_,_,YAO hb⟩
   ·exact .inl (YAJ hb)
  ·by_cases hb:b=a
   ·have z':=(YAO hb).symm.trans z
    cases z'
    subst hb
    exact⟨ha,by rw[YAD];exact hl,vs,_,rv,ha⟩
   ·have z':=(YAJ hb).symm.trans z
    cases z'
  ·by_cases hb:b=a
   ·exact hb
   ·exact absurd (YAJ hb) z
end L2
namespace L2
open PySem PySem.Spec PyProof.Rows
abbrev KOf {K:PySem.W.Frag}{h:Heap}(_:K.In h):PySem.W.Frag:=K
theorem Znt {l:PySem.W.OpenLaw}{n k:Nat}{q:Program}{loose:List Str}{XP:(Str→Option Value)→Heap→Prop}{YP:World→Heap→Prop}{d:DefRec}{K:Params→PySem.W.Frag}{CX:World→CXT}{sp:World→Sp}{x:Str}
  (hn:l.most=some n) (hn2:n≤sizeLine) (hdf:d.params.defaults=[]) (hr:Room k callerA)
  (hY:∀(w:World) (h:Heap),YP w h→(K w.params).In h)
  (F:∀(w:World) (mg:Str→Option Value) (fa:Addr) (h:Heap),(K w.params).In h→h.Ns mainGlobals mg→mg d.name=some (.ref fa) →
   ∃fd:FuncData,(∀(s:Shared) (u:Value),BindsTo s fd ⟨[u],[]⟩ [(x,u)]) ∧
    ∀base:Heap,(K w.params).In base→base.Ns mainGlobals mg→FnOk l.prog w (K w.params) mg base (CX w) k fa fd [x] (sp w))
  (hsp:∀(w:World) (H:Hp) (a:Addr) (ns:List Int),ns.length≤n→Only H→SqL (K w.params) H a (ns.map V.int)→sp w [.ref a] H (fun v _=>v=.bl true) fun _ _ _=>False)
  (hCX:∀(w:World) (H:Hp) (s:Shared) (e:Value) (s':Shared),CX w [] H s (fun _ _ _=>False) e s'→False):
  PySem.W.WalkO q loose XP YP l.row.toRowW d [] (fun f vs=>PySem.call f vs):=by
 refine Att.attach_call hn hdf fun w s₀ s₁ mg mb fa o pm cd doc a vs ns G Y ho hd hcd hmg hobj hints hlen hg=>?_
 have KX:=hY w _ Y
 obtain⟨fd,hb,hF⟩:=F w mg fa _ KX G.T.g hmg
 exact Zje KX G.T.g G.T.b G.T.builtins G.T.nolimit hg hobj hints (YAQ hlen hn2) hr hF hb (fun H hO hS=>hsp w H a ns hlen hO hS) fun H e s'=>hCX w H s₁ e s'
def inClass (s:Stmt)(j:Nat):Stmt:=match s with
 | .ClassDef _ _ _ body _ _ _ _ _ _ _=>body.getD j (.Pass ⟨0,0,0,0⟩)
 | _=>.Pass ⟨0,0,0,0⟩
def ZbT (s:Stmt):Arguments:=match s with
 | .FunctionDef _ a _ _ _ _ _ _ _ _=>a
 | _=>{ posonlyargs:=[],args:=[],vararg:=none,kwonlyargs:=[],kw_defaults:=[],kwarg:=none,defaults:=[] }
def ZaP (s:Stmt):List Stmt:=match s with
 | .FunctionDef _ _ b _ _ _ _ _ _ _=>b
 | _=>[]
def Zag (s:Stmt):Scope:=match s with
 | .FunctionDef _ _ _ _ _ _ sc _ _ _=>sc
 | _=>{ kind:=.function,names:=[],isGenerator:=false,isCoroutine:=false }
abbrev CX0:CXT:=fun _ _ _ _ _ _=>False
abbrev E0:XK:=fun _ _ _=>False
theorem Zav {X:Cx}:ZbD CX0 X E0:=fun _ _ _ _ _ _ _ h=>h.elim
structure Fun (K:PySem.W.Frag)(x qual:Str)(st:Stmt)(f:Addr)(fd:FuncData):Prop where
 ex:∃(oc:Value) (od:Option Addr) (kV doc pm:Value) (an:Option Addr) (cdv ct:Value) (osl:Array (Option Value)),
  fd=PySem.W.fnOf x qual (ZbT st) (ZaP st) (Zag st) .none kV doc pm an cdv ct∧K.lookup f=some ⟨oc,od,.func fd,osl⟩∧PySem.W.codeIn K cdv qual=true
 kp:PySem.W.keepIn K (.ref f)=true
section
variable {P:Program}{w:World}{K:PySem.W.Frag}{mg:Str→Option Value}{base:Heap}
theorem Fun.ok {x qual:Str}{st:Stmt}{f:Addr}{fd:FuncData}{N ps:List Str}{k:Nat}{sp:Sp}(F:Fun K x qual st f fd)(S:FnScope N ps (Zag st))(len:∀vs H Q E,sp vs H Q E→vs.length=ps.length)
  (hbody:∀(cdv:Value) (A:Around) (outer:List Env) (s:Shared) (H:Hp) (vs:List V) (Q:VK) (E:XK),Room k (A.deeper (envOfC qual (Zag st) s.heap.objs.size f cdv))→sp vs H Q E →
   ∃t,PSs (cxOf CX0 P w K mg base N qual (Zag st) f cdv A outer s H E).nox (ZaP st) t∧t { nx:=fun _ H'=>Q .non H',rt:=Q } (start N vs) H):FnOk P w K mg base CX0 (k+1) f fd ps sp:=by
 obtain⟨oc,od,kV,doc,pm,an,cdv,ct,osl,rfl,lk,hcd⟩:=F.ex
 refine Zjn lk hcd S len fun A outer s H vs Q E hr hsp=>?_
 obtain⟨t,h,q⟩:=hbody cdv A outer s H vs Q E hr hsp
 exact⟨t,h.nox,q⟩
theorem Fun.binds {x qual:Str}{st:Stmt}{f:Addr}{fd:FuncData}{ps:List Str}(F:Fun K x qual st f fd)
  (h:∀(kV doc pm:Value) (an:Option Addr) (cdv ct:Value) (us:List Value),us.length=ps.length→bindArgs (PySem.W.fnOf x qual (ZbT st) (ZaP st) (Zag st) .none kV doc pm an cdv ct) ⟨us,[]⟩=pure (ps.zip us)):Binds K fd ps []:=by
 obtain⟨oc,od,kV,doc,pm,an,cdv,ct,osl,rfl,lk,hcd⟩:=F.ex
 exact .all (h kV doc pm an cdv ct)
theorem ZjY {x qual:Str}{st:Stmt}{f:Addr}{oc:Value}{od an:Option Addr}{osl:Array (Option Value)}{kV doc pm cdv ct:Value}(l:K.lookup f=some ⟨oc,od,.func (PySem.W.fnOf x qual (ZbT st) (ZaP st) (Zag st) .none kV doc pm an cdv ct),osl⟩)
  (c:PySem.W.codeIn K cdv qual=true) (k:PySem.W.keepIn K (.ref f)=true):Fun K x qual st f (PySem.W.fnOf x qual (ZbT st) (ZaP st) (Zag st) .none kV doc pm an cdv ct):=⟨⟨oc,od,kV,doc,pm,an,cdv,ct,osl,rfl,l,c⟩,k⟩
end
theorem ZaM {A:Around}{k:Nat}(hr:Room k A):A.units+1<cLine:=YCE (Nat.add_le_add_left (by decide:1≤64) _) hr.units
theorem Zc9 {n:Nat}(h:n≤1000):n<sizeLine:=YCE h (by decide)
section
variable {X:Cx}
theorem pv (i:Nat) {x:Str} {pos:Pos} (hN:X.N[i]?=some x:=by rfl) (hv:Vis X.env.scope x:=by first | exact Or.inl rfl | exact Or.inr (Or.inl rfl) | exact Or.inr (Or.inr rfl)) (hd:(x == ("__debug__":Str))=false:=by decide)
  (hcd:(x == ("__classdict__":Str))=false:=by decide):PE X (.Name x pos) (tVar i):=Zl7 hN hv hd hcd
end
theorem iteF {A B:Prop}(h:B):if false=true then A else B:=by
 rw[YAJ YAE]
 exact h
theorem iteT {A B:Prop}(h:A):if true=true then A else B:=by
 rw[YAO rfl]
 exact h
theorem ite2 {c A B:Prop}[Decidable c](h1:c→A)(h2:¬c→B):if c then A else B:=by
 by_cases h:c
 ·rw[YAO h]
  exact h1 h
 ·rw[YAJ h]
  exact h2 h
def Same (H H':Hp):Prop:=∀b o,H b=some o→H' b=some o
theorem Same.refl (H:Hp):Same H H:=fun _ _ h=>h
theorem Same.trans {H H1 H2:Hp}(a:Same H H1)(b:Same H1 H2):Same H H2:=fun c o h=>b c o (a c o h)
theorem Same.free {H H':Hp}(e:Same H H'){l:Addr}(h:H' l=Option.none):H l=Option.none:=by
 cases q:H l with
 | none=>rfl
 | some o=>
  rw[e l o q]at h
  cases h
theorem Same.seq {K:PySem.W.Frag}{H H':Hp}{a:Addr}{xs:List V}(e:Same H H')(h:SqL K H a xs):SqL K H' a xs:=by
 rcases h with (h | ⟨o,h⟩) | h
 ·exact .inl (.inl (e _ _ h))
 ·exact .inl (.inr ⟨o,e _ _ h⟩)
 ·exact .inr h
section
variable {κ:Type}[DecidableEq κ]
def valV (kvs:List (κ×V))(k:κ):Option V:=(kvs.find? fun kv=>decide (kv.1=k)).map (·.2)
def putK (kvs:List (κ×V))(k:κ)(v:V):List (κ×V):=
 if (kvs.any fun kv=>decide (kv.1=k))=true then kvs.map (fun kv=>if kv.1=k then (kv.1,v) else kv) else kvs++[(k,v)]
def Znf (kvs:List (κ×V))(k:κ):List (κ×V):=kvs.filter fun kv=>decide (kv.1≠k)
theorem Za7 {p:κ×V}{r:List (κ×V)}{k:κ}(e:p.1=k):valV (p::r) k=some p.2:=by simp[valV,YCz,e]
theorem Za8 {p:κ×V}{r:List (κ×V)}{k:κ}(e:¬p.1=k):valV (p::r) k=valV r k:=by simp[valV,YCz,e]
theorem Zci (k:κ):∀kvs:List (κ×V),(kvs.any fun kv=>decide (kv.1=k))=(valV kvs k).isSome
 | []=>rfl
 | p::r=>by
  rw[List.any_cons]
  by_cases e:p.1=k
  ·simp only[Za7 e,decide_eq_true e,Bool.true_or,Option.isSome_some]
  ·rw[Za8 e,decide_eq_false e,Bool.false_or];exact Zci k r
theorem Zf5 (k j:κ)(y:V):∀kvs:List (κ×V),valV (kvs.map fun kv=>if kv.1=k then (kv.1,y) else kv) j=(valV kvs j).map fun x=>if j=k then y else x
 | []=>rfl
 | p::r=>by
  have ih:=Zf5 k j y r
  rw[YAg]
  by_cases h:p.1=k
  ·rw[YAO h]
   by_cases e:p.1=j
   ·rw[Za7 (p:=(p.1,y)) e,Za7 e,YDV,YAO (e.symm.trans h)]
   ·rw[Za8 (p:=(p.1,y)) e,Za8 e,ih]
  ·rw[YAJ h]
   by_cases e:p.1=j
   ·rw[Za7 (p:=p) e,Za7 e,YDV,YAJ (fun z=>h (e.trans z))]
   ·rw[Za8 (p:=p) e,Za8 e,ih]
theorem ZeB (k j:κ)(y:V):∀kvs:List (κ×V),valV kvs k=none→valV (kvs++[(k,y)]) j=if j=k then some y else valV kvs j
 | [],_=>by
  by_cases e:k=j
  ·rw[YAO e.symm];exact Za7 (p:=(k,y)) e
  ·rw[YAJ (fun z=>e z.symm)];exact Za8 (p:=(k,y)) e
 | p::r,hn=>by
  rw[YDJ]
  have hk:¬p.1=k:=fun z=>by rw[Za7 z]at hn;cases hn
  rw[Za8 hk]at hn
  have ih:=ZeB k j y r hn
  by_cases e:p.1=j
  ·rw[Za7 e,Za7 e,YAJ (fun z=>hk (e.trans z))]
  ·rw[Za8 e,Za8 e,ih]
theorem Zf4 (kvs:List (κ×V))(k j:κ)(y:V):valV (putK kvs k y) j=if j=k then some y else valV kvs j:=by
 unfold putK
 by_cases a:(kvs.any fun kv=>decide (kv.1=k))=true
 ·rw[YAO a,Zf5]
  rw[Zci]at a
  by_cases e:j=k
  ·obtain⟨x,hx⟩:=Option.isSome_iff_exists.mp a
   rw[YAO e,e,hx,YDV,YAO rfl]
  ·rw[YAJ e]
   cases valV kvs j with
   | none=>rfl
   | some x=>rw[YDV,YAJ e]
 ·rw[YAJ a]
  refine ZeB k j y kvs ?_
  rw[Zci]at a
  cases q:valV kvs k with
  | none=>rfl
  | some x=>rw[q]at a;exact(a rfl).elim
theorem Zca (kvs:List (κ×V))(k:κ)(v:V):(putK kvs k v).length≤kvs.length+1:=by
 unfold putK
 split
 ·rw[YAD];omega
 ·rw[YAI,YAp,List.length_nil];omega
theorem ZiT {kvs:List (κ×V)}{k:κ}(v:V)(h:valV kvs k=none):putK kvs k v=kvs++[(k,v)]:=by
 unfold putK
 rw[Zci,h]
 exact YAJ (by decide)
theorem RelO.isSome_eq {o:Option V}{u:Option Value}(r:RelO o u):o.isSome=u.isSome:=by
 cases o with
 | none=>cases u with
  | none=>rfl
  | some _=>exact(show False from r).elim
 | some _=>cases u with
  | none=>exact(show False from r).elim
  | some _=>rfl
theorem KV.val {kvs:List (κ×V)}{vs:List (κ×Value)}(r:KV kvs vs)(k:κ):RelO (valV kvs k) (valueAt vs k):=by
 unfold KV at r
 induction r with
 | nil=>exact True.intro
 | @cons p q ps qs h t ih=>
  obtain⟨h1,h2⟩:=h
  by_cases e:p.1=k
  ·have e':q.1=k:=h1.symm.trans e
   have b:valueAt (q::qs) k=some q.2:=by simp[valueAt,YCz,e']
   rw[Za7 e,b];exact h2
  ·have e':¬q.1=k:=fun z=>e (h1.trans z)
   have b:valueAt (q::qs) k=valueAt qs k:=by simp[valueAt,YCz,e']
   rw[Za8 e,b];exact ih
theorem KV.any {kvs:List (κ×V)}{vs:List (κ×Value)}(r:KV kvs vs)(k:κ):(kvs.any fun kv=>decide (kv.1=k))=vs.any fun kv=>decide (kv.1=k):=by
 unfold KV at r
 induction r with
 | nil=>rfl
 | cons h t ih=>rw[List.any_cons,List.any_cons,ih,h.1]
theorem KV.repl {kvs:List (κ×V)}{vs:List (κ×Value)}(r:KV kvs vs)(k:κ){y:V}{u:Value}(ry:RelV y u):
  KV (kvs.map fun kv=>if kv.1=k then (kv.1,y) else kv) (vs.map fun kv=>if kv.1=k then (kv.1,u) else kv):=by
 unfold KV at r ⊢
 induction r with
 | nil=>exact .nil
 | @cons p q ps qs h t ih=>
  rw[YAg,YAg]
  refine .cons ?_ ih
  obtain⟨h1,h2⟩:=h
  by_cases e:p.1=k
  ·rw[YAO e,YAO (h1.symm.trans e)];exact⟨h1,ry⟩
  ·rw[YAJ e,YAJ (fun z=>e (h1.trans z))];exact⟨h1,h2⟩
theorem KV.put {kvs:List (κ×V)}{vs:List (κ×Value)}(r:KV kvs vs)(k:κ){y:V}{u:Value}(ry:RelV y u):KV (putK kvs k y) (stored vs k u):=by
 unfold putK stored
 rw[r.any k]
 by_cases e:(vs.any fun kv=>decide (kv.1=k))=true
 ·rw[YAO e,YAO e];exact r.repl k ry
 ·rw[YAJ e,YAJ e];exact Paired.snoc r ⟨rfl,ry⟩
theorem KV.drop {kvs:List (κ×V)}{vs:List (κ×Value)}(r:KV kvs vs)(k:κ):KV (Znf kvs k) (without vs k):=by
 unfold KV at r ⊢
 unfold Znf without
 induction r with
 | nil=>exact .nil
 | @cons p q ps qs h t ih=>
  obtain⟨h1,h2⟩:=h
  rw[List.filter_cons,List.filter_cons]
  by_cases e:p.1=k
  ·have a:¬decide (p.1≠k)=true:=by simp[e]
   have b:¬decide (q.1≠k)=true:=by simp[h1.symm.trans e]
   rw[YAJ a,YAJ b];exact ih
  ·have e':¬q.1=k:=fun z=>e (h1.trans z)
   have a:decide (p.1≠k)=true:=by simp[e]
   have b:decide (q.1≠k)=true:=by simp[e']
   rw[YAO a,YAO b];exact .cons ⟨h1,h2⟩ ih
theorem KV.keys {kvs:List (κ×V)}{vs:List (κ×Value)}(r:KV kvs vs):kvs.map (·.1)=vs.map (·.1):=by
 unfold KV at r
 induction r with
 | nil=>rfl
 | cons h t ih=>rw[YAg,YAg,ih,h.1]
theorem KV.length {kvs:List (κ×V)}{vs:List (κ×Value)}(r:KV kvs vs):kvs.length=vs.length:=Paired.length r
end
theorem ZkW {P:Program}{w:World}{k:Key}{u:Value}(r:RelV (kV k) u):(ZaL P w).is k u=true:=by
 cases k with
 | inl i=>obtain⟨t,e⟩:=(show ∃t,u=Value.int i t from r);subst e;exact ZfG P w i t
 | inr x=>obtain⟨t,e⟩:=(show ∃t,u=Value.str x t from r);subst e;exact Zdk P w x t
theorem Ze8 {P:Program}{w:World}:∀ {ks:List Key} {us:List Value},Vals (ks.map kV) us→ItemsAre (ZaL P w) ks us
 | [],_,r=>by rw[List.map_nil]at r;cases r;exact .nil
 | k::ks,_,r=>by
  rw[YAg]at r
  cases r with
  | cons h t=>exact .cons (ZkW h) (Ze8 t)
abbrev KT (H:Hp):List (List Key×V)→List (List Key×Addr×Value)→Prop:=Paired fun p q=>p.1=q.1∧H q.2.1=some (.tup (p.1.map kV))∧RelV p.2 q.2.2
theorem KT.val {H:Hp}{kvs:List (List Key×V)}{xs:List (List Key×Addr×Value)}(r:KT H kvs xs)(k:List Key):RelO (valV kvs k) ((atKey xs k).map (·.2)):=by
 induction r with
 | nil=>exact True.intro
 | @cons p q ps qs h t ih=>
  obtain⟨h1,_,h2⟩:=h
  by_cases e:p.1=k
  ·have e':q.1=k:=h1.symm.trans e
   have b:atKey (q::qs) k=some q.2:=by simp[atKey,YCz,e']
   rw[Za7 e,b];exact h2
  ·have e':¬q.1=k:=fun z=>e (h1.trans z)
   have b:atKey (q::qs) k=atKey qs k:=by simp[atKey,YCz,e']
   rw[Za8 e,b];exact ih
theorem KT.repl {H:Hp}{kvs:List (List Key×V)}{xs:List (List Key×Addr×Value)}(r:KT H kvs xs)(k:List Key){y:V}{u:Value}(ry:RelV y u):
  KT H (kvs.map fun kv=>if kv.1=k then (kv.1,y) else kv) (xs.map (putAt k u)):=by
 induction r with
 | nil=>exact .nil
 | @cons p q ps qs h t ih=>
  rw[YAg,YAg]
  refine .cons ?_ ih
  obtain⟨h1,h2,h3⟩:=h
  unfold putAt
  by_cases e:p.1=k
  ·rw[YAO e,YAO (h1.symm.trans e)];exact⟨h1,h2,ry⟩
  ·rw[YAJ e,YAJ (fun z=>e (h1.trans z))];exact⟨h1,h2,h3⟩
theorem KT.put {H:Hp}{kvs:List (List Key×V)}{xs:List (List Key×Addr×Value)}(r:KT H kvs xs)(k:List Key){b:Addr}{y:V}{u:Value}(hb:H b=some (.tup (k.map kV)))(ry:RelV y u):
  KT H (putK kvs k y) (storedH xs k b u):=by
 have e:(kvs.any fun kv=>decide (kv.1=k))=(atKey xs k).isSome:=by
  rw[Zci,(r.val k).isSome_eq,Option.isSome_map]
 unfold putK storedH
 rw[e]
 by_cases q:(atKey xs k).isSome=true
 ·rw[YAO q,YAO q];exact r.repl k ry
 ·rw[YAJ q,YAJ q];exact Paired.snoc r ⟨rfl,hb,ry⟩
theorem KT.keeps {H H':Hp}{kvs:List (List Key×V)}{xs:List (List Key×Addr×Value)}(r:KT H kvs xs)(ht:∀b ys,H b=some (.tup ys)→H' b=some (.tup ys)):KT H' kvs xs:=
 Paired.mapP r fun _ _ z=>⟨z.1,ht _ _ z.2.1,z.2.2⟩
section
variable {P:Program}{w:World}{H:Hp}{h:Heap}{a:Addr}
theorem ZlY {u:HO}(ok:HOk P w H h)(e:Rd H a u):ObjOk P w H h a u:=e.ok ok
theorem Zlg {kvs:List (Key×V)}(ok:HOk P w H h)(e:Rd H a (.dK kvs)):kvs.length≤sizeLine∧(a == sysModules)=false∧∃vs,KV kvs vs∧h.DictOf (ZaL P w) a vs:=
 show ObjOk P w H h a (.dK kvs) from ZlY ok e
theorem Zng {kvs:List (Key×V)}(ok:HOk P w H h)(e:H a=some (.dK kvs)):kvs.length≤sizeLine∧(a == sysModules)=false∧∃vs,KV kvs vs∧h.DictOf (ZaL P w) a vs:=Zlg ok (.inl e)
theorem Zh4 {ks:List Key}(ok:HOk P w H h)(e:H a=some (.tup (ks.map kV))):(tupleKind (ZaL P w)).is h ks a:=by
 obtain⟨_,its,r,o,h1,h2,n,h3⟩:=(show ObjOk P w H h a (.tup (ks.map kV)) from ok a _ e)
 exact⟨o,its.toArray,n,h1,h2,h3,by simpa using Ze8 r⟩
theorem Zlf {kvs:List (List Key×V)}(ok:HOk P w H h)(e:Rd H a (.dT kvs)):kvs.length≤sizeLine∧(a == sysModules)=false ∧
  ∃xs,KT H kvs xs∧h.DictOfH (tupleKind (ZaL P w)) a xs:=by
 obtain⟨z,y,xs,r,o,es,ep,h1,h2,h3,h4,h5⟩:=(show ObjOk P w H h a (.dT kvs) from ZlY ok e)
 refine⟨z,y,xs,r,o,es,ep,h1,h2,h3,h4,fun x hx=>?_,h5⟩
 have all:∀ {l:List (List Key×V)} {m:List (List Key×Addr×Value)},KT H l m→∀x∈m,(tupleKind (ZaL P w)).is h x.1 x.2.1:=by
  intro l m q
  induction q with
  | nil=>intro x hx;exact nomatch hx
  | @cons p q ps qs hq t ih=>
   intro x hx
   rcases YAM.mp hx with e | hx
   ·subst e
    exact Zh4 ok (by rw[←hq.1];exact hq.2.1)
   ·exact ih x hx
 exact all r x hx
theorem Zpb {kvs:List (List Key×V)}(ok:HOk P w H h)(e:H a=some (.dT kvs)):kvs.length≤sizeLine∧(a == sysModules)=false ∧
  ∃xs,KT H kvs xs∧h.DictOfH (tupleKind (ZaL P w)) a xs:=Zlf ok (.inl e)
end
def DGet (H:Hp)(a:Addr)(y:V)(r:Option V):Prop:=
 (∃kvs k,Rd H a (.dK kvs)∧y=kV k∧r=valV kvs k)∨∃kvs k b,Rd H a (.dT kvs)∧y=.ref b∧H b=some (.tup (k.map kV))∧r=valV kvs k
def DPut (H:Hp)(a:Addr)(y v:V)(H':Hp):Prop:=
 (∃kvs k,H a=some (.dK kvs)∧y=kV k∧kvs.length<sizeLine∧H'=upd H a (.dK (putK kvs k v))) ∨
 ∃kvs k b,H a=some (.dT kvs)∧y=.ref b∧H b=some (.tup (k.map kV))∧kvs.length<sizeLine∧H'=upd H a (.dT (putK kvs k v))
theorem DGet.k {H:Hp}{a:Addr}{kvs:List (Key×V)}{k:Key}(e:H a=some (.dK kvs)):DGet H a (kV k) (valV kvs k):=.inl ⟨kvs,k,.inl e,rfl,rfl⟩
theorem DGet.t {H:Hp}{a b:Addr}{kvs:List (List Key×V)}{k:List Key}(e:H a=some (.dT kvs))(eb:H b=some (.tup (k.map kV))):DGet H a (.ref b) (valV kvs k):=.inr ⟨kvs,k,b,.inl e,rfl,eb,rfl⟩
theorem DPut.k {H:Hp}{a:Addr}{kvs:List (Key×V)}{k:Key}{v:V}(e:H a=some (.dK kvs))(hl:kvs.length<sizeLine):DPut H a (kV k) v (upd H a (.dK (putK kvs k v))):=.inl ⟨kvs,k,e,rfl,hl,rfl⟩
theorem DPut.t {H:Hp}{a b:Addr}{kvs:List (List Key×V)}{k:List Key}{v:V}(e:H a=some (.dT kvs))(eb:H b=some (.tup (k.map kV)))(hl:kvs.length<sizeLine):
  DPut H a (.ref b) v (upd H a (.dT (putK kvs k v))):=.inr ⟨kvs,k,b,e,rfl,eb,hl,rfl⟩
section
variable {X:Cx}{pins:List (Addr×Obj)}{σ:St}{H:Hp}{s:Shared}{a:Addr}{y v:V}{u r:Value}{o:Option V}{A:Around}{E:Value→Shared→Prop}
theorem Inv.big (I:Inv X pins σ H s):sysModules<s.heap.objs.size:=by
 have h:mainGlobals<s.heap.objs.size:=(I.mod.glob.keeps I.bk).lt
 exact Nat.lt_trans (by decide) h
theorem Zio {Q:Value→Shared→Prop}(hu:A.units+1<cLine)(I:Inv X pins σ H s)(g:DGet H a y (some v))(ry:RelV y u)(h:∀w' s',Inv X pins σ H s'→RelV v w'→Q w' s'):
  wpAny (model X.prog X.w) A (getItem (.ref a) u) Q E s:=by
 rcases g with⟨kvs,k,e,ey,l⟩|⟨kvs,k,b,e,ey,eb,l⟩
 ·subst ey
  obtain⟨z,hd,vs,rel,dd⟩:=Zlg I.hok e
  obtain⟨w',hw,rw'⟩:=RelO.some_of (v:=v) (o:=valueAt vs k) (by rw[l];exact rel.val k)
  exact wpAny_getItem_of (ZkW ry) dd.mapOf hw (h w' _ (I.tok _) rw')
 ·subst ey
  cases (show u=Value.ref b from ry)
  obtain⟨z,hd,xs,rel,dd⟩:=Zlf I.hok e
  obtain⟨w',hw,rw'⟩:=RelO.some_of (v:=v) (o:=(atKey xs k).map (·.2)) (by rw[l];exact rel.val k)
  obtain⟨p,hp,hp2⟩:=Option.map_eq_some_iff.mp hw
  refine wpAny_getItem_heap (tupleKind_room_in1 hu) (Zh4 I.hok eb) dd hp ?_
  rw[hp2]
  exact h w' _ (I.tok _) rw'
theorem Zim {h':Heap}{t':Nat}{ob:HO}(I:Inv X pins σ H s)(mu:Mut (H a))(hs:Heap.SameBut a s.heap h')(he:∃q,h'.get? a=some q)(new:ObjOk X.prog X.w (upd H a ob) h' a ob):
  Inv X pins σ (upd H a ob) { s with heap:=h',toks:=t' }:=
 I.write (x:=a) (e:=a) mu (.inl rfl) (fun b q hb z=>(hs.2 b hb).trans z) he new
theorem Znh {P:Program}{w:World}{H':Hp}{h':Heap}{kvs:List (Key×V)}{vs:List (Key×Value)}(z:kvs.length≤sizeLine)(hd:(a == sysModules)=false)(rel:KV kvs vs)(dd:h'.DictOf (ZaL P w) a vs):
  ObjOk P w H' h' a (.dK kvs):=⟨z,hd,vs,rel,dd⟩
theorem Zin {H':Hp}{Q:Unit→Shared→Prop}(hu:A.units+1<cLine)(I:Inv X pins σ H s)(g:DPut H a y v H')(ry:RelV y u)(rv:RelV v r)(h:∀s',Inv X pins σ H' s'→Q () s'):
  wpAny (model X.prog X.w) A (setItem (.ref a) u r) Q E s:=by
 rcases g with⟨kvs,k,e,ey,l,eH⟩|⟨kvs,k,b,e,ey,eb,l,eH⟩
 ·subst ey eH
  obtain⟨z,hd,vs,rel,dd⟩:=Zng I.hok e
  have hz:vs.length≤sizeLine:=by rw[←rel.length];exact z
  have hl:(putK kvs k v).length≤sizeLine:=by have:=Zca kvs k v;omega
  refine wpAny_setItem_pairs (hsz:=hz) (ZkW ry) dd fun h' dd' hs=>h _ ?_
  have he:∃q,h'.get? a=some q:=let ⟨q,_,_,hq,_⟩:=dd';⟨q,hq⟩
  exact Zim I (by rw[e];exact True.intro) hs he (Znh hl hd (rel.put k rv) dd')
 ·subst ey eH
  cases (show u=Value.ref b from ry)
  obtain⟨z,hd,xs,rel,dd⟩:=Zpb I.hok e
  have hz:xs.length≤sizeLine:=by rw[←Paired.length rel];exact z
  have hl:(putK kvs k v).length≤sizeLine:=by have:=Zca kvs k v;omega
  refine wpAny_setItem_heap (hsz:=hz) (tupleKind_room_in1 hu) (Zh4 I.hok eb) dd fun h' dd' hs=>h _ ?_
  obtain⟨q,es,ep,hq,h2,h3,h4,_,h5⟩:=dd'
  refine Zim I (by rw[e];exact True.intro) hs ⟨q,hq⟩ ⟨hl,hd,_,(rel.put k eb rv).keeps fun c ys ec=>?_,q,es,ep,hq,h2,h3,h4,h5⟩
  rw[Zaf (Zo6 ec e (fun z=>nomatch z))]
  exact ec
end
section
variable {X:Cx}{pins:List (Addr×Obj)}{σ:St}{H:Hp}{s:Shared}{a:Addr}{kvs:List (Key×V)}{k:Key}{u:Value}{A:Around}{E:Value→Shared→Prop}
end
def NoSl (i:Expr):Prop:=∀ov iv,subscripted i false ov iv=operate [ov,iv] (getItem ov iv)
theorem Zki {prog:Program}{w:World}{A:Around}{E:Value→Shared→Prop}{s:Shared}{env:Env}{value slice:Expr}{pos:Pos}{T id:String}{Q:Value→Shared→Prop}
  (hl:typeLookup (.type T) "__getitem__"=pure (some (.builtin id))) (hs:NoSl slice)
  (h:wpAny (model prog w) A (eval value env) (fun o s₁=>wpAny (model prog w) A (eval slice env) (fun i s₂=>s₂.TypeIs o T∧wpAny (model prog w) A (getItem o i) Q E s₂) E s₁) E s):
  wpAny (model prog w) A (eval (.Subscript value slice pos) env) Q E s:=by
 refine Subscript_ (YBB h (fun o s₁ h₁=>YBB h₁ (fun i s₂ h₂=>?_) fun _ _ x=>x) fun _ _ x=>x)
 obtain⟨hT,h₂⟩:=h₂
 unfold subscriptTail
 refine YAA ?_
 rw[getitemInPython_of_ne hT.not_modules]
 refine YAA (wpAny_specialOf hT hl ?_)
 have fin:wpAny (model prog w) A (subscripted slice false o i) (fun r s₃=>wpAny (model prog w) A (letTemporaryGo value o r >>= fun _=>pure r) Q E s₃) E s₂:=by
  rw[hs o i]
  exact wpAny_operating (YBB h₂ (fun r s₃ h₃=>YAA (wpAny_letTemporaryGo (YAC h₃))) fun _ _ x=>x)
 first
  | exact YAC (YAA fin)
  | exact YAA (YAC (YAA fin))
  | exact YAA fin
theorem ZfQ {X:Cx}{pins:List (Addr×Obj)}{σ:St}{H:Hp}{s:Shared}{a:Addr}{y:V}{o:Option V}(I:Inv X pins σ H s)(g:DGet H a y o):s.TypeIs (.ref a) "dict":=by
 rcases g with⟨kvs,k,e,_,_⟩|⟨kvs,k,b,e,_,_,_⟩
 ·obtain⟨_,_,vs,_,dd⟩:=Zlg I.hok e
  exact dd.typeIs
 ·obtain⟨_,_,xs,_,dd⟩:=Zlf I.hok e
  exact dd.typeIs
def ZlH (td ty:TE):TE:=fun σ H Q=>td σ H fun x H1=>ty σ H1 fun y H2=>∃a v,x=.ref a∧DGet H2 a y (some v)∧Q v H2
def tDIn (ty td:TE):TE:=fun σ H Q=>ty σ H fun y H1=>td σ H1 fun x H2=>∃a o,x=.ref a∧DGet H2 a y o∧Q (.bl o.isSome) H2
def Zke (ty td:TE):TE:=fun σ H Q=>ty σ H fun y H1=>td σ H1 fun x H2=>∃a o,x=.ref a∧DGet H2 a y o∧Q (.bl (!o.isSome)) H2
def ZlW (td ty tv:TE):TS:=fun D σ H=>tv σ H fun v H1=>td σ H1 fun x H2=>ty σ H2 fun y H3=>∃a H4,x=.ref a∧DPut H3 a y v H4∧D.nx σ H4
section
variable {X:Cx}{o i e value:Expr}{pos pos' tpos:Pos}{td ty tv:TE}
theorem ZkC (hu:X.A.units+1<cLine)(ho:PE X o td)(hi:PE X i ty)(hs:NoSl i):PE X (.Subscript o i pos) (ZlH td ty):=by
 intro pins s σ H Q I h
 refine Zki PySem.F.slot_dict_getitem.lookup hs (thn (ho pins s σ H _ I h) fun u s1 ⟨x,H1,I1,rx,q1⟩=>thn (hi pins s1 σ H1 _ I1 q1) fun iv s2 ⟨y,H2,I2,ry,a,v,ex,g,q2⟩=>?_)
 subst ex
 obtain rfl:u=Value.ref a:=rx
 exact⟨ZfQ I2 g,Zio hu I2 g ry fun w' s3 I3 rw'=>⟨v,H2,I3,rw',q2⟩⟩
theorem Zkx (hu:X.A.units+1<cLine)(ho:PE X o td)(hi:PE X i ty)(hv:PE X value tv)(hs:swapsWith value (some (.Subscript o i pos')) pos.line X.env=pure false):
  PS X (.Assign [.Subscript o i pos'] value pos) (ZlW td ty tv):=by
 intro pins s σ H D I h
 refine wpAny_Assign_Subscript (thn (hv pins s σ H _ I h) fun r s1 ⟨v,H1,I1,rv,q1⟩=>thn (ho pins s1 σ H1 _ I1 q1) fun u s2 ⟨x,H2,I2,rx,q2⟩=>thn (hi pins s2 σ H2 _ I2 q2) fun iv s3 ⟨y,H3,I3,ry,a,H4,ex,g,q3⟩=>?_) hs
 subst ex
 obtain rfl:u=Value.ref a:=rx
 exact Zin hu I3 g ry rv fun s4 I4=>⟨σ,H4,I4,q3⟩
end
theorem Zjs {P:Program}{w:World}{H:Hp}(h:Heap)(hb:sysModules<h.objs.size):ObjOk P w H (h.push { cls:=.type "dict",data:=.dict #[] }) h.objs.size (.dK []):=
 ⟨YBI _,beq_eq_false_iff_ne.mpr (YAw (YAY hb)),[],.nil,Heap.DictOf.new h⟩
def tDNewK:TE:=fun _ H Q=>∀p,H p=none→Q (.ref p) (upd H p (.dK []))
section
variable {X:Cx}{pos:Pos}
theorem Zgg:PE X (.Dict [] [] pos) tDNewK:=fun pins s σ H Q I h=>
 wpAny_Dict_empty ⟨.ref s.heap.objs.size,_,I.laid (a:=s.heap.objs.size) (o:=.dK []) (t':=s.toks) (fun _ _ q=>YAB _ q) (YAP _) (Zjs s.heap I.big),rfl,h _ (I.hok.fresh (YAP _))⟩
end
def Zhq:List (TE×TE)→St→Hp→(List (V×V)→Hp→Prop)→Prop
 | [],_,H,Q=>Q [] H
 | (tk,tv)::r,σ,H,Q=>tk σ H fun x H1=>tv σ H1 fun y H2=>Zhq r σ H2 fun ps H3=>Q ((x,y)::ps) H3
def ZjQ (kvs more:List (Key×V)):List (Key×V):=more.foldl (fun acc kv=>putK acc kv.1 kv.2) kvs
def Znz (trs:List (TE×TE)):TE:=fun σ H Q=>∀p,H p=none→Zhq trs σ (upd H p (.dK [])) fun ps H2=>H2 p=some (.dK [])∧∃kvs:List (Key×V),ps=kvs.map (fun kv=>(kV kv.1,kv.2))∧kvs.length≤15∧Q (.ref p) (upd H2 p (.dK (ZjQ [] kvs)))
structure M1 (X:Cx)(o:Expr)(m:Str)(apos:Pos)(e:Expr)(cpos:Pos):Prop where
 base:attributeBase o m X.env (eval o X.env)=eval o X.env
 few:((backTo cpos (starEach [e] X.env)).all (fun x=>!x.1)&&(backToKw cpos (keywordEach [] X.env)).all (fun x=>x.1.isSome)
  && decide (([e]:List Expr).length+([]:List Keyword).length+(if ([]:List Keyword).isEmpty then 0 else 1)<30))=true
 line:(apos.endLine == cpos.line)=true
 trees:backTo cpos (starEach [e] X.env)=[(false,eval e X.env)]
structure M2 (X:Cx)(o:Expr)(m:Str)(apos:Pos)(e f:Expr)(cpos:Pos):Prop where
 base:attributeBase o m X.env (eval o X.env)=eval o X.env
 few:((backTo cpos (starEach [e,f] X.env)).all (fun x=>!x.1)&&(backToKw cpos (keywordEach [] X.env)).all (fun x=>x.1.isSome)
  && decide (([e,f]:List Expr).length+([]:List Keyword).length+(if ([]:List Keyword).isEmpty then 0 else 1)<30))=true
 line:(apos.endLine == cpos.line)=true
 trees:backTo cpos (starEach [e,f] X.env)=[(false,eval e X.env),(false,eval f X.env)]
def IsD (H:Hp)(a:Addr):Prop:=(∃kvs,Rd H a (.dK kvs))∨∃kvs,Rd H a (.dT kvs)
section
variable {X:Cx}{pins:List (Addr×Obj)}{σ:St}{H:Hp}{s:Shared}{a:Addr}{y d:V}{u r:Value}{o:Option V}{A:Around}{E:Value→Shared→Prop}
end
def ZlG (td ty:TE):TE:=fun σ H Q=>td σ H fun x H1=>∃a,x=.ref a∧IsD H1 a∧ty σ H1 fun y H2=>∃o,DGet H2 a y o∧Q (o.getD .non) H2
def ZlF (td ty tx:TE):TE:=fun σ H Q=>td σ H fun x H1=>∃a,x=.ref a∧IsD H1 a∧ty σ H1 fun y H2=>tx σ H2 fun z H3=>∃o,DGet H3 a y o∧Q (o.getD z) H3
section
variable {X:Cx}{o e f:Expr}{apos cpos:Pos}{td ty tx:TE}
end
section
variable {X:Cx}{pins:List (Addr×Obj)}{σ:St}{H:Hp}{s:Shared}{a:Addr}{kvs:List (Key×V)}{A:Around}{E:Value→Shared→Prop}
end
section
variable {X:Cx}{pins:List (Addr×Obj)}{σ:St}{H:Hp}{s:Shared}{a:Addr}{y:V}{u:Value}{A:Around}{E:Value→Shared→Prop}
end
section
variable {X:Cx}
end
section
variable {κ:Type}[DecidableEq κ]
end
def clOf (cells:List (Str×Addr)):List (Str×NameKind)→List (Str×Addr)→List (Str×Addr)
 | [],acc=>acc
 | (n,k)::r,acc=>if k == NameKind.free then clOf cells r ((n,(cells.lookup n).getD 0)::acc) else clOf cells r acc
theorem Zeu {cells:List (Str×Addr)}:∀(names:List (Str×NameKind)) (acc:List (Str×Addr)) (p:Str×Addr),p∈acc→p∈clOf cells names acc
 | [],_,_,h=>h
 | (n,k)::r,acc,p,h=>by
  unfold clOf
  split
  ·exact Zeu r _ p (YAZ _ h)
  ·exact Zeu r acc p h
theorem Zev {cells:List (Str×Addr)}{x:Str}:∀(names:List (Str×NameKind)) (acc:List (Str×Addr)),(x,NameKind.free)∈names→(x,(cells.lookup x).getD 0)∈clOf cells names acc
 | [],_,h=>by cases h
 | (n,k)::r,acc,h=>by
  unfold clOf
  rcases YAM.mp h with e | h
  ·have e1:x=n:=congrArg Prod.fst e
   have e2:NameKind.free=k:=congrArg Prod.snd e
   subst e1 e2
   exact Zeu r _ _ YAd
  ·split
   ·exact Zev r _ h
   ·exact Zev r _ h
theorem ZfW {cells:List (Str×Addr)}:∀(names:List (Str×NameKind)) (acc:List (Str×Addr)) (p:Str×Addr),p∈clOf cells names acc→p∈acc∨((p.1,NameKind.free)∈names∧p.2=(cells.lookup p.1).getD 0)
 | [],_,_,h=>.inl h
 | (n,k)::r,acc,p,h=>by
  unfold clOf at h
  split at h
  ·rename_i hk
   have hk':k=NameKind.free:=by simpa using hk
   rcases ZfW r _ p h with q | ⟨q,e⟩
   ·rcases YAM.mp q with q | q
    ·subst q;subst hk';exact .inr ⟨YAd,rfl⟩
    ·exact .inl q
   ·exact .inr ⟨YAZ _ q,e⟩
  ·rcases ZfW r _ p h with q | ⟨q,e⟩
   ·exact .inl q
   ·exact .inr ⟨YAZ _ q,e⟩
theorem Zd2 {sc:Scope}{env:Env}(h:∀y∈sc.names,y.2=NameKind.free→∃c,env.cells.lookup y.1=some c):closureFor sc env=pure (clOf env.cells sc.names []):=by
 have all:∀(names:List (Str×NameKind)) (acc:List (Str×Addr)),(∀y∈names,y.2=NameKind.free→∃c,env.cells.lookup y.1=some c) →
   (forIn names acc fun (y:Str×NameKind) (cs:List (Str×Addr))=>(if (y.2 == NameKind.free)=true then (do let a ←cellOf env y.1;pure (ForInStep.yield ((y.1,a)::cs))) else pure (ForInStep.yield cs):Sem (ForInStep (List (Str×Addr)))))=pure (clOf env.cells names acc):=by
  intro names
  induction names with
  | nil=>intro acc _;rfl
  | cons y r ih=>
   intro acc hy
   obtain⟨n,k⟩:=y
   rw[YBw]
   unfold clOf
   by_cases hk:k=NameKind.free
   ·subst hk
    obtain⟨c,hc⟩:=hy (n,NameKind.free) YAd rfl
    have hc':env.cells.lookup n=some c:=hc
    simp only[beq_self_eq_true,if_true,cellOf,hc',pure_bind,Option.getD_some]
    exact ih _ fun z hz=>hy z (YAZ _ hz)
   ·have hb:(k == NameKind.free)=false:=by simpa using hk
    simp only[hb,YBq,if_false,pure_bind]
    exact ih _ fun z hz=>hy z (YAZ _ hz)
 have q:=all sc.names [] h
 unfold closureFor
 show (forIn sc.names [] fun (y:Str×NameKind) (cs:List (Str×Addr))=>_) >>= _=_
 first
  | (rw[q];rfl)
  | (refine Eq.trans (congrArg (fun t=>t >>= fun cs=>pure cs) q) ?_;rfl)
structure CmpScope (X:Cx)(sc:Scope):Prop where
 kind:sc.kind=.function
 nocell:∀y∈sc.names,y.2≠NameKind.cell
 loc:∀y∈sc.names,y.2=NameKind.local→sc.names.lookup y.1=some .local
 clos:∀y∈sc.names,y.2=NameKind.free→(X.env.kindOf y.1=some .cell∨X.env.kindOf y.1=some .free)
def pick (ix:List (Option Nat))(σ:St):St:=ix.map fun o=>o.bind fun i=>(σ[i]?).join
def Zib (N M:List Str)(sc:Scope)(ix:List (Option Nat)):Bool:=
 ix.length == N.length&&(N.zip ix).all fun p=>match p.2 with | none=>true | some i=>decide (M[i]?=some p.1)&&decide (sc.names.lookup p.1=some NameKind.free)
def bx (X:Cx)(sc:Scope)(N:List Str)(fp:List Addr)(s₀:Shared)(H:Hp)(pn:List (Addr×Obj)):Cx:=
 { X with N:=N,s₀:=s₀,H₀:=H,env:=compEnvC sc (clOf X.env.cells sc.names []) s₀.heap.objs.size X.env,outer:=X.stack,stack:=X.stack,ex:=fp,fn:=fun _=>false,pn:=pn,xe:=fun _ _=>False }
theorem Zde {sc:Scope}{env:Env}{x:Str}{k:NameKind}(h:(relabel sc env).names.lookup x=some k):(x,k)∈sc.names∨(k=.cell∧(x,NameKind.free)∈sc.names):=by
 have m:=YBP h
 unfold relabel at m
 obtain⟨⟨n,k'⟩,hm,e⟩:=YBX.mp m
 dsimp only at e
 split at e
 ·rename_i hc
  have e1:n=x:=congrArg Prod.fst e
  have e2:NameKind.cell=k:=congrArg Prod.snd e
  have e3:k'=NameKind.free:=by
   rw[YAT,YAT]at hc
   simpa using hc.1.1
  subst e1 e2 e3
  exact .inr ⟨rfl,hm⟩
 ·have e1:n=x:=congrArg Prod.fst e
  have e2:k'=k:=congrArg Prod.snd e
  subst e1 e2
  exact .inl hm
theorem ZcK {env:Env}{x:Str}:∀ {names:List (Str×NameKind)},names.lookup x=some NameKind.free →
  (names.map fun (n,k)=>if (k == NameKind.free&&env.scope.kind == .function&&env.kindOf n == some .cell) then (n,NameKind.cell) else (n,k)).lookup x=some .cell ∨
  (names.map fun (n,k)=>if (k == NameKind.free&&env.scope.kind == .function&&env.kindOf n == some .cell) then (n,NameKind.cell) else (n,k)).lookup x=some .free
 | [],h=>by simp at h
 | (n,k)::r,h=>by
  by_cases hx:x=n
  ·subst hx
   simp only[YBD,beq_self_eq_true]at h
   cases h
   simp only[YAg]
   split
   ·left;simp[YBD]
   ·right;simp[YBD]
  ·have hb:(x == n)=false:=by simpa using hx
   simp only[YBD,hb]at h
   have ih:=ZcK (env:=env) h
   simp only[YAg]
   split
   ·simpa only[YBD,hb] using ih
   ·simpa only[YBD,hb] using ih
theorem Zcr {α:Type}{x:Str}{c:α}:∀ {l:List (Str×α)},(x,c)∈l→∃c',l.lookup x=some c'
 | [],h=>by cases h
 | (n,d)::r,h=>by
  by_cases hx:x=n
  ·subst hx;exact⟨d,by simp[YBD]⟩
  ·have hb:(x == n)=false:=by simpa using hx
   rcases YAM.mp h with e | h
   ·exact absurd (congrArg Prod.fst e) hx
   ·obtain⟨c',e⟩:=Zcr h
    exact⟨c',by simpa only[YBD,hb] using e⟩
section
variable {X:Cx}{pins:List (Addr×Obj)}{σ:St}{H:Hp}{s:Shared}{sc:Scope}{N:List Str}{fp:List Addr}{ix:List (Option Nat)}
theorem Inv.capt (I:Inv X pins σ H s)(S:CmpScope X sc):∀y∈sc.names,y.2=NameKind.free→∃c,X.env.cells.lookup y.1=some c:=fun y hy e=>I.ok.has y.1 (S.clos y hy e)
theorem Inv.clcell (I:Inv X pins σ H s)(S:CmpScope X sc){x:Str}{c:Addr}(h:(clOf X.env.cells sc.names []).lookup x=some c):X.env.cells.lookup x=some c:=by
 rcases ZfW _ _ _ (YBP h) with q | ⟨q,e⟩
 ·cases q
 ·obtain⟨c',hc⟩:=I.capt S _ q rfl
  have hc':X.env.cells.lookup x=some c':=hc
  have e':c=(X.env.cells.lookup x).getD 0:=e
  rw[hc',Option.getD_some]at e'
  rw[e'];exact hc'
theorem Inv.clhas (I:Inv X pins σ H s)(S:CmpScope X sc){x:Str}(h:(x,NameKind.free)∈sc.names):∃c,(clOf X.env.cells sc.names []).lookup x=some c∧X.env.cells.lookup x=some c:=by
 obtain⟨c,e⟩:=Zcr (Zev (cells:=X.env.cells) sc.names [] h)
 exact⟨c,e,I.clcell S e⟩
theorem Inv.block {h1:Heap}{tk:Nat}{m:Str→Option Value}(I:Inv X pins σ H s)(S:CmpScope X sc)(hix:Zib N X.N sc ix=true)(hf:∀b∈fp,FpOk X pins H b∧b<s.heap.objs.size)
  (hk:∀b o,s.heap.get? b=some o→h1.get? b=some o) (hn:h1.Ns s.heap.objs.size m):
  Inv (bx X sc N fp s H (X.pn++pins)) [] (pick ix σ) H { s with heap:=h1,toks:=tk }:=by
 have hC:∀b o,s.heap.get? b=some o→b≠s.heap.objs.size:=fun b o e=>YAY (YAG e)
 have hcell:∀x c,(clOf X.env.cells sc.names []).lookup x=some c→∃v,s.heap.IsCell c v:=fun x c e=>I.cell x c (I.clcell S e)
 have stk:∀b,b≠X.env.locals→b∉X.fs→b∉frs X.stack:=fun b h1 h2 hb=>by
  rcases YAM.mp (I.stkSub b hb) with z | z
  ·exact h1 z
  ·exact h2 z
 rw[Zib,YAT]at hix
 refine⟨⟨I.ok.mod,S.kind,I.ok.glob,I.ok.blt,YAP _,?_,?_,?_,I.ok.hd,I.ok.frames,.inl rfl,?_,I.bs,YAQ I.ok.bsz I.sz,?_,?_,I.stack,I.stkFree⟩,
  rfl,I.bare,Un.kept hk,⟨m,hn,?_⟩,?_,I.fresh,?_,?_,I.hok.kept hk,?_⟩
 ·intro x y c e1 e2
  exact I.ok.inj x y c (I.clcell S e1) (I.clcell S e2)
 ·intro x hx
  have hx:(relabel sc X.env).names.lookup x=some .cell∨(relabel sc X.env).names.lookup x=some .free:=hx
  have hm:(x,NameKind.free)∈sc.names:=by
   rcases hx with hx | hx
   ·rcases Zde hx with q | ⟨_,q⟩
    ·exact absurd rfl (S.nocell _ q)
    ·exact q
   ·rcases Zde hx with q | ⟨q,_⟩
    ·exact q
    ·cases q
  obtain⟨c,e,_⟩:=I.clhas S hm
  exact⟨c,e⟩
 ·intro x c z
  cases z
 ·intro b hb
  obtain⟨f,hlt⟩:=hf b hb
  refine⟨YAY hlt,fun x c e=>f.2.2.2.2.1 x c (I.clcell S e)⟩
 ·intro b o e hb
  obtain⟨⟨_,_,_,f3,_⟩,_⟩:=hf b hb
  rcases f3 with z | z
  ·exact I.ok.noex b o e z
  ·exact absurd (YAG e) (Nat.not_lt.mpr (YAQ I.ok.bsz z))
 ·intro b hb
  obtain⟨⟨_,f1,f2,_⟩,_⟩:=hf b hb
  exact stk b f1 f2
 ·intro i x v e1 e2 e3
  have e1:N[i]?=some x:=e1
  have hi:∃j,ix[i]?=some (some j)∧σ[j]?=some (some v):=by
   unfold pick at e2
   rw[YAk]at e2
   cases q:ix[i]? with
   | none=>rw[q]at e2;cases e2
   | some o=>
    rw[q]at e2
    cases o with
    | none=>cases e2
    | some j=>
     refine⟨j,rfl,?_⟩
     have e4:(σ[j]?).join=some v:=Option.some.inj e2
     cases q2:σ[j]? with
     | none=>rw[q2]at e4;cases e4
     | some w=>rw[q2]at e4;cases w with
      | none=>cases e4
      | some w=>rw[←e4];rfl
  obtain⟨j,hj,hσ⟩:=hi
  have hz:(x,some j)∈N.zip ix:=by
   have q:(N.zip ix)[i]?=some (x,some j):=by rw[List.getElem?_zip_eq_some];exact⟨e1,hj⟩
   exact YAe q
  have hp:=YBE.mp hix.2 _ hz
  dsimp only at hp
  rw[YAT]at hp
  have hM:X.N[j]?=some x:=of_decide_eq_true hp.1
  have hfr:sc.names.lookup x=some NameKind.free:=of_decide_eq_true hp.2
  have hmem:=YBP hfr
  obtain⟨mo,hno,hlo⟩:=I.loc
  have hvis:Vis X.env.scope x:=by
   rcases S.clos _ hmem rfl with z | z
   ·exact .inr (.inl z)
   ·exact .inr (.inr z)
  obtain⟨u,ru,l⟩:=hlo j x v hM hσ hvis
  refine⟨u,ru,.inr ⟨?_,?_⟩⟩
  ·exact ZcK (env:=X.env) hfr
  ·obtain⟨c,e,e'⟩:=I.clhas S hmem
   refine⟨c,e,?_⟩
   rcases l with⟨k,_⟩|⟨_,c',ec,z⟩
   ·rcases S.clos _ hmem rfl with q | q
    ·rw[k]at q;cases q
    ·rw[k]at q;cases q
   ·rw[e']at ec
    cases ec
    obtain⟨o,ho,hd⟩:=z
    exact⟨o,hk _ _ ho,hd⟩
 ·intro x c e
  obtain⟨v,o,ho,hd⟩:=hcell x c e
  exact⟨v,o,hk _ _ ho,hd⟩
 ·intro x c e
  exact I.freeC x c (I.clcell S e)
 ·intro p hp
  have hp:p∈X.pn++pins:=by
   rcases YAf.mp hp with z | z
   ·exact z
   ·cases z
  obtain⟨e,n,ne,nf,d⟩:=I.pin p hp
  exact⟨hk _ _ e,n,hC _ _ e,stk p.1 ne nf,d⟩
 ·show (pick ix σ).length=N.length
  unfold pick
  rw[YAD]
  simpa using hix.1
theorem Inv.unblock {τ:St}{H':Hp}{s':Shared}{h':Heap}(I:Inv X pins σ H s)(hf:∀b∈fp,FpOk X pins H b)(J:Inv (bx X sc N fp s H (X.pn++pins)) [] τ H' s')(hs:Heap.SameBut s.heap.objs.size s'.heap h'):
  Inv X pins σ H' { s' with heap:=h' }:=by
 have nC:∀b o,s.heap.get? b=some o→b≠s.heap.objs.size:=fun b o e=>YAY (YAG e)
 have hfr:H' s.heap.objs.size=none:=J.free
 have u:Un (frs X.stack) fp H H' s.heap s'.heap:=J.base
 have ok:HOk X.prog X.w H' h':=fun b ob e=>by
  refine(J.hok b ob e).stay (fun c w' hc q=>(hs.2 c ?_).trans q) (fun _ q=>q) fun _ _ q=>q
  rintro rfl
  rcases hc with rfl | hc
  ·rw[hfr]at e;cases e
  ·rw[hfr]at hc;cases hc
 refine I.call' (ch:=fp) J.os ⟨fun b o e n h1 h2=>(hs.2 b (nC b o e)).trans (u.keep b o e n h1 h2),fun b o e n h1 h2=>?_,u.free,fun b o e h2=>?_,u.tups,u.frzs,u.tbls⟩ ok J.bare fun b hb=>?_
 ·obtain⟨sl,q⟩:=u.slot b o e n h1 h2
  exact⟨sl,(hs.2 b (nC b o e)).trans q⟩
 ·obtain⟨o',q⟩:=u.there b o e h2
  exact⟨o',(hs.2 b (nC b o e)).trans q⟩
 ·obtain⟨_,f1,_,f3,f4,f5⟩:=hf b hb
  exact⟨f3,f1,f4,f5⟩
end
def PIfs (X:Cx)(ifs:List Expr)(t:TT):Prop:=
 ∀(pins:List (Addr×Obj)) (s:Shared) (σ:St) (H:Hp) (Q:Bool→Hp→Prop),Inv X pins σ H s→t σ H Q →
  wpAny (model X.prog X.w) X.A (forIn ifs true fun c r=>if r=true then do let ok ←isTrue c X.env (eval c X.env);pure (ForInStep.yield ok) else pure (ForInStep.yield r)) (TP X pins σ Q) X.xe s
def tAll:TT:=fun _ H Q=>Q true H
theorem ZbZ {X:Cx}:PIfs X [] tAll:=fun _ _ _ H _ I h=>wpAny_tests_nil ⟨H,I,h⟩
theorem Zd8 {X:Cx}{c:Expr}{t:TT}(h:PT X c t):PIfs X [c] t:=fun pins s σ H Q I q=>wpAny_tests_one (h pins s σ H Q I q)
theorem Zfm {prog:Program}{w:World}{A:Around}{R:Result→Shared→Prop}{s:Shared}{el tgt iter:Expr}{ifs:List Expr}{scp:Scope}{pos:Pos}{it acc:Value}{env:Env}(W:Nat→Shared→Prop)
  (turn:∀n s,W n s→wpAny (model prog w) A (pyNext it) (fun r s₁=>match r with
   | none=>R (.ok .next) s₁
   | some v=>wpAny (model prog w) A (letOwnedTupleGo tgt it v) (fun _ s₁'=>wpAny (model prog w) A (assign tgt env v) (fun _ s₂=>
     wpAny (model prog w) A (forIn ifs true fun c r=>if r=true then do let ok ←isTrue c env (eval c env);pure (ForInStep.yield ok) else pure (ForInStep.yield r)) (fun ok s₃=>
      if ok=true then wpAny (model prog w) A (eval el env) (fun x s₄=>
       wpAny (model prog w) A (call (.builtin "list.append") [acc,x]) (fun _ s₅=>∃m,m<n∧W m s₅) (fun _ _=>False) s₄) (fun _ _=>False) s₃
      else ∃m,m<n∧W m s₃) (fun _ _=>False) s₂) (fun _ _=>False) s₁') (fun _ _=>False) s₁) (fun _ _=>False) s)
  (n:Nat) (h:W n s):codeAny (model prog w) A (.compLoop (.ListComp el [⟨tgt,iter,ifs,0⟩] scp pos) 0 it acc env) R s:=by
 refine codeAny_loop rfl W (fun n s hI=>?_) n h
 show wpAny _ A ((compTurn (.ListComp el [⟨tgt,iter,ifs,0⟩] scp pos) 0 it acc env).onRaise (fun x=>do noteFrame x env;theTreesLotGoes x)) _ _ s
 refine wpAny_noted ?_
 rw[compTurn_list]
 refine YAA (YDM (YAA (YBB (turn n s hI) (fun r s1 q1=>?_) fun _ _ z=>z.elim)))
 cases r with
 | none=>exact YAC q1
 | some v=>
  refine YAA (YBB q1 (fun _ s1' q1'=>?_) fun _ _ z=>z.elim)
  refine YAA (YBB q1' (fun _ s2 q2=>YAA (YBB q2 (fun ok s3 q3=>?_) fun _ _ z=>z.elim)) fun _ _ z=>z.elim)
  cases ok with
  | false=>exact YAC ⟨rfl,q3⟩
  | true=>exact YAA (YAA (YBB q3 (fun x s4 q4=>YAA (YBB q4 (fun _ s5 q5=>YAC (YAC ⟨rfl,q5⟩)) fun _ _ z=>z.elim)) fun _ _ z=>z.elim))
def Zkg (ix:List (Option Nat))(wi:TI)(g:TG)(tt:TT)(te:TE):TE:=fun σ H Q=>wi σ H fun J H1=>∀acc,H1 acc=none→∃W:Nat→Nat→St→Hp→Prop,(∃m,W 0 m (pick ix σ) (upd H1 acc (.lst []))) ∧
 ∀i m τ H2,W i m τ H2→(J.stop i H2∧Q (.ref acc) H2)∨(J.go i H2∧∃Nx:St→Hp→Prop,(∀τ' H',Nx τ' H'→∃m',m'<m∧W (i+1) m' τ' H') ∧
  ∀x H3,J.yld i H2 x H3→g x τ H3 fun τ2 H4=>tt τ2 H4 fun b H5=>if b=true then te τ2 H5 fun y H6=>∃ys,H6 acc=some (.lst ys)∧ys.length<sizeLine∧Nx τ2 (upd H6 acc (.lst (ys++[y]))) else Nx τ2 H5)
section
variable {X:Cx}{sc:Scope}{N:List Str}{ix:List (Option Nat)}{elt tg iter:Expr}{ifs:List Expr}{pos:Pos}{wi:TI}{g:TG}{tt:TT}{te:TE}
theorem Zd1 {Q:VK}{pins:List (Addr×Obj)}{s:Shared}{σ:St}{H:Hp}{it:Addr}{fp:List Addr}{tn:Nat→Heap→Prop}{J:It}{RR:Value→Addr→Result→Shared→Prop}
  (hc:X.calm=true) (S:CmpScope X sc) (hix:Zib N X.N sc ix=true)
  (hg:∀fp s₀ H₀ pn,PG (bx X sc N fp s₀ H₀ pn) tg g) (ht:∀fp s₀ H₀ pn,PIfs (bx X sc N fp s₀ H₀ pn) ifs tt) (he:∀fp s₀ H₀ pn,PE (bx X sc N fp s₀ H₀ pn) elt te)
  (I:Inv X pins σ H s) (T:Turn X.prog X.w X.K tg J fp it tn) (st:tn 0 s.heap) (hf:∀b∈fp,FpOk X pins H b)
  (q:∀acc,H acc=none→∃W:Nat→Nat→St→Hp→Prop,(∃m,W 0 m (pick ix σ) (upd H acc (.lst []))) ∧
   ∀i m τ H2,W i m τ H2→(J.stop i H2∧Q (.ref acc) H2)∨(J.go i H2∧∃Nx:St→Hp→Prop,(∀τ' H',Nx τ' H'→∃m',m'<m∧W (i+1) m' τ' H') ∧
    ∀x H3,J.yld i H2 x H3→g x τ H3 fun τ2 H4=>tt τ2 H4 fun b H5=>if b=true then te τ2 H5 fun y H6=>∃ys,H6 acc=some (.lst ys)∧ys.length<sizeLine∧Nx τ2 (upd H6 acc (.lst (ys++[y]))) else Nx τ2 H5))
  (hR:∀(acc:Addr) (s₃ s':Shared) (τ:St) (H':Hp),Inv X pins σ (upd H acc (.lst [])) s₃→(∀b∈fp,FpOk X pins (upd H acc (.lst [])) b)→Inv (bx X sc N fp s₃ (upd H acc (.lst [])) (X.pn++pins)) [] τ H' s'→Q (.ref acc) H' →
   RR (.ref acc) s₃.heap.objs.size (.ok .next) s'):
  wpAny (model X.prog X.w) X.A (newList []) (fun acc s₃=>wpAny (model X.prog X.w) X.A (newFunctionEnv sc X.env.globals (clOf X.env.cells sc.names []) [] X.env.qual none .none (some X.env)) (fun cenv s₄=>
   codeAny (model X.prog X.w) X.A (.compStart (.ListComp elt [⟨tg,iter,ifs,0⟩] sc pos) 0 (.ref it) acc { cenv with scope:=relabel sc X.env }) (RR acc cenv.locals) s₄) X.xe s₃) X.xe s:=by
 refine YBZ ?_
 have hfr:=I.fresh
 have I3:=I.lnew (its:=[]) (ys:=[]) (t':=s.toks) .nil (YBI _)
 have fne:∀b∈fp,b<s.heap.objs.size:=fun b hb=>by
  obtain⟨o,e,_⟩:=T.obj 0 _ st b hb
  exact YAG e
 have hf3:∀b∈fp,FpOk X pins (upd H s.heap.objs.size (.lst [])) b:=fun b hb=>by
  obtain⟨f0,f⟩:=hf b hb
  refine⟨?_,f⟩
  rw[Zaf (YAY (fne b hb))]
  exact f0
 have q3:=q _ hfr
 have st3:tn 0 (s.heap.push { cls:=.type "list",data:=.seq ([]:List Value).toArray }):=T.keep _ _ _ st fun b _ o e=>YAB _ e
 generalize e3:({ s with heap:=s.heap.push { cls:=.type "list",data:=.seq ([]:List Value).toArray },toks:=s.toks }:Shared)=s3 at I3
 have es3:s3.heap=s.heap.push { cls:=.type "list",data:=.seq ([]:List Value).toArray }:=by rw[←e3]
 rw[←es3]at st3
 have hf3':∀b∈fp,FpOk X pins (upd H s.heap.objs.size (.lst [])) b∧b<s3.heap.objs.size:=fun b hb=>⟨hf3 b hb,by rw[es3,YAs];exact YCM (fne b hb)⟩
 refine wpAny_newFunctionEnv S.nocell (by intro y hy;cases hy) (fun h₁ hns₁ hsb₁=>?_) S.kind
 have hk:∀b o,s3.heap.get? b=some o→h₁.get? b=some o:=fun b o e=>hsb₁.extBut b o (YAY (YAG e)) (YAB _ e)
 have I4:=I3.block (N:=N) (ix:=ix) (tk:=s3.toks+([]:List (Str×Value)).length) S hix hf3' hk hns₁
 have st4:tn 0 h₁:=T.keep _ _ _ st3 fun b _ o e=>hk b o e
 obtain⟨W,⟨m0,w0⟩,turn⟩:=q3
 have statN:∀ {H':Hp},(∀b∈fp,H' b=none)→∀b∈fp,FpOk (bx X sc N fp s3 (upd H s.heap.objs.size (.lst [])) (X.pn++pins)) [] H' b:=fun {H'} hn b hb=>by
  obtain⟨⟨_,f1,f2,f3,f4,f5⟩,hlt⟩:=hf3' b hb
  refine⟨hn b hb,YAY hlt,fun z=>?_,.inl hb,fun x c e=>f4 x c (I3.clcell S e),fun p hp=>?_⟩
  ·rcases YAM.mp (I3.stkSub b z) with z | z
   ·exact f1 z
   ·exact f2 z
  ·refine f5 p ?_
   rcases YAf.mp hp with z | z
   ·exact z
   ·cases z
 have loop:∀s4:Shared,s4={ s3 with heap:=h₁,toks:=s3.toks+([]:List (Str×Value)).length } →
   codeAny (model X.prog X.w) X.A (.compLoop (.ListComp elt [⟨tg,iter,ifs,0⟩] sc pos) 0 (.ref it) (.ref s.heap.objs.size) (compEnvC sc (clOf X.env.cells sc.names []) s3.heap.objs.size X.env)) (RR (.ref s.heap.objs.size) s3.heap.objs.size) s4:=by
  rintro s4 rfl
  refine Zfm (fun n s'=>∃i τ H',Inv (bx X sc N fp s3 (upd H s.heap.objs.size (.lst [])) (X.pn++pins)) [] τ H' s'∧tn i s'.heap∧(∀b∈fp,H' b=none)∧W i n τ H') ?_ m0 ⟨0,_,_,I4,st4,fun b hb=>(hf3 b hb).1,w0⟩
  rintro n s5 ⟨i,τ,H5,I5,st5,fr5,w5⟩
  rcases turn i n τ H5 w5 with⟨stop,qn⟩|⟨go,Nx,hN,step⟩
  ·refine thn (T.done (bx X sc N fp s3 (upd H s.heap.objs.size (.lst [])) (X.pn++pins)) rfl rfl rfl hc i [] s5 τ H5 (fun _ _=>False) I5 (statN fr5) st5 stop) fun r s6 ⟨hr,I6⟩=>?_
   subst hr
   exact hR _ _ _ _ _ I3 hf3 I6 qn
  ·refine thn (T.item (bx X sc N fp s3 (upd H s.heap.objs.size (.lst [])) (X.pn++pins)) rfl rfl rfl hc i [] s5 τ H5 (fun _ _=>False) I5 (statN fr5) st5 go) fun r s6 ⟨u,hr,h6⟩=>?_
   subst hr
   refine thn h6 fun _ s7 ⟨x,H7,I7,r7,y7,st7,fr7⟩=>?_
   have I7':=I7.pinned (statN fr7) (T.obj _ _ st7)
   refine thn (hg _ _ _ _ _ s7 τ H7 x u _ I7' r7 (step x H7 y7)) fun _ s8 ⟨τ8,H8,I8,q8⟩=>?_
   have again:∀ {s9:Shared} {τ9:St} {H9:Hp},Inv (bx X sc N fp s3 (upd H s.heap.objs.size (.lst [])) (X.pn++pins)) ([]++ZeJ fp s7.heap) τ9 H9 s9→Nx τ9 H9 →
     ∃m,m<n∧∃i τ H',Inv (bx X sc N fp s3 (upd H s.heap.objs.size (.lst [])) (X.pn++pins)) [] τ H' s9∧tn i s9.heap∧(∀b∈fp,H' b=none)∧W i m τ H':=fun {s9 τ9 H9} I9 n9=>by
    obtain⟨m',hm,w9⟩:=hN τ9 H9 n9
    refine⟨m',hm,i+1,τ9,H9,I9.unpinned,T.keep _ _ _ st7 fun b hb o e=>(I9.pin (b,o) (YAz _ (YAz _ (Zb0 hb e)))).1,fun b hb=>?_,w9⟩
    obtain⟨o,e,d⟩:=T.obj _ _ st7 b hb
    exact(I9.pin (b,o) (YAz _ (YAz _ (Zb0 hb e)))).2.1
   refine thn (ht _ _ _ _ _ s8 τ8 H8 _ I8 q8) fun ok s9 ⟨H9,I9,q9⟩=>?_
   cases ok with
   | false=>exact again I9 q9
   | true=>
    rw[YAO rfl]at q9 ⊢
    refine thn (he _ _ _ _ _ s9 τ8 H9 _ I9 q9) fun yv s10 ⟨y,H10,I10,r10,ys,ha,hz,q10⟩=>?_
    refine thn (ZbA _ s10 τ8 H10 (.ref s.heap.objs.size) [y] (.ref s.heap.objs.size) [yv] (fun v H'=>v=.non∧Nx τ8 H') I10 rfl (.cons r10 .nil) ⟨_,ys,y,rfl,rfl,ha,hz,rfl,q10⟩) fun _ s11 ⟨_,H11,I11,_,_,q11⟩=>?_
    exact again I11 q11
 exact codeAny_compStart_list (loop _ rfl) (T.self _ 0 _ _ _ st4 (loop _ rfl))
theorem ZbQ (hc:X.calm=true)(S:CmpScope X sc)(hix:Zib N X.N sc ix=true)(hi:PI X tg iter wi)
  (hg:∀fp s₀ H₀ pn,PG (bx X sc N fp s₀ H₀ pn) tg g) (ht:∀fp s₀ H₀ pn,PIfs (bx X sc N fp s₀ H₀ pn) ifs tt) (he:∀fp s₀ H₀ pn,PE (bx X sc N fp s₀ H₀ pn) elt te)
  (hs:∀x,foldedSetIterable iter X.env x=pure x:=by intro _;rfl):PE X (.ListComp elt [⟨tg,iter,ifs,0⟩] sc pos) (Zkg ix wi g tt te):=by
 intro pins s σ H Q I h
 rw[eval_ListComp]
 refine wpAny_comprehension_free (use:=none) rfl hs (Zd2 (I.capt S)) S.kind S.loc (thn (hi pins s σ H _ I h) fun v s1 h1=>thn h1 fun itv s2 h2=>?_)
 obtain⟨it,fp,tn,J,H2,e,I2,T,st2,f2,q⟩:=h2
 subst e
 refine Zd1 (Q:=Q) (RR:=fun acc C=>compPost (model X.prog X.w) X.A X.xe none (EP X pins σ Q) acc C) hc S hix hg ht he I2 T st2 f2 q ?_
 intro acc s3 s' τ H' I3 hf3 J' qq
 obtain⟨m,hn,_⟩:=J'.loc
 exact⟨m,hn,fun h' hs'=>⟨.ref acc,H',I3.unblock hf3 J' hs',rfl,qq⟩⟩
theorem Zky {i:Nat}{x:Str}{px spos:Pos}(hsw:swapsWith (.ListComp elt [⟨tg,iter,ifs,0⟩] sc pos) (some (.Name x px)) spos.line X.env=pure true)
  (hN:X.N.Nodup) (hi':X.N[i]?=some x) (hx:X.env.scope.names.lookup x=some .local) (hc:X.calm=true) (S:CmpScope X sc) (hix:Zib N X.N sc ix=true) (hi:PI X tg iter wi)
  (hg:∀fp s₀ H₀ pn,PG (bx X sc N fp s₀ H₀ pn) tg g) (ht:∀fp s₀ H₀ pn,PIfs (bx X sc N fp s₀ H₀ pn) ifs tt) (he:∀fp s₀ H₀ pn,PE (bx X sc N fp s₀ H₀ pn) elt te)
  (hs:∀x,foldedSetIterable iter X.env x=pure x:=by intro _;rfl):PS X (.Assign [.Name x px] (.ListComp elt [⟨tg,iter,ifs,0⟩] sc pos) spos) (tAsg (Zkg ix wi g tt te) (ZcR i)):=by
 intro pins s σ H D I h
 rw[exec_Assign_Name_used _ _ _ _ hsw]
 refine YAA (YDM (YAA ?_))
 show wpAny _ X.A (do let _ ←comprehension (.ListComp elt [⟨tg,iter,ifs,0⟩] sc pos) sc X.env _ (newList []) false (eval iter X.env) (some (assign (.Name x px) X.env))) _ _ s
 refine YAA (YBB (wpAny_comprehension_free (use:=some (assign (.Name x px) X.env)) (Q:=fun _ s'=>SP X pins D .next s') rfl hs (Zd2 (I.capt S)) S.kind S.loc
  (thn (hi pins s σ H _ I h) fun v s1 h1=>thn h1 fun itv s2 h2=>?_)) (fun _ s' hq=>YAC (YAC hq)) fun _ _ z=>z)
 obtain⟨it,fp,tn,J,H2,e,I2,T,st2,f2,q⟩:=h2
 subst e
 refine Zd1 (Q:=fun y H1=>ZcR i y σ H1 D.nx) (RR:=fun acc C=>compPost (model X.prog X.w) X.A X.xe (some (assign (.Name x px) X.env)) (fun _ s'=>SP X pins D .next s') acc C) hc S hix hg ht he I2 T st2 f2 q ?_
 intro acc s3 s' τ H' I3 hf3 J' qq
 show wpAny _ X.A (assign (.Name x px) X.env (.ref acc)) _ _ _
 have I5:Inv X pins σ H' s':=I3.unblock hf3 J' (.refl ..)
 obtain⟨m,hn,_⟩:=J'.loc
 have hn:s'.heap.Ns s3.heap.objs.size m:=hn
 have hLC:s3.heap.objs.size≠X.env.locals:=YCv I3.lt
 refine wpAny_assign_Name (ZeE I5 hN hi' (.inl hx) (v:=.ref acc) rfl (fun s6 I6 ⟨a,sb,ha⟩=>?_) (.inr hx))
 have ea:a≠s3.heap.objs.size:=by
  rcases ha with ha | ha
  ·rw[ha];exact YAw hLC
  ·obtain⟨v,o,ho,_⟩:=I3.cell x a ha
   exact YAY (YAG ho)
 refine⟨m,hn.sameBut sb (YAw ea),fun h' hs'=>?_⟩
 have hfr:H' s3.heap.objs.size=none:=J'.free
 refine⟨_,H',?_,qq⟩
 have ok:HOk X.prog X.w H' h':=fun b ob e=>by
  refine(I6.hok b ob e).stay (fun c w' hc q=>(hs'.2 c ?_).trans q) (fun _ q=>q) fun _ _ q=>q
  rintro rfl
  rcases hc with rfl | hc
  ·rw[hfr]at e;cases e
  ·rw[hfr]at hc;cases hc
 have l3:X.s₀.heap.objs.size≤s3.heap.objs.size:=I3.sz
 have cne:∀y c,X.env.cells.lookup y=some c→c≠s3.heap.objs.size:=fun y c e z=>by
  obtain⟨v,o,ho,_⟩:=I3.cell y c e
  exact absurd (YAG ho) (by rw[z];exact YAt _)
 exact I6.turned (t':=s6.toks) (it:=s3.heap.objs.size) (fun b o hb e=>(hs'.2 b hb).trans e) hfr hLC (.inr l3) cne fun p hp z=>by
  have:=(I3.pin p hp).1
  exact absurd (YAG this) (by rw[z];exact YAt _)
end
abbrev tx (l:List Nat):V:=.str ⟨l.toArray⟩
theorem ZdJ {a b:List Nat}:tx a=tx b↔a=b:=by
 constructor
 ·intro h
  have h1:(⟨a.toArray⟩:Str)=⟨b.toArray⟩:=V.str.inj h
  have h2:a.toArray=b.toArray:=congrArg Str.cps h1
  simpa using h2
 ·rintro rfl;rfl
theorem Zdy {a b:List Nat}:decide (tx a=tx b)=decide (a=b):=by
 by_cases h:a=b
 ·subst h;simp
 ·rw[decide_eq_false h,decide_eq_false fun z=>h (ZdJ.mp z)]
theorem Zc6 (l:List Nat):(⟨l.toArray⟩:Str).length=l.length:=by
 show l.toArray.size=l.length
 simp
def rT (C:List Nat→List Nat→Prop)(g:List Nat→List Nat→V):R2:=fun x y H Q=>∃a b,x=tx a∧y=tx b∧C a b∧Q (g a b) H
def cut {α:Type}(l:List α)(lo hi:Option Int):List α:=(l.drop (HT.sIx l.length 0 lo)).take (HT.sIx l.length l.length hi-HT.sIx l.length 0 lo)
theorem ZcF {α:Type}(l:List α)(lo hi:Option Int):(cut l lo hi).length≤l.length:=by
 unfold cut
 rw[YAV,YAm]
 omega
theorem Zip {α:Type}(l:List α)(a b:Nat):cut l (some (a:Int)) (some (b:Int))=(l.drop a).take (b-a):=by
 unfold cut
 rw[HT.sIx_nat,HT.sIx_nat]
 apply YCm
 intro i
 simp only[YCa,YCb]
 by_cases h1:i<min b l.length-min a l.length
 ·rw[YAO h1,YAO (by omega)]
  congr 1;omega
 ·rw[YAJ h1]
  by_cases h2:i<b-a
  ·rw[YAO h2,YBc (by omega)]
  ·rw[YAJ h2]
theorem Zfk {α:Type}(l:List α)(b:Nat):cut l none (some (b:Int))=l.take b:=by
 unfold cut
 rw[HT.sIx_nat,HT.sIx_none]
 apply YCm
 intro i
 simp only[YCa,YCb,Nat.zero_add,Nat.sub_zero]
 by_cases h1:i<min b l.length
 ·rw[YAO h1,YAO (by omega)]
 ·rw[YAJ h1]
  by_cases h2:i<b
  ·rw[YAO h2,YBc (by omega)]
  ·rw[YAJ h2]
theorem Zb2 {α:Type}(l:List α)(a:Nat):cut l (some (a:Int)) none=l.drop a:=by
 unfold cut
 rw[HT.sIx_nat,HT.sIx_none]
 apply YCm
 intro i
 simp only[YCa,YCb]
 by_cases h1:i<l.length-min a l.length
 ·rw[YAO h1];congr 1;omega
 ·rw[YAJ h1,YBc (by omega)]
def clp (n:Nat)(v:Option Int)(d:Int):Int:=match v with
 | none=>d
 | some i=>max 0 (min (if i<0 then i+(n:Int) else i) (n:Int))
theorem Zj5 (n d:Nat)(o:Option Int):clp n o (d:Int)=((HT.sIx n d o:Nat):Int):=by
 cases o with
 | none=>rw[HT.sIx_none];rfl
 | some v=>
  have:=HT.clip_eq v n d
  unfold clp
  dsimp only
  rw[←this]
  split<;>omega
theorem Zhs (lo hi:Option Int)(n:Nat):Builtin.Str.strSliceIndices lo hi 1 n=(List.range (HT.sIx n n hi-HT.sIx n 0 lo)).map fun k=>HT.sIx n 0 lo+k:=by
 have g:Builtin.Str.strSliceIndices lo hi 1 n=sliceRange (clp n lo ((0:Nat):Int)) (clp n hi (n:Int)) 1:=by
  cases lo<;>cases hi<;>rfl
 rw[g,Zj5,Zj5]
 generalize HT.sIx n 0 lo=a
 generalize HT.sIx n n hi=b
 unfold sliceRange
 have hc:(if (1:Int)>0 then (if (a:Int)<(b:Int) then ((b:Int)-a+1-1)/1 else 0) else (if (a:Int)>(b:Int) then ((a:Int)-b-1-1)/(-1) else 0)).toNat=b-a:=by
  simp only[show (1:Int)>0 by decide,if_true,Int.ediv_one]
  split<;>omega
 dsimp only
 rw[hc]
 apply YDW
 intro k _
 omega
theorem ZiM (l:List Nat)(lo hi:Option Int):Txt.slice ⟨l.toArray⟩ lo hi=⟨(cut l lo hi).toArray⟩:=by
 have h1:=HT.sIx_le l.length 0 (YBI _) lo
 have h2:=HT.sIx_le l.length l.length (YAP _) hi
 unfold Txt.slice
 rw[Zc6,Zhs]
 have e:((List.range (HT.sIx l.length l.length hi-HT.sIx l.length 0 lo)).map fun k=>HT.sIx l.length 0 lo+k).filterMap (fun i=>l.toArray[i]?)=cut l lo hi:=by
  unfold cut
  generalize HT.sIx l.length 0 lo=a at *
  generalize HT.sIx l.length l.length hi=b at *
  have hab:∀n,a+n≤l.length→((List.range n).map fun k=>a+k).filterMap (fun i=>l.toArray[i]?)=(l.drop a).take n:=by
   intro n
   induction n with
   | zero=>intro _;simp
   | succ n ih=>
    intro hn
    rw[YCf,YCO,List.filterMap_append,ih (by omega),List.take_add_one]
    have:(l.drop a)[n]?=l[a+n]?:=YCb
    simp[this,YAL (show a+n<l.length by omega)]
  by_cases hle:a≤b
  ·exact hab _ (by omega)
  ·have:b-a=0:=by omega
   rw[this];simp
 split
 ·rename_i hc
  simp only[beq_self_eq_true,YBr,YAD,YBb]at hc
  have hc':HT.sIx l.length l.length hi-HT.sIx l.length 0 lo=l.length:=by simpa using hc
  have:cut l lo hi=l:=by
   unfold cut
   have ha:HT.sIx l.length 0 lo=0:=by omega
   rw[hc',ha,YBU,YAo (YAP _)]
  rw[this]
 ·show (⟨(List.filterMap (fun i=>l.toArray[i]?) _).toArray⟩:Str)=_
  rw[e]
section
variable {X:Cx}
theorem Zbp:OpR X (binaryOp .Add) (rT (fun a b=>a.length+b.length≤sizeLine) fun a b=>tx (a++b)):=by
 rintro pins s σ H x y v u Q I rx ry ⟨a,b,rfl,rfl,hz,q⟩
 refine ZgQ pins s σ H _ _ v u Q I rx ry ⟨_,_,rfl,rfl,by rw[Zc6,Zc6];exact hz,?_⟩
 have e:((⟨a.toArray⟩:Str)++(⟨b.toArray⟩:Str))=⟨(a++b).toArray⟩:=by
  show (⟨a.toArray++b.toArray⟩:Str)=_
  simp
 rw[e];exact q
theorem ZgP:OpR X (compareOp .In) (fun x y H Q=>∃c l,x=tx [c]∧y=tx l∧Q (.bl (decide (c∈l))) H):=by
 rintro pins s σ H x y v u Q I rx ry ⟨c,l,rfl,rfl,q⟩
 refine ZeP pins s σ H _ _ v u Q I rx ry ⟨_,_,rfl,rfl,?_⟩
 have e:=StrLaws.found_one ⟨l.toArray⟩ c
 have e':(!(Builtin.Str.occurrences ⟨l.toArray⟩ ⟨[c].toArray⟩ 0 (⟨l.toArray⟩:Str).length 1).isEmpty)=decide (c∈l):=by
  rw[show ([c].toArray)=#[c] from rfl,e]
 rw[e'];exact q
theorem ZkX:IxR X (fun x y H Q=>∃l i c,x=tx l∧y=.int i∧l.length≤sizeLine∧atI l i=some c∧Q (tx [c]) H):=by
 rintro value slice pins s σ H x y v u Q I rx ry ⟨l,i,c,rfl,rfl,hz,h,q⟩ hs
 exact ZmX value slice pins s σ H _ _ v u Q I rx ry ⟨_,i,c,rfl,rfl,by rw[Zc6];exact hz,h,q⟩ hs
theorem ZbJ:SlR X (fun x lo hi H Q=>∃l,x=tx l∧l.length≤sizeLine∧Q (tx (cut l lo hi)) H):=by
 rintro pins s σ H x v vl vu lo hi sl Q I rx hs pl pu ⟨l,rfl,hz,q⟩
 obtain⟨t,rfl⟩:=rx
 refine⟨"str",_,F.slot_str_getitem.lookup,typeIs_str _ _ _,?_⟩
 have part:∀ {v:Value} {o:Option Int},IsPart v o→∃p:Option (Int×Tok),v=partValue p∧p.map (·.1)=o:=fun {v o} h=>by
  cases h with
  | none=>exact⟨none,rfl,rfl⟩
  | int i t=>exact⟨some (i,t),rfl,rfl⟩
 obtain⟨a,rfl,ea⟩:=part pl
 obtain⟨b,rfl,eb⟩:=part pu
 refine wpAny_getItem_str_slice (l:=a) (u:=b) (st:=none) hs rfl ?_
 have e:(if ((1:Int) == 1&&(Builtin.Str.strSliceIndices lo hi 1 (⟨l.toArray⟩:Str).length).length == (⟨l.toArray⟩:Str).length)=true then (⟨l.toArray⟩:Str) else ⟨((Builtin.Str.strSliceIndices lo hi 1 (⟨l.toArray⟩:Str).length).filterMap ((⟨l.toArray⟩:Str).cps[·]?)).toArray⟩)=⟨(cut l lo hi).toArray⟩:=ZiM l lo hi
 unfold sliceMade slicePicked
 rw[ea,eb]
 refine post_val_or_str ?_
 refine⟨?_,fun t' k=>?_⟩
 ·show (if ((1:Int) == 1&&(Builtin.Str.strSliceIndices lo hi 1 (⟨l.toArray⟩:Str).length).length == (⟨l.toArray⟩:Str).length)=true then (⟨l.toArray⟩:Str) else ⟨((Builtin.Str.strSliceIndices lo hi 1 (⟨l.toArray⟩:Str).length).filterMap ((⟨l.toArray⟩:Str).cps[·]?)).toArray⟩).length≤sizeLine
  rw[e,Zc6]
  exact YAQ (ZcF _ _ _) hz
 ·refine⟨tx (cut l lo hi),H,I.tok _,⟨t',?_⟩,q⟩
  exact congrArg (fun z=>Value.str z t') e
def glue (sep:List Nat):List (List Nat)→List Nat
 | []=>[]
 | [x]=>x
 | x::r=>x++sep++glue sep r
theorem Zgu:∀ls:List (List Nat),glue [] ls=ls.flatten
 | []=>rfl
 | [x]=>by simp[glue]
 | x::y::r=>by
  show x++[]++glue [] (y::r)=_
  rw[Zgu (y::r)]
  simp
theorem Zh7 (sep:List Nat):∀ls:List (List Nat),Str.join ⟨sep.toArray⟩ (ls.map fun l=>(⟨l.toArray⟩:Str))=⟨(glue sep ls).toArray⟩
 | []=>rfl
 | [x]=>rfl
 | x::y::r=>by
  have ih:=Zh7 sep (y::r)
  show (⟨x.toArray⟩:Str)++⟨sep.toArray⟩++Str.join ⟨sep.toArray⟩ ((y::r).map fun l=>(⟨l.toArray⟩:Str))=_
  rw[ih]
  show (⟨x.toArray++sep.toArray++(glue sep (y::r)).toArray⟩:Str)=⟨(x++sep++glue sep (y::r)).toArray⟩
  simp
theorem ZcA:∀ {ls:List (List Nat)} {us:List Value},Vals (ls.map tx) us→StrsAre us (ls.map fun l=>(⟨l.toArray⟩:Str))
 | [],us,r=>by
  rw[List.map_nil]at r;cases r;exact .nil
 | l::ls,us,r=>by
  rw[YAg]at r
  cases r with
  | cons r1 r2=>
   obtain⟨t,e⟩:=r1
   subst e
   exact .cons _ t (ZcA r2)
theorem ZkK:MtM X "str.join" (fun x vs H Q=>∃sep a ls,x=tx sep∧vs=[.ref a]∧H a=some (.lst (ls.map tx))∧(ls.map List.length).sum+ls.length*sep.length≤16777216∧Q (tx (glue sep ls)) H):=by
 rintro pins s σ H x vs v us Q I rx rv ⟨sep,a,ls,rfl,rfl,ha,hz,q⟩
 obtain⟨t,rfl⟩:=rx
 obtain⟨u,rfl,ru⟩:=rv.one
 cases ru
 obtain⟨_,its,n,r,_,e⟩:=I.lstM ha
 refine join_list (YCA e) (ZcA (by simpa using r)) ?_ fun t' k=>?_
 ·have e1:((ls.map fun l=>(⟨l.toArray⟩:Str)).map (·.length)).sum=(ls.map List.length).sum:=by
   rw[YBa]
   congr 1
   all_goals (apply YDW;intro l _;exact Zc6 l)
  rw[e1,YAD,Zc6]
  exact hz
 ·refine⟨tx (glue sep ls),H,I.tok _,⟨t',?_⟩,q⟩
  have e2:Txt.join ⟨sep.toArray⟩ (ls.map fun l=>(⟨l.toArray⟩:Str))=⟨(glue sep ls).toArray⟩:=by
   show Builtin.Str.glued _ _=_
   rw[StrLaws.glued_eq_join,Zh7]
  rw[e2]
end
def Its (l:List Nat):It:=⟨fun i _=>i<l.length,fun i H x H'=>H'=H∧∃c,l[i]?=some c∧x=tx [c],fun i _=>l.length≤i⟩
theorem Zhn {P:Program} {w:World} {K:PySem.W.Frag} {tg:Expr} (l:List Nat) (t:Tok) (it:Addr) (ty:String) (hty:ty="str_ascii_iterator"∨ty="str_iterator"):Turn P w K tg (Its l) [it] it (fun i h=>h.IsStrIter it ty ⟨l.toArray⟩ t i) where
 mem:=by simp
 obj:=fun i h st b hb=>by
  have e:b=it:=by simpa using hb
  subst e
  obtain⟨o,e,c,d⟩:=st
  exact⟨o,e,fun v z=>by rw[d]at z;cases z⟩
 keep:=fun i h h' st k=>by
  obtain⟨o,e,r⟩:=st
  exact⟨o,k it (by simp) o e,r⟩
 item:=by
  intro X hP hw hK hc i pins s σ H E I hf st hg
  subst hP hw hK
  obtain⟨f0,f1,f2,f3,f4,f5⟩:=hf it (by simp)
  have hg:i<l.length:=hg
  have hx:(⟨l.toArray⟩:Str).cps[i]?=some l[i]:=by
   show l.toArray[i]?=some l[i]
   simp[hg]
  have fin:∀(h':Heap) (tk:Tok),h'.IsStrIter it ty ⟨l.toArray⟩ t (i+1)→Heap.SameBut it s.heap h' →
    ∃u,some (Value.str ⟨#[l[i]]⟩ s.toks)=some u∧wpAny (model X.prog X.w) X.A (letOwnedTupleGo tg (.ref it) u) (fun _ s2=>∃x H',Inv X pins σ H' s2∧RelV x u∧(Its l).yld i H x H'∧s2.heap.IsStrIter it ty ⟨l.toArray⟩ t (i+1)∧∀b∈[it],H' b=none) E { s with heap:=h',toks:=tk }:=fun h' tk st' sb=>by
   have I1:Inv X pins σ H { s with heap:=h',toks:=tk }:=I.turned (t':=tk) (fun b o hb e=>(sb.2 b hb).trans e) f0 f1 f3 f4 f5
   obtain⟨o,e,c,d⟩:=id st'
   refine⟨_,rfl,Zk5 (s:={ s with heap:=h',toks:=tk }) e c d ?_ ⟨tx [l[i]],H,I1,⟨_,rfl⟩,⟨rfl,l[i],by simp[hg],rfl⟩,st',fun b hb=>(hf b hb).1⟩⟩
   rcases hty with rfl | rfl<;>decide
  rcases hty with rfl | rfl
  ·exact wpAny_pyNext_ascii_item st hx fun h' st' sb=>fin h' _ st' sb
  ·exact wpAny_pyNext_wide_item st hx fun h' st' sb=>fin h' _ st' sb
 done:=by
  intro X hP hw hK hc i pins s σ H E I hf st hg
  subst hP hw hK
  obtain⟨f0,f1,f2,f3,f4,f5⟩:=hf it (by simp)
  have hg:l.length≤i:=hg
  have hx:(⟨l.toArray⟩:Str).cps[i]?=none:=by
   show l.toArray[i]?=none
   simp[hg]
  rcases hty with rfl | rfl
  ·exact wpAny_pyNext_ascii_end (I.ok.hd hc) st hx fun h' eb=>⟨rfl,I.turned (t':=s.toks) (fun b o hb e=>eb b o hb e) f0 f1 f3 f4 f5⟩
  ·exact wpAny_pyNext_wide_end (I.ok.hd hc) st hx fun h' eb=>⟨rfl,I.turned (t':=s.toks) (fun b o hb e=>eb b o hb e) f0 f1 f3 f4 f5⟩
 self:=by
  intro A i s Q E st h
  rcases hty with rfl | rfl
  ·exact wpAny_pyIter_striter_ascii st h
  ·exact wpAny_pyIter_striter_wide st h
section
variable {X:Cx}{tg:Expr}
def Zm5 (tl:TE):TI:=fun σ H R=>tl σ H fun x H1=>∃l,x=tx l∧R (Its l) H1
theorem Zd9 {l:Expr}{tl:TE}(hl:PE X l tl):PI X tg l (Zm5 tl):=by
 intro pins s σ H R I h
 refine thn (hl pins s σ H _ I h) fun v s1 ⟨x,H1,I1,r1,q1⟩=>?_
 obtain⟨l,rfl,q⟩:=q1
 obtain⟨t,rfl⟩:=r1
 have fin:∀ty,(ty="str_ascii_iterator"∨ty="str_iterator")→PIE X pins σ tg R (.ref s1.heap.objs.size) { s1 with heap:=s1.heap.push { cls:=.type ty,data:=.fields #[.str ⟨l.toArray⟩ t,.int 0 0] } }:=fun ty hty=>by
  refine⟨s1.heap.objs.size,[s1.heap.objs.size],_,_,H1,rfl,I1.kept (t':=s1.toks) fun b o e=>YAB _ e,Zhn l t _ ty hty,⟨_,YAF _ rfl,rfl,rfl⟩,fun b hb=>?_,q⟩
  have e:b=s1.heap.objs.size:=by simpa using hb
  subst e
  exact I1.fpOk (YAP _) (I1.hok.fresh (YAP _))
 cases ha:(⟨l.toArray⟩:Str).cps.all (· < 128)
 ·exact wpAny_pyIter_wide ha (fin _ (.inr rfl))
 ·exact wpAny_pyIter_ascii ha (fin _ (.inl rfl))
end
theorem Zjl {l:List Nat}{g:TG}{tb:TS}{D:Ends}{σ:St}{H:Hp}(Pv:Nat→St→Hp→Prop)(h0:Pv 0 σ H)
  (hs:∀i c σ H,l[i]?=some c→Pv i σ H→g (tx [c]) σ H fun σ2 H2=>tb { D with nx:=Pv (i+1),ct:=Pv (i+1),bk:=D.nx } σ2 H2) (hd:∀σ H,Pv l.length σ H→D.nx σ H):
  ∃W:Nat→Nat→St→Hp→Prop,(∃m,W 0 m σ H)∧∀i m σ H,W i m σ H →
   ((Its l).stop i H∧D.nx σ H)∨((Its l).go i H∧∃N:St→Hp→Prop,(∀σ' H',N σ' H'→∃m',m'<m∧W (i+1) m' σ' H')∧∀x H',(Its l).yld i H x H'→g x σ H' fun σ2 H2=>tb { D with nx:=N,ct:=N,bk:=D.nx } σ2 H2):=by
 refine⟨fun i m σ H=>m=l.length-i∧i≤l.length∧Pv i σ H,⟨l.length,by simp,YBI _,h0⟩,?_⟩
 rintro i m σ H ⟨rfl,hi,p⟩
 by_cases hlt:i<l.length
 ·refine .inr ⟨hlt,Pv (i+1),fun σ' H' p'=>⟨l.length-(i+1),by omega,rfl,hlt,p'⟩,fun x H' y=>?_⟩
  obtain⟨e,c,hc,y⟩:=y
  subst e y
  exact hs i c σ _ hc p
 ·have e:i=l.length:=by omega
  subst e
  exact .inl ⟨YAP _,hd σ H p⟩
inductive DT where
 | f (v:V)
 | l (xs:List DT)
 | t (xs:List DT)
section
variable (K:PySem.W.Frag)(H:Hp)
mutual
def DatOk:DT→V→Prop
 | .f w,v=>v=w∧Zbb w=true
 | .l ds,v=>∃a vs,v=.ref a∧SqL K H a vs∧DatsOk ds vs
 | .t ds,v=>∃a vs,v=.ref a∧SqT K H a vs∧DatsOk ds vs
def DatsOk:List DT→List V→Prop
 | [],vs=>vs=[]
 | d::ds,vs=>∃v r,vs=v::r∧DatOk d v∧DatsOk ds r
end
end
mutual
def deq:DT→DT→Bool
 | .f v,.f w=>eqV v w
 | .l xs,.l ys=>deqs xs ys
 | .t xs,.t ys=>deqs xs ys
 | .f _,.l _=>false
 | .f _,.t _=>false
 | .l _,.f _=>false
 | .t _,.f _=>false
 | .l _,.t _=>false
 | .t _,.l _=>false
def deqs:List DT→List DT→Bool
 | [],[]=>true
 | x::xs,y::ys=>deq x y&&deqs xs ys
 | [],_::_=>false
 | _::_,[]=>false
end
mutual
def dep:DT→Nat
 | .f _=>0
 | .l xs=>deps xs+1
 | .t xs=>deps xs+1
def deps:List DT→Nat
 | []=>0
 | x::xs=>max (dep x) (deps xs)
end
theorem Zeo {v:V}(h:Zbb v=true):eqV v v=true:=by
 cases v<;>first | rfl | (simp[eqV];done) | exact absurd (show false=true from h) YAE
theorem DatsOk.length {K:PySem.W.Frag}{H:Hp}:∀ {ds:List DT} {vs:List V},DatsOk K H ds vs→vs.length=ds.length
 | [],vs,h=>by
  unfold DatsOk at h;subst h;rfl
 | d::ds,vs,h=>by
  unfold DatsOk at h
  obtain⟨v,r,rfl,_,hr⟩:=h
  rw[YAp,YAp,DatsOk.length hr]
def ZaS (xs ys:List DT)(j:Nat):Bool:=match xs[j]?,ys[j]? with
 | some x,some y=>deq x y
 | _,_=>false
theorem ZfR:∀xs ys:List DT,deqs xs ys=((List.range (min xs.length ys.length)).all (ZaS xs ys)&&xs.length == ys.length)
 | [],[]=>by simp[deqs]
 | [],_::_=>by simp[deqs]
 | _::_,[]=>by simp[deqs]
 | x::xs,y::ys=>by
  have e:min (x::xs).length (y::ys).length=min xs.length ys.length+1:=by simp only[YAp];omega
  have e2:∀j,ZaS (x::xs) (y::ys) (j+1)=ZaS xs ys j:=fun j=>by simp[ZaS]
  have e3:ZaS (x::xs) (y::ys) 0=deq x y:=by simp[ZaS]
  rw[deqs,ZfR xs ys,e,List.range_succ_eq_map,List.all_cons,e3,List.all_map]
  have e4:((fun j=>ZaS (x::xs) (y::ys) j) ∘ Nat.succ)=ZaS xs ys:=by funext j;exact e2 j
  have e5:(ZaS (x::xs) (y::ys) ∘ Nat.succ)=ZaS xs ys:=e4
  rw[e5,Bool.and_assoc]
  simp
mutual
theorem DatOk.uniq {K:PySem.W.Frag}{X:Cx}{pins:List (Addr×Obj)}{σ:St}{H:Hp}{s:Shared}(I:Inv X pins σ H s):∀(d e:DT) (v:V),DatOk X.K H d v→DatOk X.K H e v→deq d e=true
 | .f w,.f u,v,h1,h2=>by
  unfold DatOk at h1 h2
  obtain⟨rfl,hf⟩:=h1
  obtain⟨e,_⟩:=h2
  subst e
  unfold deq
  exact Zeo hf
 | .f w,.l ys,v,h1,h2=>by
  unfold DatOk at h1 h2
  obtain⟨rfl,hf⟩:=h1
  obtain⟨a,vs,rfl,_⟩:=h2
  exact absurd (show false=true from hf) YAE
 | .f w,.t ys,v,h1,h2=>by
  unfold DatOk at h1 h2
  obtain⟨rfl,hf⟩:=h1
  obtain⟨a,vs,rfl,_⟩:=h2
  exact absurd (show false=true from hf) YAE
 | .l xs,.f w,v,h1,h2=>by
  unfold DatOk at h1 h2
  obtain⟨rfl,hf⟩:=h2
  obtain⟨a,vs,rfl,_⟩:=h1
  exact absurd (show false=true from hf) YAE
 | .t xs,.f w,v,h1,h2=>by
  unfold DatOk at h1 h2
  obtain⟨rfl,hf⟩:=h2
  obtain⟨a,vs,rfl,_⟩:=h1
  exact absurd (show false=true from hf) YAE
 | .l xs,.l ys,v,h1,h2=>by
  unfold DatOk at h1 h2
  obtain⟨a,vs,rfl,q1,r1⟩:=h1
  obtain⟨b,ws,e,q2,r2⟩:=h2
  cases e
  have:=I.list_inj q1 q2
  subst this
  unfold deq
  exact DatsOk.uniq (K:=K) I xs ys vs r1 r2
 | .t xs,.t ys,v,h1,h2=>by
  unfold DatOk at h1 h2
  obtain⟨a,vs,rfl,q1,r1⟩:=h1
  obtain⟨b,ws,e,q2,r2⟩:=h2
  cases e
  have:=I.tuple_inj q1 q2
  subst this
  unfold deq
  exact DatsOk.uniq (K:=K) I xs ys vs r1 r2
 | .l xs,.t ys,v,h1,h2=>by
  unfold DatOk at h1 h2
  obtain⟨a,vs,rfl,q1,r1⟩:=h1
  obtain⟨b,ws,e,q2,r2⟩:=h2
  cases e
  obtain⟨_,_,⟨o,n,e1,c1,_⟩,_⟩:=I.list q1
  obtain⟨_,_,⟨o',e2,c2,_⟩,_⟩:=I.tuple q2
  rw[e1]at e2;cases e2
  rw[c1]at c2;exact absurd c2 (by simp)
 | .t xs,.l ys,v,h1,h2=>by
  unfold DatOk at h1 h2
  obtain⟨a,vs,rfl,q1,r1⟩:=h1
  obtain⟨b,ws,e,q2,r2⟩:=h2
  cases e
  obtain⟨_,_,⟨o',e2,c2,_⟩,_⟩:=I.tuple q1
  obtain⟨_,_,⟨o,n,e1,c1,_⟩,_⟩:=I.list q2
  rw[e1]at e2;cases e2
  rw[c1]at c2;exact absurd c2 (by simp)
theorem DatsOk.uniq {K:PySem.W.Frag}{X:Cx}{pins:List (Addr×Obj)}{σ:St}{H:Hp}{s:Shared}(I:Inv X pins σ H s):∀(xs ys:List DT) (vs:List V),DatsOk X.K H xs vs→DatsOk X.K H ys vs→deqs xs ys=true
 | [],[],vs,h1,h2=>by unfold deqs;rfl
 | [],y::ys,vs,h1,h2=>by
  unfold DatsOk at h1 h2
  subst h1
  obtain⟨_,_,e,_⟩:=h2
  cases e
 | x::xs,[],vs,h1,h2=>by
  unfold DatsOk at h1 h2
  subst h2
  obtain⟨_,_,e,_⟩:=h1
  cases e
 | x::xs,y::ys,vs,h1,h2=>by
  unfold DatsOk at h1 h2
  obtain⟨v,r,rfl,a1,a2⟩:=h1
  obtain⟨v',r',e,b1,b2⟩:=h2
  cases e
  unfold deqs
  rw[DatOk.uniq (K:=K) I x y v a1 b1,DatsOk.uniq (K:=K) I xs ys r a2 b2]
  rfl
end
section
variable {X:Cx}{pins:List (Addr×Obj)}{σ:St}{H:Hp}{s:Shared}
open SeqAt
theorem Zeq {A:Around}{w:V}{u:Value}{l:Addr}{items:Array Value}(hf:Zbb w=true)(r:RelV w u)(hl:s.heap.IsList l items)(hu:A.units<cLine):EqAt A s u (.ref l) false∧EqAt A s (.ref l) u false∧RcAt A s u (.ref l) false∧RcAt A s (.ref l) u false∧RcNeAt A s u (.ref l) true∧RcNeAt A s (.ref l) u true:=by
 cases w with
 | non=>cases r;exact⟨.none_list hl hu,.list_none hl hu,.none_list hl hu,.list_none hl hu,.none_list hl hu,.list_none hl hu⟩
 | bl b=>cases r;exact⟨.bool_list b hl hu,.list_bool b hl hu,.bool_list b hl hu,.list_bool b hl hu,.bool_list b hl hu,.list_bool b hl hu⟩
 | int i=>obtain⟨t,rfl⟩:=r;exact⟨.int_list i t hl hu,.list_int i t hl hu,.int_list i t hl hu,.list_int i t hl hu,.int_list i t hl hu,.list_int i t hl hu⟩
 | str i=>obtain⟨t,rfl⟩:=r;exact⟨.str_list i t hl hu,.list_str i t hl hu,.str_list i t hl hu,.list_str i t hl hu,.str_list i t hl hu,.list_str i t hl hu⟩
 | _=>exact absurd (show false=true from hf) YAE
theorem Zep {A:Around}{w:V}{u:Value}{l:Addr}{items:Array Value}(hf:Zbb w=true)(r:RelV w u)(hl:s.heap.IsTuple l items)(hu:A.units<cLine):EqAt A s u (.ref l) false∧EqAt A s (.ref l) u false∧RcAt A s u (.ref l) false∧RcAt A s (.ref l) u false∧RcNeAt A s u (.ref l) true∧RcNeAt A s (.ref l) u true:=by
 cases w with
 | non=>cases r;exact⟨.none_tuple hl hu,.tuple_none hl hu,.none_tuple hl hu,.tuple_none hl hu,.none_tuple hl hu,.tuple_none hl hu⟩
 | bl b=>cases r;exact⟨.bool_tuple b hl hu,.tuple_bool b hl hu,.bool_tuple b hl hu,.tuple_bool b hl hu,.bool_tuple b hl hu,.tuple_bool b hl hu⟩
 | int i=>obtain⟨t,rfl⟩:=r;exact⟨.int_tuple i t hl hu,.tuple_int i t hl hu,.int_tuple i t hl hu,.tuple_int i t hl hu,.int_tuple i t hl hu,.tuple_int i t hl hu⟩
 | str i=>obtain⟨t,rfl⟩:=r;exact⟨.str_tuple i t hl hu,.tuple_str i t hl hu,.str_tuple i t hl hu,.tuple_str i t hl hu,.str_tuple i t hl hu,.tuple_str i t hl hu⟩
 | _=>exact absurd (show false=true from hf) YAE
theorem Zl1 {A:Around}{l b:Addr}{ps qs:List Value}{xs ys:List DT}(hl:s.heap.IsList l ps.toArray)(hb:s.heap.IsList b qs.toArray)(n1:ps.length=xs.length)(n2:qs.length=ys.length)(hu:A.units<cLine)
  (he:∀j (h1:j<ps.length) (h2:j<qs.length),EqAt A.in1 s ps[j] qs[j] (ZaS xs ys j)):RcAt A s (.ref l) (.ref b) (deqs xs ys)∧RcNeAt A s (.ref l) (.ref b) (!deqs xs ys):=by
 rw[ZfR]
 by_cases hz:ps.length=qs.length
 ·have hsz:ps.toArray.size=qs.toArray.size:=by rw[YAH,YAH];exact hz
  have e1:((List.range (min xs.length ys.length)).all (ZaS xs ys)&&xs.length == ys.length)=(List.range ps.toArray.size).all (ZaS xs ys):=by
   have:xs.length=ys.length:=by omega
   rw[YAH,n1,←this,Nat.min_self]
   simp
  rw[e1]
  exact⟨RcAt.lists hl hb hsz hu fun j j1 j2=>by simpa using he j (by simpa using j1) (by simpa using j2),RcNeAt.lists hl hb hsz hu fun j j1 j2=>by simpa using he j (by simpa using j1) (by simpa using j2)⟩
 ·have e1:((List.range (min xs.length ys.length)).all (ZaS xs ys)&&xs.length == ys.length)=false:=by
   have:xs.length≠ys.length:=by omega
   simp[this]
  rw[e1]
  have hsz:(ps.toArray.size != qs.toArray.size)=true:=by rw[YAH,YAH];simpa using hz
  exact⟨RcAt.lists_lengths hl hb hsz hu,RcNeAt.lists_lengths hl hb hsz hu⟩
theorem Zl0 {A:Around}{l b:Addr}{ps qs:List Value}{xs ys:List DT}(hl:s.heap.IsTuple l ps.toArray)(hb:s.heap.IsTuple b qs.toArray)(n1:ps.length=xs.length)(n2:qs.length=ys.length)(hu:A.units<cLine)
  (he:∀j (h1:j<ps.length) (h2:j<qs.length),EqAt A.in1 s ps[j] qs[j] (ZaS xs ys j)):RcAt A s (.ref l) (.ref b) (deqs xs ys)∧RcNeAt A s (.ref l) (.ref b) (!deqs xs ys):=by
 have e1:deqs xs ys=((List.range (min ps.toArray.size qs.toArray.size)).all (ZaS xs ys)&&ps.toArray.size == qs.toArray.size):=by
  rw[ZfR,YAH,YAH,n1,n2]
 rw[e1]
 exact⟨RcAt.tuples hl hb hu fun j j1 j2=>by simpa using he j (by simpa using j1) (by simpa using j2),RcNeAt.tuples hl hb hu fun j j1 j2=>by simpa using he j (by simpa using j1) (by simpa using j2)⟩
mutual
theorem Zne (I:Inv X pins σ H s):∀(d e:DT) (A:Around) (x y:V) (u v:Value),DatOk X.K H d x→DatOk X.K H e y→RelV x u→RelV y v→A.units+dep d<cLine→EqAt A s u v (deq d e)
 | .f w,.f w',A,x,y,u,v,h1,h2,ru,rv,hu=>by
  unfold DatOk at h1 h2
  obtain⟨rfl,f1⟩:=h1
  obtain⟨rfl,f2⟩:=h2
  unfold deq
  exact Zj2 ru rv f1 f2
 | .f w,.l ys,A,x,y,u,v,h1,h2,ru,rv,hu=>by
  unfold DatOk at h1 h2
  obtain⟨rfl,f1⟩:=h1
  obtain⟨a,vs,rfl,q,_⟩:=h2
  cases rv
  obtain⟨its,_,p,_⟩:=I.list q
  unfold deq
  exact(Zeq f1 ru p.isList (by unfold dep at hu;omega)).1
 | .f w,.t ys,A,x,y,u,v,h1,h2,ru,rv,hu=>by
  unfold DatOk at h1 h2
  obtain⟨rfl,f1⟩:=h1
  obtain⟨a,vs,rfl,q,_⟩:=h2
  cases rv
  obtain⟨its,_,p,_⟩:=I.tuple q
  unfold deq
  exact(Zep f1 ru (show s.heap.IsTuple a its.toArray from p) (by unfold dep at hu;omega)).1
 | .l xs,.f w,A,x,y,u,v,h1,h2,ru,rv,hu=>by
  unfold DatOk at h1 h2
  obtain⟨rfl,f1⟩:=h2
  obtain⟨a,vs,rfl,q,_⟩:=h1
  cases ru
  obtain⟨its,_,p,_⟩:=I.list q
  unfold deq
  exact(Zeq f1 rv p.isList (by omega)).2.1
 | .t xs,.f w,A,x,y,u,v,h1,h2,ru,rv,hu=>by
  unfold DatOk at h1 h2
  obtain⟨rfl,f1⟩:=h2
  obtain⟨a,vs,rfl,q,_⟩:=h1
  cases ru
  obtain⟨its,_,p,_⟩:=I.tuple q
  unfold deq
  exact(Zep f1 rv (show s.heap.IsTuple a its.toArray from p) (by omega)).2.1
 | .l xs,.t ys,A,x,y,u,v,h1,h2,ru,rv,hu=>by
  unfold DatOk at h1 h2
  obtain⟨a,vs,rfl,q,_⟩:=h1
  obtain⟨b,ws,rfl,q',_⟩:=h2
  cases ru
  cases rv
  obtain⟨its,_,p,_⟩:=I.list q
  obtain⟨its',_,p',_⟩:=I.tuple q'
  unfold deq
  exact EqAt.list_tuple p.isList (show s.heap.IsTuple b its'.toArray from p') (by omega)
 | .t xs,.l ys,A,x,y,u,v,h1,h2,ru,rv,hu=>by
  unfold DatOk at h1 h2
  obtain⟨a,vs,rfl,q,_⟩:=h1
  obtain⟨b,ws,rfl,q',_⟩:=h2
  cases ru
  cases rv
  obtain⟨its,_,p,_⟩:=I.tuple q
  obtain⟨its',_,p',_⟩:=I.list q'
  unfold deq
  exact EqAt.tuple_list (show s.heap.IsTuple a its.toArray from p) p'.isList (by omega)
 | .l xs,.l ys,A,x,y,u,v,h1,h2,ru,rv,hu=>by
  by_cases hxy:x=y
  ·subst hxy
   rw[DatOk.uniq (K:=X.K) I (.l xs) (.l ys) x h1 h2]
   unfold DatOk at h1
   obtain⟨a,vs,rfl,_⟩:=h1
   cases ru
   cases rv
   exact EqAt.same _
  ·unfold DatOk at h1 h2
   obtain⟨a,vs,rfl,q,d1⟩:=h1
   obtain⟨b,ws,rfl,q',d2⟩:=h2
   cases ru
   cases rv
   obtain⟨its,r,p,_⟩:=I.list q
   obtain⟨its',r',p',_⟩:=I.list q'
   unfold deq
   unfold dep at hu
   refine EqAt.of_refs (fun e=>hxy (by rw[e])) (Zl1 p.isList p'.isList (by rw[←r.length,d1.length]) (by rw[←r'.length,d2.length]) (by omega) fun j j1 j2=>?_).1
   exact Zdv I xs ys A.in1 vs ws its its' d1 d2 r r' (by show A.units+1+_<_;omega) j j1 j2
 | .t xs,.t ys,A,x,y,u,v,h1,h2,ru,rv,hu=>by
  by_cases hxy:x=y
  ·subst hxy
   rw[DatOk.uniq (K:=X.K) I (.t xs) (.t ys) x h1 h2]
   unfold DatOk at h1
   obtain⟨a,vs,rfl,_⟩:=h1
   cases ru
   cases rv
   exact EqAt.same _
  ·unfold DatOk at h1 h2
   obtain⟨a,vs,rfl,q,d1⟩:=h1
   obtain⟨b,ws,rfl,q',d2⟩:=h2
   cases ru
   cases rv
   obtain⟨its,r,p,_⟩:=I.tuple q
   obtain⟨its',r',p',_⟩:=I.tuple q'
   unfold deq
   unfold dep at hu
   refine EqAt.of_refs (fun e=>hxy (by rw[e])) (Zl0 (show s.heap.IsTuple a its.toArray from p) (show s.heap.IsTuple b its'.toArray from p') (by rw[←r.length,d1.length]) (by rw[←r'.length,d2.length]) (by omega) fun j j1 j2=>?_).1
   exact Zdv I xs ys A.in1 vs ws its its' d1 d2 r r' (by show A.units+1+_<_;omega) j j1 j2
theorem Zdv (I:Inv X pins σ H s):∀(xs ys:List DT) (A:Around) (vs ws:List V) (ps qs:List Value),DatsOk X.K H xs vs→DatsOk X.K H ys ws→Vals vs ps→Vals ws qs→A.units+deps xs<cLine →
  ∀(j:Nat) (h1:j<ps.length) (h2:j<qs.length),EqAt A s ps[j] qs[j] (ZaS xs ys j)
 | [],ys,A,vs,ws,ps,qs,d1,d2,r1,r2,hu,j,h1,h2=>by
  unfold DatsOk at d1
  subst d1
  cases r1
  exact absurd h1 (Nat.not_lt_zero _)
 | x::xs,[],A,vs,ws,ps,qs,d1,d2,r1,r2,hu,j,h1,h2=>by
  unfold DatsOk at d2
  subst d2
  cases r2
  exact absurd h2 (Nat.not_lt_zero _)
 | x::xs,y::ys,A,vs,ws,ps,qs,d1,d2,r1,r2,hu,j,h1,h2=>by
  unfold DatsOk at d1 d2
  obtain⟨v,vr,rfl,a1,a2⟩:=d1
  obtain⟨w,wr,rfl,b1,b2⟩:=d2
  unfold deps at hu
  cases r1 with
  | cons ru rus=>
   cases r2 with
   | cons rv rvs=>
    cases j with
    | zero=>
     have:=Zne I x y A v w _ _ a1 b1 ru rv (by omega)
     simpa [ZaS] using this
    | succ j=>
     have:=Zdv I xs ys A vr wr _ _ a2 b2 rus rvs (by omega) j (Nat.lt_of_succ_lt_succ h1) (Nat.lt_of_succ_lt_succ h2)
     simpa [ZaS] using this
end
theorem ZlZ (I:Inv X pins σ H s){d e:DT}{A:Around}{x y:V}{u v:Value}(h1:DatOk X.K H d x)(h2:DatOk X.K H e y)(ru:RelV x u)(rv:RelV y v)(hu:A.units+dep d<cLine)(hn:¬(Zbb x=true∧Zbb y=true)):
  RcAt A s u v (deq d e)∧RcNeAt A s u v (!deq d e):=by
 cases d with
 | f w=>
  unfold DatOk at h1
  obtain⟨rfl,f1⟩:=h1
  cases e with
  | f w'=>
   unfold DatOk at h2
   obtain⟨rfl,f2⟩:=h2
   exact absurd ⟨f1,f2⟩ hn
  | l ys=>
   unfold DatOk at h2
   obtain⟨a,vs,rfl,q,_⟩:=h2
   cases rv
   obtain⟨its,_,p,_⟩:=I.list q
   have z:=Zeq (A:=A) f1 ru p.isList (by omega)
   unfold deq
   exact⟨z.2.2.1,z.2.2.2.2.1⟩
  | t ys=>
   unfold DatOk at h2
   obtain⟨a,vs,rfl,q,_⟩:=h2
   cases rv
   obtain⟨its,_,p,_⟩:=I.tuple q
   have z:=Zep (A:=A) f1 ru (show s.heap.IsTuple a its.toArray from p) (by omega)
   unfold deq
   exact⟨z.2.2.1,z.2.2.2.2.1⟩
 | l xs=>
  unfold DatOk at h1
  obtain⟨a,vs,rfl,q,d1⟩:=h1
  cases ru
  obtain⟨its,r,p,_⟩:=I.list q
  cases e with
  | f w=>
   unfold DatOk at h2
   obtain⟨rfl,f1⟩:=h2
   have z:=Zeq (A:=A) f1 rv p.isList (by omega)
   unfold deq
   exact⟨z.2.2.2.1,z.2.2.2.2.2⟩
  | l ys=>
   unfold DatOk at h2
   obtain⟨b,ws,rfl,q',d2⟩:=h2
   cases rv
   obtain⟨its',r',p',_⟩:=I.list q'
   unfold deq
   unfold dep at hu
   exact Zl1 p.isList p'.isList (by rw[←r.length,d1.length]) (by rw[←r'.length,d2.length]) (by omega) fun j j1 j2=>Zdv I xs ys A.in1 vs ws its its' d1 d2 r r' (by show A.units+1+_<_;omega) j j1 j2
  | t ys=>
   unfold DatOk at h2
   obtain⟨b,ws,rfl,q',d2⟩:=h2
   cases rv
   obtain⟨its',r',p',_⟩:=I.tuple q'
   unfold deq
   exact⟨RcAt.list_tuple p.isList (show s.heap.IsTuple b its'.toArray from p') (by omega),RcNeAt.list_tuple p.isList (show s.heap.IsTuple b its'.toArray from p') (by omega)⟩
 | t xs=>
  unfold DatOk at h1
  obtain⟨a,vs,rfl,q,d1⟩:=h1
  cases ru
  obtain⟨its,r,p,_⟩:=I.tuple q
  cases e with
  | f w=>
   unfold DatOk at h2
   obtain⟨rfl,f1⟩:=h2
   have z:=Zep (A:=A) f1 rv (show s.heap.IsTuple a its.toArray from p) (by omega)
   unfold deq
   exact⟨z.2.2.2.1,z.2.2.2.2.2⟩
  | t ys=>
   unfold DatOk at h2
   obtain⟨b,ws,rfl,q',d2⟩:=h2
   cases rv
   obtain⟨its',r',p',_⟩:=I.tuple q'
   unfold deq
   unfold dep at hu
   exact Zl0 (show s.heap.IsTuple a its.toArray from p) (show s.heap.IsTuple b its'.toArray from p') (by rw[←r.length,d1.length]) (by rw[←r'.length,d2.length]) (by omega) fun j j1 j2=>Zdv I xs ys A.in1 vs ws its its' d1 d2 r r' (by show A.units+1+_<_;omega) j j1 j2
  | l ys=>
   unfold DatOk at h2
   obtain⟨b,ws,rfl,q',d2⟩:=h2
   cases rv
   obtain⟨its',r',p',_⟩:=I.list q'
   unfold deq
   exact⟨RcAt.tuple_list (show s.heap.IsTuple a its.toArray from p) p'.isList (by omega),RcNeAt.tuple_list (show s.heap.IsTuple a its.toArray from p) p'.isList (by omega)⟩
end
def rEqD (K:PySem.W.Frag)(neg:Bool):R2:=fun x y H Q=>(scal x y=true∧Q (.bl (if neg then !decide (x=y) else decide (x=y))) H) ∨
 ∃d e,DatOk K H d x∧DatOk K H e y∧¬(Zbb x=true∧Zbb y=true)∧dep d≤60∧Q (.bl (if neg then !deq d e else deq d e)) H
theorem ZjP {X:Cx}(hu:X.A.units+64<cLine):OpR X (compareOp .Eq) (rEqD X.K false):=by
 intro pins s σ H x y v u Q I rx ry h
 rcases h with⟨h1,q⟩|⟨d,e,h1,h2,hn,hd,q⟩
 ·exact ZoN pins s σ H x y v u Q I rx ry ⟨h1,q⟩
 ·exact(ZlZ I h1 h2 rx ry (by omega) hn).1 _ _ _ _ ⟨.bl _,H,I,rfl,q⟩
theorem Zmc {X:Cx}(hu:X.A.units+64<cLine):OpR X (compareOp .NotEq) (rEqD X.K true):=by
 intro pins s σ H x y v u Q I rx ry h
 rcases h with⟨h1,q⟩|⟨d,e,h1,h2,hn,hd,q⟩
 ·exact ZoL pins s σ H x y v u Q I rx ry ⟨h1,q⟩
 ·exact(ZlZ I h1 h2 rx ry (by omega) hn).2 _ _ _ _ ⟨.bl _,H,I,rfl,q⟩
theorem DatOk.same {K:PySem.W.Frag}{H H':Hp}(hl:∀a xs,SqL K H a xs→SqL K H' a xs)(ht:∀a xs,SqT K H a xs→SqT K H' a xs):∀ {d:DT} {v:V},DatOk K H d v→DatOk K H' d v:=by
 have both:∀d:DT,(∀v,DatOk K H d v→DatOk K H' d v):=by
  intro d
  refine DT.rec (motive_1:=fun d=>∀v,DatOk K H d v→DatOk K H' d v) (motive_2:=fun ds=>∀vs,DatsOk K H ds vs→DatsOk K H' ds vs) ?_ ?_ ?_ ?_ ?_ d
  ·intro w v h;unfold DatOk at h ⊢;exact h
  ·intro xs ih v h
   unfold DatOk at h ⊢
   obtain⟨a,vs,e,q,r⟩:=h
   exact⟨a,vs,e,hl a vs q,ih vs r⟩
  ·intro xs ih v h
   unfold DatOk at h ⊢
   obtain⟨a,vs,e,q,r⟩:=h
   exact⟨a,vs,e,ht a vs q,ih vs r⟩
  ·intro vs h;unfold DatsOk at h ⊢;exact h
  ·intro x xs h1 h2 vs h
   unfold DatsOk at h ⊢
   obtain⟨v,r,e,a,b⟩:=h
   exact⟨v,r,e,h1 v a,h2 r b⟩
 exact fun {d v} h=>both d v h
theorem Same.seqT {K:PySem.W.Frag}{H H':Hp}{a:Addr}{xs:List V}(e:Same H H')(h:SqT K H a xs):SqT K H' a xs:=by
 rcases h with (h | ⟨o,h⟩) | h
 ·exact .inl (.inl (e _ _ h))
 ·exact .inl (.inr ⟨o,e _ _ h⟩)
 ·exact .inr h
theorem Same.dat {K:PySem.W.Frag}{H H':Hp}(e:Same H H'){d:DT}{v:V}(h:DatOk K H d v):DatOk K H' d v:=h.same (fun _ _ q=>e.seq q) (fun _ _ q=>e.seqT q)
theorem Zet {K:PySem.W.Frag}{H:Hp}:∀ {vs:List V},vs.all Zbb=true→DatsOk K H (vs.map DT.f) vs
 | [],_=>by unfold DatsOk;rfl
 | v::r,h=>by
  rw[List.all_cons,YAT]at h
  rw[YAg]
  unfold DatsOk
  exact⟨v,r,rfl,by unfold DatOk;exact⟨rfl,h.1⟩,Zet h.2⟩
theorem Zfj (vs:List V):deps (vs.map DT.f)=0:=by
 induction vs with
 | nil=>rfl
 | cons v r ih=>rw[YAg];unfold deps;rw[ih];rfl
theorem Zj0 (a b:List Nat):eqV (tx a) (tx b)=decide (tx a=tx b):=by
 rw[Zdy]
 show ((⟨a.toArray⟩:Str) == ⟨b.toArray⟩)=_
 by_cases h:a=b
 ·subst h;simp
 ·rw[decide_eq_false h]
  exact beq_eq_false_iff_ne.mpr fun z=>h (ZdJ.mp (congrArg V.str z))
theorem datL {K:PySem.W.Frag}{H:Hp}{a:Addr}{vs:List V}(h:SqL K H a vs)(hf:vs.all Zbb=true):DatOk K H (.l (vs.map DT.f)) (.ref a):=by
 unfold DatOk
 exact⟨a,vs,rfl,h,Zet hf⟩
theorem datT {K:PySem.W.Frag}{H:Hp}{a:Addr}{vs:List V}(h:SqT K H a vs)(hf:vs.all Zbb=true):DatOk K H (.t (vs.map DT.f)) (.ref a):=by
 unfold DatOk
 exact⟨a,vs,rfl,h,Zet hf⟩
theorem datF {K:PySem.W.Frag}{H:Hp}{v:V}(hf:Zbb v=true):DatOk K H (.f v) v:=by
 unfold DatOk
 exact⟨rfl,hf⟩
end L2
namespace L2
open PySem PySem.Spec PyProof.Rows
open PySem.W (Frag findIn specialIn typeIn mroIn clsIn InstAt Looks)
def ZeA:List Value:=[.type "ValueError",.type "Exception",.type "BaseException",.type "object"]
def ZjU:Value→Bool
 | .ref _=>true
 | _=>false
def xmro (l:List Value):Bool:=l.dropWhile ZjU == ZeA
theorem Zd4 {P:List Value→Prop}(h0:P ZeA)(h1:∀c r,P r→P (.ref c::r)):∀l:List Value,xmro l=true→P l
 | [],e=>by simp[xmro,ZeA]at e
 | v::r,e=>by
  cases hv:ZjU v with
  | true=>
   cases v with
   | ref c=>
    refine h1 c r (Zd4 h0 h1 r ?_)
    unfold xmro at e ⊢
    rw[List.dropWhile_cons,YAO hv]at e
    exact e
   | _=>cases hv
  | false=>
   unfold xmro at e
   rw[List.dropWhile_cons,YAJ (by rw[hv];exact YAE)]at e
   rw[show (v::r)=ZeA by simpa using e]
   exact h0
theorem Zhz (self:Value):refuseLoop self "__setattr__" ZeA=pure ():=by
 first | rfl | kernel_rfl
theorem ZiS (self:Value){l:List Value}(e:xmro l=true):refuseLoop self "__setattr__" l=pure ():=
 Zd4 (P:=fun l=>refuseLoop self "__setattr__" l=pure ()) (Zhz self) (fun c r h=>by rw[refuseLoop_ref];exact h) l e
theorem ZbX {n:String}{b:Bool}(h:ZeA.contains (.type n)=b){l:List Value}(e:xmro l=true):l.contains (.type n)=b:=
 Zd4 (P:=fun l=>l.contains (.type n)=b) h (fun c r h=>by rw[YCF,h];rfl) l e
structure Xc (K:Frag)(C:Addr):Prop where
 ga:findIn K (.ref C) "__getattribute__"=some (some (.builtin "BaseException.__getattribute__"))
 gr:findIn K (.ref C) "__getattr__"=some none
 sa:findIn K (.ref C) "__setattr__"=some (some (.builtin "object.__setattr__"))
 hd:PySem.W.hasDictIn K C=true
 mr:(clsIn K C).any (fun cd=>xmro cd.mro)=true
theorem Zhf {l:List Value}(e:xmro l=true):l.isEmpty=false:=by
 cases l with
 | nil=>simp[xmro,ZeA]at e
 | cons _ _=>rfl
theorem Xc.base {K:Frag}{C:Addr}(c:Xc K C){n:String}{b:Bool}(h:ZeA.contains (.type n)=b):mroIn K C (.type n)=some b:=by
 obtain⟨cd,hc,hm⟩:=YCS c.mr
 unfold PySem.W.mroIn
 rw[hc,YCT,YAJ (by rw[Zhf hm];exact YAE),ZbX h hm]
def xo (a C:Addr)(d:Option Addr):HO:=.ext fun h=>∃(o:Obj) (t:Addr),h.get? a=some o∧o.cls=.ref C∧o.dict=d∧o.data=.fields #[.ref t,.none,.none,.none,.bool false,.none]
def xdO (d:Addr)(fs:List (Str×V)):HO:=.ext fun h=>fs.length≤1000∧∃mA,h.Ns1 d mA∧(∀f,RelO (fs.lookup f) (mA f))∧PySem.Within mA (fs.map (·.1))
inductive XAt (H:Hp) (e C:Addr):List (Str×V)→Prop where
 | bare:H e=some (xo e C none)→XAt H e C []
 | full {d:Addr} {fs:List (Str×V)}:H e=some (xo e C (some d))→H d=some (xdO d fs)→d≠e→XAt H e C fs
theorem Zlw {H:Hp}{a:Addr}{o:HO}(h:H a=some o):upd H a o=H:=by
 funext b
 unfold upd
 by_cases hb:b=a
 ·rw[YAO hb,hb,h]
 ·rw[YAJ hb]
theorem XAt.same {H H':Hp}{e C:Addr}{fs:List (Str×V)}(x:XAt H e C fs)(s:Same H H'):XAt H' e C fs:=by
 cases x with
 | bare h=>exact .bare (s _ _ h)
 | full h1 h2 h3=>exact .full (s _ _ h1) (s _ _ h2) h3
section
variable {X:Cx}{pins:List (Addr×Obj)}{σ:St}{H:Hp}{s:Shared}{e C:Addr}{fs:List (Str×V)}{f:Str}{v:V}{A:Around}{E:Value→Shared→Prop}
theorem ZcI {d:Option Addr}(I:Inv X pins σ H s)(h:H e=some (xo e C d)):∃(o:Obj) (t:Addr),s.heap.get? e=some o∧o.cls=.ref C∧o.dict=d∧o.data=.fields #[.ref t,.none,.none,.none,.bool false,.none]:=(I.hok e _ h).1
theorem Zj7 {P:Program}{w:World}{H:Hp}{h:Heap}{d:Option Addr}{o:Obj}{t:Addr}(h1:h.get? e=some o)(h2:o.cls=.ref C)(h3:o.dict=d)(h4:o.data=.fields #[.ref t,.none,.none,.none,.bool false,.none]):ObjOk P w H h e (xo e C d):=
 ⟨⟨o,t,h1,h2,h3,h4⟩,⟨o,h1⟩,fun a b ⟨o,t,q1,q⟩ k=>⟨o,t,k o q1,q⟩⟩
theorem Zhg {P:Program}{w:World}{H:Hp}{h:Heap}{d:Addr}{mA:Str→Option Value}(hz:fs.length≤1000)(h1:h.Ns1 d mA)(h2:∀f,RelO (fs.lookup f) (mA f))(h3:PySem.Within mA (fs.map (·.1))):ObjOk P w H h d (xdO d fs):=by
 obtain⟨o,es,ep,ho,r⟩:=id h1
 refine⟨⟨hz,mA,h1,h2,h3⟩,⟨o,ho⟩,fun a b ⟨hz,m,⟨o,es,ep,q,r⟩,z⟩ k=>⟨hz,m,⟨o,es,ep,k o q,r⟩,z⟩⟩
theorem XAt.inst (I:Inv X pins σ H s)(x:XAt H e C fs):∃(ox:Obj) (od:Option Obj),InstAt s.heap e ox C od∧∀name,∃r,(match od with | some o=>PySem.W.lookIn name o | none=>some none)=some r∧RelO (fs.lookup name) r:=by
 cases x with
 | bare h=>
  obtain⟨o,t,h1,h2,h3,h4⟩:=ZcI I h
  exact⟨o,none,⟨h1,h2,by unfold PySem.W.notCls;rw[h4],by rw[h3];trivial⟩,fun name=>⟨none,rfl,by trivial⟩⟩
 | @full d _ h h' hne=>
  obtain⟨o,t,h1,h2,h3,h4⟩:=ZcI I h
  obtain⟨⟨_,mA,hn,hr,_⟩,_⟩:=I.hok d _ h'
  obtain⟨od,hod,hl⟩:=Zdn hn
  exact⟨o,some od,⟨h1,h2,by unfold PySem.W.notCls;rw[h4],by rw[h3];exact hod⟩,fun name=>⟨mA name,hl name,hr name⟩⟩
theorem Zfh:entryFor table "BaseException.__getattribute__"=some Builtin.«object.__getattribute__»:=F.entry_bexc_ga
theorem ZgC {K:Frag}{x:Addr}{ox:Obj}{od:Option Obj}{name:Str}{expr:Bool}{u:Value}{prog:Program}{w:World}{Q:Value→Shared→Prop}(KX:K.In s.heap)(I:InstAt s.heap x ox C od)(c:Xc K C)
  (hf:PySem.W.findObj K C od name=some (.value u)) (hh:PySem.W.handedIn u=true) (h:Q u { s with toks:=s.toks+1 }):wpAny (model prog w) A (getAttr (.ref x) name expr) Q E s:=by
 obtain⟨hp,g,d,t,os⟩:=s
 have L0:=I.type (M:=model prog w)
 have L1:=YBh (M:=model prog w) KX c.ga
 have L2:=YBh (M:=model prog w) KX c.gr
 have L3:=PySem.W.looks_find (M:=model prog w) KX I hf
 have L4:=YDU (M:=model prog w) KX (c.base (n:="BaseException") (b:=true) (by decide +kernel))
 have hx2:(Value.builtin "BaseException.__getattribute__" == Value.builtin "object.__getattribute__")=false:=by decide +kernel
 have slot:=F.excAttr_ValueError.ga
 unfold getAttr getAttrBy
 refine YAA (wpAny_mkText (YAy (YAA (L0.at (YAA (L1.at ?_))))))
 dsimp only
 rw[hx2,YCY,YAJ YAE]
 unfold getAttrByItsOwn hookBefore
 refine YAA ?_
 show wpAny _ _ (if onTheHeap (Value.ref C)=true then typeLookup (.ref C) "__getattr__" else pure none) _ _ _
 rw[YAO (show onTheHeap (Value.ref C)=true from rfl)]
 refine L2.at (YAA (YCC (YAy ?_)))
 unfold callGetattribute
 rw[show (expr&&onTheHeap (Value.builtin "BaseException.__getattribute__"))=false from YCY _,YAJ YAE]
 unfold boundAndCalled
 rw[slot.bind]
 refine YAA (YAC ?_)
 show wpAny _ _ (call (.builtin "BaseException.__getattribute__") [.ref x,.str name t]) _ _ _
 refine YCJ (codeAny_call_builtin slot.plain Zfh ?_)
 refine @PySem.W.check_slot (model prog w) _ _ ⟨hp,g,d,t+1,os⟩ "BaseException.__getattribute__" "BaseException" "__getattribute__" (.ref x) [.str name t] [] _ (by decide +kernel) (by decide +kernel) (L0.andThen L4) (F.args_bexc_ga (.ref x) (.str name t)) ?_
 refine YAA (YAC (YAA (YAC (YAA (L0.at (YAA (L3.at (YAC ?_))))))))
 show wpAny _ _ (handedOut u) _ _ _
 rw[PySem.W.handedOut_of hh]
 exact YAC h
theorem xset {y:V}{u:Value}{Q:Unit→Shared→Prop}(I:Inv X pins σ H s)(x:XAt H e C fs)(c:Xc X.K C)(n:NoAttr X.K C f)(hz:fs.length<1000)(ry:RelV y u)
  (h:∀s' H',Inv X pins σ H' s'→XAt H' e C (putF f y fs)→(∀b o,H b=some o→b≠e→(∀d,H e=some (xo e C (some d))→b≠d)→H' b=some o) →
   (∃d,H' e=some (xo e C (some d))∧(H e=some (xo e C (some d))∨H d=none))→Q () s'):wpAny (model X.prog X.w) A (setAttr (.ref e) f u) Q E s:=by
 obtain⟨ox,od,J,hr⟩:=x.inst I
 obtain⟨cd,hc,hd'⟩:=YCS c.hd
 obtain⟨cd',hc2,hm⟩:=YCS c.mr
 rw[hc]at hc2;cases hc2
 refine PySem.W.set_plain I.kIn J c.sa ?_
 have SF:=PySem.F.store_object
 have hne:=Zhf hm
 have KX:X.K.In ({ s with toks:=s.toks+1 }:Shared).heap:=I.kIn
 have J1:InstAt ({ s with toks:=s.toks+1 }:Shared).heap e ox C od:=J
 have L1:Looks (model X.prog X.w) s.heap (mroOf (.ref C)) cd.mro:=(PySem.W.looks_clsIn I.kIn hc).andThen .now
 have sub:Looks (model X.prog X.w) s.heap (isInstance (.ref e) (.type "object")) true:=J.type.andThen (YDU I.kIn (c.base (n:="object") (b:=true) (by decide +kernel)))
 refine codeAny_call_builtin SF.slot.plain SF.entry (@PySem.W.check_slot (model X.prog X.w) _ _ { s with toks:=s.toks+1 } "object.__setattr__" "object" "__setattr__" (.ref e) [.str f s.toks,u] [] _ SF.kind SF.split sub (SF.args (.ref e) (.str f s.toks) u) ?_)
 rw[PySem.W.osa_eq,refuse_eq]
 refine YAA (YAA (Looks.here (s:={ s with toks:=s.toks+1 }) J.type (YAA (Looks.here (s:={ s with toks:=s.toks+1 }) L1 ?_))))
 rw[ZiS _ hm]
 refine YAC (YAA (Looks.here (s:={ s with toks:=s.toks+1 }) J.type (YAA (Looks.here (s:={ s with toks:=s.toks+1 }) (YBh I.kIn n) (YAA (YAC ?_))))))
 dsimp only
 refine YAA (YAC (YAA (YAA ?_)))
 have LC:=PySem.W.looks_clsIn (M:=model X.prog X.w) I.kIn hc
 cases x with
 | bare hb=>
  obtain⟨o,t,h1,h2,h3,h4⟩:=ZcI I hb
  obtain⟨oc,odi,oda,osl⟩:=o
  dsimp only at h2 h3 h4
  subst h2 h3 h4
  refine wpAny_loadPart h1 (YAA (Looks.here (s:={ s with toks:=s.toks+1 }) LC ?_))
  rw[hd']
  refine YAA (wpAny_alloc (YAA (wpAny_update (YAB _ h1) (YAC ?_))))
  dsimp only
  refine YAA (YAC (YAA ?_))
  have hlt:e<s.heap.objs.size:=YAG h1
  have hfr:=I.fresh
  have hed:s.heap.objs.size≠e:=YCv hlt
  have ee:(s.heap.push PySem.W.emptyDict).get? s.heap.objs.size=some PySem.W.emptyDict:=YAF s.heap rfl
  have e2:((s.heap.push PySem.W.emptyDict).update e fun o=>{ o with dict:=some s.heap.objs.size }).get? e=some ⟨.ref C,some s.heap.objs.size,.fields #[.ref t,.none,.none,.none,.bool false,.none],osl⟩:=YBR _ (YAB _ h1) rfl
  have e3:((s.heap.push PySem.W.emptyDict).update e fun o=>{ o with dict:=some s.heap.objs.size }).get? s.heap.objs.size=some PySem.W.emptyDict:=by
   rw[YBC _ _ (YAw hed)];exact ee
  have ns:((s.heap.push PySem.W.emptyDict).update e fun o=>{ o with dict:=some s.heap.objs.size }).Ns s.heap.objs.size (fun _=>none):=⟨PySem.W.emptyDict,#[],_,e3,rfl,(fun e he=>absurd he (by simp)),fun _=>rfl⟩
  have ns1:=Heap.Ns1.of_empty ns
  have I1:=I.laid (a:=s.heap.objs.size) (o:=xdO s.heap.objs.size []) (h':=s.heap.push PySem.W.emptyDict) (t':=s.toks+1) (fun b u q=>YAB _ q) (YAP _)
   (Zhg (fs:=[]) (YBI _) (Heap.Ns1.of_empty (h:=s.heap.push PySem.W.emptyDict) ⟨PySem.W.emptyDict,#[],_,ee,rfl,(fun e he=>absurd he (by simp)),fun _=>rfl⟩) (fun _=>by trivial) (fun y hy=>absurd rfl hy))
  have I2:=I1.write (x:=e) (e:=e) (o:=xo e C (some s.heap.objs.size)) (h':=(s.heap.push PySem.W.emptyDict).update e fun o=>{ o with dict:=some s.heap.objs.size }) (t':=s.toks+1)
   (by rw[Zaf (YAw hed),hb];exact trivial) (.inl rfl) (fun b u hbe q=>by rw[YBC _ _ (YAw hbe)];exact q) ⟨_,e2⟩ (Zj7 e2 rfl rfl rfl)
  refine wpAny_nsSet1 (s:={ s with heap:=(s.heap.push PySem.W.emptyDict).update e fun o=>{ o with dict:=some s.heap.objs.size },toks:=s.toks+1 }) ns1 fun h' hn2 hs2=>?_
  have hw:PySem.Within (fun x=>if x=f then some u else none) [f]:=fun z hz=>by
   by_cases q:z=f
   ·rw[q];exact YAd
   ·exact absurd (YAJ q) hz
  obtain⟨oD,esD,epD,hoD,hdD,hcD⟩:=hn2.count hw
  refine YAA (wpAny_lookBehind hoD (by rw[hdD];exact pastItsLine_dict (YAQ hcD (by rw[YAu,sizeLine_eq];decide))) ?_)
  refine YAC (h _ _ (I2.write (x:=s.heap.objs.size) (e:=s.heap.objs.size) (o:=xdO s.heap.objs.size [(f,y)]) (h':=h') (t':=s.toks+1+1) ?_ (.inl rfl) (fun b u' hb' q=>(hs2.2 b hb').trans q) ⟨oD,hoD⟩ (Zhg (by show 1≤1000;decide) hn2 ?_ hw)) ?_ ?_ ⟨_,(by rw[Zaf (YAw hed),Zae]),.inr hfr⟩)
  ·rw[Zaf hed,Zae];exact trivial
  ·intro g
   show RelO (List.lookup g [(f,y)]) (if g=f then some u else none)
   by_cases q:g=f
   ·rw[YAO q,q];simp[YBD];exact ry
   ·have hbq:(g == f)=false:=by simpa using q
    rw[YAJ q];simp[YBD,hbq];trivial
  ·refine .full (d:=s.heap.objs.size) (by rw[Zaf (YAw hed),Zae]) ?_ hed
   rw[Zae];rfl
  ·intro b o' hb' hbe _
   have nb:b≠s.heap.objs.size:=Zan hb' hfr
   rw[Zaf nb,Zaf hbe,Zaf nb]
   exact hb'
 | @full d _ hb hd2 hne2=>
  obtain⟨o,t,h1,h2,h3,h4⟩:=ZcI I hb
  obtain⟨oc,odi,oda,osl⟩:=o
  dsimp only at h2 h3 h4
  subst h2 h3 h4
  obtain⟨⟨hz',mA,hn,hr',hw⟩,_⟩:=I.hok d _ hd2
  refine wpAny_loadPart h1 (YAA (Looks.here (s:={ s with toks:=s.toks+1 }) LC ?_))
  rw[hd']
  refine YAC ?_
  dsimp only
  refine YAA (YAC (YAA ?_))
  refine wpAny_nsSet1 (s:={ s with toks:=s.toks+1 }) hn fun h' hn2 hs2=>?_
  obtain⟨oD,esD,epD,hoD,hdD,hcD⟩:=hn2.count (PySem.Within.cons f u hw)
  refine YAA (wpAny_lookBehind hoD (by rw[hdD];exact pastItsLine_dict (YAQ hcD (by rw[YAp,YAD,sizeLine_eq];omega))) ?_)
  refine YAC (h _ _ (I.write (x:=d) (e:=d) (o:=xdO d (putF f y fs)) (h':=h') (t':=s.toks+1+1) (by rw[hd2];exact trivial) (.inl rfl) (fun b u' hb' q=>(hs2.2 b hb').trans q) ⟨oD,hoD⟩ (Zhg ?_ hn2 ?_ ?_)) ?_ ?_ ⟨d,(by rw[Zaf (YAw hne2)];exact hb),.inl hb⟩)
  ·have:=Zcb f y fs;omega
  ·intro g
   show RelO ((putF f y fs).lookup g) (if g=f then some u else mA g)
   rw[Zaq]
   by_cases q:g=f
   ·rw[YAO q,YAO q];exact ry
   ·rw[YAJ q,YAJ q];exact hr' g
  ·intro g hg
   by_cases q:g=f
   ·rw[q];exact(ZbS f y fs).1
   ·refine(ZbS f y fs).2 g (hw g fun z=>hg ?_)
    show (if g=f then some u else mA g)=none
    rw[YAJ q];exact z
  ·exact .full (d:=d) (by rw[Zaf (YAw hne2)];exact hb) Zae hne2
  ·intro b o' hb' hbe hbd
   rw[Zaf (hbd d hb)]
   exact hb'
end
abbrev xraw (C t:Addr):Obj:={ cls:=.ref C,data:=.fields #[.ref t,.none,.none,.none,.bool false,.none] }
abbrev tupO (vs:List Value):Obj:={ cls:=.type "tuple",data:=.seq vs.toArray }
structure Xm (K:Frag)(C:Addr):Prop where
 c:Xc K C
 ob:∃(nm q:Str) (N:Addr) (bs bm:List Value) (hdct:Bool) (sn:List Str) (sub:List Value) (ab:Bool) (col:Option Bool) (dd:Option Addr) (k0 k1 k2 k3 k5:Option Value),
  K.lookup C=some (excClassObj nm q C N bs bm hdct sn sub ab col dd k0 k1 k2 k3 k5 "ValueError.__new__")
 kp:PySem.W.keepIn K (.ref C)=true
section
variable {prog:Program}{w:World}{A:Around}{E:Value→Shared→Prop}{h:Heap}{g:Array GenState}{d:Drawn}{t:Nat}{os:OsState}{K:Frag}
variable {nm q:Str}{C N:Addr}{bs bm:List Value}{hdct:Bool}{sn:List Str}{sub:List Value}{ab:Bool}{col:Option Bool}{dd:Option Addr}{k0 k1 k2 k3 k5:Option Value}
theorem ZgB {M:Model} {rest:List Value} {Q:Unit→Shared→Prop} (hx:xmro (.ref C::bm)=true) (hC:h.get? C=some (excClassObj nm q C N bs bm hdct sn sub ab col dd k0 k1 k2 k3 k5 "ValueError.__new__"))
  (hq:Q () ⟨h,g,d,t,os⟩):wpAny M A (checkBuiltinCall "ValueError.__new__" ⟨.ref C::rest,[]⟩) Q E ⟨h,g,d,t,os⟩:=by
 have Fn:=YDL
 have hcB:=ZbX (n:="ValueError") (b:=true) (by decide +kernel) hx
 have hstar:=Fn.noStar
 simp only[checkBuiltinCall,Fn.newKind,Fn.newSplit,Fn.newRow]
 repeat (first | refine YBV hC ?_ | (refine YCt hC ?_;rw[hcB]) | refine wpAny_staticBase_exc hC ?_ | refine wpAny_madeBy_exc hC ?_ | simp only[bne_self_eq_false,YBq,if_false] | wp_step)
 exact hq
theorem xnew {R:Result→Shared→Prop} {rest:List Value} (hx:xmro (.ref C::bm)=true) (hC:h.get? C=some (excClassObj nm q C N bs bm hdct sn sub ab col dd k0 k1 k2 k3 k5 "ValueError.__new__"))
  (hq:R (.ok (.ret (.ref (h.objs.size+1)))) ⟨(h.push (tupO rest)).push (xraw C h.objs.size),g,d,t,os⟩) (hrest:rest.length≤sizeLine):
  codeAny (model prog w) A (.builtin "ValueError.__new__" ⟨.ref C::rest,[]⟩) R ⟨h,g,d,t,os⟩:=by
 have Fn:=YDL
 have hends:=Fn.ends
 have hcB:=ZbX (n:="ValueError") (b:=true) (by decide +kernel) hx
 have hcA:=ZbX (n:="AttributeError") (b:=false) (by decide +kernel) hx
 have hcN:=ZbX (n:="NameError") (b:=false) (by decide +kernel) hx
 refine codeAny_builtinAt Fn.entry ?_
 unfold Builtin.«BaseException.__new__»
 refine PySem.wpAt_bind ?_
 show PySem.wpAt _ _ _ (stack >>= _) _ _ _
 refine PySem.wpAt_bind (PySem.wpAt_stack fun p below=>PySem.wpAt_of_wpAny ?_)
 wp_walk
 refine PySem.wpAt_of_wpAny ?_
 rw[Fn.owner]
 repeat (first | with_reducible refine wpAny_madeHere_exc Fn.canon hC ?_ | with_reducible refine YBV hC ?_ | (with_reducible refine YCt hC ?_;first | rw[hcB] | rw[hcA] | rw[hcN]) | wp_step)
 show R _ _
 rw[YAs]
 exact hq
theorem Zlv {R:Result→Shared→Prop} {rest:List Value} {init:Value} (KX:K.In h) (hx:xmro (.ref C::bm)=true) (hC:h.get? C=some (excClassObj nm q C N bs bm hdct sn sub ab col dd k0 k1 k2 k3 k5 "ValueError.__new__"))
  (hi:Looks (model prog w) h (typeLookup (.ref C) "__init__") (some init)) (hb:∀self,Looks (model prog w) h (bindSpecial init self) (init,[self])) (hrest:rest.length≤sizeLine)
  (hq:codeAny (model prog w) (A.under (.builtin "type.__call__" ⟨.ref C::rest,[]⟩)) (.call init ⟨.ref (h.objs.size+1)::rest,[]⟩) (PySem.W.InitBack (h.objs.size+1) R) ⟨(h.push (tupO rest)).push (xraw C h.objs.size),g,d,t,os⟩):
  codeAny (model prog w) A (.call (.ref C) ⟨rest,[]⟩) R ⟨h,g,d,t,os⟩:=by
 have f1:=tc_lookup
 have f2:=tc_bind (.ref C)
 have hT:(⟨h,g,d,t,os⟩:Shared).TypeIs (.ref C) "type":=⟨_,hC,rfl⟩
 have Fn:=YDL
 refine codeAny_of_tree ?_
 show wpAny _ _ (callAny (.ref C) _) _ _ _
 repeat (any_goals (first | assumption | with_reducible refine YBV hC ?_ | wp_step))
 refine⟨rfl,?_⟩
 refine codeAny_call_builtin_at (Code.quiet_builtin _ (by decide +kernel)) entry_typeCall (wpAny_check_type_call_sub hC ?_)
 repeat (first | with_reducible refine YBV hC ?_ | with_reducible refine wpAny_madeBy_exc hC ?_ | wp_step)
 refine codeAny_call_builtin_code (Code.quiet_builtin _ Fn.quiet) (ZgB hx hC ?_)
 refine xnew hx hC ?_ hrest
 show wpAny _ _ _ _ _ _
 have k:∀b o,h.get? b=some o→((h.push (tupO rest)).push (xraw C h.objs.size)).get? b=some o:=fun b o e=>YAB _ (YAB _ e)
 have hC1:=k _ _ hC
 have hget:((h.push (tupO rest)).push (xraw C h.objs.size)).get? (h.objs.size+1)=some { cls:=.ref C,data:=.fields #[.ref h.objs.size,.none,.none,.none,.bool false,.none] }:=by heap_get
 have hcC:(Value.ref C::bm).contains (.ref C)=true:=by simp
 have i1:=hi.keeps k
 have b1:=(hb (.ref (h.objs.size+1))).keeps k
 have t1:Looks (model prog w) ((h.push (tupO rest)).push (xraw C h.objs.size)) (typeOf (.ref (h.objs.size+1))) (.ref C):=(Looks.ld hget).andThen .now
 unfold isInstance
 repeat (first | with_reducible refine YBV hget ?_ | (with_reducible refine YCt hC1 ?_;rw[hcC]) | wp_step)
 refine YCt hC1 ?_
 rw[hcC]
 repeat (first | with_reducible refine YBV hget ?_ | wp_step)
 show wpAny _ _ (typeLookup (.ref C) _) _ _ _
 refine i1.at (YAy (YAA (b1.at ?_)))
 refine YAA (YCJ ?_)
 refine codeAny_mono hq fun r s' z=>?_
 rcases r with e | (v | _ | _ | _)<;>first | exact z | exact z.elim | skip
 obtain⟨rfl,z⟩:=z
 exact YAC (YAC z)
end
section
variable {X:Cx}{pins:List (Addr×Obj)}{σ:St}{H:Hp}{s:Shared}{C:Addr}{us:List Value}{vs:List V}{Q:VK}
theorem Inv.xmade (I:Inv X pins σ H s):Inv X pins σ (upd H (s.heap.objs.size+1) (xo (s.heap.objs.size+1) C none)) { s with heap:=(s.heap.push (tupO us)).push (xraw C s.heap.objs.size) }:=by
 have I1:Inv X pins σ H { s with heap:=s.heap.push (tupO us) }:=I.kept (t':=s.toks) fun b o e=>YAB _ e
 have e2:((s.heap.push (tupO us)).push (xraw C s.heap.objs.size)).get? (s.heap.objs.size+1)=some (xraw C s.heap.objs.size):=by
  have:=YAF (s.heap.push (tupO us)) (o:=xraw C s.heap.objs.size) rfl
  rwa [YAs]at this
 exact I1.laid (a:=s.heap.objs.size+1) (t':=s.toks) (fun b u q=>YAB _ q) (YCQ (YAs _ _)) (Zj7 e2 rfl rfl rfl)
theorem Zey {e:Addr}{d:Option Addr}{R:Result→Shared→Prop}(I:Inv X pins σ H s)(m:Xm X.K C)(hx:H e=some (xo e C d))(hz:us.length≤sizeLine)(A:Around)
    (h:∀s',Inv X pins σ H s'→R (.ok (.ret .none)) s'):codeAny (model X.prog X.w) A (.call (.builtin "ValueError.__init__") ⟨.ref e::us,[]⟩) R s:=by
  have Fn:=YDL
  have c:=m.c
  obtain⟨nm,qn,N,bs,bm,hdct,sn,sub,ab,col,dd,k0,k1,k2,k3,k5,lC⟩:=m.ob
  have hC:=I.kIn _ _ lC
  obtain⟨o,t,h1,h2,h3,h4⟩:=ZcI I hx
  obtain⟨oc,od,oda,osl⟩:=o
  dsimp only at h2 h3 h4
  subst h2 h3 h4
  have L:Looks (model X.prog X.w) s.heap (isInstance (.ref e) (.type "ValueError")) true:=((Looks.ld h1).andThen .now).andThen (YDU I.kIn (c.base (n:="ValueError") (b:=true) (by decide +kernel)))
  obtain⟨hp,g,dr,tk,os⟩:=s
  refine codeAny_call_builtin Fn.init.plain Fn.initEntry ?_
  have hshort:=Fn.noStar
  simp only[checkBuiltinCall,Fn.initKind,Fn.initSplit,Fn.initRow]
  refine YAA (L.at ?_)
  simp only[Bool.not_true,YBq,if_false]
  have fin:wpAny (model X.prog X.w) A.in1 (Builtin.«BaseException.__init__» ⟨.ref e::us,[]⟩) (fun fin s'=>match fin with | .done f=>R (.ok f) s' | .again c'=>c'.quiet=true∧codeAny (model X.prog X.w) A c' R s') (fun e s'=>R (.error e) s') ⟨hp,g,dr,tk,os⟩:=by
    have hlt:e<hp.objs.size:=YAG h1
    wp_walk
    refine h _ ?_
    have I1:Inv X pins σ H { (⟨hp,g,dr,tk,os⟩:Shared) with heap:=hp.push (tupO us) }:=I.kept (t':=tk) fun b o e=>YAB _ e
    have e2:=YBR (Obj.mapFields (·.setIfInBounds 0 (Value.ref hp.objs.size))) (YAB (h:=hp) (tupO us) h1) rfl
    have I2:=I1.write (x:=e) (e:=e) (o:=xo e C od) (h':=(hp.push (tupO us)).update e (Obj.mapFields (·.setIfInBounds 0 (Value.ref hp.objs.size)))) (t':=tk) (by rw[hx];exact trivial) (.inl rfl)
      (fun b u hb q=>by rw[YBC _ _ (YAw hb)];exact q) ⟨_,e2⟩ (Zj7 e2 rfl rfl rfl)
    rw[Zlw hx]at I2
    exact I2
  repeat (first | with_reducible refine YBV hC ?_ | (with_reducible refine wpAny_load hC ?_) | with_reducible refine YBV h1 ?_ | wp_step)
  first
    | (refine wpAny_onRaise ?_
       rw[show ∀(a b:String) (n:Nat),Bind.check ⟨.positional,"*","ValueError",.self,[⟨"args",.varPos,false⟩]⟩ a b n (List.map (fun x=>x.fst) ({ pos:=Value.ref e::us }:Args).kw)=pure () from fun a b n=>check_star_args _ _ _ _ _ _]
       exact YAC fin)
    | skip
end
structure Xi (K:Frag)(C:Addr):Prop where
 c:Xc K C
 ha:findIn K (.ref C) "__class__"=some (some (.builtin "object.__class__"))
 hn:specialIn K (.builtin "object.__class__") "__get__"=some (some (.builtin "getset_descriptor.__get__"))
 htk:PySem.W.takesIn K (.builtin "object.__class__")=some true
section
variable {K:Frag}{x C:Addr}{ox:Obj}{od:Option Obj}{prog:Program}{w:World}{A:Around}{E:Value→Shared→Prop}{s:Shared}
theorem Zlu {Q:Option Value→Shared→Prop}(i:Xi K C)(KX:K.In s.heap)(I:InstAt s.heap x ox C od)(h:Q (some (.ref C)) { s with toks:=s.toks+1 }):wpAny (model prog w) A (getAttr? (.ref x) "__class__") Q E s:=by
 have c:=i.c
 have hf:PySem.W.findObj K C od "__class__"=some (.bind (.builtin "getset_descriptor.__get__") (.builtin "object.__class__")):=by
  obtain⟨cd,hc,_⟩:=YCS c.hd
  unfold PySem.W.findObj
  rw[hc,i.ha]
  simp only[YCT,i.hn,i.htk]
 obtain⟨hp,g,d,t,os⟩:=s
 have L0:=I.type (M:=model prog w)
 have L1:=YBh (M:=model prog w) KX c.ga
 have L2:=YBh (M:=model prog w) KX c.gr
 have L3:=PySem.W.looks_find (M:=model prog w) KX I hf
 have L4:=YDU (M:=model prog w) KX (c.base (n:="BaseException") (b:=true) (by decide +kernel))
 have hm:=c.base (n:="object") (b:=true) (by decide +kernel)
 have hx2:(Value.builtin "BaseException.__getattribute__" == Value.builtin "object.__getattribute__")=false:=by decide +kernel
 have slot:=F.excAttr_ValueError.ga
 unfold getAttr? getAttrBy?
 refine YAA (wpAny_mkText (YAA (YCC ?_)))
 unfold getAttrBy
 refine YAy (YAA (L0.at (YAA (L1.at ?_))))
 dsimp only
 rw[hx2,YCY,YAJ YAE]
 unfold getAttrByItsOwn hookBefore
 refine YAA ?_
 show wpAny _ _ (if onTheHeap (Value.ref C)=true then typeLookup (.ref C) "__getattr__" else pure none) _ _ _
 rw[YAO (show onTheHeap (Value.ref C)=true from rfl)]
 refine L2.at (YAA (YCC (YAy ?_)))
 unfold callGetattribute
 rw[show (false&&onTheHeap (Value.builtin "BaseException.__getattribute__"))=false from rfl,YAJ YAE]
 unfold boundAndCalled
 rw[slot.bind]
 refine YAA (YAC ?_)
 show wpAny _ _ (call (.builtin "BaseException.__getattribute__") [.ref x,.str "__class__" t]) _ _ _
 refine YCJ (codeAny_call_builtin slot.plain Zfh ?_)
 refine @PySem.W.check_slot (model prog w) _ _ ⟨hp,g,d,t+1,os⟩ "BaseException.__getattribute__" "BaseException" "__getattribute__" (.ref x) [.str "__class__" t] [] _ (by decide +kernel) (by decide +kernel) (L0.andThen L4) (F.args_bexc_ga (.ref x) (.str "__class__" t)) ?_
 refine YAA (YAC (YAA (YAC (YAA (L0.at (YAA (L3.at ?_)))))))
 show wpAny _ _ (holding [.builtin "object.__class__"] (call (.builtin "getset_descriptor.__get__") [.builtin "object.__class__",.ref x,.ref C]) >>= ret) _ _ _
 refine YAA (YAy (YCJ (PySem.W.class_get (s:=⟨hp,g,d,t+1,os⟩) (ox:=ox) (od:=od) KX I hm (YAC ?_))))
 exact PySem.W.handed_on rfl (YAC h)
theorem Zei (i:Xi K C):PySem.W.KitX K (.ref x) (.ref C) (fun h=>InstAt h x ox C od) where
 ty:=fun _ _ _ I=>I.type
 it:=fun _ _ KX _=>by
  obtain⟨cd,hc,_⟩:=YCS i.c.hd
  unfold PySem.W.clsIn at hc
  split at hc
  ·rename_i ho
   intro A' Q' E' s' k q
   unfold isType loadHead
   exact YAA (wpAny_loadPart (k _ _ (KX _ _ ho)) (YAC q))
  ·cases hc
 ne:=fun h tp dd its n sl KX htp=>by
  obtain⟨cd,hc,_⟩:=YCS i.c.hd
  refine YBu.mpr fun q=>?_
  have e:C=tp:=Value.ref.inj (beq_iff_eq.mp q)
  subst e
  unfold PySem.W.clsIn at hc
  split at hc
  ·rename_i ho
   have z:=(KX _ _ ho).symm.trans htp
   cases z
  ·cases hc
 ca:=fun KX I k=>Zlu i KX I k
end
inductive TyX (K:Frag) (H:Hp):V→Value→Prop where
 | pl {x:V} {t:Value} (h:TyOf K H x t):TyX K H x t
 | seqL {a:Addr} {xs:List V} (h:SqL K H a xs):TyX K H (.ref a) (.type "list")
 | seqT {a:Addr} {xs:List V} (h:SqT K H a xs):TyX K H (.ref a) (.type "tuple")
 | exc {e C:Addr} {fs:List (Str×V)} (x:XAt H e C fs) (i:Xi K C):TyX K H (.ref e) (.ref C)
def clsV:V→Option Value
 | .ref a=>some (.ref a)
 | .ty n=>some (.type n)
 | _=>none
theorem ZfX {X:Cx}:Zch X (.builtin "isinstance") (fun xs H Q=>∃x c t k b,xs=[x,c]∧clsV c=some k∧TyX X.K H x t∧PySem.W.kitOne X.K t k=some b∧Q (.bl b) H):=by
 rintro pins s σ H xs us Q I r ⟨x,c,t,k,b,rfl,hk,ty,e,q⟩
 obtain⟨u,v,rfl,ru,rv⟩:=r.two
 have hv:v=k:=by
  cases c with
  | ref a=>cases hk;exact rv
  | ty n=>cases hk;exact rv
  | _=>cases hk
 subst hv
 cases ty with
 | pl ty=>exact Zh9 I ru ty e fun tk=>⟨.bl b,H,I.tok _,rfl,q⟩
 | seqL h=>
  cases ru
  obtain⟨its,_,⟨o,n,ho,hc,_⟩,_⟩:=I.list h
  exact YBF YCk I.kIn ⟨o,ho,hc⟩ e (fun z=>nomatch z) fun tk=>⟨.bl b,H,I.tok _,rfl,q⟩
 | seqT h=>
  cases ru
  obtain⟨its,_,⟨o,ho,hc,_⟩,_⟩:=I.tuple h
  exact YBF YDa I.kIn ⟨o,ho,hc⟩ e (fun z=>nomatch z) fun tk=>⟨.bl b,H,I.tok _,rfl,q⟩
 | exc x i=>
  cases ru
  obtain⟨ox,od,J,_⟩:=x.inst I
  exact YBF (Zei i) I.kIn J e (fun z=>nomatch z) fun tk=>⟨.bl b,H,I.tok _,rfl,q⟩
def Znv (K:Frag)(ta:TE)(f:Str):TE:=fun σ H Q=>ta σ H fun x H1=>∃e C fs v,x=.ref e∧XAt H1 e C fs∧Xc K C∧NoAttr K C f∧fs.lookup f=some v∧Q v H1
def ZlU (K:Frag)(ta tv:TE)(f:Str):TS:=fun D σ H=>tv σ H fun y H1=>ta σ H1 fun x H2=>∃e C fs,x=.ref e∧XAt H2 e C fs∧Xc K C∧NoAttr K C f∧fs.length<1000 ∧
 ∀H',XAt H' e C (putF f y fs)→(∀b o,H2 b=some o→b≠e→(∀d,H2 e=some (xo e C (some d))→b≠d)→H' b=some o)→(∃d,H' e=some (xo e C (some d))∧(H2 e=some (xo e C (some d))∨H2 d=none))→D.nx σ H'
def Zhp (K:Frag)(C:Addr)(t:TA):TE:=fun σ H Q=>t σ H fun vs H1=>vs.length≤1000∧∀e,H1 e=none→Q (.ref e) (upd H1 e (xo e C none))
def ZjC (C:Addr)(sp:Sp)(E:XK)(t:TA):TE:=fun σ H Q=>t σ H fun vs H1=>vs.length≤1000∧∀e,H1 e=none→sp (.ref e::vs) (upd H1 e (xo e C none)) (fun v H2=>v=.non∧Q (.ref e) H2) E
section
variable {X:Cx}{o e value:Expr}{es:List Expr}{f x:Str}{p pos pos':Pos}{ta tv:TE}{t:TA}{C fI:Addr}
theorem ZhF (ha:PE X o ta)(hv:PE X value tv)(hs:swapsWith value (some (.Attribute o f pos')) pos.line X.env=pure false):PS X (.Assign [.Attribute o f pos'] value pos) (ZlU X.K ta tv f):=by
 intro pins s σ H D I h
 refine plainObj_wpAny_Assign_Attribute (thn (hv pins s σ H _ I h) fun u s1 ⟨y,H1,I1,ry,q⟩=>thn (ha pins s1 σ H1 _ I1 q) fun ov s2 ⟨x,H2,I2,rx,a,C,fs,ex,xa,c,n,l,q2⟩=>?_) hs
 subst ex
 obtain rfl:ov=Value.ref a:=rx
 exact xset I2 xa c n l ry fun s3 H3 I3 x3 k3 d3=>⟨σ,H3,I3,q2 H3 x3 k3 d3⟩
theorem Xm.parts {K:Frag}{C:Addr}(m:Xm K C):∃(nm q:Str) (N:Addr) (bs bm:List Value) (hdct:Bool) (sn:List Str) (sub:List Value) (ab:Bool) (col:Option Bool) (dd:Option Addr) (k0 k1 k2 k3 k5:Option Value),
  K.lookup C=some (excClassObj nm q C N bs bm hdct sn sub ab col dd k0 k1 k2 k3 k5 "ValueError.__new__")∧xmro (.ref C::bm)=true:=by
 obtain⟨nm,qn,N,bs,bm,hdct,sn,sub,ab,col,dd,k0,k1,k2,k3,k5,lC⟩:=m.ob
 refine⟨nm,qn,N,bs,bm,hdct,sn,sub,ab,col,dd,k0,k1,k2,k3,k5,lC,?_⟩
 have hm:=m.c.mr
 unfold PySem.W.clsIn at hm
 rw[lC]at hm
 exact hm
theorem ZgN {pins:List (Addr×Obj)} {σ:St} {H:Hp} {s:Shared} {Q:VK} {us:List Value} (m:Xm X.K C) (hi:findIn X.K (.ref C) "__init__"=some (some (.builtin "ValueError.__init__"))) (I:Inv X pins σ H s) (hz:us.length≤1000)
  (h:∀e,H e=none→Q (.ref e) (upd H e (xo e C none))):wpAny (model X.prog X.w) X.A (call (.ref C) us) (EP X pins σ Q) X.xe s:=by
 obtain⟨nm,qn,N,bs,bm,hdct,sn,sub,ab,col,dd,k0,k1,k2,k3,k5,lC,hx⟩:=m.parts
 have I2:=Inv.xmade (C:=C) (us:=us) I
 have hq:=h (s.heap.objs.size+1) (I.hok.fresh (YCe _))
 have hz':us.length≤sizeLine:=YAQ hz (by rw[sizeLine_eq];decide)
 have KX:=I.kIn
 have hC:=KX _ _ lC
 obtain⟨hp,g,d,t,os⟩:=s
 refine YCJ (Zlv (K:=X.K) KX hx hC (YBh KX hi) (fun self=>Looks.of_pure (F.excBase_ValueError.init.bind self)) hz' ?_)
 refine Zey I2 m Zae hz' _ fun s' I3=>⟨rfl,?_⟩
 exact⟨.ref _,_,I3,rfl,hq⟩
theorem Zhy {CX:CXT} {k:Nat} {fd:FuncData} {ps:List Str} {sp:Sp} {E:XK} {pins:List (Addr×Obj)} {σ:St} {H:Hp} {s:Shared} {Q:VK} {us:List Value} {vs:List V} (m:Xm X.K C) (hi:findIn X.K (.ref C) "__init__"=some (some (.ref fI))) (hfn:PySem.W.isFn X.K (.ref fI)=true)
  (F:FnOk X.prog X.w X.K X.mg X.base CX k fI fd ps sp) (hr:Room (k+1) X.A) (hb:Binds X.K fd ps []) (hxp:ZbD CX X E) (I:Inv X pins σ H s) (r:Vals vs us) (hz:vs.length≤1000)
  (h:∀e,H e=none→sp (.ref e::vs) (upd H e (xo e C none)) (fun v H2=>v=.non∧Q (.ref e) H2) E):wpAny (model X.prog X.w) X.A (call (.ref C) us) (EP X pins σ Q) X.xe s:=by
 obtain⟨nm,qn,N,bs,bm,hdct,sn,sub,ab,col,dd,k0,k1,k2,k3,k5,lC,hx⟩:=m.parts
 have I2:=Inv.xmade (C:=C) (us:=us) I
 have hq:=h (s.heap.objs.size+1) (I.hok.fresh (YCe _))
 have hz':us.length≤sizeLine:=by rw[←r.length];exact YAQ hz (by rw[sizeLine_eq];decide)
 have KX:=I.kIn
 have hC:=KX _ _ lC
 have r2:Vals (V.ref (s.heap.objs.size+1)::vs) (Value.ref (s.heap.objs.size+1)::us):=.cons rfl r
 have hl:((Value.ref (s.heap.objs.size+1)::us)++[]).length=ps.length:=by
  have e:=r2.length
  rw[F.len _ _ _ _ hq]at e
  rw[YCh]
  exact e.symm
 have hb2:=hb { s with heap:=(s.heap.push (tupO us)).push (xraw C s.heap.objs.size) } (Value.ref (s.heap.objs.size+1)::us) I2.kIn hl
 rw[YCh]at hb2
 obtain⟨hp,g,d,t,os⟩:=s
 refine YCJ (Zlv (K:=X.K) KX hx hC (YBh KX hi) (fun self=>PySem.W.bind_fn KX self (beq_iff_eq.mp hfn)) hz' ?_)
 refine codeAny_mono (F.run _ X.stack _ _ ⟨Value.ref (hp.objs.size+1)::us,[]⟩ (Value.ref (hp.objs.size+1)::us) _ _ E (hr.make C us []) (I2.env0.make C us []) hb2 r2 hq) fun r s' hq'=>?_
 cases r with
 | error e=>exact hxp pins σ _ _ e s' I2 hq'
 | ok fl=>
  cases fl with
  | ret u=>
   obtain⟨v,H',I3,rv,ev,q3⟩:=I2.after hq'
   subst ev
   exact⟨rv,⟨V.ref (hp.objs.size+1),H',I3,rfl,q3⟩⟩
  | next=>exact False.elim hq'
  | brk=>exact False.elim hq'
  | cont=>exact False.elim hq'
theorem Zcn (m:Xm X.K C) (hi:findIn X.K (.ref C) "__init__"=some (some (.builtin "ValueError.__init__"))) (hg:Gl X x) (hm:X.mg x=some (.ref C)) (ha:PA X (e::es) t)
  (hdb:(x == ("__debug__":Str))=false:=by decide) (he:starEach (e::es) X.env=(false,eval e X.env)::starEach es X.env:=by rfl) (hpl:(backTo pos (starEach es X.env)).any (·.1)=false:=by rfl):
  PE X (.Call (.Name x p) (e::es) [] pos) (Zhp X.K C t):=by
 intro pins s σ H Q I h
 refine YBM (ZbG I hg hm ?_ hdb)
 refine YBo (h₀:=X.base) I.ok.mod.kin m.kp (thn (ha pos pins s σ H _ I h) fun us s1 ⟨vs,H1,I1,r,hz,q⟩=>⟨I1.kIn,?_⟩) he hpl
 exact ZgN m hi I1 (by rw[List.nil_append,←r.length];exact hz) q
theorem Zea {CX:CXT} {k:Nat} {fd:FuncData} {ps:List Str} {sp:Sp} {E:XK} (m:Xm X.K C) (hi:findIn X.K (.ref C) "__init__"=some (some (.ref fI))) (hfn:PySem.W.isFn X.K (.ref fI)=true)
  (F:FnOk X.prog X.w X.K X.mg X.base CX k fI fd ps sp) (hr:Room (k+1) X.A) (hb:Binds X.K fd ps []) (hxp:ZbD CX X E) (hg:Gl X x) (hm:X.mg x=some (.ref C)) (ha:PA X (e::es) t)
  (hdb:(x == ("__debug__":Str))=false:=by decide) (he:starEach (e::es) X.env=(false,eval e X.env)::starEach es X.env:=by rfl) (hpl:(backTo pos (starEach es X.env)).any (·.1)=false:=by rfl):
  PE X (.Call (.Name x p) (e::es) [] pos) (ZjC C sp E t):=by
 intro pins s σ H Q I h
 refine YBM (ZbG I hg hm ?_ hdb)
 refine YBo (h₀:=X.base) I.ok.mod.kin m.kp (thn (ha pos pins s σ H _ I h) fun us s1 ⟨vs,H1,I1,r,hz,q⟩=>⟨I1.kIn,?_⟩) he hpl
 exact Zhy m hi hfn F hr hb hxp I1 r hz q
structure ClsRead (K:Frag)(C:Addr)(f:Str)(v:Value):Prop where
 sp:specialIn K (.ref C) "__getattribute__"=some (some (.builtin "type.__getattribute__"))
 rd:PySem.W.readsIn K C (.type "type")=true
 fd:PySem.W.findCls K (.ref C) (.type "type") f=some (.val v)
 hn:PySem.W.handedIn v=true
def ZjD (K:Frag)(t:TA):TE:=fun σ H Q=>t σ H fun vs H1=>∃e C d rest,vs=.ref e::rest∧H1 e=some (xo e C d)∧Xm K C∧rest.length≤1000∧Q .non H1
theorem Zge {L:Addr} {pl:Sem Bool} {apos:Pos} {np:Pos} (hg:Gl X x) (hm:X.mg x=some (.ref L)) (cr:ClsRead X.K L "__init__" (.builtin "ValueError.__init__")) (ha:PA X (e::es) t)
  (hdb:(x == ("__debug__":Str))=false:=by decide) (hst:starEach (e::es) X.env=(false,eval e X.env)::starEach es X.env:=by rfl) (hpl:(backTo pos (starEach es X.env)).any (·.1)=false:=by rfl)
  (ht:eval (.Call (.Attribute (.Name x np) "__init__" apos) (e::es) [] pos) X.env=(do
   let ov ←eval (.Name x np) X.env
   standAt apos.atName
   let (f,first) ←holding [ov] (getMethod ov "__init__" pl)
   callWith pos f first (backTo pos (starEach (e::es) X.env)) (backToKw pos (keywordEach [] X.env))):=by rfl):
  PE X (.Call (.Attribute (.Name x np) "__init__" apos) (e::es) [] pos) (ZjD X.K t):=by
 intro pins s σ H Q I h
 refine YCc (pl:=pl) (ZbG I hg hm ?_ hdb) ht
 refine PySem.W.method_cls I.kIn cr.sp (PySem.W.cls_value I.kIn cr.rd cr.fd cr.hn ?_)
 refine YDD (thn (ha pos pins _ σ H _ (I.tok _) h) fun us s1 ⟨vs,H1,I1,r1,ev,C,d,rest,evs,hx,m,hz,q⟩=>?_) hst hpl
 subst evs
 cases r1 with
 | cons ru rr=>
  cases ru
  refine YCJ (Zey I1 m hx (by rw[←rr.length];exact YAQ hz (by rw[sizeLine_eq];decide)) _ fun s' I3=>?_)
  exact⟨.non,H1,I3,rfl,q⟩
end
end L2
namespace L2
open PySem PySem.Spec PyProof.Rows
section
variable {X:Cx}{pins:List (Addr×Obj)}{σ:St}{H:Hp}{s:Shared}
theorem Inv.turnedN {t':Nat}{h':Heap}{fp:List Addr}(I:Inv X pins σ H s)(k:∀b o,b∉fp→s.heap.get? b=some o→h'.get? b=some o)(hf:∀b∈fp,FpOk X pins H b):Inv X pins σ H { s with heap:=h',toks:=t' }:=by
 have nit:∀b u,H b=some u→b∉fp:=fun b u e z=>by rw[(hf b z).1]at e;cases e
 refine I.step (g':=s.gens) (d':=s.drawn) (ch:=fp) (fun b hb=>?_) (fun b o _ _ hc e _=>k b o hc e) (fun b o _ _ hc e _=>⟨o.slots,k b o hc e⟩) (fun _ _ _ _ n=>n)
  (fun b o hc e=>⟨o,k b o hc e⟩) (fun _ _ e=>e) (fun _ _ _ e=>e) (fun b ps e=>⟨#[],by rw[e];simp⟩) (fun m hm=>?_) (fun b u e=>?_) I.bare
 ·obtain⟨_,f1,_,f3,f4,f5⟩:=hf b hb
  exact⟨f3,f1,f4,f5⟩
 ·obtain⟨o,es,ep,ho,r⟩:=hm
  exact⟨o,es,ep,k _ o (fun z=>(hf _ z).2.1 rfl) ho,r⟩
 ·refine(I.hok b u e).stay (fun c v hc q=>k c v ?_ q) (fun _ q=>q) fun _ _ q=>q
  rcases hc with z | z
  ·rw[z];exact nit b u e
  ·exact nit c _ z
theorem Inv.track {p:Addr}{o:HO}(I:Inv X pins σ H s)(hf:FpOk X pins H p)(hs:X.s₀.heap.objs.size≤p)(ok:ObjOk X.prog X.w (upd H p o) s.heap p o):Inv X pins σ (upd H p o) s:=by
 obtain⟨f0,f1,f2,f3,f4,f5⟩:=hf
 have ne:∀b o',X.s₀.heap.get? b=some o'→b≠p:=fun b o' e=>YAY (YAi (YAG e) hs)
 have nh:∀b u,H b=some u→b≠p:=fun b u e=>Zan e f0
 refine⟨I.ok,I.os,I.bare,⟨I.base.keep,I.base.slot,fun b o' e n hb=>?_,I.base.there,fun b xs e=>?_,fun b o' u e=>?_,fun b ps e=>?_⟩,I.loc,I.cell,?_,fun x c e=>?_,fun q hq=>?_,fun b u e=>?_,I.len⟩
 ·rw[Zaf (ne b o' e)];exact I.base.free b o' e n hb
 ·have:=I.base.tups b xs e
  rw[Zaf (nh b _ this)];exact this
 ·have:=I.base.frzs b o' u e
  rw[Zaf (nh b _ this)];exact this
 ·obtain⟨m,q⟩:=I.base.tbls b ps e
  exact⟨m,by rw[Zaf (nh b _ q)];exact q⟩
 ·rw[Zaf (YAw f1)];exact I.free
 ·rw[Zaf (f4 x c e)];exact I.freeC x c e
 ·obtain⟨e,n,r⟩:=I.pin q hq
  refine⟨e,?_,r⟩
  rw[Zaf (f5 q hq)];exact n
 ·by_cases hb:b=p
  ·subst hb
   rw[Zae]at e
   cases e
   exact ok
  ·rw[Zaf hb]at e
   refine(I.hok b u e).stay (fun _ _ _ q=>q) (fun c q=>?_) fun c xs q=>?_
   ·rw[Zaf (nh c _ q)];exact q
   ·rw[Zaf (nh c _ q)];exact q
end
def Ite (K:PySem.W.Frag)(a:Addr):It:=
 ⟨fun i H=>∃xs x,SqL K H a xs∧xs[i]?=some x,fun i H x H'=>∃p v,H p=none∧x=.ref p∧H'=upd H p (.tup [.int i,v])∧∀xs,SqL K H a xs→xs[i]?=some v,fun i H=>∃xs,SqL K H a xs∧xs.length≤i⟩
section
variable {X:Cx}{es:List Expr}{x1:Nat}{tp:Pos}
def Zo9 (K:PySem.W.Frag)(ta:TA):TI:=fun σ H R=>ta σ H fun vs H1=>∃a,vs=[.ref a]∧(∃xs,SqL K H1 a xs)∧R (Ite K a) H1
end
section
variable {H:Hp}{Q:VK}{σ:St}
theorem q_I {C:Int→Int→Prop}{g:Int→Int→V}{i j:Int}:rI C g (.int i) (.int j) H Q=(C i j∧Q (g i j) H):=
 propext ⟨fun ⟨_,_,e1,e2,h⟩=>by cases e1;cases e2;exact h,fun h=>⟨i,j,rfl,rfl,h⟩⟩
theorem q_I0 {g:Int→Int→V}{i j:Int}:rI0 g (.int i) (.int j) H Q=Q (g i j) H:=
 propext ⟨fun ⟨_,_,e1,e2,h⟩=>by cases e1;cases e2;exact h,fun h=>⟨i,j,rfl,rfl,h⟩⟩
theorem q_U {g:Int→V}{i:Int}:rU g (.int i) H Q=Q (g i) H:=
 propext ⟨fun ⟨_,e1,h⟩=>by cases e1;exact h,fun h=>⟨i,rfl,h⟩⟩
theorem q_T {C:List Nat→List Nat→Prop}{g:List Nat→List Nat→V}{a b:List Nat}:rT C g (tx a) (tx b) H Q=(C a b∧Q (g a b) H):=
 propext ⟨fun ⟨_,_,e1,e2,h⟩=>by rw[ZdJ.mp e1,ZdJ.mp e2];exact h,fun h=>⟨a,b,rfl,rfl,h⟩⟩
theorem q_b {b:Bool}{p:Bool→Prop}:(∃k,V.bl b=V.bl k∧p k)=p b:=
 propext ⟨fun ⟨_,e,h⟩=>by cases e;exact h,fun h=>⟨b,rfl,h⟩⟩
theorem q_var {v:V}{p:V→Prop}:(∃u,some (some v)=some (some u)∧p u)=p v:=
 propext ⟨fun ⟨_,e,h⟩=>by cases e;exact h,fun h=>⟨v,rfl,h⟩⟩
theorem q_var' {v:V}{p:V→Prop}:(∃u,v=u∧p u)=p v:=
 propext ⟨fun ⟨_,e,h⟩=>by cases e;exact h,fun h=>⟨v,rfl,h⟩⟩
end
end L2
namespace L2
open PySem PySem.Spec PyProof.Rows
open PySem.W (Frag findIn specialIn typeIn mroIn clsIn subIn kitOne kitCls)
def Znk (sc sco:Scope):Bool:=decide (sc.kind=.function)&&sc.names.all fun y=>decide (y.2≠NameKind.cell)&&(decide (y.2≠NameKind.local) || decide (sc.names.lookup y.1=some NameKind.local)) &&
 (decide (y.2≠NameKind.free) || (decide (sco.names.lookup y.1=some NameKind.cell) || decide (sco.names.lookup y.1=some NameKind.free)))
theorem Zbi {X:Cx}{sc:Scope}(h:Znk sc X.env.scope=true):CmpScope X sc:=by
 unfold Znk at h
 rw[YAT,YBE]at h
 obtain⟨h1,h2⟩:=h
 refine⟨of_decide_eq_true h1,fun y hy=>?_,fun y hy e=>?_,fun y hy e=>?_⟩
 ·have:=h2 y hy
  simp only[YAT,Bool.or_eq_true,decide_eq_true_eq]at this
  exact this.1.1
 ·have:=h2 y hy
  simp only[YAT,Bool.or_eq_true,decide_eq_true_eq]at this
  rcases this.1.2 with z | z
  ·exact absurd e z
  ·exact z
 ·have:=h2 y hy
  simp only[YAT,Bool.or_eq_true,decide_eq_true_eq]at this
  rcases this.2 with z | z | z
  ·exact absurd e z
  ·exact .inl z
  ·exact .inr z
section
variable {K:Frag}{H:Hp}{C D:Addr}
structure ClsOk (K:Frag)(C:Addr)(mro:List Value):Prop where
 cd:∃cd,clsIn K C=some cd∧cd.mro=mro
 ty:typeIn K (.ref C)=some (.type "type")
 ne:mro.isEmpty=false
theorem ZfK {m1 m2:List Value}{b:Bool}(c:ClsOk K C m1)(d:ClsOk K D m2)(h:m1.contains (.ref D)=b)(hh:C=D→b=true):kitOne K (.ref C) (.ref D)=some b:=by
 obtain⟨cd,e1,e2⟩:=c.cd
 obtain⟨cd',e3,e4⟩:=d.cd
 unfold PySem.W.kitOne
 split
 ·rename_i z
  have z':Value.ref C=Value.ref D:=by simpa using z
  cases z'
  rw[hh rfl]
 ·unfold PySem.W.kitCls
  dsimp only
  rw[e3,d.ty]
  simp only[Option.isSome_some,YBr,beq_self_eq_true,if_true]
  unfold PySem.W.subIn PySem.W.mroIn
  dsimp only
  rw[e1,YCT,e2,c.ne,h]
  rfl
def ZdL (K:Frag)(C:Addr)(n:Nat)(fs:List V→List (Str×V)):Sp:=fun vs H Q _=>∃e r,vs=.ref e::r∧r.length=n∧H e=some (xo e C none) ∧
 ∀H',XAt H' e C (fs r)→(∀b o,H b=some o→b≠e→H' b=some o)→Q .non H'
theorem ZaF {a:Addr}{o:HO}(h:H a=none):Same H (upd H a o):=fun b u hb=>by rw[Zaf (Zan hb h)];exact hb
end
def Mk0 (C:Addr)(H:Hp)(Q:VK):Prop:=∀e,H e=none→Q (.ref e) (upd H e (xo e C none))
def MkI (sp:Sp)(E:XK)(C:Addr)(vs:List V)(H:Hp)(Q:VK):Prop:=∀e,H e=none→sp (.ref e::vs) (upd H e (xo e C none)) (fun v H2=>v=.non∧Q (.ref e) H2) E
def NewL (xs:List V)(H:Hp)(Q:VK):Prop:=∀p,H p=none→Q (.ref p) (upd H p (.lst xs))
def NewT (xs:List V)(H:Hp)(Q:VK):Prop:=∀p,H p=none→Q (.ref p) (upd H p (.tup xs))
section
variable {K:Frag}{C:Addr}{sp:Sp}{E:XK}{t:TA}{σ:St}{H:Hp}{Q:VK}{vs:List V}
theorem ZoG:Zhp K C t σ H Q=t σ H (fun vs H1=>vs.length≤1000∧Mk0 C H1 Q):=rfl
theorem ZoF:ZjC C sp E t σ H Q=t σ H (fun vs H1=>vs.length≤1000∧MkI sp E C vs H1 Q):=rfl
theorem ZoH:tLst t σ H Q=t σ H (fun xs H1=>xs.length≤sizeLine∧NewL xs H1 Q):=rfl
theorem ZoE:tTup t σ H Q=t σ H (fun xs H1=>xs.length≤sizeLine∧NewT xs H1 Q):=rfl
theorem Zl3 {l b:Addr}:rCat (.ref l) (.ref b) H Q=∃xs zs,H l=some (.lst xs)∧H b=some (.lst zs)∧xs.length+zs.length≤sizeLine∧NewL (xs++zs) H Q:=
 propext ⟨fun ⟨_,_,xs,zs,e1,e2,h⟩=>by cases e1;cases e2;exact⟨xs,zs,h⟩,fun ⟨xs,zs,h⟩=>⟨l,b,xs,zs,rfl,rfl,h⟩⟩
theorem MkI.of {n:Nat}{fs:List V→List (Str×V)}(hn:vs.length=n)(h:∀e H',Same H H'→H e=none→XAt H' e C (fs vs)→Q (.ref e) H'):MkI (ZdL K C n fs) E C vs H Q:=
 fun e he=>⟨e,vs,rfl,hn,Zae,fun H' x k=>⟨rfl,h e H' (fun b o hb=>k b o (by rw[Zaf (Zan hb he)];exact hb) (Zan hb he)) he x⟩⟩
theorem NewL.of (h:∀p H',Same H H'→H p=none→H' p=some (.lst vs)→Q (.ref p) H'):NewL vs H Q:=fun p hp=>h p _ (ZaF hp) hp Zae
theorem NewT.of (h:∀p H',Same H H'→H p=none→H' p=some (.tup vs)→Q (.ref p) H'):NewT vs H Q:=fun p hp=>h p _ (ZaF hp) hp Zae
theorem NewL.at (h:∀p,H p=none→Q (.ref p) (upd H p (.lst vs))):NewL vs H Q:=h
theorem NewT.at (h:∀p,H p=none→Q (.ref p) (upd H p (.tup vs))):NewT vs H Q:=h
theorem Zd3:bootBuiltins "str"=some (.type "str"):=by decide +kernel
theorem Ziw:bootBuiltins "int"=some (.type "int"):=by decide +kernel
theorem Zce:bootBuiltins "bool"=some (.type "bool"):=by decide +kernel
theorem Zbw:bootBuiltins "list"=some (.type "list"):=by decide +kernel
theorem Zb4:bootBuiltins "tuple"=some (.type "tuple"):=by decide +kernel
theorem Ziv:bootBuiltins "set"=some (.type "set"):=by decide +kernel
theorem Znm:bootBuiltins "zip"=some (.type "zip"):=by decide +kernel
theorem ZaN:bootBuiltins "len"=some (.builtin "len"):=by decide +kernel
theorem Zai:bootBuiltins "isinstance"=some (.builtin "isinstance"):=by decide +kernel
theorem Znn:bootBuiltins "all"=some (.builtin "all"):=by decide +kernel
theorem ZbW:bootBuiltins "sorted"=some (.builtin "sorted"):=by decide +kernel
end
def Own (K:Frag)(H:Hp)(d:DT)(x:V):Prop:=DatOk K H d x∧deq d d=true∧dep d≤60
theorem Zhw {x:V}(h:Zbb x=true):scal x x=true:=by cases x<;>first | rfl | cases h
theorem eq_self {K:Frag}{H:Hp}{Q:VK}{d:DT}{x:V}(o:Own K H d x)(q:Q (.bl true) H):rEqD K false x x H Q:=by
 obtain⟨h1,h2,h3⟩:=o
 by_cases hf:Zbb x=true
 ·exact .inl ⟨Zhw hf,by rw[decide_eq_true rfl];exact q⟩
 ·exact .inr ⟨d,d,h1,h1,fun z=>hf z.1,h3,by rw[h2];exact q⟩
theorem Own.same {K:Frag}{H H':Hp}{d:DT}{x:V}(o:Own K H d x)(s:Same H H'):Own K H' d x:=⟨s.dat o.1,o.2⟩
theorem SqL.mk {K:Frag}{H:Hp}{a:Addr}{xs:List V}(h:H a=some (.lst xs)):SqL K H a xs:=.inl (.inl h)
theorem SqT.mk {K:Frag}{H:Hp}{a:Addr}{xs:List V}(h:H a=some (.tup xs)):SqT K H a xs:=.inl (.inl h)
theorem Zlr {e C d:Addr}:¬(some (xo e C none)=some (xo e C (some d))):=by
 intro z
 have z1:xo e C none=xo e C (some d):=Option.some.inj z
 unfold xo at z1
 have z2:=HO.ext.inj z1
 have hget:(⟨Array.replicate (e+1) (xraw C 0),{}⟩:Heap).get? e=some (xraw C 0):=by
  unfold Heap.get?
  have:(Array.replicate (e+1) (xraw C 0))[e]?=some (xraw C 0):=by simp
  dsimp only
  rw[this]
 have q:=congrFun z2 ⟨Array.replicate (e+1) (xraw C 0),{}⟩
 have l:∃(o:Obj) (t:Addr),(⟨Array.replicate (e+1) (xraw C 0),{}⟩:Heap).get? e=some o∧o.cls=.ref C∧o.dict=none∧o.data=.fields #[.ref t,.none,.none,.none,.bool false,.none]:=⟨_,0,hget,rfl,rfl,rfl⟩
 have r:=q.mp l
 obtain⟨o,t,h1,_,h3,_⟩:=r
 rw[hget]at h1
 cases h1
 cases h3
section
variable {X:Cx}{K:Frag}
theorem Zba (hK:X.K=K)(hu:X.A.units+64<cLine):OpR X (compareOp .Eq) (rEqD K false):=by subst hK;exact ZjP hu
theorem ZcC (hK:X.K=K)(hu:X.A.units+64<cLine):OpR X (compareOp .NotEq) (rEqD K true):=by subst hK;exact Zmc hu
theorem Zgp (hK:X.K=K):IxR X (rIxL K):=by subst hK;exact ZkY
theorem Zdp (hK:X.K=K):IxR X (rIxT K):=by subst hK;exact ZmW
theorem Zco (hK:X.K=K):OpR X (compareOp .NotIn) (rIn K true):=by subst hK;exact ZeO
theorem Zas (hK:X.K=K):Zch X (.builtin "len") (fun xs H Q=>∃x n,xs=[x]∧LenV K x H n∧Q (.int n) H):=by subst hK;exact Zjx
theorem ZaJ {e:Expr}{f:Str}{pos:Pos}{ta:TE}(hK:X.K=K)(he:PE X e ta)(hb:attributeBase e f X.env (eval e X.env)=eval e X.env):PE X (.Attribute e f pos) (tFld K ta f):=by subst hK;exact Zl9 he hb
theorem Zbh {tg l:Expr}{tl:TE}(hK:X.K=K)(hl:PE X l tl):PI X tg l (Zk3 K tl):=by subst hK;exact Zkz hl
end
theorem cxK {CX:CXT}{P:Program}{w:World}{K:PySem.W.Frag}{mg:Str→Option Value}{base:Heap}{N:List Str}{qual:Str}{scope:Scope}{f:Addr}{cd:Value}{A:Around}{outer:List Env}{s:Shared}{H:Hp}{E:XK}:
  (cxOf CX P w K mg base N qual scope f cd A outer s H E).K=K:=rfl
theorem bxK {X:Cx}{sc:Scope}{N:List Str}{fp:List Addr}{s₀:Shared}{H:Hp}{pn:List (Addr×Obj)}:(bx X sc N fp s₀ H pn).K=X.K:=rfl
end L2
namespace L2
open PySem PySem.Spec PyProof.Rows
open PySem.W (Frag)
def ForRun (J:It)(g:TG)(tb:TS)(D:Ends)(σ:St)(H:Hp):Prop:=∃W:Nat→Nat→St→Hp→Prop,(∃m,W 0 m σ H)∧∀i m σ H,W i m σ H →
 (J.stop i H∧D.nx σ H)∨(J.go i H∧∃N:St→Hp→Prop,(∀σ' H',N σ' H'→∃m',m'<m∧W (i+1) m' σ' H')∧∀x H',J.yld i H x H'→g x σ H' fun σ2 H2=>tb { D with nx:=N,ct:=N,bk:=D.nx } σ2 H2)
theorem ZoI {wi:TI}{g:TG}{tb:TS}{D:Ends}{σ:St}{H:Hp}:tFor wi g tb D σ H=wi σ H fun J H1=>ForRun J g tb D σ H1:=rfl
def CompRun (J:It)(τ0:St)(g:TG)(tt:TT)(te:TE)(H1:Hp)(Q:VK):Prop:=∀acc,H1 acc=none→∃W:Nat→Nat→St→Hp→Prop,(∃m,W 0 m τ0 (upd H1 acc (.lst []))) ∧
 ∀i m τ H2,W i m τ H2→(J.stop i H2∧Q (.ref acc) H2)∨(J.go i H2∧∃Nx:St→Hp→Prop,(∀τ' H',Nx τ' H'→∃m',m'<m∧W (i+1) m' τ' H') ∧
  ∀x H3,J.yld i H2 x H3→g x τ H3 fun τ2 H4=>tt τ2 H4 fun b H5=>if b=true then te τ2 H5 fun y H6=>∃ys,H6 acc=some (.lst ys)∧ys.length<sizeLine∧Nx τ2 (upd H6 acc (.lst (ys++[y]))) else Nx τ2 H5)
theorem Zl2 {ix:List (Option Nat)}{wi:TI}{g:TG}{tt:TT}{te:TE}{σ:St}{H:Hp}{Q:VK}:Zkg ix wi g tt te σ H Q=wi σ H fun J H1=>CompRun J (pick ix σ) g tt te H1 Q:=rfl
section
variable {g:TG}{tb:TS}{D:Ends}{σ:St}{H:Hp}{K:Frag}{a:Addr}{xs:List V}
theorem ForRun.list (Pv:Nat→St→Hp→Prop)(h0:Pv 0 σ H)(hl:∀i σ H,i≤xs.length→Pv i σ H→SqL K H a xs)
  (hs:∀i x σ H,xs[i]?=some x→Pv i σ H→g x σ H fun σ2 H2=>tb { D with nx:=Pv (i+1),ct:=Pv (i+1),bk:=D.nx } σ2 H2) (hd:∀σ H,Pv xs.length σ H→D.nx σ H):ForRun (Itl K a) g tb D σ H:=
 Zjm Pv h0 hl hs hd
theorem ForRun.range {lo:Int}{n:Nat}(Pv:Nat→St→Hp→Prop)(h0:Pv 0 σ H)
  (hs:∀i σ H,i<n→Pv i σ H→g (.int (lo+i)) σ H fun σ2 H2=>tb { D with nx:=Pv (i+1),ct:=Pv (i+1),bk:=D.nx } σ2 H2) (hd:∀σ H,Pv n σ H→D.nx σ H):
  ForRun (Itr lo n) g tb D σ H:=Zie Pv h0 hs hd
theorem ForRun.text {l:List Nat}(Pv:Nat→St→Hp→Prop)(h0:Pv 0 σ H)
  (hs:∀i c σ H,l[i]?=some c→Pv i σ H→g (tx [c]) σ H fun σ2 H2=>tb { D with nx:=Pv (i+1),ct:=Pv (i+1),bk:=D.nx } σ2 H2) (hd:∀σ H,Pv l.length σ H→D.nx σ H):
  ForRun (Its l) g tb D σ H:=Zjl Pv h0 hs hd
end
section
variable {tt:TT}{te:TE}{Q:VK}{τ0:St}{H:Hp}
theorem CompRun.gen {J:It}{n:Nat}(v:Nat→V)(b:Nat→Bool)(f:Nat→V)(hz:n≤1000)(hgo:∀i H',i<n→Same H H'→J.go i H')(hst:∀H',Same H H'→J.stop n H')(hy:∀i H' x H3,i<n→Same H H'→J.yld i H' x H3→H3=H'∧x=v i)
  (ht:∀i H' Q',i<n→Same H H'→(∀H'',Same H' H''→Q' (b i) H'')→tt (τ0.set 0 (some (v i))) H' Q')
  (he:∀i H' Q',i<n→b i=true→Same H H'→(∀H'',Same H' H''→Q' (f i) H'')→te (τ0.set 0 (some (v i))) H' Q')
  (hQ:∀p H',Same H H'→H p=none→H' p=some (.lst (((List.range n).filter b).map f))→Q (.ref p) H'):CompRun J τ0 (ZcR 0) tt te H Q:=by
 intro acc ha
 refine⟨fun i m τ H2=>i≤n∧m=n-i∧(∀w:Option V,τ.set 0 w=τ0.set 0 w)∧Same H H2∧H2 acc=some (.lst (((List.range i).filter b).map f)),⟨n,YBI _,rfl,fun _=>rfl,ZaF ha,Zae⟩,?_⟩
 rintro i m τ H2 ⟨hi,rfl,hτ,hs,hacc⟩
 by_cases hlt:i<n
 ·refine .inr ⟨hgo i H2 hlt hs,fun τ' H'=>(∀w:Option V,τ'.set 0 w=τ0.set 0 w)∧Same H H'∧H' acc=some (.lst (((List.range (i+1)).filter b).map f)),fun τ' H' q=>⟨n-(i+1),by omega,hlt,rfl,q⟩,fun x H3 y=>?_⟩
  obtain⟨rfl,rfl⟩:=hy i H2 x H3 hlt hs y
  show tt (τ.set 0 (some (v i))) _ _
  rw[hτ]
  have hτ':∀w:Option V,(τ0.set 0 (some (v i))).set 0 w=τ0.set 0 w:=fun w=>by rw[List.set_set]
  refine ht i _ _ hlt hs fun H4 s4=>?_
  cases hb:b i with
  | false=>
   rw[YAJ YAE]
   refine⟨hτ',hs.trans s4,?_⟩
   rw[s4 _ _ hacc,YCf,YDb]
   simp[hb]
  | true=>
   rw[YAO rfl]
   refine he i _ _ hlt hb (hs.trans s4) fun H5 s5=>?_
   refine⟨_,s5 _ _ (s4 _ _ hacc),?_,hτ',?_,?_⟩
   ·rw[YAD]
    have:=YBQ b (List.range i)
    rw[YBb]at this
    exact Zc9 (by omega)
   ·intro c o hc
    have:c≠acc:=Zan hc ha
    rw[Zaf this]
    exact s5 _ _ (s4 _ _ (hs _ _ hc))
   ·rw[Zae,YCf,YDb]
    simp[hb]
 ·have e:i=n:=by omega
  subst e
  exact .inl ⟨hst H2 hs,hQ acc H2 hs ha hacc⟩
theorem CompRun.range {lo:Int}{n:Nat}(b:Nat→Bool)(f:Nat→V)(hz:n≤1000)
  (ht:∀(i:Nat) H' Q',i<n→Same H H'→(∀H'',Same H' H''→Q' (b i) H'')→tt (τ0.set 0 (some (.int (lo+i)))) H' Q')
  (he:∀(i:Nat) H' Q',i<n→b i=true→Same H H'→(∀H'',Same H' H''→Q' (f i) H'')→te (τ0.set 0 (some (.int (lo+i)))) H' Q')
  (hQ:∀p H',Same H H'→H p=none→H' p=some (.lst (((List.range n).filter b).map f))→Q (.ref p) H'):CompRun (Itr lo n) τ0 (ZcR 0) tt te H Q:=
 .gen (fun i=>.int (lo+i)) b f hz (fun i _ h _=>h) (fun _ _=>YAP _) (fun i H' x H3 _ _ y=>y) ht he hQ
theorem filter_all {n:Nat}{f:Nat→V}:((List.range n).filter fun _=>true).map f=(List.range n).map f:=by rw[List.filter_eq_self.mpr (fun _ _=>rfl)]
theorem CompRun.rangeA {lo:Int}{n:Nat}(f:Nat→V)(hz:n≤1000)
  (he:∀(i:Nat) H' Q',i<n→Same H H'→(∀H'',Same H' H''→Q' (f i) H'')→te (τ0.set 0 (some (.int (lo+i)))) H' Q')
  (hQ:∀p H',Same H H'→H p=none→H' p=some (.lst ((List.range n).map f))→Q (.ref p) H'):CompRun (Itr lo n) τ0 (ZcR 0) tAll te H Q:=
 .range (fun _=>true) f hz (fun i H' Q' _ _ q=>q H' (Same.refl _)) (fun i H' Q' hi _=>he i H' Q' hi) fun p H' s n e=>hQ p H' s n (by rw[e,filter_all])
theorem CompRun.text {l:List Nat}(b:Nat→Bool)(f:Nat→V)(hz:l.length≤1000)
  (ht:∀i H' Q' (h:i<l.length),Same H H'→(∀H'',Same H' H''→Q' (b i) H'')→tt (τ0.set 0 (some (tx [l.getD i 0]))) H' Q')
  (he:∀i H' Q' (h:i<l.length),b i=true→Same H H'→(∀H'',Same H' H''→Q' (f i) H'')→te (τ0.set 0 (some (tx [l.getD i 0]))) H' Q')
  (hQ:∀p H',Same H H'→H p=none→H' p=some (.lst (((List.range l.length).filter b).map f))→Q (.ref p) H'):CompRun (Its l) τ0 (ZcR 0) tt te H Q:=
 .gen (fun i=>tx [l.getD i 0]) b f hz (fun i _ h _=>h) (fun _ _=>YAP _) (fun i H' x H3 _ _ y=>by
  obtain⟨e,c,hc,rfl⟩:=y
  refine⟨e,?_⟩
  rw[YAR,hc];rfl) ht he hQ
end
theorem Zdx:∀ {vs:List V},vs.all Zbb=true→deqs (vs.map DT.f) (vs.map DT.f)=true
 | [],_=>by unfold deqs;rfl
 | v::vs,h=>by
  rw[List.all_cons,YAT]at h
  rw[YAg]
  unfold deqs
  rw[Zdx h.2]
  unfold deq
  rw[Zeo h.1]
  rfl
theorem ownF {K:Frag}{H:Hp}{v:V}(h:Zbb v=true):Own K H (.f v) v:=⟨datF h,by unfold deq;exact Zeo h,by unfold dep;exact YBI _⟩
theorem ownL {K:Frag}{H:Hp}{a:Addr}{vs:List V}(h:SqL K H a vs)(hf:vs.all Zbb=true):Own K H (.l (vs.map DT.f)) (.ref a):=⟨datL h hf,by unfold deq;exact Zdx hf,by unfold dep;rw[Zfj];decide⟩
theorem ownT {K:Frag}{H:Hp}{a:Addr}{vs:List V}(h:SqT K H a vs)(hf:vs.all Zbb=true):Own K H (.t (vs.map DT.f)) (.ref a):=⟨datT h hf,by unfold deq;exact Zdx hf,by unfold dep;rw[Zfj];decide⟩
end L2
namespace L2
open PySem PySem.Spec PyProof.Rows
theorem Znu {t:SetTable}{n:Nat}:(t.orStandIn n).led=t.led∧((t.orStandIn n).plain=true→t.plain=true):=by
 unfold SetTable.orStandIn
 split
 ·exact⟨rfl,id⟩
 ·exact⟨rfl,fun h=>by cases h⟩
theorem Zlx {t:SetTable}{es:Array (Int×Value)}{h:Int}{x:Value}:(layNew t es h x).2.1.led=t.led∧((layNew t es h x).2.1.plain=true→t.plain=true):=by
 unfold layNew
 split
 ·rename_i slot wd _
  exact Znu (t:=(t.put slot).1)
 ·exact⟨rfl,fun h=>by cases h⟩
theorem Zkb {mask finger moves:Nat}{led plain:Bool}{hs:Array Int}{t':SetTable}{order:Array Nat}(e:SetTable.laid mask finger moves led plain hs=some (t',order)):t'.led=led∧t'.plain=plain:=by
 unfold SetTable.laid at e
 cases hq:SetTable.layClean mask hs with
 | none=>rw[hq]at e;cases e
 | some ow=>
  rw[hq]at e
  have e':=Option.some.inj e
  obtain⟨z,_⟩:=Prod.mk.inj e'
  subst z
  exact⟨rfl,rfl⟩
theorem ZiG {t:SetTable}{es:Array (Int×Value)}{n:Nat}:(relayAll t es n).2.1.led=t.led∧((relayAll t es n).2.1.plain=true→t.plain=true):=by
 unfold relayAll
 split
 ·rename_i t' order q
  obtain⟨h1,h2⟩:=Zkb q
  dsimp only
  split
  ·exact⟨h1,fun h=>by rw[←h2];exact h⟩
  ·exact⟨rfl,fun h=>by cases h⟩
 ·exact⟨rfl,fun h=>by cases h⟩
def TxSet (P:Program)(w:World)(h:Heap)(a:Addr)(ls:List (List Nat))(led:Bool):Prop:=
 ∃(o:Obj) (es:Array (Int×Value)) (ep:Nat) (t:SetTable) (ms:List (List Nat)),h.get? a=some o∧o.ExactSet∧o.data=.set es ep t∧ElemsOf (ZaL P w) es.toList∧t.fits es.size=true ∧
  t.led=led∧(t.plain=true→es.size=0)∧ms.Perm ls∧Vals (ms.map tx) (es.toList.map (·.2))∧es.size<scanBound
theorem TxSet.keep {P:Program}{w:World}{h h':Heap}{a:Addr}{ls:List (List Nat)}{led:Bool}(x:TxSet P w h a ls led)(k:∀o,h.get? a=some o→h'.get? a=some o):TxSet P w h' a ls led:=by
 obtain⟨o,es,ep,t,ms,h1,r⟩:=x
 exact⟨o,es,ep,t,ms,k o h1,r⟩
theorem TxSet.typ {P:Program}{w:World}{s:Shared}{a:Addr}{ls:List (List Nat)}{led:Bool}(x:TxSet P w s.heap a ls led):s.TypeIs (.ref a) "set":=by
 obtain⟨o,es,ep,t,ms,h1,h2,_⟩:=x
 exact⟨o,h1,h2.1⟩
def addT (ls:List (List Nat))(l:List Nat):List (List Nat):=if l∈ls then ls else ls++[l]
theorem Zo7 {l:List Nat}{v:V}{u:Value}(r:RelV v u)(hv:∃m,v=tx m):Zej (Sum.inr (⟨l.toArray⟩:Str):Key) u=decide (v=tx l):=by
 obtain⟨m,rfl⟩:=hv
 obtain⟨t,rfl⟩:=r
 rw[Zdy]
 simp only[Zej,Value.isStrOf]
 by_cases h:m=l
 ·subst h;simp
 ·have:¬(⟨m.toArray⟩:Str)=⟨l.toArray⟩:=fun e=>h (ZdJ.mp (congrArg V.str e))
  rw[decide_eq_false h]
  simp[this]
theorem Zf3 {l:List Nat}:∀ {ms:List (List Nat)} {es:List (Int×Value)},Vals (ms.map tx) (es.map (·.2))→((∃e∈es,Zej (Sum.inr (⟨l.toArray⟩:Str):Key) e.2=true)↔l∈ms)
 | [],[],_=>by simp
 | [],_::_,r=>by cases r
 | _::_,[],r=>by cases r
 | m::ms,e::es,r=>by
  cases r with
  | cons r1 r2=>
   have ih:=Zf3 (l:=l) r2
   have q:=Zo7 (l:=l) r1 ⟨m,rfl⟩
   rw[Zdy]at q
   constructor
   ·rintro⟨x,hx,hk⟩
    rcases YAM.mp hx with z | z
    ·subst z
     rw[q]at hk
     exact YAM.mpr (.inl (of_decide_eq_true hk).symm)
    ·exact YAM.mpr (.inr (ih.mp ⟨x,z,hk⟩))
   ·intro h
    rcases YAM.mp h with z | z
    ·exact⟨e,YAd,by rw[q];exact decide_eq_true z.symm⟩
    ·obtain⟨x,hx,hk⟩:=ih.mpr z
     exact⟨x,YAZ _ hx,hk⟩
theorem Zc3 {us us':List Value}(p:us'.Perm us):∀ {ms:List (List Nat)},Vals (ms.map tx) us→∃ms':List (List Nat),ms'.Perm ms∧Vals (ms'.map tx) us':=by
 induction p with
 | nil=>intro ms r;exact⟨ms,.refl _,r⟩
 | cons x _ ih=>
  intro ms r
  cases ms with
  | nil=>cases r
  | cons m ms=>
   cases r with
   | cons r1 r2=>
    obtain⟨ms',p',r'⟩:=ih r2
    exact⟨m::ms',p'.cons _,.cons r1 r'⟩
 | swap x y l=>
  intro ms r
  match ms,r with
  | m1::m2::ms,.cons r1 (.cons r2 r3)=>exact⟨m2::m1::ms,.swap _ _ _,.cons r2 (.cons r1 r3)⟩
 | trans _ _ ih1 ih2=>
  intro ms r
  obtain⟨m1,p1,r1⟩:=ih2 r
  obtain⟨m2,p2,r2⟩:=ih1 r1
  exact⟨m2,p2.trans p1,r2⟩
section
variable {prog:Program}{w:World}{A:Around}{E:Value→Shared→Prop}{s:Shared}
theorem Zf9 {g:Bool→Sem Unit}(hg:∀(b:Bool) (s₁:Shared) (Q':Unit→Shared→Prop),Q' () s₁→wpAny (model prog w) A (g b) Q' E s₁){a:Addr}{o:Obj}{es:Array (Int×Value)}{ep:Nat}{t:SetTable}
  (ho:s.heap.get? a=some o) (hd:o.data=.set es ep t) {e1:Array (Int×Value)} {t2:SetTable} (hb:e1.size<scanBound) (hf:t2.fits e1.size=true) {wd:Bool} {R:Option Bool→Shared→Prop}
  (h:∀h' e2 t3 ep',Heap.SameBut a s.heap h'→h'.get? a=some { o with data:=.set e2 ep' t3 }→e2.toList.Perm e1.toList→t3.fits e2.size=true→t3.led=t2.led→(t3.plain=true→t2.plain=true)→R (some true) { s with heap:=h' }):
  wpAny (model prog w) A (do
   storeSet a e1 t2
   if (!wd&&t2.tooFull)=true then do
    g (relayAll t2 e1 (SetTable.grown e1.size)).2.2;storeSet a (relayAll t2 e1 (SetTable.grown e1.size)).1 (relayAll t2 e1 (SetTable.grown e1.size)).2.1;pure (some true)
   else pure (some true)) R E s:=by
 have put:∀ {h:Heap} {ob:Obj} {xs ys:Array (Int×Value)} {n:Nat} {t t':SetTable},h.get? a=some ob→ob.data=.set xs n t→(h.update a (Obj.putSet ys t')).get? a=some { ob with data:=.set ys (n+1) t' }:=fun {h ob xs ys n t t'} h1 h2=>by
  have q:=YBR (Obj.putSet ys t') h1 (by rw[putSet_of ys t' h2];rfl)
  rwa [putSet_of ys t' h2]at q
 have hs1:=YAa s.heap a (Obj.putSet e1 t2)
 have g1:=put (ys:=e1) (t':=t2) ho hd
 refine YAA (wpAny_storeSet_of ho hd ?_ (fits_of_scanBound hb))
 split
 ·have p:=relayAll_perm t2 e1 (SetTable.grown e1.size)
  have f:=relayAll_fits t2 e1 (SetTable.grown e1.size)
  have tm:=ZiG (t:=t2) (es:=e1) (n:=SetTable.grown e1.size)
  have z:(relayAll t2 e1 (SetTable.grown e1.size)).1.size=e1.size:=by rw[←YAN,p.length_eq,YAN]
  refine YAA (hg _ _ _ (YAA (wpAny_storeSet_of g1 rfl (YAC ?_) (fits_of_scanBound (by rw[z];exact hb)))))
  exact h _ _ _ _ (hs1.trans (YAa _ a _)) (put (ob:={ o with data:=.set e1 (ep+1) t2 }) g1 rfl) p f tm.1 tm.2
 ·exact YAC (h _ _ _ _ hs1 g1 (.refl _) hf rfl id)
theorem Zkm {a:Addr}{ls:List (List Nat)}{led:Bool}{l:List Nat}{tk:Tok}{Q:Bool→Shared→Prop}(hS:TxSet prog w s.heap a ls led)(hn:ls.length+1<scanBound)
  (h:∀h' b,Heap.SameBut a s.heap h'→TxSet prog w h' a (addT ls l) led→Q b { s with heap:=h' }):
  wpAny (model prog w) A (setAddHashed a (.str ⟨l.toArray⟩ tk) (keyH w (Sum.inr ⟨l.toArray⟩))) Q E s:=by
 obtain⟨o,es,ep,t,ms,ho,hex,hd,hel,hf,hled,hpl,hp,hv,hb⟩:=hS
 have hkey:(ZaL prog w).is (Sum.inr (⟨l.toArray⟩:Str)) (.str ⟨l.toArray⟩ tk)=true:=by
  exact Zdk prog w _ _
 have hsc:(Value.str ⟨l.toArray⟩ tk).scannable=true:=rfl
 have hlen:es.size=ls.length:=by
  have q:=hv.length
  rw[YAD,YAD]at q
  rw[←YAN,←q,hp.length_eq]
 have mem:=Zf3 (l:=l) hv
 have hl:l∈ms↔l∈ls:=hp.mem_iff
 unfold setAddHashed setAddHashedIn
 refine YAy (YAA (YCi ho hd hf ?_))
 dsimp only
 rw[byScan_of hsc hb hel,YAO rfl]
 unfold setAddByScan
 refine YAA (YAA (YBt (YAA (wpAny_setScan_of (knd:=ZaL prog w) (k:=Sum.inr (⟨l.toArray⟩:Str)) hkey ho hd hf hel ?_))))
 cases hr:List.findIdx? (fun e=>(ZaL prog w).is (Sum.inr (⟨l.toArray⟩:Str)) e.2) es.toList with
 | some j=>
  dsimp only
  obtain⟨hj,hpj,_⟩:=List.findIdx?_eq_some_iff_getElem.mp hr
  have hin:l∈ls:=hl.mp (mem.mp ⟨es.toList[j],YCB hj,hpj⟩)
  refine YAC (YAC ?_)
  have q:=h s.heap false (Heap.SameBut.refl a s.heap) (by
   unfold addT
   rw[YAO hin]
   exact⟨o,es,ep,t,ms,ho,hex,hd,hel,hf,hled,hpl,hp,hv,hb⟩)
  exact q
 | none=>
  dsimp only
  have hnin:l∉ls:=fun z=>by
   obtain⟨e,he,hk⟩:=mem.mpr (hl.mpr z)
   have q:=List.findIdx?_eq_none_iff.mp hr e he
   rw[show (ZaL prog w).is (Sum.inr (⟨l.toArray⟩:Str)) e.2=true from hk]at q
   cases q
  have lp:=layNew_perm t es (keyH w (Sum.inr ⟨l.toArray⟩)) (.str ⟨l.toArray⟩ tk)
  have lf:=layNew_fits t es (keyH w (Sum.inr ⟨l.toArray⟩)) (.str ⟨l.toArray⟩ tk)
  have lt:=Zlx (t:=t) (es:=es) (h:=keyH w (Sum.inr ⟨l.toArray⟩)) (x:=.str ⟨l.toArray⟩ tk)
  show wpAny _ A (match layNew t es (keyH w (Sum.inr ⟨l.toArray⟩)) (.str ⟨l.toArray⟩ tk) with | (es,t,wasDummy,gave)=>_) _ _ _
  generalize hL:layNew t es (keyH w (Sum.inr ⟨l.toArray⟩)) (.str ⟨l.toArray⟩ tk)=L at lp lf lt ⊢
  obtain⟨e1,t1,wd,gave⟩:=L
  dsimp only at lp lf lt ⊢
  rw[YBW]at lp
  have sz1:e1.size=ls.length+1:=by rw[←YAN,lp.length_eq,YAI,YAN,hlen];rfl
  have gw:∀(b:Bool) (s₁:Shared) (Q':Unit→Shared→Prop),Q' () s₁→wpAny (model prog w) A (match b with | true=>rule "set.scan.the-table-gave-way" | false=>pure ()) Q' E s₁:=
   fun b s₁ Q' hq=>by cases b<;>first | exact YAC hq | exact YBt hq
  refine YAA (gw _ _ _ ?_)
  have fin:∀(t2:SetTable),t2.fits e1.size=true→t2.led=t1.led→t2.plain=false→∀h' e2 t3 ep',Heap.SameBut a s.heap h'→h'.get? a=some { o with data:=.set e2 ep' t3 }→e2.toList.Perm e1.toList→t3.fits e2.size=true→t3.led=t2.led→(t3.plain=true→t2.plain=true)→Q true { s with heap:=h' }:=by
   intro t2 f2 l2 p2 h' e2 t3 ep' sb hg pm f3 l3 p3
   refine h h' true sb ?_
   have pall:=pm.trans lp
   obtain⟨ms',pm',hv'⟩:=Zc3 (us:=(es.toList++[(keyH w (Sum.inr ⟨l.toArray⟩),Value.str ⟨l.toArray⟩ tk)]).map (·.2)) (us':=e2.toList.map (·.2)) (pall.map _) (ms:=ms++[l]) (by
    rw[YCO,YCO]
    exact hv.append (.cons ⟨tk,rfl⟩ .nil))
   unfold addT
   rw[YAJ hnin]
   refine⟨_,e2,ep',t3,ms',hg,hex,rfl,((hel.push (knd:=ZaL prog w) hkey hsc).perm pall),f3,l3.trans (l2.trans (lt.1.trans hled)),fun z=>by rw[p2]at p3;exact absurd (p3 z) YAE,pm'.trans (hp.append_right [l]),hv',?_⟩
   rw[←YAN,pm.length_eq,YAN,sz1]
   exact hn
  split
  ·refine YAA ?_
   rw[hashByValue_scannable 8 hsc]
   refine YAC ?_
   refine Zf9 gw ho hd (by rw[sz1];exact hn) ?_ fun h' e2 t3 ep' q1 q2 q3 q4 q5 q6=>?_
   ·exact SetTable.fits_plain_off lf
   ·exact YAC (fin _ (SetTable.fits_plain_off lf) rfl rfl h' e2 t3 ep' q1 q2 q3 q4 q5 q6)
  ·rename_i hnp
   have hnp':t1.plain=false:=by simpa using hnp
   refine YAA (YAC ?_)
   rw[YAO rfl]
   refine Zf9 gw ho hd (by rw[sz1];exact hn) lf fun h' e2 t3 ep' q1 q2 q3 q4 q5 q6=>YAC (fin _ lf rfl hnp' h' e2 t3 ep' q1 q2 q3 q4 q5 q6)
end
def dd (val:Nat→List Nat)(i:Nat):List (List Nat):=((List.range i).map val).foldl addT []
theorem ZfT {val:Nat→List Nat}{i:Nat}:dd val (i+1)=addT (dd val i) (val i):=by
 unfold dd
 rw[YCf,YCO,List.foldl_append]
 rfl
theorem Zjy {ls:List (List Nat)}{l:List Nat}:(addT ls l).length≤ls.length+1:=by
 unfold addT
 split
 ·omega
 ·simp
theorem Zj4 {val:Nat→List Nat}:∀i,(dd val i).length≤i
 | 0=>YAP _
 | i+1=>by
  rw[ZfT]
  have h1:=Zj4 (val:=val) i
  have h2:=Zjy (ls:=dd val i) (l:=val i)
  omega
theorem Zcw {val:Nat→List Nat}:∀i,(dd val i).Nodup
 | 0=>by simp[dd]
 | i+1=>by
  rw[ZfT]
  unfold addT
  split
  ·exact Zcw i
  ·rename_i h
   rw[YDB]
   refine⟨Zcw i,by simp,?_⟩
   intro a ha b hb e
   have:b=val i:=by simpa using hb
   subst e this
   exact h ha
section
variable {prog:Program}{w:World}{A:Around}{R:Result→Shared→Prop}{I:Addr}{fp wr:List Addr}{G:Array GenState→Array GenState→Prop}{n:Nat}{Pi:Nat→Value→Prop}{St:Nat→Shared→Prop}
theorem ZiN (W:WalksS prog w A.in1 I fp wr G n Pi St)(S:Addr)(hSf:S∉fp)(val:Nat→List Nat)(hval:∀i v,Pi i v→∃t,v=.str ⟨(val i).toArray⟩ t)(hb:n+1<scanBound){led:Bool}:
  ∀(k i:Nat) (s:Shared),n-i=k→i≤n→St i s→TxSet prog w s.heap S (dd val i) led→(∀s',Moved (S::wr) G s s'→TxSet prog w s'.heap S (dd val n) led→R (.ok (.ret .none)) s') →
   codeAny (model prog w) A (.builtin "set.update.loop" ⟨[.ref S,.ref I],[]⟩) R s:=by
 have nw:S∉wr:=fun h=>hSf (W.sub _ h)
 have up:∀b∈wr,b∈S::wr:=fun b hb=>YAZ _ hb
 intro k
 induction k with
 | zero=>
  intro i s hk hi st hS hR
  have e:i=n:=by omega
  subst e
  refine codeAny_builtin F.entry_set_update_loop ?_
  rw[YBi F.plain_set_update_loop _]
  show wpAny _ A.in1 (pyNext (.ref I) >>= fun r=>_) _ _ s
  refine YAA (W.done s _ _ st fun s' hm=>?_)
  exact YAC (hR s' (hm.mono up) (hS.keep fun o e=>hm.heap S o nw e))
 | succ k ih=>
  intro i s hk hi st hS hR
  have hlt:i<n:=by omega
  refine codeAny_builtin F.entry_set_update_loop ?_
  rw[YBi F.plain_set_update_loop _]
  show wpAny _ A.in1 (pyNext (.ref I) >>= fun r=>_) _ _ s
  refine YAA (W.item i s _ _ hlt st fun v s1 hP st1 hm=>?_)
  obtain⟨tk,rfl⟩:=hval i v hP
  have hS1:TxSet prog w s1.heap S (dd val i) led:=hS.keep fun o e=>hm.heap S o nw e
  show wpAny _ A.in1 (holding [Value.str ⟨(val i).toArray⟩ tk] (setAdd S (.str ⟨(val i).toArray⟩ tk)) >>= fun _=>_) _ _ s1
  refine YAA (YAy ?_)
  unfold setAdd
  refine YAy (YAA (wpAny_pyHash_str ?_))
  refine Zkm (s:={ s1 with toks:=s1.toks+1 }) (l:=val i) hS1 (by have:=Zj4 (val:=val) i;omega) fun h' b sb hS2=>?_
  rw[←ZfT]at hS2
  refine YAC ⟨plainId_quiet F.plain_set_update_loop _,ih (i+1) _ (by omega) hlt (W.frame _ s1 _ _ st1 (YCe _) fun b hb o e=>(sb.2 b fun z=>hSf (z▸hb)).trans e) hS2 fun s2 hm2 hS3=>?_⟩
  exact hR s2 (Moved.trans W.gtrans ((hm.mono up).then_heap (YCe _) fun b o hb e=>(sb.2 b fun z=>hb (z▸YAd)).trans e) hm2) hS3
end
theorem Zb9 {i:Nat}{u:Value}:∀ {vs:List V} {us:List Value} ,Vals vs us→us[i]?=some u→∃v,vs[i]?=some v∧RelV v u:=by
 induction i with
 | zero=>
  intro vs us r e
  cases r with
  | nil=>cases e
  | cons r1 _=>cases e;exact⟨_,rfl,r1⟩
 | succ i ih=>
  intro vs us r e
  cases r with
  | nil=>cases e
  | cons _ r2=>exact ih r2 e
structure Walked (prog:Program)(w:World)(x:Value)(s:Shared)(T:String)(n:Nat)(val:Nat→List Nat):Prop where
 ty:∀s1:Shared,(∀b o,s.heap.get? b=some o→s1.heap.get? b=some o)→s1.TypeIs x T
 go:∀(A:Around) (s1:Shared) (Q:Value→Shared→Prop) (E:Value→Shared→Prop),A.handled=none→(∀b o,s.heap.get? b=some o→s1.heap.get? b=some o) →
  (∀(h2:Heap) (I:Addr) (fp wr:List Addr) (Pi:Nat→Value→Prop) (St:Nat→Heap→Prop),(∀A':Around,A'.handled=none→Walks prog w A' I fp wr n Pi St)→St 0 h2 →
   (∀b∈fp,b<s.heap.objs.size∨s1.heap.objs.size≤b)→(∀b∈wr,s1.heap.objs.size≤b)→(∀b o,s1.heap.get? b=some o→h2.get? b=some o)→(∀i v,Pi i v→∃t,v=.str ⟨(val i).toArray⟩ t)→Q (.ref I) { s1 with heap:=h2 }) →
  wpAny (model prog w) A (pyIter x) Q E s1
theorem Zfw {prog:Program}{w:World}{s:Shared}{l:Addr}{us:List Value}{ls:List (List Nat)}(hl:s.heap.IsList l us.toArray)(r:Vals (ls.map tx) us):Walked prog w (.ref l) s "list" ls.length (fun i=>ls.getD i []) where
 ty:=fun s1 k=>by
  obtain⟨o,ho,hc,_⟩:=hl
  exact⟨o,k _ _ ho,hc⟩
 go:=fun A s1 Q E hh k h=>by
  obtain⟨o,ho,hc,hr⟩:=id hl
  have hl1:s1.heap.IsList l us.toArray:=⟨o,k _ _ ho,hc,hr⟩
  have hlt:=YAG ho
  have hlt1:=YAG (k _ _ ho)
  have hlen:us.toArray.size=ls.length:=by rw[YAH,←r.length,YAD]
  refine YCj hl1 ?_
  have W:∀A':Around,A'.handled=none→Walks prog w A' s1.heap.objs.size [s1.heap.objs.size,l] [s1.heap.objs.size] ls.length (fun i v=>us.toArray[i]?=some v) (fun i h=>h.IsListIter s1.heap.objs.size l i∧h.IsList l us.toArray):=fun A' hA=>by
   have q:=Walks.list (prog:=prog) (w:=w) hA s1.heap.objs.size l (YAY hlt1) us.toArray
   rwa [hlen]at q
  refine h _ _ _ _ _ _ W ⟨⟨_,YAF _ rfl,rfl,rfl⟩,hl1.push _⟩ (fun b hb=>?_) (fun b hb=>?_) (fun b o e=>YAB _ e) (fun i v e=>?_)
  ·rcases YAM.mp hb with z | z
   ·exact .inr (YCQ z.symm)
   ·have z:b=l:=by simpa using z
    rw[z];exact .inl hlt
  ·have z:b=s1.heap.objs.size:=by simpa using hb
   exact YCQ z.symm
  ·have e':us[i]?=some v:=by simpa using e
   obtain⟨v',hv',rv⟩:=Zb9 r e'
   rw[YAk]at hv'
   cases q:ls[i]? with
   | none=>rw[q]at hv';cases hv'
   | some m=>
    rw[q]at hv'
    cases hv'
    obtain⟨t,rfl⟩:=rv
    exact⟨t,by rw[YAR,q];rfl⟩
theorem Zfv {prog:Program}{w:World}{s:Shared}{l:List Nat}{t:Tok}:Walked prog w (.str ⟨l.toArray⟩ t) s "str" l.length (fun i=>[l.getD i 0]) where
 ty:=fun s1 _=>typeIs_str s1 _ _
 go:=fun A s1 Q E hh k h=>by
  have hlen:(⟨l.toArray⟩:Str).cps.size=l.length:=by show l.toArray.size=_;simp
  have item:∀(i:Nat) (v:Value),(∃c u,(⟨l.toArray⟩:Str).cps[i]?=some c∧v=.str ⟨#[c]⟩ u)→∃t,v=.str ⟨[l.getD i 0].toArray⟩ t:=by
   rintro i v ⟨c,u,e,rfl⟩
   have e':l[i]?=some c:=by simpa using e
   exact⟨u,by rw[YAR,e'];rfl⟩
  refine wpAny_pyIter_str fun o St W st=>?_
  rw[hlen]at W
  refine h _ _ _ _ _ _ W st (fun b hb=>.inr ?_) (fun b hb=>?_) (fun b o e=>YAB _ e) (fun i v ⟨c,u,e,e2⟩=>item i v ⟨c,u,e,e2⟩)
  ·have z:b=s1.heap.objs.size:=by simpa using hb
   exact YCQ z.symm
  ·have z:b=s1.heap.objs.size:=by simpa using hb
   exact YCQ z.symm
section
variable {prog:Program}{w:World}{A:Around}{E:Value→Shared→Prop}{s:Shared}
abbrev ZeW (led:Bool):Obj:={ cls:=.type "set",dict:=none,data:=.set #[] 0 (.fresh 0 0 led) }
theorem Zhl {h:Heap}{a:Addr}{led:Bool}(ho:h.get? a=some (ZeW led)):TxSet prog w h a [] led:=
 ⟨_,#[],0,_,[],ho,⟨rfl,rfl,rfl⟩,rfl,fun e he=>by simp at he,rfl,rfl,fun _=>rfl,.refl _,.nil,by show 0<4096;decide⟩
def Za6 (w:World):Bool:=w.params.followText "set-order"
theorem Zkk (a:Value){Q₁:Value→Shared→Prop}(h:Q₁ (.ref s.heap.objs.size) { s with heap:=s.heap.push (ZeW (!Za6 w)) }):
  codeAny (model prog w) A (.call (.builtin "set.__new__") ⟨[.type "set",a],[]⟩) (wants Q₁ E) s:=by
 refine codeAny_of_tree ?_
 show wpAny _ A.in1 (checkBuiltinCall "set.__new__" ⟨[.type "set",a],[]⟩ >>= fun _=>again (.builtin "set.__new__" ⟨[.type "set",a],[]⟩)) _ _ s
 refine YAA (wpAny_of_eq (F.newCall_set_1 a) (YAC ⟨plainId_quiet F.plain_set_new _,codeAny_builtin F.entry_set_new ?_⟩))
 rw[YBi F.plain_set_new _]
 unfold Builtin.«set.__new__» Builtin.Frozenset.newClass
 have hsub:=sub_set_self
 obtain⟨hp,g,d,tk,os⟩:=s
 dsimp only
 wp_walk
 refine YCs (YAC ?_)
 dsimp only
 simp only[newObj]
 exact YAA (wpAny_alloc (YAC (YAC h)))
set_option maxHeartbeats 3200000 in
theorem Zga {x:Value} {T:String} {n:Nat} {val:Nat→List Nat} {Q:Value→Shared→Prop} (hh:A.handled=none) (W:Walked prog w x s T n val) (t1:isSubtype (.type T) (.type "set")=pure false) (t2:isSubtype (.type T) (.type "frozenset")=pure false)
  (t3:(Value.type T == Value.type "dict")=false) (hb:n+1<scanBound)
  (h:∀(h':Heap) (tk:Nat),TxSet prog w h' s.heap.objs.size (dd val n) (!Za6 w)→(∀b o,s.heap.get? b=some o→h'.get? b=some o)→s.toks≤tk→Q (.ref s.heap.objs.size) { s with heap:=h',toks:=tk }):
  wpAny (model prog w) A (call (.type "set") [x]) Q E s:=by
 obtain⟨c,tl,hmro⟩:=F.called_set.mro
 have hmade:=F.called_set.made
 have hsub:=F.called_set.sub
 refine YCJ (codeAny_of_tree ?_)
 show wpAny _ _ (callAny (.type "set") _) _ _ _
 refine YAC ⟨Code.quiet_builtin _ (by decide +kernel),codeAny_builtin F.entry_type_call ?_⟩
 rw[Around.under_plain (weight_type_call_type "set" [x] []) rfl]
 have h1:=F.called_set.notType
 have h2:=F.called_set.canCreate
 have hct:=F.typeCall_set_1 x
 repeat (any_goals (first | assumption | wp_step))
 refine codeAny_mono (Zkk x (E:=E) (Q₁:=fun ob s₁=>ob=.ref s.heap.objs.size∧s₁={ s with heap:=s.heap.push (ZeW (!Za6 w)) }) ⟨rfl,rfl⟩) fun r s₁ hr=>?_
 cases r with
 | error e=>exact hr
 | ok fl=>
  cases fl with
  | ret ob=>
   obtain⟨rfl,rfl⟩:=hr
   have hS:(s.heap.push (ZeW (!Za6 w))).get? s.heap.objs.size=some (ZeW (!Za6 w)):=YAF _ rfl
   have hT:Shared.TypeIs { s with heap:=s.heap.push (ZeW (!Za6 w)) } (.ref s.heap.objs.size) "set":=⟨_,hS,rfl⟩
   have hli:=F.called_set.init.lookup
   have hbi:=F.called_set.init.bind (.ref s.heap.objs.size)
   have keep1:∀b o,s.heap.get? b=some o→(s.heap.push (ZeW (!Za6 w))).get? b=some o:=fun b o e=>YAB _ e
   repeat (any_goals (first | assumption | wp_step))
   refine codeAny_mono (codeAny_call_builtin (R:=wants (fun r s₂=>r=.none∧∃h' tk,s₂={ s with heap:=h',toks:=tk }∧TxSet prog w h' s.heap.objs.size (dd val n) (!Za6 w)∧(∀b o,s.heap.get? b=some o→h'.get? b=some o)∧s.toks≤tk) E)
    F.called_set.init.plain F.entry_set_init (check_set_init_1 hT ?_)) fun r₂ s₂ hr₂=>?_
   ·have hTx:=W.ty { s with heap:=s.heap.push (ZeW (!Za6 w)) } keep1
    unfold Builtin.«set.__init__» noKeywords Builtin.Frozenset.updateFrom
    generalize hPI:pyIter=PI
    wp_walk
    subst hPI
    refine W.go _ _ _ _ (by simp[hh]) keep1 fun h2 I fp wr Pi St Wk st f1 f2 k2 hval=>?_
    refine YAA (wpAny_runValue ?_)
    have hSf:s.heap.objs.size∉fp:=fun z=>by
     rcases f1 _ z with q | q
     ·exact YAt _ q
     ·rw[YAs]at q;exact absurd q (Nat.not_succ_le_self _)
    refine ZiN ((Wk A.in1.in1.in1 (by simp[hh])).toS) s.heap.objs.size hSf val hval hb (n-0) 0 _ (by omega) (YBI _) st (Zhl (k2 _ _ hS)) fun s' hm hS'=>?_
    obtain⟨h',g',d',tk',os'⟩:=s'
    have eg:g'=s.gens:=hm.gens
    have ed:d'=s.drawn:=hm.drawn
    have eo:os'=s.os:=hm.os
    have et:s.toks≤tk':=hm.toks
    subst eg ed eo
    refine YAC ?_
    refine YAC ⟨rfl,h',tk',rfl,hS',fun b o e=>?_,et⟩
    have hlt:=YAG e
    refine hm.heap b o (fun z=>?_) (k2 b o (keep1 b o e))
    rcases YAM.mp z with q | q
    ·rw[q]at hlt;exact YAt _ hlt
    ·have q2:=f2 b q
     rw[YAs]at q2
     exact absurd (YAi hlt (Nat.le_of_succ_le q2)) (YAt _)
   ·cases r₂ with
    | error e=>exact hr₂
    | ok fl₂=>
     cases fl₂ with
     | ret r=>
      obtain⟨rfl,h',tk,rfl,hS',hk',htk⟩:=hr₂
      repeat (any_goals (first | assumption | wp_step))
      exact h _ _ hS' hk' htk
     | _=>exact hr₂.elim
  | _=>exact hr.elim
end
theorem Zbj {α:Type}:∀(xs:List α) (i:Nat) (h:i<xs.length),(xs[i]::xs.eraseIdx i).Perm xs
 | x::xs,0,_=>.refl _
 | x::xs,i+1,h=>by
  have hi:i<xs.length:=by simpa using h
  have ih:=Zbj xs i hi
  show (xs[i]::x::xs.eraseIdx i).Perm (x::xs)
  exact(List.Perm.swap _ _ _).trans (ih.cons x)
section
variable {M:Model}{A:Around}{E:Value→Shared→Prop}{s:Shared}
theorem wp_choose' {src:Source}{n:Nat}{Q:Nat→Shared→Prop}(hn:n≠0)(h:∀i d,i<n→Q i { s with drawn:=d }):wpAny M A (choose src n) Q E s:=fun Γ p hΓ=>by
 unfold choose
 rw[Sem.wp_choose]
 exact⟨hn,h _ _ (Nat.mod_lt _ (Nat.pos_of_ne_zero hn))⟩
theorem ZcJ {α:Type}:∀(n:Nat) (xs:List α) (s:Shared) (Q:List α→Shared→Prop),xs.length=n→(∀ys d,ys.Perm xs→Q ys { s with drawn:=d })→wpAny M A (drawOrder n xs) Q E s
 | 0,xs,s,Q,hl,h=>by
  have e:xs=[]:=YDI hl
  subst e
  unfold drawOrder
  exact YAC (h [] s.drawn (.refl _))
 | n+1,[],s,Q,hl,h=>by cases hl
 | n+1,x::xs,s,Q,hl,h=>by
  unfold drawOrder
  refine YAA (wp_choose' (by simp) fun i d hi=>?_)
  have e:(x::xs)[i]?=some (x::xs)[i]:=YAL hi
  rw[e]
  dsimp only
  refine YAA (ZcJ n ((x::xs).eraseIdx i) _ _ ?_ fun ys d' p=>YAC ?_)
  ·rw[YDY hi,hl];rfl
  ·refine h _ d' ((List.Perm.cons _ p).trans ?_)
   exact Zbj _ _ hi
end
theorem ZdG:entryFor table "set.__iter__"=some Builtin.«frozenset.__iter__»:=entryFor_alias (id':="frozenset.__iter__") (by kernel_rfl) rfl (by decide +kernel) (by kernel_rfl)
theorem ZaB:Slot "set_iterator" "__next__" "set_iterator.__next__":=
 .of (owner:="set_iterator") (n:="__next__") (by rw[typeLookup_type,builtinLookup_eq_fast];kernel_rfl) (by decide +kernel) (by decide +kernel) (by decide +kernel)
  (by first | exact .inl (by decide +kernel) | exact .inr (by decide +kernel)) (by rw[isSubtype_type];kernel_rfl)
theorem Zbt:entryFor table "set_iterator.__next__"=some Builtin.«set_iterator.__next__»:=entryFor_of_fast (by kernel_rfl)
theorem ZbC (a:Value):argsOk "set_iterator.__next__" ⟨[a],[]⟩:=by unfold argsOk;kernel_rfl
section
variable {prog:Program}{w:World}{A:Around}{E:Value→Shared→Prop}{s:Shared}
def SetIt (h:Heap)(I S:Addr)(first:Value)(i n ep:Nat):Prop:=∃o,h.get? I=some o∧o.cls=.type "set_iterator"∧o.data=.fields #[first,.int i 0,.ref S,.int n 0,.int ep 0]
theorem Zla {t:SetTable}{n:Nat}(hf:t.fits n=true):(t.place.size != n || decide (t.fill>t.mask))=false:=by
 simp only[SetTable.fits,YAT,beq_iff_eq,decide_eq_true_eq]at hf
 simp[hf.1,Nat.not_lt.mpr hf.2]
theorem Zjh {S:Addr}{o:Obj}{es:Array (Int×Value)}{ep:Nat}{t:SetTable}{Q:Value→Shared→Prop}(ho:s.heap.get? S=some o)(hex:o.ExactSet)(hd:o.data=.set es ep t)(hf:t.fits es.size=true)(hz:es.size≤sizeLine)
  (h0:(Za6 w=true∨(t.plain=true∨es.size≤1))→Q (.ref s.heap.objs.size) { s with heap:=s.heap.push { cls:=.type "set_iterator",data:=.fields #[.int 0 0,.int 0 0,.ref S,.int es.size 0,.int ep 0] } })
  (h1:∀(ps:List Nat) (d:Drawn),ps.Perm (List.range es.size)→Q (.ref (s.heap.objs.size+1)) { s with drawn:=d,heap:=(Heap.push s.heap { cls:=.type "tuple",data:=.seq (ps.map (fun i=>Value.int ((i:Nat):Int) 0)).toArray }).push { cls:=.type "set_iterator",data:=.fields #[.ref s.heap.objs.size,.int 0 0,.ref S,.int es.size 0,.int ep 0] } }):wpAny (model prog w) A (pyIter (.ref S)) Q E s:=by
 have hT:s.TypeIs (.ref S) "set":=⟨o,ho,hex.1⟩
 refine wpAny_pyIter_slot hT F.slot_set_iter (YBj F.slot_set_iter hT ZdG ?_ (F.args_set_iter_1 _))
 unfold Builtin.«frozenset.__iter__» Builtin.Frozenset.sizeOf setDrawn setsByText
 wp_walk
 rw[hd]
 dsimp only
 rw[Zla hf]
 rw[YAJ YAE]
 refine YAC (YAC (YAC ?_))
 refine YAA (YAA (YCi ho hd hf ?_))
 dsimp only
 refine YAA (YAA (YCs (YAC (YAC ?_))))
 show wpAny _ _ (if (!Za6 w&&(!t.plain&&decide (es.size>1)))=true then _ else _) _ _ _
 split
 ·refine YAA (ZcJ es.size (List.range es.size) _ _ (by simp) fun ps d p=>?_)
  refine YAA ?_
  simp only[newTuple]
  refine YBZ ?_ (by show (List.map _ ps).toArray.size≤sizeLine;rw[YAH,YAD,p.length_eq,YBb];exact hz)
  refine YAA (wpAny_setEpoch_of (YAB _ ho) hd hf (YAA (YBZ (YAC ⟨_,rfl,"set_iterator",_,⟨_,YAF _ rfl,rfl⟩,ZaB.lookup,?_⟩))))
  have q:=h1 ps d p
  rw[YAs]
  exact q
 ·rename_i hb
  refine YAA (YAC ?_)
  refine YAA (wpAny_setEpoch_of ho hd hf (YAA (YBZ (YAC ⟨_,rfl,"set_iterator",_,⟨_,YAF _ rfl,rfl⟩,ZaB.lookup,h0 ?_⟩))))
  cases h:Za6 w with
  | true=>exact .inl rfl
  | false=>
   refine .inr ?_
   cases h':t.plain with
   | true=>exact .inl rfl
   | false=>
    rw[h,h']at hb
    simp at hb
    exact .inr hb
end
section
variable {prog:Program}{w:World}{A:Around}{E:Value→Shared→Prop}{s:Shared}{I S:Addr}{o:Obj}{es:Array (Int×Value)}{ep i n:Nat}{t:SetTable}
theorem SetIt.typ {first:Value}(h:SetIt s.heap I S first i n ep):s.TypeIs (.ref I) "set_iterator":=let ⟨o,h1,h2,_⟩:=h;⟨o,h1,h2⟩
abbrev Znl (I S:Addr)(slot i ep:Nat):Sem PySem.Fin:=do
 match ←setNext S slot i ep with
 | some (x,next)=>do
  setField (.ref I) 0 (rawInt (next:Nat))
  setField (.ref I) 1 (rawInt ((i:Int)+1))
  ret x
 | none=>do
  setField (.ref I) 2 Value.none
  raiseNew (←newExc (Value.type "StopIteration") [])
abbrev Zlk (I S:Addr)(first:Value)(i ep:Nat):Sem PySem.Fin:=do
 match ←seqItems? first with
 | some places=>match places[i]? with
  | some (.int place _)=>do
   let x ←setNextDrawn S place.toNat ep
   setField (.ref I) 1 (rawInt ((i:Int)+1))
   ret x
  | some _=>unsupported "internal:set_iterator"
  | none=>do
   setField (.ref I) 0 (rawInt 0)
   setField (.ref I) 2 Value.none
   raiseNew (←newExc (Value.type "StopIteration") [])
 | _=>unsupported "internal:set_iterator"
abbrev NxQ (prog:Program)(w:World)(A:Around)(Q:Option Value→Shared→Prop)(E:Value→Shared→Prop)(fin:PySem.Fin)(s':Shared):Prop:=∃v,fin=Fin.done (Flow.ret v)∧Q (some v) s'
abbrev NxE (prog:Program)(w:World)(A:Around)(Q:Option Value→Shared→Prop)(E:Value→Shared→Prop)(e:Value)(s':Shared):Prop:=
 wpAny (model prog w) A (do let b ←isInstance e (Value.type "StopIteration");if b=true then pure none else throw e) Q E s'
theorem Zcq {slot:Nat}{Q:Option Value→Shared→Prop}(hi:SetIt s.heap I S (.int (slot:Nat) 0) i es.size ep)(ho:s.heap.get? S=some o)(hd:o.data=.set es ep t)(hf:t.fits es.size=true)
  (h:wpAny (model prog w) A.in1 (Znl I S slot i ep) (NxQ prog w A Q E) (NxE prog w A Q E) s):wpAny (model prog w) A (pyNext (.ref I)) Q E s:=by
 obtain⟨oi,hoi,hci,hdi⟩:=id hi
 unfold pyNext
 refine YAA (YCC (wpAny_callSpecial?_slot (name:=Str.ofString "__next__") hi.typ ZaB (YBj ZaB hi.typ Zbt ?_ (ZbC _))))
 unfold Builtin.«set_iterator.__next__»
 wp_walk
 rw[hdi]
 dsimp only
 refine YAC ?_
 dsimp only
 refine YAA (wpAny_setEntries_of ho hd hf ?_)
 (try dsimp only)
 rw[YAJ (by simp)]
 refine YBB h (fun fin s' q=>?_) fun e s' q=>q
 obtain⟨v,rfl,q⟩:=q
 exact⟨v,rfl,YAC q⟩
theorem ZdT {tp:Addr}{Q:Option Value→Shared→Prop}(hi:SetIt s.heap I S (.ref tp) i es.size ep)(ho:s.heap.get? S=some o)(hd:o.data=.set es ep t)(hf:t.fits es.size=true)
  (h:wpAny (model prog w) A.in1 (Zlk I S (.ref tp) i ep) (NxQ prog w A Q E) (NxE prog w A Q E) s):wpAny (model prog w) A (pyNext (.ref I)) Q E s:=by
 obtain⟨oi,hoi,hci,hdi⟩:=id hi
 unfold pyNext
 refine YAA (YCC (wpAny_callSpecial?_slot (name:=Str.ofString "__next__") hi.typ ZaB (YBj ZaB hi.typ Zbt ?_ (ZbC _))))
 unfold Builtin.«set_iterator.__next__»
 wp_walk
 rw[hdi]
 dsimp only
 refine YAC ?_
 dsimp only
 refine YAA (wpAny_setEntries_of ho hd hf ?_)
 (try dsimp only)
 rw[YAJ (by simp)]
 refine YBB h (fun fin s' q=>?_) fun e s' q=>q
 obtain⟨v,rfl,q⟩:=q
 exact⟨v,rfl,YAC q⟩
theorem ZfA {Q:Option Value→Shared→Prop}(hh:A.handled=none)(hQ:∀h',(∀b o,s.heap.get? b=some o→h'.get? b=some o)→Q none { s with heap:=h' }):
  wpAny (model prog w) A.in1 (do raiseNew (←newExc (Value.type "StopIteration") [])) (NxQ prog w A Q E) (NxE prog w A Q E) s:=by
 refine YAA ?_
 simp only[newExc,newTuple]
 refine YAA (YBZ ?_ (by size_fits))
 refine YAA (m:=firstArgMember _ _) (wpAny_of_eq (a:=Value.none) (by first | rfl | (simp only[firstArgMember];rfl)) ?_)
 refine YBZ ?_ (by size_fits)
 simp only[raiseNew]
 refine YAA (wpAny_handled ?_)
 rw[show A.in1.handled=none from hh]
 refine YAA (YAC (wpAny_throw ?_))
 refine YAA (wpAny_isInstance (T:="StopIteration") (b:=true) ⟨_,YAF _ rfl,rfl⟩ isSubtype_stop ?_)
 exact YAC (hQ _ fun b o e=>YAB _ (YAB _ e))
theorem ZdU {h:Heap} {v:Value} {k:Nat} {oi:Obj} {vs:Array Value} (hoi:h.get? I=some oi) (hci:oi.cls=.type "set_iterator") (hdi:oi.data=.fields vs):
  ∃o',(h.update I (Obj.mapFields (·.setIfInBounds k v))).get? I=some o'∧o'.cls=.type "set_iterator"∧o'.data=.fields (vs.setIfInBounds k v):=
 ⟨_,YBR _ hoi (YDE (YCD hdi _)),(Obj.cls_mapFields ..).trans hci,YCD hdi _⟩
theorem Zda {slot:Nat}{Q:Option (Value×Nat)→Shared→Prop}(ho:s.heap.get? S=some o)(hd:o.data=.set es ep t)(hf:t.fits es.size=true)(hb:Za6 w=true)
  (h:Q (((pickOrder (w.params.setOrder S ep) es)[i]?).map fun e=>(e.2,slot)) s):wpAny (model prog w) A (setNext S slot i ep) Q E s:=by
 unfold setNext
 refine YAA (YCi ho hd hf ?_)
 dsimp only
 unfold setsByText
 refine YAA (YAA (YCs (YAC ?_)))
 show wpAny _ _ (if Za6 w=true then _ else _) _ _ _
 rw[hb,YAO rfl,YAJ (by simp)]
 unfold setWalk
 refine YAA (YAA (YCi ho hd hf ?_))
 dsimp only
 unfold setsByText
 refine YAA (YAA (YCs (YAC ?_)))
 show wpAny _ _ (if Za6 w=true then _ else _) _ _ _
 rw[hb,YAO rfl]
 exact YAA (YCs (YAC (YAC h)))
theorem Zdb {slot:Nat}{Q:Option (Value×Nat)→Shared→Prop}(ho:s.heap.get? S=some o)(hd:o.data=.set es ep t)(hf:t.fits es.size=true)(hb:Za6 w=false)(hl:t.led=true)(h1:es.size≤1)
  (h:Q (match es[SetTable.below t.place slot]?,t.place[SetTable.below t.place slot]? with | some (_,x),some j=>some (x,j+1) | _,_=>none) s):wpAny (model prog w) A (setNext S slot i ep) Q E s:=by
 unfold setNext
 refine YAA (YCi ho hd hf ?_)
 dsimp only
 unfold setsByText
 refine YAA (YAA (YCs (YAC ?_)))
 show wpAny _ _ (if Za6 w=true then _ else (if (!t.plain&&decide (es.size>1))=true then _ else _)) _ _ _
 have hn:¬es.size>1:=by omega
 rw[hb,YAJ YAE,decide_eq_false hn,YCY,YAJ YAE]
 show wpAny _ _ ((if (!t.led&&!es.isEmpty)=true then (do let _ ←(unsupported "set:maker-not-led":Sem Unit);pure ()) else pure ()) >>= fun _=>_) _ _ _
 rw[hl,Bool.not_true,YBY,YAJ YAE]
 exact YAA (YAC (YAC h))
end
theorem ZeK {α:Type}{next:Nat→Nat}:∀(fuel k:Nat) (left:List α) (out:Array α),left.length=fuel→(pickOrder.go next fuel k left out).toList.Perm (out.toList++left)
 | 0,k,left,out,h=>by
  have e:left=[]:=YDI h
  subst e
  unfold pickOrder.go
  simp
 | fuel+1,k,left,out,h=>by
  have hlt:next k % left.length<left.length:=Nat.mod_lt _ (by omega)
  unfold pickOrder.go
  rw[YAL hlt]
  dsimp only
  refine(ZeK fuel (k+1) _ _ (by rw[YDY hlt,h];rfl)).trans ?_
  rw[YBW,YAh]
  exact(Zbj left _ hlt).append_left _
theorem Zbu {α:Type}{next:Nat→Nat}{xs:Array α}:(pickOrder next xs).toList.Perm xs.toList:=by
 unfold pickOrder
 have:=ZeK (next:=next) xs.size 0 xs.toList #[] (by simp)
 simpa using this
theorem Zby:Slot "set_iterator" "__iter__" "set_iterator.__iter__":=
 .of (owner:="set_iterator") (n:="__iter__") (by rw[typeLookup_type,builtinLookup_eq_fast];kernel_rfl) (by decide +kernel) (by decide +kernel) (by decide +kernel) (by first | exact .inl (by decide +kernel) | exact .inr (by decide +kernel)) (by rw[isSubtype_type];kernel_rfl)
theorem Zcu:entryFor table "set_iterator.__iter__"=some Builtin.«dict_keyiterator.__iter__»:=entryFor_alias (id':="dict_keyiterator.__iter__") (by kernel_rfl) rfl (by decide +kernel) (by kernel_rfl)
theorem ZcG (a:Value):argsOk "set_iterator.__iter__" ⟨[a],[]⟩:=by unfold argsOk;kernel_rfl
section
variable {prog:Program}{w:World}{A:Around}{E:Value→Shared→Prop}{s:Shared}{I S:Addr}{o:Obj}{es:Array (Int×Value)}{ep i n:Nat}{t:SetTable}
theorem Zdq {first:Value}{Q:Value→Shared→Prop}(hi:SetIt s.heap I S first i n ep)(h:Q (.ref I) s):wpAny (model prog w) A (pyIter (.ref I)) Q E s:=by
 refine wpAny_pyIter_slot hi.typ Zby (YBj Zby hi.typ Zcu ?_ (ZcG _))
 show wpAny _ _ (ret (.ref I)) _ _ s
 exact YAC ⟨_,rfl,"set_iterator",_,hi.typ,ZaB.lookup,h⟩
theorem Zb1 {h h':Heap}{o:Obj}(sb:Heap.SameBut I h h')(hne:S≠I)(ho:h.get? S=some o):h'.get? S=some o:=(sb.2 S hne).trans ho
theorem Zhh (hh:A.handled=none)(hne:S≠I)(hd:o.data=.set es ep t)(hf:t.fits es.size=true)(hb:Za6 w=true):
  Walks prog w A I [I,S] [I] es.size (fun i v=>(((pickOrder (w.params.setOrder S ep) es).toList).map (·.2))[i]?=some v) (fun i h=>SetIt h I S (.int ((0:Nat):Int) 0) i es.size ep∧h.get? S=some o) where
 sub:=fun b hb=>by simp at hb;simp[hb]
 frame:=fun i h h' ⟨⟨oi,h1,r⟩,h2⟩ hk=>⟨⟨oi,hk I (by simp) _ h1,r⟩,hk S (by simp) _ h2⟩
 item:=fun i s Q E hi ⟨st,ho⟩ hQ=>by
  have hl:(pickOrder (w.params.setOrder S ep) es).size=es.size:=by rw[←YAN,Zbu.length_eq,YAN]
  have he:(pickOrder (w.params.setOrder S ep) es)[i]?=some (pickOrder (w.params.setOrder S ep) es)[i]:=by simp[hl,hi]
  refine Zcq st ho hd hf (YAA (Zda ho hd hf hb ?_))
  rw[he]
  dsimp only[Option.map_some]
  obtain⟨oi,g1,g2,g3⟩:=id st
  refine YAA (YBS g1 g3 (by simp) ?_)
  obtain⟨o1,k1,k2,k3⟩:=ZdU (v:=rawInt ((0:Nat):Int)) (k:=0) g1 g2 g3
  refine YAA (YBS k1 k3 (by simp) ?_)
  obtain⟨o2,m1,m2,m3⟩:=ZdU (v:=rawInt ((i:Int)+1)) (k:=1) k1 k2 k3
  have sb:=(YAa s.heap I (Obj.mapFields (·.setIfInBounds 0 (rawInt ((0:Nat):Int))))).trans (YAa _ I (Obj.mapFields (·.setIfInBounds 1 (rawInt ((i:Int)+1)))))
  refine YAC ⟨_,rfl,hQ _ _ s.toks ?_ ⟨⟨o2,m1,m2,?_⟩,Zb1 sb hne ho⟩ fun b o hb e=>(sb.2 b (by simpa using hb)).trans e⟩
  ·rw[YAk,YAl,he];rfl
  ·rw[m3];simp[rawInt]
 done:=fun s Q E ⟨st,ho⟩ hQ=>by
  have hl:(pickOrder (w.params.setOrder S ep) es).size=es.size:=by rw[←YAN,Zbu.length_eq,YAN]
  have he:(pickOrder (w.params.setOrder S ep) es)[es.size]?=none:=by simp[hl]
  refine Zcq st ho hd hf (YAA (Zda ho hd hf hb ?_))
  rw[he]
  dsimp only[Option.map_none]
  obtain⟨oi,g1,g2,g3⟩:=id st
  refine YAA (YBS g1 g3 (by simp) ?_)
  have sb:=YAa s.heap I (Obj.mapFields (·.setIfInBounds 2 Value.none))
  exact ZfA (A:=A) hh fun h' k=>hQ h' s.toks fun b o hb e=>k b o ((sb.2 b (by simpa using hb)).trans e)
 self:=fun i s Q E ⟨st,_⟩ hQ=>Zdq st hQ
def ZcD (t:SetTable)(i:Nat):Nat:=if i=0 then 0 else t.place.getD 0 0+1
theorem Zhd {xs:Array Nat}:SetTable.below xs 0=0:=by
 unfold SetTable.below
 have all:∀fuel hi,SetTable.below.go xs 0 fuel 0 hi=0:=by
  intro fuel
  induction fuel with
  | zero=>intro hi;unfold SetTable.below.go;rfl
  | succ f ih=>
   intro hi
   unfold SetTable.below.go
   split
   ·rw[YAJ (Nat.not_lt_zero _)];exact ih _
   ·rfl
 exact all _ _
theorem Ziy {j:Nat}:SetTable.below #[j] (j+1)=1:=by
 unfold SetTable.below
 show SetTable.below.go #[j] (j+1) 1 0 1=1
 unfold SetTable.below.go
 simp[SetTable.below.go]
theorem Zmf {xs:Array Nat}(h:xs.size=1):∃j,xs=#[j]:=by
 obtain⟨l⟩:=xs
 match l,h with
 | [j],_=>exact⟨j,rfl⟩
theorem Zhi (hh:A.handled=none)(hne:S≠I)(hd:o.data=.set es ep t)(hf:t.fits es.size=true)(hb:Za6 w=false)(hl:t.led=true)(h1:es.size≤1):
  Walks prog w A I [I,S] [I] es.size (fun i v=>(es.toList.map (·.2))[i]?=some v) (fun i h=>SetIt h I S (.int ((ZcD t i:Nat):Int) 0) i es.size ep∧h.get? S=some o) where
 sub:=fun b hb=>by simp at hb;simp[hb]
 frame:=fun i h h' ⟨⟨oi,h1,r⟩,h2⟩ hk=>⟨⟨oi,hk I (by simp) _ h1,r⟩,hk S (by simp) _ h2⟩
 item:=fun i s Q E hi ⟨st,ho⟩ hQ=>by
  have i0:i=0:=by omega
  subst i0
  have ps:t.place.size=es.size:=by
   have:=hf
   simp only[SetTable.fits,YAT,beq_iff_eq]at this
   exact this.1
  have he:es[0]?=some es[0]:=by simp[hi]
  have hp:t.place[0]?=some (t.place.getD 0 0):=by
   have:0<t.place.size:=by omega
   simp[this]
  refine Zcq st ho hd hf (YAA (Zdb ho hd hf hb hl h1 ?_))
  rw[show ZcD t 0=0 from rfl,Zhd,he,hp]
  dsimp only
  obtain⟨oi,g1,g2,g3⟩:=id st
  refine YAA (YBS g1 g3 (by simp) ?_)
  obtain⟨o1,k1,k2,k3⟩:=ZdU (v:=rawInt ((t.place.getD 0 0+1:Nat):Int)) (k:=0) g1 g2 g3
  refine YAA (YBS k1 k3 (by simp) ?_)
  obtain⟨o2,m1,m2,m3⟩:=ZdU (v:=rawInt (((0:Nat):Int)+1)) (k:=1) k1 k2 k3
  have sb:=(YAa s.heap I (Obj.mapFields (·.setIfInBounds 0 (rawInt ((t.place.getD 0 0+1:Nat):Int))))).trans (YAa _ I (Obj.mapFields (·.setIfInBounds 1 (rawInt (((0:Nat):Int)+1)))))
  refine YAC ⟨_,rfl,hQ _ _ s.toks ?_ ⟨⟨o2,m1,m2,?_⟩,Zb1 sb hne ho⟩ fun b o hb e=>(sb.2 b (by simpa using hb)).trans e⟩
  ·rw[YAk,YAl,he];rfl
  ·rw[m3];simp[rawInt,ZcD]
 done:=fun s Q E ⟨st,ho⟩ hQ=>by
  have ps:t.place.size=es.size:=by
   have:=hf
   simp only[SetTable.fits,YAT,beq_iff_eq]at this
   exact this.1
  have hn:es[SetTable.below t.place (ZcD t es.size)]?=none:=by
   have hz:es.size=0∨es.size=1:=by omega
   rcases hz with z | z
   ·simp[z]
   ·have e1:∃j,t.place=#[j]:=by
     have:t.place.size=1:=by omega
     exact Zmf this
    obtain⟨j,ej⟩:=e1
    have:ZcD t es.size=j+1:=by unfold ZcD;rw[YAJ (by omega),ej];rfl
    rw[this,ej,Ziy]
    simp[z]
  refine Zcq st ho hd hf (YAA (Zdb ho hd hf hb hl h1 ?_))
  rw[hn]
  dsimp only
  obtain⟨oi,g1,g2,g3⟩:=id st
  refine YAA (YBS g1 g3 (by simp) ?_)
  have sb:=YAa s.heap I (Obj.mapFields (·.setIfInBounds 2 Value.none))
  exact ZfA (A:=A) hh fun h' k=>hQ h' s.toks fun b o hb e=>k b o ((sb.2 b (by simpa using hb)).trans e)
 self:=fun i s Q E ⟨st,_⟩ hQ=>Zdq st hQ
theorem ZgU {p:Nat}{e:Int×Value}{Q:Value→Shared→Prop}(ho:s.heap.get? S=some o)(hd:o.data=.set es ep t)(hf:t.fits es.size=true)(he:es[p]?=some e)(h:Q e.2 s):wpAny (model prog w) A (setNextDrawn S p ep) Q E s:=by
 unfold setNextDrawn
 refine YAA (YCi ho hd hf ?_)
 dsimp only
 rw[YAJ (by simp),he]
 exact YAC h
theorem Zfu {tp:Addr}{ps:List Nat}(hh:A.handled=none)(hne:S≠I)(hnt:tp≠I)(hd:o.data=.set es ep t)(hf:t.fits es.size=true)(hp:ps.Perm (List.range es.size)):
  Walks prog w A I [I,S,tp] [I] es.size (fun i v=>(ps.map fun p=>(es.getD p (0,.none)).2)[i]?=some v) (fun i h=>SetIt h I S (.ref tp) i es.size ep∧h.get? S=some o∧h.get? tp=some { cls:=.type "tuple",data:=.seq (ps.map (fun i=>Value.int ((i:Nat):Int) 0)).toArray }) where
 sub:=fun b hb=>by simp at hb;simp[hb]
 frame:=fun i h h' ⟨⟨oi,h1,r⟩,h2,h3⟩ hk=>⟨⟨oi,hk I (by simp) _ h1,r⟩,hk S (by simp) _ h2,hk tp (by simp) _ h3⟩
 item:=fun i s Q E hi ⟨st,ho,ht⟩ hQ=>by
  have hl:ps.length=es.size:=by rw[hp.length_eq,YBb]
  have hi':i<ps.length:=by omega
  have hpi:ps[i]?=some ps[i]:=YAL hi'
  have hlt:ps[i]<es.size:=YAq.mp (hp.mem_iff.mp (YCB hi'))
  have he:es[ps[i]]?=some es[ps[i]]:=by simp[hlt]
  refine ZdT st ho hd hf (YAA (YBe ht rfl ?_))
  dsimp only
  have hx:((ps.map (fun i=>Value.int ((i:Nat):Int) 0)).toArray)[i]?=some (Value.int ((ps[i]:Nat):Int) 0):=by simp[hpi]
  rw[hx]
  dsimp only
  refine YAA (ZgU ho hd hf he ?_)
  obtain⟨oi,g1,g2,g3⟩:=id st
  refine YAA (YBS g1 g3 (by simp) ?_)
  obtain⟨o2,m1,m2,m3⟩:=ZdU (v:=rawInt ((i:Int)+1)) (k:=1) g1 g2 g3
  have sb:=YAa s.heap I (Obj.mapFields (·.setIfInBounds 1 (rawInt ((i:Int)+1))))
  refine YAC ⟨_,rfl,hQ _ _ s.toks ?_ ⟨⟨o2,m1,m2,?_⟩,Zb1 sb hne ho,Zb1 sb hnt ht⟩ fun b o hb e=>(sb.2 b (by simpa using hb)).trans e⟩
  ·rw[YAk,hpi];simp[hlt]
  ·rw[m3];simp[rawInt]
 done:=fun s Q E ⟨st,ho,ht⟩ hQ=>by
  have hl:ps.length=es.size:=by rw[hp.length_eq,YBb]
  refine ZdT st ho hd hf (YAA (YBe ht rfl ?_))
  dsimp only
  have hx:((ps.map (fun i=>Value.int ((i:Nat):Int) 0)).toArray)[es.size]?=none:=by simp[hl]
  rw[hx]
  dsimp only
  obtain⟨oi,g1,g2,g3⟩:=id st
  refine YAA (YBS g1 g3 (by simp) ?_)
  obtain⟨o1,k1,k2,k3⟩:=ZdU (v:=rawInt 0) (k:=0) g1 g2 g3
  refine YAA (YBS k1 k3 (by simp) ?_)
  have sb:=(YAa s.heap I (Obj.mapFields (·.setIfInBounds 0 (rawInt 0)))).trans (YAa _ I (Obj.mapFields (·.setIfInBounds 2 Value.none)))
  exact ZfA (A:=A) hh fun h' k=>hQ h' s.toks fun b o hb e=>k b o ((sb.2 b (by simpa using hb)).trans e)
 self:=fun i s Q E ⟨st,_⟩ hQ=>Zdq st hQ
end
theorem Zfb:typeLookup (.type "set") "__len__"=pure (some (.builtin "set.__len__")):=by rw[typeLookup_type,builtinLookup_eq_fast];kernel_rfl
section
variable {prog:Program}{w:World}{A:Around}{E:Value→Shared→Prop}{s:Shared}
theorem ZgD {es:Array (Int×Value)}{ps:List Nat}(hp:ps.Perm (List.range es.size)):(ps.map fun p=>(es.getD p (0,.none)).2).Perm (es.toList.map (·.2)):=by
 have q:=hp.map (fun p=>(es.getD p (0,.none)).2)
 refine q.trans (.of_eq ?_)
 apply YDH
 ·simp
 ·intro n h1 h2
  have hn:n<es.size:=by simpa using h2
  simp[hn]
theorem Zg4 {S:Addr}{ls:List (List Nat)}{Q:Value→Shared→Prop}(hS:TxSet prog w s.heap S ls (!Za6 w))
  (h:∀(h2:Heap) (d:Drawn) (I:Addr) (fp:List Addr) (vs:List Value) (ms:List (List Nat)) (St:Nat→Heap→Prop),(∀A':Around,A'.handled=none→Walks prog w A' I fp [I] ls.length (fun i v=>vs[i]?=some v) St)→St 0 h2 →
   (∀b∈fp,b=S∨s.heap.objs.size≤b)→s.heap.objs.size≤I→(∀b o,s.heap.get? b=some o→h2.get? b=some o)→ms.Perm ls→Vals (ms.map tx) vs→Q (.ref I) { s with heap:=h2,drawn:=d }):
  wpAny (model prog w) A (pyIter (.ref S)) Q E s:=by
 obtain⟨o,es,ep,t,ms,ho,hex,hd,hel,hf,hled,hpl,hp,hv,hb⟩:=hS
 have hlen:es.size=ls.length:=by
  have q:=hv.length
  rw[YAD,YAD]at q
  rw[←YAN,←q,hp.length_eq]
 have hlt:=YAG ho
 refine Zjh ho hex hd hf (fits_of_scanBound hb) (fun hc=>?_) fun ps d pp=>?_
 ·have nI:S≠s.heap.objs.size:=YAY hlt
  have st:(s.heap.push ({ cls:=.type "set_iterator",data:=.fields #[.int 0 0,.int 0 0,.ref S,.int es.size 0,.int ep 0] }:Obj)).get? s.heap.objs.size=some { cls:=.type "set_iterator",data:=.fields #[.int 0 0,.int 0 0,.ref S,.int es.size 0,.int ep 0] }:=YAF _ rfl
  have fp:∀b∈[s.heap.objs.size,S],b=S∨s.heap.objs.size≤b:=fun b hb=>by
   rcases YAM.mp hb with z | z
   ·exact .inr (YCQ z.symm)
   ·exact .inl (by simpa using z)
  cases hby:Za6 w with
  | true=>
   obtain⟨ms',p',r'⟩:=Zc3 ((Zbu (next:=w.params.setOrder S ep) (xs:=es)).map (·.2)) hv
   have W:∀A':Around,A'.handled=none→_:=fun A' hA=>Zhh (prog:=prog) (w:=w) (A:=A') (I:=s.heap.objs.size) (S:=S) (o:=o) hA nI hd hf hby
   rw[hlen]at W
   exact h _ s.drawn _ _ _ ms' _ W ⟨⟨_,st,rfl,by rw[hlen];rfl⟩,YAB _ ho⟩ fp (YAP _) (fun b o e=>YAB _ e) (p'.trans hp) r'
  | false=>
   have h1:es.size≤1:=by
    rcases hc with z | z | z
    ·rw[hby]at z;cases z
    ·rw[hpl z];exact YBI _
    ·exact z
   have hl:t.led=true:=by rw[hled,hby];rfl
   have W:∀A':Around,A'.handled=none→_:=fun A' hA=>Zhi (prog:=prog) (w:=w) (A:=A') (I:=s.heap.objs.size) (S:=S) (o:=o) hA nI hd hf hby hl h1
   rw[hlen]at W
   exact h _ s.drawn _ _ _ ms _ W ⟨⟨_,st,rfl,by rw[hlen];rfl⟩,YAB _ ho⟩ fp (YAP _) (fun b o e=>YAB _ e) hp hv
 ·have nI:S≠s.heap.objs.size+1:=YAY (YCM hlt)
  have nT:s.heap.objs.size≠s.heap.objs.size+1:=YAY (Nat.lt_succ_self _)
  obtain⟨ms',p',r'⟩:=Zc3 (ZgD pp) hv
  have W:∀A':Around,A'.handled=none→_:=fun A' hA=>Zfu (prog:=prog) (w:=w) (A:=A') (I:=s.heap.objs.size+1) (S:=S) (o:=o) (tp:=s.heap.objs.size) hA nI nT hd hf pp
  rw[hlen]at W
  refine h _ d _ _ _ ms' _ W ⟨⟨{ cls:=.type "set_iterator",data:=.fields #[.ref s.heap.objs.size,.int 0 0,.ref S,.int es.size 0,.int ep 0] },?_,rfl,by rw[hlen];rfl⟩,YAB _ (YAB _ ho),YAB _ (YAF _ rfl)⟩ ?_ (YCe _) (fun b o e=>YAB _ (YAB _ e)) (p'.trans hp) r'
  ·rw[←YAs];exact YAF _ rfl
  ·intro b hb
   rcases YAM.mp hb with z | z
   ·exact .inr (by rw[z];exact YCe _)
   ·rcases YAM.mp z with z | z
    ·exact .inl z
    ·have z:b=s.heap.objs.size:=by simpa using z
     exact .inr (YCQ z.symm)
theorem Zdz {S:Addr}{ls:List (List Nat)}{Q:List Value→Shared→Prop}(hh:A.handled=none)(hS:TxSet prog w s.heap S ls (!Za6 w))(hn:ls.length≤sizeLine)
  (hQ:∀(s':Shared) (vs:List Value) (ms:List (List Nat)),(∀b o,s.heap.get? b=some o→s'.heap.get? b=some o)→s'.gens=s.gens→s'.os=s.os→ms.Perm ls→Vals (ms.map tx) vs→Q vs s'):wpAny (model prog w) A (collect (.ref S)) Q E s:=by
 unfold collect
 refine YAA (wpAny_runValue (codeAny_builtin F.entry_proto_collect ?_))
 rw[YBi F.plain_proto_collect _]
 show wpAny _ A.in1 (newList [] >>= fun l=>again (.builtin "list.__iadd__" ⟨[l,.ref S],[]⟩)) _ _ s
 refine YAA (YBZ (YAC ⟨plainId_quiet F.plain_list_iadd _,codeAny_builtin F.entry_list_iadd ?_⟩))
 rw[YBi F.plain_list_iadd _]
 generalize hH:s.heap.push { cls:=.type "list",data:=.seq ([]:List Value).toArray }=H
 have hHs:H.objs.size=s.heap.objs.size+1:=by rw[←hH,YAs]
 have hL:H.get? s.heap.objs.size=some { cls:=.type "list",data:=.seq ([]:List Value).toArray }:=hH▸YAF _ rfl
 have k1:∀b o,s.heap.get? b=some o→H.get? b=some o:=fun b o e=>hH▸YAB _ e
 have hS1:TxSet prog w H S ls (!Za6 w):=hS.keep fun o e=>k1 S o e
 have hT:Shared.TypeIs { s with heap:=H } (.ref S) "set":=hS1.typ (s:={ s with heap:=H })
 have nS:S≠s.heap.objs.size:=by
  obtain⟨o,_,_,_,_,ho,_⟩:=hS
  exact YAY (YAG ho)
 show wpAny _ A.in1 (Builtin.List.listExtendWith (.ref s.heap.objs.size) (.ref S) (.ref s.heap.objs.size)) _ _ { s with heap:=H }
 unfold Builtin.List.listExtendWith
 refine YAA (wpAny_typeOf hT ?_)
 have h1:Builtin.List.listSameRef (.ref s.heap.objs.size) (.ref S)=false:=by simp[Builtin.List.listSameRef,YAw nS]
 have h2:(Value.type "set" == Value.type "list")=false:=by decide
 have h3:(Value.type "set" == Value.type "tuple")=false:=by decide
 simp only[h1,h2,h3,Bool.or_false,YBq,if_false]
 refine YAA (Zg4 (s:={ s with heap:=H }) hS1 fun h2' d I fp vs ms St W st hfp hI k2 hp hv=>?_)
 have hT2:Shared.TypeIs { s with heap:=h2',drawn:=d } (.ref S) "set":=(hS1.keep fun o e=>k2 S o e).typ (s:={ s with heap:=h2',drawn:=d })
 refine YAA (YAy ?_)
 unfold Builtin.List.listLengthHint
 refine YAA (wpAny_specialOf hT2 Zfb ?_)
 wp_delta
 refine YAA (wpAny_isInstance (T:="set") (v:=.ref S) (b:=true) hT2 (by rw[isSubtype_type];kernel_rfl) ?_)
 show wpAny _ A.in1 (typeOf (Value.ref S) >>= fun r=>_) _ _ _
 refine YAA (wpAny_typeOf hT2 ?_)
 refine YAC ?_
 rw[YAO (by decide)]
 refine YAA (YBt ?_)
 have hL2:h2'.get? s.heap.objs.size=some { cls:=.type "list",data:=.seq ([]:List Value).toArray }:=k2 _ _ hL
 refine YAA ?_
 show wpAny _ A.in1 (updateSeq s.heap.objs.size (·.push .none) >>= fun _=>updateSeq s.heap.objs.size (·.pop)) _ _ _
 refine YAA (YDQ hL2 rfl ?_)
 have hL3:=YBR (Obj.mapSeq (·.push Value.none)) hL2 rfl
 refine YDQ hL3 rfl ?_
 have hL4:=YBR (Obj.mapSeq (·.pop)) hL3 rfl
 have oth:∀b o,b≠s.heap.objs.size→h2'.get? b=some o→((h2'.update s.heap.objs.size (Obj.mapSeq (·.push Value.none))).update s.heap.objs.size (Obj.mapSeq (·.pop))).get? b=some o:=
  fun b o hb e=>(YBC _ _ (YAw hb)).trans ((YBC _ _ (YAw hb)).trans e)
 have hle:s.heap.objs.size+1≤I:=by rw[←hHs];exact hI
 have hSf:s.heap.objs.size∉fp:=fun z=>by
  rcases hfp _ z with q | q
  ·exact nS q.symm
  ·have q':H.objs.size≤s.heap.objs.size:=q
   rw[hHs]at q';exact absurd q' (Nat.not_succ_le_self _)
 refine YAC ⟨plainId_quiet F.plain_extend_loop _,codeAny_extend_loopS (W A.in1 hh).toS hn _ hSf _ ls.length 0 _ _ _ rfl (YBI _) ((W A.in1 hh).frame 0 h2' _ st fun b hb o e=>oth b o (fun z=>hSf (z▸hb)) e) hL4 (ItemsOf.nil _) fun s' acc' c' hm hS' hacc=>?_⟩
 show wpAny _ A (load s.heap.objs.size >>= fun r=>_) _ _ s'
 refine YAA (wpAny_load hS' ?_)
 have hvs:acc'.toList=vs:=by
  have hl:vs.length=ls.length:=by rw[←hv.length,YAD,hp.length_eq]
  apply YCm
  intro j
  rw[YAl]
  by_cases hj:j<ls.length
  ·have hj':j<acc'.size:=by rw[hacc.1];exact hj
   have e:acc'[j]?=some acc'[j]:=by simp[hj']
   rw[e,hacc.2 j _ e]
  ·rw[Array.getElem?_eq_none (by rw[hacc.1];omega),YBc (by omega)]
 have done:=hQ s' vs ms (fun b o e=>by
  have hlt:=YAG e
  refine hm.heap b o (fun z=>?_) (oth b o (YAY hlt) (k2 b o (k1 b o e)))
  rcases YAM.mp z with q | q
  ·rw[q]at hlt;exact YAt _ hlt
  ·have q:b=I:=by simpa using q
   rw[q]at hlt
   exact absurd hlt (Nat.not_lt.mpr (Nat.le_of_succ_le hle))) hm.gens hm.os hp hv
 rw[←hvs]at done
 exact YAC done
end
def leT (a b:List Nat):Bool:=!decide (b<a)
def ZaR (ls:List (List Nat)):List (List Nat):=ls.mergeSort leT
theorem Zbq {a b:List Nat}:leT a b=true↔a≤b:=by
 unfold leT
 rw[Bool.not_eq_true',decide_eq_false_iff_not]
 exact YDA
theorem Zay (ls:List (List Nat)):(ZaR ls).Perm ls:=List.mergeSort_perm _ _
theorem Za2 (ls:List (List Nat)):(ZaR ls).Pairwise (fun a b=>leT a b=true):=
 List.pairwise_mergeSort (le:=leT) (fun a b c h1 h2=>Zbq.mpr (List.le_trans (Zbq.mp h1) (Zbq.mp h2))) (fun a b=>Bool.or_eq_true_iff.mpr ((List.le_total a b).imp Zbq.mpr Zbq.mpr)) ls
theorem ZbY {ms ls:List (List Nat)}(p:ms.Perm ls)(h:ms.Pairwise (fun a b=>leT a b=true)):ms=ZaR ls:=
 List.Perm.eq_of_pairwise (fun a b _ _ h1 h2=>List.le_antisymm (Zbq.mp h1) (Zbq.mp h2)) h (Za2 ls) (p.trans (Zay ls).symm)
theorem Zc8 {ms ls:List (List Nat)}(p:ms.Perm ls):ZaR ms=ZaR ls:=ZbY ((Zay ms).trans p) (Za2 ms)
theorem Zfz:∀ {us:List Value} {ss:List Str},StrsAre us ss→Vals ((ss.map fun x=>x.cps.toList).map tx) us
 | _,_,.nil=>.nil
 | _,_,.cons x t h=>.cons ⟨t,rfl⟩ (Zfz h)
theorem Zcm:∀ {ss:List Str},sortedS ss=true→(ss.map fun x=>x.cps.toList).Pairwise (fun a b=>leT a b=true):=by
 have ris:∀(p:Str) (l:List Str),risingS p l=true→((p::l).map fun x=>x.cps.toList).Pairwise (fun a b=>leT a b=true):=by
  intro p l
  induction l generalizing p with
  | nil=>intro _;simp
  | cons x r ih=>
   intro h
   have h':(!ltCps x.cps.toList p.cps.toList&&risingS x r)=true:=h
   rw[YAT,ltCps_eq]at h'
   have q:=ih x h'.2
   rw[YAg,YBN]
   refine⟨fun b hb=>?_,q⟩
   have hx:leT p.cps.toList x.cps.toList=true:=h'.1
   rw[YAg]at hb q
   rcases YAM.mp hb with z | z
   ·rw[z];exact hx
   ·exact Zbq.mpr (List.le_trans (Zbq.mp hx) (Zbq.mp ((YBN.mp q).1 b z)))
 intro ss h
 cases ss with
 | nil=>simp
 | cons x r=>exact ris x r h
theorem ZeD {us:List Value}{ls:List (List Nat)}(r:Vals (ls.map tx) us):StrsAre us (ls.map fun l=>(⟨l.toArray⟩:Str)):=ZcA r
theorem ZgA (ls:List (List Nat)):(ls.map fun l=>(⟨l.toArray⟩:Str)).map (fun x=>x.cps.toList)=ls:=by
 rw[YBa]
 conv=>rhs;rw[←List.map_id ls]
 apply YDW
 intro l _
 simp
section
variable {prog:Program}{w:World}{A:Around}{E:Value→Shared→Prop}{s:Shared}
theorem Zhu {vs:List Value}{ms:List (List Nat)}{Q:Value→Shared→Prop}(hv:Vals (ms.map tx) vs)(h64:ms.length<64)
  (h:∀(h':Heap) (us:List Value) (e:Nat),(∀b o,s.heap.get? b=some o→h'.get? b=some o)→h'.get? s.heap.objs.size=some { cls:=.type "list",data:=.seq us.toArray e }→Vals ((ZaR ms).map tx) us→Q (.ref s.heap.objs.size) { s with heap:=h' }):
  wpAny (model prog w) A (do let l ←newList vs;let _ ←holding [l] (call (.builtin "list.sort") [l] []);ret l) (fun fin s'=>∃v,fin=Fin.done (Flow.ret v)∧Q v s') E s:=by
 have hS:=ZeD hv
 have hlen:vs.length<64:=by rw[←hv.length,YAD];exact h64
 refine YAA (YDN ?_ ?_)
 ·have hoL:(s.heap.push (seqObj "list" vs.toArray 0)).get? s.heap.objs.size=some (seqObj "list" vs.toArray 0):=YAF _ rfl
  refine YAA (YAy (YBj slot_list_sort ⟨_,hoL,rfl⟩ entry_list_sort (list_sort_treeK strKind_oneLt hoL hS.keysOf (fun v₁ v₂ rest e=>keyKind_strs (by rw[←e];exact hS)) hlen fun st' a1 a2=>⟨_,rfl,?_⟩) (args_list_sort _)))
  obtain⟨ss',b1,b2,b3⟩:=sorted_out_str hS a1 a2
  obtain⟨e,he⟩:=sortedHeap_at (out:=(arrOf st').map (·.2)) hoL
  refine YAC ⟨_,rfl,h _ ((arrOf st').map (·.2)).toList e (fun b o q=>?_) ?_ ?_⟩
  ·have hlt:=YAG q
   have hlt':b<(s.heap.push (seqObj "list" vs.toArray 0)).objs.size:=by rw[YAs];exact YCM hlt
   exact(sortedHeap_old (YAY hlt) hlt').trans (YAB _ q)
  ·have q:((arrOf st').map (·.2)).toList.toArray=(arrOf st').map (·.2):=YCq
   rw[q];exact he
  ·have p1:(ss'.map fun x=>x.cps.toList).Perm ms:=by
    have:=b2.map (fun x:Str=>x.cps.toList)
    rwa [ZgA]at this
   have e1:=ZbY p1 (Zcm b3)
   rw[←e1]
   exact Zfz b1
 ·exact YAQ (YCw hlen) (by rw[sizeLine_eq];decide)
theorem ZgG {S:Addr}{ls:List (List Nat)}{Q:Value→Shared→Prop}(hh:A.handled=none)(hS:TxSet prog w s.heap S ls (!Za6 w))(h64:ls.length<64)
  (h:∀(s':Shared) (a:Addr) (us:List Value) (e:Nat),s.heap.get? a=none→(∀b o,s.heap.get? b=some o→s'.heap.get? b=some o)→s'.gens=s.gens→s'.os=s.os→s'.heap.get? a=some { cls:=.type "list",data:=.seq us.toArray e }→Vals ((ZaR ls).map tx) us→Q (.ref a) s'):
  wpAny (model prog w) A (call (.builtin "sorted") [.ref S]) Q E s:=by
 refine Calls.call_function_entry kind_sorted plain_sorted entry_sorted (args_sorted1 _) ?_
 unfold Builtin.«sorted»
 refine YAA (m:=checkCount "sorted" 1 1 _) (YAC ?_)
 refine YAA (Zdz (by first | exact hh | simpa using hh) hS (YAQ (YCw h64) (by rw[sizeLine_eq];decide)) fun s' vs ms k1 hg ho hp hv=>?_)
 have hl:ms.length<64:=by rw[hp.length_eq];exact h64
 refine Zhu hv hl fun h' us e k2 he r=>?_
 rw[Zc8 hp]at r
 exact h _ _ us e (by
  cases q:s.heap.get? s'.heap.objs.size with
  | none=>rfl
  | some o=>exact absurd (YAG (k1 _ _ q)) (YAt _)) (fun b o q=>k2 b o (k1 b o q)) hg ho he r
end
structure Fly (B:Heap)(l:List Env)(e:Addr)(C:Value)(d:Option Addr)(fl:Value)(h:Heap):Prop where
 st:B.StaysIn h
 ne:B.get? e=none
 fr:h.FunFrames B l
 tr:∃oe vs T oT ts,h.get? e=some oe∧oe.cls=C∧oe.dict=d∧oe.data=.fields vs∧vs[1]?=some (.ref T)∧B.get? T=none∧T≠e∧h.get? T=some oT∧oT.data=.fields ts∧ts[3]?=some fl
theorem Zjt (o:Obj)(f:Array Value→Array Value):(o.mapFields f).dict=o.dict:=by
 obtain⟨c,d,dt,sl⟩:=o
 cases dt<;>rfl
section
variable {M:Model}{A:Around}{E:Value→Shared→Prop}{s:Shared}{B:Heap}{env:Env}{outer:List Env}{L e:Addr}{C:Value}{d:Option Addr}{Q:Unit→Shared→Prop}
theorem ZeT {oe:Obj}{vs:Array Value}{head:Value}{hadNext:Bool}(hfr:A.frames=some (env::outer))(hl:s.heap.FunFrames B (env::outer))(hf:env.frame=some L)(he:s.heap.get? e=some oe)(hkb:B.StaysIn s.heap)(hen:B.get? e=none)
  (hc:oe.cls=C) (hdd:oe.dict=d) (hd:oe.data=.fields vs) (hsz:1<vs.size) (h:∀h',Fly B (env::outer) e C d (rawInt L) h'→s.heap.UpToSlots h'→Q () { s with heap:=h' }):
  wpAny M A (do let a ←frameOf env;let pl ←entryPlaceOf L hadNext;let b ←EntryCells.newEntry head a .none (rawInt L) .none pl;setField (.ref e) 1 b) Q E s:=by
 have hene:e∉(env::outer).filterMap (·.frame):=fun hm=>by
  obtain⟨_,o,ho,hnf⟩:=hl.mem hm
  rw[he]at ho
  cases ho
  exact hnf vs hd
 refine YAA (wpAny_frameOf_fun hfr hl hf fun h1 hs=>YAA (wpAny_entryPlaceOf fun pl hpl=>?_))
 unfold EntryCells.newEntry newFields
 refine YAA (YBZ ?_ (hpl.sizeOk5 _ _ _ _ _))
 have e1:h1.get? e=some oe:=(hs.2.1 e hene).trans he
 have k1:B.StaysIn h1:=fun b o hbo=>(hs.2.1 b fun hm=>by rw[(hl.mem hm).1]at hbo;cases hbo).trans (hkb b o hbo)
 generalize eT:({ cls:=.type "traceback",dict:=none,data:=.fields ([head,.ref L,.none,rawInt L,.none]++(if pl.isEmpty then List.replicate 6 Value.none else pl)).toArray }:Obj)=oT
 have e2:(h1.push oT).get? e=some oe:=YAB _ e1
 refine YBS e2 hd hsz ?_
 have nT:h1.objs.size≠e:=YCv (YAG e1)
 have d3:=YCD hd (·.setIfInBounds 1 (Value.ref h1.objs.size))
 have e3:=YBR (Obj.mapFields (·.setIfInBounds 1 (Value.ref h1.objs.size))) e2 (YDE d3)
 have t3:((h1.push oT).update e (Obj.mapFields (·.setIfInBounds 1 (Value.ref h1.objs.size)))).get? h1.objs.size=some oT:=by
  rw[YBC _ _ (YAw nT)]
  refine YAF _ ?_
  rw[←eT];rfl
 have keep:∀b o,b≠e→h1.get? b=some o→((h1.push oT).update e (Obj.mapFields (·.setIfInBounds 1 (Value.ref h1.objs.size)))).get? b=some o:=fun b o hb q=>by
  rw[YBC _ _ (YAw hb)]
  exact YAB _ q
 have nrec:∀b o,s.heap.get? b=some o→(∀vs,o.data≠.fields vs)→b≠e:=fun b o q n z=>by
  rw[z,he]at q
  cases q
  exact n vs hd
 have dT:oT.data=.fields ([head,.ref L,.none,rawInt L,.none]++(if pl.isEmpty then List.replicate 6 Value.none else pl)).toArray:=by rw[←eT]
 refine h _ ⟨fun b o q=>keep b o (fun z=>by rw[z,hen]at q;cases q) (k1 b o q),hen,hl.of_keeps fun b o q n=>?_,_,_,h1.objs.size,oT,_,e3,(Obj.cls_mapFields _ _).trans hc,(Zjt _ _).trans hdd,d3,?_,k1.fresh,nT,t3,dT,?_⟩ fun b o q n=>?_
 ·obtain⟨sl,q2⟩:=hs.2.2 b o q
  exact⟨_,keep b _ (nrec b o q n) q2,rfl⟩
 ·simp[hsz]
 ·simp
 ·obtain⟨sl,q2⟩:=hs.2.2 b o q
  exact⟨sl,keep b _ (nrec b o q n) q2⟩
theorem ZgS {oe:Obj}{vs:Array Value}(hfr:A.frames=some (env::outer))(hl:s.heap.FunFrames B (env::outer))(hf:env.frame=some L)(he:s.heap.get? e=some oe)(hkb:B.StaysIn s.heap)(hen:B.get? e=none)
  (hc:oe.cls=C) (hdd:oe.dict=d) (hd:oe.data=.fields vs) (h1:vs[1]?=some .none) (h:∀h',Fly B (env::outer) e C d (rawInt L) h'→s.heap.UpToSlots h'→Q () { s with heap:=h' }):wpAny M A (noteFrame (.ref e) env) Q E s:=by
 unfold noteFrame
 simp only[hf]
 refine YAA (YBf he hd h1 ?_)
 rw[YAJ (by decide)]
 exact ZeT hfr hl hf he hkb hen hc hdd hd (YBz.mp h1).1 h
theorem ZeS (hfr:A.frames=some (env::outer))(hf:env.frame=some L)(x:Fly B (env::outer) e C d .none s.heap)(h:∀h',Fly B (env::outer) e C d (rawInt L) h'→s.heap.UpToSlots h'→Q () { s with heap:=h' }):
  wpAny M A (noteFrame (.ref e) env) Q E s:=by
 obtain⟨hkb,hen,hl,oe,vs,T,oT,ts,he,hc,hdd,hd,h1,hnT,hTe,hT,hdT,h3⟩:=x
 unfold noteFrame
 simp only[hf]
 refine YAA (YBf he hd h1 ?_)
 rw[YAO (show (Value.ref T != Value.none)=true from by simp)]
 refine YAA (YBf hT hdT h3 ?_)
 rw[YAJ (show ¬((Value.none == rawInt L)=true) from by simp[rawInt])]
 refine YAA (YBS hT hdT (YBz.mp h3).1 ?_)
 have oth:∀b,b≠T→(s.heap.update T (Obj.mapFields (·.setIfInBounds 3 Value.none))).get? b=s.heap.get? b:=fun b hb=>YBC _ _ (YAw hb)
 have nrec:∀b o,s.heap.get? b=some o→(∀vs,o.data≠.fields vs)→b≠T:=fun b o q n z=>by
  rw[z,hT]at q
  cases q
  exact n ts hdT
 refine ZeT (s:={ s with heap:=s.heap.update T (Obj.mapFields (·.setIfInBounds 3 Value.none)) }) hfr (hl.of_keeps fun b o q n=>⟨o,(oth b (nrec b o q n)).trans q,rfl⟩) hf ((oth e (YAw hTe)).trans he)
  (fun b o q=>(oth b fun z=>by rw[z,hnT]at q;cases q).trans (hkb b o q)) hen hc hdd hd (YBz.mp h1).1 fun h' y u=>h h' y fun b o q n=>u b o ((oth b (nrec b o q n)).trans q) n
theorem ZbH {l:List Env}{fl:Value}(x:Fly B l e C d fl s.heap)(h:∀h',Fly B l e C d .none h'→s.heap.UpToSlots h'→Q () { s with heap:=h' }):wpAny M A (setFlight (.ref e) none) Q E s:=by
 obtain⟨hkb,hen,hl,oe,vs,T,oT,ts,he,hc,hdd,hd,h1,hnT,hTe,hT,hdT,h3⟩:=x
 have hz:3<ts.size:=(YBz.mp h3).1
 have oth:∀b,b≠T→(s.heap.update T (Obj.mapFields (·.setIfInBounds 3 ((none:Option Addr).elim Value.none fun f=>rawInt f)))).get? b=s.heap.get? b:=fun b hb=>YBC _ _ (YAw hb)
 have nrec:∀b o,s.heap.get? b=some o→(∀vs,o.data≠.fields vs)→b≠T:=fun b o q n z=>by
  rw[z,hT]at q
  cases q
  exact n ts hdT
 unfold setFlight
 refine YAA (YBf he hd h1 ?_)
 rw[YAO (show (Value.ref T != Value.none)=true from by simp)]
 refine YBS hT hdT hz (h _ ⟨fun b o q=>(oth b fun z=>by rw[z,hnT]at q;cases q).trans (hkb b o q),hen,hl.of_keeps fun b o q n=>⟨o,(oth b (nrec b o q n)).trans q,rfl⟩,oe,vs,T,_,_,(oth e (YAw hTe)).trans he,hc,hdd,hd,h1,hnT,hTe,
  YBR _ hT (YDE (YCD hdT _)),YCD hdT _,by simp[hz]⟩ fun b o q n=>⟨o.slots,(oth b (nrec b o q n)).trans q⟩)
theorem Fly.pop {h:Heap}{fl:Value}(x:Fly B (env::outer) e C d fl h):Fly B outer e C d fl h:=⟨x.st,x.ne,x.fr.2.2,x.tr⟩
theorem ZfJ {oe:Obj}{vs:Array Value}(hfr:A.frames=some (env::outer))(hl:s.heap.FunFrames B (env::outer))(hf:env.frame=some L)(he:s.heap.get? e=some oe)(hkb:B.StaysIn s.heap)(hen:B.get? e=none)
  (hc:oe.cls=C) (hdd:oe.dict=d) (hd:oe.data=.fields vs) (h1:vs[1]?=some .none) (h:∀h',Fly B outer e C d .none h'→s.heap.UpToSlots h'→Q () { s with heap:=h' }):wpAny M A (leaving env (.ref e)) Q E s:=by
 unfold leaving
 refine YAA (ZgS hfr hl hf he hkb hen hc hdd hd h1 fun h1 x1 u1=>ZbH (s:={ s with heap:=h1 }) x1 fun h2 x2 u2=>h h2 x2.pop (u1.trans u2))
theorem Zg0 (hfr:A.frames=some (env::outer))(hf:env.frame=some L)(x:Fly B (env::outer) e C d .none s.heap)(h:∀h',Fly B outer e C d .none h'→s.heap.UpToSlots h'→Q () { s with heap:=h' }):wpAny M A (leaving env (.ref e)) Q E s:=by
 unfold leaving
 refine YAA (ZeS hfr hf x fun h1 x1 u1=>ZbH (s:={ s with heap:=h1 }) x1 fun h2 x2 u2=>h h2 x2.pop (u1.trans u2))
end
end L2
namespace L2
open PySem PySem.Spec PyProof.Rows
open PySem.W (Frag findIn typeIn mroIn clsIn InstAt Looks)
def xr (a C:Addr)(d:Option Addr):HO:=.ext fun h=>∃(o:Obj) (vs:Array Value),h.get? a=some o∧o.cls=.ref C∧o.dict=d∧o.data=.fields vs
theorem Zlq {P:Program}{w:World}{H:Hp}{h:Heap}{e C:Addr}{d:Option Addr}{o:Obj}{vs:Array Value}(h1:h.get? e=some o)(h2:o.cls=.ref C)(h3:o.dict=d)(h4:o.data=.fields vs):ObjOk P w H h e (xr e C d):=
 ⟨⟨o,vs,h1,h2,h3,h4⟩,⟨o,h1⟩,fun g1 g2 ⟨o',vs',q1,q⟩ k=>⟨o',vs',k _ q1,q⟩⟩
inductive XAny (H:Hp) (e C:Addr):List (Str×V)→Prop where
 | un {fs:List (Str×V)}:XAt H e C fs→XAny H e C fs
 | bare:H e=some (xr e C none)→XAny H e C []
 | full {d:Addr} {fs:List (Str×V)}:H e=some (xr e C (some d))→H d=some (xdO d fs)→d≠e→XAny H e C fs
theorem XAny.same {H H':Hp}{e C:Addr}{fs:List (Str×V)}(x:XAny H e C fs)(s:Same H H'):XAny H' e C fs:=by
 cases x with
 | un h=>exact .un (h.same s)
 | bare h=>exact .bare (s _ _ h)
 | full h1 h2 h3=>exact .full (s _ _ h1) (s _ _ h2) h3
section
variable {M:Model}{A:Around}{E:Value→Shared→Prop}{s:Shared}{env:Env}
theorem ZhB {x:Sem Value}{Q:Flow→Shared→Prop}(hh:A.handled=none)
  (h:wpAny M A x (fun v s₁=>∃(e t:Addr) (od:Option Addr) (sl:Array (Option Value)) (C:Addr) (nm q:Str) (N:Addr) (bs bm:List Value) (hdct:Bool) (sn:List Str) (sub:List Value) (ab:Bool) (col:Option Bool) (dd:Option Addr) (k0 k1 k2 k3 k5:Option Value) (newId:String),v=.ref e∧bm.contains (.type "BaseException")=true ∧
   s₁.heap.get? C=some (excClassObj nm q C N bs bm hdct sn sub ab col dd k0 k1 k2 k3 k5 newId)∧s₁.heap.get? e=some { cls:=.ref C,dict:=od,data:=.fields #[.ref t,.none,.none,.none,.bool false,.none],slots:=sl }∧E (.ref e) s₁) E s):wpAny M A (raiseStmt env (some x) none) Q E s:=by
 unfold raiseStmt
 refine YAA (YBB h (fun v s₁ h₁=>?_) fun _ _ x=>x)
 obtain⟨e,t,od,sl,C,nm,q,N,bs,bm,hdct,sn,sub,ab,col,dd,k0,k1,k2,k3,k5,newId,rfl,hbase,hC,he,hE⟩:=h₁
 have hcB:(Value.ref C::bm).contains (.type "BaseException")=true:=by rw[YCF,hbase,Bool.or_true]
 obtain⟨hp,g,d,tk,os⟩:=s₁
 repeat (first | with_reducible refine YBV he ?_ | with_reducible refine YBV hC ?_ | (with_reducible refine YCt hC ?_;rw[hcB]) | wp_step)
 exact wpAny_raiseNew_none hh hE
end
def CXr (P:Program)(w:World):CXT:=fun outer H s E ev s'=>∃(e C:Addr) (d:Option Addr) (H':Hp) (h1 B:Heap),ev=.ref e∧s'.os=s.os∧AllBare s'.gens∧Un (frs outer) [] H H' s.heap h1∧HOk P w H' h1∧H' e=some (xr e C d) ∧
 (∀b o,h1.get? b=some o→b≠e→((∃u,H' b=some u)∨((∃o',s.heap.get? b=some o')∧b∉frs outer))→B.get? b=some o)∧Fly B outer e (.ref C) d .none s'.heap∧h1.UpToSlots s'.heap∧E (.ref C) (some e) H'
def Raises (X:Cx)(Ex:XK):Prop:=∀(pins:List (Addr×Obj)) (σ:St) (H:Hp) (s:Shared) (e C:Addr) (d:Option Addr),Inv X pins σ H s→H e=some (xo e C d)→Ex (.ref C) (some e) (upd H e (xr e C d))→X.xe (.ref e) s
theorem Inv.raised {X:Cx}{pins:List (Addr×Obj)}{σ:St}{H:Hp}{s:Shared}{e C:Addr}{d:Option Addr}(I:Inv X pins σ H s)(h:H e=some (xo e C d)):Inv X pins σ (upd H e (xr e C d)) s:=by
 obtain⟨o,t,h1,h2,h3,h4⟩:=ZcI I h
 exact I.write (x:=e) (e:=e) (o:=xr e C d) (h':=s.heap) (t':=s.toks) (by rw[h];exact trivial) (.inl rfl) (fun b u _ q=>q) ⟨o,h1⟩ (Zlq h1 h2 h3 h4)
theorem Zk4 {h:Heap}{as:List Addr}{b:Addr}{o:Obj}(e:(PySem.W.hideAll h as).get? b=some o):h.get? b=some o:=PySem.W.of_hideAll _ e
theorem Zbr {P:Program}{w:World}{K:Frag}{mg:Str→Option Value}{base:Heap}{N:List Str}{qual:Str}{scope:Scope}{f:Addr}{cd:Value}{A:Around}{outer:List Env}{s0:Shared}{H0:Hp}{E:XK}:
  Raises (cxOf (CXr P w) P w K mg base N qual scope f cd A outer s0 H0 E) E:=by
 intro pins σ H s e C d I he hE
 obtain⟨o,t,h1,h2,h3,h4⟩:=ZcI I he
 have J:=I.raised he
 generalize hX:cxOf (CXr P w) P w K mg base N qual scope f cd A outer s0 H0 E=X at I J ⊢
 have eA:X.A=A.deeper (envOfC qual scope s0.heap.objs.size f cd):=by rw[←hX];rfl
 have eS:X.stack=envOfC qual scope s0.heap.objs.size f cd::outer:=by rw[←hX];rfl
 have eF:X.fs=frs outer:=by rw[←hX];rfl
 have e0:X.s₀=s0:=by rw[←hX];rfl
 have eH:X.H₀=H0:=by rw[←hX];rfl
 have eX:X.ex=[]:=by rw[←hX];rfl
 have eL:X.env=envOfC qual scope s0.heap.objs.size f cd:=by rw[←hX];rfl
 have ePr:X.prog=P:=by rw[←hX];rfl
 have eW:X.w=w:=by rw[←hX];rfl
 have hxe:∀ev s',wpAny (model P w) (A.deeper (envOfC qual scope s0.heap.objs.size f cd)) (leaving (envOfC qual scope s0.heap.objs.size f cd) ev) (fun _ s''=>CXr P w outer H0 s0 E ev s'') (fun e' s''=>CXr P w outer H0 s0 E e' s'') s'→X.xe ev s':=by
  intro ev s' z;rw[←hX];exact z
 refine hxe _ _ ?_
 have hfr:(A.deeper (envOfC qual scope s0.heap.objs.size f cd)).frames=some (envOfC qual scope s0.heap.objs.size f cd::outer):=by rw[←eA,←eS];exact I.ok.frames
 have stk:s.heap.FunFrames X.base X.stack:=I.stack
 have hin:∀env∈X.stack,∀a,env.frame=some a→a∈frs X.stack++[e]:=fun env henv a ha=>YDK _ (List.mem_filterMap.mpr ⟨env,henv,ha⟩)
 have ff:=PySem.W.funFrames_hide (as:=frs X.stack++[e]) stk hin
 rw[eS]at ff
 have stays:(PySem.W.hideAll s.heap (frs (envOfC qual scope s0.heap.objs.size f cd::outer)++[e])).StaysIn s.heap:=fun b o q=>Zk4 q
 refine ZfJ (B:=PySem.W.hideAll s.heap (frs (envOfC qual scope s0.heap.objs.size f cd::outer)++[e])) (L:=s0.heap.objs.size) hfr ff rfl h1 stays (PySem.W.hideAll_none _ (by simp)) h2 h3 h4 (by simp) fun h' fl up=>?_
 have os:s.os=s0.os:=by rw[←e0];exact I.os
 have un:Un (frs outer) [] H0 (upd H e (xr e C d)) s0.heap s.heap:=by
  have:=J.base
  rwa [eF,eX,eH,e0]at this
 have ok:HOk P w (upd H e (xr e C d)) s.heap:=by
  have:=J.hok
  rwa [ePr,eW]at this
 refine⟨e,C,d,upd H e (xr e C d),s.heap,_,rfl,os,I.bare,un,ok,Zae,fun b o hb hne hc=>?_,fl,up,hE⟩
 refine PySem.W.hideAll_get _ hb fun z=>?_
 rcases YAf.mp z with z | z
 ·have z':b∈frs X.stack:=by rw[eS];exact z
  rcases hc with⟨u,hu⟩|⟨⟨o',ho'⟩,hn⟩
  ·rw[J.stkFree b z']at hu;cases hu
  ·rcases YAM.mp (I.stkSub b z') with q | q
   ·rw[q,eL]at ho'
    exact absurd (YAG ho') (YAt _)
   ·rw[eF]at q;exact hn q
 ·exact hne (by simpa using z)
def ZjH (K:Frag)(Ex:XK)(te:TE):TS:=fun _ σ H=>te σ H fun v H1=>∃e C d,v=.ref e∧H1 e=some (xo e C d)∧Xm K C∧Ex (.ref C) (some e) (upd H1 e (xr e C d))
theorem ZbF {X:Cx}{Ex:XK}{e:Expr}{te:TE}{pos:Pos}(hR:Raises X Ex)(hc:X.calm=true)(he:PE X e te):PS X (.Raise (some e) none pos) (ZjH X.K Ex te):=by
 intro pins s σ H D I h
 rw[arm_exec_Raise]
 show wpAny _ X.A (do standAt pos;raiseStmt X.env (some (do let v ←eval e X.env;standAt pos;pure v)) none) _ _ s
 refine YAA (YDM ?_)
 refine ZhB (I.ok.hd hc) (YAA (thn (he pins s σ H _ I h) fun v s1 ⟨x,H1,I1,r1,a,C,d,ex,hx,m,q⟩=>YAA (YDM (YAC ?_))))
 subst ex
 obtain rfl:v=Value.ref a:=r1
 obtain⟨o,t,h1,h2,h3,h4⟩:=ZcI I1 hx
 obtain⟨nm,q',N,bs,bm,hdct,sn,sub,ab,col,dd,k0,k1,k2,k3,k5,hl,hxm⟩:=m.parts
 obtain⟨oc,odi,oda,osl⟩:=o
 dsimp only at h2 h3 h4
 subst h2 h3 h4
 have hb:(Value.ref C::bm).contains (.type "BaseException")=true:=ZbX (by decide +kernel) hxm
 rw[YCF]at hb
 refine⟨a,t,_,_,C,nm,q',N,bs,bm,hdct,sn,sub,ab,col,dd,k0,k1,k2,k3,k5,_,rfl,?_,I1.kIn _ _ hl,h1,hR pins σ H1 s1 a C _ I1 hx q⟩
 have z:(Value.type "BaseException" == Value.ref C)=false:=rfl
 rw[z,Bool.false_or]at hb
 exact hb
section
variable {P:Program}{w:World}{K:Frag}{mg:Str→Option Value}{base:Heap}
theorem Fun.okX {x qual:Str}{st:Stmt}{f:Addr}{fd:FuncData}{N ps:List Str}{k:Nat}{sp:Sp}(F:Fun K x qual st f fd)(S:FnScope N ps (Zag st))(len:∀vs H Q E,sp vs H Q E→vs.length=ps.length)
  (hbody:∀(cdv:Value) (A:Around) (outer:List Env) (s:Shared) (H:Hp) (vs:List V) (Q:VK) (E:XK),Room k (A.deeper (envOfC qual (Zag st) s.heap.objs.size f cdv))→sp vs H Q E →
   ∃t,PSs (cxOf (CXr P w) P w K mg base N qual (Zag st) f cdv A outer s H E) (ZaP st) t∧t { nx:=fun _ H'=>Q .non H',rt:=Q } (start N vs) H):FnOk P w K mg base (CXr P w) (k+1) f fd ps sp:=by
 obtain⟨oc,od,kV,doc,pm,an,cdv,ct,osl,rfl,lk,hcd⟩:=F.ex
 exact Zjn lk hcd S len fun A outer s H vs Q E hr hsp=>hbody cdv A outer s H vs Q E hr hsp
end
abbrev TX:=St→Hp→VK→XK→Prop
def PEx (X:Cx)(e:Expr)(t:TX):Prop:=∀(pins:List (Addr×Obj)) (s:Shared) (σ:St) (H:Hp) (Q:VK) (E:XK),Inv X pins σ H s→t σ H Q E →
 wpAny (model X.prog X.w) X.A (eval e X.env) (EP X pins σ Q) (fun ev s'=>∃H2 s2,Inv X pins σ H2 s2∧CXr X.prog X.w X.stack H2 s2 E ev s') s
abbrev TSx:=Ends→(St→XK)→St→Hp→Prop
def XH (X:Cx)(pins:List (Addr×Obj))(Ex:St→XK)(ev:Value)(s':Shared):Prop:=∃σ' H2 s2,Inv X pins σ' H2 s2∧CXr X.prog X.w X.stack H2 s2 (Ex σ') ev s'
def PSx (X:Cx)(st:Stmt)(t:TSx):Prop:=∀(pins:List (Addr×Obj)) (s:Shared) (σ:St) (H:Hp) (D:Ends) (Ex:St→XK),Inv X pins σ H s→t D Ex σ H→wpAny (model X.prog X.w) X.A (exec st X.env) (SP X pins D) (XH X pins Ex) s
def PSsx (X:Cx)(st:List Stmt)(t:TSx):Prop:=∀(pins:List (Addr×Obj)) (s:Shared) (σ:St) (H:Hp) (D:Ends) (Ex:St→XK),Inv X pins σ H s→t D Ex σ H→wpAny (model X.prog X.w) X.A (execs st X.env) (SP X pins D) (XH X pins Ex) s
section
variable {X:Cx}{CX:CXT}{k:Nat}{f C:Addr}{fd:FuncData}{ps:List Str}{sp:Sp}{dvs:List V}{ds:List Value}{x m:Str}{p pos apos:Pos}{e o:Expr}{es:List Expr}{ta:TE}{t:TA}
theorem Zkv {pins:List (Addr×Obj)}{σ:St}{H:Hp}{s:Shared}{Q:VK}{E:XK}{us:List Value}{vs:List V}(F:FnOk X.prog X.w X.K X.mg X.base (CXr X.prog X.w) k f fd ps sp)(hr:Room k X.A)(hb:Binds X.K fd ps ds)(hd:Vals dvs ds)
  (I:Inv X pins σ H s) (r:Vals vs us) (h:sp (vs++dvs) H Q E):wpAny (model X.prog X.w) X.A (call (.ref f) us) (EP X pins σ Q) (fun ev s'=>∃H2 s2,Inv X pins σ H2 s2∧CXr X.prog X.w X.stack H2 s2 E ev s') s:=by
 have r2:Vals (vs++dvs) (us++ds):=r.append hd
 have hl:(us++ds).length=ps.length:=by rw[←r2.length];exact F.len _ _ _ _ h
 refine YCJ (codeAny_mono (F.run X.A X.stack s H ⟨us,[]⟩ (us++ds) (vs++dvs) Q E hr I.env0 (hb s us I.kIn hl) r2 h) fun r s' hq=>?_)
 cases r with
 | error e=>exact⟨H,s,I,hq⟩
 | ok fl=>
  cases fl with
  | ret u=>exact I.after hq
  | next=>exact False.elim hq
  | brk=>exact False.elim hq
  | cont=>exact False.elim hq
def ZjI (sp:Sp)(dvs:List V)(t:TA):TX:=fun σ H Q E=>t σ H fun vs H1=>sp (vs++dvs) H1 Q E
theorem ZiW (F:FnOk X.prog X.w X.K X.mg X.base (CXr X.prog X.w) k f fd ps sp)(hr:Room k X.A)(hg:Gl X x)(hm:X.mg x=some (.ref f))(hk:PySem.W.keepIn X.K (.ref f)=true)(hb:Binds X.K fd ps ds)(hd:Vals dvs ds)
  (ha:PA X.nox (e::es) t) (hdb:(x == ("__debug__":Str))=false:=by decide) (he:starEach (e::es) X.env=(false,eval e X.env)::starEach es X.env:=by rfl) (hpl:(backTo pos (starEach es X.env)).any (·.1)=false:=by rfl):
  PEx X (.Call (.Name x p) (e::es) [] pos) (ZjI sp dvs t):=by
 intro pins s σ H Q E I h
 refine YBM (ZbG I hg hm ?_ hdb)
 refine YBo (h₀:=X.base) I.ok.mod.kin hk (YBB (ha pos pins s σ H _ (I.wish _) h) (fun us s1 ⟨vs,H1,I1,r,q⟩=>⟨I1.kIn,?_⟩) fun _ _ z=>False.elim z) he hpl
 exact Zkv F hr hb hd I1.unwish r q
def ZlV (i:Nat)(te:TX):TSx:=fun D Ex σ H=>te σ H (fun y H1=>D.nx (σ.set i (some y)) H1) (Ex σ)
theorem ZoJ {i:Nat}{te:TX}{pos':Pos}(hN:X.N.Nodup)(hi:X.N[i]?=some x)(hx:Loc X.env.scope x)(he:PEx X e te)(hs:swapsWith e (some (.Name x pos')) pos.line X.env=pure false:=by rfl)(hf:X.fn x=true∨X.env.scope.names.lookup x=some .local:=by first | exact .inl rfl | exact .inr rfl | assumption):
  PSx X (.Assign [.Name x pos'] e pos) (ZlV i te):=by
 intro pins s σ H D Ex I h
 refine wpAny_Assign_Name (YBB (he pins s σ H _ _ I h) (fun v s1 ⟨y,H1,I1,r1,q1⟩=>?_) fun ev s' ⟨H2,s2,I2,q⟩=>⟨σ,H2,s2,I2,q⟩) hs
 exact ZcU I1 hN hi hx r1 (fun s2 I2=>⟨_,H1,I2,q1⟩) hf
def ZjL (te:TX):TSx:=fun D Ex σ H=>te σ H (fun _ H1=>D.nx σ H1) (Ex σ)
theorem ZiU {te:TX}(he:PEx X e te)(hs:swapsWith e none pos.line X.env=pure false:=by rfl):PSx X (.Expr e pos) (ZjL te):=by
 intro pins s σ H D Ex I h
 exact wpAny_Expr_any (YBB (he pins s σ H _ _ I h) (fun v s1 ⟨y,H1,I1,r1,q1⟩=>⟨σ,H1,I1,q1⟩) fun ev s' ⟨H2,s2,I2,q⟩=>⟨σ,H2,s2,I2,q⟩) I.quiet hs
theorem ZiV {st:Stmt}{t:TSx}(h1:PSx X st t):PSsx X [st] t:=by
 intro pins s σ H D Ex I h
 refine wpAny_execs_cons (thn (h1 pins s σ H D Ex I h) fun f s1 q=>?_)
 cases f with
 | next=>exact YDT q
 | ret v=>exact q
 | brk=>exact q
 | cont=>exact q
def sIfx (c:TT)(t u:TSx):TSx:=fun D Ex σ H=>c σ H fun b H1=>if b=true then t D Ex σ H1 else u D Ex σ H1
end
section
variable {X:Cx}{pins:List (Addr×Obj)}{σ:St}{H H':Hp}{s s1:Shared}{e C:Addr}{d:Option Addr}{h1 h5 B:Heap}
theorem Zha (I:Inv X pins σ H s)(os:s1.os=s.os)(bare:AllBare s1.gens)(un:Un (frs X.stack) [] H H' s.heap h1)(ok:HOk X.prog X.w H' h1)(he:H' e=some (xr e C d))
  (kept:∀b o,h1.get? b=some o→b≠e→((∃u,H' b=some u)∨((∃o',s.heap.get? b=some o')∧b∉frs X.stack))→B.get? b=some o) (fl:Fly B X.stack e (.ref C) d .none h5) (up:h1.UpToSlots h5):
  Inv X pins σ H' { s1 with heap:=h5 }:=by
 have ne:∀b o,s.heap.get? b=some o→H b=none→b≠e:=fun b o q n z=>by
  have:=un.free b o q n (by simp)
  rw[z,he]at this
  cases this
 have keep:∀b o,s.heap.get? b=some o→H b=none→b∉frs X.stack→h5.get? b=some o:=fun b o q n nf=>
  fl.st b o (kept b o (un.keep b o q n nf (by simp)) (ne b o q n) (.inr ⟨⟨o,q⟩,nf⟩))
 have slot:∀b o,s.heap.get? b=some o→H b=none→b∈frs X.stack→∃sl,h5.get? b=some { o with slots:=sl }:=fun b o q n hf=>by
  obtain⟨sl,q1⟩:=un.slot b o q n hf (by simp)
  obtain⟨_,o',ho',hnf⟩:=I.stack.mem hf
  rw[q]at ho'
  cases ho'
  obtain⟨sl2,q2⟩:=up b _ q1 hnf
  exact⟨sl2,q2⟩
 have trk:∀c u,(∃v,H' c=some v)→h1.get? c=some u→c≠e→h5.get? c=some u:=fun c u hv q n=>fl.st c u (kept c u q n (.inl hv))
 refine I.call' (s':={ s1 with heap:=h5 }) (ch:=[]) os ⟨fun b o q n nf _=>keep b o q n nf,fun b o q n hf _=>slot b o q n hf,fun b o q n _=>un.free b o q n (by simp),fun b o q _=>?_,un.tups,un.frzs,un.tbls⟩ (fun b ob hb=>?_) bare (fun b hb=>by cases hb)
 ·by_cases hbe:b=e
  ·obtain⟨oe,vs,T,oT,ts,h1,_⟩:=fl.tr
   exact⟨oe,by rw[hbe];exact h1⟩
  ·cases hH:H b with
   | none=>
    by_cases hf:b∈frs X.stack
    ·obtain⟨sl,q2⟩:=slot b o q hH hf
     exact⟨_,q2⟩
    ·exact⟨o,keep b o q hH hf⟩
   | some u=>
    obtain⟨o',q1⟩:=un.there b o q (by simp)
    by_cases hf:b∈frs X.stack
    ·rw[I.stkFree b hf]at hH;cases hH
    ·exact⟨o',fl.st b o' (kept b o' q1 hbe (.inr ⟨⟨o,q⟩,hf⟩))⟩
 ·by_cases hbe:b=e
  ·subst hbe
   rw[he]at hb
   cases hb
   obtain⟨oe,vs,T,oT,ts,g1,g2,g3,g4,_⟩:=fl.tr
   exact Zlq g1 g2 g3 g4
  ·refine(ok b ob hb).stay (fun c u hc q=>trk c u ?_ q ?_) (fun _ q=>q) fun _ _ q=>q
   ·rcases hc with z | z
    ·exact⟨ob,z▸hb⟩
    ·exact⟨_,z⟩
   ·rintro rfl
    rcases hc with z | z
    ·exact hbe z.symm
    ·rw[he]at z;cases z
end
def sux (X:Cx)(e:Addr):Cx:={ X with A:=X.A.mark (some (.ref e)),calm:=false,xe:=fun _ _=>False }
section
variable {X:Cx}{pins:List (Addr×Obj)}{σ:St}{H:Hp}{s:Shared}{e:Addr}
theorem Inv.sux (I:Inv X pins σ H s)(e:Addr):Inv (L2.sux X e) pins σ H s:=
 ⟨⟨I.ok.mod,I.ok.kind,I.ok.glob,I.ok.blt,I.ok.above,I.ok.inj,I.ok.has,I.ok.cab,(fun z=>by cases z),I.ok.frames,I.ok.stk,I.ok.exf,I.ok.bs,I.ok.bsz,I.ok.noex,I.ok.exfs,I.ok.funs,I.ok.frf⟩,I.os,I.bare,I.base,I.loc,I.cell,I.free,I.freeC,I.pin,I.hok,I.len⟩
theorem Inv.unsux (hh:X.calm=true→X.A.handled=none)(I:Inv (L2.sux X e) pins σ H s):Inv X pins σ H s:=
 ⟨⟨I.ok.mod,I.ok.kind,I.ok.glob,I.ok.blt,I.ok.above,I.ok.inj,I.ok.has,I.ok.cab,hh,I.ok.frames,I.ok.stk,I.ok.exf,I.ok.bs,I.ok.bsz,I.ok.noex,I.ok.exfs,I.ok.funs,I.ok.frf⟩,I.os,I.bare,I.base,I.loc,I.cell,I.free,I.freeC,I.pin,I.hok,I.len⟩
theorem Inv.unbind {i:Nat}{x:Str}{v:Option Value}{m:Str→Option Value}{h':Heap}{t':Nat}(I:Inv X pins σ H s)(hN:X.N.Nodup)(hi:X.N[i]?=some x)(hm:∀(i:Nat) (x:Str) (v:V),X.N[i]?=some x→σ[i]?=some (some v)→Vis X.env.scope x→∃u,RelV v u∧Look X.env s.heap m x u)
  (hn':h'.Ns X.env.locals (fun y=>if y=x then v else m y)) (hs:Heap.SameBut X.env.locals s.heap h'):Inv X pins (σ.set i none) H { s with heap:=h',toks:=t' }:=by
 obtain⟨m0,hn,_⟩:=id I.loc
 obtain⟨oL,_,_,hoL,_⟩:=id hn
 have ab:∀b o,X.s₀.heap.get? b=some o→b≠X.env.locals:=fun b o e=>YAY (YAi (YAG e) I.ok.above)
 refine⟨I.ok,I.os,I.bare,⟨fun b o e n hb hx=>(hs.2 b (ab b o e)).trans (I.base.keep b o e n hb hx),fun b o e n hb hx=>?_,I.base.free,fun b o e hx=>?_,I.base.tups,I.base.frzs,I.base.tbls⟩,⟨_,hn',fun j y v' e1 e2 e3=>?_⟩,fun y c e=>?_,I.free,I.freeC,fun p hp=>?_,fun b ob e=>?_,by simpa using I.len⟩
 ·obtain⟨sl,e1⟩:=I.base.slot b o e n hb hx
  exact⟨sl,(hs.2 b (ab b o e)).trans e1⟩
 ·obtain⟨o',e1⟩:=I.base.there b o e hx
  exact⟨o',(hs.2 b (ab b o e)).trans e1⟩
 ·have hj:j≠i:=by
   rintro rfl
   by_cases hl:j<σ.length
   ·rw[List.getElem?_set_self hl]at e2;cases e2
   ·rw[List.set_eq_of_length_le (Nat.le_of_not_lt hl),YBc (Nat.le_of_not_lt hl)]at e2;cases e2
  rw[List.getElem?_set_ne (YAw hj)]at e2
  obtain⟨u',r',q⟩:=hm j y v' e1 e2 e3
  refine⟨u',r',?_⟩
  rcases q with⟨k,e⟩|⟨k,c,e,z⟩
  ·refine .inl ⟨k,?_⟩
   have:y≠x:=fun e=>hj (Zec hN e1 (e▸hi))
   simp[this,e]
  ·exact .inr ⟨k,c,e,z.sameBut hs (I.cne y c e)⟩
 ·obtain⟨w',z⟩:=I.cell y c e
  exact⟨w',z.sameBut hs (I.cne y c e)⟩
 ·obtain⟨e,n,ne,nf,d⟩:=I.pin p hp
  exact⟨(hs.2 p.1 ne).trans e,n,ne,nf,d⟩
 ·refine(I.hok b ob e).stay (fun c w' hc q=>(hs.2 c ?_).trans q) (fun _ q=>q) fun _ _ q=>q
  rintro rfl
  rcases hc with z | hc
  ·rw[←z,I.free]at e;cases e
  ·rw[I.free]at hc;cases hc
end
abbrev TH:=Addr→Addr→Ends→St→Hp→Prop
def PHs (X:Cx)(hs:List ExceptHandler)(th:TH):Prop:=∀(pins:List (Addr×Obj)) (s:Shared) (σ:St) (H:Hp) (D:Ends) (e C:Addr) (d:Option Addr) (B:Heap),(∀h5,Fly B X.stack e (.ref C) d .none h5→s.heap.UpToSlots h5→Inv X pins σ H { s with heap:=h5 })→H e=some (xr e C d)→Fly B X.stack e (.ref C) d .none s.heap→th e C D σ H →
 wpAny (model X.prog X.w) X.A (handleBy (.ref e) X.env hs) (SP X pins D) X.xe s
def unE (i:Nat)(D:Ends):Ends:={ nx:=fun σ H=>D.nx (σ.set i none) H,rt:=D.rt,bk:=fun σ H=>D.bk (σ.set i none) H,ct:=fun σ H=>D.ct (σ.set i none) H }
def hAs (K:Frag)(C0:Addr)(i:Nat)(ts:TS)(tr:TH):TH:=fun e C D σ H=>∃b,PySem.W.exmOne K (.ref C) (.ref C0)=some b∧if b=true then ts (unE i D) (σ.set i (some (.ref e))) H else tr e C D σ H
def hNone:TH:=fun _ _ _ _ _=>False
theorem Zl6 {X:Cx}:PHs X [] hNone:=fun _ _ _ _ _ _ _ _ _ _ _ _ h=>h.elim
theorem ZhX {M:Model}{h:Heap}{e C:Addr}{o:Obj}(h1:h.get? e=some o)(h2:o.cls=.ref C):Looks M h (typeOf (.ref e)) (.ref C):=by
 intro A Q E s k q
 have h1':=k _ _ h1
 obtain⟨hp,g,d,tk,os⟩:=s
 unfold typeOf
 repeat (first | (with_reducible refine YBV h1' ?_;rw[h2]) | wp_step)
 exact q
section
variable {X:Cx}{x n:Str}{np pos:Pos}{b₀:Stmt}{suite:List Stmt}{rest:List ExceptHandler}{ts:TS}{tr:TH}{C0:Addr}{i:Nat}
theorem ZoK (hc:X.calm=true→X.A.handled=none)(hg:Gl X x)(hm:X.mg x=some (.ref C0))(hN:X.N.Nodup)(hi:X.N[i]?=some n)(hl:X.env.scope.names.lookup n=some .local)(hs:∀e,PSs (sux X e) (b₀::suite) ts)(hr:PHs X rest tr)
  (hdb:(x == ("__debug__":Str))=false:=by decide):PHs X (.ExceptHandler (some (.Name x np)) (some n) (b₀::suite) pos::rest) (hAs X.K C0 i ts tr):=by
 intro pins s σ H D e C d B cv he fl h
 obtain⟨b,hb,h⟩:=h
 have I:Inv X pins σ H s:=cv s.heap fl (Heap.UpToSlots.refl _)
 have J:=I.sux e
 refine wpAny_handleBy_cons (codeAny_handlers_test (ZbG (X:=sux X e) J hg hm ?_ hdb)) (by intro q;cases q)
 obtain⟨oe,vs,T,oT,tt,g1,g2,_⟩:=id fl.tr
 refine(PySem.W.exm_one (M:=model X.prog X.w) I.kIn (ZhX g1 g2) hb).here ?_
 have hp:(X.env.scope.kind == .class || (X.env.scope.kind == .module&&X.env.locals != X.env.globals))=false:=by rw[I.ok.kind];rfl
 cases b with
 | false=>exact hr pins s σ H D e C d B cv he fl h
 | true=>
  refine codeAny_handlers_suite_as (ZbH fl fun h6 fl6 up6=>?_)
  have J6:=(cv h6 fl6 up6).sux e
  refine ZcU (X:=sux X e) (i:=i) J6 hN hi (.inl hl) (v:=.ref e) rfl (fun s7 I7=>?_) (.inr hl)
  refine YBB (hs e pins s7 _ H (unE i D) I7 h) (fun f s8 q=>?_) fun _ _ z=>False.elim z
  have goes:∀ {σ8:St} {H8:Hp} {Q:Unit→Shared→Prop} (I8:Inv (sux X e) pins σ8 H8 s8),(∀s9,Inv X pins (σ8.set i none) H8 s9→Q () s9)→wpAny (model X.prog X.w) X.A (do bindName X.env n .none;unbindBehindTheSuite X.env n pos) Q X.xe s8:=fun {σ8 H8 Q} I8 k=>by
   have I9:=I8.unsux hc
   obtain⟨m,hn,hm'⟩:=I9.loc
   exact wpAny_nameGoes_keeps hl hn hp fun h' v hn' sb=>k _ (I9.unbind hN hi hm' hn' sb)
  cases f with
  | next=>
   obtain⟨σ8,H8,I8,q8⟩:=q
   exact goes I8 fun s9 I9=>⟨_,H8,I9,q8⟩
  | brk=>
   obtain⟨σ8,H8,I8,q8⟩:=q
   exact goes I8 fun s9 I9=>⟨_,H8,I9,q8⟩
  | cont=>
   obtain⟨σ8,H8,I8,q8⟩:=q
   exact goes I8 fun s9 I9=>⟨_,H8,I9,q8⟩
  | ret u=>
   obtain⟨v,σ8,H8,I8,r8,q8⟩:=q
   exact goes I8 fun s9 I9=>⟨v,_,H8,I9,r8,q8⟩
def Zm9 (K:Frag)(C0:Addr)(ts:TS)(tr:TH):TH:=fun e C D σ H=>∃b,PySem.W.exmOne K (.ref C) (.ref C0)=some b∧if b=true then ts D σ H else tr e C D σ H
def tTry (tb:TSx)(th:TH):TS:=fun D σ H=>tb D (fun σ' cls oe H'=>∃e C,cls=.ref C∧oe=some e∧th e C D σ' H') σ H
theorem Zl4 {body:List Stmt}{h₀:ExceptHandler}{hs:List ExceptHandler}{tb:TSx}{th:TH}(hst:X.stack=X.env::X.outer)(hfr:X.env.frame=some X.env.locals)(hb:PSsx X body tb)(hh:PHs X (h₀::hs) th):
  PS X (.Try body (h₀::hs) [] [] pos) (tTry tb th):=by
 intro pins s σ H D I h
 refine wpAny_Try_except (YBB (hb pins s σ H D _ I h) (fun f s1 q=>?_) fun ev s1 q=>?_)
 ·cases f with
  | next=>exact YDT q
  | ret v=>exact q
  | brk=>exact q
  | cont=>exact q
 ·obtain⟨σ',H2,s2,I2,e,C,d,H',h1,B,rfl,os,bare,un,ok,he,kept,fl,up,e',C',ec,ee,hth⟩:=q
  cases ec
  cases ee
  have fr:X.A.frames=some (X.env::X.outer):=by rw[←hst];exact I.ok.frames
  rw[hst]at fl
  refine ZeS fr hfr fl fun h4 fl4 up4=>ZbH (s:={ s1 with heap:=h4 }) fl4 fun h5 fl5 up5=>?_
  rw[←hst]at fl5
  exact hh pins { s1 with heap:=h5 } σ' H' D e C d B (fun h6 fl6 up6=>Zha (s1:=s1) I2 os bare un ok he kept fl6 (up.trans (up4.trans (up5.trans up6)))) he fl5 hth
end
end L2
namespace L2
open PySem PySem.Spec PyProof.Rows
open PySem.W (Frag findIn specialIn typeIn mroIn clsIn subIn kitOne kitCls InstAt Looks)
section
variable {X:Cx}{pins:List (Addr×Obj)}{σ:St}{H:Hp}{s:Shared}{e C:Addr}{fs:List (Str×V)}{f:Str}{v:V}{A:Around}{E:Value→Shared→Prop}
theorem Zjz {d:Option Addr}(I:Inv X pins σ H s)(h:H e=some (xr e C d)):∃(o:Obj) (vs:Array Value),s.heap.get? e=some o∧o.cls=.ref C∧o.dict=d∧o.data=.fields vs:=(I.hok e _ h).1
theorem XAny.inst (I:Inv X pins σ H s)(x:XAny H e C fs):∃(ox:Obj) (od:Option Obj),InstAt s.heap e ox C od∧∀name,∃r,(match od with | some o=>PySem.W.lookIn name o | none=>some none)=some r∧RelO (fs.lookup name) r:=by
 cases x with
 | un h=>exact h.inst I
 | bare h=>
  obtain⟨o,vs,h1,h2,h3,h4⟩:=Zjz I h
  exact⟨o,none,⟨h1,h2,by unfold PySem.W.notCls;rw[h4],by rw[h3];trivial⟩,fun name=>⟨none,rfl,by trivial⟩⟩
 | @full d _ h h' hne=>
  obtain⟨o,vs,h1,h2,h3,h4⟩:=Zjz I h
  obtain⟨⟨_,mA,hn,hr,_⟩,_⟩:=I.hok d _ h'
  obtain⟨od,hod,hl⟩:=Zdn hn
  exact⟨o,some od,⟨h1,h2,by unfold PySem.W.notCls;rw[h4],by rw[h3];exact hod⟩,fun name=>⟨mA name,hl name,hr name⟩⟩
theorem Zns {b:Bool}{Q:Value→Shared→Prop}(I:Inv X pins σ H s)(x:XAny H e C fs)(c:Xc X.K C)(n:NoAttr X.K C f)(l:fs.lookup f=some v)(h:∀u s',Inv X pins σ H s'→RelV v u→Q u s'):wpAny (model X.prog X.w) A (getAttr (.ref e) f b) Q E s:=by
 obtain⟨ox,od,J,hr⟩:=x.inst I
 obtain⟨r,hl,ro⟩:=hr f
 rw[l]at ro
 obtain⟨u,rfl,ru⟩:=RelO.some_of ro
 refine ZgC I.kIn J c ?_ (Zfd ru) (h u _ (I.tok _) ru)
 cases od with
 | none=>cases hl
 | some o=>exact PySem.W.findObj_own c.hd n rfl hl
end
def ZjE (K:Frag)(ta:TE)(f:Str):TE:=fun σ H Q=>ta σ H fun x H1=>∃e C fs v,x=.ref e∧XAny H1 e C fs∧Xc K C∧NoAttr K C f∧fs.lookup f=some v∧Q v H1
theorem Zgf {X:Cx}{K:Frag}{e:Expr}{f:Str}{pos:Pos}{ta:TE}(hK:X.K=K)(he:PE X e ta)(hb:attributeBase e f X.env (eval e X.env)=eval e X.env):PE X (.Attribute e f pos) (ZjE K ta f):=by
 subst hK
 intro pins s σ H Q I h
 refine Ziz hb (thn (he pins s σ H _ I h) fun u s1 ⟨x,H1,I1,rx,a,C,fs,v,ex,xa,c,n,l,q⟩=>?_)
 subst ex
 obtain rfl:u=Value.ref a:=rx
 exact Zns I1 xa c n l fun u' s2 I2 ru=>⟨v,H1,I2,ru,q⟩
inductive TyR (K:Frag) (H:Hp):V→Value→Prop where
 | ty {x:V} {t:Value} (h:TyX K H x t):TyR K H x t
 | exc {e C:Addr} {fs:List (Str×V)} (x:XAny H e C fs) (i:Xi K C):TyR K H (.ref e) (.ref C)
theorem Zam {X:Cx}{K:Frag}(hK:X.K=K):Zch X (.builtin "isinstance") (fun xs H Q=>∃x c t k b,xs=[x,c]∧clsV c=some k∧TyR K H x t∧kitOne K t k=some b∧Q (.bl b) H):=by
 subst hK
 rintro pins s σ H xs us Q I r ⟨x,c,t,k,b,rfl,hk,ty,e,q⟩
 cases ty with
 | ty h=>exact ZfX pins s σ H _ us Q I r ⟨x,c,t,k,b,rfl,hk,h,e,q⟩
 | exc xa i=>
  obtain⟨u,v,rfl,ru,rv⟩:=r.two
  have hv:v=k:=by
   cases c with
   | ref a=>cases hk;exact rv
   | ty n=>cases hk;exact rv
   | _=>cases hk
  subst hv
  cases ru
  obtain⟨ox,od,J,_⟩:=xa.inst I
  exact YBF (Zei i) I.kIn J e (fun z=>nomatch z) fun tk=>⟨.bl b,H,I.tok _,rfl,q⟩
theorem Zlc {K:Frag} {C D:Addr} {m1 m2:List Value} {b:Bool} (c:ClsOk K C m1) (d:ClsOk K D m2) (hb:m2.contains (.type "BaseException")=true) (h:m1.contains (.ref D)=b):PySem.W.exmOne K (.ref C) (.ref D)=some b:=by
 obtain⟨cd,e1,e2⟩:=c.cd
 obtain⟨cd',e3,e4⟩:=d.cd
 have hs:PySem.W.subIn K (.ref D) (.type "BaseException")=some true:=by
  unfold PySem.W.subIn PySem.W.mroIn
  dsimp only
  rw[e3,YCT,e4,d.ne,hb]
  rfl
 unfold PySem.W.exmOne
 rw[YAO (by rw[hs];rfl)]
 unfold PySem.W.kitCls
 dsimp only
 rw[e3,d.ty]
 simp only[Option.isSome_some,YBr,beq_self_eq_true,if_true]
 unfold PySem.W.subIn PySem.W.mroIn
 dsimp only
 rw[e1,YCT,e2,c.ne,h]
 rfl
end L2
namespace L2
open PySem PySem.Spec PyProof.Rows
open PySem.W (Frag)
theorem ObjOk.there {P:Program}{w:World}{H:Hp}{h:Heap}{a:Addr}:∀ {o:HO},ObjOk P w H h a o→∃u,h.get? a=some u
 | .lst _,x=>by obtain⟨_,_,_,_,e⟩:=x;exact⟨_,e⟩
 | .tup _,x=>by obtain⟨_,_,_,ob,e,_⟩:=x;exact⟨_,e⟩
 | .dK _,x=>by obtain⟨_,_,_,_,ob,_,_,e,_⟩:=x;exact⟨_,e⟩
 | .dT _,x=>by obtain⟨_,_,_,_,ob,_,_,e,_⟩:=x;exact⟨_,e⟩
 | .set _ _,x=>by obtain⟨ob,_,_,_,e,_⟩:=x;exact⟨_,e⟩
 | .ins _ _ _,x=>by obtain⟨_,_,_,e,_⟩:=x;exact⟨_,e⟩
 | .own _,x=>x
 | .xd _,x=>by obtain⟨_,⟨ob,_,_,e,_⟩,_⟩:=x;exact⟨_,e⟩
 | .met _ _,x=>⟨_,x⟩
 | .rng _ _,x=>by obtain⟨_,_,_,e⟩:=x;exact⟨_,e⟩
 | .frz _ _,x=>⟨_,x.1⟩
 | .tbl _,x=>⟨_,x⟩
 | .ext _,x=>x.2.1
theorem HOk.none_of {P:Program}{w:World}{H:Hp}{h:Heap}{a:Addr}(ok:HOk P w H h)(n:h.get? a=none):H a=none:=by
 cases q:H a with
 | none=>rfl
 | some o=>
  obtain⟨u,hu⟩:=(ok a o q).there
  rw[n]at hu
  cases hu
theorem Inv.laid2 {X:Cx}{pins:List (Addr×Obj)}{σ:St}{H:Hp}{s s':Shared}{a:Addr}{o:HO}(I:Inv X pins σ H s)(os:s'.os=s.os)(hg:s'.gens=s.gens)(k:∀b u,s.heap.get? b=some u→s'.heap.get? b=some u)(nw:s.heap.get? a=none)
  (new:ObjOk X.prog X.w (upd H a o) s'.heap a o):Inv X pins σ (upd H a o) s':=by
 have hn:=I.hok.none_of nw
 have ne:∀b u,s.heap.get? b=some u→b≠a:=fun b u q z=>by rw[z,nw]at q;cases q
 have neH:∀b u,H b=some u→b≠a:=fun b u q=>Zan q hn
 refine I.call' (ch:=[]) os ⟨fun b u q _ _ _=>k b u q,fun b u q _ _ _=>⟨u.slots,k b u q⟩,fun b u q n _=>by rw[Zaf (ne b u q)];exact n,fun b u q _=>⟨u,k b u q⟩,fun b xs q=>by rw[Zaf (neH b _ q)];exact q,fun b u v q=>by rw[Zaf (neH b _ q)];exact q,fun b ps q=>⟨#[],by rw[Zaf (neH b _ q),Array.append_empty];exact q⟩⟩
  (fun b u q=>?_) (by rw[hg];exact I.bare) (fun b hb=>by cases hb)
 by_cases hb:b=a
 ·subst hb
  rw[Zae]at q
  cases q
  exact new
 ·rw[Zaf hb]at q
  exact(I.hok b u q).stay (fun c w' _ q=>k c w' q) (fun c q=>by rw[Zaf (neH c _ q)];exact q) fun c xs q=>by rw[Zaf (neH c _ q)];exact q
section
variable {X:Cx}
def signs (l:List Nat):List (List Nat):=l.map fun c=>[c]
theorem ZfO {l:List Nat}{acc:Array Value}(h:ItemsOf (SignAt ⟨l.toArray⟩) acc (⟨l.toArray⟩:Str).cps.size):Vals ((signs l).map tx) acc.toList:=by
 obtain⟨h1,h2⟩:=h
 have hl:(⟨l.toArray⟩:Str).cps.size=l.length:=by show l.toArray.size=_;simp
 rw[hl]at h1
 have gen:∀(l:List Nat) (us:List Value),us.length=l.length→(∀(j:Nat) (v:Value),us[j]?=some v→∃(c:Nat) (u:Tok),l[j]?=some c∧v=Value.str ⟨#[c]⟩ u)→Vals ((signs l).map tx) us:=by
  intro l
  induction l with
  | nil=>
   intro us hl _
   have:us=[]:=YDI hl
   subst this
   exact .nil
  | cons c l ih=>
   intro us hl h
   cases us with
   | nil=>cases hl
   | cons u us=>
    obtain⟨c',t,e,rfl⟩:=h 0 u rfl
    cases e
    refine .cons ⟨t,rfl⟩ (ih us (by simpa using hl) fun j v e=>h (j+1) v e)
 refine gen l acc.toList (by rw[YAN,h1]) fun j v e=>?_
 rw[YAl]at e
 obtain⟨c,u,e1,e2⟩:=h2 j v e
 exact⟨c,u,by simpa using e1,e2⟩
theorem ZbV (hc:X.calm=true):Zch X (.type "list") (fun xs H Q=>∃l,xs=[tx l]∧l.length≤1000∧NewL ((signs l).map tx) H Q):=by
 rintro pins s σ H xs us Q I r ⟨l,rfl,hz,q⟩
 obtain⟨u,rfl,t,rfl⟩:=r.one
 have hl:(⟨l.toArray⟩:Str).cps.size=l.length:=by show l.toArray.size=_;simp
 refine call_list_str (I.ok.hd hc) _ t (fun h' tk acc c k e it=>?_) (by rw[hl];exact YCw (Zc9 hz))
 refine⟨.ref s.heap.objs.size,_,I.laid (t':=tk) k (YAP _) ?_,rfl,q _ I.fresh⟩
 exact⟨by unfold signs;rw[YAD,YAD];exact YCw (Zc9 hz),acc.toList,c,ZfO it,by rw[YCq];exact e⟩
theorem Ziu (hc:X.calm=true):Zch X (.builtin "all") (fun xs H Q=>∃(a:Addr) (bs:List Bool),xs=[.ref a]∧H a=some (.lst (bs.map V.bl))∧Q (.bl (bs.all id)) H):=by
 rintro pins s σ H xs us Q I r ⟨a,bs,rfl,ha,q⟩
 obtain⟨u,rfl,ru⟩:=r.one
 cases ru
 obtain⟨_,its,n,r',hlen,e⟩:=I.lstM ha
 have hl:s.heap.IsList a its.toArray:=YCA e
 have hne:a≠s.heap.objs.size:=YAY (YAG e)
 refine call_all_walkS (YCj hl ?_)
 have hL:its.toArray.size=bs.length:=by rw[YAH,←r'.length,YAD]
 have W:=(Walks.list (prog:=X.prog) (w:=X.w) (A:=X.A.in1) (by simpa using I.ok.hd hc) s.heap.objs.size a hne its.toArray).toS
 refine⟨s.heap.objs.size,_,_,_,_,_,_,fun i=>bs.getD i true,rfl,W,⟨⟨_,YAF _ rfl,rfl,rfl⟩,hl.push _⟩,?_,fun s' hm=>?_⟩
 ·intro i v s Q E hv hQ
  have e':its[i]?=some v:=by simpa using hv
  obtain⟨x,hx,rx⟩:=Zb9 r' e'
  rw[YAk]at hx
  cases hb:bs[i]? with
  | none=>rw[hb]at hx;cases hx
  | some b=>
   rw[hb]at hx
   cases hx
   obtain rfl:v=Value.bool b:=rx
   have:bs.getD i true=b:=by rw[YAR,hb];rfl
   have hQ':Q (bs.getD i true) s:=hQ
   rw[this]at hQ'
   exact YBs hQ'
 ·have ea:(List.range its.toArray.size).all (fun i=>bs.getD i true)=bs.all id:=by
   rw[hL]
   rw[YBG,YBE,YBE]
   constructor
   ·intro h b hb
    obtain⟨i,hi,rfl⟩:=YCu hb
    have:=h i (YAq.mpr hi)
    rw[YAR,YAL hi]at this
    exact this
   ·intro h i hi
    have hi:=YAq.mp hi
    rw[YAR,YAL hi]
    exact h _ (YCB hi)
  rw[ea]
  have I2:Inv X pins σ H s':=I.call' (ch:=[]) hm.os (Un.kept fun b o q=>hm.heap b o (fun z=>?_) (YAB _ q)) (I.hok.kept fun b o q=>hm.heap b o (fun z=>?_) (YAB _ q)) (by rw[show s'.gens=s.gens from hm.gens];exact I.bare) (fun b hb=>by cases hb)
  ·exact⟨.bl _,H,I2,rfl,q⟩
  ·have z:b=s.heap.objs.size:=by simpa using z
   rw[z]at q;exact absurd (YAG q) (YAt _)
  ·have z:b=s.heap.objs.size:=by simpa using z
   rw[z]at q;exact absurd (YAG q) (YAt _)
def tset (P:Program)(w:World)(a:Addr)(ls:List (List Nat)):HO:=.ext fun h=>TxSet P w h a ls (!Za6 w)
theorem Zka {P:Program}{w:World}{H:Hp}{h:Heap}{a:Addr}{ls:List (List Nat)}(x:TxSet P w h a ls (!Za6 w)):ObjOk P w H h a (tset P w a ls):=by
 obtain⟨o,es,ep,t,ms,h1,r⟩:=id x
 exact⟨x,⟨o,h1⟩,fun g1 g2 y k=>y.keep k⟩
def ddl (ls:List (List Nat)):List (List Nat):=ls.foldl addT []
theorem Zes {ls:List (List Nat)}:dd (fun i=>ls.getD i []) ls.length=ddl ls:=by
 unfold dd ddl
 congr 1
 apply YDH
 ·simp
 ·intro n h1 h2
  simp[h2]
theorem Zcd (hc:X.calm=true):Zch X (.type "set") (fun xs H Q=>∃ls:List (List Nat),ls.length≤1000∧((∃l,xs=[tx l]∧ls=signs l)∨∃a,xs=[.ref a]∧SqL X.K H a (ls.map tx))∧∀p,H p=none→Q (.ref p) (upd H p (tset X.prog X.w p (ddl ls)))):=by
 rintro pins s σ H xs us Q I r ⟨ls,hz,hx,q⟩
 have hb:ls.length+1<scanBound:=by show _<4096;omega
 have fin:∀(h':Heap) (tk:Nat),TxSet X.prog X.w h' s.heap.objs.size (ddl ls) (!Za6 X.w)→(∀b o,s.heap.get? b=some o→h'.get? b=some o)→EP X pins σ Q (.ref s.heap.objs.size) { s with heap:=h',toks:=tk }:=fun h' tk hS k=>
  ⟨.ref s.heap.objs.size,_,I.laid (t':=tk) k (YAP _) (Zka hS),rfl,q _ I.fresh⟩
 rcases hx with⟨l,rfl,rfl⟩|⟨a,rfl,hq⟩
 ·obtain⟨u,rfl,t,rfl⟩:=r.one
  have hl:(signs l).length=l.length:=by unfold signs;rw[YAD]
  have e0:dd (fun i=>[l.getD i 0]) l.length=ddl (signs l):=by
   unfold dd ddl signs
   congr 1
   apply YDH
   ·simp
   ·intro n h1 h2
    have:n<l.length:=by simpa using h2
    simp[this]
  refine Zga (I.ok.hd hc) (Zfv (prog:=X.prog) (w:=X.w) (s:=s) (l:=l) (t:=t)) F.sub_str_set F.sub_str_frozenset (by decide) (by rw[←hl];exact hb) fun h' tk hS k _=>?_
  rw[e0]at hS
  exact fin h' tk hS k
 ·obtain⟨u,rfl,ru⟩:=r.one
  cases ru
  obtain⟨its,rv,p,_⟩:=I.list hq
  refine Zga (I.ok.hd hc) (Zfw (prog:=X.prog) (w:=X.w) (s:=s) p.isList rv) F.sub_list_set F.sub_list_frozenset (by decide) hb fun h' tk hS k _=>?_
  rw[Zes]at hS
  exact fin h' tk hS k
theorem ZbU (hc:X.calm=true):Zch X (.builtin "sorted") (fun xs H Q=>∃a ls,xs=[.ref a]∧H a=some (tset X.prog X.w a ls)∧ls.length<64∧NewL ((ZaR ls).map tx) H Q):=by
 rintro pins s σ H xs us Q I r ⟨a,ls,rfl,ha,h64,q⟩
 obtain⟨u,rfl,ru⟩:=r.one
 cases ru
 have hS:TxSet X.prog X.w s.heap a ls (!Za6 X.w):=(I.hok a _ ha).1
 refine ZgG (I.ok.hd hc) hS h64 fun s' b us e nw k hg ho hb rv=>?_
 have hl:(ZaR ls).length≤sizeLine:=by rw[(Zay ls).length_eq];exact YAQ (YCw h64) (by rw[sizeLine_eq];decide)
 exact⟨.ref b,_,I.laid2 (o:=.lst ((ZaR ls).map tx)) ho hg k nw ⟨by rw[YAD];exact hl,us,e,rv,hb⟩,rfl,q b (I.hok.none_of nw)⟩
end
theorem ZaQ {X:Cx}{x:Str}{l:List Nat}{j:Nat}{pos:Pos}(h:x=⟨l.toArray⟩):PE X (.Constant (.str x) j pos) (tC (tx l)):=by subst h;exact Zl8
theorem ZiY {X:Cx} {x y:Str} {pos:Pos} (hg:Gl X x) (hm:∃t,X.mg x=some (.str y t)) (hd:(x == ("__debug__":Str))=false:=by decide):PE X (.Name x pos) (tC (.str y)):=by
 obtain⟨t,h⟩:=hm
 exact ZcB hg h ⟨t,rfl⟩ hd
theorem ZcW {X:Cx} {x:Str} {y:Int} {pos:Pos} (hg:Gl X x) (hm:∃t,X.mg x=some (.int y t)) (hd:(x == ("__debug__":Str))=false:=by decide):PE X (.Name x pos) (tC (.int y)):=by
 obtain⟨t,h⟩:=hm
 exact ZcB hg h ⟨t,rfl⟩ hd
section
variable {CX:CXT}{P:Program}{w:World}{K:PySem.W.Frag}{mg:Str→Option Value}{base:Heap}{N:List Str}{qual:Str}{scope:Scope}{f:Addr}{cd:Value}{A:Around}{outer:List Env}{s:Shared}{H:Hp}{E:XK}{X:Cx}{e:Addr}
theorem cxPr:(cxOf CX P w K mg base N qual scope f cd A outer s H E).prog=P:=rfl
theorem cxWo:(cxOf CX P w K mg base N qual scope f cd A outer s H E).w=w:=rfl
theorem suxK:(sux X e).K=X.K:=rfl
theorem ZnC:(sux X e).prog=X.prog:=rfl
theorem ZnB:(sux X e).w=X.w:=rfl
end
end L2
namespace L2
open PySem PySem.Spec PyProof.Rows
open PySem.W (Frag KeqHits)
theorem Zfa {κ:Type}[DecidableEq κ]{A:Around}{s:Shared}{kb:List (κ×Value)}(nd:(kb.map (·.1)).Nodup):∀(r:List (κ×Value)),(∀x∈r,x∈kb)→KeqHits A s kb r true
 | [],_=>.nil
 | (k,v)::r,hm=>by
  have h1:valueAt kb k=some v:=by
   unfold valueAt
   have hin:=hm (k,v) YAd
   obtain⟨y,hy,e⟩:∃y,kb.find? (fun kv=>kv.1=k)=some y∧y=(k,v):=by
    clear hm
    induction kb with
    | nil=>cases hin
    | cons z kb ih=>
     rw[YAg,YCN]at nd
     rcases YAM.mp hin with e | e
     ·subst e;exact⟨_,by simp,rfl⟩
     ·have hz:¬z.1=k:=fun e'=>nd.1 (e'▸YCR (f:=(·.1)) e)
      obtain⟨y,hy,e2⟩:=ih nd.2 e
      exact⟨y,by rw[List.find?_cons_of_neg (by simpa using hz)];exact hy,e2⟩
   rw[hy,e];rfl
  exact .hit (e:=true) (b:=true) h1 (SeqAt.EqAt.same _) (Zfa nd r fun x hx=>hm x (YAZ _ hx))
def rEqS (K:Frag)(neg:Bool):R2:=fun x y H Q=>rEqD K neg x y H Q∨∃(a:Addr) (kvs:List (Key×V)),x=.ref a∧y=.ref a∧H a=some (.dK kvs)∧Q (.bl (!neg)) H
section
variable {X:Cx}{K:Frag}
theorem ZeQ (hK:X.K=K)(hu:X.A.units+64<cLine):OpR X (compareOp .Eq) (rEqS K false):=by
 subst hK
 intro pins s σ H x y v u Q I rx ry h
 rcases h with h | ⟨a,kvs,rfl,rfl,e,q⟩
 ·exact ZjP hu pins s σ H x y v u Q I rx ry h
 ·cases rx;cases ry
  obtain⟨_,hm,vs,_,d⟩:=Zng I.hok e
  have nd:(vs.map (·.1)).Nodup:=let ⟨_,_,_,_,_,_,_,_,n⟩:=d;n
  exact PySem.W.keq_eq hm hm d d (by omega) (fun _=>Zfa nd vs fun _ hx=>hx) ⟨.bl true,H,I,by simp;rfl,q⟩
end
end L2
namespace L2
open PySem PySem.Spec PyProof.Rows
open PySem.W (Frag)
theorem Zeb {P:Program}{w:World}{K:Frag}{mg:Str→Option Value}{base:Heap}{N:List Str}{qual:Str}{scope:Scope}{f:Addr}{cd:Value}{A:Around}{outer:List Env}{s0:Shared}{H0:Hp}{E:XK}:
  ZbD (CXr P w) (cxOf (CXr P w) P w K mg base N qual scope f cd A outer s0 H0 E) E:=by
 intro pins σ H s ev s' I hx
 generalize hX:cxOf (CXr P w) P w K mg base N qual scope f cd A outer s0 H0 E=X at I hx ⊢
 have eA:X.A=A.deeper (envOfC qual scope s0.heap.objs.size f cd):=by rw[←hX];rfl
 have eS:X.stack=envOfC qual scope s0.heap.objs.size f cd::outer:=by rw[←hX];rfl
 have eF:X.fs=frs outer:=by rw[←hX];rfl
 have e0:X.s₀=s0:=by rw[←hX];rfl
 have eH:X.H₀=H0:=by rw[←hX];rfl
 have eX:X.ex=[]:=by rw[←hX];rfl
 have ePr:X.prog=P:=by rw[←hX];rfl
 have eW:X.w=w:=by rw[←hX];rfl
 have hxe:∀ev s',wpAny (model P w) (A.deeper (envOfC qual scope s0.heap.objs.size f cd)) (leaving (envOfC qual scope s0.heap.objs.size f cd) ev) (fun _ s''=>CXr P w outer H0 s0 E ev s'') (fun e' s''=>CXr P w outer H0 s0 E e' s'') s'→X.xe ev s':=by
  intro ev s' z;rw[←hX];exact z
 obtain⟨e,C,d,H',h1,B,rfl,hos,hbare,un,ok,he,kept,fl,up,hE⟩:=hx
 refine hxe _ _ ?_
 have hfr:(A.deeper (envOfC qual scope s0.heap.objs.size f cd)).frames=some (envOfC qual scope s0.heap.objs.size f cd::outer):=by rw[←eA,←eS];exact I.ok.frames
 have J:Inv X pins σ H' { s' with heap:=h1 }:=I.call' (s':={ s' with heap:=h1 }) (ch:=[]) hos un (by rw[ePr,eW];exact ok) hbare (fun b hb=>by cases hb)
 rw[eS]at fl
 refine Zg0 hfr rfl fl fun h' fl' up'=>?_
 have os:s'.os=s0.os:=by rw[hos,←e0];exact I.os
 have un':Un (frs outer) [] H0 H' s0.heap h1:=by
  have:=J.base
  rwa [eF,eX,eH,e0]at this
 refine⟨e,C,d,H',h1,B,rfl,os,hbare,un',ok,he,fun b o hb hne hc=>?_,fl',up.trans up',hE⟩
 rcases hc with hu | ⟨⟨o',ho'⟩,hn⟩
 ·exact kept b o hb hne (.inl hu)
 ·refine kept b o hb hne (.inr ⟨?_,fun z=>?_⟩)
  ·have:=I.base
   rw[eF,eX,eH,e0]at this
   exact this.there b o' ho' (by simp)
  ·rw[eS]at z
   have z':b=s0.heap.objs.size∨b∈frs outer:=by
    have:=z
    unfold frs at this
    rw[YDX]at this
    simpa [envOfC,frs] using this
   rcases z' with z' | z'
   ·rw[z']at ho';exact absurd (YAG ho') (YAt _)
   ·exact hn z'
end L2
namespace L2
open PySem PySem.Spec PyProof.Rows
section
variable {prog:Program}{w:World}{A:Around}{E:Value→Shared→Prop}{s:Shared}
theorem ZeC {it t:Addr}{i:Nat}{its:Array Value}{x:Value}{Q:Value→Shared→Prop}(hi:s.heap.IsTupleIter it t i)(ht:s.heap.IsTuple t its)(hx:its[i]?=some x)
  (q:∀h',h'.IsTupleIter it t (i+1)→Heap.SameBut it s.heap h'→Q x { s with heap:=h' }):wpAny (model prog w) A (Builtin.SmallTypes.nextOf (.ref it)) Q E s:=by
 obtain⟨o,ho,hc,hd⟩:=id hi
 obtain⟨u,hu,_,_,hud⟩:=ht
 unfold Builtin.SmallTypes.nextOf
 refine YAA (wpAny_callSpecial?_slot (name:=Str.ofString "__next__") hi.typeIs YCn (YBj YCn hi.typeIs F.entry_tuple_iterator_next ?_ (F.args_tuple_iterator_next_1 _)))
 show wpAny _ _ (field (.ref it) 0 >>= _) _ _ s
 refine YAA (YBf ho hd (x:=.ref t) rfl ?_)
 show wpAny _ _ (if (Value.ref t == Value.none)=true then _ else _) _ _ s
 rw[YAJ (show ¬((Value.ref t == Value.none)=true) from YAE)];show wpAny _ _ (field (.ref it) 1 >>= _) _ _ s
 refine YAA (YBf ho hd (x:=.int i 0) rfl ?_);show wpAny _ _ (seqItems? (.ref t) >>= _) _ _ s
 refine YAA (YBe hu hud ?_)
 simp only[YBd,hx]
 refine YAA (YBS ho hd (by simp) (YAC ⟨x,rfl,YAC (q _ ⟨_,YBR _ ho (YDE (YCD hd _)),(Obj.cls_mapFields ..).trans hc,by rw[YCD hd];simp[rawInt]⟩ (YAa ..))⟩))
theorem Zfy {it t:Addr}{i:Nat}{its:Array Value}{Q:Value→Shared→Prop}(hh:A.handled=none)(hi:s.heap.IsTupleIter it t i)(ht:s.heap.IsTuple t its)(hx:its[i]?=none)
  (q:∀h' e,Heap.ExtBut it s.heap h'→(∃o,h'.get? e=some o∧o.cls=.type "StopIteration")→E (.ref e) { s with heap:=h' }):wpAny (model prog w) A (Builtin.SmallTypes.nextOf (.ref it)) Q E s:=by
 obtain⟨o,ho,hc,hd⟩:=id hi
 obtain⟨u,hu,_,_,hud⟩:=ht
 unfold Builtin.SmallTypes.nextOf
 refine YAA (wpAny_callSpecial?_slot (name:=Str.ofString "__next__") hi.typeIs YCn (YBj YCn hi.typeIs F.entry_tuple_iterator_next ?_ (F.args_tuple_iterator_next_1 _)))
 show wpAny _ _ (field (.ref it) 0 >>= _) _ _ s
 refine YAA (YBf ho hd (x:=.ref t) rfl ?_)
 show wpAny _ _ (if (Value.ref t == Value.none)=true then _ else _) _ _ s
 rw[YAJ (show ¬((Value.ref t == Value.none)=true) from YAE)];show wpAny _ _ (field (.ref it) 1 >>= _) _ _ s
 refine YAA (YBf ho hd (x:=.int i 0) rfl ?_);show wpAny _ _ (seqItems? (.ref t) >>= _) _ _ s
 refine YAA (YBe hu hud ?_)
 simp only[YBd,hx]
 refine YAA (YBt (YAA (YBS ho hd (by simp) ?_)));show wpAny _ _ (newExc (.type "StopIteration") [] >>= _) _ _ _
 refine YAA ?_
 simp only[newExc,newTuple]
 refine YAA (YBZ (YAA (m:=firstArgMember _ _) (wpAny_of_eq (a:=Value.none) (by first | rfl | (simp only[firstArgMember];rfl)) (YBZ ?_ (by size_fits)))) (by size_fits))
 simp only[raiseNew]
 refine YAA (wpAny_handled ?_)
 rw[show A.in1.handled=none from hh];refine YAA (YAC (wpAny_throw ?_))
 exact q _ _ (((YAa ..).extBut.push _).push _) ⟨_,YAF _ rfl,rfl⟩
theorem Zer (hh:A.handled=none)(it t:Addr)(ne:t≠it)(its:Array Value):Draws prog w A it [it,t] its.size (fun i v=>its[i]?=some v) (fun i h=>h.IsTupleIter it t i∧h.IsTuple t its) where
 live:=fun _ _ z=>let ⟨o,ho,_⟩:=z.1;⟨o,ho⟩
 frame:=fun _ _ _ z k=>⟨z.1.at fun o e=>k it (by simp) o e,let ⟨o,ho,r⟩:=z.2;⟨o,k t (by simp) o ho,r⟩⟩
 item:=fun i s Q E hi z q=>ZeC z.1 z.2 (x:=its[i]) (by simp[hi]) fun h' a b=>q _ h' s.toks (by simp[hi]) ⟨a,z.2.extBut b.extBut ne⟩ b
 done:=fun s Q E z q=>Zfy hh z.1 z.2 (by simp) q
structure Zap (z TI TO i1 i2:Addr)(f1 f2:List Addr):Prop where
 a1:TI≠z
 a2:TO≠z
 a3:i1≠z
 a4:i2≠z
 a5:TI≠TO
 a6:TI≠i1
 a7:TI≠i2
 a8:TO≠i1
 a9:TO≠i2
 b1:z∉f1
 b2:z∉f2
 b3:TO∉f1
 b4:TO∉f2
 b5:i2∉f1
 b6:i1∉f2
variable {z TI TO i1 i2:Addr}{f1 f2:List Addr}{n i:Nat}{P1 P2:Nat→Value→Prop}{S1 S2:Nat→Heap→Prop}{a b:Value}
theorem Zhe {Q:Value→Shared→Prop}(D:Zap z TI TO i1 i2 f1 f2)(D1:Draws prog w A i1 f1 n P1 S1)(D2:Draws prog w A i2 f2 n P2 S2)(hn:i<n)
  (hz:IsZip s.heap z TI TO .none) (hI:IsPair s.heap TI (.ref i1) (.ref i2)) (hO:IsPair s.heap TO a b) (h1:S1 i s.heap) (h2:S2 i s.heap)
  (q:∀x y h' tk,P1 i x→P2 i y→IsZip h' z TI TO (rawInt s.heap.objs.size)→IsPair h' TO x y→S1 (i+1) h'→S2 (i+1) h'→IsPair h' s.heap.objs.size x y →
   (∀c o,c≠z→c≠TO→c≠i1→c≠i2→s.heap.get? c=some o→h'.get? c=some o)→Q (.ref s.heap.objs.size) { s with heap:=h',toks:=tk }):
  wpAny (model prog w) A (Builtin.«zip.__next__» ⟨[.ref z],[]⟩) (fun fin s'=>∃v,fin=.done (.ret v)∧Q v s') E s:=by
 show wpAny _ _ (field (.ref z) 2 >>= _) _ _ _
 refine YAA (YBf hz rfl (x:=.bool false) rfl ?_)
 show wpAny _ _ (field (.ref z) 3 >>= _) _ _ _
 refine YAA (YBf hz rfl (x:=.ref TI) rfl (YAA (YBe hI rfl ?_)))
 show wpAny _ _ (Builtin.SmallTypes.ownedTupleIsFree (.ref z) >>= _) _ _ _
 refine YAA ?_
 unfold Builtin.SmallTypes.ownedTupleIsFree
 refine YAA (YBf hz rfl (x:=.none) rfl (YAC ?_))
 simp only[if_true]
 refine YAA (YBt (YAA (YBf hz rfl (x:=.ref TO) rfl (YAA (YCx hz (by simp) fun g1 z1 k1=>?_)))))
 replace z1:IsZip g1 z TI TO .ellipsis:=z1
 replace k1:Heap.SameBut z s.heap g1:=k1
 refine YAA ?_
 simp only[List.zipIdx_cons,List.zipIdx_nil,YBw,List.forIn_nil]
 refine YAA (YAA (wpAny_onRaise ?_))
 show wpAny _ _ (Builtin.SmallTypes.nextOf (.ref i1) >>= _) _ _ _
 have f1':∀c,c∈f1→c≠z:=fun c hc e=>D.b1 (e▸hc)
 have f2':∀c,c∈f2→c≠z:=fun c hc e=>D.b2 (e▸hc)
 refine YAA (D1.item i _ _ _ hn (D1.frame _ _ _ h1 fun c hc o e=>k1.extBut _ _ (f1' c hc) e) fun x g2 tk1 px s1 k2=>YAC ?_)
 replace k2:Heap.SameBut i1 g1 g2:=k2
 have o2:IsPair g2 TO a b:=k2.extBut _ _ D.a8 (k1.extBut _ _ D.a2 hO)
 refine YAA (YBe o2 rfl (YAA (wpAny_updateSeq_pair o2 fun g3 o3 k3=>?_)))
 replace o3:IsPair g3 TO x b:=o3
 replace k3:Heap.SameBut TO g2 g3:=k3
 refine YAA (YDS (YAC (YAA (YAA (wpAny_onRaise ?_)))))
 show wpAny _ _ (Builtin.SmallTypes.nextOf (.ref i2) >>= _) _ _ _
 have e2:S2 i g3:=D2.frame _ _ _ h2 fun c hc o e=>k3.extBut _ _ (fun z=>D.b4 (z▸hc)) (k2.extBut _ _ (fun z=>D.b6 (z▸hc)) (k1.extBut _ _ (f2' c hc) e))
 refine YAA (D2.item i _ _ _ hn e2 fun y g4 tk2 py s2 k4=>YAC ?_)
 replace k4:Heap.SameBut i2 g3 g4:=k4
 have o4:IsPair g4 TO x b:=k4.extBut _ _ D.a9 o3
 refine YAA (YBe o4 rfl (YAA (wpAny_updateSeq_pair o4 fun g5 o5 k5=>?_)))
 replace o5:IsPair g5 TO x y:=o5
 replace k5:Heap.SameBut TO g4 g5:=k5
 refine YAA (YDS (YAC (YAC (YAA (YBe o5 rfl (YAA (wpAny_newTuple ?_)))))))
 have sz:g5.objs.size=s.heap.objs.size:=by rw[k5.1,k4.1,k3.1,k2.1,k1.1]
 have z5:IsZip g5 z TI TO .ellipsis:=k5.extBut _ _ D.a2.symm (k4.extBut _ _ D.a4.symm (k3.extBut _ _ D.a2.symm (k2.extBut _ _ D.a3.symm z1)))
 have kk:∀c o,c≠z→c≠TO→c≠i1→c≠i2→s.heap.get? c=some o→g5.get? c=some o:=fun c o c1 c2 c3 c4 e=>k5.extBut _ _ c2 (k4.extBut _ _ c4 (k3.extBut _ _ c2 (k2.extBut _ _ c3 (k1.extBut _ _ c1 e))))
 have t1:S1 (i+1) g5:=D1.frame _ _ _ s1 fun c hc o e=>k5.extBut _ _ (fun z=>D.b3 (z▸hc)) (k4.extBut _ _ (fun z=>D.b5 (z▸hc)) (k3.extBut _ _ (fun z=>D.b3 (z▸hc)) e))
 have t2:S2 (i+1) g5:=D2.frame _ _ _ s2 fun c hc o e=>k5.extBut _ _ (fun z=>D.b4 (z▸hc)) e
 have zl:z<g5.objs.size:=YAG z5
 show wpAny _ _ (Builtin.SmallTypes.ownedTupleHandOut (.ref z) (.ref g5.objs.size) >>= _) _ _ _
 refine YAA ?_
 unfold Builtin.SmallTypes.ownedTupleHandOut
 have z6:IsZip (g5.push { cls:=.type "tuple",data:=.seq #[x,y] }) z TI TO .ellipsis:=YAB _ z5
 refine YAA (YCx z6 (by simp) fun g7 z7 k7=>?_)
 replace z7:IsZip g7 z TI TO (rawInt g5.objs.size):=z7
 refine YCx z7 (by simp) fun g8 z8 k8=>?_
 replace z8:IsZip g8 z TI TO (rawInt g5.objs.size):=z8
 have up:∀c o,c≠z→g5.get? c=some o→g8.get? c=some o:=fun c o c1 e=>k8.extBut _ _ c1 (k7.extBut _ _ c1 (YAB _ e))
 have p8:IsPair g8 g5.objs.size x y:=k8.extBut _ _ (YCv zl) (k7.extBut _ _ (YCv zl) (YAF _ rfl))
 rw[sz]at z8 p8
 refine YAC ⟨_,rfl,?_⟩
 show Q (.ref g5.objs.size) _
 rw[sz]
 exact q x y g8 tk2 px py z8 (up _ _ D.a2 o5) (D1.frame _ _ _ t1 fun c hc o e=>up c o (f1' c hc) e) (D2.frame _ _ _ t2 fun c hc o e=>up c o (f2' c hc) e) p8 fun c o c1 c2 c3 c4 e=>up c o c1 (kk c o c1 c2 c3 c4 e)
theorem ZiE {Q:Fin→Shared→Prop}(D:Zap z TI TO i1 i2 f1 f2)(D1:Draws prog w A i1 f1 n P1 S1)
  (hz:IsZip s.heap z TI TO .none) (hI:IsPair s.heap TI (.ref i1) (.ref i2)) (h1:S1 n s.heap)
  (q:∀h' e,(∀c o,c≠z→c≠i1→s.heap.get? c=some o→h'.get? c=some o)→(∃o,h'.get? e=some o∧o.cls=.type "StopIteration")→E (.ref e) { s with heap:=h' }):
  wpAny (model prog w) A (Builtin.«zip.__next__» ⟨[.ref z],[]⟩) Q E s:=by
 show wpAny _ _ (field (.ref z) 2 >>= _) _ _ _
 refine YAA (YBf hz rfl (x:=.bool false) rfl ?_)
 show wpAny _ _ (field (.ref z) 3 >>= _) _ _ _
 refine YAA (YBf hz rfl (x:=.ref TI) rfl (YAA (YBe hI rfl ?_)))
 show wpAny _ _ (Builtin.SmallTypes.ownedTupleIsFree (.ref z) >>= _) _ _ _
 refine YAA ?_
 unfold Builtin.SmallTypes.ownedTupleIsFree
 refine YAA (YBf hz rfl (x:=.none) rfl (YAC ?_))
 simp only[if_true]
 refine YAA (YBt (YAA (YBf hz rfl (x:=.ref TO) rfl (YAA (YCx hz (by simp) fun g1 z1 k1=>?_)))))
 replace z1:IsZip g1 z TI TO .ellipsis:=z1
 replace k1:Heap.SameBut z s.heap g1:=k1
 refine YAA ?_
 simp only[List.zipIdx_cons,List.zipIdx_nil,YBw,List.forIn_nil]
 refine YAA (YAA (wpAny_onRaise ?_))
 show wpAny _ _ (Builtin.SmallTypes.nextOf (.ref i1) >>= _) _ _ _
 refine YAA (D1.done _ _ _ (D1.frame _ _ _ h1 fun c hc o e=>k1.extBut _ _ (fun z=>D.b1 (z▸hc)) e) fun g2 e k2 he=>?_)
 obtain⟨o,ho,hc⟩:=he
 have z2:IsZip g2 z TI TO .ellipsis:=k2 _ _ D.a3.symm z1
 have ez:e≠z:=fun x=>by subst x;rw[z2]at ho;cases ho;simp at hc
 refine YCx z2 (by simp) fun g3 _ k3=>q g3 e (fun c o c1 c3 x=>k3.extBut _ _ c1 (k2 _ _ c3 (k1.extBut _ _ c1 x))) ⟨o,k3.extBut _ _ ez ho,hc⟩
end
section
variable {prog:Program}{w:World}{A:Around}{E:Value→Shared→Prop}{s:Shared}{z TI TO i1 i2:Addr}{f1 f2:List Addr}{n i:Nat}{P1 P2:Nat→Value→Prop}{S1 S2:Nat→Heap→Prop}{a b:Value}
theorem ZcH {Q:Option Value→Shared→Prop}(D:Zap z TI TO i1 i2 f1 f2)(D1:Draws prog w A.in1 i1 f1 n P1 S1)(D2:Draws prog w A.in1 i2 f2 n P2 S2)(hn:i<n)
  (hz:IsZip s.heap z TI TO .none) (hI:IsPair s.heap TI (.ref i1) (.ref i2)) (hO:IsPair s.heap TO a b) (h1:S1 i s.heap) (h2:S2 i s.heap)
  (q:∀x y h' tk,P1 i x→P2 i y→IsZip h' z TI TO (rawInt s.heap.objs.size)→IsPair h' TO x y→S1 (i+1) h'→S2 (i+1) h'→IsPair h' s.heap.objs.size x y →
   (∀c o,c≠z→c≠TO→c≠i1→c≠i2→s.heap.get? c=some o→h'.get? c=some o)→Q (some (.ref s.heap.objs.size)) { s with heap:=h',toks:=tk }):
  wpAny (model prog w) A (pyNext (.ref z)) Q E s:=by
 have hT:s.TypeIs (.ref z) "zip":=⟨_,hz,rfl⟩
 unfold pyNext
 exact YAA (YCC (wpAny_callSpecial?_slot (name:=Str.ofString "__next__") hT F.slot_zip_next (YBj F.slot_zip_next hT F.entry_zip_next
   (Zhe D D1 D2 hn hz hI hO h1 h2 fun x y h' tk c1 c2 c3 c4 c5 c6 c7 c8=>YAC (q x y h' tk c1 c2 c3 c4 c5 c6 c7 c8)) (F.args_zip_next_1 _))))
theorem Zc2 {Q:Option Value→Shared→Prop}(D:Zap z TI TO i1 i2 f1 f2)(D1:Draws prog w A.in1 i1 f1 n P1 S1)
  (hz:IsZip s.heap z TI TO .none) (hI:IsPair s.heap TI (.ref i1) (.ref i2)) (h1:S1 n s.heap) (q:∀h',(∀c o,c≠z→c≠i1→s.heap.get? c=some o→h'.get? c=some o)→Q none { s with heap:=h' }):
  wpAny (model prog w) A (pyNext (.ref z)) Q E s:=by
 have hT:s.TypeIs (.ref z) "zip":=⟨_,hz,rfl⟩
 unfold pyNext
 refine YAA (YCC (wpAny_callSpecial?_slot (name:=Str.ofString "__next__") hT F.slot_zip_next (YBj F.slot_zip_next hT F.entry_zip_next (ZiE D D1 hz hI h1 fun h' e k he=>?_) (F.args_zip_next_1 _))))
 obtain⟨o,ho,hc⟩:=he
 exact YAA (wpAny_isInstance (T:="StopIteration") (b:=true) ⟨o,ho,hc⟩ isSubtype_stop (YAC (q _ k)))
end
abbrev zt1 (h:Heap)(l:Addr):Heap:=h.push { cls:=.type "tuple_iterator",data:=.fields #[.ref l,.int 0 0] }
abbrev zt2 (h:Heap)(l m:Addr):Heap:=(zt1 h l).push { cls:=.type "tuple_iterator",data:=.fields #[.ref m,.int 0 0] }
abbrev zt3 (h:Heap)(l m:Addr):Heap:=(zt2 h l m).push { cls:=.type "tuple",data:=.seq #[.ref h.objs.size,.ref (zt1 h l).objs.size] }
abbrev zt4 (h:Heap)(l m:Addr):Heap:=(zt3 h l m).push { cls:=.type "tuple",data:=.seq #[.none,.none] }
abbrev zt5 (h:Heap)(l m:Addr):Heap:=(zt4 h l m).push { cls:=.type "zip",data:=.fields #[.none,.bool false,.bool false,.ref (zt2 h l m).objs.size,.ref (zt3 h l m).objs.size] }
theorem ZgW (l m:Addr)(xs ys:Array Value):Meets (Builtin.«zip.__new__» ⟨[.type "zip",.ref l,.ref m],[]⟩) (fun _ R s=>s.heap.IsTuple l xs∧s.heap.IsTuple m ys∧R (.ok (.ret (.ref (zt4 s.heap l m).objs.size))) { s with heap:=zt5 s.heap l m }):=
 .of_wp fun prog w A R s h=>by
  obtain⟨hp,g,d,tk,os⟩:=s
  obtain⟨p1,p2,h⟩:=h
  have hsub:=sub_zip
  have L1:Heap.IsTuple (Shared.heap ⟨hp,g,d,tk,os⟩) l xs:=p1
  have L2:Heap.IsTuple (Shared.heap ⟨hp.push { cls:=.type "tuple_iterator",data:=.fields #[.ref l,.int 0 0] },g,d,tk,os⟩) m ys:=Heap.IsTuple.push p2 _
  wp_walk using wpAny_pyIter_tuple L1,wpAny_pyIter_tuple L2
  exact⟨_,rfl,h⟩
theorem Zis {prog:Program}{w:World}{A:Around}{E:Value→Shared→Prop}{s:Shared}{l m:Addr}{xs ys:Array Value}{Q:Value→Shared→Prop}(p1:s.heap.IsTuple l xs)(p2:s.heap.IsTuple m ys)
  (q:∀h',IsZip h' (s.heap.objs.size+4) (s.heap.objs.size+2) (s.heap.objs.size+3) .none→IsPair h' (s.heap.objs.size+2) (.ref s.heap.objs.size) (.ref (s.heap.objs.size+1))→IsPair h' (s.heap.objs.size+3) .none .none →
   h'.IsTupleIter s.heap.objs.size l 0→h'.IsTupleIter (s.heap.objs.size+1) m 0→(∀c o,s.heap.get? c=some o→h'.get? c=some o)→Q (.ref (s.heap.objs.size+4)) { s with heap:=h' }):
  wpAny (model prog w) A (call (.type "zip") [.ref l,.ref m]) Q E s:=by
 refine callType_new F.called_zip (by decide) (F.typeCall_zip_2 _ _) (F.newCall_zip_2 _ _) (fun obj=>F.args_object_init_3 obj _ _) F.entry_zip_new (ZgW l m xs ys) ⟨p1,p2,?_⟩
 have e1:(zt1 s.heap l).objs.size=s.heap.objs.size+1:=YAs ..
 have e2:(zt2 s.heap l m).objs.size=s.heap.objs.size+2:=by rw[YAs,e1]
 have e3:(zt3 s.heap l m).objs.size=s.heap.objs.size+3:=by rw[YAs,e2]
 have e4:(zt4 s.heap l m).objs.size=s.heap.objs.size+4:=by rw[YAs,e3]
 have g5:(zt5 s.heap l m).get? (zt4 s.heap l m).objs.size=some _:=YAF _ rfl
 have g4:(zt5 s.heap l m).get? (zt3 s.heap l m).objs.size=some _:=YAB _ (YAF _ rfl)
 have g3:(zt5 s.heap l m).get? (zt2 s.heap l m).objs.size=some _:=YAB _ (YAB _ (YAF _ rfl))
 have g2:(zt5 s.heap l m).get? (zt1 s.heap l).objs.size=some _:=YAB _ (YAB _ (YAB _ (YAF _ rfl)))
 have g1:(zt5 s.heap l m).get? s.heap.objs.size=some _:=YAB _ (YAB _ (YAB _ (YAB _ (YAF _ rfl))))
 show _∧_
 rw[e2,e3,e4]at g5
 rw[e1,e2]at g3
 rw[e3]at g4
 rw[e1]at g2
 rw[e4]
 exact⟨⟨_,g5,rfl⟩,q _ g5 g3 g4 ⟨_,g1,rfl,rfl⟩ ⟨_,g2,rfl,rfl⟩ fun c o x=>YAB _ (YAB _ (YAB _ (YAB _ (YAB _ x))))⟩
theorem ZgT {x p q:Nat}(h1:x≠p)(h2:x≠q):x∉[p,q]:=by simp[h1,h2]
theorem Zf2 (a b z:Nat)(h1:a<z)(h2:b<z):Zap (z+4) (z+2) (z+3) z (z+1) [z,a] [z+1,b] where
 a1:=show (z+2:Nat)≠z+4 by omega
 a2:=show (z+3:Nat)≠z+4 by omega
 a3:=show (z:Nat)≠z+4 by omega
 a4:=show (z+1:Nat)≠z+4 by omega
 a5:=show (z+2:Nat)≠z+3 by omega
 a6:=show (z+2:Nat)≠z by omega
 a7:=show (z+2:Nat)≠z+1 by omega
 a8:=show (z+3:Nat)≠z by omega
 a9:=show (z+3:Nat)≠z+1 by omega
 b1:=ZgT (by omega) (by omega)
 b2:=ZgT (by omega) (by omega)
 b3:=ZgT (by omega) (by omega)
 b4:=ZgT (by omega) (by omega)
 b5:=ZgT (by omega) (by omega)
 b6:=ZgT (by omega) (by omega)
theorem mem5 {c z:Nat}(h:c∈[z+4,z+2,z+3,z,z+1]):z≤c∧c≤z+4:=by
 simp only[YAM,YBk,or_false]at h
 omega
def Itz (K:PySem.W.Frag)(a b:Addr):It:=
  ⟨fun i H=>∃xs ys x y,SqT K H a xs∧SqT K H b ys∧xs.length=ys.length∧xs[i]?=some x∧ys[i]?=some y,
   fun i H v H'=>∃p x y,H p=none∧v=.ref p∧H'=upd H p (.tup [x,y])∧(∀xs,SqT K H a xs→xs[i]?=some x)∧∀ys,SqT K H b ys→ys[i]?=some y,
   fun i H=>∃xs ys,SqT K H a xs∧SqT K H b ys∧xs.length=ys.length∧xs.length=i⟩
theorem ZiF {P:Program}{w:World}{K:PySem.W.Frag}{es:List Expr}{x1:Nat}{tp:Pos}(a b z:Addr)(hz:a<z∧b<z):Turn P w K (.Tuple es x1 tp) (Itz K a b) [z+4,z+2,z+3,z,z+1] (z+4)
  (fun i h=>IsZip h (z+4) (z+2) (z+3) .none∧IsPair h (z+2) (.ref z) (.ref (z+1))∧(∃u v,IsPair h (z+3) u v)∧h.IsTupleIter z a i∧h.IsTupleIter (z+1) b i) where
 mem:=by simp
 obj:=fun i h st c hc=>by
  obtain⟨s1,s2,⟨u,v,s3⟩,⟨o4,s4,c4,d4⟩,⟨o5,s5,c5,d5⟩⟩:=st
  simp only[YAM,YBk,or_false]at hc
  rcases hc with e | e | e | e | e
  ·exact⟨_,e▸s1,fun v q=>by cases (show Data.fields _=Data.cell v from q)⟩
  ·exact⟨_,e▸s2,fun v q=>by cases (show Data.seq _ _=Data.cell v from q)⟩
  ·exact⟨_,e▸s3,fun v q=>by cases (show Data.seq _ _=Data.cell v from q)⟩
  ·exact⟨o4,e▸s4,fun v q=>by rw[d4]at q;cases q⟩
  ·exact⟨o5,e▸s5,fun v q=>by rw[d5]at q;cases q⟩
 keep:=fun i h h' st k=>by
  obtain⟨s1,s2,⟨u,v,s3⟩,s4,s5⟩:=st
  exact⟨k _ (by simp) _ s1,k _ (by simp) _ s2,⟨u,v,k _ (by simp) _ s3⟩,s4.at fun o q=>k _ (by simp) o q,s5.at fun o q=>k _ (by simp) o q⟩
 item:=by
  intro X hP hw hK hc i pins s σ H E I hf st hg
  subst hP hw hK
  obtain⟨s1,s2,⟨u,v,s3⟩,s4,s5⟩:=st
  obtain⟨xs,ys,x,y,ha,hb,hl,hx,hy⟩:=hg
  obtain⟨is,ri,pi,_⟩:=I.tuple ha
  obtain⟨js,rj,pj,_⟩:=I.tuple hb
  have li:is.toArray.size=xs.length:=by rw[YAH,ri.length]
  have lj:js.toArray.size=xs.length:=by rw[YAH,hl,rj.length]
  have hh:X.A.in1.handled=none:=by simpa using I.ok.hd hc
  have D1:=Zer (prog:=X.prog) (w:=X.w) (A:=X.A.in1) hh z a (YAY hz.1) is.toArray
  have D2:=Zer (prog:=X.prog) (w:=X.w) (A:=X.A.in1) hh (z+1) b (YAY (YCM hz.2)) js.toArray
  rw[li]at D1
  rw[lj]at D2
  have hi:i<xs.length:=(YAW.mp hx).1
  have ap:Zap (z+4) (z+2) (z+3) z (z+1) [z,a] [z+1,b]:=Zf2 a b z hz.1 hz.2
  have sz:z+4<s.heap.objs.size:=YAG s1
  refine ZcH ap D1 D2 hi s1 s2 s3 ⟨s4,pi⟩ ⟨s5,pj⟩ fun u1 u2 h' tk q1 q2 y1 y2 y3 y4 y5 y6=>?_
  refine⟨_,rfl,?_⟩
  refine wpAny_letOwnedTupleGo_zip (s:={ s with heap:=h',toks:=tk }) y1 fun h2 o2 sb=>?_
  obtain⟨x',hx',rx⟩:=Zb9 ri (show is[i]?=some u1 by simpa using q1)
  obtain⟨y',hy',ry⟩:=Zb9 rj (show js[i]?=some u2 by simpa using q2)
  obtain rfl:x=x':=Option.some.inj (hx.symm.trans hx')
  obtain rfl:y=y':=Option.some.inj (hy.symm.trans hy')
  have hfr:=I.fresh
  replace sb:Heap.SameBut (z+4) h' h2:=sb
  have k2:∀c o,c∉[z+4,z+2,z+3,z,z+1]→s.heap.get? c=some o→h2.get? c=some o:=fun c o hc q=>by
   simp only[YAM,YBk,or_false,not_or]at hc
   exact(sb.2 c hc.1).trans (y6 c o hc.1 hc.2.2.1 hc.2.2.2.1 hc.2.2.2.2 q)
  have I1:Inv X pins σ H { s with heap:=h2,toks:=tk }:=I.turnedN (t':=tk) k2 hf
  have t2:IsPair h2 s.heap.objs.size u1 u2:=(sb.2 _ (YCv sz)).trans y5
  have fp:=I.fpOk (H':=H) (YAP _) hfr
  have up:∀c o,c≠z+4→h'.get? c=some o→h2.get? c=some o:=fun c o n q=>(sb.2 c n).trans q
  refine⟨.ref s.heap.objs.size,upd H s.heap.objs.size (.tup [x,y]),I1.track fp I.sz ?_,rfl,⟨_,x,y,hfr,rfl,rfl,fun xs' h=>by rw[I.tuple_inj h ha];exact hx,fun ys' h=>by rw[I.tuple_inj h hb];exact hy⟩,⟨o2,?_,⟨u1,u2,up _ _ ap.a2 y2⟩,?_,?_⟩,fun c hc=>?_⟩
  ·exact⟨by show 2≤sizeLine;rw[sizeLine_eq];decide,[u1,u2],.cons rx (.cons ry .nil),⟨_,t2,rfl,_,rfl⟩⟩
  ·exact up _ _ ap.a1 (y6 _ _ ap.a1 ap.a5 ap.a6 ap.a7 s2)
  ·exact y3.1.at fun o q=>up _ _ ap.a3 q
  ·exact y4.1.at fun o q=>up _ _ ap.a4 q
  ·have hc':=hf c hc
   have:c≠s.heap.objs.size:=YAY (YCE (mem5 hc).2 sz)
   rw[Zaf this];exact hc'.1
 done:=by
  intro X hP hw hK hc i pins s σ H E I hf st hg
  subst hP hw hK
  obtain⟨s1,s2,⟨u,v,s3⟩,s4,s5⟩:=st
  obtain⟨xs,ys,ha,hb,hl,rfl⟩:=hg
  obtain⟨is,ri,pi,_⟩:=I.tuple ha
  have li:is.toArray.size=xs.length:=by rw[YAH,ri.length]
  have hh:X.A.in1.handled=none:=by simpa using I.ok.hd hc
  have D1:=Zer (prog:=X.prog) (w:=X.w) (A:=X.A.in1) hh z a (YAY hz.1) is.toArray
  rw[li]at D1
  have ap:Zap (z+4) (z+2) (z+3) z (z+1) [z,a] [z+1,b]:=Zf2 a b z hz.1 hz.2
  refine Zc2 ap D1 s1 s2 ⟨s4,pi⟩ fun h' k=>⟨rfl,I.turnedN (t':=s.toks) (fun c o hc q=>k c o (fun e=>hc (by simp[e])) (fun e=>hc (by simp[e])) q) hf⟩
 self:=fun _ _ _ _ _ st h=>wpAny_pyIter_zip st.1 h
section
variable {X:Cx}{es:List Expr}{x1:Nat}{tp:Pos}
def iZip (K:PySem.W.Frag)(ta:TA):TI:=fun σ H R=>ta σ H fun vs H1=>∃a b,vs=[.ref a,.ref b]∧(∃xs,SqT K H1 a xs)∧(∃ys,SqT K H1 b ys)∧R (Itz K a b) H1
end
section
variable {prog:Program}{w:World}{A:Around}{E:Value→Shared→Prop}{s:Shared}{l I S:Addr}{ls:List (List Nat)}{vs:List Value}{R:Result→Shared→Prop}{Q:Value→Shared→Prop}
theorem Zfx {i:Nat}{v:Value}(rv:Vals (ls.map tx) vs)(e:vs[i]?=some v):∃m t,ls[i]?=some m∧v=.str ⟨m.toArray⟩ t:=by
 obtain⟨x,hx,rx⟩:=Zb9 rv e
 rw[YAk]at hx
 cases hm:ls[i]? with
 | none=>rw[hm]at hx;cases hx
 | some m=>
  rw[hm]at hx
  cases hx
  obtain⟨t,rfl⟩:=rx
  exact⟨m,t,rfl,rfl⟩
end
section
variable {X:Cx}{e:Expr}{ta:TA}{p p2 pos kpos:Pos}
def repT (l:List Nat)(n:Int):List Nat:=(List.replicate n.toNat l).flatten
theorem Zff (a:Array Nat):∀(n:Nat) (acc:Array Nat),((List.replicate n a).foldl (·++·) acc).toList=acc.toList++(List.replicate n a.toList).flatten
 | 0,acc=>by simp
 | n+1,acc=>by
  rw[List.replicate_succ,YCg,Zff a n,List.replicate_succ]
  simp
theorem Zmz (l:List Nat)(n:Int):Txt.mul ⟨l.toArray⟩ n=⟨(repT l n).toArray⟩:=by
 unfold Txt.mul repT
 by_cases h1:n<1
 ·rw[YAO h1]
  have:n.toNat=0:=by omega
  rw[this];rfl
 ·rw[YAJ h1]
  split
  ·rename_i h
   rw[Bool.or_eq_true]at h
   rcases h with h | h
   ·have:n=1:=by simpa using h
    subst this
    simp
   ·have:l=[]:=by
     have:=beq_iff_eq.mp h
     rw[Zc6]at this
     exact YCy.mp this
    subst this
    simp
  ·congr 1
   apply Array.ext'
   rw[Zff]
   simp
theorem ZhL:OpR X (binaryOp .Mult) (fun x y H Q=>∃l n,x=tx l∧y=.int n∧0≤n∧n≤1000∧l.length≤1000∧Q (tx (repT l n)) H):=by
 rintro pins s σ H x y v u Q I rx ry ⟨l,n,rfl,rfl,h0,h1,h2,q⟩
 obtain⟨t,rfl⟩:=rx
 obtain⟨t',rfl⟩:=ry
 have e1:(⟨l.toArray⟩:Str).length=l.length:=Zc6 l
 refine SB.mul ⟨?_,fun a b=>?_,fun a b=>?_⟩ fun t2 k=>?_
 ·simp only[Bool.or_eq_false_iff,decide_eq_false_iff_not];omega
 ·rw[e1]
  have e3:(1000:Int)≤(2 ^ 63-1)/n:=by
   rw[Int.le_ediv_iff_mul_le (by omega)]
   omega
  omega
 ·rw[e1]
  have:l.length*n.toNat≤1000*1000:=Nat.mul_le_mul h2 (by omega)
  unfold Builtin.Str.tooLong
  simp only[decide_eq_false_iff_not]
  rw[sizeLine_eq]
  omega
 ·rw[Zmz];exact⟨tx _,H,I.tok _,⟨_,rfl⟩,q⟩
theorem ZjA:∀ {ns:List String} {its:List Value},Vals (ns.map V.ty) its→its=ns.map Value.type
 | [],_,.nil=>rfl
 | _::_,_,.cons a b=>by
  cases (show _=Value.type _ from a)
  rw[ZjA b,YAg]
theorem ZcM {K:PySem.W.Frag}(hK:X.K=K):Zch X (.builtin "isinstance") (fun xs H Q=>∃(x:V) (p:Addr) (ns:List String) (t:Value) (b:Bool),xs=[x,.ref p]∧H p=some (.tup (ns.map V.ty))∧TyX K H x t∧PySem.W.kitAny K t (ns.map Value.type)=some b∧(∀C,t≠.ref C)∧Q (.bl b) H):=by
 subst hK
 rintro pins s σ H xs us Q I r ⟨x,p,ns,t,b,rfl,hp,ty,e,nr,q⟩
 obtain⟨u,v,rfl,ru,rv⟩:=r.two
 cases rv
 obtain⟨_,its,r2,o,ho,hc,n,hd⟩:=I.hok p _ hp
 have ei:=ZjA r2
 subst ei
 have fin:∀ {Hx:Heap→Prop},PySem.W.KitX X.K u t Hx→Hx s.heap→u≠.builtin "__main__.__loader__#opaque"→wpAny (model X.prog X.w) X.A (call (.builtin "isinstance") [u,.ref p]) (EP X pins σ Q) X.xe s:=fun Z hx ne=>by
  obtain⟨oc,od,odt,osl⟩:=o
  cases hc
  cases hd
  exact PySem.W.kia_tup Z I.kIn hx ho e ne fun tk=>⟨.bl b,H,I.tok _,rfl,q⟩
 cases ty with
 | pl ty=>
  cases ty with
  | non=>cases (show u=Value.none from ru);exact fin PySem.W.kitx_none True.intro (fun z=>nomatch z)
  | bl y=>cases (show u=Value.bool y from ru);exact fin PySem.W.kitx_bool True.intro (fun z=>nomatch z)
  | int i=>obtain⟨t,z⟩:=(show ∃t,u=Value.int i t from ru);cases z;exact fin PySem.W.kitx_int True.intro (fun z=>nomatch z)
  | str y=>obtain⟨t,z⟩:=(show ∃t,u=Value.str y t from ru);cases z;exact fin PySem.W.kitx_str True.intro (fun z=>nomatch z)
  | flt y=>obtain⟨t,z⟩:=(show ∃t,u=Value.float y t from ru);cases z;exact fin PySem.W.kitx_float True.intro (fun z=>nomatch z)
  | @lst a xs ea=>
   cases (show u=Value.ref a from ru)
   obtain⟨_,_,n,_,h1⟩:=(show ObjOk X.prog X.w H s.heap a (.lst xs) from I.hok a _ ea)
   exact fin YCk ⟨_,h1,rfl⟩ (fun z=>nomatch z)
  | @frz a ob xs ea=>
   cases (show u=Value.ref a from ru)
   obtain⟨_,_,_,n,_,h1⟩:=(show ObjOk X.prog X.w H s.heap a (.frz ob (.lst xs)) from I.hok a _ ea)
   exact fin YCk ⟨_,h1,rfl⟩ (fun z=>nomatch z)
  | @tup a xs ea=>
   cases (show u=Value.ref a from ru)
   obtain⟨_,_,_,o',h1,h2,_⟩:=(show ObjOk X.prog X.w H s.heap a (.tup xs) from I.hok a _ ea)
   exact fin YDa ⟨o',h1,h2⟩ (fun z=>nomatch z)
  | @dK a kvs ea=>
   cases (show u=Value.ref a from ru)
   obtain⟨_,_,vs,_,ob,es,ep,h1,h2,_⟩:=(show ObjOk X.prog X.w H s.heap a (.dK kvs) from I.hok a _ ea)
   exact fin PySem.W.kitx_dict ⟨ob,h1,h2.1⟩ (fun z=>nomatch z)
  | @dT a kvs ea=>
   cases (show u=Value.ref a from ru)
   obtain⟨_,_,xs,_,ob,es,ep,h1,h2,_⟩:=(show ObjOk X.prog X.w H s.heap a (.dT kvs) from I.hok a _ ea)
   exact fin PySem.W.kitx_dict ⟨ob,h1,h2.1⟩ (fun z=>nomatch z)
  | ins _ _ _ _ _ _=>exact absurd rfl (nr _)
 | seqL h=>
  cases ru
  obtain⟨_,_,⟨o',n',h1,h2,_⟩,_⟩:=I.list h
  exact fin YCk ⟨o',h1,h2⟩ (fun z=>nomatch z)
 | seqT h=>
  cases ru
  obtain⟨_,_,⟨o',h1,h2,_⟩,_⟩:=I.tuple h
  exact fin YDa ⟨o',h1,h2⟩ (fun z=>nomatch z)
 | exc _ _=>exact absurd rfl (nr _)
end
end L2
namespace L2
open PySem PySem.Spec PyProof.Rows
open PySem.W (Frag)
theorem Zgi {X:Cx} {K:Frag} {T id:String} {name:Str} {o e:Expr} {es:List Expr} {to:TE} {t:TA} {apos cpos:Pos} {r:V→List V→Hp→VK→Prop} (hK:X.K=K) (pa:PlainAttrs T) (slot:Slot T name id) (hty:typeOf (.builtin id)=pure (.type "method_descriptor")) (hm:MtR X id r) (ho:PE X o to) (ha:PA X (e::es) t)
  (hbase:attributeBase o name X.env (eval o X.env)=eval o X.env:=by rfl)
  (hfew:((backTo cpos (starEach (e::es) X.env)).all (fun x=>!x.1)&&(backToKw cpos (keywordEach [] X.env)).all (fun x=>x.1.isSome)&&decide ((e::es).length+([]:List Keyword).length+(if ([]:List Keyword).isEmpty then 0 else 1)<30))=true:=by rfl)
  (hline:(apos.endLine == cpos.line)=true:=by rfl) (hs:starEach (e::es) X.env=(false,eval e X.env)::starEach es X.env:=by rfl) (hplain:(backTo cpos (starEach es X.env)).any (·.1)=false:=by rfl):PE X (.Call (.Attribute o name apos) (e::es) [] cpos) (tBM K T r to t):=by
 subst hK
 exact ZeM pa slot hty hm ho ha hbase hfew hline hs hplain
theorem ForRun.zip {g:TG}{tb:TS}{D:Ends}{σ:St}{H:Hp}{K:Frag}{a b:Addr}{xs ys:List V}(he:xs.length=ys.length)(Pv:Nat→St→Hp→Prop)(h0:Pv 0 σ H)(hl:∀i σ H,i≤xs.length→Pv i σ H→SqT K H a xs∧SqT K H b ys)
  (hs:∀i x y p σ H,xs[i]?=some x→ys[i]?=some y→Pv i σ H→H p=none→g (.ref p) σ (upd H p (.tup [x,y])) fun σ2 H2=>tb { D with nx:=Pv (i+1),ct:=Pv (i+1),bk:=D.nx } σ2 H2) (hd:∀σ H,Pv xs.length σ H→D.nx σ H):
  ForRun (Itz K a b) g tb D σ H:=by
 refine⟨fun i m σ H=>m=xs.length-i∧i≤xs.length∧Pv i σ H,⟨xs.length,by simp,YBI _,h0⟩,?_⟩
 rintro i m σ H ⟨rfl,hi,p⟩
 obtain⟨q1,q2⟩:=hl i σ H hi p
 by_cases hlt:i<xs.length
 ·have ly:i<ys.length:=by omega
  refine .inr ⟨⟨xs,ys,xs[i],ys[i],q1,q2,he,by simp[hlt],by simp[ly]⟩,Pv (i+1),fun σ' H' p'=>⟨xs.length-(i+1),by omega,rfl,hlt,p'⟩,fun x H' y=>?_⟩
  obtain⟨pt,u,v,hn,rfl,rfl,hu,hv⟩:=y
  exact hs i u v pt σ H (hu xs q1) (hv ys q2) p hn
 ·have e:i=xs.length:=by omega
  subst e
  exact .inl ⟨⟨xs,ys,q1,q2,he,rfl⟩,hd σ H p⟩
def sNo:TS:=fun _ _ _=>False
section
variable {X:Cx}{CX:CXT}{k:Nat}{L f:Addr}{fd:FuncData}{ps:List Str}{sp:Sp}{E:XK}{x:Str}{pos apos np:Pos}{e:Expr}{es:List Expr}{t:TA}{ds:List Value}{dvs:List V}
theorem Zgh {pl:Sem Bool} (hg:Gl X x) (hm:X.mg x=some (.ref L)) (cr:ClsRead X.K L "__init__" (.ref f)) (F:FnOk X.prog X.w X.K X.mg X.base CX k f fd ps sp) (hr:Room k X.A) (hk:PySem.W.keepIn X.K (.ref f)=true) (hb:Binds X.K fd ps ds) (hd:Vals dvs ds) (hx:ZbD CX X E)
  (ha:PA X (e::es) t) (hdb:(x == ("__debug__":Str))=false:=by decide) (hst:starEach (e::es) X.env=(false,eval e X.env)::starEach es X.env:=by rfl) (hpl:(backTo pos (starEach es X.env)).any (·.1)=false:=by rfl)
  (ht:eval (.Call (.Attribute (.Name x np) "__init__" apos) (e::es) [] pos) X.env=(do
   let ov ←eval (.Name x np) X.env
   standAt apos.atName
   let (f,first) ←holding [ov] (getMethod ov "__init__" pl)
   callWith pos f first (backTo pos (starEach (e::es) X.env)) (backToKw pos (keywordEach [] X.env))):=by rfl):PE X (.Call (.Attribute (.Name x np) "__init__" apos) (e::es) [] pos) (Zkh sp dvs E t):=by
 intro pins s σ H Q I h
 refine YCc (pl:=pl) (ZbG I hg hm ?_ hdb) ht
 refine PySem.W.method_cls I.kIn cr.sp (PySem.W.cls_value I.kIn cr.rd cr.fd cr.hn ?_)
 refine YBo (first:=[]) (h₀:=X.base) I.ok.mod.kin hk (thn (ha pos pins _ σ H _ (I.tok _) h) fun us s1 ⟨vs,H1,I1,r,q⟩=>⟨I1.kIn,?_⟩) hst hpl
 exact ZeI F hr hb hd hx I1 r q
end
def WhileRun (c:TT)(tb:TS)(D:Ends)(σ:St)(H:Hp):Prop:=ZjF c tb D σ H
theorem Zkw {c:TT}{tb:TS}{D:Ends}{σ:St}{H:Hp}:ZjF c tb D σ H=WhileRun c tb D σ H:=rfl
theorem WhileRun.by {c:TT}{tb:TS}{D:Ends}{σ:St}{H:Hp}(Pv:St→Hp→Prop)(μ:St→Hp→Nat)(h0:Pv σ H)
  (hs:∀σ H,Pv σ H→∃b:Bool,(∀Q:Bool→Hp→Prop,(∀H1,Same H H1→Q b H1)→c σ H Q)∧∀H1,Same H H1→if b=true then tb { D with nx:=fun σ' H'=>Pv σ' H'∧μ σ' H'<μ σ H,ct:=fun σ' H'=>Pv σ' H'∧μ σ' H'<μ σ H,bk:=D.nx } σ H1 else D.nx σ H1):WhileRun c tb D σ H:=by
 refine⟨fun m σ H=>m=μ σ H∧Pv σ H,⟨_,rfl,h0⟩,?_⟩
 rintro m σ H ⟨rfl,p⟩
 obtain⟨b,hc,hb⟩:=hs σ H p
 refine hc _ fun H1 s1=>?_
 have q:=hb H1 s1
 cases b with
 | true=>exact⟨_,fun σ' H' ⟨p',l⟩=>⟨_,l,rfl,p'⟩,q⟩
 | false=>exact q
end L2
namespace L2
open PySem PySem.Spec PyProof.Rows
noncomputable def gal:Bool→Keyed→Array Keyed→Nat→Nat→Nat→StateT SortSt Sem (Option Nat):=sortPriv% PySem.Builtin.gallop
noncomputable def galB (bey:Nat→StateT SortSt Sem (Option Bool)) (n h:Nat):StateT SortSt Sem (Option Nat):=do
  let mut la:=0
  let mut o:=1
  let mut lo:=0
  let mut hi:=0
  let some rt ←bey h | return none
  if rt then
   let mx:=n-h
   for _ in [0:n] do
    if o≥mx then break
    let some mo ←bey (h+o) | return none
    if !mo then break
    la:=o
    o:=2*o+1
   lo:=h+la+1
   hi:=h+min o mx
  else
   let mx:=h+1
   for _ in [0:n] do
    if o≥mx then break
    let some fo ←bey (h-o) | return none
    if fo then break
    la:=o
    o:=2*o+1
   lo:=h+1-min o mx
   hi:=h-la
  for _ in [0:n] do
   if lo≥hi then break
   let m:=lo+(hi-lo)/2
   let some mo ←bey m | return none
   if mo then lo:=m+1 else hi:=m
  return some hi
noncomputable def beyOf (lf:Bool) (ky:Keyed) (ar:Array Keyed) (bs:Nat) (i:Nat):StateT SortSt Sem (Option Bool):=do
 let x ←elem' ar (bs+i)
 if lf then lt' x ky else return (←lt' ky x).map (!·)
theorem Zna (lf:Bool)(ky:Keyed)(ar:Array Keyed)(bs n h:Nat):gal lf ky ar bs n h=galB (beyOf lf ky ar bs) n h:=rfl
noncomputable def galT (bey:Nat→StateT SortSt Sem (Option Bool)) (n l0 h0:Nat):StateT SortSt Sem (Option Nat):=do
  let mut lo:=l0
  let mut hi:=h0
  for _ in [0:n] do
   if lo≥hi then break
   let m:=lo+(hi-lo)/2
   let some mo ←bey m | return none
   if mo then lo:=m+1 else hi:=m
  return some hi
section
variable {M:Model}{A:Around}{E:Value→Shared→Prop}{s:Shared}{bey:Nat→StateT SortSt Sem (Option Bool)}{B:Nat→Bool}{n h:Nat}{st:SortSt}{Q:Option Nat→SortSt→Prop}
noncomputable def Parts (B:Nat→Bool) (n lo hi:Nat):Prop:=(∀i,i<lo→B i=true)∧∀i,hi≤i→i<n→B i=false
theorem Zk7 {lo hi:Nat}(hb:∀i (Q:Option Bool→SortSt→Prop),i<n→Q (some (B i)) st→wpS M A E s (bey i) Q st)(mono:∀i j,i≤j→j<n→B j=true→B i=true)(h1:lo≤hi)(h2:hi≤n)(hp:Parts B n lo hi)
  (q:∀k,k≤n→Parts B n k k→Q (some k) st):wpS M A E s (galT bey n lo hi) Q st:=by
 unfold galT
 refine YAK (YBy (YBO (I:=fun i c st'=>st'=st∧∃lo hi,c=(none,lo,hi)∧lo≤hi∧hi≤n∧hi-lo≤n-i∧Parts B n lo hi) (Q:=fun c st'=>st'=st∧∃k,c=(none,k,k)∧k≤n∧Parts B n k k) ?step ?fin ⟨rfl,lo,hi,rfl,h1,h2,by omega,hp⟩) ?post)
 case step=>
  rintro i c st' _ hi' ⟨rfl,lo,hi,rfl,h1,h2,h3,hp⟩
  dsimp only
  by_cases hl:lo≥hi
  ·have e:lo=hi:=by omega
   subst e
   rw[YAO hl]
   exact YAU ⟨rfl,lo,rfl,h2,hp⟩
  ·rw[YAJ hl]
   have hm1:lo≤lo+(hi-lo)/2:=by omega
   have hm2:lo+(hi-lo)/2<hi:=by omega
   generalize lo+(hi-lo)/2=m at hm1 hm2
   refine YAK (hb m _ (by omega) ?_)
   cases hB:B m with
   | true=>exact YAU ⟨rfl,m+1,hi,rfl,by omega,h2,by omega,fun i hi=>mono i m (by omega) (by omega) hB,hp.2⟩
   | false=>
    refine YAU ⟨rfl,lo,m,rfl,by omega,by omega,by omega,hp.1,fun i hi hn=>?_⟩
    cases hx:B i with
    | false=>rfl
    | true=>rw[mono m i hi hn hx]at hB;cases hB
 case fin=>
  rintro c st' ⟨rfl,lo,hi,rfl,h1,h2,h3,hp⟩
  have e:lo=hi:=by omega
  subst e
  exact⟨rfl,lo,rfl,h2,hp⟩
 case post=>
  rintro c st' ⟨rfl,k,rfl,hk,hp⟩
  exact YAU (q k hk hp)
theorem Zk8 (hh:h<n)
  (hb:∀i (Q:Option Bool→SortSt→Prop),i<n→Q (some (B i)) st→wpS M A E s (bey i) Q st) (mono:∀i j,i≤j→j<n→B j=true→B i=true)
  (q:∀k,k≤n→Parts B n k k→Q (some k) st):wpS M A E s (galB bey n h) Q st:=by
 have anti:∀ {i j},B i=false→i≤j→j<n→B j=false:=fun {i j} h1 h2 h3=>by
  cases hx:B j with
  | false=>rfl
  | true=>rw[mono i j h2 h3 hx]at h1;cases h1
 have jp:∀lo hi,lo≤hi→hi≤n→Parts B n lo hi→wpS M A E s (galT bey n lo hi) Q st:=fun lo hi a b c=>Zk7 hb mono a b c q
 unfold galB
 refine YAK (hb h _ hh ?_)
 cases hB:B h with
 | true=>
  dsimp only
  rw[YAO rfl]
  refine YAK (YBy (YBO (I:=fun i c st'=>st'=st∧∃la o,c=(none,la,o)∧i<o∧la<o∧h+la<n∧B (h+la)=true) (Q:=fun c st'=>st'=st∧∃la o,c=(none,la,o)∧la<o∧h+la<n∧B (h+la)=true∧(n-h≤o∨B (h+o)=false)) ?step ?fin ⟨rfl,0,1,rfl,by omega,by omega,by omega,hB⟩) ?post)
  case step=>
   rintro i c st' _ hi' ⟨rfl,la,o,rfl,h1,h2,h3,h4⟩
   dsimp only
   by_cases hl:o≥n-h
   ·rw[YAO hl]
    exact YAU ⟨rfl,la,o,rfl,h2,h3,h4,.inl hl⟩
   ·rw[YAJ hl]
    refine YAK (hb (h+o) _ (by omega) ?_)
    cases hx:B (h+o) with
    | false=>exact YAU ⟨rfl,la,o,rfl,h2,h3,h4,.inr hx⟩
    | true=>exact YAU ⟨rfl,o,2*o+1,rfl,by omega,by omega,by omega,hx⟩
  case fin=>
   rintro c st' ⟨rfl,la,o,rfl,h1,h2,h3,h4⟩
   exact⟨rfl,la,o,rfl,h2,h3,h4,.inl (by omega)⟩
  case post=>
   rintro c st' ⟨rfl,la,o,rfl,h2,h3,h4,h5⟩
   refine jp (h+la+1) (h+min o (n-h)) (by omega) (by omega) ⟨fun i hi=>mono i (h+la) (by omega) h3 h4,fun i hi hn=>?_⟩
   rcases h5 with h5 | h5
   ·omega
   ·exact anti h5 (by omega) hn
 | false=>
  dsimp only
  rw[YAJ YAE]
  refine YAK (YBy (YBO (I:=fun i c st'=>st'=st∧∃la o,c=(none,la,o)∧i<o∧la<o∧la≤h∧B (h-la)=false) (Q:=fun c st'=>st'=st∧∃la o,c=(none,la,o)∧la<o∧la≤h∧B (h-la)=false∧(h+1≤o∨(o≤h∧B (h-o)=true))) ?step2 ?fin2 ⟨rfl,0,1,rfl,by omega,by omega,by omega,hB⟩) ?post2)
  case step2=>
   rintro i c st' _ hi' ⟨rfl,la,o,rfl,h1,h2,h3,h4⟩
   dsimp only
   by_cases hl:o≥h+1
   ·rw[YAO hl]
    exact YAU ⟨rfl,la,o,rfl,h2,h3,h4,.inl hl⟩
   ·rw[YAJ hl]
    refine YAK (hb (h-o) _ (by omega) ?_)
    cases hx:B (h-o) with
    | true=>exact YAU ⟨rfl,la,o,rfl,h2,h3,h4,.inr ⟨by omega,hx⟩⟩
    | false=>exact YAU ⟨rfl,o,2*o+1,rfl,by omega,by omega,by omega,hx⟩
  case fin2=>
   rintro c st' ⟨rfl,la,o,rfl,h1,h2,h3,h4⟩
   exact⟨rfl,la,o,rfl,h2,h3,h4,.inl (by omega)⟩
  case post2=>
   rintro c st' ⟨rfl,la,o,rfl,h2,h3,h4,h5⟩
   refine jp (h+1-min o (h+1)) (h-la) (by omega) (by omega) ⟨fun i hi=>?_,fun i hi hn=>anti h4 hi hn⟩
   rcases h5 with h5 | ⟨h5,h6⟩
   ·omega
   ·exact mono i (h-o) (by omega) (by omega) h6
end
structure Cmp (D:Keyed→Prop)(L:Keyed→Keyed→Bool):Prop where
 asym:∀x y,D x→D y→L x y=true→L y x=false
 tr:∀x y z,D x→D y→D z→L y x=false→L z y=false→L z x=false
abbrev Le (L:Keyed→Keyed→Bool)(x y:Keyed):Prop:=L y x=false
structure MS (D:Keyed→Prop)(L:Keyed→Keyed→Bool)(T:List Keyed)(o x y:List Keyed):Prop where
 perm:(o++(x++y)).Perm T
 so:o.Pairwise (Le L)
 ox:∀u∈o,∀v∈x,Le L u v
 oy:∀u∈o,∀v∈y,Le L u v
 sx:x.Pairwise (Le L)
 sy:y.Pairwise (Le L)
section
variable {D:Keyed→Prop}{L:Keyed→Keyed→Bool}{T o x y p:List Keyed}
theorem MS.movX (h:MS D L T o (p++x) y)(hp:∀u∈p,∀v∈y,Le L u v):MS D L T (o++p) x y:=by
 obtain⟨h1,h2,h3,h4,h5,h6⟩:=h
 rw[YBK]at h5
 refine⟨by simpa [YAh] using h1,YBK.mpr ⟨h2,h5.1,fun u hu v hv=>h3 u hu v (by simp[hv])⟩,?_,?_,h5.2.1,h6⟩
 ·intro u hu v hv
  rcases YAf.mp hu with hu | hu
  ·exact h3 u hu v (by simp[hv])
  ·exact h5.2.2 u hu v hv
 ·intro u hu v hv
  rcases YAf.mp hu with hu | hu
  ·exact h4 u hu v hv
  ·exact hp u hu v hv
theorem MS.swap (h:MS D L T o x y):MS D L T o y x:=
 ⟨(List.Perm.append_left o List.perm_append_comm).trans h.perm,h.so,h.oy,h.ox,h.sy,h.sx⟩
theorem MS.movY (h:MS D L T o x (p++y))(hp:∀u∈p,∀v∈x,Le L u v):MS D L T (o++p) x y:=(h.swap.movX hp).swap
theorem MS.fin (h:MS D L T o x []):(o++x).Perm T∧(o++x).Pairwise (Le L):=
 ⟨by simpa using h.perm,YBK.mpr ⟨h.so,h.sx,h.ox⟩⟩
theorem MS.all (h:MS D L T o x y)(hxy:∀u∈x,∀v∈y,Le L u v):(o++x++y).Perm T∧(o++x++y).Pairwise (Le L):=by
 have:=(MS.movX (x:=[]) (by simpa using h) hxy).swap.fin
 simpa using this
end
noncomputable def mLo:Array Keyed→Array Keyed→StateT SortSt Sem (Array Keyed):=sortPriv% PySem.Builtin.mergeLo
abbrev ZaA (st:SortSt)(g:Nat):SortSt:=SortSt.mk' (kindOf st) (arrOf st) (pendingOf st) g (failedOf st)
noncomputable def setG (g:Nat):StateT SortSt Sem Unit:=modify fun s=>ZaA s g
noncomputable def mLoB (p q:Array Keyed):StateT SortSt Sem (Array Keyed):=do
 rule "list.sort.merge-lo"
 let tt:=p.size+q.size
 let dn (o:Array Keyed) (i j:Nat):=o++p.extract i p.size++q.extract j q.size
 let lp (o:Array Keyed) (i j:Nat):=o++q.extract j q.size++p.extract i p.size
 let mut o:Array Keyed:=#[←elem' q 0]
 let mut i:=0
 let mut j:=1
 if j == q.size then return dn o i j
 if i+1 == p.size then return lp o i j
 let mut mg:=gallopOf (←get)
 for _ in [0:tt] do
  let mut ca:=0
  let mut cb:=0
  for _ in [0:tt] do
   let some wn ←lt' (←elem' q j) (←elem' p i) | return dn o i j
   if wn then
    o:=o.push (←elem' q j);j:=j+1;cb:=cb+1;ca:=0
    if j == q.size then return dn o i j
    if cb≥mg then break
   else
    o:=o.push (←elem' p i);i:=i+1;ca:=ca+1;cb:=0
    if i+1 == p.size then return lp o i j
    if ca≥mg then break
  rule "list.sort.gallop"
  mg:=mg+1
  for _ in [0:tt] do
   if mg>1 then mg:=mg-1
   setG mg
   let some k ←gal false (←elem' q j) p i (p.size-i) 0 | return dn o i j
   ca:=k
   if k>0 then
    o:=o++p.extract i (i+k);i:=i+k
    if i+1 == p.size then return lp o i j
    if i == p.size then return dn o i j
   o:=o.push (←elem' q j);j:=j+1
   if j == q.size then return dn o i j
   let some k ←gal true (←elem' p i) q j (q.size-j) 0 | return dn o i j
   cb:=k
   if k>0 then
    o:=o++q.extract j (j+k);j:=j+k
    if j == q.size then return dn o i j
   o:=o.push (←elem' p i);i:=i+1
   if i+1 == p.size then return lp o i j
   if ca<7&&cb<7 then break
  mg:=mg+1
  setG mg
 unsupported "internal:list.sort.merge-bound"
theorem ZmD (p q:Array Keyed):mLo p q=mLoB p q:=rfl
section
variable {M:Model}{A:Around}{E:Value→Shared→Prop}{s:Shared}{D:Keyed→Prop}{L:Keyed→Keyed→Bool}{kd:SortKind}
noncomputable def PureC (M:Model) (A:Around) (E:Value→Shared→Prop) (s:Shared) (D:Keyed→Prop) (L:Keyed→Keyed→Bool) (kd:SortKind):Prop:=
 ∀(st:SortSt) (x y:Keyed) (Q:Option Bool→SortSt→Prop),kindOf st=kd→D x→D y→Q (some (L x y)) st→wpS M A E s (lt' x y) Q st
theorem Za1 {ar:Array Keyed}{i:Nat}{x:Keyed}{Q:Keyed→SortSt→Prop}{st:SortSt}(h:ar[i]?=some x)(q:Q x st):wpS M A E s (elem' ar i) Q st:=by
 rw[elem'_eq,h];exact YAU q
theorem ZdW (hC:Cmp D L)(hP:PureC M A E s D L kd){lf:Bool}{ky:Keyed}{ar:Array Keyed}{bs n h:Nat}{st:SortSt}{Q:Option Nat→SortSt→Prop}(hk:kindOf st=kd)
  (hn:bs+n≤ar.size) (hh:h<n) (hy:D ky) (hd:∀u∈ar.toList,D u) (hs:((ar.toList.drop bs).take n).Pairwise (Le L))
  (q:∀k,k≤n→(∀u∈((ar.toList.drop bs).take n).take k,if lf then L u ky=true else Le L u ky)→(∀u∈((ar.toList.drop bs).take n).drop k,if lf then Le L ky u else L ky u=true)→Q (some k) st):
  wpS M A E s (gal lf ky ar bs n h) Q st:=by
 rw[Zna]
 obtain⟨xs,hxs⟩:∃xs,xs=(ar.toList.drop bs).take n:=⟨_,rfl⟩
 rw[←hxs]at hs q
 have hlen:xs.length=n:=by rw[hxs,YAV,YAm,YAN];omega
 have hat:∀i (hi:i<xs.length),ar[bs+i]?=some xs[i]:=by
  intro i hi
  have:xs[i]?=some xs[i]:=YAL hi
  rw[←this,hxs,YCa,YAO (by omega),YCb,YAl]
 have hdx:∀u∈xs,D u:=fun u hu=>hd u (YAc (YAb (hxs▸hu)))
 refine Zk8 (B:=fun i=>if hi:i<xs.length then (if lf then L xs[i] ky else !L ky xs[i]) else false) hh ?_ ?_ ?_
 ·intro i Q hi hq
  have hi':i<xs.length:=by omega
  rw[dif_pos hi']at hq
  refine YAK (Za1 (hat i hi') ?_)
  have hD:=hdx _ (YCB hi')
  cases lf with
  | true=>exact hP st _ _ _ hk hD hy hq
  | false=>exact YAK (hP st _ _ _ hk hy hD (YAU hq))
 ·intro i j hij hj
  have hj':j<xs.length:=by omega
  have hi':i<xs.length:=by omega
  rw[dif_pos hj',dif_pos hi']
  by_cases e:i=j
  ·subst e;exact id
  ·have hle:Le L xs[i] xs[j]:=YCG.mp hs i j hi' hj' (by omega)
   have hDi:=hdx _ (YCB hi')
   have hDj:=hdx _ (YCB hj')
   cases lf with
   | true=>
    rw[YAO rfl,YAO rfl]
    intro h1
    cases h2:L xs[i] ky with
    | true=>rfl
    | false=>rw[hC.tr ky _ _ hy hDi hDj h2 hle]at h1;cases h1
   | false=>
    rw[YAJ YAE,YAJ YAE]
    intro h1
    rw[Bool.not_eq_true']at h1 ⊢
    exact hC.tr _ _ ky hDi hDj hy hle h1
 ·intro k hk' hp
  refine q k hk' (fun u hu=>?_) (fun u hu=>?_)
  ·obtain⟨i,hi,rfl⟩:=YCu hu
   rw[YAV]at hi
   have:=hp.1 i (by omega)
   dsimp only at this
   rw[dif_pos (by omega)]at this
   rw[List.getElem_take]
   cases lf with
   | true=>exact this
   | false=>simpa using this
  ·obtain⟨i,hi,rfl⟩:=YCu hu
   rw[YAm]at hi
   have:=hp.2 (k+i) (by omega) (by omega)
   dsimp only at this
   rw[dif_pos (by omega)]at this
   rw[List.getElem_drop]
   cases lf with
   | true=>exact this
   | false=>simpa using this
end
abbrev LoC:=Option (Array Keyed)×Array Keyed×Nat×Nat×Nat×Nat×Nat
noncomputable def dnf (p q o:Array Keyed) (i j:Nat):Array Keyed:=o++p.extract i p.size++q.extract j q.size
noncomputable def lpf (p q o:Array Keyed) (i j:Nat):Array Keyed:=o++q.extract j q.size++p.extract i p.size
noncomputable def loE (p q o:Array Keyed) (i j mg ca cb:Nat):StateT SortSt Sem (ForInStep LoC):=do
 let e ←elem' p i
 if (i+1+1 == p.size)=true then pure (ForInStep.done (some (lpf p q (o.push e) (i+1) j),o.push e,i+1,j,mg,ca,cb))
 else if (decide (ca<7)&&decide (cb<7))=true then pure (ForInStep.done (none,o.push e,i+1,j,mg,ca,cb))
 else pure (ForInStep.yield (none,o.push e,i+1,j,mg,ca,cb))
noncomputable def loD (p q o:Array Keyed) (i j mg ca cb:Nat):StateT SortSt Sem (ForInStep LoC):=do
 let e ←elem' q j
 if (j+1 == q.size)=true then pure (ForInStep.done (some (dnf p q (o.push e) i (j+1)),o.push e,i,j+1,mg,ca,cb))
 else do
  let some k ←gal true (←elem' p i) q (j+1) (q.size-(j+1)) 0 | pure (ForInStep.done (some (dnf p q (o.push e) i (j+1)),o.push e,i,j+1,mg,ca,cb))
  if k>0 then
   if (j+1+k == q.size)=true then pure (ForInStep.done (some (dnf p q (o.push e++q.extract (j+1) (j+1+k)) i (j+1+k)),o.push e++q.extract (j+1) (j+1+k),i,j+1+k,mg,ca,k))
   else loE p q (o.push e++q.extract (j+1) (j+1+k)) i (j+1+k) mg ca k
  else loE p q (o.push e) i (j+1) mg ca k
noncomputable def loF (p q o:Array Keyed) (i j mg ca cb:Nat):StateT SortSt Sem (ForInStep LoC):=do
 setG mg
 let some k ←gal false (←elem' q j) p i (p.size-i) 0 | pure (ForInStep.done (some (dnf p q o i j),o,i,j,mg,ca,cb))
 if k>0 then
  if (i+k+1 == p.size)=true then pure (ForInStep.done (some (lpf p q (o++p.extract i (i+k)) (i+k) j),o++p.extract i (i+k),i+k,j,mg,k,cb))
  else if (i+k == p.size)=true then pure (ForInStep.done (some (dnf p q (o++p.extract i (i+k)) (i+k) j),o++p.extract i (i+k),i+k,j,mg,k,cb))
  else loD p q (o++p.extract i (i+k)) (i+k) j mg k cb
 else loD p q o i j mg k cb
section
variable {M:Model}{A:Around}{E:Value→Shared→Prop}{s:Shared}{D:Keyed→Prop}{L:Keyed→Keyed→Bool}{kd:SortKind}{p q:Array Keyed}{T:List Keyed}{st:SortSt}
structure LoI (D:Keyed→Prop)(L:Keyed→Keyed→Bool)(p q:Array Keyed)(T:List Keyed)(o:Array Keyed)(i j:Nat):Prop where
 ms:MS D L T o.toList (p.toList.drop i) (q.toList.drop j)
 li:i+1<p.size
 lj:j<q.size
noncomputable def Fin1 (L:Keyed→Keyed→Bool) (T:List Keyed) (z:Array Keyed):Prop:=z.toList.Perm T∧z.toList.Pairwise (Le L)
theorem Zfi {p:Array Keyed}{i:Nat}{e:Keyed}(h:p[i]?=some e):p.toList.drop i=e::p.toList.drop (i+1):=by
 obtain⟨hi,rfl⟩:=YBz.mp h
 rw[←Array.getElem_toList]
 exact YCH (by simpa using hi)
theorem at? {p:Array Keyed}{i:Nat}(h:i<p.size):∃e,p[i]?=some e∧e∈p.toList:=⟨p[i],getElem?_pos p i h,by simp⟩
theorem Zjr (p q o:Array Keyed)(i j:Nat):(dnf p q o i j).toList=o.toList++p.toList.drop i++q.toList.drop j:=by
 unfold dnf;rw[YBA,YBA,YAx,YAx,List.extract,List.extract,YAo (by simp),YAo (by simp)]
theorem Zjd (p q o:Array Keyed)(i j:Nat):(lpf p q o i j).toList=o.toList++q.toList.drop j++p.toList.drop i:=by
 unfold lpf;rw[YBA,YBA,YAx,YAx,List.extract,List.extract,YAo (by simp),YAo (by simp)]
theorem Zfg (p:Array Keyed)(i k:Nat):(p.extract i (i+k)).toList=(p.toList.drop i).take k:=by
 simp[YAx,List.extract]
theorem Zd0 (l:List Keyed)(i k:Nat):l.drop i=(l.drop i).take k++l.drop (i+k):=by
 rw[←YCr,YAj]
structure LoH (D:Keyed→Prop)(L:Keyed→Keyed→Bool)(p q:Array Keyed):Prop where
 dp:∀u∈p.toList,D u
 dq:∀u∈q.toList,D u
 sp:p.toList.Pairwise (Le L)
 sq:q.toList.Pairwise (Le L)
 last:∀u∈q.toList,∀v∈p.toList.drop (p.size-1),L u v=true
theorem LoH.fin_lp {o:Array Keyed}{i j:Nat}(hH:LoH D L p q)(hC:Cmp D L)(h:MS D L T o.toList (p.toList.drop i) (q.toList.drop j))(e:i+1=p.size):Fin1 L T (lpf p q o i j):=by
 unfold Fin1;rw[Zjd]
 refine h.swap.all fun u hu v hv=>?_
 have hu:=YAc hu
 have e':i=p.size-1:=by omega
 subst e'
 exact hC.asym _ _ (hH.dq u hu) (hH.dp v (YAc hv)) (hH.last u hu v hv)
theorem Zgw {o:Array Keyed}{i j:Nat}(h:MS D L T o.toList (p.toList.drop i) (q.toList.drop j))(e:j=q.size):Fin1 L T (dnf p q o i j):=by
 unfold Fin1;rw[Zjr]
 have e2:q.toList.drop j=[]:=YCZ (by simp;omega)
 rw[e2]at h ⊢
 simpa using h.fin
noncomputable def LoQ (D:Keyed→Prop) (L:Keyed→Keyed→Bool) (p q:Array Keyed) (T:List Keyed) (w:Nat) (c:LoC):Prop:=
 ∃r o i j mg ca cb,c=(r,o,i,j,mg,ca,cb)∧((∃z,r=some z∧Fin1 L T z)∨(r=none∧LoI D L p q T o i j∧w≤i+j))
noncomputable def LoY (D:Keyed→Prop) (L:Keyed→Keyed→Bool) (p q:Array Keyed) (T:List Keyed) (w:Nat) (c:LoC):Prop:=
 ∃o i j mg ca cb,c=(none,o,i,j,mg,ca,cb)∧LoI D L p q T o i j∧w≤i+j
noncomputable def LoP (D:Keyed→Prop) (L:Keyed→Keyed→Bool) (p q:Array Keyed) (T:List Keyed) (w:Nat) (st:SortSt) (r:ForInStep LoC) (st':SortSt):Prop:=
 (∃g,st'=ZaA st g)∧match r with | .done c=>LoQ D L p q T w c | .yield c=>LoY D L p q T w c
theorem ZjR {o:Array Keyed}{i j mg ca cb w g:Nat}(hH:LoH D L p q)(hC:Cmp D L)(hi:i+1<p.size)(hj:j<q.size)(hw:w≤i+1+j)(h:MS D L T o.toList (p.toList.drop i) (q.toList.drop j))
  (hle:∀u∈(p.toList.drop i).take 1,∀v∈q.toList.drop j,Le L u v):wpS M A E s (loE p q o i j mg ca cb) (LoP D L p q T w st) (ZaA st g):=by
 obtain⟨e,he,hm⟩:=at? (p:=p) (i:=i) (by omega)
 have hd:=Zfi he
 have h2:MS D L T (o.push e).toList (p.toList.drop (i+1)) (q.toList.drop j):=by
  rw[YBW]
  rw[hd]at h hle
  exact MS.movX (p:=[e]) h (fun u hu v hv=>hle u (by simpa using hu) v hv)
 unfold loE
 refine YAK (Za1 he ?_)
 by_cases c1:i+1+1=p.size
 ·rw[YAO (by simpa using c1)]
  exact YAU ⟨⟨g,rfl⟩,_,_,_,_,_,_,_,rfl,.inl ⟨_,rfl,hH.fin_lp hC h2 c1⟩⟩
 ·rw[YAJ (by simpa using c1)]
  have hI:LoI D L p q T (o.push e) (i+1) j:=⟨h2,by omega,hj⟩
  split
  ·exact YAU ⟨⟨g,rfl⟩,_,_,_,_,_,_,_,rfl,.inr ⟨rfl,hI,hw⟩⟩
  ·exact YAU ⟨⟨g,rfl⟩,_,_,_,_,_,_,rfl,hI,hw⟩
theorem ZjS {o:Array Keyed}{i j mg ca cb w g:Nat}(hH:LoH D L p q)(hC:Cmp D L)(hP:PureC M A E s D L kd)(hk:kindOf st=kd)(hi:i+1<p.size)(hj:j<q.size)(hw:w≤i+1+j)(h:MS D L T o.toList (p.toList.drop i) (q.toList.drop j))
  (hle:∀u∈(q.toList.drop j).take 1,∀v∈p.toList.drop i,Le L u v):wpS M A E s (loD p q o i j mg ca cb) (LoP D L p q T w st) (ZaA st g):=by
 obtain⟨e,he,hm⟩:=at? (p:=q) (i:=j) hj
 obtain⟨x,hx,hxm⟩:=at? (p:=p) (i:=i) (by omega)
 have hd:=Zfi he
 have h2:MS D L T (o.push e).toList (p.toList.drop i) (q.toList.drop (j+1)):=by
  rw[YBW]
  rw[hd]at h hle
  exact MS.movY (p:=[e]) h (fun u hu v hv=>hle u (by simpa using hu) v hv)
 unfold loD
 refine YAK (Za1 he ?_)
 by_cases c1:j+1=q.size
 ·rw[YAO (by simpa using c1)]
  exact YAU ⟨⟨g,rfl⟩,_,_,_,_,_,_,_,rfl,.inl ⟨_,rfl,Zgw h2 c1⟩⟩
 ·rw[YAJ (by simpa using c1)]
  refine YAK (Za1 hx ?_)
  have et:(q.toList.drop (j+1)).take (q.size-(j+1))=q.toList.drop (j+1):=YAo (by simp)
  refine YAK (ZdW hC hP (by exact hk) (by omega) (by omega) (hH.dp x hxm) hH.dq (by rw[et];exact h2.sy) ?_)
  rw[et]
  intro k hkn ha hb
  replace ha:∀u∈(q.toList.drop (j+1)).take k,L u x=true:=ha
  replace hb:∀u∈(q.toList.drop (j+1)).drop k,Le L x u:=hb
  dsimp only
  have hpd:=Zfi hx
  have hsx:=h2.sx
  rw[hpd,YBN]at hsx
  have xle:∀v∈p.toList.drop i,Le L x v:=by
   intro v hv
   rw[hpd]at hv
   rcases YAM.mp hv with rfl | hv
   ·cases hx:L v v with
    | false=>exact hx
    | true=>exact hC.asym v v (hH.dp v hxm) (hH.dp v hxm) hx
   ·exact hsx.1 v hv
  have h3:MS D L T (o.push e++q.extract (j+1) (j+1+k)).toList (p.toList.drop i) (q.toList.drop (j+1+k)):=by
   rw[YBA,Zfg]
   rw[Zd0 q.toList (j+1) k]at h2
   refine h2.movY fun u hu v hv=>?_
   have hDu:=hH.dq u (YAc (YAb hu))
   exact hC.tr u x v hDu (hH.dp x hxm) (hH.dp v (YAc hv)) (hC.asym u x hDu (hH.dp x hxm) (ha u hu)) (xle v hv)
  have hle2:∀u∈(p.toList.drop i).take 1,∀v∈q.toList.drop (j+1+k),Le L u v:=by
   intro u hu v hv
   rw[hpd]at hu
   have:u=x:=by simpa using hu
   subst this
   exact hb v (by rwa [YCr])
  by_cases hk0:k>0
  ·rw[YAO hk0]
   by_cases c2:j+1+k=q.size
   ·rw[YAO (by simpa using c2)]
    exact YAU ⟨⟨g,rfl⟩,_,_,_,_,_,_,_,rfl,.inl ⟨_,rfl,Zgw h3 c2⟩⟩
   ·rw[YAJ (by simpa using c2)]
    exact ZjR hH hC hi (by omega) (by omega) h3 hle2
  ·rw[YAJ hk0]
   have:k=0:=by omega
   subst this
   exact ZjR hH hC hi (by omega) (by omega) h2 hle2
theorem ZmJ {o:Array Keyed}{i j mg ca cb w g:Nat}(hH:LoH D L p q)(hC:Cmp D L)(hP:PureC M A E s D L kd)(hk:kindOf st=kd)(hw:w≤i+1+j)(hI:LoI D L p q T o i j):
  wpS M A E s (loF p q o i j mg ca cb) (LoP D L p q T w st) (ZaA st g):=by
 obtain⟨h,hi,hj⟩:=hI
 obtain⟨x,hx,hxm⟩:=at? (p:=q) (i:=j) hj
 have hqd:=Zfi hx
 have hsy:=h.sy
 rw[hqd,YBN]at hsy
 have xle:∀v∈q.toList.drop j,Le L x v:=by
  intro v hv
  rw[hqd]at hv
  rcases YAM.mp hv with rfl | hv
  ·cases hx:L v v with
   | false=>exact hx
   | true=>exact hC.asym v v (hH.dq v hxm) (hH.dq v hxm) hx
  ·exact hsy.1 v hv
 unfold loF
 refine YAK (YCI ?_)
 refine YAK (Za1 hx ?_)
 have et:(p.toList.drop i).take (p.size-i)=p.toList.drop i:=YAo (by simp)
 refine YAK (ZdW hC hP (by exact hk) (by omega) (by omega) (hH.dq x hxm) hH.dp (by rw[et];exact h.sx) ?_)
 rw[et]
 intro k hkn ha hb
 replace ha:∀u∈(p.toList.drop i).take k,Le L u x:=ha
 replace hb:∀u∈(p.toList.drop i).drop k,L x u=true:=hb
 dsimp only
 have h3:MS D L T (o++p.extract i (i+k)).toList (p.toList.drop (i+k)) (q.toList.drop j):=by
  rw[YBA,Zfg]
  rw[Zd0 p.toList i k]at h
  refine h.movX fun u hu v hv=>?_
  exact hC.tr u x v (hH.dp u (YAc (YAb hu))) (hH.dq x hxm) (hH.dq v (YAc hv)) (ha u hu) (xle v hv)
 have hle2:∀u∈(q.toList.drop j).take 1,∀v∈p.toList.drop (i+k),Le L u v:=by
  intro u hu v hv
  rw[hqd]at hu
  have:u=x:=by simpa using hu
  subst this
  have hv':v∈(p.toList.drop i).drop k:=by rwa [YCr]
  exact hC.asym u v (hH.dq u hxm) (hH.dp v (YAc hv)) (hb v hv')
 have hlast:i+k≠p.size:=by
  intro e
  obtain⟨y,hy,hym⟩:=at? (p:=p) (i:=p.size-1) (by omega)
  have hyd:=Zfi hy
  have h5:=hH.last x hxm y (by rw[hyd];simp)
  have hy2:y∈(p.toList.drop i).take k:=by
   rw[YAo (by simp;omega)]
   have:y∈p.toList.drop (p.size-1):=by rw[hyd];simp
   rw[show p.size-1=i+(p.size-1-i) by omega,←YCr]at this
   exact YAc this
  have h6:=ha y hy2
  rw[show L x y=false from h6]at h5
  cases h5
 by_cases hk0:k>0
 ·rw[YAO hk0]
  by_cases c2:i+k+1=p.size
  ·rw[YAO (by simpa using c2)]
   exact YAU ⟨⟨_,rfl⟩,_,_,_,_,_,_,_,rfl,.inl ⟨_,rfl,hH.fin_lp hC h3 c2⟩⟩
  ·rw[YAJ (by simpa using c2),YAJ (by simpa using hlast)]
   exact ZjS hH hC hP hk (by omega) hj (by omega) h3 hle2
 ·rw[YAJ hk0]
  have:k=0:=by omega
  subst this
  exact ZjS hH hC hP hk hi hj hw h hle2
theorem ZmC {Q:Array Keyed→SortSt→Prop}(hH:LoH D L p q)(hC:Cmp D L)(hP:PureC M A E s D L kd)(hk:kindOf st=kd)(hp:0<p.size)(hq:0<q.size)
  (h0:∀u∈q.toList.take 1,∀v∈p.toList,Le L u v) (hQ:∀z g,Fin1 L (p.toList++q.toList) z→Q z (ZaA st g)):wpS M A E s (mLo p q) Q st:=by
 rw[ZmD];unfold mLoB
 obtain⟨e,he,hm⟩:=at? (p:=q) (i:=0) hq
 have hd:q.toList=e::q.toList.drop 1:=by simpa using Zfi he
 have h1:MS D L (p.toList++q.toList) (#[e]:Array Keyed).toList (p.toList.drop 0) (q.toList.drop 1):=by
  have:MS D L (p.toList++q.toList) [] p.toList ([e]++q.toList.drop 1):=⟨by rw[hd];simp,List.Pairwise.nil,by simp,by simp,hH.sp,by have:=hH.sq;rw[hd]at this;exact this⟩
  refine this.movY fun u hu v hv=>h0 u ?_ v hv
  rw[hd];simpa using hu
 refine YAK (wpS_lift (YBt ⟨rfl,?_⟩))
 refine YAK (Za1 he ?_)
 by_cases c1:1=q.size
 ·rw[YAO (by simpa using c1)]
  exact YAU (hQ _ _ (Zgw h1 c1))
 rw[YAJ (by simpa using c1)]
 by_cases c2:0+1=p.size
 ·rw[YAO (by simpa using c2)]
  exact YAU (hQ _ _ (hH.fin_lp hC h1 c2))
 rw[YAJ (by simpa using c2)]
 refine YAK (YDP ?_)
 have hI:LoI D L p q (p.toList++q.toList) #[e] 0 1:=⟨h1,by omega,by omega⟩
 generalize p.toList++q.toList=T at hI hQ
 refine YAK (YBy (YBO (I:=fun x c st'=>∃g,st'=ZaA st g∧∃o i j mg,c=(none,o,i,j,mg)∧LoI D L p q T o i j∧x≤i+j)
  (Q:=fun c st'=>∃g,st'=ZaA st g∧∃z o i j mg,c=(some z,o,i,j,mg)∧Fin1 L T z) ?step ?fin ⟨gallopOf st,rfl,_,_,_,_,rfl,hI,by omega⟩) ?post)
 case post=>
  rintro c st' ⟨g,rfl,z,o,i,j,mg,rfl,hz⟩
  exact YAU (hQ z g hz)
 case fin=>
  rintro c st' ⟨g,rfl,o,i,j,mg,rfl,hI,hx⟩
  have:=hI.li;have:=hI.lj
  omega
 case step=>
  rintro x c st' _ hx ⟨g,rfl,o,i,j,mg,rfl,hI,hxi⟩
  dsimp only
  refine YAK (YBy (YBO (I:=fun y c st'=>st'=ZaA st g∧∃o i j ca cb,c=(none,o,i,j,ca,cb)∧LoI D L p q T o i j∧y+x≤i+j)
   (Q:=fun c st'=>st'=ZaA st g∧∃r o i j ca cb,c=(r,o,i,j,ca,cb)∧((∃z,r=some z∧Fin1 L T z)∨(r=none∧LoI D L p q T o i j∧x+1≤i+j))) ?s1 ?f1 ⟨rfl,_,_,_,_,_,rfl,hI,by omega⟩) ?p1)
  case f1=>
   rintro c st' ⟨rfl,o,i,j,ca,cb,rfl,hI,hx⟩
   have:=hI.li;have:=hI.lj
   omega
  case s1=>
   rintro y c st' _ hy ⟨rfl,o,i,j,ca,cb,rfl,hI,hxi⟩
   obtain⟨h,hi,hj⟩:=hI
   obtain⟨u,hu,hum⟩:=at? (p:=q) (i:=j) hj
   obtain⟨v,hv,hvm⟩:=at? (p:=p) (i:=i) (by omega)
   have hDu:=hH.dq u hum
   have hDv:=hH.dp v hvm
   have hqd:=Zfi hu
   have hpd:=Zfi hv
   have hsx:=h.sx
   have hsy:=h.sy
   rw[hpd,YBN]at hsx
   rw[hqd,YBN]at hsy
   dsimp only
   refine YAK (Za1 hu (YAK (Za1 hv (YAK (hP _ _ _ _ hk hDu hDv ?_)))))
   dsimp only
   cases hL:L u v with
   | true=>
    rw[YAO rfl]
    refine YAK (Za1 hu ?_)
    have h2:MS D L T (o.push u).toList (p.toList.drop i) (q.toList.drop (j+1)):=by
     rw[YBW]
     rw[hqd]at h
     refine MS.movY (p:=[u]) h fun a ha b hb=>?_
     have ha:a=u:=by simpa using ha
     subst ha
     have hav:Le L a v:=hC.asym _ _ hDu hDv hL
     rw[hpd]at hb
     rcases YAM.mp hb with rfl | hb
     ·exact hav
     ·exact hC.tr a v b hDu hDv (hH.dp b (YAc hb)) hav (hsx.1 b hb)
    by_cases c3:j+1=q.size
    ·rw[YAO (by simpa using c3)]
     exact YAU ⟨rfl,_,_,_,_,_,_,rfl,.inl ⟨_,rfl,Zgw h2 c3⟩⟩
    ·rw[YAJ (by simpa using c3)]
     have hI:LoI D L p q T (o.push u) i (j+1):=⟨h2,hi,by omega⟩
     split
     ·exact YAU ⟨rfl,_,_,_,_,_,_,rfl,.inr ⟨rfl,hI,by omega⟩⟩
     ·exact YAU ⟨rfl,_,_,_,_,_,rfl,hI,by omega⟩
   | false=>
    rw[YAJ YAE]
    refine YAK (Za1 hv ?_)
    have h2:MS D L T (o.push v).toList (p.toList.drop (i+1)) (q.toList.drop j):=by
     rw[YBW]
     rw[hpd]at h
     refine MS.movX (p:=[v]) h fun a ha b hb=>?_
     have ha:a=v:=by simpa using ha
     subst ha
     rw[hqd]at hb
     rcases YAM.mp hb with rfl | hb
     ·exact hL
     ·exact hC.tr a u b hDv hDu (hH.dq b (YAc hb)) hL (hsy.1 b hb)
    by_cases c3:i+1+1=p.size
    ·rw[YAO (by simpa using c3)]
     exact YAU ⟨rfl,_,_,_,_,_,_,rfl,.inl ⟨_,rfl,hH.fin_lp hC h2 c3⟩⟩
    ·rw[YAJ (by simpa using c3)]
     have hI:LoI D L p q T (o.push v) (i+1) j:=⟨h2,by omega,hj⟩
     split
     ·exact YAU ⟨rfl,_,_,_,_,_,_,rfl,.inr ⟨rfl,hI,by omega⟩⟩
     ·exact YAU ⟨rfl,_,_,_,_,_,rfl,hI,by omega⟩
  case p1=>
   rintro c st' ⟨rfl,r,o,i,j,ca,cb,rfl,⟨z,rfl,hz⟩|⟨rfl,hI,hw⟩⟩
   ·exact YAU ⟨g,rfl,z,o,i,j,mg,rfl,hz⟩
   ·dsimp only
    refine YAK (wpS_lift (YBt ⟨rfl,?_⟩))
    refine YAK (YBy (YBO (I:=fun y c st'=>(∃g,st'=ZaA st g)∧LoY D L p q T (y+(x+1)) c)
     (Q:=fun c st'=>(∃g,st'=ZaA st g)∧LoQ D L p q T (x+1) c) ?s2 ?f2 ⟨⟨g,rfl⟩,_,_,_,_,_,_,rfl,hI,by omega⟩) ?p2)
    case f2=>
     rintro c st' ⟨_,o,i,j,mg,ca,cb,rfl,hI,hx⟩
     have:=hI.li;have:=hI.lj
     omega
    case p2=>
     rintro c st' ⟨⟨g,rfl⟩,r,o,i,j,mg,ca,cb,rfl,⟨z,rfl,hz⟩|⟨rfl,hI,hw⟩⟩
     ·exact YAU ⟨g,rfl,z,o,i,j,mg,rfl,hz⟩
     ·exact YAK (YCI (YAU ⟨_,rfl,_,_,_,_,rfl,hI,hw⟩))
    case s2=>
     rintro y c st' _ hy ⟨⟨g,rfl⟩,o,i,j,mg,ca,cb,rfl,hI,hw⟩
     have key:∀mg,wpS M A E s (loF p q o i j mg ca cb) (fun r st'=>match r with | .done c'=>(∃g,st'=ZaA st g)∧LoQ D L p q T (x+1) c' | .yield c'=>(∃g,st'=ZaA st g)∧LoY D L p q T (y+1+(x+1)) c') (ZaA st g):=by
      intro mg
      refine YBy (ZmJ (w:=y+1+(x+1)) hH hC hP hk (by omega) hI) ?_
      rintro r st' ⟨hg,hr⟩
      cases r with
      | done c=>
       obtain⟨r,o,i,j,mg,ca,cb,rfl,h | ⟨rfl,hI,hw⟩⟩:=hr
       ·exact⟨hg,r,o,i,j,mg,ca,cb,rfl,.inl h⟩
       ·exact⟨hg,none,o,i,j,mg,ca,cb,rfl,.inr ⟨rfl,hI,by omega⟩⟩
      | yield c=>exact⟨hg,hr⟩
     have key2:wpS M A E s (if mg>1 then loF p q o i j (mg-1) ca cb else loF p q o i j mg ca cb) (fun r st'=>match r with | .done c'=>(∃g,st'=ZaA st g)∧LoQ D L p q T (x+1) c' | .yield c'=>(∃g,st'=ZaA st g)∧LoY D L p q T (y+1+(x+1)) c') (ZaA st g):=by
      split
      ·exact key _
      ·exact key _
     refine YBy (Q:=fun r st'=>match r with | .done c'=>(∃g,st'=ZaA st g)∧LoQ D L p q T (x+1) c' | .yield c'=>(∃g,st'=ZaA st g)∧LoY D L p q T (y+1+(x+1)) c') ?_ (fun r st' hr=>by cases r<;>exact hr)
     by_cases hmg:mg>1
     ·rw[YAO (show (none,o,i,j,mg,ca,cb).snd.snd.snd.snd.fst>1 from hmg)]
      refine Eq.mp ?_ (key (mg-1))
      refine congrArg (fun m=>wpS M A E s m _ _) ?_
      unfold loF loD loE lpf dnf
      dsimp only
     ·rw[YAJ (show ¬(none,o,i,j,mg,ca,cb).snd.snd.snd.snd.fst>1 from hmg)]
      exact key mg
end
noncomputable def mHi:Array Keyed→Array Keyed→StateT SortSt Sem (Array Keyed):=sortPriv% PySem.Builtin.mergeHi
noncomputable def mHiB (p q:Array Keyed):StateT SortSt Sem (Array Keyed):=do
 rule "list.sort.merge-hi"
 let tt:=p.size+q.size
 let dn (o:Array Keyed) (i j:Nat):=p.extract 0 i++q.extract 0 j++o.reverse
 let fb (o:Array Keyed) (i j:Nat):=q.extract 0 j++p.extract 0 i++o.reverse
 let mut i:=p.size-1
 let mut j:=q.size
 let mut o:Array Keyed:=#[←elem' p i]
 if i == 0 then return dn o i j
 if j == 1 then return fb o i j
 let mut mg:=gallopOf (←get)
 for _ in [0:tt] do
  let mut ca:=0
  let mut cb:=0
  for _ in [0:tt] do
   let some wn ←lt' (←elem' q (j-1)) (←elem' p (i-1)) | return dn o i j
   if wn then
    i:=i-1;o:=o.push (←elem' p i);ca:=ca+1;cb:=0
    if i == 0 then return dn o i j
    if ca≥mg then break
   else
    j:=j-1;o:=o.push (←elem' q j);cb:=cb+1;ca:=0
    if j == 1 then return fb o i j
    if cb≥mg then break
  rule "list.sort.gallop"
  mg:=mg+1
  for _ in [0:tt] do
   if mg>1 then mg:=mg-1
   setG mg
   let some a ←gal false (←elem' q (j-1)) p 0 i (i-1) | return dn o i j
   let k:=i-a
   ca:=k
   if k>0 then
    o:=o++(p.extract a i).reverse;i:=a
    if i == 0 then return dn o i j
   j:=j-1;o:=o.push (←elem' q j)
   if j == 1 then return fb o i j
   let some a ←gal true (←elem' p (i-1)) q 0 j (j-1) | return dn o i j
   let k:=j-a
   cb:=k
   if k>0 then
    o:=o++(q.extract a j).reverse;j:=a
    if j == 1 then return fb o i j
    if j == 0 then return dn o i j
   i:=i-1;o:=o.push (←elem' p i)
   if i == 0 then return dn o i j
   if ca<7&&cb<7 then break
  mg:=mg+1
  setG mg
 unsupported "internal:list.sort.merge-bound"
theorem ZmF (p q:Array Keyed):mHi p q=mHiB p q:=rfl
abbrev HiC:=Option (Array Keyed)×Nat×Nat×Array Keyed×Nat×Nat×Nat
noncomputable def dnh (p q o:Array Keyed) (i j:Nat):Array Keyed:=p.extract 0 i++q.extract 0 j++o.reverse
noncomputable def fbh (p q o:Array Keyed) (i j:Nat):Array Keyed:=q.extract 0 j++p.extract 0 i++o.reverse
noncomputable def hiE (p q o:Array Keyed) (i j mg ca cb:Nat):StateT SortSt Sem (ForInStep HiC):=do
 let e ←elem' p (i-1)
 if (i-1 == 0)=true then pure (ForInStep.done (some (dnh p q (o.push e) (i-1) j),i-1,j,o.push e,mg,ca,cb))
 else if (decide (ca<7)&&decide (cb<7))=true then pure (ForInStep.done (none,i-1,j,o.push e,mg,ca,cb))
 else pure (ForInStep.yield (none,i-1,j,o.push e,mg,ca,cb))
noncomputable def hiD (p q o:Array Keyed) (i j mg ca cb:Nat):StateT SortSt Sem (ForInStep HiC):=do
 let e ←elem' q (j-1)
 if (j-1 == 1)=true then pure (ForInStep.done (some (fbh p q (o.push e) i (j-1)),i,j-1,o.push e,mg,ca,cb))
 else do
  let some a ←gal true (←elem' p (i-1)) q 0 (j-1) (j-1-1) | pure (ForInStep.done (some (dnh p q (o.push e) i (j-1)),i,j-1,o.push e,mg,ca,cb))
  if j-1-a>0 then
   if (a == 1)=true then pure (ForInStep.done (some (fbh p q (o.push e++(q.extract a (j-1)).reverse) i a),i,a,o.push e++(q.extract a (j-1)).reverse,mg,ca,j-1-a))
   else if (a == 0)=true then pure (ForInStep.done (some (dnh p q (o.push e++(q.extract a (j-1)).reverse) i a),i,a,o.push e++(q.extract a (j-1)).reverse,mg,ca,j-1-a))
   else hiE p q (o.push e++(q.extract a (j-1)).reverse) i a mg ca (j-1-a)
  else hiE p q (o.push e) i (j-1) mg ca (j-1-a)
noncomputable def hiF (p q o:Array Keyed) (i j mg ca cb:Nat):StateT SortSt Sem (ForInStep HiC):=do
 setG mg
 let some a ←gal false (←elem' q (j-1)) p 0 i (i-1) | pure (ForInStep.done (some (dnh p q o i j),i,j,o,mg,ca,cb))
 if i-a>0 then
  if (a == 0)=true then pure (ForInStep.done (some (dnh p q (o++(p.extract a i).reverse) a j),a,j,o++(p.extract a i).reverse,mg,i-a,cb))
  else hiD p q (o++(p.extract a i).reverse) a j mg (i-a) cb
 else hiD p q o i j mg (i-a) cb
section
variable {M:Model}{A:Around}{E:Value→Shared→Prop}{s:Shared}{D:Keyed→Prop}{L:Keyed→Keyed→Bool}{kd:SortKind}{p q:Array Keyed}{T:List Keyed}{st:SortSt}
abbrev Fl (L:Keyed→Keyed→Bool):Keyed→Keyed→Bool:=fun x y=>L y x
theorem ZjM {l:List Keyed}:l.reverse.Pairwise (Le (Fl L))↔l.Pairwise (Le L):=by rw[List.pairwise_reverse]
abbrev MR (D:Keyed→Prop)(L:Keyed→Keyed→Bool)(T:List Keyed)(p q o:Array Keyed)(i j:Nat):Prop:=MS D (Fl L) T o.toList (p.toList.take i).reverse (q.toList.take j).reverse
structure HiI (D:Keyed→Prop)(L:Keyed→Keyed→Bool)(p q:Array Keyed)(T:List Keyed)(o:Array Keyed)(i j:Nat):Prop where
 ms:MR D L T p q o i j
 li:0<i
 lj:1<j
 hi:i≤p.size
 hj:j≤q.size
structure HiH (D:Keyed→Prop)(L:Keyed→Keyed→Bool)(p q:Array Keyed):Prop where
 dp:∀u∈p.toList,D u
 dq:∀u∈q.toList,D u
 sp:p.toList.Pairwise (Le L)
 sq:q.toList.Pairwise (Le L)
 first:∀u∈q.toList.take 1,∀v∈p.toList,L u v=true
theorem ZgF {p:Array Keyed}{i:Nat}{e:Keyed}(hi:0<i)(h:p[i-1]?=some e):p.toList.take i=p.toList.take (i-1)++[e]:=by
 obtain⟨i,rfl⟩:∃k,i=k+1:=⟨i-1,by omega⟩
 rw[Nat.add_sub_cancel]at h ⊢
 rw[List.take_succ,YAl,h];rfl
theorem ZiH {p:Array Keyed}{i:Nat}{e:Keyed}(hi:0<i)(h:p[i-1]?=some e):(p.toList.take i).reverse=[e]++(p.toList.take (i-1)).reverse:=by
 rw[ZgF hi h,List.reverse_append];rfl
theorem ZdK (l:List Keyed){a i:Nat}(h:a≤i):(l.take i).reverse=((l.take i).drop a).reverse++(l.take a).reverse:=by
 rw[←List.reverse_append]
 congr 1
 have:l.take a=(l.take i).take a:=by rw[YCX,YBg h]
 rw[this,YAj]
theorem Znc (p:Array Keyed)(a i:Nat):(p.extract a i).reverse.toList=((p.toList.take i).drop a).reverse:=by
 rw[Array.toList_reverse,YAx,List.extract,List.drop_take]
theorem Zjq (p q o:Array Keyed)(i j:Nat):(dnh p q o i j).toList=p.toList.take i++q.toList.take j++o.toList.reverse:=by
 unfold dnh;rw[YBA,YBA,YAx,YAx,Array.toList_reverse,List.extract,List.extract];simp
theorem Zjp (p q o:Array Keyed)(i j:Nat):(fbh p q o i j).toList=q.toList.take j++p.toList.take i++o.toList.reverse:=by
 unfold fbh;rw[YBA,YBA,YAx,YAx,Array.toList_reverse,List.extract,List.extract];simp
theorem Zig {l m:List Keyed}(h:l.Perm T∧l.Pairwise (Le (Fl L)))(e:m=l.reverse):m.Perm T∧m.Pairwise (Le L):=by
 subst e
 refine⟨(List.reverse_perm l).trans h.1,?_⟩
 rw[List.pairwise_reverse];exact h.2
theorem Zgx {o:Array Keyed}{i j:Nat}(h:MR D L T p q o i j)(e:i=0):Fin1 L T (dnh p q o i j):=by
 unfold Fin1;rw[Zjq]
 subst e
 have h':=h.swap
 exact Zig (l:=o.toList++(q.toList.take j).reverse) (MS.fin (D:=D) (by simpa using h')) (by simp)
theorem HiH.fin_fb {o:Array Keyed}{i j:Nat}(hH:HiH D L p q)(hC:Cmp D L)(h:MR D L T p q o i j)(e:j=1):Fin1 L T (fbh p q o i j):=by
 unfold Fin1;rw[Zjp]
 subst e
 refine Zig (h.all fun u hu v hv=>?_) (by simp)
 have hu:u∈p.toList:=YAb (YBT.mp hu)
 have hv:=YBT.mp hv
 exact hC.asym v u (hH.dq v (YAb hv)) (hH.dp u hu) (hH.first v hv u hu)
noncomputable def HiQ (D:Keyed→Prop) (L:Keyed→Keyed→Bool) (p q:Array Keyed) (T:List Keyed) (w:Nat) (c:HiC):Prop:=
 ∃r o i j mg ca cb,c=(r,i,j,o,mg,ca,cb)∧((∃z,r=some z∧Fin1 L T z)∨(r=none∧HiI D L p q T o i j∧i+j≤w))
noncomputable def HiY (D:Keyed→Prop) (L:Keyed→Keyed→Bool) (p q:Array Keyed) (T:List Keyed) (w:Nat) (c:HiC):Prop:=
 ∃o i j mg ca cb,c=(none,i,j,o,mg,ca,cb)∧HiI D L p q T o i j∧i+j≤w
noncomputable def HiP (D:Keyed→Prop) (L:Keyed→Keyed→Bool) (p q:Array Keyed) (T:List Keyed) (w:Nat) (st:SortSt) (r:ForInStep HiC) (st':SortSt):Prop:=
 (∃g,st'=ZaA st g)∧match r with | .done c=>HiQ D L p q T w c | .yield c=>HiY D L p q T w c
theorem ZjW {o:Array Keyed}{i j mg ca cb w g:Nat}(hH:HiH D L p q)(hi:0<i)(hip:i≤p.size)(hj:1<j)(hjq:j≤q.size)(hw:i-1+j≤w)(h:MR D L T p q o i j)
  (hle:∀u∈(p.toList.take i).drop (i-1),∀v∈q.toList.take j,Le L v u):wpS M A E s (hiE p q o i j mg ca cb) (HiP D L p q T w st) (ZaA st g):=by
 obtain⟨e,he,hm⟩:=at? (p:=p) (i:=i-1) (by omega)
 have hd:=ZiH hi he
 have h2:MR D L T p q (o.push e) (i-1) j:=by
  unfold MR at h ⊢
  rw[YBW]
  rw[hd]at h
  refine MS.movX h fun u hu v hv=>?_
  have hu:u=e:=by simpa using hu
  subst hu
  refine hle u ?_ v (YBT.mp hv)
  rw[ZgF hi he,YCW (by simp;omega)]
  simp
 unfold hiE
 refine YAK (Za1 he ?_)
 by_cases c1:i-1=0
 ·rw[YAO (by simpa using c1)]
  exact YAU ⟨⟨g,rfl⟩,_,_,_,_,_,_,_,rfl,.inl ⟨_,rfl,Zgx h2 c1⟩⟩
 ·rw[YAJ (by simpa using c1)]
  have hI:HiI D L p q T (o.push e) (i-1) j:=⟨h2,by omega,hj,by omega,hjq⟩
  split
  ·exact YAU ⟨⟨g,rfl⟩,_,_,_,_,_,_,_,rfl,.inr ⟨rfl,hI,hw⟩⟩
  ·exact YAU ⟨⟨g,rfl⟩,_,_,_,_,_,_,rfl,hI,hw⟩
theorem le_refl' (hC:Cmp D L){v:Keyed}(h:D v):Le L v v:=by
 cases hx:L v v with
 | false=>exact hx
 | true=>exact hC.asym v v h h hx
theorem Zeh (hC:Cmp D L)(hd:∀u∈p.toList,D u)(hs:p.toList.Pairwise (Le L)){i:Nat}{x:Keyed}(hi:0<i)(hx:p[i-1]?=some x)(hm:x∈p.toList):∀v∈p.toList.take i,Le L v x:=by
 intro v hv
 have h2:=hs.sublist (YCl i p.toList)
 rw[ZgF hi hx]at h2 hv
 rcases YAf.mp hv with hv | hv
 ·exact(YBK.mp h2).2.2 v hv x (by simp)
 ·have:v=x:=by simpa using hv
  subst this;exact le_refl' hC (hd v hm)
theorem Zdw {i:Nat}{x u:Keyed}(hi:0<i)(hip:i≤p.size)(hx:p[i-1]?=some x):u∈(p.toList.take i).drop (i-1)↔u=x:=by
 rw[ZgF hi hx,YCW (by simp;omega),YCZ (by simp;omega)]
 simp
theorem ZjX {o:Array Keyed}{i j mg ca cb w g:Nat}(hH:HiH D L p q)(hC:Cmp D L)(hP:PureC M A E s D L kd)(hk:kindOf st=kd)(hi:0<i)(hip:i≤p.size)(hj:1<j)(hjq:j≤q.size)(hw:i-1+j≤w)
  (h:MR D L T p q o i j) (hle:∀v∈(q.toList.take j).drop (j-1),∀u∈p.toList.take i,Le L u v):wpS M A E s (hiD p q o i j mg ca cb) (HiP D L p q T w st) (ZaA st g):=by
 obtain⟨e,he,hm⟩:=at? (p:=q) (i:=j-1) (by omega)
 obtain⟨x,hx,hxm⟩:=at? (p:=p) (i:=i-1) (by omega)
 have h2:MR D L T p q (o.push e) i (j-1):=by
  unfold MR at h ⊢
  rw[YBW]
  rw[ZiH (by omega) he]at h
  refine MS.movY h fun u hu v hv=>?_
  have hu:u=e:=by simpa using hu
  exact hle u ((Zdw (by omega) hjq he).mpr hu) v (YBT.mp hv)
 unfold hiD
 refine YAK (Za1 he ?_)
 by_cases c1:j-1=1
 ·rw[YAO (by simpa using c1)]
  exact YAU ⟨⟨g,rfl⟩,_,_,_,_,_,_,_,rfl,.inl ⟨_,rfl,hH.fin_fb hC h2 c1⟩⟩
 ·rw[YAJ (by simpa using c1)]
  refine YAK (Za1 hx ?_)
  refine YAK (ZdW hC hP (by exact hk) (by omega) (by omega) (hH.dp x hxm) hH.dq (by rw[YBU];exact hH.sq.sublist (YCl _ _)) ?_)
  rw[YBU]
  intro a hkn ha hb
  replace ha:∀u∈(q.toList.take (j-1)).take a,L u x=true:=ha
  replace hb:∀u∈(q.toList.take (j-1)).drop a,Le L x u:=hb
  rw[YCX,YBg hkn]at ha
  dsimp only
  have xge:=Zeh hC hH.dp hH.sp hi hx hxm
  have h3:MR D L T p q (o.push e++(q.extract a (j-1)).reverse) i a:=by
   unfold MR at h2 ⊢
   rw[YBA,Znc]
   rw[ZdK q.toList hkn]at h2
   refine h2.movY fun u hu v hv=>?_
   have hu:=YBT.mp hu
   have hv:=YBT.mp hv
   exact hC.tr v x u (hH.dp v (YAb hv)) (hH.dp x hxm) (hH.dq u (YAb (YAc hu))) (xge v hv) (hb u hu)
  have hle2:∀u∈(p.toList.take i).drop (i-1),∀v∈q.toList.take a,Le L v u:=by
   intro u hu v hv
   have:=(Zdw hi hip hx).mp hu
   subst this
   exact hC.asym v u (hH.dq v (YAb hv)) (hH.dp u hxm) (ha v hv)
  have ha0:a≠0:=by
   rintro rfl
   obtain⟨y,hy,hym⟩:=at? (p:=q) (i:=0) (by omega)
   have hyq:q.toList.take 1=[y]:=by have:=ZgF (p:=q) (i:=1) (by omega) hy;simpa using this
   have h5:=hH.first y (by rw[hyq];simp) x hxm
   have h6:y∈q.toList.take (j-1):=by
    have:q.toList.take 1=(q.toList.take (j-1)).take 1:=by rw[YCX,YBg (by omega)]
    rw[this]at hyq
    exact YAb (i:=1) (by rw[hyq];simp)
   rw[show L y x=false from hb y h6]at h5
   cases h5
  by_cases hk0:j-1-a>0
  ·rw[YAO hk0]
   by_cases c2:a=1
   ·rw[YAO (by simpa using c2)]
    exact YAU ⟨⟨g,rfl⟩,_,_,_,_,_,_,_,rfl,.inl ⟨_,rfl,hH.fin_fb hC h3 c2⟩⟩
   ·rw[YAJ (by simpa using c2),YAJ (by simpa using ha0)]
    exact ZjW hH hi hip (by omega) (by omega) (by omega) h3 hle2
  ·rw[YAJ hk0]
   have:a=j-1:=by omega
   subst this
   exact ZjW hH hi hip (by omega) (by omega) (by omega) h2 hle2
theorem Zm8 {o:Array Keyed}{i j mg ca cb w g:Nat}(hH:HiH D L p q)(hC:Cmp D L)(hP:PureC M A E s D L kd)(hk:kindOf st=kd)(hw:i-1+j≤w)(hI:HiI D L p q T o i j):
  wpS M A E s (hiF p q o i j mg ca cb) (HiP D L p q T w st) (ZaA st g):=by
 obtain⟨h,hi,hj,hip,hjq⟩:=hI
 obtain⟨x,hx,hxm⟩:=at? (p:=q) (i:=j-1) (by omega)
 unfold hiF
 refine YAK (YCI ?_)
 refine YAK (Za1 hx ?_)
 refine YAK (ZdW hC hP (by exact hk) (by omega) (by omega) (hH.dq x hxm) hH.dp (by rw[YBU];exact hH.sp.sublist (YCl _ _)) ?_)
 rw[YBU]
 intro a hkn ha hb
 replace ha:∀u∈(p.toList.take i).take a,Le L u x:=ha
 replace hb:∀u∈(p.toList.take i).drop a,L x u=true:=hb
 rw[YCX,YBg hkn]at ha
 dsimp only
 have xge:=Zeh hC hH.dq hH.sq (by omega) hx hxm
 have h3:MR D L T p q (o++(p.extract a i).reverse) a j:=by
  unfold MR at h ⊢
  rw[YBA,Znc]
  rw[ZdK p.toList hkn]at h
  refine h.movX fun u hu v hv=>?_
  have hu:=YBT.mp hu
  have hv:=YBT.mp hv
  have hDu:=hH.dp u (YAb (YAc hu))
  exact hC.tr v x u (hH.dq v (YAb hv)) (hH.dq x hxm) hDu (xge v hv) (hC.asym x u (hH.dq x hxm) hDu (hb u hu))
 have hle2:∀v∈(q.toList.take j).drop (j-1),∀u∈p.toList.take a,Le L u v:=by
  intro v hv u hu
  have:=(Zdw (by omega) hjq hx).mp hv
  subst this
  exact ha u hu
 by_cases hk0:i-a>0
 ·rw[YAO hk0]
  by_cases c2:a=0
  ·rw[YAO (by simpa using c2)]
   exact YAU ⟨⟨_,rfl⟩,_,_,_,_,_,_,_,rfl,.inl ⟨_,rfl,Zgx h3 c2⟩⟩
  ·rw[YAJ (by simpa using c2)]
   exact ZjX hH hC hP hk (by omega) (by omega) hj hjq (by omega) h3 hle2
 ·rw[YAJ hk0]
  have:a=i:=by omega
  subst this
  exact ZjX hH hC hP hk hi hip hj hjq hw h hle2
theorem ZmE {Q:Array Keyed→SortSt→Prop}(hH:HiH D L p q)(hC:Cmp D L)(hP:PureC M A E s D L kd)(hk:kindOf st=kd)(hp:0<p.size)(hq:0<q.size)
  (h0:∀u∈p.toList.drop (p.size-1),∀v∈q.toList,Le L v u) (hQ:∀z g,Fin1 L (p.toList++q.toList) z→Q z (ZaA st g)):wpS M A E s (mHi p q) Q st:=by
 rw[ZmF];unfold mHiB
 obtain⟨e,he,hm⟩:=at? (p:=p) (i:=p.size-1) (by omega)
 have hd:p.toList=p.toList.take (p.size-1)++[e]:=by
  have:=ZgF hp he
  rwa [YAo (by simp)]at this
 have h1:MR D L (p.toList++q.toList) p q #[e] (p.size-1) q.size:=by
  unfold MR
  have e2:(q.toList.take q.size)=q.toList:=YAo (by simp)
  rw[e2]
  have:MS D (Fl L) (p.toList++q.toList) [] ([e]++(p.toList.take (p.size-1)).reverse) q.toList.reverse:=by
   have e3:[e]++(p.toList.take (p.size-1)).reverse=p.toList.reverse:=by
    conv=>rhs;rw[hd]
    simp
   rw[e3]
   exact⟨by simpa using (List.reverse_perm _).append (List.reverse_perm _),List.Pairwise.nil,by simp,by simp,ZjM.mpr hH.sp,ZjM.mpr hH.sq⟩
  refine this.movX fun u hu v hv=>h0 u ?_ v (YBT.mp hv)
  have hu:u=e:=by simpa using hu
  subst hu
  rw[hd,YCW (by simp)]
  simp
 refine YAK (wpS_lift (YBt ⟨rfl,?_⟩))
 refine YAK (Za1 he ?_)
 by_cases c1:p.size-1=0
 ·rw[YAO (by simpa using c1)]
  exact YAU (hQ _ _ (Zgx h1 c1))
 rw[YAJ (by simpa using c1)]
 by_cases c2:q.size=1
 ·rw[YAO (by simpa using c2)]
  exact YAU (hQ _ _ (hH.fin_fb hC h1 c2))
 rw[YAJ (by simpa using c2)]
 refine YAK (YDP ?_)
 have hI:HiI D L p q (p.toList++q.toList) #[e] (p.size-1) q.size:=⟨h1,by omega,by omega,by omega,by omega⟩
 generalize p.toList++q.toList=T at hI hQ
 refine YAK (YBy (YBO (a:=0) (b:=p.size+q.size) (I:=fun x c st'=>∃g,st'=ZaA st g∧∃o i j mg,c=(none,i,j,o,mg)∧HiI D L p q T o i j∧x+(i+j)≤p.size+q.size)
  (Q:=fun c st'=>∃g,st'=ZaA st g∧∃z o i j mg,c=(some z,i,j,o,mg)∧Fin1 L T z) ?step ?fin ⟨gallopOf st,rfl,#[e],p.size-1,q.size,gallopOf st,rfl,hI,by omega⟩) ?post)
 case post=>
  rintro c st' ⟨g,rfl,z,o,i,j,mg,rfl,hz⟩
  exact YAU (hQ z g hz)
 case fin=>
  rintro c st' ⟨g,rfl,o,i,j,mg,rfl,hI,hx⟩
  have:=hI.li;have:=hI.lj
  omega
 case step=>
  rintro x c st' _ hx ⟨g,rfl,o,i,j,mg,rfl,hI,hxi⟩
  dsimp only
  refine YAK (YBy (YBO (I:=fun y c st'=>st'=ZaA st g∧∃o i j ca cb,c=(none,i,j,o,ca,cb)∧HiI D L p q T o i j∧y+x+(i+j)≤p.size+q.size)
   (Q:=fun c st'=>st'=ZaA st g∧∃r o i j ca cb,c=(r,i,j,o,ca,cb)∧((∃z,r=some z∧Fin1 L T z)∨(r=none∧HiI D L p q T o i j∧x+1+(i+j)≤p.size+q.size))) ?s1 ?f1 ⟨rfl,_,_,_,_,_,rfl,hI,by omega⟩) ?p1)
  case f1=>
   rintro c st' ⟨rfl,o,i,j,ca,cb,rfl,hI,hx⟩
   have:=hI.li;have:=hI.lj
   omega
  case s1=>
   rintro y c st' _ hy ⟨rfl,o,i,j,ca,cb,rfl,hI,hxi⟩
   obtain⟨h,hi,hj,hip,hjq⟩:=hI
   obtain⟨u,hu,hum⟩:=at? (p:=q) (i:=j-1) (by omega)
   obtain⟨v,hv,hvm⟩:=at? (p:=p) (i:=i-1) (by omega)
   have hDu:=hH.dq u hum
   have hDv:=hH.dp v hvm
   have uge:=Zeh hC hH.dq hH.sq (by omega) hu hum
   have vge:=Zeh hC hH.dp hH.sp hi hv hvm
   dsimp only
   refine YAK (Za1 hu (YAK (Za1 hv (YAK (hP _ _ _ _ hk hDu hDv ?_)))))
   dsimp only
   cases hL:L u v with
   | true=>
    rw[YAO rfl]
    refine YAK (Za1 hv ?_)
    have h2:MR D L T p q (o.push v) (i-1) j:=by
     unfold MR at h ⊢
     rw[YBW]
     rw[ZiH hi hv]at h
     refine MS.movX h fun a ha b hb=>?_
     have ha:a=v:=by simpa using ha
     subst ha
     have hb:=YBT.mp hb
     exact hC.tr b u a (hH.dq b (YAb hb)) hDu hDv (uge b hb) (hC.asym _ _ hDu hDv hL)
    by_cases c3:i-1=0
    ·rw[YAO (by simpa using c3)]
     exact YAU ⟨rfl,_,_,_,_,_,_,rfl,.inl ⟨_,rfl,Zgx h2 c3⟩⟩
    ·rw[YAJ (by simpa using c3)]
     have hI:HiI D L p q T (o.push v) (i-1) j:=⟨h2,by omega,by omega,by omega,by omega⟩
     split
     ·exact YAU ⟨rfl,_,_,_,_,_,_,rfl,.inr ⟨rfl,hI,by omega⟩⟩
     ·exact YAU ⟨rfl,_,_,_,_,_,rfl,hI,by omega⟩
   | false=>
    rw[YAJ YAE]
    refine YAK (Za1 hu ?_)
    have h2:MR D L T p q (o.push u) i (j-1):=by
     unfold MR at h ⊢
     rw[YBW]
     rw[ZiH (by omega) hu]at h
     refine MS.movY h fun a ha b hb=>?_
     have ha:a=u:=by simpa using ha
     subst ha
     have hb:=YBT.mp hb
     exact hC.tr b v a (hH.dp b (YAb hb)) hDv hDu (vge b hb) hL
    by_cases c3:j-1=1
    ·rw[YAO (by simpa using c3)]
     exact YAU ⟨rfl,_,_,_,_,_,_,rfl,.inl ⟨_,rfl,hH.fin_fb hC h2 c3⟩⟩
    ·rw[YAJ (by simpa using c3)]
     have hI:HiI D L p q T (o.push u) i (j-1):=⟨h2,by omega,by omega,by omega,by omega⟩
     split
     ·exact YAU ⟨rfl,_,_,_,_,_,_,rfl,.inr ⟨rfl,hI,by omega⟩⟩
     ·exact YAU ⟨rfl,_,_,_,_,_,rfl,hI,by omega⟩
  case p1=>
   rintro c st' ⟨rfl,r,o,i,j,ca,cb,rfl,⟨z,rfl,hz⟩|⟨rfl,hI,hw⟩⟩
   ·exact YAU ⟨g,rfl,z,o,i,j,mg,rfl,hz⟩
   ·dsimp only
    refine YAK (wpS_lift (YBt ⟨rfl,?_⟩))
    refine YAK (YBy (YBO (I:=fun y c st'=>(∃g,st'=ZaA st g)∧HiY D L p q T (p.size+q.size-y-(x+1)) c)
     (Q:=fun c st'=>(∃g,st'=ZaA st g)∧HiQ D L p q T (p.size+q.size-(x+1)) c) ?s2 ?f2 ⟨⟨g,rfl⟩,_,_,_,_,_,_,rfl,hI,by omega⟩) ?p2)
    case f2=>
     rintro c st' ⟨_,o,i,j,mg,ca,cb,rfl,hI,hx⟩
     have:=hI.li;have:=hI.lj
     omega
    case p2=>
     rintro c st' ⟨⟨g,rfl⟩,r,o,i,j,mg,ca,cb,rfl,⟨z,rfl,hz⟩|⟨rfl,hI,hw⟩⟩
     ·exact YAU ⟨g,rfl,z,o,i,j,mg,rfl,hz⟩
     ·exact YAK (YCI (YAU ⟨_,rfl,o,i,j,mg+1,rfl,hI,by have:=hI.li;omega⟩))
    case s2=>
     rintro y c st' _ hy ⟨⟨g,rfl⟩,o,i,j,mg,ca,cb,rfl,hI,hw⟩
     have key:∀mg,wpS M A E s (hiF p q o i j mg ca cb) (fun r st'=>match r with | .done c'=>(∃g,st'=ZaA st g)∧HiQ D L p q T (p.size+q.size-(x+1)) c' | .yield c'=>(∃g,st'=ZaA st g)∧HiY D L p q T (p.size+q.size-(y+1)-(x+1)) c') (ZaA st g):=by
      intro mg
      have:=hI.li
      refine YBy (Zm8 (w:=p.size+q.size-(y+1)-(x+1)) hH hC hP hk (by omega) hI) ?_
      rintro r st' ⟨hg,hr⟩
      cases r with
      | done c=>
       obtain⟨r,o,i,j,mg,ca,cb,rfl,h | ⟨rfl,hI,hw⟩⟩:=hr
       ·exact⟨hg,r,o,i,j,mg,ca,cb,rfl,.inl h⟩
       ·exact⟨hg,none,o,i,j,mg,ca,cb,rfl,.inr ⟨rfl,hI,by omega⟩⟩
      | yield c=>exact⟨hg,hr⟩
     refine YBy (Q:=fun r st'=>match r with | .done c'=>(∃g,st'=ZaA st g)∧HiQ D L p q T (p.size+q.size-(x+1)) c' | .yield c'=>(∃g,st'=ZaA st g)∧HiY D L p q T (p.size+q.size-(y+1)-(x+1)) c') ?_ (fun r st' hr=>by cases r<;>exact hr)
     by_cases hmg:mg>1
     ·rw[YAO (show (none,i,j,o,mg,ca,cb).snd.snd.snd.snd.fst>1 from hmg)]
      refine Eq.mp ?_ (key (mg-1))
      refine congrArg (fun m=>wpS M A E s m _ _) ?_
      unfold hiF hiD hiE fbh dnh
      dsimp only
     ·rw[YAJ (show ¬(none,i,j,o,mg,ca,cb).snd.snd.snd.snd.fst>1 from hmg)]
      exact key mg
end
noncomputable def mAtB (i:Nat):StateT SortSt Sem Bool:=do
 let v ←get
 let (some (sa,na,pw),some (sb,nb,_)):=((pendingOf v)[i]?,(pendingOf v)[i+1]?) | unsupported "internal:list.sort.pending"
 set (setPending v (((pendingOf v).setIfInBounds i (sa,na+nb,pw)).eraseIdxIfInBounds (i+1)))
 let some k ←gal false (←elem' (arrOf v) sb) (arrOf v) sa na 0 | return false
 let (sa,na):=(sa+k,na-k)
 if na == 0 then return true
 let some nb ←gal true (←elem' (arrOf v) (sa+na-1)) (arrOf v) sb nb (nb-1) | return false
 if nb == 0 then return true
 let x:=(arrOf v).extract sa sb
 let y:=(arrOf v).extract sb (sb+nb)
 let mm ←if na≤nb then mLo x y else mHi x y
 modify fun u=>setArr u (mm.toList.zipIdx.foldl (fun a (p,j)=>a.setIfInBounds (sa+j) p) (arrOf u))
 return (failedOf (←get)).isNone
theorem ZmH (i:Nat):mergeAt' i=mAtB i:=rfl
theorem Zj8 {M:Model}{A:Around}{E:Value→Shared→Prop}{s:Shared}{σ:Type}{v:σ}{Q:PUnit→σ→Prop}{st:σ}(h:Q ⟨⟩ v):wpS M A E s (set v:StateT σ Sem PUnit) Q st:=by
 unfold wpS;rw[StateT.run_set];exact YAC ⟨rfl,h⟩
noncomputable def putL (a:Array Keyed) (b:Nat) (l:List Keyed):Array Keyed:=l.zipIdx.foldl (fun a (p,j)=>a.setIfInBounds (b+j) p) a
theorem ZhE:∀(l:List Keyed) (n b:Nat) (a:Array Keyed) (x y z:List Keyed),a.toList=x++y++z→x.length=b+n→y.length=l.length →
  ((l.zipIdx n).foldl (fun a (p,j)=>a.setIfInBounds (b+j) p) a).toList=x++l++z
 | [],n,b,a,x,y,z,h,hx,hy=>by
  have:y=[]:=YCy.mp hy
  subst this;simpa using h
 | e::l,n,b,a,x,y,z,h,hx,hy=>by
  cases y with
  | nil=>simp at hy
  | cons f y=>
   rw[List.zipIdx_cons,YCg]
   have:=ZhE l (n+1) b (a.setIfInBounds (b+n) e) (x++[e]) y z (by
    rw[YDZ,h,←hx,YAh,YDJ,List.set_append_right _ _ (YAP _),Nat.sub_self]
    simp) (by simp;omega) (by simpa using hy)
   rw[this];simp
theorem ZhD {l:List Keyed}{b:Nat}{a:Array Keyed}{x y z:List Keyed}(h:a.toList=x++y++z)(hx:x.length=b)(hy:y.length=l.length):(putL a b l).toList=x++l++z:=
 ZhE l 0 b a x y z h (by omega) hy
section
variable {M:Model}{A:Around}{E:Value→Shared→Prop}{s:Shared}{D:Keyed→Prop}{L:Keyed→Keyed→Bool}{kd:SortKind}{st:SortSt}
theorem slice {a:Array Keyed}{x y z:List Keyed}{b n:Nat}(h:a.toList=x++y++z)(hb:b=x.length)(hn:n=y.length):(a.toList.drop b).take n=y:=by
 rw[h,hb,hn,YAh,List.drop_left,List.take_left]
theorem ZmG {i pw pw2:Nat}{W X Y Z:List Keyed}{Q:Bool→SortSt→Prop}(hC:Cmp D L)(hP:PureC M A E s D L kd)(hk:kindOf st=kd)(hf:failedOf st=none)
  (ha:(arrOf st).toList=W++X++Y++Z) (hd:∀u∈(arrOf st).toList,D u) (hX:X≠[]) (hY:Y≠[]) (sX:X.Pairwise (Le L)) (sY:Y.Pairwise (Le L))
  (h1:(pendingOf st)[i]?=some (W.length,X.length,pw)) (h2:(pendingOf st)[i+1]?=some (W.length+X.length,Y.length,pw2))
  (hQ:∀(V:List Keyed) (a:Array Keyed) g,a.toList=W++V++Z→V.Perm (X++Y)→V.Pairwise (Le L)→Q true (SortSt.mk' kd a (((pendingOf st).setIfInBounds i (W.length,X.length+Y.length,pw)).eraseIdxIfInBounds (i+1)) g none)):
  wpS M A E s (mergeAt' i) Q st:=by
 rw[ZmH];unfold mAtB
 refine YAK (YDP ?_)
 rw[h1,h2]
 dsimp only
 refine YAK (Zj8 ?_)
 have hsz:(arrOf st).size=W.length+X.length+Y.length+Z.length:=by rw[←YAN,ha];simp;omega
 have hXp:0<X.length:=YBn.mpr hX
 have hYp:0<Y.length:=YBn.mpr hY
 have dX:∀u∈X,D u:=fun u hu=>hd u (by rw[ha];simp[hu])
 have dY:∀u∈Y,D u:=fun u hu=>hd u (by rw[ha];simp[hu])
 obtain⟨y0,Y',rfl⟩:∃y l,Y=y::l:=by cases Y with | nil=>exact absurd rfl hY | cons y l=>exact⟨y,l,rfl⟩
 have hy0:(arrOf st)[W.length+X.length]?=some y0:=by
  rw[←YAl,ha,YAh,YAn (by simp)]
  simp
 have dy0:=dY y0 (by simp)
 refine YAK (Za1 hy0 ?_)
 have sl1:=slice (a:=arrOf st) (x:=W) (y:=X) (z:=y0::Y'++Z) (b:=W.length) (n:=X.length) (by rw[ha];simp) rfl rfl
 have sl2:=slice (a:=arrOf st) (x:=W++X) (y:=y0::Y') (z:=Z) (b:=W.length+X.length) (n:=(y0::Y').length) (by rw[ha]) (by simp) rfl
 refine YAK (ZdW hC hP (by exact hk) (by omega) hXp dy0 hd (by rw[sl1];exact sX) ?_)
 rw[sl1]
 intro k hkn ha1 hb1
 replace ha1:∀u∈X.take k,Le L u y0:=ha1
 replace hb1:∀u∈X.drop k,L y0 u=true:=hb1
 dsimp only
 have y0le:∀v∈y0::Y',Le L y0 v:=by
  intro v hv
  rcases YAM.mp hv with rfl | hv
  ·exact le_refl' hC dy0
  ·exact(YBN.mp sY).1 v hv
 have X1Y:∀u∈X.take k,∀v∈y0::Y',Le L u v:=fun u hu v hv=>hC.tr u y0 v (dX u (YAb hu)) dy0 (dY v hv) (ha1 u hu) (y0le v hv)
 by_cases c1:X.length-k=0
 ·rw[YAO (by simpa using c1)]
  refine YAU ?_
  have e:X.take k=X:=YAo (by omega)
  rw[e]at X1Y
  have:=hQ (X++(y0::Y')) (arrOf st) (gallopOf st) (by rw[ha];simp) (List.Perm.refl _) (YBK.mpr ⟨sX,sY,X1Y⟩)
  rw[←hk,←hf]at this
  exact this
 rw[YAJ (by simpa using c1)]
 obtain⟨xl,hxl⟩:∃xl,X[X.length-1]?=some xl:=⟨X[X.length-1],YAL (by omega)⟩
 have hxm:xl∈X:=YAe hxl
 have hxl2:xl∈X.drop k:=by
  refine YAe (i:=X.length-1-k) ?_
  rw[YCb,←hxl];congr 1;omega
 have hxa:(arrOf st)[W.length+k+(X.length-k)-1]?=some xl:=by
  rw[←YAl,ha,YAh,YAh,YAn (by omega),YAr (by omega),←hxl]
  congr 1;omega
 refine YAK (Za1 hxa ?_)
 refine YAK (ZdW hC hP (by exact hk) (by simp at hsz ⊢;omega) (by simp) (dX xl hxm) hd (by rw[sl2];exact sY) ?_)
 rw[sl2]
 intro n hnn ha2 hb2
 replace ha2:∀u∈(y0::Y').take n,L u xl=true:=ha2
 replace hb2:∀u∈(y0::Y').drop n,Le L xl u:=hb2
 dsimp only
 have hn0:n≠0:=by
  rintro rfl
  have h5:=hb1 xl hxl2
  rw[show L y0 xl=false from hb2 y0 (by simp)]at h5
  cases h5
 rw[YAJ (by simpa using hn0)]
 obtain⟨x,hx⟩:∃x,x=(arrOf st).extract (W.length+k) (W.length+X.length):=⟨_,rfl⟩
 obtain⟨y,hy⟩:∃y,y=(arrOf st).extract (W.length+X.length) (W.length+X.length+n):=⟨_,rfl⟩
 have xL:x.toList=X.drop k:=by
  rw[hx,YAx,List.extract]
  exact slice (x:=W++X.take k) (z:=y0::Y'++Z) (by rw[ha];simp only[YAh];rw[←YAh (X.take k),YAj]) (by rw[YAI,YAV,YBg hkn]) (by rw[YAm];omega)
 have yL:y.toList=(y0::Y').take n:=by
  rw[hy,YAx,List.extract]
  exact slice (x:=W++X) (z:=(y0::Y').drop n++Z) (by rw[ha];simp only[YAh];rw[←YAh (List.take n _),YAj]) (by rw[YAI]) (by rw[YAV,YBg hnn];omega)
 have xS:x.size=X.length-k:=by rw[←YAN,xL,YAm]
 have yS:y.size=n:=by rw[←YAN,yL,YAV,YBg hnn]
 have y1:y.toList.take 1=[y0]:=by
  rw[yL,YCX,YBg (by omega)];simp
 have xd:∀v∈x.toList.drop (x.size-1),v=xl:=by
  intro v hv
  rw[xL,xS,YCr]at hv
  have:X.drop (k+(X.length-k-1))=[xl]:=by
   obtain⟨h5,h6⟩:=YAW.mp hxl
   rw[show k+(X.length-k-1)=X.length-1 by omega,YCH h5,h6,YCZ (by omega)]
  rw[this]at hv
  simpa using hv
 have dx:∀u∈x.toList,D u:=fun u hu=>dX u (YAc (xL▸hu))
 have dy:∀u∈y.toList,D u:=fun u hu=>dY u (YAb (yL▸hu))
 have sx:x.toList.Pairwise (Le L):=by rw[xL];exact sX.sublist (List.drop_sublist _ _)
 have sy:y.toList.Pairwise (Le L):=by rw[yL];exact sY.sublist (YCl _ _)
 have y0x:∀v∈x.toList,L y0 v=true:=fun v hv=>hb1 v (xL▸hv)
 have yxl:∀u∈y.toList,L u xl=true:=fun u hu=>ha2 u (yL▸hu)
 have main:∀(z:Array Keyed) g,Fin1 L (x.toList++y.toList) z→wpS M A E s (do
   modify fun u=>setArr u (putL (arrOf u) (W.length+k) z.toList)
   return (failedOf (←get)).isNone) Q (ZaA (setPending st (((pendingOf st).setIfInBounds i (W.length,X.length+(y0::Y').length,pw)).eraseIdxIfInBounds (i+1))) g):=by
  rintro z g ⟨hz1,hz2⟩
  refine YAK (YCI (YAK (YDP (YAU ?_))))
  show Q (failedOf st).isNone _
  rw[hf]
  have hzl:(X.drop k++(y0::Y').take n).length=z.toList.length:=by rw[hz1.length_eq,xL,yL]
  have hp:(putL (arrOf st) (W.length+k) z.toList).toList=W++(X.take k++z.toList++(y0::Y').drop n)++Z:=by
   rw[ZhD (x:=W++X.take k) (y:=X.drop k++(y0::Y').take n) (z:=(y0::Y').drop n++Z) (by
    rw[ha];simp only[YAh]
    rw[←YAh (List.take n _),YAj,←YAh (X.take k),YAj]) (by rw[YAI,YAV,YBg hkn]) hzl]
   simp only[YAh]
  have zm:∀v∈z.toList,v∈X.drop k∨v∈(y0::Y').take n:=fun v hv=>by
   have:=hz1.mem_iff.mp hv
   rw[xL,yL]at this
   exact YAf.mp this
  have dxl:=dX xl hxm
  have:=hQ (X.take k++z.toList++(y0::Y').drop n) _ g hp ?_ ?_
  ·rw[←hk,←hf]at this
   exact this
  ·have e1:(X.take k++z.toList++(y0::Y').drop n).Perm (X.take k++(X.drop k++(y0::Y').take n)++(y0::Y').drop n):=by
    refine List.Perm.append_right _ (List.Perm.append_left _ ?_)
    rw[xL,yL]at hz1;exact hz1
   refine e1.trans (List.Perm.of_eq ?_)
   rw[←YAh,YAj,YAh,YAj]
  ·have zY2:∀u∈z.toList,∀v∈(y0::Y').drop n,Le L u v:=by
    intro u hu v hv
    rcases zm u hu with h | h
    ·have hux:Le L u xl:=by
      have e5:X=X.take (X.length-1)++[xl]:=by
       obtain⟨h5,h6⟩:=YAW.mp hxl
       conv=>lhs;rw[←YAj (X.length-1) X,YCH h5,h6,YCZ (by omega)]
      have hu':u∈X:=YAc h
      rw[e5]at sX hu'
      rcases YAf.mp hu' with hu' | hu'
      ·exact(YBK.mp sX).2.2 u hu' xl (by simp)
      ·have:u=xl:=by simpa using hu'
       subst this;exact le_refl' hC dxl
     exact hC.tr u xl v (dX u (YAc h)) dxl (dY v (YAc hv)) hux (hb2 v hv)
    ·have e5:=sY
     rw[←YAj n (y0::Y')]at e5
     exact(YBK.mp e5).2.2 u h v hv
   rw[YBK,YBK]
   refine⟨⟨sX.sublist (YCl _ _),hz2,fun u hu v hv=>?_⟩,sY.sublist (List.drop_sublist _ _),fun u hu v hv=>?_⟩
   ·rcases zm v hv with h | h
    ·have e5:=sX
     rw[←YAj k X]at e5
     exact(YBK.mp e5).2.2 u hu v h
    ·exact X1Y u hu v (YAb h)
   ·rcases YAf.mp hu with hu | hu
    ·exact X1Y u hu v (YAc hv)
    ·exact zY2 u hu v hv
 have xp:0<x.size:=by omega
 have yp:0<y.size:=by omega
 rw[←hx,←hy]
 by_cases c3:X.length-k≤n
 ·rw[YAO c3]
  refine YAK (ZmC (st:=setPending st _) ⟨dx,dy,sx,sy,fun u hu v hv=>by rw[xd v hv];exact yxl u hu⟩ hC hP (by exact hk) xp yp (fun u hu v hv=>?_) fun z g hz=>main z g hz)
  have hu:u=y0:=by rw[y1]at hu;simpa using hu
  subst hu
  exact hC.asym u v dy0 (dx v hv) (y0x v hv)
 ·rw[YAJ c3]
  refine YAK (ZmE (st:=setPending st _) ⟨dx,dy,sx,sy,fun u hu v hv=>by rw[y1]at hu;rw[show u=y0 by simpa using hu];exact y0x v hv⟩ hC hP (by exact hk) xp yp (fun u hu v hv=>?_) fun z g hz=>main z g hz)
  rw[xd u hu]
  exact hC.asym v xl (dy v hv) (dX xl hxm) (yxl v hv)
end
abbrev CmpT (L:Keyed→Keyed→Bool):Prop:=Cmp (fun _=>True) L
theorem CmpT.to {L:Keyed→Keyed→Bool}{D:Keyed→Prop}(h:CmpT L):Cmp D L:=⟨fun x y _ _=>h.asym x y trivial trivial,fun x y z _ _ _=>h.tr x y z trivial trivial trivial⟩
theorem CmpT.rf {L:Keyed→Keyed→Bool}(h:CmpT L)(x:Keyed):Le L x x:=le_refl' h trivial
theorem CmpT.le {L:Keyed→Keyed→Bool}(h:CmpT L){x y:Keyed}(e:L x y=true):Le L x y:=h.asym x y trivial trivial e
theorem CmpT.t {L:Keyed→Keyed→Bool}(h:CmpT L){x y z:Keyed}(e:Le L x y)(f:Le L y z):Le L x z:=h.tr x y z trivial trivial trivial e f
theorem CmpT.lt_le {L:Keyed→Keyed→Bool}(h:CmpT L){x y z:Keyed}(e:L x y=true)(f:Le L y z):L x z=true:=by
 cases hx:L x z with
 | true=>rfl
 | false=>rw[h.tr y z x trivial trivial trivial f hx]at e;cases e
noncomputable def at0 (a:Array Keyed) (i:Nat):Keyed:=(a[i]?).getD (.none,.none)
theorem ZdB {a b:Array Keyed}{i j:Nat}(h:a[i]?=b[j]?):at0 a i=at0 b j:=by unfold at0;rw[h]
noncomputable def SegU (L:Keyed→Keyed→Bool) (a:Array Keyed) (l h:Nat):Prop:=∀i j,l≤i→i≤j→j<h→Le L (at0 a i) (at0 a j)
noncomputable def SegD (L:Keyed→Keyed→Bool) (a:Array Keyed) (l h:Nat):Prop:=∀i j,l≤i→i≤j→j<h→Le L (at0 a j) (at0 a i)
structure Kept (lo:Nat)(a b:Array Keyed):Prop where
 perm:b.Perm a
 pre:∀k,k<lo→b[k]?=a[k]?
theorem Kept.rf (lo:Nat)(a:Array Keyed):Kept lo a a:=⟨Array.Perm.refl _,fun _ _=>rfl⟩
theorem Kept.tr {lo:Nat}{a b c:Array Keyed}(h:Kept lo a b)(k:Kept lo b c):Kept lo a c:=⟨k.perm.trans h.perm,fun i hi=>(k.pre i hi).trans (h.pre i hi)⟩
theorem Kept.sz {lo:Nat}{a b:Array Keyed}(h:Kept lo a b):b.size=a.size:=h.perm.size_eq
theorem Kept.d {lo:Nat}{a b:Array Keyed}{D:Keyed→Prop}(h:Kept lo a b)(hd:∀u∈a.toList,D u):∀u∈b.toList,D u:=fun u hu=>hd u ((YCo.mp h.perm).mem_iff.mp hu)
theorem ZiA {xs:Array Keyed}{src d:Nat}(hs:src<xs.size)(hd:d≤src)(k:Nat):
  at0 (bubble xs src d) k=if k=src-d then at0 xs src else if src-d<k∧k≤src then at0 xs (k-1) else at0 xs k:=by
 have e:=getElem?_bubble hs d hd k
 repeat' split
 all_goals (refine ZdB (e.trans ?_);first | rw[YAO (by assumption)] | (rw[YAJ (by assumption)];first | rw[YAO (by assumption)] | rw[YAJ (by assumption)]))
theorem ZfZ {xs:Array Keyed}{i j:Nat}(hj:j≤xs.size)(k:Nat):
  at0 (mirror xs i j ((j-i)/2)) k=if i≤k∧k<j then at0 xs (i+j-1-k) else at0 xs k:=by
 have e:=getElem?_mirror_all (i:=i) hj k
 split
 ·exact ZdB (e.trans (YAO (by assumption)))
 ·exact ZdB (e.trans (YAJ (by assumption)))
theorem Kept.bub {lo src d:Nat}{a:Array Keyed}(hs:src<a.size)(hd:lo+d≤src):Kept lo a (bubble a src d):=
 ⟨bubble_perm _ _ _,fun k hk=>by rw[getElem?_bubble hs d (by omega),YAJ (by omega),YAJ (by omega)]⟩
theorem Kept.mir {lo i j:Nat}{a:Array Keyed}(hj:j≤a.size)(hl:lo≤i):Kept lo a (mirror a i j ((j-i)/2)):=
 ⟨mirror_perm _ _ _ _,fun k hk=>by rw[getElem?_mirror_all hj,YAJ (by omega)]⟩
section
variable {M:Model}{A:Around}{E:Value→Shared→Prop}{s:Shared}{D:Keyed→Prop}{L:Keyed→Keyed→Bool}{kd:SortKind}{st:SortSt}
theorem ZeZ {a:Array Keyed}{i j:Nat}{Q:Option Bool→SortSt→Prop}(hP:PureC M A E s D L kd)(hk:kindOf st=kd)(hd:∀u∈a.toList,D u)(hi:i<a.size)(hj:j<a.size)
  (q:Q (some (L (at0 a i) (at0 a j))) (setArr st a)):wpS M A E s (ltAt' i j) Q (setArr st a):=by
 obtain⟨x,hx,hxm⟩:=at? hi
 obtain⟨y,hy,hym⟩:=at? hj
 have ex:at0 a i=x:=by unfold at0;rw[hx];rfl
 have ey:at0 a j=y:=by unfold at0;rw[hy];rfl
 rw[ex,ey]at q
 rw[ltAt'_eq]
 refine YAK (YDP ?_)
 exact YAK (Za1 hx (YAK (Za1 hy (hP _ _ _ _ hk (hd x hxm) (hd y hym) q))))
theorem Zlm {a:Array Keyed}{lo n ok:Nat}{Q:Bool→SortSt→Prop}(hC:CmpT L)(hP:PureC M A E s D L kd)(hk:kindOf st=kd)(hd:∀u∈a.toList,D u)(hn:lo+n≤a.size)(hok:ok≤n)
  (hs:SegU L a lo (lo+ok)) (h:∀b,Kept lo a b→SegU L b lo (lo+n)→Q true (setArr st b)):wpS M A E s (binarySort' lo n ok) Q (setArr st a):=by
 rw[binarySort'_eq]
 refine YAK (YBy (YBO (I:=fun k c st'=>c=(none,())∧∃b,st'=setArr st b∧Kept lo a b∧SegU L b lo (lo+min k n))
  (Q:=fun c st'=>c=(none,())∧∃b,st'=setArr st b∧Kept lo a b∧SegU L b lo (lo+n)) ?step ?fin ?init) ?post)
 case post=>
  rintro c st' ⟨rfl,b,rfl,hb,hs'⟩
  exact YAU (h b hb hs')
 case init=>
  refine⟨rfl,a,rfl,Kept.rf _ _,fun i j hl hij hj=>?_⟩
  by_cases h1:ok=0
  ·have:i=j:=by omega
   subst this;exact hC.rf _
  ·exact hs i j hl hij (by omega)
 case fin=>
  rintro c st' ⟨hc,b,hst,hb,hs'⟩
  refine⟨hc,b,hst,hb,?_⟩
  rwa [show min (max (max ok 1) n) n=n by omega]at hs'
 case step=>
  rintro k c st' hak hkn ⟨rfl,b,rfl,hb,hs'⟩
  rw[show min k n=k by omega]at hs'
  have hsz:=hb.sz
  have hdb:=hb.d hd
  refine YAK (YBy (YBO (I:=fun x c st''=>st''=setArr st b∧∃l r,c=(none,l,r)∧l≤r∧r≤k∧r-l≤k-x ∧
    (∀i,lo≤i→i<lo+l→Le L (at0 b i) (at0 b (lo+k)))∧(∀i,lo+r≤i→i<lo+k→L (at0 b (lo+k)) (at0 b i)=true))
   (Q:=fun c st''=>st''=setArr st b∧∃l r,c=(none,l,r)∧l≤k ∧
    (∀i,lo≤i→i<lo+l→Le L (at0 b i) (at0 b (lo+k)))∧(∀i,lo+l≤i→i<lo+k→L (at0 b (lo+k)) (at0 b i)=true)) ?istep ?ifin ?iinit) ?ipost)
  case iinit=>exact⟨rfl,0,k,rfl,by omega,by omega,by omega,fun i h1 hi=>by omega,fun i h1 h2=>by omega⟩
  case ifin=>
   rintro c st'' ⟨rfl,l,r,rfl,hlr,hrk,hm,hlo,hhi⟩
   have:l=r:=by omega
   subst this
   exact⟨rfl,l,l,rfl,hrk,hlo,hhi⟩
  case istep=>
   rintro x c st'' _ hxk ⟨rfl,l,r,rfl,hlr,hrk,hm,hlo,hhi⟩
   dsimp only
   by_cases hge:l≥r
   ·rw[YAO hge]
    have:l=r:=by omega
    subst this
    exact YAU ⟨rfl,l,l,rfl,hrk,hlo,hhi⟩
   ·rw[YAJ hge]
    refine YAK (ZeZ hP hk hdb (by omega) (by omega) ?_)
    cases hless:L (at0 b (lo+k)) (at0 b (lo+(l+r)/2)) with
    | true=>exact YAU ⟨rfl,l,(l+r)/2,rfl,by omega,by omega,by omega,hlo,fun i h1 h2=>hC.lt_le hless (hs' _ _ (by omega) h1 h2)⟩
    | false=>exact YAU ⟨rfl,(l+r)/2+1,r,rfl,by omega,by omega,by omega,fun i h0 h1=>hC.t (hs' i (lo+(l+r)/2) h0 (by omega) (by omega)) hless,hhi⟩
  case ipost=>
   rintro c st'' ⟨rfl,l,r,rfl,hlk,hlo,hhi⟩
   show wpS _ _ _ _ (do moveDown' (lo+k) (lo+l);pure (ForInStep.yield (none,()))) _ _
   rw[moveDown'_eq]
   have hks:lo+k<b.size:=by omega
   refine YAK (YCI (YAU ⟨rfl,bubble b (lo+k) (lo+k-(lo+l)),rfl,hb.tr (Kept.bub hks (by omega)),?_⟩))
   rw[show min (k+1) n=k+1 by omega]
   intro i j hl hij hj
   rw[ZiA hks (by omega),ZiA hks (by omega),show lo+k-(lo+k-(lo+l))=lo+l by omega]
   repeat' split
   all_goals first
    | (exfalso;omega)
    | exact hC.rf _
    | exact hlo _ (by omega) (by omega)
    | exact hC.le (hhi _ (by omega) (by omega))
    | exact hs' _ _ (by omega) (by omega) (by omega)
end
noncomputable def ascO (lo a nr:Nat):StateT SortSt Sem AscSt:=
 forIn [a:nr] ((none,a):AscSt) fun _ c=>do
  let x ←ltAt' (lo+c.snd) (lo+c.snd-1)
  match x with
  | some sm=>if sm=true then pure (ForInStep.done (none,c.snd)) else pure (ForInStep.yield (none,c.snd+1))
  | _=>pure (ForInStep.done (some none,c.snd))
noncomputable def tailO (lo n nr:Nat):StateT SortSt Sem (Option Nat):=do
 reverseSlice' lo (lo+n)
 let c ←ascO lo n nr
 match c.fst with
 | some r=>pure r
 | none=>pure (some c.snd)
noncomputable def descO (lo n nr:Nat):StateT SortSt Sem DescSt:=
 forIn [n:nr] ((none,n,0):DescSt) fun _ c=>do
  let x ←ltAt' (lo+c.snd.fst) (lo+c.snd.fst-1)
  match x with
  | some sm=>
   if sm=true then
    if c.snd.snd>0 then do
     reverseSlice' (lo+c.snd.fst-(c.snd.snd+1)) (lo+c.snd.fst)
     pure (ForInStep.yield (none,c.snd.fst+1,0))
    else pure (ForInStep.yield (none,c.snd.fst+1,0))
   else do
    let y ←ltAt' (lo+c.snd.fst-1) (lo+c.snd.fst)
    match y with
    | some lg=>
     if lg=true then pure (ForInStep.done (none,c.snd.fst,c.snd.snd))
     else pure (ForInStep.yield (none,c.snd.fst+1,c.snd.snd+1))
    | _=>pure (ForInStep.done (some none,c.snd.fst,c.snd.snd))
  | _=>pure (ForInStep.done (some none,c.snd.fst,c.snd.snd))
section
variable {M:Model}{A:Around}{E:Value→Shared→Prop}{s:Shared}{D:Keyed→Prop}{L:Keyed→Keyed→Bool}{kd:SortKind}{st:SortSt}
noncomputable def Eqv (L:Keyed→Keyed→Bool) (x y:Keyed):Prop:=Le L x y∧Le L y x
theorem Zdd {a:Array Keyed}{i j:Nat}{Q:Unit→SortSt→Prop}(q:Q () (setArr st (mirror a i j ((j-i)/2)))):wpS M A E s (reverseSlice' i j) Q (setArr st a):=by
 rw[reverseSlice'_eq];exact YCI q
theorem ZiB {a:Array Keyed}{lo n0 nr:Nat}{Q:AscSt→SortSt→Prop}(hC:CmpT L)(hP:PureC M A E s D L kd)(hk:kindOf st=kd)(hd:∀u∈a.toList,D u)(hn:lo+nr≤a.size)(h1:1≤n0)(hnn:n0≤nr)
  (hs:SegU L a lo (lo+n0)) (h:∀n,n0≤n→n≤nr→SegU L a lo (lo+n)→(n=nr∨L (at0 a (lo+n)) (at0 a (lo+n-1))=true)→Q (none,n) (setArr st a)):wpS M A E s (ascO lo n0 nr) Q (setArr st a):=by
 unfold ascO
 refine YBO (I:=fun x c st'=>st'=setArr st a∧c=(none,x)∧SegU L a lo (lo+x)) ?step ?fin ⟨rfl,rfl,hs⟩
 case fin=>
  rintro c st' ⟨rfl,rfl,hs'⟩
  rw[show max n0 nr=nr by omega]at hs' ⊢
  exact h nr hnn (YAP _) hs' (.inl rfl)
 case step=>
  rintro x c st' hax hxn ⟨rfl,rfl,hs'⟩
  dsimp only
  refine YAK (ZeZ hP hk hd (by omega) (by omega) ?_)
  cases hl:L (at0 a (lo+x)) (at0 a (lo+x-1)) with
  | true=>exact YAU (h x hax (by omega) hs' (.inr hl))
  | false=>
   refine YAU ⟨rfl,rfl,fun i j hli hij hj=>?_⟩
   by_cases hjx:j<lo+x
   ·exact hs' i j hli hij hjx
   ·have hj':j=lo+x:=by omega
    subst hj'
    by_cases hi':i=lo+x
    ·subst hi';exact hC.rf _
    ·exact hC.t (hs' i (lo+x-1) hli (by omega) (by omega)) hl
theorem ZcT {a:Array Keyed}{lo n nr:Nat}{Q:Option Nat→SortSt→Prop}(hC:CmpT L)(hP:PureC M A E s D L kd)(hk:kindOf st=kd)(hd:∀u∈a.toList,D u)(hn:lo+nr≤a.size)(h1:1≤n)(hnn:n≤nr)
  (hs:SegD L a lo (lo+n)) (h:∀b m,Kept lo a b→1≤m→m≤nr→SegU L b lo (lo+m)→Q (some m) (setArr st b)):wpS M A E s (tailO lo n nr) Q (setArr st a):=by
 unfold tailO
 refine YAK (Zdd ?_)
 have hK:Kept lo a (mirror a lo (lo+n) ((lo+n-lo)/2)):=Kept.mir (by omega) (YAP _)
 refine YAK (ZiB hC hP hk (hK.d hd) (by rw[hK.sz];exact hn) h1 hnn ?_ fun m hm1 hm2 hsm _=>YAU (h _ m hK (by omega) hm2 hsm))
 intro i j hli hij hj
 rw[ZfZ (by omega),ZfZ (by omega),YAO (by omega),YAO (by omega)]
 exact hs _ _ (by omega) (by omega) (by omega)
theorem Zed {a:Array Keyed}{i j:Nat}(hC:CmpT L)(hj:j≤a.size)(he:∀k,i≤k→k<j→Eqv L (at0 a k) (at0 a (j-1)))(k:Nat):Eqv L (at0 (mirror a i j ((j-i)/2)) k) (at0 a k):=by
 rw[ZfZ hj]
 split
 ·have e1:=he (i+j-1-k) (by omega) (by omega)
  have e2:=he k (by omega) (by omega)
  exact⟨hC.t e1.1 e2.2,hC.t e2.1 e1.2⟩
 ·exact⟨hC.rf _,hC.rf _⟩
theorem SegD.eqv {a b:Array Keyed}{l h:Nat}(hC:CmpT L)(hs:SegD L a l h)(he:∀k,Eqv L (at0 b k) (at0 a k)):SegD L b l h:=
 fun i j h1 h2 h3=>hC.t (he j).1 (hC.t (hs i j h1 h2 h3) (he i).2)
theorem SegD.more {a:Array Keyed}{l x:Nat}(hC:CmpT L)(hs:SegD L a l x)(hle:l<x→Le L (at0 a x) (at0 a (x-1))):SegD L a l (x+1):=by
 intro i j hli hij hj
 by_cases hjx:j<x
 ·exact hs i j hli hij hjx
 ·have hj':j=x:=by omega
  subst hj'
  by_cases hi':i=j
  ·subst hi';exact hC.rf _
  ·exact hC.t (hle (by omega)) (hs i (j-1) hli (by omega) (by omega))
theorem Zgy {a:Array Keyed}{lo n nr:Nat}{Q:DescSt→SortSt→Prop}(hC:CmpT L)(hP:PureC M A E s D L kd)(hk:kindOf st=kd)(hd:∀u∈a.toList,D u)(hn:lo+nr≤a.size)(h1:1≤n)(hnn:n≤nr)
  (hs:SegD L a lo (lo+n))
  (h:∀b m nq,Kept lo a b→n≤m→m≤nr→SegD L b lo (lo+m)→nq+1≤m→(∀i,lo+m-(nq+1)≤i→i<lo+m→Eqv L (at0 b i) (at0 b (lo+m-1)))→Q (none,m,nq) (setArr st b)):
  wpS M A E s (descO lo n nr) Q (setArr st a):=by
 unfold descO
 refine YBO (I:=fun x c st'=>∃b nq,st'=setArr st b∧c=(none,x,nq)∧Kept lo a b∧SegD L b lo (lo+x)∧nq+1≤x ∧
   (∀i,lo+x-(nq+1)≤i→i<lo+x→Eqv L (at0 b i) (at0 b (lo+x-1)))) ?step ?fin ⟨a,0,rfl,rfl,Kept.rf _ _,hs,by omega,fun i h1 h2=>by rw[show i=lo+n-1 by omega];exact⟨hC.rf _,hC.rf _⟩⟩
 case fin=>
  rintro c st' ⟨b,nq,rfl,rfl,hK,hs',hq,he⟩
  rw[show max n nr=nr by omega]at hs' hq he ⊢
  exact h b nr nq hK hnn (YAP _) hs' hq he
 case step=>
  rintro x c st' hax hxn ⟨b,nq,rfl,rfl,hK,hs',hq,he⟩
  have hbs:=hK.sz
  have hdb:=hK.d hd
  dsimp only
  refine YAK (ZeZ hP hk hdb (by omega) (by omega) ?_)
  cases hl:L (at0 b (lo+x)) (at0 b (lo+x-1)) with
  | true=>
   have hmore:SegD L b lo (lo+x+1):=hs'.more hC fun _=>hC.le hl
   dsimp only
   by_cases hq0:nq>0
   ·rw[YAO rfl,YAO hq0]
    refine YAK (Zdd (YAU ⟨_,0,rfl,rfl,hK.tr (Kept.mir (by omega) (by omega)),hmore.eqv hC (Zed hC (by omega) he),by omega,fun i h1 h2=>?_⟩))
    rw[show i=lo+(x+1)-1 by omega];exact⟨hC.rf _,hC.rf _⟩
   ·rw[YAO rfl,YAJ hq0]
    refine YAU ⟨b,0,rfl,rfl,hK,hmore,by omega,fun i h1 h2=>?_⟩
    rw[show i=lo+(x+1)-1 by omega];exact⟨hC.rf _,hC.rf _⟩
  | false=>
   dsimp only
   rw[YAJ YAE]
   refine YAK (ZeZ hP hk hdb (by omega) (by omega) ?_)
   cases hg:L (at0 b (lo+x-1)) (at0 b (lo+x)) with
   | true=>exact YAU (h b x nq hK hax (by omega) hs' hq he)
   | false=>
    refine YAU ⟨b,nq+1,rfl,rfl,hK,hs'.more hC fun _=>hg,by omega,fun i h1 h2=>?_⟩
    rw[show lo+(x+1)-1=lo+x by omega]
    by_cases hix:i=lo+x
    ·subst hix;exact⟨hC.rf _,hC.rf _⟩
    ·have e:=he i (by omega) (by omega)
     exact⟨hC.t e.1 hl,hC.t hg e.2⟩
theorem Zlj {a:Array Keyed}{lo nr:Nat}{Q:Option Nat→SortSt→Prop}(hC:CmpT L)(hP:PureC M A E s D L kd)(hk:kindOf st=kd)(hd:∀u∈a.toList,D u)(hn:lo+nr≤a.size)(h1:1≤nr)
  (h:∀b m,Kept lo a b→1≤m→m≤nr→SegU L b lo (lo+m)→Q (some m) (setArr st b)):wpS M A E s (countRun' lo nr) Q (setArr st a):=by
 rw[countRun'_eq]
 refine YAK (YBy (ZiB (Q:=fun c st'=>∃n,c=(none,n)∧st'=setArr st a∧1≤n∧n≤nr∧SegU L a lo (lo+n)∧(n=nr∨L (at0 a (lo+n)) (at0 a (lo+n-1))=true)) hC hP hk hd hn (YAP 1) h1 (fun i j hl hij hj=>by have:i=j:=(by omega);subst this;exact hC.rf _) fun n a1 a2 a3 a4=>⟨n,rfl,rfl,a1,a2,a3,a4⟩) ?_)
 rintro c st' ⟨n,rfl,rfl,hn1,hn2,hsn,hor⟩
 dsimp only
 by_cases hnn:n=nr
 ·rw[YAO (by simpa using hnn)]
  exact YAU (h a n (Kept.rf _ _) hn1 hn2 hsn)
 ·rw[YAJ (by simpa using hnn)]
  have hlt:=hor.resolve_left hnn
  by_cases hgt:n>1
  ·rw[YAO hgt]
   refine YAK (ZeZ hP hk hd (by omega) (by omega) ?_)
   cases hrose:L (at0 a lo) (at0 a (lo+n-1)) with
   | true=>
    dsimp only
    rw[YAO rfl]
    exact YAU (h a n (Kept.rf _ _) hn1 hn2 hsn)
   | false=>
    dsimp only
    rw[YAJ YAE]
    have hall:∀k,lo≤k→k<lo+n→Eqv L (at0 a k) (at0 a (lo+n-1)):=by
     intro k hk1 hk2
     have a1:=hsn lo k (by omega) hk1 hk2
     have a2:=hsn k (lo+n-1) hk1 (by omega) (by omega)
     exact⟨a2,hC.t hrose a1⟩
    have hsd:SegD L a lo (lo+(n+1)):=by
     refine SegD.more hC (fun i j h1 h2 h3=>?_) fun _=>hC.le hlt
     replace h3:j<lo+n:=h3
     exact hC.t (hall j (by omega) h3).1 (hall i h1 (by omega)).2
    have hK:Kept lo a (mirror a lo (lo+n) ((lo+n-lo)/2)):=Kept.mir (by omega) (YAP _)
    refine YAK (Zdd ?_)
    obtain⟨b,hb,hKb,hsb⟩:∃b,b=mirror a lo (lo+n) ((lo+n-lo)/2)∧Kept lo a b∧SegD L b lo (lo+(n+1)):=⟨_,rfl,hK,hsd.eqv hC (Zed hC (by omega) hall)⟩
    rw[←hb]
    have hbs:=Kept.sz hKb
    refine YAK (wpS_lift (YBt ⟨rfl,?_⟩))
    refine YAK (Zgy hC hP hk (Kept.d hKb hd) (by omega) (by omega) (by omega) hsb fun c m nq hK hm1 hm2 hs' hq he=>?_)
    have hcs:=hK.sz
    have hdc:=hK.d (Kept.d hKb hd)
    dsimp only
    by_cases hq0:nq>0
    ·rw[YAO hq0]
     have hK2:Kept lo c (mirror c (lo+m-(nq+1)) (lo+m) ((lo+m-(lo+m-(nq+1)))/2)):=Kept.mir (by omega) (by omega)
     refine YAK (Zdd ?_)
     refine Eq.mp ?_ (ZcT (Q:=Q) hC hP hk (hK2.d hdc) (by rw[hK2.sz];omega) (by omega) hm2 (hs'.eqv hC (Zed hC (by omega) he)) fun d k hc=>h d k (Kept.tr hKb (hK.tr (hK2.tr hc))))
     refine congrArg (fun m=>wpS _ _ _ _ m _ _) ?_
     unfold tailO ascO
     refine congrArg _ (funext fun _=>congrArg _ (funext fun c=>?_))
     obtain⟨r3,n3⟩:=c
     cases r3<;>rfl
    ·rw[YAJ hq0]
     refine Eq.mp ?_ (ZcT (Q:=Q) hC hP hk hdc (by omega) (by omega) hm2 hs' fun d k hc=>h d k (Kept.tr hKb (hK.tr hc)))
     refine congrArg (fun m=>wpS _ _ _ _ m _ _) ?_
     unfold tailO ascO
     refine congrArg _ (funext fun _=>congrArg _ (funext fun c=>?_))
     obtain⟨r3,n3⟩:=c
     cases r3<;>rfl
  ·rw[YAJ hgt]
   obtain⟨b,hb,hKb,hsb⟩:∃b,b=a∧Kept lo a b∧SegD L b lo (lo+(n+1)):=⟨_,rfl,Kept.rf _ _,SegD.more hC (fun i j h1 h2 h3=>by
    replace h3:j<lo+n:=h3
    rw[show i=j by omega];exact hC.rf _) fun _=>hC.le hlt⟩
   rw[←hb]
   have hbs:=Kept.sz hKb
   refine YAK (wpS_lift (YBt ⟨rfl,?_⟩))
   refine YAK (Zgy hC hP hk (Kept.d hKb hd) (by omega) (by omega) (by omega) hsb fun c m nq hK hm1 hm2 hs' hq he=>?_)
   have hcs:=hK.sz
   have hdc:=hK.d (Kept.d hKb hd)
   dsimp only
   by_cases hq0:nq>0
   ·rw[YAO hq0]
    have hK2:Kept lo c (mirror c (lo+m-(nq+1)) (lo+m) ((lo+m-(lo+m-(nq+1)))/2)):=Kept.mir (by omega) (by omega)
    refine YAK (Zdd ?_)
    refine Eq.mp ?_ (ZcT (Q:=Q) hC hP hk (hK2.d hdc) (by rw[hK2.sz];omega) (by omega) hm2 (hs'.eqv hC (Zed hC (by omega) he)) fun d k hc=>h d k (Kept.tr hKb (hK.tr (hK2.tr hc))))
    refine congrArg (fun m=>wpS _ _ _ _ m _ _) ?_
    unfold tailO ascO
    refine congrArg _ (funext fun _=>congrArg _ (funext fun c=>?_))
    obtain⟨r3,n3⟩:=c
    cases r3<;>rfl
   ·rw[YAJ hq0]
    refine Eq.mp ?_ (ZcT (Q:=Q) hC hP hk hdc (by omega) (by omega) hm2 hs' fun d k hc=>h d k (Kept.tr hKb (hK.tr hc)))
    refine congrArg (fun m=>wpS _ _ _ _ m _ _) ?_
    unfold tailO ascO
    refine congrArg _ (funext fun _=>congrArg _ (funext fun c=>?_))
    obtain⟨r3,n3⟩:=c
    cases r3<;>rfl
end
noncomputable def Pd (L:Keyed→Keyed→Bool):Nat→List (Nat×Nat×Nat)→List (List Keyed)→Prop
 | _,[],[]=>True
 | o,t::ps,r::rs=>t.1=o∧t.2.1=r.length∧r≠[]∧r.Pairwise (Le L)∧Pd L (o+r.length) ps rs
 | _,_,_=>False
section
variable {M:Model}{A:Around}{E:Value→Shared→Prop}{s:Shared}{D:Keyed→Prop}{L:Keyed→Keyed→Bool}{kd:SortKind}{st:SortSt}
theorem Pd.len:∀ {ps:List (Nat×Nat×Nat)} {rs:List (List Keyed)} {o:Nat},Pd L o ps rs→ps.length=rs.length
 | [],[],_,_=>rfl
 | t::ps,r::rs,o,h=>by have:=Pd.len h.2.2.2.2;simp[this]
 | [],_::_,_,h=>h.elim
 | _::_,[],_,h=>h.elim
theorem Pd.le:∀ {ps:List (Nat×Nat×Nat)} {rs:List (List Keyed)} {o:Nat},Pd L o ps rs→ps.length≤rs.flatten.length
 | [],[],_,_=>by simp
 | t::ps,r::rs,o,h=>by
  have h1:=Pd.le h.2.2.2.2
  have h2:=YBn.mpr h.2.2.1
  rw[YCP,YAI,YAp];omega
 | [],_::_,_,h=>h.elim
 | _::_,[],_,h=>h.elim
theorem Pd.app:∀ {ps:List (Nat×Nat×Nat)} {rs:List (List Keyed)} {o:Nat} {t:Nat×Nat×Nat} {r:List Keyed},Pd L o ps rs→t.1=o+rs.flatten.length→t.2.1=r.length→r≠[]→r.Pairwise (Le L)→Pd L o (ps++[t]) (rs++[r])
 | [],[],o,t,r,_,h1,h2,h3,h4=>⟨by simpa using h1,h2,h3,h4,trivial⟩
 | t::ps,r::rs,o,t',r',h,h1,h2,h3,h4=>⟨h.1,h.2.1,h.2.2.1,h.2.2.2.1,Pd.app h.2.2.2.2 (by rw[h1,YCP,YAI];omega) h2 h3 h4⟩
 | [],_::_,_,_,_,h,_,_,_,_=>h.elim
 | _::_,[],_,_,_,h,_,_,_,_=>h.elim
theorem Pd.pow:∀ {ps qs:List (Nat×Nat×Nat)} {rs:List (List Keyed)} {o:Nat},Pd L o ps rs→ps.map (fun t=>(t.1,t.2.1))=qs.map (fun t=>(t.1,t.2.1))→Pd L o qs rs
 | [],qs,[],_,_,e=>by
  have:qs=[]:=by simpa using e.symm
  subst this;trivial
 | t::ps,qs,r::rs,o,h,e=>by
  cases qs with
  | nil=>simp at e
  | cons u qs=>
   simp only[YAg,List.cons.injEq,Prod.mk.injEq]at e
   exact⟨e.1.1▸h.1,e.1.2▸h.2.1,h.2.2.1,h.2.2.2.1,Pd.pow h.2.2.2.2 e.2⟩
 | [],_,_::_,_,h,_=>h.elim
 | _::_,_,[],_,h,_=>h.elim
theorem Pd.pick:∀ {ps:List (Nat×Nat×Nat)} {rs:List (List Keyed)} {o i:Nat},Pd L o ps rs→i+1<ps.length →
  ∃ra X Y rb pw pw2,rs=ra++X::Y::rb∧ps[i]?=some (o+ra.flatten.length,X.length,pw)∧ps[i+1]?=some (o+ra.flatten.length+X.length,Y.length,pw2)∧X≠[]∧Y≠[]∧X.Pairwise (Le L)∧Y.Pairwise (Le L) ∧
   ∀V:List Keyed,V.length=X.length+Y.length→V.Pairwise (Le L)→Pd L o ((ps.set i (o+ra.flatten.length,X.length+Y.length,pw)).eraseIdx (i+1)) (ra++V::rb)
 | t::u::ps,r::r2::rs,o,0,h,_=>by
  obtain⟨a1,a2,a3,a4,b1,b2,b3,b4,b5⟩:=h
  obtain⟨t1,t2,t3⟩:=t
  obtain⟨u1,u2,u3⟩:=u
  dsimp only at a1 a2 b1 b2
  subst a1 a2 b1 b2
  refine⟨[],r,r2,rs,t3,u3,rfl,by simp,by simp,a3,b3,a4,b4,fun V hV hs=>?_⟩
  refine⟨by simp,by simpa using hV.symm,?_,hs,?_⟩
  ·intro e;rw[e]at hV;have:=YBn.mpr a3;simp at hV;omega
  ·rw[hV,←Nat.add_assoc];exact b5
 | t::ps,r::rs,o,i+1,h,hi=>by
  obtain⟨a1,a2,a3,a4,a5⟩:=h
  obtain⟨ra,X,Y,rb,pw,pw2,h1,h2,h3,h4,h5,h6,h7,h8⟩:=Pd.pick a5 (i:=i) (by simpa using hi)
  refine⟨r::ra,X,Y,rb,pw,pw2,by rw[h1];rfl,?_,?_,h4,h5,h6,h7,fun V hV hs=>?_⟩
  ·rw[List.getElem?_cons_succ,h2,YCP,YAI,Nat.add_assoc]
  ·rw[List.getElem?_cons_succ,h3,YCP,YAI,Nat.add_assoc o]
  ·have:=h8 V hV hs
   rw[List.set_cons_succ,List.eraseIdx_cons_succ,YCP,YAI,←Nat.add_assoc]
   exact⟨a1,a2,a3,a4,this⟩
 | [_],[_],_,0,_,h=>by simp at h
 | [],_,_,_,_,h=>by simp at h
 | _::_,[],_,_,h,_=>h.elim
 | _::_::_,[_],_,0,h,_=>h.2.2.2.2.elim
 | [_],_::_::_,_,0,h,_=>h.2.2.2.2.elim
structure SI (L:Keyed→Keyed→Bool)(kd:SortKind)(a0:List Keyed)(n:Nat)(Z:List Keyed)(st:SortSt):Prop where
 kind:kindOf st=kd
 fail:failedOf st=none
 perm:(arrOf st).toList.Perm a0
 runs:∃rs:List (List Keyed),(arrOf st).toList=rs.flatten++Z∧rs.flatten.length=n∧Pd L 0 (pendingOf st).toList rs
theorem SI.merge {a0 Z:List Keyed}{n i:Nat}{Q:Bool→SortSt→Prop}(hC:CmpT L)(hP:PureC M A E s D L kd)(hd:∀u∈a0,D u)(h:SI L kd a0 n Z st)(hi:i+1<(pendingOf st).size)
  (q:∀st',SI L kd a0 n Z st'→(pendingOf st').size+1=(pendingOf st).size→Q true st'):wpS M A E s (mergeAt' i) Q st:=by
 obtain⟨h1,h2,h3,rs,h4,h5,h6⟩:=h
 obtain⟨ra,X,Y,rb,pw,pw2,rfl,p1,p2,p3,p4,p5,p6,p7⟩:=h6.pick (i:=i) (by simpa using hi)
 rw[Nat.zero_add]at p1 p2
 have ha:(arrOf st).toList=ra.flatten++X++Y++(rb.flatten++Z):=by rw[h4];simp
 refine ZmG hC.to hP h1 h2 ha (fun u hu=>hd u (h3.mem_iff.mp hu)) p3 p4 p5 p6 (by rw[←YAl];exact p1) (by rw[←YAl];exact p2) fun V a g hV hp hs=>?_
 have hl:=hp.length_eq
 rw[YAI]at hl
 refine q _ ⟨rfl,rfl,?_,ra++V::rb,?_,?_,?_⟩ ?_
 ·show a.toList.Perm a0
  refine List.Perm.trans ?_ h3
  rw[hV,ha]
  have:=(List.Perm.append_left ra.flatten hp).append_right (rb.flatten++Z)
  simpa using this
 ·show a.toList=_
  rw[hV];simp
 ·rw[←h5];simp[hl];omega
 ·show Pd L 0 (Array.eraseIdxIfInBounds _ _).toList _
  have:=p7 V hl hs
  rw[Nat.zero_add]at this
  rw[Array.toList_eraseIdxIfInBounds,YDZ]
  exact this
 ·show (Array.eraseIdxIfInBounds _ _).size+1=_
  rw[←YAN,Array.toList_eraseIdxIfInBounds,YDZ,YDY (by simpa using hi),List.length_set,YAN]
  omega
end
theorem Kept.pref {lo:Nat}{a b:Array Keyed}{F Z:List Keyed}(h:Kept lo a b)(ha:a.toList=F++Z)(hF:F.length=lo):b.toList=F++b.toList.drop lo:=by
 have e:b.toList.take lo=F:=by
  refine YCm fun i=>?_
  rw[YCa]
  by_cases hi:i<lo
  ·rw[YAO hi,YAl,h.pre i hi,←YAl,ha,YAr (by omega)]
  ·rw[YAJ hi,YBc (by omega)]
 conv=>lhs;rw[←YAj lo b.toList,e]
theorem SegU.pw {L:Keyed→Keyed→Bool}{b:Array Keyed}{lo m:Nat}(h:SegU L b lo (lo+m)):((b.toList.drop lo).take m).Pairwise (Le L):=by
 rw[YCG]
 intro i j hi hj hij
 rw[YAV,YAm,YAN]at hi hj
 have e:∀k (hk:k<((b.toList.drop lo).take m).length),at0 b (lo+k)=((b.toList.drop lo).take m)[k]:=by
  intro k hk
  rw[YAV,YAm,YAN]at hk
  unfold at0
  rw[getElem?_pos b (lo+k) (by omega)]
  simp
 rw[←e i (by simp;omega),←e j (by simp;omega)]
 exact h _ _ (by omega) (by omega) (by omega)
section
variable {M:Model}{A:Around}{E:Value→Shared→Prop}{s:Shared}{D:Keyed→Prop}{L:Keyed→Keyed→Bool}{kd:SortKind}{st:SortSt}
theorem SI.push {a0 R Z:List Keyed}{lo n p:Nat}(h:SI L kd a0 lo (R++Z) st)(h1:R.length=n)(h2:R≠[])(h3:R.Pairwise (Le L)):SI L kd a0 (lo+n) Z (setPending st ((pendingOf st).push (lo,n,p))):=by
 obtain⟨a1,a2,a3,rs,a4,a5,a6⟩:=h
 refine⟨a1,a2,a3,rs++[R],?_,?_,?_⟩
 ·show (arrOf st).toList=_
  rw[a4];simp
 ·simp[a5,h1]
 ·show Pd L 0 ((pendingOf st).push (lo,n,p)).toList _
  rw[YBW]
  exact a6.app (by simp[a5]) h1.symm h2 h3
theorem ZgV {α β:Type}(g:α→β)(f:α→α)(h:∀x,g (f x)=g x)(l:List α)(k:Nat):(l.modify k f).map g=l.map g:=by
 refine YCm fun i=>?_
 rw[YAk,YAk,List.getElem?_modify]
 cases l[i]? with
 | none=>rfl
 | some x=>by_cases e:k=i<;>simp[e,h]
theorem SI.pow {a0 Z:List Keyed}{lo k w:Nat}(h:SI L kd a0 lo Z st):SI L kd a0 lo Z (setPending st ((pendingOf st).modify k fun x=>(x.1,x.2.1,w))):=by
 obtain⟨a1,a2,a3,rs,a4,a5,a6⟩:=h
 refine⟨a1,a2,a3,rs,a4,a5,?_⟩
 show Pd L 0 ((pendingOf st).modify k _).toList _
 rw[Array.toList_modify]
 exact a6.pow (ZgV (fun t=>(t.1,t.2.1)) (fun x=>(x.1,x.2.1,w)) (fun _=>rfl) _ _).symm
theorem Zhx {a0:List Keyed}{Q:Unit→SortSt→Prop}(hC:CmpT L)(hP:PureC M A E s D L kd)(hd:∀u∈a0,D u)(hk:kindOf st=kd)(hf:failedOf st=none)(hpe:pendingOf st=#[])(ha:(arrOf st).toList=a0)
  (q:∀st',(arrOf st').toList.Perm a0→(arrOf st').toList.Pairwise (Le L)→failedOf st'=none→Q () st'):wpS M A E s sortRuns' Q st:=by
 rw[sortRuns'_eq]
 refine YAK (YDP ?_)
 dsimp only
 obtain⟨N,hN⟩:∃N,N=(arrOf st).size:=⟨_,rfl⟩
 have hN':a0.length=N:=by rw[hN,←ha,YAN]
 rw[←hN]
 have hSI:SI L kd a0 0 a0 st:=⟨hk,hf,by rw[ha],[],by simpa using ha,rfl,by rw[hpe];trivial⟩
 refine YAK (YBy (YBO (a:=0) (b:=N) (I:=fun x c st'=>∃lo Z,c=(none,lo)∧SI L kd a0 lo Z st'∧x≤lo∧lo≤N)
  (Q:=fun c st'=>∃Z,c=(none,N)∧SI L kd a0 N Z st') ?step ?fin ⟨0,a0,rfl,hSI,by omega,by omega⟩) ?post)
 case fin=>
  rintro c st' ⟨lo,Z,rfl,hS,hx,hl⟩
  have:lo=N:=by omega
  subst this
  exact⟨Z,rfl,hS⟩
 case post=>
  rintro c st' ⟨Z,rfl,hS⟩
  have hZ:∀st',SI L kd a0 N Z st'→Z=[]:=by
   intro st' hS
   obtain⟨h1,h2,h3,rs,h4,h5,h6⟩:=hS
   have:=h3.length_eq
   rw[h4,YAI,h5,hN']at this
   exact YCy.mp (by omega)
  dsimp only
  refine YAK (YBy (YBO (a:=0) (b:=N) (I:=fun x c st'=>c=(none,())∧SI L kd a0 N Z st'∧(pendingOf st').size+x≤N)
   (Q:=fun c st'=>c=(none,())∧SI L kd a0 N Z st'∧(pendingOf st').size≤1) ?s2 ?f2 ⟨rfl,hS,?_⟩) ?p2)
  case f2=>
   rintro c st' ⟨rfl,hS,hx⟩
   exact⟨rfl,hS,by omega⟩
  case p2=>
   rintro c st' ⟨rfl,hS,hx⟩
   obtain⟨h1,h2,h3,rs,h4,h5,h6⟩:=hS
   have:=hZ st' ⟨h1,h2,h3,rs,h4,h5,h6⟩
   subst this
   refine YAU (q st' h3 ?_ h2)
   have hl:=h6.len
   rw[YAN]at hl
   rw[h4,YCh]
   cases rs with
   | nil=>exact List.Pairwise.nil
   | cons r rs=>
    cases rs with
    | nil=>
     cases hps:(pendingOf st').toList with
     | nil=>rw[hps]at h6;exact h6.elim
     | cons t ps=>rw[hps]at h6;simpa using h6.2.2.2.1
    | cons r2 rs=>simp at hl;omega
  case s2=>
   rintro x c st' _ hx ⟨rfl,hS,hpx⟩
   refine YAK (YDP ?_)
   by_cases hp1:(pendingOf st').size≤1
   ·rw[YAO hp1]
    exact YAU ⟨rfl,hS,hp1⟩
   ·rw[YAJ hp1]
    refine YAK (hS.merge hC hP hd ?_ fun st2 hS2 hp2=>?_)
    ·have hle:∀(c:Prop) [Decidable c] (k:Nat),(if c then k-1 else k)≤k:=fun c _ k=>by split<;>omega
     exact YCE (YDG (hle _ _)) (by omega)
    ·exact YAU ⟨rfl,hS2,by omega⟩
  ·obtain⟨h1,h2,h3,rs,h4,h5,h6⟩:=hS
   have:=h6.le
   rw[YAN]at this
   omega
 case step=>
  rintro x c st' _ hx ⟨lo,Z,rfl,hS,hxl,hl⟩
  dsimp only
  by_cases hlo:lo≥N
  ·rw[YAO hlo]
   have:lo=N:=by omega
   subst this
   exact YAU ⟨Z,rfl,hS⟩
  rw[YAJ hlo]
  obtain⟨h1,h2,h3,rs,h4,h5,h6⟩:=hS
  have hsz:(arrOf st').size=N:=by rw[←YAN,h3.length_eq,hN']
  have hda:∀u∈(arrOf st').toList,D u:=fun u hu=>hd u (h3.mem_iff.mp hu)
  refine YAK (Eq.mp (congrArg (fun v=>wpS M A E s (countRun' lo (N-lo)) _ v) (show setArr st' (arrOf st')=st' from rfl)) (Zlj hC hP h1 hda (by omega) (by omega) fun b m hK hm1 hm2 hsm=>?_))
  dsimp only
  have hbz:=hK.sz
  by_cases hmr:m<minRun' N N 0
  ·rw[YAO hmr]
   obtain⟨n,hn⟩:∃n,n=min (N-lo) (minRun' N N 0):=⟨_,rfl⟩
   rw[←hn]
   refine YAK (wpS_lift (YBt ⟨rfl,?_⟩))
   refine YAK (Zlm hC hP h1 (hK.d hda) (by omega) (by omega) hsm fun b2 hK2 hs2=>?_)
   rw[YAJ (by simp)]
   have hKb:=hK.tr hK2
   have hn1:1≤n:=by omega
   have hn2:n≤N-lo:=by omega
   have hbz2:=Kept.sz hKb
   have hb1:=Kept.pref hKb h4 h5
   obtain⟨R,hR⟩:∃R,R=(List.drop lo (Array.toList b2)).take n:=⟨_,rfl⟩
   obtain⟨Z2,hZ2⟩:∃Z2,Z2=(List.drop lo (Array.toList b2)).drop n:=⟨_,rfl⟩
   have hRZ:(List.drop lo (Array.toList b2))=R++Z2:=by rw[hR,hZ2,YAj]
   have hRl:R.length=n:=by rw[hR,YAV,YAm,YAN];omega
   have hRn:R≠[]:=by intro e;rw[e]at hRl;simp at hRl;omega
   have hRs:R.Pairwise (Le L):=by rw[hR];exact SegU.pw hs2
   have hS:SI L kd a0 lo (R++Z2) (setArr st' b2):=⟨h1,h2,(YCo.mp (Kept.perm hKb)).trans h3,rs,by rw[←hRZ];exact hb1,h5,h6⟩
   refine YAK (YDP ?_)
   cases hb:(pendingOf (setArr st' b2)).back? with
   | none=>
    dsimp only
    exact YAK (YCI (YAU ⟨lo+n,Z2,rfl,hS.push hRl hRn hRs,by omega,by omega⟩))
   | some t=>
    obtain⟨s1,n1,p1⟩:=t
    dsimp only
    refine YAK (YBy (YBO (a:=0) (b:=N) (I:=fun y c st2=>c=(none,())∧SI L kd a0 lo (R++Z2) st2) (Q:=fun c st2=>c=(none,())∧SI L kd a0 lo (R++Z2) st2) ?_ (fun _ _ h=>h) ⟨rfl,hS⟩) ?_)
    ·rintro y c st2 _ _ ⟨hc,hS2⟩
     subst hc
     refine YAK (YDP ?_)
     by_cases hp:(pendingOf st2).size>1
     ·rw[YAO hp]
      obtain⟨t,ht⟩:∃t,(pendingOf st2)[(pendingOf st2).size-2]?=some t:=⟨_,getElem?_pos _ _ (by omega)⟩
      obtain⟨t1,t2,t3⟩:=t
      rw[ht]
      dsimp only
      split
      ·exact YAU ⟨rfl,hS2⟩
      ·exact YAK (hS2.merge hC hP hd (by omega) fun st3 hS3 _=>YAU ⟨rfl,hS3⟩)
     ·rw[YAJ hp]
      exact YAU ⟨rfl,hS2⟩
    ·rintro c st2 ⟨hc,hS2⟩
     subst hc
     exact YAK (YCI (YAK (YCI (YAU ⟨lo+n,Z2,rfl,hS2.pow.push hRl hRn hRs,by omega,by omega⟩))))
  ·rw[YAJ hmr]
   have hKb:=hK
   have hbz2:=Kept.sz hKb
   have hb1:=Kept.pref hKb h4 h5
   obtain⟨R,hR⟩:∃R,R=(List.drop lo (Array.toList b)).take m:=⟨_,rfl⟩
   obtain⟨Z2,hZ2⟩:∃Z2,Z2=(List.drop lo (Array.toList b)).drop m:=⟨_,rfl⟩
   have hRZ:(List.drop lo (Array.toList b))=R++Z2:=by rw[hR,hZ2,YAj]
   have hRl:R.length=m:=by rw[hR,YAV,YAm,YAN];omega
   have hRn:R≠[]:=by intro e;rw[e]at hRl;simp at hRl;omega
   have hRs:R.Pairwise (Le L):=by rw[hR];exact SegU.pw hsm
   have hS:SI L kd a0 lo (R++Z2) (setArr st' b):=⟨h1,h2,(YCo.mp (Kept.perm hKb)).trans h3,rs,by rw[←hRZ];exact hb1,h5,h6⟩
   refine YAK (YDP ?_)
   cases hb:(pendingOf (setArr st' b)).back? with
   | none=>
    dsimp only
    exact YAK (YCI (YAU ⟨lo+m,Z2,rfl,hS.push hRl hRn hRs,by omega,by omega⟩))
   | some t=>
    obtain⟨s1,n1,p1⟩:=t
    dsimp only
    refine YAK (YBy (YBO (a:=0) (b:=N) (I:=fun y c st2=>c=(none,())∧SI L kd a0 lo (R++Z2) st2) (Q:=fun c st2=>c=(none,())∧SI L kd a0 lo (R++Z2) st2) ?_ (fun _ _ h=>h) ⟨rfl,hS⟩) ?_)
    ·rintro y c st2 _ _ ⟨hc,hS2⟩
     subst hc
     refine YAK (YDP ?_)
     by_cases hp:(pendingOf st2).size>1
     ·rw[YAO hp]
      obtain⟨t,ht⟩:∃t,(pendingOf st2)[(pendingOf st2).size-2]?=some t:=⟨_,getElem?_pos _ _ (by omega)⟩
      obtain⟨t1,t2,t3⟩:=t
      rw[ht]
      dsimp only
      split
      ·exact YAU ⟨rfl,hS2⟩
      ·exact YAK (hS2.merge hC hP hd (by omega) fun st3 hS3 _=>YAU ⟨rfl,hS3⟩)
     ·rw[YAJ hp]
      exact YAU ⟨rfl,hS2⟩
    ·rintro c st2 ⟨hc,hS2⟩
     subst hc
     exact YAK (YCI (YAK (YCI (YAU ⟨lo+m,Z2,rfl,hS2.pow.push hRl hRn hRs,by omega,by omega⟩))))
end
noncomputable def keyD (κ:KeyKind) (p:Keyed):κ.α:=(κ.keyOf p.1).getD κ.dflt
noncomputable def ltD (κ:KeyKind) (x y:Keyed):Bool:=κ.blt (keyD κ x) (keyD κ y)
theorem ZkP (κ:KeyKind):CmpT (ltD κ):=
 ⟨fun x y _ _ h=>KeyOrd.klt_asymm (O:=κ.toKeyOrd) h,fun x y z _ _ _ h1 h2=>KeyOrd.kle_trans (O:=κ.toKeyOrd) h1 h2⟩
section
variable {prog:Program}{w:World}{A:Around}{E:Value→Shared→Prop}{s:Shared}{κ:KeyKind}
theorem Zjc (hO:κ.OneLt):PureC (model prog w) A E s (fun p=>∃a,κ.keyOf p.1=some a) (ltD κ) oneType':=by
 rintro st ⟨x,p⟩ ⟨y,r⟩ Q hk ⟨a,ha⟩ ⟨b,hb⟩ q
 have e:ltD κ (x,p) (y,r)=κ.blt a b:=by unfold ltD keyD;rw[ha,hb];rfl
 rw[e]at q
 rw[lt'_eq]
 refine YAK (YDP ?_)
 rw[hk,keyLt'_oneType]
 exact YAK (wpS_lift (YCC (hO prog w A _ s x y a b ha hb ⟨rfl,YAU q⟩)))
theorem ZiL {a0:Array Keyed}{st:SortSt}{Q:Unit→SortSt→Prop}(hO:κ.OneLt)(h0:KeysOf κ a0)(hk:kindOf st=oneType')(hf:failedOf st=none)(hp:pendingOf st=#[])(ha:arrOf st=a0)
  (q:∀st',(arrOf st').Perm a0→failedOf st'=none→SortedToK κ (arrOf st') a0.size→Q () st'):wpS (model prog w) A E s sortRuns' Q st:=by
 refine Zhx (a0:=a0.toList) (ZkP κ) (Zjc hO) h0 hk hf hp (by rw[ha]) fun st' p1 p2 p3=>q st' (YCo.mpr p1) p3 ?_
 have hsz:(arrOf st').size=a0.size:=by rw[←YAN,p1.length_eq,YAN]
 intro i j hij hj
 have hK:∀k (hk:k<(arrOf st').size),KK κ (arrOf st') k=keyD κ ((arrOf st').toList[k]'(by simpa using hk)):=by
  intro k hk
  unfold KK keyD
  rw[getElem?_pos _ k hk];rfl
 rw[hK i (by omega),hK j (by omega)]
 by_cases e:i=j
 ·subst e;exact KeyOrd.kle_refl _
 ·exact YCG.mp p2 i j (by simp;omega) (by simp;omega) (by omega)
end
section
variable {prog:Program}{w:World}{A:Around}{E:Value→Shared→Prop}{s:Shared}{κ:KeyKind}
theorem ZiJ (hO:κ.OneLt) {a:Addr} {vs:List Value} {n:Nat} {P:Fin→Shared→Prop} (ho:s.heap.get? a=some (seqObj "list" vs.toArray n))
  (h0:KeysOf κ (pairsOf vs)) (hkk:∀x y r,vs=x::y::r→keyKind' (x::y::r).toArray=pure oneType') (hN:vs.length≤sizeLine)
  (h:∀v:SortSt,(arrOf v).Perm (pairsOf vs)→SortedToK κ (arrOf v) (pairsOf vs).size→P (.done (.ret .none)) { s with heap:=sortedHeap s.heap a vs ((arrOf v).map (·.2)) }):
  wpAny (model prog w) A (Builtin.«list.sort» ⟨[.ref a],[]⟩) P E s:=by
 by_cases h64:vs.length<64
 ·exact list_sort_treeK hO ho h0 hkk h64 h
 obtain⟨x,y,r,hv⟩:∃x y r,vs=x::y::r:=by
  match vs,h64 with
  | x::y::r,_=>exact⟨x,y,r,rfl⟩
  | [x],h=>simp at h
  | [],h=>simp at h
 have h2:¬vs.toArray.size<2:=by rw[YAH];omega
 have hlt:a<s.heap.objs.size:=YAG ho
 have up:=get?_update_seq ho (fun _=>#[])
 generalize hep:(if (#[]:Array Value).size == vs.toArray.size then n else n+1)=ep at up
 have up3:(((s.heap.update a (Obj.mapSeq fun _=>#[])).push (seqObj "tuple" vs.toArray 0)).push (seqObj "list" #[] 0)).get? a=some (seqObj "list" #[] ep):=by
  rw[Heap.get?_push_ne,Heap.get?_push_ne]
  ·exact up
  ·rw[Heap.size_update];exact YAY hlt
  ·rw[size_push',Heap.size_update];exact YAY (YCM hlt)
 rw[list_sort_plain]
 refine YAA (listItems_at ho rfl (YAA (listUpdate_at ho rfl (YAA (seqEpoch_at up rfl (YAA (wpAny_newTuple (YAA (YDN (YAy ?_)))))) ) (hsz:=by rw[YAH];exact hN))))
 dsimp only
 rw[YAJ h2,YAJ h2]
 have hk1:keyKind' vs.toArray=pure oneType':=by rw[hv];exact hkk x y r hv
 rw[hk1]
 refine YAA (YAC (YAA (YBB (ZiL hO h0 (st:=SortSt.mk' oneType' (pairsOf vs) #[] 7 none) (Q:=fun _ v=>(arrOf v).Perm (pairsOf vs)∧failedOf v=none∧SortedToK κ (arrOf v) (pairsOf vs).size) rfl rfl rfl rfl fun v p1 p2 p3=>⟨p1,p2,p3⟩) ?_ fun _ _ e=>e)))
 rintro⟨⟨⟩,v⟩ s2 ⟨rfl,p1,p2,p3⟩
 dsimp only
 refine YAA (seqEpoch_at up3 rfl (YAA (listUpdate_at up3 rfl ?_ (hsz2:=?_))))
 ·rw[p2,bne_self_eq_false]
  exact YAC (h v p1 p3)
 ·rw[Array.size_map,p1.size_eq,pairsOf_size];omega
end
section
variable {prog:Program}{w:World}{A:Around}{E:Value→Shared→Prop}{s:Shared}
theorem ZdM {vs:List Value}{ms:List (List Nat)}{Q:Value→Shared→Prop}(hv:Vals (ms.map tx) vs)(h64:ms.length≤sizeLine)
  (h:∀(h':Heap) (us:List Value) (e:Nat),(∀b o,s.heap.get? b=some o→h'.get? b=some o)→h'.get? s.heap.objs.size=some { cls:=.type "list",data:=.seq us.toArray e }→Vals ((ZaR ms).map tx) us→Q (.ref s.heap.objs.size) { s with heap:=h' }):
  wpAny (model prog w) A (do let l ←newList vs;let _ ←holding [l] (call (.builtin "list.sort") [l] []);ret l) (fun fin s'=>∃v,fin=Fin.done (Flow.ret v)∧Q v s') E s:=by
 have hS:=ZeD hv
 have hlen:vs.length≤sizeLine:=by rw[←hv.length,YAD];exact h64
 refine YAA (YDN ?_ ?_)
 ·have hoL:(s.heap.push (seqObj "list" vs.toArray 0)).get? s.heap.objs.size=some (seqObj "list" vs.toArray 0):=YAF _ rfl
  refine YAA (YAy (YBj slot_list_sort ⟨_,hoL,rfl⟩ entry_list_sort (ZiJ strKind_oneLt hoL hS.keysOf (fun v₁ v₂ rest e=>keyKind_strs (by rw[←e];exact hS)) hlen fun st' a1 a2=>⟨_,rfl,?_⟩) (args_list_sort _)))
  obtain⟨ss',b1,b2,b3⟩:=sorted_out_str hS a1 a2
  obtain⟨e,he⟩:=sortedHeap_at (out:=(arrOf st').map (·.2)) hoL
  refine YAC ⟨_,rfl,h _ ((arrOf st').map (·.2)).toList e (fun b o q=>?_) ?_ ?_⟩
  ·have hlt:=YAG q
   have hlt':b<(s.heap.push (seqObj "list" vs.toArray 0)).objs.size:=by rw[YAs];exact YCM hlt
   exact(sortedHeap_old (YAY hlt) hlt').trans (YAB _ q)
  ·have q:((arrOf st').map (·.2)).toList.toArray=(arrOf st').map (·.2):=YCq
   rw[q];exact he
  ·have p1:(ss'.map fun x=>x.cps.toList).Perm ms:=by
    have:=b2.map (fun x:Str=>x.cps.toList)
    rwa [ZgA]at this
   have e1:=ZbY p1 (Zcm b3)
   rw[←e1]
   exact Zfz b1
 ·exact hlen
theorem ZfB {S:Addr}{ls:List (List Nat)}{Q:Value→Shared→Prop}(hh:A.handled=none)(hS:TxSet prog w s.heap S ls (!Za6 w))(h64:ls.length≤sizeLine)
  (h:∀(s':Shared) (a:Addr) (us:List Value) (e:Nat),s.heap.get? a=none→(∀b o,s.heap.get? b=some o→s'.heap.get? b=some o)→s'.gens=s.gens→s'.os=s.os→s'.heap.get? a=some { cls:=.type "list",data:=.seq us.toArray e }→Vals ((ZaR ls).map tx) us→Q (.ref a) s'):
  wpAny (model prog w) A (call (.builtin "sorted") [.ref S]) Q E s:=by
 refine Calls.call_function_entry kind_sorted plain_sorted entry_sorted (args_sorted1 _) ?_
 unfold Builtin.«sorted»
 refine YAA (m:=checkCount "sorted" 1 1 _) (YAC ?_)
 refine YAA (Zdz (by first | exact hh | simpa using hh) hS h64 fun s' vs ms k1 hg ho hp hv=>?_)
 have hl:ms.length≤sizeLine:=by rw[hp.length_eq];exact h64
 refine ZdM hv hl fun h' us e k2 he r=>?_
 rw[Zc8 hp]at r
 exact h _ _ us e (by
  cases q:s.heap.get? s'.heap.objs.size with
  | none=>rfl
  | some o=>exact absurd (YAG (k1 _ _ q)) (YAt _)) (fun b o q=>k2 b o (k1 b o q)) hg ho he r
end
section
variable {X:Cx}{e:Expr}{ta:TA}{p p2 pos kpos:Pos}
theorem Zcx (hc:X.calm=true):Zch X (.builtin "sorted") (fun xs H Q=>∃a ls,xs=[.ref a]∧H a=some (.lst (ls.map tx))∧ls.length≤sizeLine∧NewL ((ZaR ls).map tx) H Q):=by
 rintro pins s σ H xs us Q I r ⟨a,ls,rfl,ha,h64,q⟩
 obtain⟨u,rfl,ru⟩:=r.one
 cases ru
 obtain⟨_,its,n,r2,hlen,eo⟩:=I.lstM ha
 have hl:(ZaR ls).length≤sizeLine:=by rw[(Zay ls).length_eq];exact h64
 have li:its.length=ls.length:=by rw[←r2.length,YAD]
 refine Calls.call_function_entry kind_sorted plain_sorted entry_sorted (args_sorted1 _) ?_
 unfold Builtin.«sorted»
 refine YAA (m:=checkCount "sorted" 1 1 _) (YAC ?_)
 refine YAA (collect_list (YCA eo) ?_ (by rw[li];exact h64))
 have sb:=YAa (s.heap.push (seqObj "list" #[] 0)) s.heap.objs.size (Obj.mapSeq (·++its.toArray))
 have k1:∀b o,s.heap.get? b=some o→((s.heap.push (seqObj "list" #[] 0)).update s.heap.objs.size (Obj.mapSeq (·++its.toArray))).get? b=some o:=fun b o e=>(sb.2 b (YAY (YAG e))).trans (YAB _ e)
 refine ZdM (s:={ s with heap:=(s.heap.push (seqObj "list" #[] 0)).update s.heap.objs.size (Obj.mapSeq (·++its.toArray)) }) r2 h64 fun h' us e k2 he rr=>?_
 generalize ((s.heap.push (seqObj "list" #[] 0)).update s.heap.objs.size (Obj.mapSeq (·++its.toArray)))=g at k1 k2 he ⊢
 have nw:s.heap.get? g.objs.size=none:=by
  cases z:s.heap.get? g.objs.size with
  | none=>rfl
  | some o=>exact absurd (YAG (k1 _ _ z)) (YAt _)
 exact⟨.ref g.objs.size,_,I.laid2 (s':={ s with heap:=h' }) (o:=.lst ((ZaR ls).map tx)) rfl rfl (fun b o z=>k2 b o (k1 b o z)) nw ⟨by rw[YAD];exact hl,us,e,rr,he⟩,rfl,q _ (I.hok.none_of nw)⟩
end
theorem Ze7 (b:Bool)(x y:Value):keyLt' (tuples' b) x y=(do
  let xs ←Builtin.List.listItems x
  let ys ←Builtin.List.listItems y
  for ((p,r),i) in (xs.toList.zip ys.toList).zipIdx do
   if !(←eqBool p r) then return ←oneLt' (b&&i == 0) p r
  return xs.size<ys.size):=rfl
noncomputable def keyT (h:Heap):Value→Int×List Nat
 | .ref a=>match h.get? a with
  | some o=>match o.data with
   | .seq xs _=>match xs.toList with
    | [.int n _,.str w _]=>(n,w.cps.toList)
    | _=>(0,[])
   | _=>(0,[])
  | none=>(0,[])
 | _=>(0,[])
noncomputable def ltP (a b:Int×List Nat):Bool:=decide (a.1<b.1) || (a.1 == b.1&&decide (a.2<b.2))
noncomputable def ltT (h:Heap) (x y:Keyed):Bool:=ltP (keyT h x.1) (keyT h y.1)
theorem ZfI {a b:Int×List Nat}:ltP a b=true↔a.1<b.1∨(a.1=b.1∧a.2<b.2):=by
 unfold ltP;simp
theorem ZhW {a b:Int×List Nat}:ltP b a=false↔a.1<b.1∨(a.1=b.1∧¬b.2<a.2):=by
 rw[←Bool.not_eq_true,ZfI]
 constructor
 ·intro h
  by_cases e:a.1=b.1
  ·exact .inr ⟨e,fun k=>h (.inr ⟨e.symm,k⟩)⟩
  ·exact .inl (by
    have:¬b.1<a.1:=fun k=>h (.inl k)
    omega)
 ·rintro (h | ⟨h,k⟩) (l | ⟨l,m⟩)
  ·omega
  ·omega
  ·omega
  ·exact k m
theorem ZkN (h:Heap):CmpT (ltT h):=by
 refine⟨fun x y _ _ e=>?_,fun x y z _ _ _ e f=>?_⟩
 ·unfold ltT at e ⊢
  rw[ZfI]at e
  rw[ZhW]
  rcases e with e | ⟨e,f⟩
  ·exact .inl e
  ·exact .inr ⟨e,List.lt_asymm f⟩
 ·unfold ltT at e f ⊢
  rw[ZhW]at e f ⊢
  rcases e with e | ⟨e,e2⟩<;>rcases f with f | ⟨f,f2⟩
  ·exact .inl (by omega)
  ·exact .inl (by omega)
  ·exact .inl (by omega)
  ·exact .inr ⟨by omega,YDA.mpr (List.le_trans (YDA.mp e2) (YDA.mp f2))⟩
noncomputable def IsT (h:Heap) (v:Value) (n:Int) (c:List Nat):Prop:=∃a t w u e,v=.ref a∧h.get? a=some (seqObj "tuple" #[.int n t,.str w u] e)∧w.cps.toList=c
theorem IsT.key {h:Heap}{v:Value}{n:Int}{c:List Nat}(k:IsT h v n c):keyT h v=(n,c):=by
 obtain⟨a,t,w,u,e,rfl,ho,rfl⟩:=k
 unfold keyT;dsimp only;rw[ho]
section
variable {prog:Program}{w:World}{A:Around}{E:Value→Shared→Prop}{s:Shared}
theorem ZgR {a b:Str}{t u:Tok}{Q:Bool→Shared→Prop}(h:Q (decide (a.cps.toList<b.cps.toList)) s):wpAny (model prog w) A (oneLt' false (.str a t) (.str b u)) Q E s:=by
 rw[oneLt'_eq]
 simp only[YBq,if_false]
 refine YAA (wpAny_richCompare_same (typeIs_str s a t) (typeIs_str s b u) slot_str_lt (call_str_lt ⟨(fun z=>nomatch z),?_⟩))
 exact YBs h
theorem Zjb:PureC (model prog w) A E s (fun p=>∃n c,IsT s.heap p.1 n c) (ltT s.heap) (tuples' true):=by
 rintro st ⟨x,p⟩ ⟨y,r⟩ Q hk ⟨n,c,hx⟩ ⟨m,d,hy⟩ q
 have e:ltT s.heap (x,p) (y,r)=ltP (n,c) (m,d):=by unfold ltT;rw[hx.key,hy.key]
 rw[e]at q
 obtain⟨a,t,v,u,ep,rfl,ho,rfl⟩:=hx
 obtain⟨b,t2,v2,u2,ep2,rfl,ho2,rfl⟩:=hy
 rw[lt'_eq]
 refine YAK (YDP ?_)
 rw[hk,Ze7]
 refine YAK (wpS_lift (YCC (YAA (listItems_at ho rfl (YAA (listItems_at ho2 rfl ?_))))))
 show wpAny _ _ (forIn [((Value.int n t,Value.int m t2),0),((Value.str v u,Value.str v2 u2),1)] _ _ >>= _) _ _ _
 rw[YBw]
 refine YAA (YAA (YAA (wpAny_eqBool_int ?_)))
 by_cases hnm:n=m
 ·subst hnm
  rw[YAJ (by simp)]
  refine YAC ?_
  dsimp only
  rw[YBw]
  refine YAA (YAA (eqBool_str ?_))
  by_cases hv:v=v2
  ·subst hv
   rw[YAJ (by simp)]
   refine YAC ?_
   dsimp only
   rw[List.forIn_nil]
   refine YAC ?_
   dsimp only
   refine YAC ⟨rfl,YAU ?_⟩
   have:ltP (n,v.cps.toList) (n,v.cps.toList)=false:=by unfold ltP;simp[List.lt_irrefl]
   rw[this]at q
   simpa using q
  ·rw[YAO (by simpa using hv)]
   refine YAA (ZgR (YAC (YAC ?_)))
   dsimp only
   refine YAC ⟨rfl,YAU ?_⟩
   have:ltP (n,v.cps.toList) (n,v2.cps.toList)=decide (v.cps.toList<v2.cps.toList):=by unfold ltP;simp
   rw[this]at q
   exact q
 ·rw[YAO (by simpa using hnm)]
  refine YAA (oneLt_int (YAC (YAC ?_)))
  dsimp only
  refine YAC ⟨rfl,YAU ?_⟩
  have:ltP (n,v.cps.toList) (m,v2.cps.toList)=decide (n<m):=by unfold ltP;simp[hnm]
  rw[this]at q
  exact q
end
section
variable {prog:Program}{w:World}{A:Around}{E:Value→Shared→Prop}{s:Shared}
theorem Zb8:∀ {vs:List Value} {Q:List (Option Value)→Shared→Prop},(∀v∈vs,∃n c,IsT s.heap v n c) →
  (∀us:List Value,us.length=vs.length→(∀u∈us,∃n t,u=.int n t)→Q (us.map some) s)→wpAny (model prog w) A (vs.mapM firstOfTuple') Q E s
 | [],Q,_,q=>by rw[List.mapM_nil];exact YAC (q [] rfl (by simp))
 | v::vs,Q,h,q=>by
  obtain⟨n,c,a,t,x,u,e,rfl,ho,rfl⟩:=h v (by simp)
  rw[List.mapM_cons]
  refine YAA ?_
  show wpAny _ _ (do
   if (←typeOf (.ref a)) != .type "tuple" then return none
   return (←Builtin.List.listItems (.ref a))[0]?) _ _ _
  refine YAA (wpAny_typeOf_ref ho ?_)
  rw[YAJ (show ¬((Value.type "tuple" != Value.type "tuple")=true) by decide)]
  refine YAA (listItems_at ho rfl (YAC ?_))
  refine YAA (Zb8 (fun v hv=>h v (by simp[hv])) fun us hl hu=>YAC ?_)
  refine q (.int n t::us) (by simp[hl]) fun u hu'=>?_
  rcases YAM.mp hu' with rfl | hu'
  ·exact⟨n,t,rfl⟩
  ·exact hu u hu'
theorem ZfM {vs:List Value}{Q:SortKind→Shared→Prop}(hv:∀v∈vs,∃n c,IsT s.heap v n c)(hne:vs≠[])(q:Q (tuples' true) s):wpAny (model prog w) A (keyKind' vs.toArray) Q E s:=by
 rw[keyKind'_eq,List.mapM_toArray,map_eq_pure_bind,bind_assoc]
 refine YAA (Zb8 hv fun us hl hu=>?_)
 rw[pure_bind,YAO (by simp)]
 refine YAA (YBt ?_)
 have hI:IntsAre us (us.map numOf):=intsAre_map us hu
 have e1:((us.map some).toArray.filterMap id)=us.toArray:=by simp
 rw[e1,oneTypeOnly'_eq,List.mapM_toArray,mapM_typeOf_ints hI]
 cases us with
 | nil=>
  cases vs with
  | nil=>exact absurd rfl hne
  | cons v vs=>simp at hl
 | cons u us=>
  simp only[map_pure,pure_bind]
  have h0:(List.map (fun _=>Value.type "int") (u::us)).toArray[0]?=some (Value.type "int"):=by simp
  have hall:((List.map (fun _=>Value.type "int") (u::us)).toArray.all fun z=>z == Value.type "int")=true:=by
   rw[List.all_toArray,List.all_map,YBE]
   exact fun _ _=>rfl
  rw[h0]
  simp only[hall,if_true,pure_bind]
  exact YAC q
end
theorem ZgJ (a g:Addr):Builtin.«list.sort» ⟨[.ref a],[(Str.ofString "key",.ref g)]⟩=(do
  let its ←Builtin.List.listItems (.ref a)
  Builtin.List.listUpdate (.ref a) fun _=>#[]
  let be ←seqEpoch a
  let hd ←newTuple its.toList
  let ks ←newList []
  holding [hd,ks] do
   rule "list.sort.key"
   for x in its do
    match ←(call (.ref g) [x]).attempt with
    | .ok k=>Builtin.List.listUpdate ks (·.push k)
    | .error e=>
     rule "list.sort.key-raised"
     let md ←Builtin.List.listItems ks
     Builtin.List.listUpdate ks fun _=>#[]
     letGo md.toList.reverse [e]
     Builtin.List.listUpdate (.ref a) fun _=>its
     throw e
   let kys ←Builtin.List.listItems ks
   let kind ←if its.size<2 then pure general' else keyKind' kys
   let ((),v) ←(if its.size<2 then pure () else sortRuns').run (SortSt.mk' kind (kys.zip its) #[] 7 none)
   Builtin.List.listUpdate ks fun _=>#[]
   letGo ((arrOf v).map (·.1)).toList (failedOf v).toList
   let tch:=(←seqEpoch a) != be
   Builtin.List.listUpdate (.ref a) fun _=>(arrOf v).map (·.2)
   if let some e:=failedOf v then rule "list.sort.comparison-raised";throw e
   if tch then rule "list.sort.modified";raiseError "ValueError" "list modified during sort"
   ret .none):=rfl
noncomputable def Kp (h g:Heap):Prop:=∀b o,h.get? b=some o→g.get? b=some o
noncomputable def KeyCall (M:Model) (A:Around) (g:Addr) (vs:List Value) (kf:Value→Int×List Nat) (s:Shared):Prop:=
 ∀(E:Value→Shared→Prop) (s':Shared) (v:Value) (Q:Value→Shared→Prop),v∈vs→Kp s.heap s'.heap→s'.gens=s.gens→s'.os=s.os →
  (∀(s2:Shared) (k:Value),Kp s'.heap s2.heap→s2.gens=s'.gens→s2.os=s'.os→IsT s2.heap k (kf v).1 (kf v).2→Q k s2)→wpAny M A (call (.ref g) [v]) Q E s'
theorem IsT.kp {h g:Heap}{v:Value}{n:Int}{c:List Nat}(k:IsT h v n c)(q:Kp h g):IsT g v n c:=by
 obtain⟨a,t,w,u,e,h1,h2,h3⟩:=k
 exact⟨a,t,w,u,e,h1,q _ _ h2,h3⟩
theorem IsT.up {h:Heap} {v:Value} {n:Int} {c:List Nat} {K:Addr} {xs:Array Value} {m:Nat} {f:Obj→Obj} (k:IsT h v n c) (hK:h.get? K=some (seqObj "list" xs m)):IsT (h.update K f) v n c:=by
 obtain⟨a,t,w,u,e,h1,h2,h3⟩:=k
 refine⟨a,t,w,u,e,h1,?_,h3⟩
 rw[(YAa h K f).2 a ?_]
 ·exact h2
 ·rintro rfl
  rw[h2]at hK
  have:=congrArg Obj.cls (Option.some.inj hK)
  exact absurd (show Value.type "tuple"=Value.type "list" from this) (by decide)
noncomputable def KeysAre (h:Heap) (kf:Value→Int×List Nat) (ks vs:List Value):Prop:=ks.length=vs.length∧∀(i:Nat) (k v:Value),ks[i]?=some k→vs[i]?=some v→IsT h k (kf v).1 (kf v).2
section
variable {prog:Program}{w:World}{A:Around}{E:Value→Shared→Prop}{s:Shared}
theorem Zh3 {g K a:Addr}{vs:List Value}{kf:Value→Int×List Nat}{oa:Obj}{Q:PUnit→Shared→Prop}{er:Value→Sem (ForInStep PUnit)}(hc:KeyCall (model prog w) A g vs kf s)(hK0:s.heap.get? K=none)(ha0:a≠K)(hN:vs.length≤sizeLine)
  (q:∀(s2:Shared) ks n,Kp s.heap s2.heap→s2.gens=s.gens→s2.os=s.os→s2.heap.get? K=some (seqObj "list" ks.toArray n)→KeysAre s2.heap kf ks vs→s2.heap.get? a=some oa→Q ⟨⟩ s2):
  ∀(l dn ks:List Value) (s':Shared) (n:Nat),vs=dn++l→Kp s.heap s'.heap→s'.gens=s.gens→s'.os=s.os→s'.heap.get? K=some (seqObj "list" ks.toArray n)→KeysAre s'.heap kf ks dn→s'.heap.get? a=some oa →
   wpAny (model prog w) A (forIn l PUnit.unit fun x _=>do
    match ←(call (.ref g) [x]).attempt with
    | .ok k=>do
     Builtin.List.listUpdate (.ref K) (·.push k)
     pure (ForInStep.yield PUnit.unit)
    | .error e=>er e) Q E s'
 | [],dn,ks,s',n,hv,h1,h2,h3,h4,h5,h6=>by
  rw[YCh]at hv
  subst hv
  rw[List.forIn_nil]
  exact YAC (q s' ks n h1 h2 h3 h4 h5 h6)
 | x::l,dn,ks,s',n,hv,h1,h2,h3,h4,h5,h6=>by
  rw[YBw]
  refine YAA (YAA (YCC (hc _ s' x _ (by rw[hv];simp) h1 h2 h3 fun s2 k k1 k2 k3 k4=>?_)))
  have hlen:ks.length<vs.length:=by rw[h5.1,hv];simp
  have hK2:=k1 _ _ h4
  refine YAA (listUpdate_at hK2 rfl (YAC ?_) (hsz:=by rw[YAH];omega) (hsz2:=by rw[Array.size_push,YAH];omega))
  dsimp only
  have sb:=YAa s2.heap K (Obj.mapSeq fun z=>z.push k)
  refine Zh3 hc hK0 ha0 hN q l (dn++[x]) (ks++[k]) _ _ (by rw[hv];simp) ?_ (k2.trans h2) (k3.trans h3) (by
   have:=get?_update_seq hK2 (fun z=>z.push k)
   rw[List.push_toArray]at this
   exact this) ?_ ?_
  ·intro b o hb
   refine(sb.2 b ?_).trans (k1 b o (h1 b o hb))
   rintro rfl
   rw[hK0]at hb;cases hb
  ·refine⟨by simp[h5.1],fun i k' v' e1 e2=>?_⟩
   by_cases hi:i<ks.length
   ·rw[YAr hi]at e1
    rw[YAr (by rw[←h5.1];exact hi)]at e2
    exact((h5.2 i k' v' e1 e2).kp k1).up hK2
   ·have hi2:i=ks.length:=by
     have:=(YAW.mp e1).1
     simp at this;omega
    subst hi2
    rw[YAn (YAP _),Nat.sub_self]at e1
    rw[h5.1,YAn (YAP _),Nat.sub_self]at e2
    cases e1;cases e2
    exact k4.up hK2
  ·exact(sb.2 a ha0).trans (k1 a oa h6)
end
section
variable {prog:Program}{w:World}{A:Around}{E:Value→Shared→Prop}{s s0:Shared}
theorem Zfs {h:Heap}{kf:Value→Int×List Nat}{ks vs:List Value}(hk:KeysAre h kf ks vs){p:Keyed}(hp:p∈ks.zip vs):keyT h p.1=kf p.2∧∃n c,IsT h p.1 n c:=by
 obtain⟨i,hi,rfl⟩:=YCu hp
 rw[List.length_zip]at hi
 have h1:i<ks.length:=by omega
 have h2:i<vs.length:=by omega
 have:=hk.2 i ks[i] vs[i] (YAL h1) (YAL h2)
 rw[List.getElem_zip]
 exact⟨this.key,_,_,this⟩
theorem ZgI {a g:Addr}{vs:List Value}{kf:Value→Int×List Nat}{n:Nat}{P:Fin→Shared→Prop}(hc:KeyCall (model prog w) A g vs kf s0)(hb:Kp s0.heap s.heap)(hg:s.gens=s0.gens)(hos:s.os=s0.os)(ha0:s0.heap.get? a=none)
  (ho:s.heap.get? a=some (seqObj "list" vs.toArray n)) (hN:vs.length≤sizeLine)
  (h:∀(s':Shared) (us:List Value) (e:Nat),Kp s0.heap s'.heap→s'.gens=s0.gens→s'.os=s0.os→s'.heap.get? a=some (seqObj "list" us.toArray e)→us.Perm vs→us.Pairwise (fun x y=>ltP (kf y) (kf x)=false)→P (.done (.ret .none)) s'):
  wpAny (model prog w) A (Builtin.«list.sort» ⟨[.ref a],[(Str.ofString "key",.ref g)]⟩) P E s:=by
 have hlt:a<s.heap.objs.size:=YAG ho
 have up:=get?_update_seq ho (fun _=>#[])
 generalize hep:(if (#[]:Array Value).size == vs.toArray.size then n else n+1)=ep at up
 obtain⟨h1,hh1⟩:∃h1,h1=s.heap.update a (Obj.mapSeq fun _=>#[]):=⟨_,rfl⟩
 have k1:Kp s0.heap h1:=by
  intro b o q
  rw[hh1,(YAa s.heap a _).2 b ?_]
  ·exact hb b o q
  ·rintro rfl;rw[ha0]at q;cases q
 rw[←hh1]at up
 obtain⟨K,hK⟩:∃K,K=(h1.push (seqObj "tuple" vs.toArray 0)).objs.size:=⟨_,rfl⟩
 obtain⟨h3,hh3⟩:∃h3,h3=(h1.push (seqObj "tuple" vs.toArray 0)).push (seqObj "list" #[] 0):=⟨_,rfl⟩
 have k3:Kp h1 h3:=fun b o q=>by rw[hh3];exact YAB _ (YAB _ q)
 have oK:h3.get? K=some (seqObj "list" #[] 0):=by rw[hh3,hK];exact YAF _ rfl
 have nK:s0.heap.get? K=none:=by
  cases z:s0.heap.get? K with
  | none=>rfl
  | some o=>
   have:=YAG (k1 _ _ z)
   rw[hK,size_push']at this
   exact absurd this (Nat.not_lt.mpr (YCe _))
 have aK:a≠K:=by
  rintro rfl
  have h8:=YAG up
  rw[hK,size_push']at h8
  exact absurd h8 (Nat.not_lt.mpr (YCe _))
 subst hK
 rw[ZgJ]
 refine YAA (listItems_at ho rfl (YAA (listUpdate_at ho rfl ?_ (hsz:=by rw[YAH];exact hN))))
 rw[←hh1]
 refine YAA (seqEpoch_at up rfl (YAA (wpAny_newTuple (YAA (YDN (YAy ?_))))))
 refine YAA (YBt ?_)
 rw[List.forIn_toArray]
 show wpAny _ _ _ _ _ { s with heap:=(h1.push (seqObj "tuple" vs.toArray 0)).push (seqObj "list" #[] 0) }
 rw[←hh3]
 refine YAA (Zh3 hc nK aK hN ?_ vs [] [] { s with heap:=h3 } 0 rfl (fun b o q=>k3 b o (k1 b o q)) hg hos oK ⟨rfl,fun i k v e _=>by simp at e⟩ (k3 a _ up))
 intro s2 ks m j1 j2 j3 j4 j5 j6
 dsimp only
 refine YAA (listItems_at j4 rfl ?_)
 have fin:∀v:SortSt,failedOf v=none→((arrOf v).map (·.2)).toList.Perm vs→((arrOf v).map (·.2)).toList.Pairwise (fun x y=>ltP (kf y) (kf x)=false) →
   wpAny (model prog w) A (do
    Builtin.List.listUpdate (.ref (h1.push (seqObj "tuple" vs.toArray 0)).objs.size) fun _=>#[]
    letGo ((arrOf v).map (·.1)).toList (failedOf v).toList
    let tch:=(←seqEpoch a) != ep
    Builtin.List.listUpdate (.ref a) fun _=>(arrOf v).map (·.2)
    if let some e:=failedOf v then rule "list.sort.comparison-raised";throw e
    if tch then rule "list.sort.modified";raiseError "ValueError" "list modified during sort"
    ret .none) P E s2:=by
  intro v f1 f2 f3
  have hl:=j5.1
  refine YAA (listUpdate_at j4 rfl (YAA (YDS ?_)) (hsz:=by rw[YAH];omega))
  have sb:=YAa s2.heap (h1.push (seqObj "tuple" vs.toArray 0)).objs.size (Obj.mapSeq fun _=>#[])
  have a1:(s2.heap.update (h1.push (seqObj "tuple" vs.toArray 0)).objs.size (Obj.mapSeq fun _=>#[])).get? a=some (seqObj "list" #[] ep):=(sb.2 a aK).trans j6
  refine YAA (seqEpoch_at a1 rfl (YAA (listUpdate_at a1 rfl ?_ (hsz2:=by
   have:=f2.length_eq
   rw[YAN]at this
   omega))))
  rw[f1,bne_self_eq_false]
  obtain⟨out,hout⟩:∃out,out=(arrOf v).map (·.2):=⟨_,rfl⟩
  rw[←hout]at f2 f3 ⊢
  have a2:=get?_update_seq a1 (fun _=>out)
  generalize (if out.size == (#[]:Array Value).size then ep else ep+1)=e5 at a2
  have e3:out.toList.toArray=out:=YCq
  refine YAC (h _ out.toList e5 ?_ j2 j3 (by rw[e3];exact a2) f2 f3)
  intro b o q
  refine((YAa _ a _).2 b ?_).trans ((sb.2 b ?_).trans (j1 b o q))
  ·rintro rfl;rw[ha0]at q;cases q
  ·rintro rfl;rw[nK]at q;cases q
 have zs:(ks.toArray.zip vs.toArray)=(ks.zip vs).toArray:=by simp
 have zm:((ks.zip vs).map (·.2))=vs:=List.map_snd_zip (by rw[j5.1];exact YAP _)
 by_cases h2:vs.toArray.size<2
 ·rw[YAO h2,YAO h2]
  refine YAA (YAC ?_)
  rw[StateT.run_pure]
  refine YAA (YAC ?_)
  refine fin (SortSt.mk' general' (ks.toArray.zip vs.toArray) #[] 7 none) rfl ?_ ?_
  ·show ((ks.toArray.zip vs.toArray).map (·.2)).toList.Perm vs
   rw[zs,Array.toList_map,zm]
  ·show ((ks.toArray.zip vs.toArray).map (·.2)).toList.Pairwise _
   rw[zs,Array.toList_map,zm]
   match vs,h2 with
   | [],_=>exact List.Pairwise.nil
   | [x],_=>exact List.pairwise_singleton _ _
   | _::_::_,h2=>simp at h2;omega
 ·rw[YAJ h2,YAJ h2]
  have hne:ks≠[]:=by
   intro e
   have:=j5.1
   rw[e]at this
   rw[YAH,←this]at h2
   simp at h2
  refine YAA (ZfM (fun v hv=>?_) hne ?_)
  ·obtain⟨i,hi,rfl⟩:=YCu hv
   have h2:i<vs.length:=by rw[←j5.1];exact hi
   exact⟨_,_,j5.2 i ks[i] vs[i] (YAL hi) (YAL h2)⟩
  ·refine YAA (YBB (Zhx (a0:=ks.zip vs) (st:=SortSt.mk' (tuples' true) (ks.toArray.zip vs.toArray) #[] 7 none) (Q:=fun _ v=>(arrOf v).toList.Perm (ks.zip vs)∧(arrOf v).toList.Pairwise (Le (ltT s2.heap))∧failedOf v=none)
    (ZkN _) Zjb (fun u hu=>(Zfs j5 hu).2) rfl rfl rfl (by show (ks.toArray.zip vs.toArray).toList=_;rw[zs]) fun v p1 p2 p3=>⟨p1,p2,p3⟩) ?_ fun _ _ e=>e)
   rintro⟨⟨⟩,v⟩ s3 ⟨rfl,p1,p2,p3⟩
   refine fin v p3 ?_ ?_
   ·rw[Array.toList_map]
    have:=p1.map (fun p:Keyed=>p.2)
    rw[zm]at this
    exact this
   ·rw[Array.toList_map,YBm]
    refine p2.imp_of_mem fun {x y} hx hy e=>?_
    have e1:=(Zfs j5 (p1.mem_iff.mp hx)).1
    have e2:=(Zfs j5 (p1.mem_iff.mp hy)).1
    have e':ltP (keyT s3.heap y.1) (keyT s3.heap x.1)=false:=e
    rw[e1,e2]at e'
    exact e'
end
section
variable {X:Cx}{k:Nat}{f C:Addr}{fd:FuncData}{ps:List Str}{sp:Sp}{dvs:List V}{ds:List Value}{x m:Str}{p pos apos:Pos}{e o:Expr}{es:List Expr}{ta:TE}{t:TA}
def ZlA (C:Addr)(m:Str)(sp:Sp)(dvs:List V)(ta:TE)(t:TA):TX:=fun σ H Q E=>ta σ H fun x H1=>∃a dx fs,x=.ref a∧H1 a=some (.ins C dx fs)∧fs.lookup m=none∧t σ H1 fun vs H2=>sp (x::(vs++dvs)) H2 Q E
def ZlB (C:Addr)(sp:Sp)(dvs:List V)(t:TA):TX:=fun σ H Q E=>t σ H fun vs H1=>∀x dx,H1 x=none→H1 dx=none→dx≠x→sp (.ref x::(vs++dvs)) (upd (upd H1 dx (.own x)) x (.ins C dx [])) (fun v H2=>v=.non∧Q (.ref x) H2) E
end
def EN:XK:=fun _ _ _=>False
theorem ZbR {X:Cx}:ZbD (CXr X.prog X.w) X EN:=fun _ _ _ _ _ _ _ ⟨_,_,_,_,_,_,_,_,_,_,_,_,_,_,_,z⟩=>z.elim
section
variable {X:Cx}
def ZlX (t u:TSx):TSx:=fun D Ex σ H=>t { D with nx:=fun σ1 H1=>u D Ex σ1 H1 } Ex σ H
end
section
variable {X:Cx}{pins:List (Addr×Obj)}{σ:St}{H:Hp}{s:Shared}
end
theorem Zo8 {P:Program}{w:World}{k:Key}{u:Value}(h:(ZaL P w).is k u=true):RelV (kV k) u:=by
 cases k with
 | inl i=>
  have h':(intKind P w).is i u=true:=h
  cases u<;>first | (exact absurd h' YAE) | skip
  rename_i j t
  have e:(i == j)=true∨(j == i)=true:=by first | exact .inl h' | exact .inr h'
  rcases e with e | e
  ·exact⟨t,by rw[beq_iff_eq.mp e]⟩
  ·exact⟨t,by rw[beq_iff_eq.mp e]⟩
 | inr x=>
  have h':(strKind P w).is x u=true:=h
  cases u<;>first | (exact absurd h' YAE) | skip
  rename_i j t
  have e:(x == j)=true∨(j == x)=true:=by first | exact .inl h' | exact .inr h'
  rcases e with e | e
  ·exact⟨t,by rw[beq_iff_eq.mp e]⟩
  ·exact⟨t,by rw[beq_iff_eq.mp e]⟩
def Itd (o:Obj)(kvs:List (Key×V))(a:Addr):It:=
 ⟨fun i H=>H a=some (.frz o (.dK kvs))∧i<kvs.length,fun i H x H'=>H'=H∧∃p,kvs[i]?=some p∧x=kV p.1,fun i H=>H a=some (.frz o (.dK kvs))∧kvs.length≤i⟩
section
variable {X:Cx}{tg:Expr}
def Zpa (td:TE):TI:=fun σ H R=>td σ H fun x H1=>∃a kvs,x=.ref a∧H1 a=some (.dK kvs)∧∀o,R (Itd o kvs a) (upd H1 a (.frz o (.dK kvs)))
def Thw (a:Addr)(P:Hp→Prop)(H':Hp):Prop:=∃o kvs,H' a=some (.frz o (.dK kvs))∧P (upd H' a (.dK kvs))
def thD (a:Addr)(D:Ends):Ends:={ nx:=fun σ H=>Thw a (D.nx σ) H,rt:=fun v H=>Thw a (D.rt v) H,bk:=fun σ H=>Thw a (D.bk σ) H,ct:=fun σ H=>Thw a (D.ct σ) H }
def ZoB (ts:TS):TS:=fun D σ H=>∃a kvs,H a=some (.dK kvs)∧ts (thD a D) σ H
def Znw (t:TE):TE:=fun σ H Q=>∃a kvs,H a=some (.dK kvs)∧t σ H fun v H'=>Thw a (Q v) H'
end
section
variable {g:TG}{tb:TS}{D:Ends}{σ:St}{H:Hp}{o:Obj}{kvs:List (Key×V)}{a:Addr}
end
theorem Zc4:∀ {vs:List V} {us:List Value},vs.length=us.length→(∀(i:Nat) (x:V) (u:Value),vs[i]?=some x→us[i]?=some u→RelV x u)→Vals vs us
 | [],[],_,_=>.nil
 | [],_::_,h,_=>by simp at h
 | _::_,[],h,_=>by simp at h
 | x::vs,u::us,h,r=>.cons (r 0 x u rfl rfl) (Zc4 (by simpa using h) fun i y v h1 h2=>r (i+1) y v h1 h2)
section
variable {prog:Program}{w:World}{A:Around}{E:Value→Shared→Prop}{s:Shared}
end
def kTx (l:List Nat):Key:=.inr ⟨l.toArray⟩
section
variable {X:Cx}
end
def wordsOf (l:List Nat)(n:Nat):List (List Nat):=ZaR (ddl ((List.range (l.length+1-n)).map fun i=>(l.drop i).take n))
theorem Zb7 {x:List Nat}:∀(ls acc:List (List Nat)),x∈ls.foldl addT acc↔x∈acc∨x∈ls
 | [],acc=>by simp
 | y::ls,acc=>by
  rw[YCg,Zb7 ls]
  have h:x∈addT acc y↔x∈acc∨x=y:=by
   unfold addT
   split
   ·rename_i h
    constructor
    ·exact .inl
    ·rintro (q | q)
     ·exact q
     ·rw[q];exact h
   ·rw[YAf,YAX]
  rw[h,YAM,or_assoc]
theorem ZfH {x:List Nat}{ls:List (List Nat)}:x∈ddl ls↔x∈ls:=by
 unfold ddl
 rw[Zb7]
 simp
theorem ZhS (ls:List (List Nat)):(ddl ls).Nodup:=by rw[←Zes];exact Zcw _
end L2
namespace L2
open PySem PySem.Spec PyProof.Rows
open PySem.W (Frag)
def AtW (l w:List Nat)(i:Nat):Prop:=i+w.length≤l.length∧(l.drop i).take w.length=w
def Inf (w l:List Nat):Prop:=∃i,AtW l w i
theorem ZbL (l w:List Nat)(i:Nat):StrLaws.At ⟨l.toArray⟩ ⟨w.toArray⟩ (⟨l.toArray⟩:Str).length i↔AtW l w i:=by
 have e1:(⟨l.toArray⟩:Str).length=l.length:=Zc6 l
 have e2:(⟨w.toArray⟩:Str).length=w.length:=Zc6 w
 unfold StrLaws.At AtW Builtin.Str.subAt
 rw[e1,e2]
 refine and_congr_right fun h=>?_
 have e3:l.toArray.extract i (i+w.length)=((l.drop i).take w.length).toArray:=by
  apply Array.ext'
  simp only[List.extract_toArray,List.extract_eq_take_drop]
  have:i+w.length-i=w.length:=by omega
  rw[this]
 show (l.toArray.extract i (i+w.length) == w.toArray)=true↔_
 rw[e3,beq_iff_eq]
 exact⟨fun z=>by simpa using congrArg Array.toList z,fun z=>by rw[z]⟩
theorem AtW.nil (l:List Nat):AtW l [] 0:=⟨by simp,by simp⟩
theorem Inf.nil (l:List Nat):Inf [] l:=⟨0,AtW.nil l⟩
theorem Inf.len {w l:List Nat}(h:Inf w l):w.length≤l.length:=by obtain⟨i,h,_⟩:=h;omega
theorem Inf.mem {w l:List Nat}(h:Inf w l){c:Nat}(hc:c∈w):c∈l:=by
 obtain⟨i,_,h⟩:=h
 rw[←h]at hc
 exact YAc (YAb hc)
theorem Inf.refl (l:List Nat):Inf l l:=⟨0,by simp,by simp⟩
theorem AtW.trans {u v w:List Nat}{i j:Nat}(h1:AtW v u i)(h2:AtW w v j):AtW w u (j+i):=by
 obtain⟨a1,b1⟩:=h1
 obtain⟨a2,b2⟩:=h2
 refine⟨by omega,?_⟩
 have e:(w.drop (j+i)).take u.length=((((w.drop j).take v.length).drop i).take u.length):=by
  rw[List.drop_take,YCr,YCX]
  congr 1
  omega
 rw[e,b2,b1]
theorem Inf.trans {u v w:List Nat}(h1:Inf u v)(h2:Inf v w):Inf u w:=by
 obtain⟨i,h1⟩:=h1
 obtain⟨j,h2⟩:=h2
 exact⟨_,h1.trans h2⟩
theorem Zgq (w:List Nat):Inf w.tail w:=by
 cases w with
 | nil=>exact Inf.nil _
 | cons c w=>exact⟨1,by simp;omega,by simp⟩
theorem Zgr (w:List Nat):Inf w.dropLast w:=⟨0,by simp,by rw[YBU,YBL,YDF]⟩
theorem Zk2 {v w:List Nat}(h:Inf v w)(hl:v.length<w.length):Inf v w.dropLast∨Inf v w.tail:=by
 obtain⟨i,h1,h2⟩:=h
 cases i with
 | zero=>
  refine .inl ⟨0,by rw[YBL];omega,?_⟩
  rw[YBU]at h2 ⊢
  rw[YDF,YCX]
  have:min v.length (w.length-1)=v.length:=by omega
  rw[this];exact h2
 | succ i=>
  refine .inr ⟨i,by rw[List.length_tail];omega,?_⟩
  rw[List.drop_tail];exact h2
theorem ZjV {v w:List Nat}(h:Inf v w)(hl:w.length≤v.length):v=w:=by
 obtain⟨i,h1,h2⟩:=h
 have hi:i=0:=by omega
 subst hi
 rw[YBU,YAo hl]at h2
 exact h2.symm
theorem ZaD {l x:List Nat}{n:Nat}(hn:n≤l.length+1):x∈wordsOf l n↔x.length=n∧Inf x l:=by
 unfold wordsOf
 rw[(Zay _).mem_iff,ZfH,YBX]
 constructor
 ·rintro⟨i,hi,rfl⟩
  have hi:=YAq.mp hi
  have hl:((l.drop i).take n).length=n:=by rw[YAV,YAm];omega
  exact⟨hl,i,by omega,by rw[hl]⟩
 ·rintro⟨rfl,i,h1,h2⟩
  exact⟨i,YAq.mpr (by omega),h2⟩
theorem Zft (l:List Nat)(n:Nat):(wordsOf l n).length≤l.length+1:=by
 unfold wordsOf
 rw[(Zay _).length_eq]
 have:∀(ls acc:List (List Nat)),(ls.foldl addT acc).length≤acc.length+ls.length:=by
  intro ls
  induction ls with
  | nil=>intro acc;simp
  | cons x ls ih=>
   intro acc
   rw[YCg]
   refine YAQ (ih _) ?_
   unfold addT
   split<;>simp<;>omega
 have h:=this ((List.range (l.length+1-n)).map fun i=>(l.drop i).take n) []
 rw[YAD,YBb]at h
 unfold ddl
 simp only[List.length_nil]at h
 omega
def ZmK (sh st:List (List Nat))(h:List Nat)(c:Nat):Bool:=decide ((h++[c]).tail∈sh)&&!decide (h++[c]∈st)
def Zg2 (sh st:List (List Nat))(m h:List Nat):List (List Nat):=(m.filter (ZmK sh st h)).map fun c=>h++[c]
def Ze6 (sh st:List (List Nat))(m:List Nat):List (List Nat):=sh.flatMap (Zg2 sh st m)
def Ze4 (l m:List Nat)(i:Nat):List (List Nat):=(List.range i).flatMap fun k=>Ze6 (wordsOf l k) (wordsOf l (k+1)) m
def ZaI (l m:List Nat):List (List Nat):=Ze4 l m (l.length+1)
theorem Zh0 (sh st:List (List Nat))(m h:List Nat):(Zg2 sh st m h).length≤m.length:=by unfold Zg2;rw[YAD];exact YBQ _ _
theorem Zcc {α β:Type}{f:α→List β}{b:Nat}(h:∀x,(f x).length≤b):∀l:List α,(l.flatMap f).length≤l.length*b
 | []=>by simp
 | x::l=>by
  rw[List.flatMap_cons,YAI,YAp,Nat.succ_mul]
  have:=h x
  have:=Zcc h l
  omega
theorem Zh2 (sh st:List (List Nat))(m:List Nat):(Ze6 sh st m).length≤sh.length*m.length:=Zcc (Zh0 sh st m) sh
theorem Zdl {sh st:List (List Nat)}{m w:List Nat}:w∈Ze6 sh st m↔∃h c,h∈sh∧c∈m∧w=h++[c]∧w.tail∈sh∧w∉st:=by
 unfold Ze6 Zg2 ZmK
 simp only[List.mem_flatMap,YBX,YBv,YAT,Bool.not_eq_true',decide_eq_true_iff,decide_eq_false_iff_not]
 constructor
 ·rintro⟨h,hh,c,⟨hc,h1,h2⟩,rfl⟩;exact⟨h,c,hh,hc,rfl,h1,h2⟩
 ·rintro⟨h,c,hh,hc,rfl,h1,h2⟩;exact⟨h,hh,c,⟨hc,h1,h2⟩,rfl⟩
structure Miss (l w:List Nat):Prop where
 ne:w≠[]
 init:Inf w.dropLast l
 tail:Inf w.tail l
 no:¬Inf w l
theorem ZaV {l m w:List Nat}:w∈ZaI l m↔Miss l w∧∃c∈m,w.getLast?=some c:=by
 unfold ZaI Ze4
 rw[List.mem_flatMap]
 constructor
 ·rintro⟨k,hk,hw⟩
  have hk:=YAq.mp hk
  obtain⟨h,c,h1,hc,rfl,h3,h4⟩:=Zdl.mp hw
  rw[ZaD (by omega)]at h1 h3
  refine⟨⟨by simp,by simpa using h1.2,h3.2,fun z=>h4 ((ZaD (by omega)).mpr ⟨by simp[h1.1],z⟩)⟩,c,hc,by simp⟩
 ·rintro⟨⟨ne,hi,ht,hn⟩,c,hc,hl⟩
  have e:w.dropLast++[c]=w:=by
   rw[YCV ne]at hl
   have h:=YDO ne
   rw[Option.some.inj hl]at h
   exact h
  have hlen:w.dropLast.length=w.length-1:=YBL
  have h1:1≤w.length:=YBn.mpr ne
  refine⟨w.length-1,YAq.mpr (by have:=hi.len;omega),Zdl.mpr ⟨w.dropLast,c,?_,hc,e.symm,?_,?_⟩⟩
  ·rw[ZaD (by have:=hi.len;omega)];exact⟨hlen,hi⟩
  ·rw[ZaD (by have:=hi.len;omega)];exact⟨List.length_tail,ht⟩
  ·rw[ZaD (by have:=hi.len;omega)];exact fun z=>hn z.2
theorem same_upd3' {H H2:Hp}{e:Addr}{o':HO}(h:H e=none)(s:Same H H2):Same H (upd H2 e o'):=fun b u hb=>by
 have:b≠e:=fun z=>by rw[z,h]at hb;cases hb
 rw[Zaf this];exact s _ _ hb
section
variable {tt:TT}{te:TE}{Q:VK}{τ0:St}{H:Hp}{K:Frag}{a:Addr}{xs:List V}
theorem CompRun.listL (b:Nat→Bool)(f:Nat→V)(hz:xs.length≤100000)(hx:SqL K H a xs)
  (ht:∀i H' Q' (h:i<xs.length),Same H H'→(∀H'',Same H' H''→Q' (b i) H'')→tt (τ0.set 0 (some (xs.getD i .non))) H' Q')
  (he:∀i H' Q' (h:i<xs.length),b i=true→Same H H'→(∀H'',Same H' H''→Q' (f i) H'')→te (τ0.set 0 (some (xs.getD i .non))) H' Q')
  (hQ:∀p H',Same H H'→H p=none→H' p=some (.lst (((List.range xs.length).filter b).map f))→Q (.ref p) H'):CompRun (Itl K a) τ0 (ZcR 0) tt te H Q:=by
 intro acc ha
 refine⟨fun i m τ H2=>i≤xs.length∧m=xs.length-i∧(∀w:Option V,τ.set 0 w=τ0.set 0 w)∧Same H H2∧H2 acc=some (.lst (((List.range i).filter b).map f)),⟨xs.length,YBI _,rfl,fun _=>rfl,ZaF ha,Zae⟩,?_⟩
 rintro i m τ H2 ⟨hi,rfl,hτ,hs,hacc⟩
 by_cases hlt:i<xs.length
 ·refine .inr ⟨⟨xs,xs[i],hs.seq hx,by simp[hlt]⟩,fun τ' H'=>(∀w:Option V,τ'.set 0 w=τ0.set 0 w)∧Same H H'∧H' acc=some (.lst (((List.range (i+1)).filter b).map f)),fun τ' H' q=>⟨xs.length-(i+1),by omega,hlt,rfl,q⟩,fun x H3 y=>?_⟩
  obtain⟨rfl,y⟩:=y
  have ex:x=xs.getD i .non:=by rw[YAR,y xs (hs.seq hx)];rfl
  subst ex
  show tt (τ.set 0 (some (xs.getD i .non))) _ _
  rw[hτ]
  have hτ':∀w:Option V,(τ0.set 0 (some (xs.getD i .non))).set 0 w=τ0.set 0 w:=fun w=>by rw[List.set_set]
  refine ht i _ _ hlt hs fun H4 s4=>?_
  cases hb:b i with
  | false=>
   rw[YAJ YAE]
   refine⟨hτ',hs.trans s4,?_⟩
   rw[s4 _ _ hacc,YCf,YDb]
   simp[hb]
  | true=>
   rw[YAO rfl]
   refine he i _ _ hlt hb (hs.trans s4) fun H5 s5=>⟨_,s5 _ _ (s4 _ _ hacc),?_,hτ',same_upd3' ha ((hs.trans s4).trans s5),?_⟩
   ·rw[YAD]
    have:=YBQ b (List.range i)
    rw[YBb]at this
    rw[sizeLine_eq];omega
   ·rw[Zae,YCf,YDb]
    simp[hb]
 ·have e:i=xs.length:=by omega
  subst e
  exact .inl ⟨⟨xs,hs.seq hx,YAP _⟩,hQ acc H2 hs ha hacc⟩
theorem CompRun.tups (P:Nat→List V→Prop)(hz:xs.length≤100000)(hx:SqL K H a xs)
  (he:∀i H' Q' (h:i<xs.length),Same H H'→(∀p vs H'',Same H' H''→H'' p=some (.tup vs)→P i vs→Q' (.ref p) H'')→te (τ0.set 0 (some (xs.getD i .non))) H' Q')
  (hQ:∀p ys H',Same H H'→H p=none→H' p=some (.lst ys)→ys.length=xs.length→(∀i y,ys[i]?=some y→∃t vs,y=.ref t∧H' t=some (.tup vs)∧P i vs)→Q (.ref p) H'):CompRun (Itl K a) τ0 (ZcR 0) tAll te H Q:=by
 intro acc ha
 refine⟨fun i m τ H2=>i≤xs.length∧m=xs.length-i∧(∀w:Option V,τ.set 0 w=τ0.set 0 w)∧Same H H2∧∃ys,H2 acc=some (.lst ys)∧ys.length=i∧∀i y,ys[i]?=some y→∃t vs,y=.ref t∧H2 t=some (.tup vs)∧P i vs,
  ⟨xs.length,YBI _,rfl,fun _=>rfl,ZaF ha,[],Zae,rfl,fun i y h=>by simp at h⟩,?_⟩
 rintro i m τ H2 ⟨hi,rfl,hτ,hs,ys,hacc,hlen,hall⟩
 by_cases hlt:i<xs.length
 ·refine .inr ⟨⟨xs,xs[i],hs.seq hx,by simp[hlt]⟩,fun τ' H'=>(∀w:Option V,τ'.set 0 w=τ0.set 0 w)∧Same H H'∧∃ys,H' acc=some (.lst ys)∧ys.length=i+1∧∀i y,ys[i]?=some y→∃t vs,y=.ref t∧H' t=some (.tup vs)∧P i vs,fun τ' H' q=>⟨xs.length-(i+1),by omega,hlt,rfl,q⟩,fun x H3 y=>?_⟩
  obtain⟨rfl,y⟩:=y
  have ex:x=xs.getD i .non:=by rw[YAR,y xs (hs.seq hx)];rfl
  subst ex
  unfold ZcR tAll
  dsimp only
  rw[YAO rfl,hτ]
  have hτ':∀w:Option V,(τ0.set 0 (some (xs.getD i .non))).set 0 w=τ0.set 0 w:=fun w=>by rw[List.set_set]
  refine he i _ _ hlt hs fun p vs H5 s5 hp hP=>⟨ys,s5 _ _ hacc,by rw[hlen,sizeLine_eq];omega,hτ',same_upd3' ha (hs.trans s5),ys++[.ref p],Zae,by simp[hlen],fun j z hz'=>?_⟩
  have ne:∀ {t:Addr} {us:List V},H5 t=some (.tup us)→t≠acc:=fun h e=>by rw[e,s5 _ _ hacc]at h;cases h
  by_cases hj:j<ys.length
  ·rw[YAr hj]at hz'
   obtain⟨t,us,rfl,h1,h2⟩:=hall j z hz'
   have h1':=s5 _ _ h1
   exact⟨t,us,rfl,by rw[Zaf (ne h1')];exact h1',h2⟩
  ·rw[YAn (by omega)]at hz'
   have hj':j-ys.length=0:=by
    rcases Nat.eq_zero_or_pos (j-ys.length) with h | h
    ·exact h
    ·rw[YBc (by simp;omega)]at hz';cases hz'
   rw[hj']at hz'
   cases hz'
   have:j=i:=by omega
   exact⟨p,vs,rfl,by rw[Zaf (ne hp)];exact hp,by rw[this];exact hP⟩
 ·have e:i=xs.length:=by omega
  subst e
  exact .inl ⟨⟨xs,hs.seq hx,YAP _⟩,hQ acc ys H2 hs ha hacc hlen hall⟩
end
def infB (w l:List Nat):Bool:=(List.range (l.length+1)).any fun i=>decide (i+w.length≤l.length)&&decide ((l.drop i).take w.length=w)
theorem ZcZ {w l:List Nat}:infB w l=true↔Inf w l:=by
 unfold infB Inf AtW
 rw[List.any_eq_true]
 constructor
 ·rintro⟨i,_,h⟩
  rw[YAT,decide_eq_true_eq,decide_eq_true_eq]at h
  exact⟨i,h⟩
 ·rintro⟨i,h1,h2⟩
  refine⟨i,YAq.mpr (by omega),?_⟩
  rw[YAT,decide_eq_true_eq,decide_eq_true_eq]
  exact⟨h1,h2⟩
theorem Zgs {w l:List Nat}:infB w l=false↔¬Inf w l:=by rw[←ZcZ,Bool.not_eq_true]
theorem Zgv (w l:List Nat):(!(Builtin.Str.occurrences ⟨l.toArray⟩ ⟨w.toArray⟩ 0 (⟨l.toArray⟩:Str).length 1).isEmpty)=infB w l:=by
 rw[YBG,StrLaws.found_iff,ZcZ]
 exact⟨fun ⟨i,h⟩=>⟨i,(ZbL l w i).mp h⟩,fun ⟨i,h⟩=>⟨i,(ZbL l w i).mpr h⟩⟩
section
variable {X:Cx}
theorem Zgk:OpR X (compareOp .In) (fun x y H Q=>∃w l,x=tx w∧y=tx l∧Q (.bl (infB w l)) H):=by
 rintro pins s σ H x y v u Q I rx ry ⟨w,l,rfl,rfl,q⟩
 refine ZeP pins s σ H _ _ v u Q I rx ry ⟨_,_,rfl,rfl,?_⟩
 rw[Zgv];exact q
theorem Zdi:OpR X (compareOp .NotIn) (fun x y H Q=>∃w l,x=tx w∧y=tx l∧Q (.bl (!infB w l)) H):=by
 rintro pins s σ H x y v u Q I rx ry ⟨w,l,rfl,rfl,q⟩
 refine ZeN pins s σ H _ _ v u Q I rx ry ⟨_,_,rfl,rfl,?_⟩
 rw[Zgv];exact q
end
end L2
namespace L2
open PySem PySem.Spec PyProof.Rows
section
variable {X:Cx}
end
section
variable {X:Cx}{pins:List (Addr×Obj)}{σ:St}{H:Hp}{s:Shared}{a b:Addr}{kvs more:List (Key×V)}{A:Around}{E:Value→Shared→Prop}
def ZnA (td ty:TE):TE:=fun σ H Q=>td σ H fun x H1=>∃a,x=.ref a∧IsD H1 a∧ty σ H1 fun y H2=>∃b kvs more,y=.ref b∧H2 a=some (.dK kvs)∧H2 b=some (.dK more)∧a≠b∧kvs.length+more.length≤sizeLine∧Q .non (upd H2 a (.dK (ZjQ kvs more)))
end
section
variable {prog:Program}{w:World}{A:Around}{E:Value→Shared→Prop}{s:Shared}{l I S:Addr}{ns:List Int}{vs:List Value}{R:Result→Shared→Prop}{Q:Value→Shared→Prop}{d:Value}
end
section
variable {X:Cx}{e:Expr}{ta:TA}{p p2 pos kpos:Pos}
def ZoD (n:Int):List V→Hp→VK→Prop:=fun xs H Q=>∃a ns,xs=[.ref a]∧H a=some (.lst (ns.map V.int))∧∀r,(ns=[]→r=n)→(ns≠[]→r∈ns)→(∀x∈ns,x≤r)→Q (.int r) H
end
def kfT:Value→Int×List Nat
 | .str x _=>((x.length:Nat),x.cps.toList)
 | _=>(0,[])
abbrev Zdo (x:Str)(p1 p2 p3 p4 p5:Pos)(k:Nat):Expr:=.Tuple [.Call (.Name "len" p1) [.Name x p2] [] p3,.Name x p4] k p5
structure LamSc (scope:Scope)(x:Str):Prop where
 kind:scope.kind=.function
 co:scope.isCoroutine=false
 gen:scope.isGenerator=false
 loc:scope.names.lookup x=some .local
 glb:scope.names.lookup ("len":Str)=some .globalImplicit
 nodbg:(x == ("__debug__":Str))=false
section
variable {prog:Program}{w:World}{A:Around}{s:Shared}
theorem Zix (f:Str→Option NameKind){x:Str}{v:Value}(h:f x=some .local):bindL f [(x,v)] (fun _=>none) x=some v:=by
 unfold bindL bindL
 rw[YAO h,YAO rfl]
theorem ZkS {g:Addr}{o:Obj}{name qual x:Str}{params:Arguments}{scope:Scope}{pm cv ctv:Value}{mg mb:Str→Option Value}{vs:List Value}{p1 p2 p3 p4 p5:Pos}{k:Nat}
  (ho:s.heap.get? g=some o) (hod:o.data=.func (PySem.W.kla_fn name qual params (Zdo x p1 p2 p3 p4 p5 k) scope [] pm cv ctv)) (hcd:s.heap.CodeRec cv qual) (S:LamSc scope x)
  (hb:∀(s:Shared) (u:Value),BindsTo s (PySem.W.kla_fn name qual params (Zdo x p1 p2 p3 p4 p5 k) scope [] pm cv ctv) ⟨[u],[]⟩ [(x,u)]) (hroom:A.depth<recursionLimit) (hlim:s.heap.NoLimit)
  (hg:s.heap.Ns mainGlobals mg) (hgl:mg "len"=none) (hbn:s.heap.Ns builtinsNs mb) (hbb:mb "len"=bootBuiltins "len") (hv:∀v∈vs,∃y t,v=.str y t∧y.length≤sizeLine):KeyCall (model prog w) A g vs kfT s:=by
 intro E s' v Q hvm hk hgen hos q
 obtain⟨y,t,rfl,hy⟩:=hv v hvm
 have hs:sizeLine=16777216:=sizeLine_eq
 refine YCJ (PySem.W.kla_callFunE hroom (hk _ _ ho) hod S.co S.gen rfl (let ⟨c,oc,ws,tq,e1,e2,r⟩:=hcd;⟨c,oc,ws,tq,e1,hk _ _ e2,r⟩) (hb _ _ _ _ _ _ ?_))
 refine wpAny_newFunctionEnv_cells S.kind (fun z hz=>.inl (by rw[YAX.mp hz];exact S.loc)) fun env he s1 X=>?_
 refine⟨(hlim.keeps hk).keeps X.toInCall.keep,PySem.W.kla_codeExpr ?_⟩
 subst he
 obtain⟨h1,tk1,e1⟩:=X.toInCall.same
 have kp1:Kp s'.heap s1.heap:=X.toInCall.keep
 have lnm:∀(pp:Pos) (B:Around) (E2:Value→Shared→Prop) (s2:Shared) (Q2:Value→Shared→Prop),Kp s1.heap s2.heap→Q2 (.str y t) s2→wpAny (model prog w) B (eval (.Name x pp) (newEnv scope s'.heap.objs.size mainGlobals (cellsFrom (s'.heap.objs.size+1) scope.names []) (qual++".<locals>.") (some g) cv none builtinsNs)) Q2 E2 s2:=fun pp B E2 s2 Q2 k2 q2=>
  wpAny_Name (wpAny_loadName_local S.kind S.loc (X.toInCall.ns.keeps k2) (by
   exact Zix _ S.loc) q2) S.nodbg
 refine wpAny_Tuple_spliced ?_
 show wpAny _ _ (spliced ((false,eval (.Call (.Name "len" p1) [.Name x p2] [] p3) _)::backTo p5 (starEach [.Name x p4] _))) _ _ s1
 refine YDc ?_
 refine YBM (Calls.Name_function_global S.kind S.glb (Calls.loadGlobal_builtin (v:=.builtin "len") (show s1.heap.Ns mainGlobals mg from(hg.keeps hk).keeps kp1) hgl (show s1.heap.Ns builtinsNs mb from(hbn.keeps hk).keeps kp1) (hbb.trans rfl) ?_) (by decide))
 refine YDD ?_ rfl rfl
 show wpAny _ _ (spliced ((false,eval (.Name x p2) _)::backTo p3 (starEach [] _))) _ _ s1
 refine YDc (lnm p2 _ _ _ _ (fun _ _ e=>e) (Calls.spliced_nil ?_))
 refine len_str (by omega) ?_
 show wpAny _ _ (spliced ((false,eval (.Name x p4) _)::backTo p5 (starEach [] _))) _ _ _
 refine YDc (lnm p4 _ _ _ _ (fun _ _ e=>e) (Calls.spliced_nil ?_))
 refine⟨by rw[hs];show 2≤16777216;decide,?_⟩
 rw[e1]
 refine q _ _ (fun b o e=>YAB _ (by have:=kp1 b o e;rw[e1]at this;exact this)) rfl rfl ⟨_,_,_,_,_,rfl,YAF _ rfl,rfl⟩
end
theorem ZdC (a v:Value):argsOk "sorted" ⟨[a],[(Str.ofString "key",v)]⟩:=by unfold argsOk;kernel_rfl
theorem Zcy (a v:Value):argsOk "list.sort" ⟨[a],[(Str.ofString "key",v)]⟩:=by unfold argsOk;kernel_rfl
section
variable {prog:Program}{w:World}{A:Around}{E:Value→Shared→Prop}{s:Shared}
theorem ZfC {a g:Addr} {its:List Value} {n:Nat} {kf:Value→Int×List Nat} {Q:Value→Shared→Prop} (eo:s.heap.get? a=some (seqObj "list" its.toArray n)) (hc:KeyCall (model prog w) A.in1.in1 g its kf s) (hN:its.length≤sizeLine)
  (h:∀(s':Shared) (r:Addr) (us:List Value) (e:Nat),s.heap.get? r=none→Kp s.heap s'.heap→s'.gens=s.gens→s'.os=s.os→s'.heap.get? r=some (seqObj "list" us.toArray e)→us.Perm its→us.Pairwise (fun x y=>ltP (kf y) (kf x)=false)→Q (.ref r) s'):
  wpAny (model prog w) A (call (.builtin "sorted") [.ref a] [(Str.ofString "key",.ref g)]) Q E s:=by
 refine call_function_entry_kw kind_sorted plain_sorted entry_sorted (ZdC _ _) ?_
 unfold Builtin.«sorted»
 refine YAA (m:=checkCount "sorted" 1 1 _) (YAC ?_)
 refine YAA (collect_list (YCA eo) ?_ hN)
 have sb:=YAa (s.heap.push (seqObj "list" #[] 0)) s.heap.objs.size (Obj.mapSeq (·++its.toArray))
 have k1:Kp s.heap ((s.heap.push (seqObj "list" #[] 0)).update s.heap.objs.size (Obj.mapSeq (·++its.toArray))):=fun b o e=>(sb.2 b (YAY (YAG e))).trans (YAB _ e)
 generalize ((s.heap.push (seqObj "list" #[] 0)).update s.heap.objs.size (Obj.mapSeq (·++its.toArray)))=g1 at k1 ⊢
 have nw:s.heap.get? g1.objs.size=none:=by
  cases z:s.heap.get? g1.objs.size with
  | none=>rfl
  | some o=>exact absurd (YAG (k1 _ _ z)) (YAt _)
 refine YAA (YDN ?_ hN)
 have hoL:(g1.push (seqObj "list" its.toArray 0)).get? g1.objs.size=some (seqObj "list" its.toArray 0):=YAF _ rfl
 refine YAA (YAy (wpAny_call_entry_kw slot_list_sort ⟨_,hoL,rfl⟩ entry_list_sort (ZgI (s0:=s) hc (fun b o e=>YAB _ (k1 b o e)) rfl rfl nw hoL hN fun s' us e k2 e1 e2 e3 e4 e5=>⟨_,rfl,?_⟩) (Zcy _ _)))
 exact YAC ⟨_,rfl,h s' _ us e nw k2 e1 e2 e3 e4 e5⟩
end
def BefW (a b:List Nat):Prop:=a.length<b.length∨(a.length=b.length∧a<b)
theorem ZeY:∀ {a b:List Nat} {x y:List Nat},a.length=b.length→a<b→a++x<b++y
 | [],[],_,_,_,h=>by cases h
 | [],_::_,_,_,e,_=>by simp at e
 | _::_,[],_,_,e,_=>by simp at e
 | c::a,d::b,x,y,e,h=>by
  rw[YDJ,YDJ]
  cases h with
  | rel h=>exact List.Lex.rel h
  | cons h=>exact List.Lex.cons (ZeY (by simpa using e) h)
theorem ZhV:∀(a:List Nat) {c d:Nat},c<d→a++[c]<a++[d]
 | [],_,_,h=>List.Lex.rel h
 | _::a,_,_,h=>List.Lex.cons (ZhV a h)
theorem ZhU:∀(a b:List Nat),a<b∨a=b∨b<a
 | [],[]=>.inr (.inl rfl)
 | [],_::_=>.inl .nil
 | _::_,[]=>.inr (.inr .nil)
 | c::a,d::b=>by
  rcases Nat.lt_trichotomy c d with h | h | h
  ·exact .inl (List.Lex.rel h)
  ·subst h
   rcases ZhU a b with h | h | h
   ·exact .inl (List.Lex.cons h)
   ·exact .inr (.inl (by rw[h]))
   ·exact .inr (.inr (List.Lex.cons h))
  ·exact .inr (.inr (List.Lex.rel h))
theorem Zez (l:List Nat)(n:Nat):(wordsOf l n).Pairwise (· < ·):=by
 have h1:(wordsOf l n).Pairwise (fun a b=>leT a b=true):=Za2 _
 have h2:(wordsOf l n).Nodup:=(Zay _).nodup_iff.mpr (by rw[←Zes];exact Zcw _)
 refine(h1.and h2).imp ?_
 rintro a b ⟨x,y⟩
 have x':¬b<a:=by simpa [leT] using x
 rcases ZhU a b with z | z | z
 ·exact z
 ·exact absurd z y
 ·exact absurd z x'
theorem ZaT {l m:List Nat}(hm:m.Pairwise (· < ·)):(ZaI l m).Pairwise BefW:=by
 unfold ZaI Ze4
 have len:∀k w,k≤l.length→w∈Ze6 (wordsOf l k) (wordsOf l (k+1)) m→w.length=k+1:=fun k w hk hw=>by
  obtain⟨h,c,h1,_,rfl,_⟩:=Zdl.mp hw
  rw[ZaD (by omega)]at h1
  rw[YAI,h1.1];rfl
 rw[List.pairwise_flatMap]
 refine⟨fun k hk=>?_,?_⟩
 ·have hk:=YAq.mp hk
  unfold Ze6
  rw[List.pairwise_flatMap]
  refine⟨fun h hh=>?_,?_⟩
  ·unfold Zg2
   rw[YBm]
   exact(hm.filter _).imp fun {c d} hcd=>.inr ⟨by simp,ZhV h hcd⟩
  ·refine List.Pairwise.imp_of_mem ?_ (Zez l k)
   intro a b ha hb hab x hx y hy
   have la:=((ZaD (l:=l) (by omega)).mp ha).1
   have lb:=((ZaD (l:=l) (by omega)).mp hb).1
   unfold Zg2 at hx hy
   obtain⟨c,_,rfl⟩:=YBX.mp hx
   obtain⟨d,_,rfl⟩:=YBX.mp hy
   exact .inr ⟨by simp[la,lb],ZeY (by rw[la,lb]) hab⟩
 ·refine List.Pairwise.imp_of_mem ?_ List.pairwise_lt_range
  intro i j hi hj hij x hx y hy
  have hi:=YAq.mp hi
  have hj:=YAq.mp hj
  exact .inl (by rw[len i x (by omega) hx,len j y (by omega) hy];omega)
theorem Zc1 {a:List Nat}:¬BefW a a:=fun h=>h.elim (fun h=>YAt _ h) fun h=>List.lt_irrefl _ h.2
theorem ZeU {α:Type}[DecidableEq α]:∀(l m:List α),l.Nodup→(∀x∈l,x∈m)→l.length≤m.length
 | [],m,_,_=>YBI _
 | x::l,m,nd,h=>by
  have hx:=h x YAd
  have nd':=YCN.mp nd
  have:=ZeU l (m.erase x) nd'.2 fun y hy=>(List.mem_erase_of_ne (fun e=>by rw[e]at hy;exact nd'.1 hy)).mpr (h y (YAZ _ hy))
  rw[List.length_erase_of_mem hx]at this
  have pos:0<m.length:=List.length_pos_of_mem hx
  rw[YAp]
  omega
end L2
namespace L2
open PySem PySem.Spec PyProof.Rows PySem.W
def Zdr:HO→Bool
 | .tbl _=>true
 | _=>false
def SameL (H H':Hp):Prop:=∀b o,H b=some o→Zdr o=false→H' b=some o
theorem SameL.refl (H:Hp):SameL H H:=fun _ _ e _=>e
theorem SameL.trans {H H1 H2:Hp}(a:SameL H H1)(b:SameL H1 H2):SameL H H2:=fun c o e n=>b c o (a c o e n) n
theorem Same.l {H H':Hp}(s:Same H H'):SameL H H':=fun b o e _=>s b o e
def Zex (c:Addr)(q:Str):HO:=.ext fun h=>h.CodeRec (.ref c) q
theorem Zjv {P:Program}{w:World}{H:Hp}{h:Heap}{c:Addr}{q:Str}(x:h.CodeRec (.ref c) q):ObjOk P w H h c (Zex c q):=by
 obtain⟨c',o,vs,t,e,e1,r⟩:=id x
 cases e
 refine⟨x,⟨o,e1⟩,fun h1 h2 x1 k=>?_⟩
 obtain⟨c',o,vs,t,e,e1,r⟩:=x1
 cases e
 exact⟨c,o,vs,t,rfl,k _ e1,r⟩
def TblOk (H:Hp)(P:Addr)(pos:Pos)(q:Str):Prop:=∃ps,H P=some (.tbl ps)∧TriplesOk ps.toList∧(codeAmong pos ps.toList=none∨∃c,codeAmong pos ps.toList=some (.ref c)∧H c=some (Zex c q))
theorem TblOk.same {H H':Hp}{P:Addr}{pos:Pos}{q:Str}(t:TblOk H P pos q)(s:Same H H'):TblOk H' P pos q:=by
 obtain⟨ps,e,tr,h⟩:=t
 exact⟨ps,s _ _ e,tr,h.imp id fun ⟨c,e1,e2⟩=>⟨c,e1,s _ _ e2⟩⟩
theorem tbl_new {P:Addr}{pos:Pos}{q:Str}{H:Hp}(h:H P=some (.tbl #[])):TblOk H P pos q:=⟨#[],h,trivial,.inl rfl⟩
theorem ZdA {pos pos':Pos}{c:Value}(hne:pos'.line≠pos.line∨pos'.col≠pos.col)(l:List Value)(h:TriplesOk l):codeAmong pos' (l++[rawInt pos.line,rawInt pos.col,c])=codeAmong pos' l:=by
 fun_induction TriplesOk l with
 | case1=>
  simp only[List.nil_append,codeAmong,rawInt]
  rw[YAJ]
  intro z
  simp only[YAT,beq_iff_eq]at z
  rcases hne with n | n
  ·exact n (by have:=z.1;omega)
  ·exact n (by have:=z.2;omega)
 | case2 a t b u x rest ih=>
  simp only[YDJ,codeAmong]
  rw[ih h]
 | case3 l h1 h2=>exact h.elim
def SameT (pos:Pos)(H H':Hp):Prop:=SameL H H'∧∀(P':Addr) (pos':Pos) (q':Str),(pos'.line≠pos.line∨pos'.col≠pos.col)→TblOk H P' pos' q'→TblOk H' P' pos' q'
theorem SameT.then {pos:Pos}{H H1 H2:Hp}(s:SameT pos H H1)(t:Same H1 H2):SameT pos H H2:=⟨s.1.trans t.l,fun P' p' q' n T=>(s.2 P' p' q' n T).same t⟩
structure LamEnv (base:Heap)(mg:Str→Option Value)(c P:Addr):Prop where
 hd:CodeHd base c P
 bm:base.BuiltinsAt mg P
section
variable {X:Cx}{pins:List (Addr×Obj)}{σ:St}{H:Hp}{s:Shared}
theorem Inv.table {P c':Addr}{ps more:Array Value}{q:Str}{h':Heap}{t':Nat}(I:Inv X pins σ H s)(hP:H P=some (.tbl ps))(hx:Heap.ExtBut P s.heap h')(hc:s.heap.objs.size≤c')(hr:h'.CodeRec (.ref c') q)(ht:h'.get? P=some (tabObj (ps++more))):
  Inv X pins σ (upd (upd H P (.tbl (ps++more))) c' (Zex c' q)) { s with heap:=h',toks:=t' }:=by
 have fc:H c'=none:=I.hok.fresh hc
 have nPc:P≠c':=Zan hP fc
 have nt:∀ {b u},H b=some u→(∀ps,u≠.tbl ps)→b≠P:=fun e n z=>by rw[z,hP]at e;exact n _ (Option.some.inj e).symm
 have nc:∀ {b u},H b=some u→b≠c':=fun e=>Zan e fc
 have hz:∀ {b o},s.heap.get? b=some o→b≠c':=fun e z=>absurd (YAG e) (by rw[z];exact Nat.not_lt.mpr hc)
 have nn:∀ {b},H b=none→b≠P:=fun e z=>by rw[z,hP]at e;cases e
 refine I.call' (s':={ s with heap:=h',toks:=t' }) (ch:=[]) rfl ⟨fun b o e n _ _=>hx b o (nn n) e,fun b o e n _ _=>⟨o.slots,hx b o (nn n) e⟩,fun b o e n _=>?_,fun b o e _=>?_,fun b xs e=>?_,fun b o u e=>?_,fun b qs e=>?_⟩ (fun b u e=>?_) I.bare (fun b z=>by cases z)
 ·rw[Zaf (hz e),Zaf (nn n)];exact n
 ·by_cases z:b=P
  ·exact⟨_,by rw[z];exact ht⟩
  ·exact⟨o,hx b o z e⟩
 ·rw[Zaf (nc e),Zaf (nt e fun _ z=>by cases z)];exact e
 ·rw[Zaf (nc e),Zaf (nt e fun _ z=>by cases z)];exact e
 ·by_cases z:b=P
  ·subst z
   rw[hP]at e;cases e
   exact⟨more,by rw[Zaf nPc,Zae]⟩
  ·exact⟨#[],by rw[Zaf (nc e),Zaf z,e];simp⟩
 ·by_cases z1:b=c'
  ·subst z1
   rw[Zae]at e;cases e
   exact Zjv hr
  ·rw[Zaf z1]at e
   by_cases z2:b=P
   ·subst z2
    rw[Zae]at e;cases e
    exact ht
   ·rw[Zaf z2]at e
    refine(I.hok b u e).stay (fun d v hd k=>?_) (fun d k=>?_) fun d xs k=>?_
    ·refine hx d v ?_ k
     rcases hd with rfl | hd
     ·exact z2
     ·exact nt hd fun _ z=>by cases z
    ·rw[Zaf (nc k),Zaf (nt k fun _ z=>by cases z)];exact k
    ·rw[Zaf (nc k),Zaf (nt k fun _ z=>by cases z)];exact k
theorem Ze2 {Q:Value→Shared→Prop}{E:Value→Shared→Prop}{c P:Addr}{pos:Pos}{params:Arguments}{body:Expr}{scope:Scope}{q:Str}{clos:List (Str×Addr)}(I:Inv X pins σ H s)(L:LamEnv X.base X.mg c P)(hcode:X.env.code=.ref c)(hcl:closureFor scope X.env=pure clos)(hdef:defaultsOf params X.env=([],[]))
  (hq:X.env.qual++"<lambda>"=q) (T:TblOk H P pos q)
  (h:∀(H1:Hp) (h':Heap) (tk:Nat) (c':Addr) (ctv:Value),SameT pos H H1→TblOk H1 P pos q→(∀b,H1 b=none→H b=none)→Inv X pins σ H1 { s with heap:=h',toks:=tk }→h'.CodeRec (.ref c') q→H1 c'=some (Zex c' q)→Q (.ref h'.objs.size) { s with heap:=h'.push (kla_obj "<lambda>" q params body scope clos ((X.mg "__name__").getD .none) c' ctv),toks:=tk }):
  wpAny (model X.prog X.w) X.A (eval (.Lambda params body scope pos) X.env) Q E s:=by
 obtain⟨ps,hP,tr,hc⟩:=T
 have gP:s.heap.get? P=some (tabObj ps):=I.hok P _ hP
 have C:CodeHd s.heap c P:=L.hd.keeps I.bk
 have hg:s.heap.Ns mainGlobals X.mg:=I.mod.glob.keeps I.bk
 have hgP:mainGlobals≠P:=fun z=>by
  obtain⟨o,es,ep,e,hd,_⟩:=hg
  rw[z,gP]at e;cases e;cases hd
 have hbm:s.heap.BuiltinsAt X.mg P:=let ⟨bm,o,a1,a2,a3,a4,a5,r⟩:=L.bm;⟨bm,o,a1,a2,a3,a4,I.bk _ _ a5,r⟩
 refine kla_eval hdef ?_
 rw[hq]
 rcases hc with hn | ⟨c',hf,hc'⟩
 ·refine kla_makeFunction hcl I.ok.glob hg hcode C gP tr hn hgP hbm fun c' ctv h' tk hx hge hlt hrec htab=>?_
  have fc:H c'=none:=I.hok.fresh hge
  have J:=I.table (t':=tk) hP hx hge hrec htab
  have nPc:P≠c':=Zan hP fc
  have el:(ps++#[rawInt pos.line,rawInt pos.col,Value.ref c']).toList=ps.toList++[rawInt pos.line,rawInt pos.col,.ref c']:=by simp
  refine h _ _ _ c' ctv ⟨fun b o e n=>?_,fun P' pos' q' hne T'=>?_⟩ ⟨_,by rw[Zaf nPc,Zae],by rw[el];exact TriplesOk_snoc _ _ _ _ tr,.inr ⟨c',by rw[el];exact codeAmong_snoc _ tr hn,Zae⟩⟩ (fun b e=>?_) J hrec Zae
  ·rw[Zaf (Zan e fc),Zaf (fun z=>by rw[z,hP]at e;cases e;cases n)];exact e
  ·obtain⟨ps',e1,t1,h1⟩:=T'
   have keep:∀d,H d=some (Zex d q')→upd (upd H P (.tbl (ps++#[rawInt pos.line,rawInt pos.col,Value.ref c']))) c' (Zex c' q) d=some (Zex d q'):=fun d e=>by
    rw[Zaf (Zan e fc),Zaf (fun z=>by rw[z,hP]at e;cases e)];exact e
   by_cases z:P'=P
   ·subst z
    rw[hP]at e1;cases e1
    refine⟨_,by rw[Zaf nPc,Zae],by rw[el];exact TriplesOk_snoc _ _ _ _ tr,?_⟩
    rw[el,ZdA hne _ tr]
    exact h1.imp id fun ⟨d,f1,f2⟩=>⟨d,f1,keep d f2⟩
   ·exact⟨ps',by rw[Zaf (Zan e1 fc),Zaf z];exact e1,t1,h1.imp id fun ⟨d,f1,f2⟩=>⟨d,f1,keep d f2⟩⟩
  ·by_cases z1:b=c'
   ·rw[z1];exact fc
   ·rw[Zaf z1]at e
    by_cases z2:b=P
    ·rw[z2,Zae]at e;cases e
    ·rw[Zaf z2]at e;exact e
 ·refine kla_makeFunctionHit hcl I.ok.glob hg hcode C gP tr hf hbm fun ctv h' tk hk hsz=>?_
  have hrec:s.heap.CodeRec (.ref c') q:=(I.hok c' _ hc').1
  exact h H _ _ c' ctv ⟨SameL.refl _,fun _ _ _ _ T=>T⟩ ⟨ps,hP,tr,.inr ⟨c',hf,hc'⟩⟩ (fun b e=>e) (I.kept (t':=tk) hk) (hrec.keeps hk) hc'
theorem ZhZ {Q:Value→Shared→Prop}{E:Value→Shared→Prop}{c P:Addr}{pos:Pos}{params:Arguments}{body:Expr}{scope:Scope}{q:Str}(I:Inv X pins σ H s)(L:LamEnv X.base X.mg c P)(hcode:X.env.code=.ref c)(hcl:closureFor scope X.env=pure [])(hdef:defaultsOf params X.env=([],[]))
  (hq:X.env.qual++"<lambda>"=q) (T:TblOk H P pos q)
  (h:∀(g:Addr) (H1:Hp) (s1:Shared) (cv ctv pm:Value),SameT pos H H1→TblOk H1 P pos q→(∀b,H1 b=none→H b=none)→Inv X pins σ H1 s1→s1.heap.get? g=some { cls:=.type "function",data:=.func (kla_fn "<lambda>" q params body scope [] pm cv ctv) }→s1.heap.CodeRec cv q→Q (.ref g) s1):
  wpAny (model X.prog X.w) X.A (eval (.Lambda params body scope pos) X.env) Q E s:=
 Ze2 I L hcode hcl hdef hq T fun H1 h' tk c' ctv st t1 fr J hrec _=>h _ H1 _ (.ref c') ctv _ st t1 fr (J.kept (t':=tk) fun b o e=>YAB _ e) (YAF _ rfl) (hrec.push _)
end
theorem Zhc:bootBuiltins "sorted"=some (.builtin "sorted"):=rfl
def txV:Value→List Nat
 | .str x _=>x.cps.toList
 | _=>[]
theorem Zhj:∀ {ws:List (List Nat)} {us:List Value},Vals (ws.map tx) us→ws=us.map txV∧(∀v∈us,∃y t,v=.str y t∧y.length=(txV v).length)
 | [],_,.nil=>⟨rfl,fun v hv=>by cases hv⟩
 | w::ws,_,.cons ⟨t,e⟩ r=>by
  obtain⟨h1,h2⟩:=Zhj (ws:=ws) r
  subst e
  refine⟨by rw[YAg,←h1];simp[txV],fun v hv=>?_⟩
  rcases YAM.mp hv with rfl | hv
  ·exact⟨_,t,rfl,by simp[txV,Str.length]⟩
  ·exact h2 v hv
theorem ZdI:∀(us:List Value),(∀v∈us,∃y t,v=.str y t)→Vals ((us.map txV).map tx) us
 | [],_=>.nil
 | v::us,h=>by
  obtain⟨y,t,rfl⟩:=h v YAd
  exact .cons ⟨t,by simp[txV]⟩ (ZdI us fun u hu=>h u (YAZ _ hu))
def ZjG (P:Addr)(lpos:Pos)(q:Str)(ta:TA):TE:=fun σ H Q=>ta σ H fun vs H1=>∃(a:Addr) (ws:List (List Nat)),vs=[.ref a]∧H1 a=some (.lst (ws.map tx))∧(∀w∈ws,w.length≤sizeLine)∧TblOk H1 P lpos q ∧
 ∀(ws':List (List Nat)) (r:Addr) (H2:Hp),ws'.Perm ws→ws'.Pairwise (fun a b=>¬BefW b a)→SameT lpos H1 H2→TblOk H2 P lpos q→H1 r=none→H2 r=some (.lst (ws'.map tx))→Q (.ref r) H2
theorem ZkO {a b:List Nat}:ltP ((b.length:Nat),b) ((a.length:Nat),a)=false↔¬BefW b a:=by
 rw[YBu,Ne,ZfI]
 unfold BefW
 dsimp only
 have e1:((b.length:Int)<(a.length:Int))↔b.length<a.length:=by omega
 have e2:((b.length:Int)=(a.length:Int))↔b.length=a.length:=by omega
 rw[e1,e2]
section
variable {X:Cx}{e:Expr}{ta:TA}{p pos kpos lpos p1 p2 p3 p4 p5:Pos}{k kk:Nat}{c P:Addr}{params:Arguments}{scope:Scope}{x q:Str}
theorem ZiX (hr:Room k X.A) (L:LamEnv X.base X.mg c P) (hcode:X.env.code=.ref c) (hg:Gl X "sorted") (hm:X.mg "sorted"=none) (hlen:X.mg "len"=none) (ha:PA X [e] ta) (hcl:closureFor scope X.env=pure []) (hdef:defaultsOf params X.env=([],[])) (hq:X.env.qual++"<lambda>"=q)
  (S:LamSc scope x) (hb:∀(s:Shared) (u pm cv ctv:Value),BindsTo s (kla_fn "<lambda>" q params (Zdo x p1 p2 p3 p4 p5 kk) scope [] pm cv ctv) ⟨[u],[]⟩ [(x,u)])
  (he:backTo pos (starEach [e] X.env)=(false,eval e X.env)::backTo pos (starEach [] X.env):=by rfl) (hpl:(backTo pos (starEach [e] X.env)).any (·.1)=false:=by rfl):
  PE X (.Call (.Name "sorted" p) [e] [⟨some "key",.Lambda params (Zdo x p1 p2 p3 p4 p5 kk) scope lpos,kpos⟩] pos) (ZjG P lpos q ta):=by
 intro pins s σ H Q I h
 refine YBM (ZcL I hg hm Zhc ?_)
 refine PyProof.Rows.callWith_kw (thn (ha pos pins s σ H _ I h) fun us s1 ⟨vs,H1,I1,r1,q1⟩=>?_) he hpl
 obtain⟨a,ws,rfl,hH,hw,T,q⟩:=q1
 show wpAny _ _ (evalAll ((do let v ←eval (.Lambda params (Zdo x p1 p2 p3 p4 p5 kk) scope lpos) X.env;standAt pos;pure v)::[])) _ _ s1
 refine wpAny_evalAll_cons (YAA (ZhZ I1 L hcode hcl hdef hq T fun g H2 s2 cv ctv pm sl T2 fr I2 ho hcd=>YAA (YDM (YAC (wpAny_evalAll_nil ?_)))))
 obtain⟨u,rfl,ru⟩:=r1.one
 cases ru
 have hH2:=sl.1 _ _ hH rfl
 obtain⟨hz,its,n,r,hlen',eo⟩:=I2.lstM hH2
 obtain⟨ew,hs⟩:=Zhj r
 have hN:its.length≤sizeLine:=by rw[←r.length];exact hz
 obtain⟨mb,b1,b2⟩:=I2.mod.blt
 have key:=ZkS (prog:=X.prog) (w:=X.w) (A:=X.A.in1.in1) (vs:=its) ho rfl hcd S (fun s u=>hb s u pm cv ctv) (show X.A.depth<recursionLimit by have:=hr.dp;omega) (I2.mod.nolimit.keeps I2.bk) (I2.mod.glob.keeps I2.bk) hlen (b1.keeps I2.bk) (b2 _ (by decide)) (fun v hv=>by
  obtain⟨y,t,e1,e2⟩:=hs v hv
  exact⟨y,t,e1,by rw[e2];exact hw _ (by rw[ew];exact YCR hv)⟩)
 refine ZfC eo key hN fun s' r' us e nr kp g1 o1 er pm2 pw=>?_
 have hs2:∀v∈us,∃y t,v=.str y t∧y.length=(txV v).length:=fun v hv=>hs v (pm2.mem_iff.mp hv)
 have rv:Vals ((us.map txV).map tx) us:=ZdI us fun v hv=>let ⟨y,t,e,_⟩:=hs2 v hv;⟨y,t,e⟩
 have hl2:us.length=its.length:=pm2.length_eq
 have fr':H1 r'=none:=fr _ (I2.hok.none_of nr)
 have J:=I2.laid2 (s':=s') (a:=r') (o:=.lst ((us.map txV).map tx)) o1 g1 kp nr ⟨by rw[YAD,YAD];omega,us,e,rv,er⟩
 have hr2:=I2.hok.none_of nr
 refine⟨.ref r',_,J,rfl,q (us.map txV) r' _ (by rw[ew];exact pm2.map _) ?_ (sl.then (ZaF hr2)) (T2.same (ZaF hr2)) fr' Zae⟩
 rw[YBm]
 refine pw.imp_of_mem fun {y z} hy hz e=>?_
 rw[←ZkO]
 obtain⟨y1,t1,e1,e2⟩:=hs2 y hy
 obtain⟨z1,t2,e3,e4⟩:=hs2 z hz
 subst e1 e3
 have f1:kfT (.str y1 t1)=((((txV (.str y1 t1)).length:Nat):Int),txV (.str y1 t1)):=by rw[←e2];rfl
 have f2:kfT (.str z1 t2)=((((txV (.str z1 t2)).length:Nat):Int),txV (.str z1 t2)):=by rw[←e4];rfl
 rw[f1,f2]at e
 exact e
end
def Zm2 (o:Obj):Bool:=match o.cls,o.data with
 | .none,.fields _=>true
 | _,_=>false
def Zi7 (K:Frag):Bool:=K.all fun p=>!Zm2 p.2
theorem ZeV {K:Frag}(h:Zi7 K=true){b:Addr}{o:Obj}(e:K.lookup b=some o):Zm2 o=false:=by
 unfold Zi7 at h
 rw[YBE]at h
 have:∀(l:List (Addr×Obj)),l.lookup b=some o→(b,o)∈l:=fun l=>by
  induction l with
  | nil=>intro e;cases e
  | cons q r ih=>
   intro e
   obtain⟨b',o'⟩:=q
   rw[YBD]at e
   by_cases z:b=b'
   ·subst z
    simp at e
    subst e
    exact YAd
   ·have z':(b == b')=false:=by simpa using z
    rw[z']at e
    exact YAZ _ (ih e)
 have:=h _ (this K e)
 simpa using this
structure TabOf (mg:Str→Option Value)(h:Heap)(n:Str)(c P:Addr):Prop where
 fn:∃a o fd,mg n=some (.ref a)∧h.get? a=some o∧o.data=.func fd∧fd.code=.ref c
 code:h.IsCode c P #[]
 tab:h.TableAt c P #[]
theorem TabOf.codeEq {mg:Str→Option Value}{h:Heap}{n:Str}{c P a:Addr}{o:Obj}{fd:FuncData}(t:TabOf mg h n c P)(e1:mg n=some (.ref a))(e2:h.get? a=some o)(e3:o.data=.func fd):fd.code=.ref c:=by
 obtain⟨a',o',fd',f1,f2,f3,f4⟩:=t.fn
 rw[e1]at f1;cases f1
 rw[e2]at f2;cases f2
 rw[e3]at f3;cases f3
 exact f4
theorem ZhY {P:Program}{w:World}{K:PySem.W.Frag}{mg mb:Str→Option Value}{CX:CXT}{k:Nat}{fa a:Addr}{fd:FuncData}{x:Str}{sp:Sp}{s₁:Shared}{vs:List Value}{ns:List Int}{nms:List Str}{tb:Str→Addr×Addr}
  (KX:K.In s₁.heap) (hns:s₁.heap.Ns mainGlobals mg) (hb:s₁.heap.Ns builtinsNs mb) (hbb:∀x:Str,x≠"__name__"→mb x=bootBuiltins x) (hlim:s₁.heap.NoLimit) (hg:s₁.gens=#[])
  (ha:s₁.heap.get? a=some { cls:=.type "list",data:=.seq vs.toArray }) (hi:IntsAre vs ns) (hl:ns.length≤sizeLine) (hr:Room k callerA)
  (hT:∀n∈nms,TabOf mg s₁.heap n (tb n).1 (tb n).2) (hKt:Zi7 K=true) (hbm:∃bm ob,mg "__builtins__"=some (.ref bm)∧bm≠builtinsNs∧s₁.heap.get? bm=some ob∧ob.cls=.type "module"∧ob.dict=some builtinsNs∧ob.data=.plain)
  (F:∀base:Heap,K.In base→base.Ns mainGlobals mg→(∀n∈nms,LamEnv base mg (tb n).1 (tb n).2)→FnOk P w K mg base CX k fa fd [x] sp) (hbind:∀(s:Shared) (u:Value),BindsTo s fd ⟨[u],[]⟩ [(x,u)])
  (hsp:∀H:Hp,(∀n∈nms,H (tb n).2=some (.tbl #[]))→SqL K H a (ns.map V.int)→sp [.ref a] H (fun v _=>v=.bl true) fun _ _ _=>False)
  (hCX:∀H e s',CX [] H s₁ (fun _ _ _=>False) e s'→False):
  codeAny (model P w) callerA (.call (.ref fa) ⟨[.ref a],[]⟩) (fun r s'=>r=.ok (.ret (.bool true))∧OldK s₁.heap s'.heap∧s'.os=s₁.os∧AllBare s'.gens) s₁:=by
 have rv:=Zc5 hi
 have lenV:=hi.length
 have hta:∀n∈nms,s₁.heap.get? (tb n).2=some (tabObj #[]):=fun n hn=>(hT n hn).tab.2
 have aP:∀n∈nms,(tb n).2≠a:=fun n hn z=>by
  have e:=hta n hn
  rw[z,ha]at e
  have:=congrArg Obj.cls (Option.some.inj e)
  exact absurd (show Value.type "list"=Value.none from this) (by simp)
 let isP:Addr→Prop:=fun b=>∃n∈nms,(tb n).2=b
 have core:∀H:Hp,SqL K H a (ns.map V.int)→HOk P w H s₁.heap→(∀b,H b≠none→(b=a∧∃o xs,H b=some (.frz o (.lst xs)))∨(isP b∧H b=some (.tbl #[])))→(∀b,isP b→H b=some (.tbl #[]))→(H a≠none→K.lookup a=none) →
   codeAny (model P w) callerA (.call (.ref fa) ⟨[.ref a],[]⟩) (fun r s'=>r=.ok (.ret (.bool true))∧OldK s₁.heap s'.heap∧s'.os=s₁.os∧AllBare s'.gens) s₁:=by
  intro H hS hok hA hPt hK
  have base_of:∀ {b:Addr} {o:Obj},s₁.heap.get? b=some o→H b=none→(hidT s₁.heap H).get? b=some o:=fun e n=>Zgt e n
  have noT:∀ {b:Addr} {o:Obj},s₁.heap.get? b=some o→o≠tabObj #[]→o.cls≠.type "list"→H b=none:=fun {b o} e n1 n2=>by
   cases q:H b with
   | none=>rfl
   | some u=>
    rcases hA b (by rw[q];simp) with⟨e',_⟩|⟨⟨n,hn,e'⟩,_⟩
    ·subst e'
     rw[ha]at e;cases e
     exact absurd rfl n2
    ·subst e'
     rw[hta n hn]at e;cases e
     exact absurd rfl n1
  have noA:∀ {b:Addr} {o:Obj} {es:Array DictEntry} {ep:Nat},s₁.heap.get? b=some o→o.data=.dict es ep→H b=none:=fun {b o es ep} e d=>by
   cases q:H b with
   | none=>rfl
   | some u=>
    rcases hA b (by rw[q];simp) with⟨e',_⟩|⟨⟨n,hn,e'⟩,_⟩
    ·subst e'
     rw[ha]at e;cases e
     have d':Data.seq vs.toArray _=Data.dict es ep:=d
     cases d'
    ·subst e'
     rw[hta n hn]at e;cases e
     cases d
  have nsK:∀ {b:Addr} {m:Str→Option Value},s₁.heap.Ns b m→(hidT s₁.heap H).Ns b m:=fun {b m} ⟨o,es,ep,e,d,r⟩=>⟨o,es,ep,base_of e (noA e d),d,r⟩
  have hKb:K.In (hidT s₁.heap H):=fun b o e=>base_of (KX b o e) (by
   cases q:H b with
   | none=>rfl
   | some u=>
    rcases hA b (by rw[q];simp) with⟨e',_⟩|⟨⟨n,hn,e'⟩,_⟩
    ·subst e'
     rw[hK (by rw[q];simp)]at e;cases e
    ·subst e'
     have e1:=KX _ _ e
     rw[hta n hn]at e1
     have e2:=ZeV hKt e
     rw[←Option.some.inj e1]at e2
     cases e2)
  have hM:Mod K mg (hidT s₁.heap H):=⟨hKb,nsK hns,⟨mb,nsK hb,hbb⟩,let ⟨mc,h1,h2⟩:=hlim;⟨mc,nsK h1,h2⟩⟩
  have e0:Env0 P w K mg (hidT s₁.heap H) callerA [] s₁ H:=⟨rfl,hM,fun b o e=>ZhQ e,YCQ (Zfc _ _),trivial,fun b hb=>absurd (show b∈([]:List Addr) from hb) (by simp),hok,.of_eq hg⟩
  have hL:∀n∈nms,LamEnv (hidT s₁.heap H) mg (tb n).1 (tb n).2:=fun n hn=>by
   obtain⟨bm,ob,b1,b2,b3,b4,b5,b6⟩:=hbm
   obtain⟨oc,vc,file,tf,flags,tg,inF,text,tt,c1,c2,c3,r⟩:=CodeHd.of (hT n hn).code (hT n hn).tab
   refine⟨⟨oc,vc,file,tf,flags,tg,inF,text,tt,base_of c1 (noT c1 (fun z=>by rw[z]at c2;cases c2) (fun z=>by rw[c2]at z;exact absurd z (by decide))),c2,c3,r⟩,bm,ob,b1,b2,fun z=>?_,fun z=>?_,base_of b3 (noT b3 (fun z=>by rw[z]at b4;cases b4) (fun z=>by rw[b4]at z;exact absurd z (by decide))),b4,b5,b6⟩
   ·obtain⟨o,es,ep,e,d,_⟩:=hns
    rw[←z,b3]at e;cases e
    rw[b6]at d;cases d
   ·rw[z,hta n hn]at b3;cases b3
    cases b4
  refine codeAny_mono ((F _ hKb (nsK hns) hL).run callerA [] s₁ H ⟨[.ref a],[]⟩ [.ref a] [.ref a] _ _ hr e0 (hbind s₁ (.ref a)) (.cons rfl .nil) (hsp H (fun n hn=>hPt _ ⟨n,hn,rfl⟩) hS)) fun r s' h=>?_
  cases r with
  | error e=>exact(hCX H e s' h).elim
  | ok fl=>
   cases fl with
   | next=>exact False.elim h
   | brk=>exact False.elim h
   | cont=>exact False.elim h
   | ret u=>
    obtain⟨v,H',os,bare,un,hok',r',q⟩:=h
    have q':v=.bl true:=q
    subst q'
    obtain rfl:u=Value.bool true:=r'
    refine⟨rfl,⟨fun b o e=>?_,fun b o e=>un.there b o e (by simp)⟩,os,bare⟩
    cases q:H b with
    | none=>exact .inl (un.keep b o e q (by intro z;exact absurd (show b∈([]:List Addr) from z) (by simp)) (by simp))
    | some u=>
     rcases hA b (by rw[q];simp) with⟨_,ob,xs,z⟩|⟨⟨n,hn,e'⟩,z⟩
     ·have z2:=un.frzs b ob _ z
      obtain⟨e1,_⟩:=hok b _ z
      obtain⟨e2,_⟩:=hok' b _ z2
      rw[e]at e1;cases e1
      exact .inl e2
     ·obtain⟨more,z2⟩:=un.tbls b _ z
      have e1:s₁.heap.get? b=some (tabObj #[]):=hok b _ z
      have e2:s'.heap.get? b=some (tabObj (#[]++more)):=hok' b _ z2
      rw[e]at e1;cases e1
      exact .inr (.inl ⟨by rw[←e'];exact(hT n hn).tab.isCodeTable,rfl,#[],more,rfl,e2⟩)
 cases hk:K.lookup a with
 | some o=>
  have e:=KX a o hk
  rw[ha]at e
  cases e
  haveI:DecidablePred isP:=fun _=>Classical.propDecidable _
  refine core (fun b=>if isP b then some (.tbl #[]) else none) (.inr ⟨_,vs.toArray,_,hk,rfl,rfl,rfl,by rw[YAH,lenV];exact hl,by simpa using rv⟩) (fun b u z=>?_) (fun b z=>?_) (fun b hb=>YAO hb) fun z=>?_
  ·by_cases hb:isP b
   ·have z':=(YAO hb).symm.trans z
    cases z'
    obtain⟨n,hn,rfl⟩:=hb
    exact hta n hn
   ·have z':=(YAJ hb).symm.trans z
    cases z'
  ·by_cases hb:isP b
   ·exact .inr ⟨hb,YAO hb⟩
   ·exact absurd (YAJ hb) z
  ·have:¬isP a:=fun ⟨n,hn,e⟩=>aP n hn e
   exact absurd (YAJ this) z
 | none=>
  haveI:DecidablePred isP:=fun _=>Classical.propDecidable _
  refine core (fun b=>if b=a then some (.frz { cls:=.type "list",data:=.seq vs.toArray } (.lst (ns.map V.int))) else if isP b then some (.tbl #[]) else none) (.inl (.inr ⟨{ cls:=.type "list",data:=.seq vs.toArray },YAO rfl⟩)) (fun b u z=>?_) (fun b z=>?_) (fun b hb=>?_) fun _=>hk
  ·by_cases hb:b=a
   ·have z':=(YAO hb).symm.trans z
    cases z'
    subst hb
    exact⟨ha,by rw[YAD];exact hl,vs,_,rv,ha⟩
   ·have z':=(YAJ hb).symm.trans z
    by_cases hp:isP b
    ·have z2:=(YAO hp).symm.trans z'
     cases z2
     obtain⟨n,hn,rfl⟩:=hp
     exact hta n hn
    ·have z2:=(YAJ hp).symm.trans z'
     cases z2
  ·by_cases hb:b=a
   ·exact .inl ⟨hb,_,_,YAO hb⟩
   ·by_cases hp:isP b
    ·exact .inr ⟨hp,by rw[YAJ hb,YAO hp]⟩
    ·exact absurd (by rw[YAJ hb,YAJ hp]) z
  ·have nb:b≠a:=by obtain⟨n,hn,rfl⟩:=hb;exact aP n hn
   rw[YAJ nb,YAO hb]
theorem walk_ofT {l:PySem.W.OpenLaw}{n k:Nat}{q:Program}{loose:List Str}{XP:(Str→Option Value)→Heap→Prop}{YP:World→Heap→Prop}{d:DefRec}{K:Params→PySem.W.Frag}{CX:CXT}{sp:PySem.W.Frag→(Str→Addr×Addr)→Sp}{x:Str}(nms:List Str)
  (hn:l.most=some n) (hn2:n≤sizeLine) (hdf:d.params.defaults=[]) (hr:Room k callerA)
  (hY:∀(w:World) (h:Heap),YP w h→(K w.params).In h) (hKt:∀P:Params,Zi7 (K P)=true) (hnm:(nms.all fun n=>(recsOf q).any fun e=>e.name == n)=true)
  (F:∀(w:World) (mg:Str→Option Value) (fa:Addr) (h:Heap) (tb:Str→Addr×Addr),(K w.params).In h→h.Ns mainGlobals mg→mg d.name=some (.ref fa)→(∀n∈nms,TabOf mg h n (tb n).1 (tb n).2) →
   ∃fd:FuncData,(∀(s:Shared) (u:Value),BindsTo s fd ⟨[u],[]⟩ [(x,u)]) ∧
    ∀base:Heap,(K w.params).In base→base.Ns mainGlobals mg→(∀n∈nms,LamEnv base mg (tb n).1 (tb n).2)→FnOk l.prog w (K w.params) mg base CX k fa fd [x] (sp (K w.params) tb))
  (hsp:∀(K:PySem.W.Frag) (tb:Str→Addr×Addr) (H:Hp) (a:Addr) (ns:List Int),ns.length≤n→(∀n∈nms,H (tb n).2=some (.tbl #[]))→SqL K H a (ns.map V.int)→sp K tb [.ref a] H (fun v _=>v=.bl true) fun _ _ _=>False)
  (hCX:∀(H:Hp) (s:Shared) (e:Value) (s':Shared),CX [] H s (fun _ _ _=>False) e s'→False):
  PySem.W.WalkO q loose XP YP l.row.toRowW d [] (fun f vs=>PySem.call f vs):=by
 refine Att.attach_call hn hdf fun w s₀ s₁ mg mb fa o pm cd doc a vs ns G Y ho hd hcd hmg hobj hints hlen hg=>?_
 have KX:=hY w _ Y
 have ex:∀n:Str,∃cp:Addr×Addr,n∈nms→TabOf mg s₁.heap n cp.1 cp.2:=fun n=>by
  by_cases h:n∈nms
  ·rw[YBE]at hnm
   have:=hnm n h
   rw[List.any_eq_true]at this
   obtain⟨e,he,en⟩:=this
   have en:e.name=n:=by simpa using en
   obtain⟨a',o',fd',c,P,h1,h2,h3,h4,h5,h6⟩:=G.T.tab e he
   exact⟨(c,P),fun _=>⟨⟨a',o',fd',by rw[←en];exact h1,h2,h3,h4⟩,h5,h6⟩⟩
  ·exact⟨(0,0),fun z=>absurd z h⟩
 obtain⟨tb,htb⟩:=Classical.skolem.mp ex
 obtain⟨fd,hb,hF⟩:=F w mg fa _ tb KX G.T.g hmg htb
 exact ZhY KX G.T.g G.T.b G.T.builtins G.T.nolimit hg hobj hints (YAQ hlen hn2) hr htb (hKt _) G.T.bmain hF hb (fun H hP hS=>hsp (K w.params) tb H a ns hlen hP hS) fun H e s'=>hCX H s₁ e s'
section
variable {P:Program}{w:World}{K:PySem.W.Frag}{mg:Str→Option Value}{base:Heap}
theorem Fun.okC {x qual:Str}{st:Stmt}{f:Addr}{fd:FuncData}{N ps:List Str}{k:Nat}{sp:Sp}{c:Value}(F:Fun K x qual st f fd)(hc:fd.code=c)(S:FnScope N ps (Zag st))(len:∀vs H Q E,sp vs H Q E→vs.length=ps.length)
  (body:∀(A:Around) (outer:List Env) (s:Shared) (H:Hp) (vs:List V) (Q:VK) (E:XK),Room k (A.deeper (envOfC qual (Zag st) s.heap.objs.size f c))→sp vs H Q E →
   ∃t,PSs (cxOf CX0 P w K mg base N qual (Zag st) f c A outer s H E).nox (ZaP st) t∧t { nx:=fun _ H'=>Q .non H',rt:=Q } (start N vs) H):FnOk P w K mg base CX0 (k+1) f fd ps sp:=by
 obtain⟨⟨oc,od,kV,doc,pm,an,cdv,ct,osl,rfl,l,cc⟩,_⟩:=F
 obtain rfl:cdv=c:=hc
 refine Zjn l cc S len fun A outer s H vs Q E hr hsp=>?_
 obtain⟨t,h,q⟩:=body A outer s H vs Q E hr hsp
 exact⟨t,h.nox,q⟩
theorem Fun.at {x qual:Str}{st:Stmt}{f:Addr}{fd:FuncData}{h:Heap}(F:Fun K x qual st f fd)(KX:K.In h):∃o,h.get? f=some o∧o.data=.func fd:=by
 obtain⟨⟨oc,od,kV,doc,pm,an,cdv,ct,osl,rfl,l,cc⟩,_⟩:=F
 exact⟨_,KX _ _ l,rfl⟩
end
structure LamScope (N ps:List Str)(fr:Str)(scope:Scope):Prop where
 kind:scope.kind=.function
 co:scope.isCoroutine=false
 gen:scope.isGenerator=false
 nocell:∀x∈scope.names,x.2≠.cell
 par:∀x∈ps,scope.names.lookup x=some .local
 free:scope.names.lookup fr=some .free
 one:∀x∈scope.names,x.2=.free→x.1=fr
 nd:ps.Nodup
 names:N=ps++[fr]
def Zju (P:Program)(w:World)(K:PySem.W.Frag)(mg:Str→Option Value)(base:Heap)(N:List Str)(qual:Str)(scope:Scope)(g:Addr)(cd:Value)(cl:List (Str×Addr))(A:Around)(outer:List Env)(s:Shared)(H:Hp):Cx where
 prog:=P
 w:=w
 K:=K
 mg:=mg
 base:=base
 A:=A.deeper (envX qual scope s.heap.objs.size g cd cl)
 N:=N
 s₀:=s
 H₀:=H
 env:=envX qual scope s.heap.objs.size g cd cl
 outer:=outer
 stack:=envX qual scope s.heap.objs.size g cd cl::outer
 ex:=[]
 calm:=true
 fn:=fun _=>false
 pn:=[]
 xe:=fun _ _=>False
theorem Zcs {α β:Type}[BEq α][LawfulBEq α]:∀ {l:List (α×β)} {k:α} {v:β},(l.map (·.1)).Nodup→(k,v)∈l→l.lookup k=some v
 | [],_,_,_,h=>by cases h
 | (k',v')::r,k,v,nd,h=>by
  rw[YBD]
  rcases YAM.mp h with e | h'
  ·cases e;simp
  ·have nd':=YCN.mp nd
   have ne:k≠k':=fun z=>nd'.1 (by rw[←z];exact YBX.mpr ⟨(k,v),h',rfl⟩)
   have:(k == k')=false:=by simpa using ne
   rw[this]
   exact Zcs nd'.2 h'
theorem Zf1:∀ {ps:List Str} {us:List Value},us.length=ps.length→(ps.zip us).map (·.1)=ps
 | [],[],_=>rfl
 | [],_::_,h=>by cases h
 | _::_,[],h=>by cases h
 | p::ps,u::us,h=>by
  rw[List.zip_cons_cons,YAg,Zf1 (by simpa using h)]
theorem ZiD {ps:List Str}{us:List Value}{i:Nat}{y:Str}{u:Value}(nd:ps.Nodup)(hl:us.length=ps.length)(h1:ps[i]?=some y)(h2:us[i]?=some u):(ps.zip us).reverse.lookup y=some u:=by
 refine Zcs ?_ ?_
 ·rw[List.map_reverse,Zf1 hl]
  exact List.pairwise_reverse.mpr (nd.imp fun h=>h.symm)
 ·rw[YBT]
  exact YAe (i:=i) (by rw[List.getElem?_zip_eq_some];exact⟨h1,h2⟩)
section
variable {P:Program}{w:World}{K:PySem.W.Frag}{mg:Str→Option Value}{base:Heap}{N ps:List Str}{fr qual:Str}{scope:Scope}{g c c':Addr}{cd:Value}{A:Around}{outer:List Env}{s:Shared}{H:Hp}{us:List Value}{vs:List V}{u:Value}{v:V}
theorem Zk1 {h1:Heap}{tk:Nat}(S:LamScope N ps fr scope)(hd:A.handled=none)(e0:Env0 P w K mg base A outer s H)(hl:vs.length=ps.length)(r:Vals vs us)(hc:s.heap.IsCell c (some u))(hv:RelV v u)(hf:H c=none)
  (ns:h1.Ns s.heap.objs.size (fun x=>(ps.zip us).reverse.lookup x)) (hk:∀b o,s.heap.get? b=some o→h1.get? b=some o):
  Inv (Zju P w K mg base N qual scope g cd [(fr,c)] A outer s H) [] (vs.map some++[some v]) H { s with heap:=h1,toks:=tk }:=by
 have noA:∀b:Addr,b∉(Zju P w K mg base N qual scope g cd [(fr,c)] A outer s H).ex:=fun b z=>absurd (show b∈([]:List Addr) from z) (by simp)
 have lk:∀(y:Str) (d:Addr),([(fr,c)]:List (Str×Addr)).lookup y=some d→y=fr∧d=c:=fun y d h=>by
  rw[YBD]at h
  by_cases z:y=fr
  ·subst z
   simp at h
   exact⟨rfl,h.symm⟩
  ·have:(y == fr)=false:=by simpa using z
   rw[this]at h
   cases h
 have lf:([(fr,c)]:List (Str×Addr)).lookup fr=some c:=by simp[YBD]
 have hcell:h1.IsCell c (some u):=by
  obtain⟨o,e,rest⟩:=hc
  exact⟨o,hk _ _ e,rest⟩
 have hul:us.length=ps.length:=by rw[←r.length];exact hl
 refine⟨⟨e0.mod,S.kind,rfl,rfl,YAP _,fun y z d h1 h2=>?_,fun y hy=>?_,fun y d hfn _=>?_,fun _=>hd,Around.frames_deeper e0.frames,.inr ⟨rfl,rfl⟩,fun b z=>absurd z (noA b),e0.bs,e0.bsz,fun b _ _=>noA b,fun b z=>absurd z (noA b),e0.funs,e0.frf⟩,
  rfl,e0.bare,Un.kept hk,⟨_,ns,fun i y v' h1 h2 h3=>?_⟩,fun y d h=>?_,e0.hok.fresh (YAP _),fun y d h=>?_,fun p hp=>absurd (show p∈([]:List (Addr×Obj)) from hp) (by simp),e0.hok.kept hk,?_⟩
 ·exact(lk y d h1).1.trans (lk z d h2).1.symm
 ·have hy:scope.names.lookup y=some .cell∨scope.names.lookup y=some .free:=hy
  rcases hy with hy | hy
  ·exact absurd rfl (S.nocell _ (YBP hy))
  ·have:=S.one _ (YBP hy) rfl
   exact⟨c,by rw[show y=fr from this];exact lf⟩
 ·exact absurd (show false=true from hfn) YAE
 ·have h1:N[i]?=some y:=h1
  rw[S.names]at h1
  by_cases hi:i<ps.length
  ·rw[YAr hi]at h1
   rw[YAr (by rw[YAD];omega),YAk]at h2
   cases e:vs[i]? with
   | none=>rw[e]at h2;cases h2
   | some a=>
    rw[e]at h2;cases h2
    obtain⟨u',hu',rv⟩:=r.get e
    exact⟨u',rv,.inl ⟨S.par y (YAe h1),ZiD S.nd hul h1 hu'⟩⟩
  ·rw[YAn (by omega)]at h1
   rw[YAn (by rw[YAD];omega),YAD,hl]at h2
   cases hj:i-ps.length with
   | succ j=>rw[hj]at h1;simp at h1
   | zero=>
    rw[hj]at h1 h2
    have e1:fr=y:=by simpa using h1
    have e2:v=v':=by simpa using h2
    subst e1 e2
    exact⟨u,hv,.inr ⟨.inr S.free,c,lf,hcell⟩⟩
 ·exact⟨_,by rw[(lk y d h).2];exact hcell⟩
 ·rw[(lk y d h).2];exact hf
 ·show (vs.map some++[some v]).length=N.length
  rw[S.names,YAI,YAI,YAD,hl]
  rfl
theorem ZkR {CX:CXT}{k:Nat}{q:Str}{params:Arguments}{body:Expr}{pm ctv:Value}{Q:VK}{E:XK}(S:LamScope N ps fr scope)(hr:Room (k+1) A)(e0:Env0 P w K mg base A outer s H)(hl:vs.length=ps.length)(r:Vals vs us)
  (ho:s.heap.get? g=some (kla_obj "<lambda>" q params body scope [(fr,c)] pm c' ctv)) (hcd:s.heap.CodeRec (.ref c') q) (hb:BindsTo s (kla_fn "<lambda>" q params body scope [(fr,c)] pm (.ref c') ctv) ⟨us,[]⟩ (ps.zip us))
  (hc:s.heap.IsCell c (some u)) (hv:RelV v u) (hf:H c=none)
  (hbody:∃t,PE (Zju P w K mg base N q scope g (.ref c') [(fr,c)] A outer s H) body t∧t (vs.map some++[some v]) H Q):codeAny (model P w) A (.call (.ref g) ⟨us,[]⟩) (CR CX outer P w H s Q E) s:=by
 have lim:s.heap.NoLimit:=e0.mod.nolimit.keeps fun b o e=>(e0.bs b o e).1
 refine kla_callFunE hr.depth ho rfl S.co S.gen rfl hcd (hb _ _ _ _ ?_)
 refine wpAny_newFunctionEnv S.nocell (fun x hx=>S.par _ (List.of_mem_zip (show (x.1,x.2)∈_ from hx)).1) (fun h1 ns sb=>?_) S.kind
 have hk:∀b o,s.heap.get? b=some o→h1.get? b=some o:=fun b o e=>sb.extBut b o (YAY (YAG e)) (YAB _ e)
 refine⟨lim.keeps hk,kla_codeExpr ?_⟩
 have I:=Zk1 (qual:=q) (g:=g) (cd:=.ref c') (tk:=s.toks+(ps.zip us).length) S hr.hd e0 hl r hc hv hf ns hk
 obtain⟨t,ht,hq⟩:=hbody
 refine YBB (ht [] _ _ H _ I hq) (fun u s' ⟨v,H',J,rv,q⟩=>⟨v,H',J.os,J.bare,J.base,J.hok,rv,q⟩) fun e s' z=>z.elim
end
end L2
namespace L2
open PySem PySem.Spec PyProof.Rows
def ZjJ (f:Addr)(sp:Sp)(dvs:List V)(E:XK)(tf:TE)(t:TA):TE:=fun σ H Q=>tf σ H fun v H1=>v=.ref f∧t σ H1 fun vs H2=>sp (vs++dvs) H2 Q E
section
variable {X:Cx}{CX:CXT}{k:Nat}{f:Addr}{fd:FuncData}{ps:List Str}{sp:Sp}{ds:List Value}{dvs:List V}{E:XK}{e:Expr}{es:List Expr}{t:TA}{tf:TE}{x:Str}{p pos:Pos}
theorem ZcX (F:FnOk X.prog X.w X.K X.mg X.base CX k f fd ps sp)(hr:Room k X.A)(hf:PE X (.Name x p) tf)(hk:PySem.W.keepIn X.K (.ref f)=true)(hb:Binds X.K fd ps ds)(hd:Vals dvs ds)(hx:ZbD CX X E)
  (ha:PA X (e::es) t) (he:starEach (e::es) X.env=(false,eval e X.env)::starEach es X.env:=by rfl) (hpl:(backTo pos (starEach es X.env)).any (·.1)=false:=by rfl):
  PE X (.Call (.Name x p) (e::es) [] pos) (ZjJ f sp dvs E tf t):=by
 intro pins s σ H Q I h
 refine YBM (thn (hf pins s σ H _ I h) fun u s0 ⟨v,H0,I0,r0,ev,q0⟩=>?_)
 subst ev
 obtain rfl:u=Value.ref f:=r0
 refine YBo (h₀:=X.base) I0.ok.mod.kin hk (thn (ha pos pins s0 σ H0 _ I0 q0) fun us s1 ⟨vs,H1,I1,r,q⟩=>⟨I1.kIn,?_⟩) he hpl
 exact ZeI F hr hb hd hx I1 r q
end
end L2
namespace L2
open PySem PySem.Spec PyProof.Rows PySem.W
section
variable {P:Program}{w:World}{H H3:Hp}{h h3:Heap}{c:Addr}{o:Obj}{fs ex:List Addr}
end
def freeOf (l:List (Str×NameKind)):List Str:=(l.filter fun x=>x.2 == .free).map (·.1)
theorem Zb3 {env:Env}{c:Addr}:∀(l:List (Str×NameKind)) (acc:List (Str×Addr)),
  (freeOf l=[]→(forIn l acc (fun (x:Str×NameKind) (r:List (Str×Addr))=>(do if x.2 == .free then (do let a ←cellOf env x.1;pure (ForInStep.yield ((x.1,a)::r))) else pure (ForInStep.yield r):Sem (ForInStep (List (Str×Addr))))):Sem (List (Str×Addr)))=pure acc) ∧
  (∀n,freeOf l=[n]→env.cells.lookup n=some c→(forIn l acc (fun (x:Str×NameKind) (r:List (Str×Addr))=>(do if x.2 == .free then (do let a ←cellOf env x.1;pure (ForInStep.yield ((x.1,a)::r))) else pure (ForInStep.yield r):Sem (ForInStep (List (Str×Addr))))):Sem (List (Str×Addr)))=pure ((n,c)::acc))
 | [],acc=>⟨fun _=>by rw[List.forIn_nil],fun n h=>by cases h⟩
 | (n,k)::r,acc=>by
  by_cases z:k=.free
  ·subst z
   have e:freeOf ((n,NameKind.free)::r)=n::freeOf r:=rfl
   refine⟨fun h=>(by rw[e]at h;cases h),fun n' h hl=>?_⟩
   rw[e]at h
   have h1:n=n':=by injection h
   have h2:freeOf r=[]:=by injection h
   subst h1
   rw[YBw]
   have:(NameKind.free == NameKind.free)=true:=rfl
   simp only[this,if_true,cellOf,hl,pure_bind]
   exact(Zb3 (c:=c) r _).1 h2
  ·have zb:(k == NameKind.free)=false:=by simpa using z
   have e:freeOf ((n,k)::r)=freeOf r:=by unfold freeOf;rw[List.filter_cons];simp[zb]
   refine⟨fun h=>?_,fun n' h hl=>?_⟩
   ·rw[e]at h
    rw[YBw]
    simp only[zb,YBq,if_false,pure_bind]
    exact(Zb3 (c:=c) r _).1 h
   ·rw[e]at h
    rw[YBw]
    simp only[zb,YBq,if_false,pure_bind]
    exact(Zb3 r _).2 n' h hl
theorem ZdH {scope:Scope}{env:Env}{fr:Str}{c:Addr}(h:freeOf scope.names=[fr])(hl:env.cells.lookup fr=some c):closureFor scope env=pure [(fr,c)]:=by
 have g:=(Zb3 (env:=env) (c:=c) scope.names []).2 fr h hl
 unfold closureFor
 simp only[bind_pure]
 first
  | exact g
  | (refine Eq.trans ?_ g;congr 1;funext x r;obtain⟨n,k⟩:=x;simp)
section
variable {X:Cx}{pins:List (Addr×Obj)}{σ:St}{H:Hp}{s:Shared}
end
section
variable {X:Cx}{CX:CXT}{k:Nat}{f cc Pt:Addr}{fd:FuncData}{ps:List Str}{sp:Sp}{E:XK}{e1 e2 e3:Expr}{t1 t2 t3:TE}{x fr q:Str}{p pos lpos:Pos}{params:Arguments}{body:Expr}{scope:Scope}{i:Nat}
end
section
variable {X:Cx}{k:Nat}{N ps:List Str}{e:Expr}{es:List Expr}{t:TA}{tf tB:TE}{x fr q:Str}{p pos:Pos}{params:Arguments}{body:Expr}{scope:Scope}
end
def ZiC (n:Nat→Int)(i k:Nat):Prop:=∀j,j<k→n j≤n i∧(j<i→n j<n i)
def Znr (X:Cx)(pins:List (Addr×Obj))(σ:St)(H:Hp)(g:Addr)(ws:List (List Nat))(n:Nat→Int):Prop:=
 ∀(i:Nat) (w:List Nat) (v:Value) (H':Hp) (s':Shared),ws[i]?=some w→RelV (tx w) v→Inv X pins σ H' s'→Same H H' →
  wpAny (model X.prog X.w) X.A.in1 (call (.ref g) [v]) (fun u s''=>∃t H'',u=.int (n i) t∧Inv X pins σ H'' s''∧Same H' H''∧∀b o,s'.heap.get? b=some o→H' b=none→b∉frs X.stack→s''.heap.get? b=some o∧H'' b=none) (fun _ _=>False) s'
section
variable {X:Cx}{pins:List (Addr×Obj)}{σ:St}{H:Hp}{l I S g:Addr}{ws:List (List Nat)}{n:Nat→Int}{R:Result→Shared→Prop}
theorem FpOk.stk {b:Addr}{H' H'':Hp}{s:Shared}(f:FpOk X pins H' b)(J:Inv X pins σ H'' s):b∉frs X.stack:=fun hb=>by
 rcases YAM.mp (J.stkSub b hb) with e | hb
 ·exact f.2.1 e
 ·exact f.2.2.1 hb
theorem FpOk.to {b:Addr}{H' H'':Hp}(f:FpOk X pins H' b)(h:H'' b=none):FpOk X pins H'' b:=⟨h,f.2⟩
theorem Inv.touch {b:Addr}{H':Hp}{s:Shared}{h':Heap}{t':Nat}(J:Inv X pins σ H' s)(f:FpOk X pins H' b)(k:∀c o,c≠b→s.heap.get? c=some o→h'.get? c=some o):Inv X pins σ H' { s with heap:=h',toks:=t' }:=
 J.turned (t':=t') k f.1 f.2.1 f.2.2.2.1 f.2.2.2.2.1 f.2.2.2.2.2
theorem Zi9 (hh:X.A.handled=none)(hl:H l=some (.lst (ws.map tx)))(SI:S≠I)(key:Znr X pins σ H g ws n)
  (hR:∀i w v H' s',ws[i]?=some w→ZiC n i ws.length→RelV (tx w) v→Inv X pins σ H' s'→Same H H'→R (.ok (.ret v)) s'):
  ∀(r j i:Nat) (wb:List Nat) (H1:Hp) (s1:Shared) (vb:Value) (tb:Tok) (c:Nat),ws.length-(j+1)=r→j+1≤ws.length→Inv X pins σ H1 s1→Same H H1→FpOk X pins H1 I→FpOk X pins H1 S →
   s1.heap.get? S=some (seqObj "list" #[vb,.int (n i) tb] c)→s1.heap.IsListIter I l (j+1)→ws[i]?=some wb→RelV (tx wb) vb→i≤j→ZiC n i (j+1) →
   codeAny (model X.prog X.w) X.A (.builtin "max.loop" ⟨[.ref I,.ref g,.ref S],[]⟩) R s1:=by
 have nm:(toString "max"++toString ".loop":String)="max.loop":=by decide
 have hh1:X.A.in1.handled=none:=by simpa using hh
 intro r
 induction r with
 | zero=>
  intro j i wb H1 s1 vb tb c hr hj J sm fI fS oS it hwb rb hij hb
  obtain⟨_,its,nn,rl,hlen,eo⟩:=J.lstM (sm _ _ hl)
  have hn:its.length=ws.length:=by rw[←rl.length,YAD]
  refine codeAny_builtin PySem.F.entry_max_loop ?_
  rw[YBi YBl _]
  show wpAny _ X.A.in1 (seqItems? (.ref S) >>= _) _ _ _
  refine YAA (YBe oS rfl ?_)
  show wpAny _ X.A.in1 (tryCatch (pyNext (.ref I)) _ >>= _) _ _ _
  refine YAA (YDC (wpAny_pyNext_list_end hh1 it (YCA eo) (by simp;omega) fun h' k'=>?_))
  show wpAny _ X.A.in1 (updateSeq S (fun _=>#[]) >>= _) _ _ _
  refine YAA (YDQ (k' S _ SI oS) rfl (YAA (YDS (YAC ?_))))
  have J1:Inv X pins σ H1 { s1 with heap:=h',toks:=s1.toks }:=J.touch fI fun b o nb e=>k' b o nb e
  have sb:=YAa h' S (Obj.mapSeq fun _=>(#[]:Array Value))
  exact hR i wb vb H1 _ hwb (fun j' hj'=>hb j' (by omega)) rb (J1.touch fS fun b o nb e=>(sb.2 b nb).trans e) sm
 | succ r ih=>
  intro j i wb H1 s1 vb tb c hr hj J sm fI fS oS it hwb rb hij hb
  have hlt:j+1<ws.length:=by omega
  obtain⟨_,its,nn,rl,hlen,eo⟩:=J.lstM (sm _ _ hl)
  have hn:its.length=ws.length:=by rw[←rl.length,YAD]
  refine codeAny_builtin PySem.F.entry_max_loop ?_
  rw[YBi YBl _]
  show wpAny _ X.A.in1 (seqItems? (.ref S) >>= _) _ _ _
  refine YAA (YBe oS rfl ?_)
  show wpAny _ X.A.in1 (tryCatch (pyNext (.ref I)) _ >>= _) _ _ _
  have hv:its[j+1]?=some its[j+1]:=YAL (by omega)
  obtain⟨wv,tv,ewv,ev⟩:=Zfx rl hv
  generalize its[j+1]=v at hv ev
  have rv:RelV (tx wv) v:=⟨tv,ev⟩
  refine YAA (YDC (wpAny_pyNext_list_item it (YCA eo) (x:=v) (by simpa using hv) fun h' it' k'=>?_))
  have J2:Inv X pins σ H1 { s1 with heap:=h',toks:=s1.toks }:=J.touch fI fun b o nb e=>(k'.2 b nb).trans e
  show wpAny _ X.A.in1 (tryCatch (holding [v] (call (.ref g) [v])) _ >>= _) _ _ _
  refine YAA (YDC (YAy (YBB (key (j+1) wv v H1 _ ewv rv J2 sm) (fun u s3 he=>?_) fun _ _ z=>z.elim)))
  obtain⟨t2,H3,rfl,J3,sm3,keep⟩:=he
  obtain⟨oI,eI,cI,dI⟩:=id it'
  obtain⟨eI3,nI3⟩:=keep I oI eI fI.1 (fI.stk J)
  obtain⟨oS3,nS3⟩:=keep S _ ((k'.2 S SI).trans oS) fS.1 (fS.stk J)
  have it3:s3.heap.IsListIter I l (j+1+1):=⟨oI,eI3,cI,dI⟩
  show wpAny _ X.A.in1 (tryCatch (holding [v,.int (n (j+1)) t2] (richCompare .Gt (.int (n (j+1)) t2) (.int (n i) tb) >>= _)) _ >>= _) _ _ _
  refine YAA (YDC (YAy (YAA (CmpOf.ints_gt (prog:=X.prog) (w:=X.w) (A:=X.A.in1) (P:=fun i v=>∃t,v=.int (n i) t) n (fun i v h=>h) (j+1) i _ _ _ _ _ ⟨t2,rfl⟩ ⟨tb,rfl⟩ ?_))))
  refine YAA (YAy (YBs (YAA (YDS (YAC ?_)))))
  by_cases gt:n (j+1)>n i
  ·simp only[gt,decide_true,if_true]
   refine YAA (YDQ oS3 rfl (YAA (YDS ?_)))
   rw[nm]
   have sb:=YAa s3.heap S (Obj.mapSeq fun _=>#[v,.int (n (j+1)) t2])
   refine YAC ⟨plainId_quiet YBl _,ih (j+1) (j+1) wv H3 _ v t2 _ (by omega) hlt (J3.touch (t':=s3.toks) (fS.to nS3) fun b o nb e=>(sb.2 b nb).trans e) (sm.trans sm3) (fI.to nI3) (fS.to nS3) (get?_update_seq oS3 fun _=>#[v,.int (n (j+1)) t2]) (it3.at fun o e=>(sb.2 I SI.symm).trans e) ewv rv (YAP _) fun j' hj'=>?_⟩
   by_cases e:j'=j+1
   ·subst e;exact⟨Int.le_refl _,fun z=>absurd z (YAt _)⟩
   ·have:=(hb j' (by omega)).1
    exact⟨by omega,fun _=>by omega⟩
  ·simp only[gt,decide_false,YBq,if_false]
   refine YAA (YDS ?_)
   rw[nm]
   refine YAC ⟨plainId_quiet YBl _,ih (j+1) i wb H3 s3 vb tb c (by omega) hlt J3 (sm.trans sm3) (fI.to nI3) (fS.to nS3) oS3 it3 hwb rb (by omega) fun j' hj'=>?_⟩
   by_cases e:j'=j+1
   ·subst e;exact⟨by omega,fun z=>by omega⟩
   ·exact hb j' (by omega)
theorem ZkM {Q:Value→Shared→Prop}{E:Value→Shared→Prop}{s:Shared}(hh:X.A.handled=none)(J:Inv X pins σ H s)(hl:H l=some (.lst (ws.map tx)))(h0:0<ws.length)(key:Znr X pins σ H g ws n)
  (hQ:∀i w v H' s',ws[i]?=some w→ZiC n i ws.length→RelV (tx w) v→Inv X pins σ H' s'→Same H H'→Q v s'):
  wpAny (model X.prog X.w) X.A (call (.builtin "max") [.ref l] [(Str.ofString "key",.ref g)]) Q E s:=by
 have nm:(toString "max"++toString ".loop":String)="max.loop":=by decide
 have hh1:X.A.in1.handled=none:=by simpa using hh
 obtain⟨_,its,nn,rl,hlen,eo⟩:=J.lstM hl
 have hn:its.length=ws.length:=by rw[←rl.length,YAD]
 refine kmk_tree PySem.F.kind_max PySem.F.plain_max PySem.F.entry_max (kmk_max_key _ _) ?_
 show wpAny _ X.A.in1 (Builtin.Builtins.bindParams "max" ["key","default"] 0 ⟨[],[(Str.ofString "key",.ref g)]⟩ >>= _) _ _ s
 refine YAA (wpAny_of_eq (show Builtin.Builtins.bindParams "max" ["key","default"] 0 ⟨[],[(Str.ofString "key",.ref g)]⟩=pure [some (.ref g),none] from rfl) (YAA (YAC (YAA (YCj (YCA eo) (YAA (YDN ?_ (YBI _))))))))
 rw[nm]
 refine YAC ⟨plainId_quiet YBl _,?_⟩
 generalize gI:(s.heap.push { cls:=.type "list_iterator",data:=.fields #[.ref l,.int 0 0] })=h1
 have z1:h1.objs.size=s.heap.objs.size+1:=by rw[←gI];exact size_push' ..
 have k0:∀b o,s.heap.get? b=some o→(h1.push (seqObj "list" #[] 0)).get? b=some o:=fun b o e=>YAB _ (by rw[←gI];exact YAB _ e)
 have oI:(h1.push (seqObj "list" #[] 0)).IsListIter s.heap.objs.size l 0:=⟨_,YAB _ (by rw[←gI];exact YAF _ rfl),rfl,rfl⟩
 have oS:(h1.push (seqObj "list" #[] 0)).get? h1.objs.size=some (seqObj "list" #[] 0):=YAF _ rfl
 have SI:h1.objs.size≠s.heap.objs.size:=by omega
 have fI:FpOk X pins H s.heap.objs.size:=J.fpOk (YAP _) (J.hok.fresh (YAP _))
 have fS:FpOk X pins H h1.objs.size:=J.fpOk (by omega) (J.hok.fresh (by omega))
 have J1:Inv X pins σ H { s with heap:=h1.push (seqObj "list" #[] 0),toks:=s.toks }:=J.kept (t':=s.toks) k0
 generalize s.heap.objs.size=I at oI fI SI
 generalize h1.objs.size=S at oS fS SI
 refine codeAny_builtin PySem.F.entry_max_loop ?_
 rw[YBi YBl _]
 show wpAny _ X.A.in1 (seqItems? (.ref S) >>= _) _ _ _
 refine YAA (YBe oS rfl ?_)
 show wpAny _ X.A.in1 (tryCatch (pyNext (.ref I)) _ >>= _) _ _ _
 have hv:its[0]?=some its[0]:=YAL (by omega)
 obtain⟨wv,tv,ewv,ev⟩:=Zfx rl hv
 generalize its[0]=v at hv ev
 have rv:RelV (tx wv) v:=⟨tv,ev⟩
 refine YAA (YDC (wpAny_pyNext_list_item oI ((YCA eo).at fun o e=>k0 l o e) (x:=v) (by simpa using hv) fun h' it' k'=>?_))
 have J2:Inv X pins σ H { s with heap:=h',toks:=s.toks }:=J1.touch (t':=s.toks) fI fun b o nb e=>(k'.2 b nb).trans e
 show wpAny _ X.A.in1 (tryCatch (holding [v] (call (.ref g) [v])) _ >>= _) _ _ _
 refine YAA (YDC (YAy (YBB (key 0 wv v H _ ewv rv J2 (Same.refl _)) (fun u s3 he=>?_) fun _ _ z=>z.elim)))
 obtain⟨t2,H3,rfl,J3,sm3,keep⟩:=he
 obtain⟨oo,eI,cI,dI⟩:=id it'
 obtain⟨eI3,nI3⟩:=keep I oo eI fI.1 (fI.stk J)
 obtain⟨oS3,nS3⟩:=keep S _ ((k'.2 S SI).trans oS) fS.1 (fS.stk J)
 have it3:s3.heap.IsListIter I l (0+1):=⟨oo,eI3,cI,dI⟩
 show wpAny _ X.A.in1 (updateSeq S (fun _=>#[v,.int (n 0) t2]) >>= _) _ _ _
 refine YAA (YDQ oS3 rfl ?_)
 rw[nm]
 have sb:=YAa s3.heap S (Obj.mapSeq fun _=>#[v,.int (n 0) t2])
 refine YAC ⟨plainId_quiet YBl _,Zi9 hh hl SI key (fun i w v H' s' a b c d e=>hQ i w v H' s' a b c d e) _ 0 0 wv H3 _ v t2 _ rfl (by omega) (J3.touch (t':=s3.toks) (fS.to nS3) fun b o nb e=>(sb.2 b nb).trans e) sm3 (fI.to nI3) (fS.to nS3) (get?_update_seq oS3 fun _=>#[v,.int (n 0) t2]) (it3.at fun o e=>(sb.2 I SI.symm).trans e) ewv rv (YAP _) fun j' hj'=>?_⟩
 have e:j'=0:=by omega
 subst e;exact⟨Int.le_refl _,fun z=>absurd z (YAt _)⟩
end
theorem Zll:bootBuiltins "max"=some (.builtin "max"):=rfl
section
variable {X:Cx}{k:Nat}{N:List Str}{x1 fr q:Str}{e:Expr}{ta:TA}{tB:TE}{p pos kpos lpos:Pos}{cc Pt:Addr}{params:Arguments}{body:Expr}{scope:Scope}{i:Nat}
def Zhr (Pt:Addr)(lpos:Pos)(q:Str)(i:Nat)(tB:TE)(ta:TA):TE:=fun σ H Q=>ta σ H fun vs H1=>∃(a:Addr) (ws:List (List Nat)) (n:Nat→Int) (v:V),vs=[.ref a]∧H1 a=some (.lst (ws.map tx))∧0<ws.length∧σ[i]?=some (some v)∧TblOk H1 Pt lpos q ∧
 ∀H2,SameT lpos H1 H2→TblOk H2 Pt lpos q→(∀j w H3,ws[j]?=some w→Same H2 H3→tB [some (tx w),some v] H3 fun r H4=>r=.int (n j)∧Same H3 H4)∧∀j w H3,ws[j]?=some w→ZiC n j ws.length→Same H2 H3→Q (tx w) H3
theorem ZhJ (hr:Room (k+2) X.A) (hc:X.calm=true) (hg:Gl X "max") (hm:X.mg "max"=none) (L:LamEnv X.base X.mg cc Pt) (hcode:X.env.code=.ref cc) (hcl:∀c,X.env.cells.lookup fr=some c→closureFor scope X.env=pure [(fr,c)]) (hdef:defaultsOf params X.env=([],[])) (hq:X.env.qual++"<lambda>"=q)
  (hN:X.N[i]?=some fr) (hkd:X.env.kindOf fr=some .cell) (S:LamScope N [x1] fr scope)
  (hb:∀(s:Shared) (us:List Value) (c c':Addr) (pm ctv:Value),us.length=1→BindsTo s (kla_fn "<lambda>" q params body scope [(fr,c)] pm (.ref c') ctv) ⟨us,[]⟩ ([x1].zip us))
  (hbody:∀(A:Around) (outer:List Env) (s:Shared) (H:Hp) (g c c':Addr),Room k (A.deeper (envX q scope s.heap.objs.size g (.ref c') [(fr,c)]))→PE (Zju X.prog X.w X.K X.mg X.base N q scope g (.ref c') [(fr,c)] A outer s H) body tB) (ha:PA X [e] ta)
  (he:backTo pos (starEach [e] X.env)=(false,eval e X.env)::backTo pos (starEach [] X.env):=by rfl) (hpl:(backTo pos (starEach [e] X.env)).any (·.1)=false:=by rfl):
  PE X (.Call (.Name "max" p) [e] [⟨some "key",.Lambda params body scope lpos,kpos⟩] pos) (Zhr Pt lpos q i tB ta):=by
 intro pins s σ H Q I h
 refine YBM (ZcL I hg hm Zll ?_)
 refine PyProof.Rows.callWith_kw (thn (ha pos pins s σ H _ I h) fun us s1 ⟨vs,H1,I1,r1,q1⟩=>?_) he hpl
 obtain⟨a,ws,n,v,rfl,hH,h0,hv,T,q1⟩:=q1
 show wpAny _ _ (evalAll ((do let v ←eval (.Lambda params body scope lpos) X.env;standAt pos;pure v)::[])) _ _ s1
 obtain⟨c,hlk⟩:=I1.ok.has fr (.inl hkd)
 refine wpAny_evalAll_cons (YAA (Ze2 I1 L hcode (hcl c hlk) hdef hq T fun H2 h' tk c' ctv st T2 fr2 J hrec hc'=>YAA (YDM (YAC (wpAny_evalAll_nil ?_)))))
 obtain⟨u,rfl,ru⟩:=r1.one
 cases ru
 have ng:H2 h'.objs.size=none:=J.hok.fresh (YAP _)
 have s23:Same H2 (upd H2 h'.objs.size (.frz (kla_obj "<lambda>" q params body scope [(fr,c)] ((X.mg "__name__").getD .none) c' ctv) (.own h'.objs.size))):=ZaF ng
 have J3:=J.laid (a:=h'.objs.size) (o:=.frz (kla_obj "<lambda>" q params body scope [(fr,c)] ((X.mg "__name__").getD .none) c' ctv) (.own h'.objs.size)) (t':=tk) (fun b o e=>YAB (kla_obj "<lambda>" q params body scope [(fr,c)] ((X.mg "__name__").getD .none) c' ctv) e) (YAP _) ⟨YAF _ rfl,_,YAF _ rfl⟩
 have g3:upd H2 h'.objs.size (.frz (kla_obj "<lambda>" q params body scope [(fr,c)] ((X.mg "__name__").getD .none) c' ctv) (.own h'.objs.size)) h'.objs.size=some (.frz (kla_obj "<lambda>" q params body scope [(fr,c)] ((X.mg "__name__").getD .none) c' ctv) (.own h'.objs.size)):=Zae
 generalize upd H2 h'.objs.size (.frz (kla_obj "<lambda>" q params body scope [(fr,c)] ((X.mg "__name__").getD .none) c' ctv) (.own h'.objs.size))=H3 at s23 J3 g3
 obtain⟨hkey,q2⟩:=q1 H3 (st.then s23) (T2.same s23)
 have hH3:H3 a=some (.lst (ws.map tx)):=s23 _ _ (st.1 _ _ hH rfl)
 refine ZkM (I1.ok.hd hc) J3 hH3 h0 (n:=n) (fun j w vw H' s' hw rw_ J' sm=>?_) fun j w vw H' s' hw mo rw_ J' sm=>⟨tx w,H',J',rw_,q2 j w H' hw mo sm⟩
 obtain⟨m,ns,lo⟩:=id J'.loc
 obtain⟨u,ru,lk⟩:=lo i fr v hN hv (.inr (.inl hkd))
 have hcell:s'.heap.IsCell c (some u):=by
  rcases lk with⟨z,_⟩|⟨_,c2,a,b⟩
  ·rw[hkd]at z;cases z
  ·rw[hlk]at a;cases a;exact b
 have og:=(J'.hok _ _ (sm _ _ g3)).1
 have oc:=(J'.hok _ _ (sm _ _ (s23 _ _ hc'))).1
 refine YCJ (codeAny_mono (ZkR (CX:=fun _ _ _ _ _ _=>False) (E:=fun _ _ _=>True) (Q:=fun r H4=>r=.int (n j)∧Same H' H4) (vs:=[tx w]) (us:=[vw]) S hr.in1 J'.env0.in1 rfl (.cons rw_ .nil) og oc (hb s' [vw] c c' _ ctv rfl) hcell ru (J'.freeC fr c hlk) ⟨tB,hbody X.A.in1 X.stack s' H' _ c c' (hr.in1.deeper _),hkey j w H' hw sm⟩) fun r s'' hq'=>?_)
 cases r with
 | error e=>exact False.elim hq'
 | ok fl=>
  cases fl with
  | ret ur=>
   obtain⟨vr,H6,os,bare,un,hok,rr,rfl,sm6⟩:=hq'
   obtain⟨t,rfl⟩:=rr
   exact⟨t,H6,rfl,J'.call' os un hok bare (fun b z=>by cases z),sm6,fun b o e nb hfs=>⟨un.keep b o e nb hfs (fun z=>by cases z),un.free b o e nb (fun z=>by cases z)⟩⟩
  | next=>exact False.elim hq'
  | brk=>exact False.elim hq'
  | cont=>exact False.elim hq'
end
end L2
namespace L2
open PySem PySem.Spec PyProof.Rows
structure Lin {α:Type}(lt:α→α→Bool):Prop where
 asym:∀a b,lt a b=true→lt b a=false
 trans:∀a b c,lt a b=true→lt b c=true→lt a c=true
 tri:∀a b,lt a b=false→lt b a=false→a=b
section
variable {prog:Program}{w:World}{A:Around}{E:Value→Shared→Prop}{s:Shared}
end
section
variable {prog:Program}{w:World}{A:Around}{E:Value→Shared→Prop}{s:Shared}
end
section
variable {X:Cx}
end
def fpl (l w:List Nat):Nat:=((List.range (l.length+1)).find? fun i=>decide (i+w.length≤l.length)&&decide ((l.drop i).take w.length=w)).getD 0
theorem ZjZ {l w:List Nat}{i:Nat}(h:AtW l w i)(hm:∀j,j<i→¬AtW l w j):fpl l w=i:=by
 unfold fpl
 have:((List.range (l.length+1)).find? fun i=>decide (i+w.length≤l.length)&&decide ((l.drop i).take w.length=w))=some i:=by
  rw[List.find?_range_eq_some]
  refine⟨by rw[decide_eq_true h.1,decide_eq_true h.2];rfl,YAq.mpr (by have:=h.1;omega),fun j hj=>?_⟩
  rw[Bool.not_eq_true',Bool.and_eq_false_iff,decide_eq_false_iff_not,decide_eq_false_iff_not]
  by_cases c:j+w.length≤l.length
  ·exact .inr fun z=>hm j hj ⟨c,z⟩
  ·exact .inl c
 rw[this];rfl
theorem Zfr {a b:List Nat}(h1:BefW a b)(h2:BefW b a):False:=by
 rcases h1 with h1 | ⟨h1,k1⟩<;>rcases h2 with h2 | ⟨h2,k2⟩
 ·omega
 ·omega
 ·omega
 ·exact List.lt_asymm k1 k2
theorem Zbx:∀ {a b:List (List Nat)},a.Pairwise BefW→b.Pairwise BefW→(∀x,x∈a↔x∈b)→a=b
 | [],[],_,_,_=>rfl
 | [],y::b,_,_,h=>by have:=(h y).mpr YAd;cases this
 | x::a,[],_,_,h=>by have:=(h x).mp YAd;cases this
 | x::a,y::b,ha,hb,h=>by
  have pa:=YBN.mp ha
  have pb:=YBN.mp hb
  have e:x=y:=by
   rcases YAM.mp ((h x).mp YAd) with z | z
   ·exact z
   ·rcases YAM.mp ((h y).mpr YAd) with z2 | z2
    ·exact z2.symm
    ·exact(Zfr (pb.1 x z) (pa.1 y z2)).elim
  subst e
  congr 1
  refine Zbx pa.2 pb.2 fun z=>?_
  constructor
  ·intro hz
   rcases YAM.mp ((h z).mp (YAZ _ hz)) with e | e
   ·rw[e]at hz;exact(Zc1 (pa.1 x hz)).elim
   ·exact e
  ·intro hz
   rcases YAM.mp ((h z).mpr (YAZ _ hz)) with e | e
   ·rw[e]at hz;exact(Zc1 (pb.1 x hz)).elim
   ·exact e
theorem ZfN {x y:List Nat}(e:kTx x=kTx y):x=y:=by unfold kTx at e;injection e with e;injection e with e;injection e
def eqTx (w:List Nat)(v:Value):Bool:=match v with
 | .str x _=>decide (x.cps.toList=w)
 | _=>false
theorem Zle {w:List Nat}{v:Value}{x:List Nat}(h:RelV (tx x) v):eqTx w v=decide (x=w):=by
 obtain⟨t,rfl⟩:=h
 simp[eqTx]
theorem Zfl {w:List Nat}:∀ {ws:List (List Nat)} {vs:List Value},Vals (ws.map tx) vs→vs.countP (eqTx w)=ws.count w
 | [],_,.nil=>rfl
 | x::ws,_,.cons h r=>by
  rw[List.countP_cons,List.count_cons,Zfl (ws:=ws) r,Zle h]
  by_cases e:x=w
  ·simp[e]
  ·simp[e]
theorem Zgo {X:Cx}:MtM X "list.count" (fun x vs H Q=>∃(l:Addr) (ws:List (List Nat)) (w:List Nat),x=.ref l∧vs=[tx w]∧H l=some (.lst (ws.map tx))∧Q (.int (ws.count w:Nat)) H):=by
 rintro pins s σ H x vs v us Q I rx rv ⟨l,ws,w,rfl,rfl,hl,q⟩
 cases rx
 obtain⟨u,rfl,t,rfl⟩:=rv.one
 obtain⟨z,its,n,r,hlen,e⟩:=I.lstM hl
 refine call_meets PySem.F.slot_list_count ⟨_,e,rfl⟩ PySem.F.entry_list_count (PySem.F.args_list_count_2 _ _) (SeqAt.list_countAt l its.toArray n none #[] (.str ⟨w.toArray⟩ t) (eqTx w)) ⟨e,fun y hy=>?_,?_⟩
 ·have hy':y∈its:=by simpa using hy
  obtain⟨k,hk⟩:=List.mem_iff_getElem?.mp hy'
  obtain⟨m,t2,hm,rfl⟩:=Zfx r hk
  have:=(eqGives_str (⟨m.toArray⟩:Str) ⟨w.toArray⟩ t2 t).at X.A.in1 s
  have eb:((⟨m.toArray⟩:Str) == ⟨w.toArray⟩)=eqTx w (.str ⟨m.toArray⟩ t2):=by
   rw[YBG,beq_iff_eq]
   simp[eqTx]
  rw[←eb]
  exact this
 ·rw[show its.toArray.toList=its from rfl,Zfl r]
  exact⟨.int _,H,I.tok _,⟨_,rfl⟩,q⟩
theorem Fun.okCX {P:Program}{w:World}{K:PySem.W.Frag}{mg:Str→Option Value}{base:Heap}{x qual:Str}{st:Stmt}{f:Addr}{fd:FuncData}{N ps:List Str}{k:Nat}{sp:Sp}{c:Value}(F:Fun K x qual st f fd)(hc:fd.code=c)(S:FnScope N ps (Zag st))(len:∀vs H Q E,sp vs H Q E→vs.length=ps.length)
  (body:∀(A:Around) (outer:List Env) (s:Shared) (H:Hp) (vs:List V) (Q:VK) (E:XK),Room k (A.deeper (envOfC qual (Zag st) s.heap.objs.size f c))→sp vs H Q E →
   ∃t,PSs (cxOf (CXr P w) P w K mg base N qual (Zag st) f c A outer s H E) (ZaP st) t∧t { nx:=fun _ H'=>Q .non H',rt:=Q } (start N vs) H):FnOk P w K mg base (CXr P w) (k+1) f fd ps sp:=by
 obtain⟨⟨oc,od,kV,doc,pm,an,cdv,ct,osl,rfl,l,cc⟩,_⟩:=F
 obtain rfl:cdv=c:=hc
 exact Zjn l cc S len fun A outer s H vs Q E hr hsp=>body A outer s H vs Q E hr hsp
theorem ZhA:∀ {Ds:List Addr} {us:List Value},Vals (Ds.map V.ref) us→us=Ds.map Value.ref
 | [],_,.nil=>rfl
 | _::_,_,.cons a b=>by
  cases (show _=Value.ref _ from a)
  rw[ZhA b,YAg]
theorem Zew {X:Cx}{K:PySem.W.Frag}(hK:X.K=K):Zch X (.builtin "isinstance") (fun xs H Q=>∃(e:Addr) (C:Addr) (fs:List (Str×V)) (p:Addr) (Ds:List Addr) (b:Bool),xs=[.ref e,.ref p]∧H p=some (.tup (Ds.map V.ref))∧XAny H e C fs∧Xi K C∧PySem.W.kitAny K (.ref C) (Ds.map Value.ref)=some b∧Q (.bl b) H):=by
 subst hK
 rintro pins s σ H xs us Q I r ⟨e,C,fs,p,Ds,b,rfl,hp,xa,i,ek,q⟩
 obtain⟨u,v,rfl,ru,rv⟩:=r.two
 cases rv
 cases ru
 obtain⟨_,its,r2,o,ho,hc,n,hd⟩:=I.hok p _ hp
 have ei:=ZhA r2
 subst ei
 obtain⟨ox,od,J,_⟩:=xa.inst I
 obtain⟨oc,odd,odt,osl⟩:=o
 cases hc
 cases hd
 exact PySem.W.kia_tup (Zei i) I.kIn J ho ek (fun z=>nomatch z) fun tk=>⟨.bl b,H,I.tok _,rfl,q⟩
end L2
namespace L2
open PySem PySem.Spec PyProof.Rows
open PySem.W (Frag)
theorem Zgn {X:Cx}:MtM X "str.find" (fun x vs H Q=>∃l w,x=tx l∧vs=[tx w]∧∀r:Int,((r=-1∧¬Inf w l)∨∃i:Nat,r=(i:Int)∧AtW l w i∧∀j,j<i→¬AtW l w j)→Q (.int r) H):=by
 rintro pins s σ H x vs v us Q I rx rv ⟨l,w,rfl,rfl,q⟩
 obtain⟨t,rfl⟩:=rx
 obtain⟨u,rfl,t',rfl⟩:=rv.one
 refine SC.find ?_
 refine⟨.int _,H,I.tok _,⟨_,rfl⟩,q _ ?_⟩
 rcases find_whole (⟨l.toArray⟩:Str) ⟨w.toArray⟩ with⟨h1,h2⟩|⟨i,h1,h2,h3⟩
 ·exact .inl ⟨h1,fun ⟨i,hi⟩=>h2 i ((ZbL l w i).mpr hi)⟩
 ·exact .inr ⟨i,h1,(ZbL l w i).mp h2,fun j hj hA=>h3 j hj ((ZbL l w j).mpr hA)⟩
section
variable {τ0:St}{tt:TT}{te:TE}{H:Hp}{Q:VK}
end
section
variable {X:Cx}{pos:Pos}
def Zkd (tk tv:TE):TE:=fun σ H Q=>∀p,H p=none→tk σ (upd H p (.dT [])) fun x H1=>tv σ H1 fun y H2=>∃b ks,x=.ref b∧H2 b=some (.tup (ks.map kV))∧H2 p=some (.dT [])∧Q (.ref p) (upd H2 p (.dT [(ks,y)]))
end
end L2
namespace L2
open PySem PySem.Spec PyProof.Rows PySem.Builtin.Str
def tOr2 (t1 t2:TE):TE:=fun σ H Q=>t1 σ H Q∨t2 σ H Q
theorem Zdg {X:Cx}{e:Expr}{t1 t2:TE}(h1:PE X e t1)(h2:PE X e t2):PE X e (tOr2 t1 t2):=fun pins s σ H Q I h=>h.elim (h1 pins s σ H Q I) (h2 pins s σ H Q I)
section
variable {X:Cx}
end
end L2
namespace L2
open PySem PySem.W
def DG (K:Frag)(x:Str)(s:Stmt)(f:Addr)(e:FuncData):Prop:=nsIn K mainGlobals x=some (some (.ref f))∧Fun K x x s f e
def MG (K:Frag)(x q:Str)(s:Stmt)(f:Addr)(e:FuncData):Prop:=Fun K x q s f e∧PySem.W.isFn K (.ref f)=true
structure XG (K:Frag)(x:Str)(C:Addr)(L:List Value):Prop where
 a:nsIn K mainGlobals x=some (some (.ref C))
 m:Xm K C
 i:Xi K C
 k:ClsOk K C L
theorem xg_mk {K:Frag} {x:Str} {C:Addr} {L:List Value} {cd:ClassData} {nm qn:Str} {N:Addr} {bs bm:List Value} {hdct:Bool} {sn:List Str} {sub:List Value} {ab:Bool} {col:Option Bool} {dd:Option Addr} {k0 k1 k2 k3 k5:Option Value} (a:nsIn K mainGlobals x=some (some (.ref C))) (q:clsIn K C=some cd) (r:cd.mro=L) (ty:typeIn K (.ref C)=some (.type "type"))
  (ga:findIn K (.ref C) "__getattribute__"=some (some (.builtin "BaseException.__getattribute__"))) (gr:findIn K (.ref C) "__getattr__"=some none) (sa:findIn K (.ref C) "__setattr__"=some (some (.builtin "object.__setattr__"))) (hd:PySem.W.hasDictIn K C=true)
  (ob:K.lookup C=some (excClassObj nm qn C N bs bm hdct sn sub ab col dd k0 k1 k2 k3 k5 "ValueError.__new__")) (kp:PySem.W.keepIn K (.ref C)=true) (ha:findIn K (.ref C) "__class__"=some (some (.builtin "object.__class__")))
  (hn:specialIn K (.builtin "object.__class__") "__get__"=some (some (.builtin "getset_descriptor.__get__"))) (tk:PySem.W.takesIn K (.builtin "object.__class__")=some true) (x1:xmro L=true) (x2:L.isEmpty=false):XG K x C L:=
 have c:Xc K C:=⟨ga,gr,sa,hd,by rw[q];show xmro cd.mro=true;rw[r];exact x1⟩
 ⟨a,⟨c,⟨_,_,_,_,_,_,_,_,_,_,_,_,_,_,_,_,ob⟩,kp⟩,⟨c,ha,hn,tk⟩,⟨⟨_,q,r⟩,ty,x2⟩⟩
theorem dg_mk {K:Frag}{x:Str}{st:Stmt}{f:Addr}{oc:Value}{od an:Option Addr}{osl:Array (Option Value)}{kV doc pm cdv ct:Value}(a:nsIn K mainGlobals x=some (some (.ref f)))(l:K.lookup f=some ⟨oc,od,.func (PySem.W.fnOf x x (ZbT st) (ZaP st) (Zag st) .none kV doc pm an cdv ct),osl⟩)
  (c:PySem.W.codeIn K cdv x=true) (k:PySem.W.keepIn K (.ref f)=true):DG K x st f (PySem.W.fnOf x x (ZbT st) (ZaP st) (Zag st) .none kV doc pm an cdv ct):=⟨a,ZjY l c k⟩
theorem mg_mk {K:Frag}{x q:Str}{st:Stmt}{f:Addr}{oc:Value}{od an:Option Addr}{osl:Array (Option Value)}{kV doc pm cdv ct:Value}(l:K.lookup f=some ⟨oc,od,.func (PySem.W.fnOf x q (ZbT st) (ZaP st) (Zag st) .none kV doc pm an cdv ct),osl⟩)
  (c:PySem.W.codeIn K cdv q=true) (k:PySem.W.keepIn K (.ref f)=true) (n:PySem.W.isFn K (.ref f)=true):MG K x q st f (PySem.W.fnOf x q (ZbT st) (ZaP st) (Zag st) .none kV doc pm an cdv ct):=⟨ZjY l c k,n⟩
end L2
namespace L2
open PySem PySem.Spec PyProof.Rows
def noStar:Expr→Bool
 | .Starred ..=>false
 | _=>true
theorem Zkj {e:Expr}{es:List Expr}{env:Env}(h:noStar e=true):starEach (e::es) env=(false,eval e env)::starEach es env:=by
 cases e<;>first | rfl | cases h
def Zpd:Stmt→List Expr
 | .Return (some (.Subscript (.List es _) _ _)) _=>es
 | .Assign _ (.List es _) _=>es
 | .Assign _ (.Subscript (.List es _) _ _) _=>es
 | .For _ (.List es _) _ _ _=>es
 | _=>[]
def Zpc (es:List Expr):Stmt→Stmt
 | .Return (some (.Subscript (.List _ p) i q)) r=>.Return (some (.Subscript (.List es p) i q)) r
 | .Assign g (.List _ p) q=>.Assign g (.List es p) q
 | .Assign g (.Subscript (.List _ p) i q) r=>.Assign g (.Subscript (.List es p) i q) r
 | .For g (.List _ p) b o r=>.For g (.List es p) b o r
 | s=>s
structure PAz (X:Cx)(es:List Expr)(t:TA):Prop where
 h:PA X es t
theorem ZkD {X:Cx}:PAz X [] tNil:=⟨Zab⟩
theorem Za9 {X:Cx}{e:Expr}{es:List Expr}{te:TE}{t:TA}(ha:PE X e te)(hr:PAz X es t)(h:noStar e=true:=by rfl):PAz X (e::es) (Zkf te t):=⟨Zaa ha hr.h (Zkj h)⟩
theorem ZkB {X:Cx}{es:List Expr}{t:TA}{pos:Pos}(ha:PAz X es t):PE X (.List es pos) (tLst t):=Zdh ha.h
def Ext (s L:List Nat):Prop:=(∃c,L=s++[c])∨∃c,L=c::s
theorem Ext.len {s L:List Nat}(h:Ext s L):L.length=s.length+1:=by
 rcases h with⟨c,rfl⟩|⟨c,rfl⟩<;>simp
theorem Ext.inf {s L:List Nat}(h:Ext s L):Inf s L:=by
 rcases h with⟨c,rfl⟩|⟨c,rfl⟩
 ·have:=Zgr (s++[c]);rwa [YCp]at this
 ·exact Zgq (c::s)
def Frs (s L w:List Nat):Prop:=Inf w L∧¬Inf w s
theorem Frs.ne {s L w:List Nat}(h:Frs s L w):w≠[]:=fun e=>h.2 (e▸Inf.nil s)
theorem Zel (l:List Nat)(k:Nat):Inf (l.take k) l:=⟨0,by rw[YAV];omega,by rw[YBU,List.take_eq_take_iff,YAV];omega⟩
theorem Zem (l:List Nat)(k:Nat):Inf (l.drop k) l:=by
 by_cases h:k≤l.length
 ·exact⟨k,by rw[YAm];omega,by rw[YCU]⟩
 ·rw[YCZ (by omega)];exact Inf.nil l
theorem Zc0 {s L w:List Nat}(h:Ext s L)(f:Frs s L w):((∃c,L=s++[c])∧w=L.drop (L.length-w.length))∨((∃c,L=c::s)∧w=L.take w.length):=by
 obtain⟨⟨i,h1,h2⟩,hn⟩:=f
 rcases h with⟨c,rfl⟩|⟨c,rfl⟩
 ·refine .inl ⟨⟨c,rfl⟩,?_⟩
  rw[YAI,YAu]at h1 ⊢
  have hi:i+w.length=s.length+1:=by
   by_cases z:i+w.length≤s.length
   ·refine absurd ⟨i,z,?_⟩ hn
    rw[YCW (by omega),List.take_append_of_le_length (by rw[YAm];omega)]at h2
    exact h2
   ·omega
  have e:s.length+1-w.length=i:=by omega
  rw[e]
  rw[YAo (by rw[YAm,YAI,YAu];omega)]at h2
  exact h2.symm
 ·refine .inr ⟨⟨c,rfl⟩,?_⟩
  cases i with
  | zero=>rw[YBU]at h2;exact h2.symm
  | succ i=>
   refine absurd ⟨i,?_,?_⟩ hn
   ·rw[YAp]at h1;omega
   ·rw[List.drop_succ_cons]at h2;exact h2
theorem Zid {s L w:List Nat}(h:Ext s L):Frs s L w↔(∃k,1≤k∧k≤L.length∧(w=L.take k∨w=L.drop (L.length-k)))∧¬Inf w s:=by
 constructor
 ·intro f
  have h1:1≤w.length:=YBn.mpr f.ne
  refine⟨⟨w.length,h1,f.1.len,?_⟩,f.2⟩
  rcases Zc0 h f with⟨_,e⟩|⟨_,e⟩
  ·exact .inr e
  ·exact .inl e
 ·rintro⟨⟨k,_,_,rfl | rfl⟩,hn⟩
  ·exact⟨Zel _ _,hn⟩
  ·exact⟨Zem _ _,hn⟩
theorem Zfe {s L u v:List Nat}(h:Ext s L)(fu:Frs s L u)(fv:Frs s L v)(hl:u.length≤v.length):Inf u v:=by
 have l1:=fu.1.len
 have l2:=fv.1.len
 rcases Zc0 h fu with⟨⟨c,e⟩,eu⟩|⟨⟨c,e⟩,eu⟩
 ·rcases Zc0 h fv with⟨_,ev⟩|⟨⟨d,e2⟩,ev⟩
  ·have:u=v.drop (v.length-u.length):=by
    have:v.drop (v.length-u.length)=L.drop (L.length-u.length):=by
     conv=>lhs;rw[ev]
     rw[YCr,YAm]
     congr 1
     omega
    rw[this];exact eu
   rw[this];exact Zem _ _
  ·
   have hv:v.length=L.length:=by
    by_cases z:v.length=L.length
    ·exact z
    ·exfalso
     refine fv.2 ?_
     have:v=s.take v.length:=by
      conv=>lhs;rw[ev,e]
      rw[List.take_append_of_le_length]
      have:=h.len;omega
     rw[this];exact Zel _ _
   have:v=L:=by rw[ev,hv,YCU]
   rw[this];exact fu.1
 ·rcases Zc0 h fv with⟨⟨d,e2⟩,ev⟩|⟨_,ev⟩
  ·have hv:v.length=L.length:=by
    by_cases z:v.length=L.length
    ·exact z
    ·exfalso
     refine fv.2 ?_
     have:v=s.drop (s.length-v.length):=by
      have h3:=h.len
      conv=>lhs;rw[ev,e]
      have e4:(c::s).length-v.length=(s.length-v.length)+1:=by rw[YAp];omega
      rw[e4,List.drop_succ_cons]
     rw[this];exact Zem _ _
   have:v=L:=by rw[ev,hv,Nat.sub_self,YBU]
   rw[this];exact fu.1
  ·have:u=v.take u.length:=by
    have:v.take u.length=L.take u.length:=by
     conv=>lhs;rw[ev]
     rw[YCX]
     congr 1
     omega
    rw[this];exact eu
   rw[this];exact Zel _ _
theorem Zk9 {s L u v:List Nat}(h:Ext s L)(fu:Frs s L u)(fv:Frs s L v)(hl:u.length=v.length):u=v:=ZjV (Zfe h fu fv (by omega)) (by omega)
theorem ZfP {s L w0:List Nat}(h:Ext s L)(f0:Frs s L w0)(hm:∀w,Frs s L w→¬BefW w w0)(w:List Nat):Miss s w∧Inf w L↔w=w0:=by
 have sh:∀w,Frs s L w→w0.length≤w.length:=fun w f=>by
  by_cases z:w.length<w0.length
  ·exact absurd (.inl z) (hm w f)
  ·omega
 have ne:=f0.ne
 have l1:1≤w0.length:=YBn.mpr ne
 constructor
 ·rintro⟨ms,hi⟩
  have fw:Frs s L w:=⟨hi,ms.no⟩
  have hc:=Zfe h f0 fw (sh w fw)
  by_cases z:w0.length<w.length
  ·rcases Zk2 hc z with k | k
   ·exact absurd (k.trans ms.init) f0.2
   ·exact absurd (k.trans ms.tail) f0.2
  ·exact(ZjV hc (by omega)).symm
 ·rintro rfl
  have small:∀u,Inf u L→u.length<w.length→Inf u s:=fun u hu hl=>by
   by_cases z:Inf u s
   ·exact z
   ·have:=sh u ⟨hu,z⟩;omega
  exact⟨⟨ne,small _ ((Zgr w).trans f0.1) (by rw[YBL];omega),small _ ((Zgq w).trans f0.1) (by rw[List.length_tail];omega),f0.2⟩,f0.1⟩
def shOf (s w:List Nat)[Decidable (Inf w.dropLast s)]:List Nat:=if Inf w.dropLast s then w.tail else w.dropLast
instance (w l:List Nat):Decidable (Inf w l):=decidable_of_iff (∃i,i<l.length+1∧i+w.length≤l.length∧(l.drop i).take w.length=w) ⟨fun ⟨i,_,h⟩=>⟨i,h⟩,fun ⟨i,h⟩=>⟨i,by have:=h.1;omega,h⟩⟩
def Opn (s L m w:List Nat):Prop:=∃sh c,Frs s L sh∧c∈m∧(w=sh++[c]∨w=c::sh)∧Miss L w
theorem ZkF {s L m w:List Nat}(h:Ext s L)(hm:∀x∈L,x∈m):Opn s L m w↔w∈ZaI L m∧w∉ZaI s m:=by
 constructor
 ·rintro⟨sh,c,f,hc,e,ms⟩
  refine⟨ZaV.mpr ⟨ms,?_⟩,fun hw=>?_⟩
  ·rcases e with rfl | rfl
   ·exact⟨c,hc,by simp⟩
   ·refine⟨sh.getLast f.ne,hm _ (f.1.mem (List.getLast_mem _)),?_⟩
    rw[YCV (by simp),List.getLast_cons f.ne]
  ·have k:=(ZaV.mp hw).1
   rcases e with rfl | rfl
   ·exact f.2 (by have:=k.init;rwa [YCp]at this)
   ·exact f.2 k.tail
 ·rintro⟨hw,hn⟩
  obtain⟨ms,c,hc,hl⟩:=ZaV.mp hw
  have ns:¬Inf w s:=fun z=>ms.no (z.trans h.inf)
  have hn':¬(Inf w.dropLast s∧Inf w.tail s):=fun ⟨a,b⟩=>hn (ZaV.mpr ⟨⟨ms.ne,a,b,ns⟩,c,hc,hl⟩)
  by_cases z:Inf w.dropLast s
  ·have z2:¬Inf w.tail s:=fun k=>hn' ⟨z,k⟩
   have f:Frs s L w.tail:=⟨ms.tail,z2⟩
   match w,ms,f with
   | d::r,ms,f=>
    have f:Frs s L r:=f
    refine⟨r,d,f,?_,.inr rfl,ms⟩
    match r,f.ne with
    | e::r,_=>exact hm _ (ms.init.mem (by simp))
  ·refine⟨w.dropLast,c,⟨ms.init,z⟩,hc,.inl ?_,ms⟩
   rw[YCV ms.ne]at hl
   have h2:=YDO ms.ne
   rw[Option.some.inj hl]at h2
   exact h2.symm
theorem Zmb {s L w sh:List Nat}{c:Nat}(h:Ext s L)(f:Frs s L sh)(e:w=sh++[c]∨w=c::sh)(ms:Miss L w):shOf s w=sh:=by
 unfold shOf
 rcases e with rfl | rfl
 ·rw[YCp,YAJ f.2]
 ·by_cases z:Inf (c::sh).dropLast s
  ·rw[YAO z];rfl
  ·rw[YAJ z]
   exact Zk9 h ⟨ms.init,z⟩ f (by rw[YBL];simp)
theorem Ze3 {s L m w w0:List Nat}(h:Ext s L)(f0:Frs s L w0)(hmn:∀w,Frs s L w→¬BefW w w0)(hw:w∈ZaI s m):w∈ZaI L m↔w≠w0:=by
 obtain⟨ms,hc⟩:=ZaV.mp hw
 constructor
 ·rintro k rfl
  exact(ZaV.mp k).1.no ((ZfP h f0 hmn w).mpr rfl).2
 ·intro k
  have ni:¬Inf w L:=fun z=>k ((ZfP h f0 hmn w).mp ⟨ms,z⟩)
  exact ZaV.mpr ⟨⟨ms.ne,ms.init.trans h.inf,ms.tail.trans h.inf,ni⟩,hc⟩
theorem Zlb {s L m w0:List Nat}(h:Ext s L)(hm:∀x∈L,x∈m)(f0:Frs s L w0)(hmn:∀w,Frs s L w→¬BefW w w0):w0∈ZaI s m:=by
 have k:=(ZfP h f0 hmn w0).mpr rfl
 exact ZaV.mpr ⟨k.1,w0.getLast k.1.ne,hm _ (k.2.mem (List.getLast_mem _)),YCV _⟩
def opnL (s L m:List Nat):List (List Nat):=(ZaI L m).filter fun w=>decide (w∉ZaI s m)
def filL (s L m:List Nat):List (List Nat):=(ZaI s m).filter fun w=>decide (w∉ZaI L m)
theorem Zee {s L m w:List Nat}:w∈opnL s L m↔w∈ZaI L m∧w∉ZaI s m:=by unfold opnL;simp
theorem Zef {s L m w:List Nat}:w∈filL s L m↔w∈ZaI s m∧w∉ZaI L m:=by unfold filL;simp
theorem Zjo {s L m w0:List Nat}(h:Ext s L)(hm:∀x∈L,x∈m)(hr:m.Pairwise (· < ·))(f0:Frs s L w0)(hmn:∀w,Frs s L w→¬BefW w w0):filL s L m=[w0]:=by
 refine Zbx ((ZaT hr).filter _) (by simp) fun w=>?_
 rw[Zef,YAX]
 constructor
 ·rintro⟨a,b⟩
  by_cases z:w=w0
  ·exact z
  ·exact absurd ((Ze3 h f0 hmn a).mpr z) b
 ·rintro rfl
  have k:=Zlb h hm f0 hmn
  exact⟨k,fun z=>(Ze3 h f0 hmn k).mp z rfl⟩
theorem Zcf {ws ws':List (List Nat)}(pm:ws'.Perm ws)(pw:ws'.Pairwise fun a b=>¬BefW b a)(nd:ws.Nodup):ws'.Pairwise BefW:=by
 refine(pw.and (pm.nodup_iff.mpr nd)).imp ?_
 rintro a b ⟨h1,h2⟩
 rcases Nat.lt_trichotomy a.length b.length with z | z | z
 ·exact .inl z
 ·rcases ZhU a b with k | k | k
  ·exact .inr ⟨z,k⟩
  ·exact absurd k h2
  ·exact absurd (.inr ⟨z.symm,k⟩) h1
 ·exact absurd (.inl z) h1
theorem Zcp {ws:List (List Nat)}(h:ws.Pairwise BefW):ws.Nodup:=h.imp fun hab e=>by rw[e]at hab;exact Zc1 hab
theorem ZkV {old new came gone ws':List (List Nat)}(ho:old.Pairwise BefW)(hn:new.Pairwise BefW)(hc:∀w,w∈came↔w∈new∧w∉old)(nc:came.Nodup)(hg:∀w,w∈gone↔w∈old∧w∉new)(pm:ws'.Perm (old.filter (fun w=>decide (w∉gone))++came))(pw:ws'.Pairwise fun a b=>¬BefW b a):ws'=new:=by
 have nd:(old.filter (fun w=>decide (w∉gone))++came).Nodup:=by
  rw[YDB]
  refine⟨(Zcp ho).filter _,nc,fun a ha b hb e=>?_⟩
  subst e
  exact((hc a).mp hb).2 (YBv.mp ha).1
 refine Zbx (Zcf pm pw nd) hn fun w=>?_
 rw[pm.mem_iff,YAf,YBv,hc,decide_eq_true_iff,hg]
 constructor
 ·rintro (⟨a,b⟩|⟨a,b⟩)
  ·by_cases z:w∈new
   ·exact z
   ·exact absurd ⟨a,z⟩ b
  ·exact a
 ·intro a
  by_cases z:w∈old
  ·exact .inl ⟨z,fun k=>k.2 a⟩
  ·exact .inr ⟨a,z⟩
theorem Zjf {m:List Nat}(hm:m.Pairwise (· < ·)):ZaI [] m=signs m:=by
 unfold signs
 refine Zbx (ZaT hm) ?_ fun w=>?_
 ·rw[YBm]
  exact hm.imp fun h=>.inr ⟨rfl,List.Lex.rel h⟩
 ·rw[ZaV,YBX]
  constructor
  ·rintro⟨ms,c,hc,hl⟩
   have h:=ms.init.len
   rw[YBL,List.length_nil]at h
   have h1:1≤w.length:=YBn.mpr ms.ne
   match w,h,h1,hl with
   | [d],_,_,hl=>exact⟨c,hc,by simpa using hl.symm⟩
  ·rintro⟨c,hc,rfl⟩
   exact⟨⟨by simp,Inf.nil _,Inf.nil _,fun z=>by have:=z.len;simp at this⟩,c,hc,rfl⟩
def Chg (S:List Addr)(H H':Hp):Prop:=∀b o,H b=some o→b∉S→Zdr o=false→H' b=some o
theorem SameL.chg {S:List Addr}{H H':Hp}(s:SameL H H'):Chg S H H':=fun b o e _ t=>s b o e t
theorem Same.chg {S:List Addr}{H H':Hp}(s:Same H H'):Chg S H H':=fun b o e _ _=>s b o e
theorem Chg.trans {S:List Addr}{H H1 H2:Hp}(a:Chg S H H1)(b:Chg S H1 H2):Chg S H H2:=fun c o e n t=>b c o (a c o e n t) n t
theorem Chg.upd {S:List Addr}{H:Hp}{a:Addr}{o:HO}(h:a∈S):Chg S H (upd H a o):=fun b u e n _=>by
 rw[Zaf (show b≠a from fun z=>n (by rw[z];exact h))];exact e
theorem Chg.mono {S S':List Addr}{H H':Hp}(h:Chg S H H')(k:∀b∈S,b∈S'):Chg S' H H':=fun b o e n t=>h b o e (fun z=>n (k b z)) t
theorem Chg.l {H H':Hp}(h:Chg [] H H'):SameL H H':=fun b o e t=>h b o e (by simp) t
def Nw (H:Hp)(r:Addr):Prop:=∀o,H r=some o→Zdr o=true
theorem Nw.of {H:Hp}{r:Addr}(h:H r=none):Nw H r:=fun o e=>by rw[h]at e;cases e
theorem Nw.ne {H:Hp}{r b:Addr}{o:HO}(n:Nw H r)(h:H b=some o)(t:Zdr o=false):b≠r:=fun z=>by
 rw[z]at h
 rw[n o h]at t
 cases t
theorem Nw.l {H H1:Hp}{r:Addr}(n:Nw H1 r)(s:SameL H H1):Nw H r:=fun o e=>by
 cases t:Zdr o with
 | true=>rfl
 | false=>rw[←t];exact n o (s r o e t)
theorem Nw.same {H H1:Hp}{r:Addr}(n:Nw H1 r)(s:Same H H1):Nw H r:=n.l s.l
theorem Nw.chg {S:List Addr}{H H1:Hp}{r:Addr}(n:Nw H1 r)(c:Chg S H H1)(hS:∀b∈S,∃o,H1 b=some o∧Zdr o=false):Nw H r:=fun o e=>by
 by_cases z:r∈S
 ·obtain⟨u,hu,tu⟩:=hS r z
  exact absurd rfl (n.ne hu tu)
 ·cases t:Zdr o with
  | true=>rfl
  | false=>rw[←t];exact n o (c r o e z t)
def Zjj:HO→Bool
 | .ext _=>true
 | _=>false
theorem TblOk.upd {H:Hp}{P a:Addr}{pos:Pos}{q:Str}{o o':HO}(T:TblOk H P pos q)(h:H a=some o)(t:Zdr o=false)(x:Zjj o=false):TblOk (L2.upd H a o') P pos q:=by
 obtain⟨ps,e,tr,hc⟩:=T
 refine⟨ps,?_,tr,hc.imp id ?_⟩
 ·rw[Zaf (fun z=>by rw[z,h]at e;cases e;cases t)];exact e
 ·rintro⟨c,e1,e2⟩
  refine⟨c,e1,?_⟩
  rw[Zaf (fun z=>by rw[z,h]at e2;unfold Zex at e2;cases e2;cases x)];exact e2
theorem SqL.lL {K:PySem.W.Frag}{H H':Hp}{a:Addr}{xs:List V}(h:SqL K H a xs)(s:SameL H H'):SqL K H' a xs:=by
 rcases h with h | h
 ·rcases h with h | ⟨o,h⟩
  ·exact .inl (.inl (s _ _ h rfl))
  ·exact .inl (.inr ⟨o,s _ _ h rfl⟩)
 ·exact .inr h
def RowA (H:Hp)(y:V)(r:List Nat×List V):Prop:=∃a b,y=.ref a∧H a=some (.tup [tx r.1,.ref b])∧H b=some (.tup r.2)
def RowsA (H:Hp)(ys:List V)(rs:List (List Nat×List V)):Prop:=ys.length=rs.length∧∀(i:Nat) (y:V),ys[i]?=some y→∃r,rs[i]?=some r∧RowA H y r
theorem RowsA.chg {S:List Addr}{H H':Hp}{ys:List V}{rs:List (List Nat×List V)}(h:RowsA H ys rs)(c:Chg S H H')(hS:∀b∈S,∀us,H b≠some (.tup us)):RowsA H' ys rs:=by
 refine⟨h.1,fun i y hy=>?_⟩
 obtain⟨r,hr,a,b,e,h1,h2⟩:=h.2 i y hy
 exact⟨r,hr,a,b,e,c _ _ h1 (fun z=>hS _ z _ h1) rfl,c _ _ h2 (fun z=>hS _ z _ h2) rfl⟩
theorem RowsA.l {H H':Hp}{ys:List V}{rs:List (List Nat×List V)}(h:RowsA H ys rs)(s:SameL H H'):RowsA H' ys rs:=h.chg (S:=[]) s.chg (by simp)
def Zdc (rs:List Nat)(s L m:List Nat):List (List Nat×List V):=(opnL s L m).map fun w=>(w,[tx rs,tx (shOf s w),.int (fpl L (shOf s w):Nat)])
def ZdE (rs:List Nat)(s L m:List Nat):List (List Nat×List V):=(filL s L m).map fun w=>(w,[tx rs,.int (fpl L w:Nat)])
def PUT:List Nat:=[112,117,116]
def DROP:List Nat:=[100,114,111,112]
def ZfS (d:Bool×Nat):List V:=[tx (if d.1 then PUT else DROP),tx [d.2]]
def DeedsA (H:Hp)(ts:List V)(ds:List (Bool×Nat)):Prop:=ts.length=ds.length∧∀(i:Nat) (y:V),ts[i]?=some y→∃d,ds[i]?=some d∧∃t,y=.ref t∧H t=some (.tup (ZfS d))
theorem DeedsA.chg {S:List Addr}{H H':Hp}{ts:List V}{ds:List (Bool×Nat)}(h:DeedsA H ts ds)(c:Chg S H H')(hS:∀b∈S,∀us,H b≠some (.tup us)):DeedsA H' ts ds:=by
 refine⟨h.1,fun i y hy=>?_⟩
 obtain⟨d,hd,t,e,ht⟩:=h.2 i y hy
 exact⟨d,hd,t,e,c _ _ ht (fun z=>hS _ z _ ht) rfl⟩
theorem DeedsA.snoc {H:Hp}{ts:List V}{ds:List (Bool×Nat)}{t:Addr}{d:Bool×Nat}(h:DeedsA H ts ds)(ht:H t=some (.tup (ZfS d))):DeedsA H (ts++[.ref t]) (ds++[d]):=by
 refine⟨by rw[YAI,YAI,h.1];rfl,fun i y hy=>?_⟩
 by_cases z:i<ts.length
 ·rw[YAr z]at hy
  obtain⟨d',hd,r⟩:=h.2 i y hy
  exact⟨d',by rw[YAr (by rw[←h.1];exact z)];exact hd,r⟩
 ·rw[YAn (by omega)]at hy
  have e:i-ts.length=0:=by
   rcases Nat.eq_zero_or_pos (i-ts.length) with q | q
   ·exact q
   ·rw[YBc (by simp;omega)]at hy;cases hy
  rw[e]at hy
  cases hy
  refine⟨d,?_,t,rfl,ht⟩
  rw[YAn (by rw[←h.1];omega),←h.1,e]
  rfl
theorem DeedsA.init {H:Hp}{ts:List V}{ds:List (Bool×Nat)}{d:Bool×Nat}(h:DeedsA H ts (ds++[d])):∃ts' t,ts=ts'++[.ref t]∧H t=some (.tup (ZfS d))∧DeedsA H ts' ds:=by
 have hl:ts.length=ds.length+1:=by rw[h.1];simp
 have ne:ts≠[]:=fun e=>by rw[e]at hl;simp at hl
 have e:=YDO ne
 have hlast:ts[ds.length]?=some (ts.getLast ne):=by
  rw[List.getLast_eq_getElem,YAL (by omega)]
  congr 2
  omega
 obtain⟨d',hd,t,et,ht⟩:=h.2 _ _ hlast
 rw[YAn (YAP _),Nat.sub_self]at hd
 cases hd
 refine⟨ts.dropLast,t,by rw[←et];exact e.symm,ht,by rw[YBL];omega,fun i y hy=>?_⟩
 rw[YDF,YCa]at hy
 by_cases z:i<ts.length-1
 ·rw[YAO z]at hy
  obtain⟨d',hd,r⟩:=h.2 i y hy
  rw[YAr (by omega)]at hd
  exact⟨d',hd,r⟩
 ·rw[YAJ z]at hy;cases hy
inductive Run (m:List Nat):List (Bool×Nat)→List Nat→Prop
 | nil:Run m [] []
 | put {ds:List (Bool×Nat)} {l:List Nat} {c:Nat} (h:Run m ds l) (hc:c∈m) (hl:l.length<40):Run m (ds++[(true,c)]) (l++[c])
 | drop {ds:List (Bool×Nat)} {l:List Nat} {c:Nat} (h:Run m ds (c::l)):Run m (ds++[(false,c)]) l
theorem Run.len {m:List Nat}{ds:List (Bool×Nat)}{l:List Nat}(h:Run m ds l):l.length≤40:=by
 induction h with
 | nil=>simp
 | put h hc hl ih=>simp;omega
 | drop h ih=>simp at ih;omega
theorem Run.mem {m:List Nat}{ds:List (Bool×Nat)}{l:List Nat}(h:Run m ds l):∀x∈l,x∈m:=by
 induction h with
 | nil=>intro x hx;cases hx
 | put h hc hl ih=>
  intro x hx
  rcases YAf.mp hx with hx | hx
  ·exact ih x hx
  ·rw[YAX.mp hx];exact hc
 | drop h ih=>exact fun x hx=>ih x (YAZ _ hx)
theorem Run.last {m:List Nat}{ds':List (Bool×Nat)}{l:List Nat}(h:Run m ds' l)(ne:ds'≠[]):∃ds c,(ds'=ds++[(true,c)]∧∃l0,l=l0++[c]∧Run m ds l0)∨(ds'=ds++[(false,c)]∧Run m ds (c::l)):=by
 cases h with
 | nil=>exact absurd rfl ne
 | put h hc hl=>exact⟨_,_,.inl ⟨rfl,_,rfl,h⟩⟩
 | drop h=>exact⟨_,_,.inr ⟨rfl,h⟩⟩
def sF (l m:List Nat)(la da:Addr):List (Str×V):=[("own_text",tx l),("own_kinds",tx m),("own_lacking",.ref la),("own_deeds",.ref da)]
theorem f_tk:¬(("own_text":Str)="own_kinds"):=by decide +kernel
theorem f_tl:¬(("own_text":Str)="own_lacking"):=by decide +kernel
theorem f_td:¬(("own_text":Str)="own_deeds"):=by decide +kernel
theorem f_kl:¬(("own_kinds":Str)="own_lacking"):=by decide +kernel
theorem f_kd:¬(("own_kinds":Str)="own_deeds"):=by decide +kernel
theorem f_ld:¬(("own_lacking":Str)="own_deeds"):=by decide +kernel
theorem Zgd {f:Str}{v x:V}{r:List (Str×V)}:putF f v ((f,x)::r)=(f,v)::r:=by unfold putF;rw[YAO rfl]
theorem Zbd {f g:Str}{v x:V}{r:List (Str×V)}(h:¬g=f):putF f v ((g,x)::r)=(g,x)::putF f v r:=by
 conv=>lhs;unfold putF
 rw[YAJ h]
theorem Zkt {l l' m:List Nat}{la da:Addr}:putF "own_text" (tx l') (sF l m la da)=sF l' m la da:=Zgd
theorem Zku {l m:List Nat}{la la' da:Addr}:putF "own_lacking" (.ref la') (sF l m la da)=sF l m la' da:=by
 unfold sF
 rw[Zbd f_tl,Zbd f_kl,Zgd]
theorem ZjK {l m:List Nat}{la da:Addr}:putF "own_deeds" (.ref da) (putF "own_lacking" (.ref la) (putF "own_kinds" (tx m) (putF "own_text" (tx l) [])))=sF l m la da:=by
 have e2:∀(f:Str) (v:V),putF f v []=[(f,v)]:=fun _ _=>rfl
 rw[e2,Zbd f_tk,e2,Zbd f_tl,Zbd f_kl,e2,Zbd f_td,Zbd f_kd,Zbd f_ld,e2]
 rfl
theorem ZeH {l m:List Nat}{la da:Addr}:sF l m la da=putF "own_deeds" (.ref da) (putF "own_lacking" (.ref la) (putF "own_kinds" (tx m) (putF "own_text" (tx l) []))):=ZjK.symm
theorem Za3 {l m:List Nat}{la da:Addr}:(sF l m la da).lookup ("own_text":Str)=some (tx l):=by rw[ZeH,Zaq,YAJ f_td,Zaq,YAJ f_tl,Zaq,YAJ f_tk,Zaq,YAO rfl]
theorem Zcl {l m:List Nat}{la da:Addr}:(sF l m la da).lookup ("own_kinds":Str)=some (tx m):=by rw[ZeH,Zaq,YAJ f_kd,Zaq,YAJ f_kl,Zaq,YAO rfl]
theorem ZiP {l m:List Nat}{la da:Addr}:(sF l m la da).lookup ("own_lacking":Str)=some (.ref la):=by rw[ZeH,Zaq,YAJ f_ld,Zaq,YAO rfl]
theorem ZbM {l m:List Nat}{la da:Addr}:(sF l m la da).lookup ("own_deeds":Str)=some (.ref da):=by rw[ZeH,Zaq,YAO rfl]
theorem ZoC {l m:List Nat} {la da:Addr} {x:Str} (h1:¬x="own_text") (h2:¬x="own_kinds") (h3:¬x="own_lacking") (h4:¬x="own_deeds"):(sF l m la da).lookup x=none:=by
 rw[ZeH,Zaq,YAJ h4,Zaq,YAJ h3,Zaq,YAJ h2,Zaq,YAJ h1]
 rfl
def LETx:List Nat:=[97,98,99,100,101,102,103,104,105,106,107,108,109,110,111,112,113,114,115,116,117,118,119,120,121,122]
def iskx (l:List Nat):Bool:=decide (1≤l.length)&&decide (l.length≤4)&&(l.all fun c=>LETx.contains c)&&decide (signs l=ZaR (ddl (signs l)))
def ZcN (C:Addr)(H:Hp)(p la da:Addr)(l m:List Nat):Prop:=∃dx,H p=some (.ins C dx (sF l m la da))
structure KindsOk (m:List Nat):Prop where
 k:iskx m=true
 m1:1≤m.length
 m4:m.length≤4
 rise:m.Pairwise (· < ·)
structure StripAt (C:Addr)(H:Hp)(p la da:Addr)(l m:List Nat)(ds:List (Bool×Nat)):Prop where
 fld:ZcN C H p la da l m
 lack:H la=some (.lst ((ZaI l m).map tx))
 deed:∃ts,H da=some (.lst ts)∧DeedsA H ts ds
 run:Run m ds l
 ok:KindsOk m
 ne:la≠da
theorem StripAt.chg {S:List Addr}{C:Addr}{H H':Hp}{p la da:Addr}{l m:List Nat}{ds:List (Bool×Nat)}(h:StripAt C H p la da l m ds)(c:Chg S H H')(hS:∀b∈S,∀us,H b≠some (.tup us))(n1:p∉S)(n2:la∉S)(n3:da∉S):StripAt C H' p la da l m ds:=by
 obtain⟨⟨dx,f⟩,k,⟨ts,d1,d2⟩,r,o,n⟩:=h
 exact⟨⟨dx,c _ _ f n1 rfl⟩,c _ _ k n2 rfl,⟨ts,c _ _ d1 n3 rfl,d2.chg c hS⟩,r,o,n⟩
theorem StripAt.l {C:Addr}{H H':Hp}{p la da:Addr}{l m:List Nat}{ds:List (Bool×Nat)}(h:StripAt C H p la da l m ds)(s:SameL H H'):StripAt C H' p la da l m ds:=h.chg (S:=[]) s.chg (by simp) (by simp) (by simp) (by simp)
structure AnsS (H H2:Hp)(t c g la:Addr)(rc rg:List (List Nat×List V)):Prop where
 tup:H2 t=some (.tup [.ref c,.ref g])
 came:∃ys,H2 c=some (.lst ys)∧RowsA H2 ys rc
 went:∃zs,H2 g=some (.lst zs)∧RowsA H2 zs rg
 nc:Nw H c
 ng:Nw H g
 nl:Nw H la
 ncg:c≠g
 ncl:c≠la
 ngl:g≠la
end L2
namespace L2
open PySem PySem.Spec PyProof.Rows
open PySem.W (Frag)
section
variable {tt:TT}{te:TE}{Q:VK}{τ0:St}{H:Hp}{K:Frag}{a:Addr}{xs:List V}
end
end L2
namespace L2
open PySem PySem.Spec PyProof.Rows
section
variable {X:Cx}{tg:Expr}
end
abbrev zl1 (h:Heap)(l:Addr):Heap:=h.push { cls:=.type "list_iterator",data:=.fields #[.ref l,.int 0 0] }
abbrev zl2 (h:Heap)(l m:Addr):Heap:=(zl1 h l).push { cls:=.type "list_iterator",data:=.fields #[.ref m,.int 0 0] }
abbrev zl3 (h:Heap)(l m:Addr):Heap:=(zl2 h l m).push { cls:=.type "tuple",data:=.seq #[.ref h.objs.size,.ref (zl1 h l).objs.size] }
abbrev zl4 (h:Heap)(l m:Addr):Heap:=(zl3 h l m).push { cls:=.type "tuple",data:=.seq #[.none,.none] }
abbrev zl5 (h:Heap)(l m:Addr):Heap:=(zl4 h l m).push { cls:=.type "zip",data:=.fields #[.none,.bool false,.bool false,.ref (zl2 h l m).objs.size,.ref (zl3 h l m).objs.size] }
theorem ZgX (l m:Addr)(xs ys:Array Value):Meets (Builtin.«zip.__new__» ⟨[.type "zip",.ref l,.ref m],[]⟩) (fun _ R s=>s.heap.IsList l xs∧s.heap.IsList m ys∧R (.ok (.ret (.ref (zl4 s.heap l m).objs.size))) { s with heap:=zl5 s.heap l m }):=
 .of_wp fun prog w A R s h=>by
  obtain⟨hp,g,d,tk,os⟩:=s
  obtain⟨p1,p2,h⟩:=h
  have hsub:=sub_zip
  have L1:Heap.IsList (Shared.heap ⟨hp,g,d,tk,os⟩) l xs:=p1
  have L2:Heap.IsList (Shared.heap ⟨hp.push { cls:=.type "list_iterator",data:=.fields #[.ref l,.int 0 0] },g,d,tk,os⟩) m ys:=Heap.IsList.push p2 _
  wp_walk using YCj L1,YCj L2
  exact⟨_,rfl,h⟩
theorem Zit {prog:Program}{w:World}{A:Around}{E:Value→Shared→Prop}{s:Shared}{l m:Addr}{xs ys:Array Value}{Q:Value→Shared→Prop}(p1:s.heap.IsList l xs)(p2:s.heap.IsList m ys)
  (q:∀h',IsZip h' (s.heap.objs.size+4) (s.heap.objs.size+2) (s.heap.objs.size+3) .none→IsPair h' (s.heap.objs.size+2) (.ref s.heap.objs.size) (.ref (s.heap.objs.size+1))→IsPair h' (s.heap.objs.size+3) .none .none →
   h'.IsListIter s.heap.objs.size l 0→h'.IsListIter (s.heap.objs.size+1) m 0→(∀c o,s.heap.get? c=some o→h'.get? c=some o)→Q (.ref (s.heap.objs.size+4)) { s with heap:=h' }):
  wpAny (model prog w) A (call (.type "zip") [.ref l,.ref m]) Q E s:=by
 refine callType_new F.called_zip (by decide) (F.typeCall_zip_2 _ _) (F.newCall_zip_2 _ _) (fun obj=>F.args_object_init_3 obj _ _) F.entry_zip_new (ZgX l m xs ys) ⟨p1,p2,?_⟩
 have e1:(zl1 s.heap l).objs.size=s.heap.objs.size+1:=YAs ..
 have e2:(zl2 s.heap l m).objs.size=s.heap.objs.size+2:=by rw[YAs,e1]
 have e3:(zl3 s.heap l m).objs.size=s.heap.objs.size+3:=by rw[YAs,e2]
 have e4:(zl4 s.heap l m).objs.size=s.heap.objs.size+4:=by rw[YAs,e3]
 have g5:(zl5 s.heap l m).get? (zl4 s.heap l m).objs.size=some _:=YAF _ rfl
 have g4:(zl5 s.heap l m).get? (zl3 s.heap l m).objs.size=some _:=YAB _ (YAF _ rfl)
 have g3:(zl5 s.heap l m).get? (zl2 s.heap l m).objs.size=some _:=YAB _ (YAB _ (YAF _ rfl))
 have g2:(zl5 s.heap l m).get? (zl1 s.heap l).objs.size=some _:=YAB _ (YAB _ (YAB _ (YAF _ rfl)))
 have g1:(zl5 s.heap l m).get? s.heap.objs.size=some _:=YAB _ (YAB _ (YAB _ (YAB _ (YAF _ rfl))))
 show _∧_
 rw[e2,e3,e4]at g5
 rw[e1,e2]at g3
 rw[e3]at g4
 rw[e1]at g2
 rw[e4]
 exact⟨⟨_,g5,rfl⟩,q _ g5 g3 g4 ⟨_,g1,rfl,rfl⟩ ⟨_,g2,rfl,rfl⟩ fun c o x=>YAB _ (YAB _ (YAB _ (YAB _ (YAB _ x))))⟩
def ItzL (K:PySem.W.Frag)(a b:Addr):It:=
  ⟨fun i H=>∃xs ys x y,SqL K H a xs∧SqL K H b ys∧xs.length=ys.length∧xs[i]?=some x∧ys[i]?=some y,
   fun i H v H'=>∃p x y,H p=none∧v=.ref p∧H'=upd H p (.tup [x,y])∧(∀xs,SqL K H a xs→xs[i]?=some x)∧∀ys,SqL K H b ys→ys[i]?=some y,
   fun i H=>∃xs ys,SqL K H a xs∧SqL K H b ys∧xs.length=ys.length∧xs.length=i⟩
theorem Zhm {P:Program}{w:World}{K:PySem.W.Frag}{es:List Expr}{x1:Nat}{tp:Pos}(a b z:Addr)(hz:a<z∧b<z):Turn P w K (.Tuple es x1 tp) (ItzL K a b) [z+4,z+2,z+3,z,z+1] (z+4)
  (fun i h=>IsZip h (z+4) (z+2) (z+3) .none∧IsPair h (z+2) (.ref z) (.ref (z+1))∧(∃u v,IsPair h (z+3) u v)∧h.IsListIter z a i∧h.IsListIter (z+1) b i) where
 mem:=by simp
 obj:=fun i h st c hc=>by
  obtain⟨s1,s2,⟨u,v,s3⟩,⟨o4,s4,c4,d4⟩,⟨o5,s5,c5,d5⟩⟩:=st
  simp only[YAM,YBk,or_false]at hc
  rcases hc with e | e | e | e | e
  ·exact⟨_,e▸s1,fun v q=>by cases (show Data.fields _=Data.cell v from q)⟩
  ·exact⟨_,e▸s2,fun v q=>by cases (show Data.seq _ _=Data.cell v from q)⟩
  ·exact⟨_,e▸s3,fun v q=>by cases (show Data.seq _ _=Data.cell v from q)⟩
  ·exact⟨o4,e▸s4,fun v q=>by rw[d4]at q;cases q⟩
  ·exact⟨o5,e▸s5,fun v q=>by rw[d5]at q;cases q⟩
 keep:=fun i h h' st k=>by
  obtain⟨s1,s2,⟨u,v,s3⟩,s4,s5⟩:=st
  exact⟨k _ (by simp) _ s1,k _ (by simp) _ s2,⟨u,v,k _ (by simp) _ s3⟩,s4.at fun o q=>k _ (by simp) o q,s5.at fun o q=>k _ (by simp) o q⟩
 item:=by
  intro X hP hw hK hc i pins s σ H E I hf st hg
  subst hP hw hK
  obtain⟨s1,s2,⟨u,v,s3⟩,s4,s5⟩:=st
  obtain⟨xs,ys,x,y,ha,hb,hl,hx,hy⟩:=hg
  obtain⟨is,ri,pi',_⟩:=I.list ha
  have pi:=pi'.isList
  obtain⟨js,rj,pj',_⟩:=I.list hb
  have pj:=pj'.isList
  have li:is.toArray.size=xs.length:=by rw[YAH,ri.length]
  have lj:js.toArray.size=xs.length:=by rw[YAH,hl,rj.length]
  have hh:X.A.in1.handled=none:=by simpa using I.ok.hd hc
  have D1:=Draws.list (prog:=X.prog) (w:=X.w) (A:=X.A.in1) hh z a (YAY hz.1) is.toArray
  have D2:=Draws.list (prog:=X.prog) (w:=X.w) (A:=X.A.in1) hh (z+1) b (YAY (YCM hz.2)) js.toArray
  rw[li]at D1
  rw[lj]at D2
  have hi:i<xs.length:=(YAW.mp hx).1
  have ap:Zap (z+4) (z+2) (z+3) z (z+1) [z,a] [z+1,b]:=Zf2 a b z hz.1 hz.2
  have sz:z+4<s.heap.objs.size:=YAG s1
  refine ZcH ap D1 D2 hi s1 s2 s3 ⟨s4,pi⟩ ⟨s5,pj⟩ fun u1 u2 h' tk q1 q2 y1 y2 y3 y4 y5 y6=>?_
  refine⟨_,rfl,?_⟩
  refine wpAny_letOwnedTupleGo_zip (s:={ s with heap:=h',toks:=tk }) y1 fun h2 o2 sb=>?_
  obtain⟨x',hx',rx⟩:=Zb9 ri (show is[i]?=some u1 by simpa using q1)
  obtain⟨y',hy',ry⟩:=Zb9 rj (show js[i]?=some u2 by simpa using q2)
  obtain rfl:x=x':=Option.some.inj (hx.symm.trans hx')
  obtain rfl:y=y':=Option.some.inj (hy.symm.trans hy')
  have hfr:=I.fresh
  replace sb:Heap.SameBut (z+4) h' h2:=sb
  have k2:∀c o,c∉[z+4,z+2,z+3,z,z+1]→s.heap.get? c=some o→h2.get? c=some o:=fun c o hc q=>by
   simp only[YAM,YBk,or_false,not_or]at hc
   exact(sb.2 c hc.1).trans (y6 c o hc.1 hc.2.2.1 hc.2.2.2.1 hc.2.2.2.2 q)
  have I1:Inv X pins σ H { s with heap:=h2,toks:=tk }:=I.turnedN (t':=tk) k2 hf
  have t2:IsPair h2 s.heap.objs.size u1 u2:=(sb.2 _ (YCv sz)).trans y5
  have fp:=I.fpOk (H':=H) (YAP _) hfr
  have up:∀c o,c≠z+4→h'.get? c=some o→h2.get? c=some o:=fun c o n q=>(sb.2 c n).trans q
  refine⟨.ref s.heap.objs.size,upd H s.heap.objs.size (.tup [x,y]),I1.track fp I.sz ?_,rfl,⟨_,x,y,hfr,rfl,rfl,fun xs' h=>by rw[I.list_inj h ha];exact hx,fun ys' h=>by rw[I.list_inj h hb];exact hy⟩,⟨o2,?_,⟨u1,u2,up _ _ ap.a2 y2⟩,?_,?_⟩,fun c hc=>?_⟩
  ·exact⟨by show 2≤sizeLine;rw[sizeLine_eq];decide,[u1,u2],.cons rx (.cons ry .nil),⟨_,t2,rfl,_,rfl⟩⟩
  ·exact up _ _ ap.a1 (y6 _ _ ap.a1 ap.a5 ap.a6 ap.a7 s2)
  ·exact y3.1.at fun o q=>up _ _ ap.a3 q
  ·exact y4.1.at fun o q=>up _ _ ap.a4 q
  ·have hc':=hf c hc
   have:c≠s.heap.objs.size:=YAY (YCE (mem5 hc).2 sz)
   rw[Zaf this];exact hc'.1
 done:=by
  intro X hP hw hK hc i pins s σ H E I hf st hg
  subst hP hw hK
  obtain⟨s1,s2,⟨u,v,s3⟩,s4,s5⟩:=st
  obtain⟨xs,ys,ha,hb,hl,rfl⟩:=hg
  obtain⟨is,ri,pi',_⟩:=I.list ha
  have pi:=pi'.isList
  have li:is.toArray.size=xs.length:=by rw[YAH,ri.length]
  have hh:X.A.in1.handled=none:=by simpa using I.ok.hd hc
  have D1:=Draws.list (prog:=X.prog) (w:=X.w) (A:=X.A.in1) hh z a (YAY hz.1) is.toArray
  rw[li]at D1
  have ap:Zap (z+4) (z+2) (z+3) z (z+1) [z,a] [z+1,b]:=Zf2 a b z hz.1 hz.2
  refine Zc2 ap D1 s1 s2 ⟨s4,pi⟩ fun h' k=>⟨rfl,I.turnedN (t':=s.toks) (fun c o hc q=>k c o (fun e=>hc (by simp[e])) (fun e=>hc (by simp[e])) q) hf⟩
 self:=fun _ _ _ _ _ st h=>wpAny_pyIter_zip st.1 h
section
variable {X:Cx}{es:List Expr}{x1:Nat}{tp:Pos}
end
end L2
namespace L2
open PySem PySem.Spec PyProof.Rows
open PySem.W (Frag)
section
variable {X:Cx}{es:List Expr}{x1:Nat}{tp:Pos}
def Zm4 (K:PySem.W.Frag)(ta:TA):TI:=fun σ H R=>ta σ H fun vs H1=>∃a b,vs=[.ref a,.ref b]∧(((∃xs,SqT K H1 a xs)∧(∃ys,SqT K H1 b ys)∧R (Itz K a b) H1)∨((∃xs,SqL K H1 a xs)∧(∃ys,SqL K H1 b ys)∧R (ItzL K a b) H1))
theorem ZhH {K:PySem.W.Frag} {l m:Expr} {ta:TA} {p pos:Pos} (hK:X.K=K) (hg:Gl X "zip") (hm:X.mg "zip"=none) (ha:PA X [l,m] ta) (hs:starEach [l,m] X.env=(false,eval l X.env)::starEach [m] X.env:=by rfl) (hpl:(backTo pos (starEach [m] X.env)).any (·.1)=false:=by rfl):
  PI X (.Tuple es x1 tp) (.Call (.Name "zip" p) [l,m] [] pos) (Zm4 K ta):=by
 subst hK
 intro pins s σ H R I h
 refine Call_ (ZcL I hg hm Znm (YCd (thn (ha pos pins s σ H _ I h) fun us s1 ⟨vs,H1,I1,r1,a,b,ev,qq⟩=>?_) hs hpl))
 subst ev
 obtain⟨u,v,rfl,ru,rv⟩:=r1.two
 cases ru
 cases rv
 rcases qq with⟨⟨xs,hq⟩,⟨ys,hr⟩,q⟩|⟨⟨xs,hq⟩,⟨ys,hr⟩,q⟩
 ·skip
  obtain⟨is,_,pi,_⟩:=I1.tuple hq
  obtain⟨js,_,pj,_⟩:=I1.tuple hr
  obtain⟨oa,hoa,_⟩:=id pi
  obtain⟨ob,hob,_⟩:=id pj
  refine Zis pi pj fun h' e1 e2 e3 e4 e5 k1=>?_
  have I2:Inv X pins σ H1 { s1 with heap:=h' }:=I1.kept (t':=s1.toks) k1
  refine wpAny_pyIter_zip (s:={ s1 with heap:=h' }) e1 ?_
  refine⟨s1.heap.objs.size+4,_,_,_,H1,rfl,I2,ZiF a b s1.heap.objs.size ⟨YAG hoa,YAG hob⟩,⟨e1,e2,⟨_,_,e3⟩,e4,e5⟩,fun c hc=>?_,q⟩
  have hb':s1.heap.objs.size≤c:=(mem5 hc).1
  exact I1.fpOk hb' (I1.hok.fresh hb')
 ·skip
  obtain⟨is,_,pi',_⟩:=I1.list hq
  have pi:=pi'.isList
  obtain⟨js,_,pj',_⟩:=I1.list hr
  have pj:=pj'.isList
  obtain⟨oa,hoa,_⟩:=id pi
  obtain⟨ob,hob,_⟩:=id pj
  refine Zit pi pj fun h' e1 e2 e3 e4 e5 k1=>?_
  have I2:Inv X pins σ H1 { s1 with heap:=h' }:=I1.kept (t':=s1.toks) k1
  refine wpAny_pyIter_zip (s:={ s1 with heap:=h' }) e1 ?_
  refine⟨s1.heap.objs.size+4,_,_,_,H1,rfl,I2,Zhm a b s1.heap.objs.size ⟨YAG hoa,YAG hob⟩,⟨e1,e2,⟨_,_,e3⟩,e4,e5⟩,fun c hc=>?_,q⟩
  have hb':s1.heap.objs.size≤c:=(mem5 hc).1
  exact I1.fpOk hb' (I1.hok.fresh hb')
end
end L2
namespace L2
open PySem PySem.Spec PyProof.Rows PySem.W
section
variable {te:TE}{Q:VK}{τ0:St}{H:Hp}{K:Frag}{a:Addr}{xs:List V}
end
end L2
namespace L2
open PySem PySem.Spec PyProof.Rows
section
variable {te:TE}{Q:VK}{τ0:St}{H:Hp}{K:PySem.W.Frag}{a:Addr}{xs:List V}
end
section
variable {X:Cx}
end
section
variable {X:Cx}
theorem ZcS (hc:X.calm=true):Zch X (.builtin "sorted") (fun xs H Q=>∃a ls,xs=[.ref a]∧H a=some (tset X.prog X.w a ls)∧ls.length≤sizeLine∧NewL ((ZaR ls).map tx) H Q):=by
 rintro pins s σ H xs us Q I r ⟨a,ls,rfl,ha,h64,q⟩
 obtain⟨u,rfl,ru⟩:=r.one
 cases ru
 have hS:TxSet X.prog X.w s.heap a ls (!Za6 X.w):=(I.hok a _ ha).1
 refine ZfB (I.ok.hd hc) hS h64 fun s' b us e nw k hg ho hb rv=>?_
 have hl:(ZaR ls).length≤sizeLine:=by rw[(Zay ls).length_eq];exact h64
 exact⟨.ref b,_,I.laid2 (o:=.lst ((ZaR ls).map tx)) ho hg k nw ⟨by rw[YAD];exact hl,us,e,rv,hb⟩,rfl,q b (I.hok.none_of nw)⟩
theorem Zhb (hc:X.calm=true):Zch X (.type "list") (fun xs H Q=>∃a kvs,xs=[.ref a]∧Rd H a (.dK kvs)∧NewL (kvs.map fun p=>kV p.1) H Q):=by
 rintro pins s σ H xs us Q I r ⟨a,kvs,rfl,ha,q⟩
 obtain⟨u,rfl,ru⟩:=r.one
 cases ru
 obtain⟨z,y,vs,rr,o,es,ep,eo⟩:=ha.ok I.hok
 have hm:s.heap.DictAt (ZaL X.prog X.w) a vs ep:=⟨o,es,eo⟩
 have hl:vs.length≤sizeLine:=by rw[←rr.length];exact z
 refine PySem.W.kdl_call (PySem.W.kdl_dict y) (I.ok.hd hc) hm hl fun h' tk acc' c' hk hS hacc=>?_
 have hv:Vals (kvs.map fun p=>kV p.1) acc'.toList:=by
  have e1:(kvs.map fun p=>kV p.1)=(vs.map fun p=>kV p.1):=by
   have e2:(kvs.map fun p=>kV p.1)=(kvs.map (·.1)).map kV:=by rw[YBa];rfl
   have e3:(vs.map fun p=>kV p.1)=(vs.map (·.1)).map kV:=by rw[YBa];rfl
   rw[e2,e3,rr.keys]
  rw[e1]
  refine Zc4 (by rw[YAD];exact(Array.length_toList.trans hacc.1).symm) fun i x u h1 h2=>?_
  rw[YAl]at h2
  obtain⟨k,v,e,hk⟩:=hacc.2 i u h2
  rw[YAk,e]at h1
  cases h1
  exact Zo8 hk
 exact⟨.ref s.heap.objs.size,_,I.laid (t':=tk) (o:=.lst (kvs.map fun p=>kV p.1)) hk (YAP _) ⟨by rw[YAD];exact z,acc'.toList,c',hv,by rw[YCq];exact hS⟩,rfl,q _ I.fresh⟩
end
section
variable {prog:Program}{w:World}{A:Around}{E:Value→Shared→Prop}{s:Shared}
end
section
variable {prog:Program}{w:World}{A:Around}{E:Value→Shared→Prop}{s:Shared}
end
section
variable {X:Cx}
end
def ZiI (t:TS):TS:=t
theorem Zaj {X:Cx}{st:List Stmt}{t:TS}(h:PSs X st t):PSs X st (ZiI t):=h
theorem Zal {t:TS}{D:Ends}{σ:St}{H:Hp}(h:t D σ H):ZiI t D σ H:=h
section
variable {X:Cx}
def ZlD (t:TX):TX:=fun σ H Q E=>t σ H (fun x H1=>1≤sizeLine∧NewL [x] H1 Q) E
end
end L2
set_option maxHeartbeats 400000000
namespace Pk43
open PySem L2
def top (i:Nat):Stmt:=PySem.Challenge.pw_lackword_k43_the_oftenest.main.body.getD i (.Pass ⟨0,0,0,0⟩)
abbrev s_KZ:Stmt:=top 15
abbrev s_K1:Stmt:=top 16
abbrev s_K5:Stmt:=top 17
abbrev s_KW:Stmt:=top 18
abbrev s_KQ:Stmt:=top 19
abbrev s_KX:Stmt:=top 20
abbrev s_KF:Stmt:=top 21
abbrev s_LF:Stmt:=top 23
abbrev s_K0:Stmt:=top 24
abbrev s_LE:Stmt:=top 25
abbrev s_LK:Stmt:=top 30
abbrev s_LG:Stmt:=top 32
abbrev s_KP:Stmt:=top 34
abbrev s_KV:Stmt:=top 35
abbrev s_K2:Stmt:=top 36
abbrev s_LJ:Stmt:=top 38
abbrev s_LA:Stmt:=top 39
abbrev s_LD:Stmt:=top 40
abbrev s_LL:Stmt:=top 43
abbrev s_LO:Stmt:=top 44
abbrev s_LM:Stmt:=top 45
abbrev s_LB:Stmt:=top 46
abbrev s_K6:Stmt:=top 47
abbrev s_LN:Stmt:=top 48
abbrev s_LP:Stmt:=top 49
abbrev Zks:Stmt:=top 50
abbrev s_K7:Stmt:=top 51
abbrev s_LQ:Stmt:=top 52
abbrev ZcP:Stmt:=top 53
abbrev ZbE:Stmt:=inClass (top 3) 0
abbrev Zbk:Stmt:=inClass (top 4) 0
abbrev Zb5:Stmt:=inClass (top 5) 0
abbrev s_KR:Stmt:=inClass (top 27) 0
abbrev s_KG:Stmt:=inClass (top 27) 1
abbrev s_KS:Stmt:=inClass (top 27) 2
abbrev s_KA:Stmt:=inClass (top 27) 3
abbrev s_KH:Stmt:=inClass (top 27) 4
abbrev s_KK:Stmt:=inClass (top 28) 0
abbrev s_KO:Stmt:=inClass (top 41) 0
abbrev s_KU:Stmt:=inClass (top 41) 3
abbrev s_KM:Stmt:=inClass (top 41) 4
abbrev s_KL:Stmt:=inClass (top 41) 5
abbrev s_KN:Stmt:=inClass (top 41) 6
abbrev s_KE:Stmt:=inClass (top 41) 7
abbrev s_KD:Stmt:=inClass (top 41) 8
set_option genInjectivity false
set_option genSizeOf false
structure Ad where
 c_KT:Addr
 c_K9:Addr
 c_KY:Addr
 c_K4:Addr
 c_K3:Addr
 c_LT:Addr
 c_LS:Addr
 c_K8:Addr
 c_LR:Addr
 c_LH:Addr
 c_LI:Addr
 g_NoWord_init:Addr
 e_NoWord_init:FuncData
 g_NoLength_init:Addr
 e_NoLength_init:FuncData
 g_NoPlace_init:Addr
 e_NoPlace_init:FuncData
 g_KR:Addr
 e_KR:FuncData
 g_KG:Addr
 e_KG:FuncData
 g_KS:Addr
 e_KS:FuncData
 g_KA:Addr
 e_KA:FuncData
 g_KH:Addr
 e_KH:FuncData
 g_KK:Addr
 e_KK:FuncData
 g_KO:Addr
 e_KO:FuncData
 g_KU:Addr
 e_KU:FuncData
 g_KM:Addr
 e_KM:FuncData
 g_KL:Addr
 e_KL:FuncData
 g_KN:Addr
 e_KN:FuncData
 g_KE:Addr
 e_KE:FuncData
 g_KD:Addr
 e_KD:FuncData
 f_KZ:Addr
 d_KZ:FuncData
 f_K1:Addr
 d_K1:FuncData
 f_K5:Addr
 d_K5:FuncData
 f_KW:Addr
 d_KW:FuncData
 f_KQ:Addr
 d_KQ:FuncData
 f_KX:Addr
 d_KX:FuncData
 f_KF:Addr
 d_KF:FuncData
 f_LF:Addr
 d_LF:FuncData
 f_K0:Addr
 d_K0:FuncData
 f_LE:Addr
 d_LE:FuncData
 f_LK:Addr
 d_LK:FuncData
 f_LG:Addr
 d_LG:FuncData
 f_KP:Addr
 d_KP:FuncData
 f_KV:Addr
 d_KV:FuncData
 f_K2:Addr
 d_K2:FuncData
 f_LJ:Addr
 d_LJ:FuncData
 f_LA:Addr
 d_LA:FuncData
 f_LD:Addr
 d_LD:FuncData
 f_LL:Addr
 d_LL:FuncData
 f_LO:Addr
 d_LO:FuncData
 f_LM:Addr
 d_LM:FuncData
 f_LB:Addr
 d_LB:FuncData
 f_K6:Addr
 d_K6:FuncData
 f_LN:Addr
 d_LN:FuncData
 f_LP:Addr
 d_LP:FuncData
 f_due:Addr
 d_due:FuncData
 f_K7:Addr
 d_K7:FuncData
 f_LQ:Addr
 d_LQ:FuncData
 f_law:Addr
 d_law:FuncData
 t_K0:Addr
 k_K0:Addr
 t_K2:Addr
 k_K2:Addr
structure Txt (K:PySem.W.Frag)(mg:Str→Option Value)(a:Ad):Prop where
 m_KZ:mg "has_only"=some (.ref a.f_KZ)
 f_KZ:Fun K "has_only" "has_only" s_KZ a.f_KZ a.d_KZ
 b_KZ:Binds K a.d_KZ ["text","letters"] []
 m_K1:mg "is_kinds"=some (.ref a.f_K1)
 f_K1:Fun K "is_kinds" "is_kinds" s_K1 a.f_K1 a.d_K1
 b_K1:Binds K a.d_K1 ["thing"] []
 m_K5:mg "is_word"=some (.ref a.f_K5)
 f_K5:Fun K "is_word" "is_word" s_K5 a.f_K5 a.d_K5
 b_K5:Binds K a.d_K5 ["thing","kinds","most"] []
 m_KW:mg "is_letter"=some (.ref a.f_KW)
 f_KW:Fun K "is_letter" "is_letter" s_KW a.f_KW a.d_KW
 b_KW:Binds K a.d_KW ["thing","kinds"] []
 m_KQ:mg "need_kinds"=some (.ref a.f_KQ)
 f_KQ:Fun K "need_kinds" "need_kinds" s_KQ a.f_KQ a.d_KQ
 b_KQ:Binds K a.d_KQ ["thing"] []
 m_KX:mg "need_word"=some (.ref a.f_KX)
 f_KX:Fun K "need_word" "need_word" s_KX a.f_KX a.d_KX
 b_KX:Binds K a.d_KX ["thing","kinds","most"] []
 m_KF:mg "need_letter"=some (.ref a.f_KF)
 f_KF:Fun K "need_letter" "need_letter" s_KF a.f_KF a.d_KF
 b_KF:Binds K a.d_KF ["thing","kinds"] []
 m_LF:mg "places"=some (.ref a.f_LF)
 f_LF:Fun K "places" "places" s_LF a.f_LF a.d_LF
 b_LF:Binds K a.d_LF ["text","word"] []
 m_K0:mg "in_order"=some (.ref a.f_K0)
 f_K0:Fun K "in_order" "in_order" s_K0 a.f_K0 a.d_K0
 b_K0:Binds K a.d_K0 ["words"] []
 m_LE:mg "pieces"=some (.ref a.f_LE)
 f_LE:Fun K "pieces" "pieces" s_LE a.f_LE a.d_LE
 b_LE:Binds K a.d_LE ["text","length"] []
 m_LK:mg "lacks"=some (.ref a.f_LK)
 f_LK:Fun K "lacks" "lacks" s_LK a.f_LK a.d_LK
 b_LK:Binds K a.d_LK ["text","word"] []
 m_LG:mg "is_within"=some (.ref a.f_LG)
 f_LG:Fun K "is_within" "is_within" s_LG a.f_LG a.d_LG
 b_LG:Binds K a.d_LG ["thing","least","most"] []
 m_KP:mg "all_places"=some (.ref a.f_KP)
 f_KP:Fun K "all_places" "all_places" s_KP a.f_KP a.d_KP
 b_KP:Binds K a.d_KP ["strip","word"] []
 m_KV:mg "how_often"=some (.ref a.f_KV)
 f_KV:Fun K "how_often" "how_often" s_KV a.f_KV a.d_KV
 b_KV:Binds K a.d_KV ["strip","word"] []
 m_K2:mg "oftenest"=some (.ref a.f_K2)
 f_K2:Fun K "oftenest" "oftenest" s_K2 a.f_K2 a.d_K2
 b_K2:Binds K a.d_K2 ["strip","length"] []
 m_LJ:mg "fresh_words"=some (.ref a.f_LJ)
 f_LJ:Fun K "fresh_words" "fresh_words" s_LJ a.f_LJ a.d_LJ
 b_LJ:Binds K a.d_LJ ["lesser","longer"] []
 m_LA:mg "filled"=some (.ref a.f_LA)
 f_LA:Fun K "filled" "filled" s_LA a.f_LA a.d_LA
 b_LA:Binds K a.d_LA ["lesser","longer","reason"] []
 m_LD:mg "opened"=some (.ref a.f_LD)
 f_LD:Fun K "opened" "opened" s_LD a.f_LD a.d_LD
 b_LD:Binds K a.d_LD ["lesser","longer","kinds","reason"] []
 m_LL:mg "_law_cell"=some (.ref a.f_LL)
 f_LL:Fun K "_law_cell" "_law_cell" s_LL a.f_LL a.d_LL
 b_LL:Binds K a.d_LL ["_law_script","_law_k"] []
 m_LO:mg "_law_mixed"=some (.ref a.f_LO)
 f_LO:Fun K "_law_mixed" "_law_mixed" s_LO a.f_LO a.d_LO
 b_LO:Binds K a.d_LO ["_law_cell_here","_law_k"] []
 m_LM:mg "_law_same"=some (.ref a.f_LM)
 f_LM:Fun K "_law_same" "_law_same" s_LM a.f_LM a.d_LM
 b_LM:Binds K a.d_LM ["_law_found","_law_due_here"] []
 m_LB:mg "_law_kinds"=some (.ref a.f_LB)
 f_LB:Fun K "_law_kinds" "_law_kinds" s_LB a.f_LB a.d_LB
 b_LB:Binds K a.d_LB ["_law_cell_here"] []
 m_K6:mg "_law_letters"=some (.ref a.f_K6)
 f_K6:Fun K "_law_letters" "_law_letters" s_K6 a.f_K6 a.d_K6
 b_K6:Binds K a.d_K6 ["_law_cell_here","_law_kinds_here","_law_size","_law_digits"] []
 m_LN:mg "_law_text"=some (.ref a.f_LN)
 f_LN:Fun K "_law_text" "_law_text" s_LN a.f_LN a.d_LN
 b_LN:Binds K a.d_LN ["_law_script","_law_at","_law_kinds_here"] []
 m_LP:mg "_law_moved"=some (.ref a.f_LP)
 f_LP:Fun K "_law_moved" "_law_moved" s_LP a.f_LP a.d_LP
 b_LP:Binds K a.d_LP ["_law_text_here","_law_kinds_here","_law_cell_here","_law_right_here"] []
 m_due:mg "_law_due"=some (.ref a.f_due)
 f_due:Fun K "_law_due" "_law_due" Zks a.f_due a.d_due
 b_due:Binds K a.d_due ["_law_text_here","_law_length"] []
 m_K7:mg "_law_refused"=some (.ref a.f_K7)
 f_K7:Fun K "_law_refused" "_law_refused" s_K7 a.f_K7 a.d_K7
 b_K7:Binds K a.d_K7 ["_law_strip","_law_thing"] []
 m_LQ:mg "_law_right"=some (.ref a.f_LQ)
 f_LQ:Fun K "_law_right" "_law_right" s_LQ a.f_LQ a.d_LQ
 b_LQ:Binds K a.d_LQ ["_law_band","_law_row"] []
 m_law:mg "law"=some (.ref a.f_law)
 f_law:Fun K "law" "law" ZcP a.f_law a.d_law
 b_law:Binds K a.d_law ["_law_script"] []
 m_KT:mg "LackError"=some (.ref a.c_KT)
 x_KT:Xm K a.c_KT
 xi_KT:Xi K a.c_KT
 k_KT:ClsOk K a.c_KT [.ref a.c_KT,.type "ValueError",.type "Exception",.type "BaseException",.type "object"]
 i_KT:PySem.W.findIn K (.ref a.c_KT) "__init__"=some (some (.builtin "ValueError.__init__"))
 r_KT:ClsRead K a.c_KT "__init__" (.builtin "ValueError.__init__")
 m_K9:mg "NoWord"=some (.ref a.c_K9)
 x_K9:Xm K a.c_K9
 xi_K9:Xi K a.c_K9
 k_K9:ClsOk K a.c_K9 [.ref a.c_K9,.ref a.c_KT,.type "ValueError",.type "Exception",.type "BaseException",.type "object"]
 i_K9:PySem.W.findIn K (.ref a.c_K9) "__init__"=some (some (.ref a.g_NoWord_init))
 fn_K9:PySem.W.isFn K (.ref a.g_NoWord_init)=true
 n_NoWord_word:NoAttr K a.c_K9 "word"
 fi_K9:Fun K "__init__" "NoWord.__init__" ZbE a.g_NoWord_init a.e_NoWord_init
 b_K9:Binds K a.e_NoWord_init ["self","word"] []
 m_KY:mg "NoLength"=some (.ref a.c_KY)
 x_KY:Xm K a.c_KY
 xi_KY:Xi K a.c_KY
 k_KY:ClsOk K a.c_KY [.ref a.c_KY,.ref a.c_KT,.type "ValueError",.type "Exception",.type "BaseException",.type "object"]
 i_KY:PySem.W.findIn K (.ref a.c_KY) "__init__"=some (some (.ref a.g_NoLength_init))
 fn_KY:PySem.W.isFn K (.ref a.g_NoLength_init)=true
 n_NoLength_length:NoAttr K a.c_KY "length"
 fi_KY:Fun K "__init__" "NoLength.__init__" Zbk a.g_NoLength_init a.e_NoLength_init
 b_KY:Binds K a.e_NoLength_init ["self","length"] []
 m_K4:mg "NoPlace"=some (.ref a.c_K4)
 x_K4:Xm K a.c_K4
 xi_K4:Xi K a.c_K4
 k_K4:ClsOk K a.c_K4 [.ref a.c_K4,.ref a.c_KT,.type "ValueError",.type "Exception",.type "BaseException",.type "object"]
 i_K4:PySem.W.findIn K (.ref a.c_K4) "__init__"=some (some (.ref a.g_NoPlace_init))
 fn_K4:PySem.W.isFn K (.ref a.g_NoPlace_init)=true
 n_NoPlace_place:NoAttr K a.c_K4 "place"
 fi_K4:Fun K "__init__" "NoPlace.__init__" Zb5 a.g_NoPlace_init a.e_NoPlace_init
 b_K4:Binds K a.e_NoPlace_init ["self","place"] []
 m_K3:mg "NoKinds"=some (.ref a.c_K3)
 x_K3:Xm K a.c_K3
 xi_K3:Xi K a.c_K3
 k_K3:ClsOk K a.c_K3 [.ref a.c_K3,.ref a.c_KT,.type "ValueError",.type "Exception",.type "BaseException",.type "object"]
 i_K3:PySem.W.findIn K (.ref a.c_K3) "__init__"=some (some (.builtin "ValueError.__init__"))
 m_LT:mg "Full"=some (.ref a.c_LT)
 x_LT:Xm K a.c_LT
 xi_LT:Xi K a.c_LT
 k_LT:ClsOk K a.c_LT [.ref a.c_LT,.ref a.c_KT,.type "ValueError",.type "Exception",.type "BaseException",.type "object"]
 i_LT:PySem.W.findIn K (.ref a.c_LT) "__init__"=some (some (.builtin "ValueError.__init__"))
 m_LS:mg "Bare"=some (.ref a.c_LS)
 x_LS:Xm K a.c_LS
 xi_LS:Xi K a.c_LS
 k_LS:ClsOk K a.c_LS [.ref a.c_LS,.ref a.c_KT,.type "ValueError",.type "Exception",.type "BaseException",.type "object"]
 i_LS:PySem.W.findIn K (.ref a.c_LS) "__init__"=some (some (.builtin "ValueError.__init__"))
 m_K8:mg "NoBack"=some (.ref a.c_K8)
 x_K8:Xm K a.c_K8
 xi_K8:Xi K a.c_K8
 k_K8:ClsOk K a.c_K8 [.ref a.c_K8,.ref a.c_KT,.type "ValueError",.type "Exception",.type "BaseException",.type "object"]
 i_K8:PySem.W.findIn K (.ref a.c_K8) "__init__"=some (some (.builtin "ValueError.__init__"))
 m_LR:mg "Band"=some (.ref a.c_LR)
 cr_LR:ClsRead K a.c_LR "__init__" (.ref a.g_KR)
 cl_LR:Cls K a.c_LR
 m_LH:mg "Plain"=some (.ref a.c_LH)
 cr_LH:ClsRead K a.c_LH "__init__" (.ref a.g_KK)
 cl_LH:Cls K a.c_LH
 mk_LH:Mk K a.c_LH a.g_KK
 me_Plain_text:Meth K a.c_LH "text" a.g_KS
 me_Plain_kinds:Meth K a.c_LH "kinds" a.g_KG
 me_Plain_laid_out:Meth K a.c_LH "laid_out" a.g_KA
 me_Plain_words:Meth K a.c_LH "words" a.g_KH
 n_Plain_own_text:NoAttr K a.c_LH "own_text"
 n_Plain_own_kinds:NoAttr K a.c_LH "own_kinds"
 n_Plain_own_lacking:NoAttr K a.c_LH "own_lacking"
 n_Plain_own_deeds:NoAttr K a.c_LH "own_deeds"
 ty_LH:∀ {H:Hp} {x dx:Addr} {fs:List (Str×V)},H x=some (.ins a.c_LH dx fs)→TyOf K H (.ref x) (.ref a.c_LH)
 m_LI:mg "Strip"=some (.ref a.c_LI)
 cr_LI:ClsRead K a.c_LI "__init__" (.ref a.g_KO)
 cl_LI:Cls K a.c_LI
 mk_LI:Mk K a.c_LI a.g_KO
 me_Strip_text:Meth K a.c_LI "text" a.g_KS
 me_Strip_kinds:Meth K a.c_LI "kinds" a.g_KG
 me_Strip_laid_out:Meth K a.c_LI "laid_out" a.g_KA
 me_Strip_words:Meth K a.c_LI "words" a.g_KH
 me_KU:Meth K a.c_LI "put" a.g_KU
 me_KM:Meth K a.c_LI "drop" a.g_KM
 me_KL:Meth K a.c_LI "back" a.g_KL
 me_KN:Meth K a.c_LI "grow" a.g_KN
 me_KE:Meth K a.c_LI "shrink" a.g_KE
 me_KD:Meth K a.c_LI "change" a.g_KD
 n_Strip_own_text:NoAttr K a.c_LI "own_text"
 n_Strip_own_kinds:NoAttr K a.c_LI "own_kinds"
 n_Strip_own_lacking:NoAttr K a.c_LI "own_lacking"
 n_Strip_own_deeds:NoAttr K a.c_LI "own_deeds"
 ty_LI:∀ {H:Hp} {x dx:Addr} {fs:List (Str×V)},H x=some (.ins a.c_LI dx fs)→TyOf K H (.ref x) (.ref a.c_LI)
 fm_KR:Fun K "__init__" "Band.__init__" s_KR a.g_KR a.e_KR
 kp_KR:PySem.W.keepIn K (.ref a.g_KR)=true
 b_KR:Binds K a.e_KR ["self","text","kinds"] []
 fm_KG:Fun K "kinds" "Band.kinds" s_KG a.g_KG a.e_KG
 kp_KG:PySem.W.keepIn K (.ref a.g_KG)=true
 b_KG:Binds K a.e_KG ["self"] []
 fm_KS:Fun K "text" "Band.text" s_KS a.g_KS a.e_KS
 kp_KS:PySem.W.keepIn K (.ref a.g_KS)=true
 b_KS:Binds K a.e_KS ["self"] []
 fm_KA:Fun K "laid_out" "Band.laid_out" s_KA a.g_KA a.e_KA
 kp_KA:PySem.W.keepIn K (.ref a.g_KA)=true
 b_KA:Binds K a.e_KA ["self","length"] []
 fm_KH:Fun K "words" "Band.words" s_KH a.g_KH a.e_KH
 kp_KH:PySem.W.keepIn K (.ref a.g_KH)=true
 b_KH:Binds K a.e_KH ["self","length"] []
 fm_KK:Fun K "__init__" "Plain.__init__" s_KK a.g_KK a.e_KK
 kp_KK:PySem.W.keepIn K (.ref a.g_KK)=true
 b_KK:Binds K a.e_KK ["self","text","kinds"] []
 fm_KO:Fun K "__init__" "Strip.__init__" s_KO a.g_KO a.e_KO
 kp_KO:PySem.W.keepIn K (.ref a.g_KO)=true
 b_KO:Binds K a.e_KO ["self","kinds"] []
 fm_KU:Fun K "put" "Strip.put" s_KU a.g_KU a.e_KU
 kp_KU:PySem.W.keepIn K (.ref a.g_KU)=true
 b_KU:Binds K a.e_KU ["self","letter"] []
 fm_KM:Fun K "drop" "Strip.drop" s_KM a.g_KM a.e_KM
 kp_KM:PySem.W.keepIn K (.ref a.g_KM)=true
 b_KM:Binds K a.e_KM ["self"] []
 fm_KL:Fun K "back" "Strip.back" s_KL a.g_KL a.e_KL
 kp_KL:PySem.W.keepIn K (.ref a.g_KL)=true
 b_KL:Binds K a.e_KL ["self"] []
 fm_KN:Fun K "grow" "Strip.grow" s_KN a.g_KN a.e_KN
 kp_KN:PySem.W.keepIn K (.ref a.g_KN)=true
 b_KN:Binds K a.e_KN ["self","longer"] []
 fm_KE:Fun K "shrink" "Strip.shrink" s_KE a.g_KE a.e_KE
 kp_KE:PySem.W.keepIn K (.ref a.g_KE)=true
 b_KE:Binds K a.e_KE ["self","lesser"] []
 fm_KD:Fun K "change" "Strip.change" s_KD a.g_KD a.e_KD
 kp_KD:PySem.W.keepIn K (.ref a.g_KD)=true
 b_KD:Binds K a.e_KD ["self","text","came","went"] []
 nd:[a.c_KT,a.c_K9,a.c_KY,a.c_K4,a.c_K3,a.c_LT,a.c_LS,a.c_K8].Nodup
 z_len:mg "len"=none
 z_range:mg "range"=none
 z_isinstance:mg "isinstance"=none
 z_all:mg "all"=none
 z_max:mg "max"=none
 z_list:mg "list"=none
 z_tuple:mg "tuple"=none
 z_set:mg "set"=none
 z_sorted:mg "sorted"=none
 z_str:mg "str"=none
 z_int:mg "int"=none
 z_bool:mg "bool"=none
 z_ValueError:mg "ValueError"=none
 z_zip:mg "zip"=none
 c_KC:∃t,mg "SMALL_LETTERS"=some (.str (Str.ofString "abcdefghijklmnopqrstuvwxyz") t)
 c_KJ:∃t,mg "MOST_KINDS"=some (.int 4 t)
 c_KB:∃t,mg "MOST_IN_STRIP"=some (.int 40 t)
 c_KI:∃t,mg "MOST_ASKED"=some (.int 60 t)
 bl:∀(s:Shared) (u:Value),BindsTo s a.d_law ⟨[u],[]⟩ [("_law_script",u)]
structure TL (K:PySem.W.Frag)(mg:Str→Option Value)(base:Heap)(a:Ad)(tb:Str→Addr×Addr):Prop extends Txt K mg a where
 L_in_order:LamEnv base mg a.k_K0 a.t_K0
 cd_K0:a.d_K0.code=.ref a.k_K0
 e_K0:a.t_K0=(tb "in_order").2
 L_oftenest:LamEnv base mg a.k_K2 a.t_K2
 cd_K2:a.d_K2.code=.ref a.k_K2
 e_K2:a.t_K2=(tb "oftenest").2
theorem lenA {P:List Value→Prop}(h:∀a,P [a]):∀us:List Value,us.length=1→P us
 | [a],_=>h a
local macro_rules | `(tactic| walk_at "b1") => `(tactic| (intro _ _ _ _ _ _; refine lenA ?_; intros; rfl))
theorem lenB {P:List Value→Prop}(h:∀a b,P [a,b]):∀us:List Value,us.length=2→P us
 | [a,b],_=>h a b
local macro_rules | `(tactic| walk_at "b2") => `(tactic| (intro _ _ _ _ _ _; refine lenB ?_; intros; rfl))
theorem lenC {P:List Value→Prop}(h:∀a b c,P [a,b,c]):∀us:List Value,us.length=3→P us
 | [a,b,c],_=>h a b c
local macro_rules | `(tactic| walk_at "b3") => `(tactic| (intro _ _ _ _ _ _; refine lenC ?_; intros; rfl))
theorem lenD {P:List Value→Prop}(h:∀a b c d,P [a,b,c,d]):∀us:List Value,us.length=4→P us
 | [a,b,c,d],_=>h a b c d
local macro_rules | `(tactic| walk_at "b4") => `(tactic| (intro _ _ _ _ _ _; refine lenD ?_; intros; rfl))
theorem txt_mk {K:PySem.W.Frag}{h:Heap}{mg:Str→Option Value}(X:K.In h)(G:h.Ns mainGlobals mg){c_KT:Addr}{c_K9:Addr}{g_NoWord_init:Addr}{e_NoWord_init:FuncData}{c_KY:Addr}{g_NoLength_init:Addr}{e_NoLength_init:FuncData}{c_K4:Addr}{g_NoPlace_init:Addr}{e_NoPlace_init:FuncData}{c_K3:Addr}{c_LT:Addr}{c_LS:Addr}{c_K8:Addr}{g_KR:Addr}{e_KR:FuncData}{g_KG:Addr}{e_KG:FuncData}{g_KS:Addr}{e_KS:FuncData}{g_KA:Addr}{e_KA:FuncData}{g_KH:Addr}{e_KH:FuncData}{g_KK:Addr}{e_KK:FuncData}{g_KO:Addr}{e_KO:FuncData}{g_KU:Addr}{e_KU:FuncData}{g_KM:Addr}{e_KM:FuncData}{g_KL:Addr}{e_KL:FuncData}{g_KN:Addr}{e_KN:FuncData}{g_KE:Addr}{e_KE:FuncData}{g_KD:Addr}{e_KD:FuncData}{c_LR:Addr}{c_LH:Addr}{c_LI:Addr}{f_KZ:Addr}{d_KZ:FuncData}{f_K1:Addr}{d_K1:FuncData}{f_K5:Addr}{d_K5:FuncData}{f_KW:Addr}{d_KW:FuncData}{f_KQ:Addr}{d_KQ:FuncData}{f_KX:Addr}{d_KX:FuncData}{f_KF:Addr}{d_KF:FuncData}{f_LF:Addr}{d_LF:FuncData}{f_K0:Addr}{d_K0:FuncData}{f_LE:Addr}{d_LE:FuncData}{f_LK:Addr}{d_LK:FuncData}{f_LG:Addr}{d_LG:FuncData}{f_KP:Addr}{d_KP:FuncData}{f_KV:Addr}{d_KV:FuncData}{f_K2:Addr}{d_K2:FuncData}{f_LJ:Addr}{d_LJ:FuncData}{f_LA:Addr}{d_LA:FuncData}{f_LD:Addr}{d_LD:FuncData}{f_LL:Addr}{d_LL:FuncData}{f_LO:Addr}{d_LO:FuncData}{f_LM:Addr}{d_LM:FuncData}{f_LB:Addr}{d_LB:FuncData}{f_K6:Addr}{d_K6:FuncData}{f_LN:Addr}{d_LN:FuncData}{f_LP:Addr}{d_LP:FuncData}{f_due:Addr}{d_due:FuncData}{f_K7:Addr}{d_K7:FuncData}{f_LQ:Addr}{d_LQ:FuncData}{f_law:Addr}{d_law:FuncData}{tk_KC:Tok}{tk_KJ:Tok}{tk_KB:Tok}{tk_KI:Tok}{t_K0 k_K0:Addr}{t_K2 k_K2:Addr}
  (X_LackError:XG K "LackError" c_KT [.ref c_KT,.type "ValueError",.type "Exception",.type "BaseException",.type "object"])
  (i_KT:PySem.W.findIn K (.ref c_KT) "__init__"=some (some (.builtin "ValueError.__init__")))
  (rs_KT:PySem.W.specialIn K (.ref c_KT) "__getattribute__"=some (some (.builtin "type.__getattribute__")))
  (rr_KT:PySem.W.readsIn K c_KT (.type "type")=true)
  (rf_KT:PySem.W.findCls K (.ref c_KT) (.type "type") "__init__"=some (.val (.builtin "ValueError.__init__")))
  (X_NoWord:XG K "NoWord" c_K9 [.ref c_K9,.ref c_KT,.type "ValueError",.type "Exception",.type "BaseException",.type "object"])
  (i_K9:PySem.W.findIn K (.ref c_K9) "__init__"=some (some (.ref g_NoWord_init)))
  (F_INoWord:MG K "__init__" "NoWord.__init__" ZbE g_NoWord_init e_NoWord_init)
  (n_NoWord_word:PySem.W.findIn K (.ref c_K9) "word"=some none)
  (X_NoLength:XG K "NoLength" c_KY [.ref c_KY,.ref c_KT,.type "ValueError",.type "Exception",.type "BaseException",.type "object"])
  (i_KY:PySem.W.findIn K (.ref c_KY) "__init__"=some (some (.ref g_NoLength_init)))
  (F_INoLength:MG K "__init__" "NoLength.__init__" Zbk g_NoLength_init e_NoLength_init)
  (n_NoLength_length:PySem.W.findIn K (.ref c_KY) "length"=some none)
  (X_NoPlace:XG K "NoPlace" c_K4 [.ref c_K4,.ref c_KT,.type "ValueError",.type "Exception",.type "BaseException",.type "object"])
  (i_K4:PySem.W.findIn K (.ref c_K4) "__init__"=some (some (.ref g_NoPlace_init)))
  (F_INoPlace:MG K "__init__" "NoPlace.__init__" Zb5 g_NoPlace_init e_NoPlace_init)
  (n_NoPlace_place:PySem.W.findIn K (.ref c_K4) "place"=some none)
  (X_NoKinds:XG K "NoKinds" c_K3 [.ref c_K3,.ref c_KT,.type "ValueError",.type "Exception",.type "BaseException",.type "object"])
  (i_K3:PySem.W.findIn K (.ref c_K3) "__init__"=some (some (.builtin "ValueError.__init__")))
  (X_Full:XG K "Full" c_LT [.ref c_LT,.ref c_KT,.type "ValueError",.type "Exception",.type "BaseException",.type "object"])
  (i_LT:PySem.W.findIn K (.ref c_LT) "__init__"=some (some (.builtin "ValueError.__init__")))
  (X_Bare:XG K "Bare" c_LS [.ref c_LS,.ref c_KT,.type "ValueError",.type "Exception",.type "BaseException",.type "object"])
  (i_LS:PySem.W.findIn K (.ref c_LS) "__init__"=some (some (.builtin "ValueError.__init__")))
  (X_NoBack:XG K "NoBack" c_K8 [.ref c_K8,.ref c_KT,.type "ValueError",.type "Exception",.type "BaseException",.type "object"])
  (i_K8:PySem.W.findIn K (.ref c_K8) "__init__"=some (some (.builtin "ValueError.__init__")))
  (ow_hn:PySem.W.specialIn K (.builtin "object.__class__") "__get__"=some (some (.builtin "getset_descriptor.__get__")))
  (ow_tk:PySem.W.takesIn K (.builtin "object.__class__")=some true)
  (a_LR:PySem.W.nsIn K mainGlobals "Band"=some (some (.ref c_LR)))
  (pg_LR:PySem.W.plainGet K c_LR Str.empty=true)
  (hd_LR:PySem.W.hasDictIn K c_LR=true)
  (po_LR:PySem.W.plainOver K c_LR=true)
  (sa_LR:PySem.W.findIn K (.ref c_LR) "__setattr__"=some (some (.builtin "object.__setattr__")))
  (rs_LR:PySem.W.specialIn K (.ref c_LR) "__getattribute__"=some (some (.builtin "type.__getattribute__")))
  (rr_LR:PySem.W.readsIn K c_LR (.type "type")=true)
  (rf_LR:PySem.W.findCls K (.ref c_LR) (.type "type") "__init__"=some (.val (.ref g_KR)))
  (a_LH:PySem.W.nsIn K mainGlobals "Plain"=some (some (.ref c_LH)))
  (pg_LH:PySem.W.plainGet K c_LH Str.empty=true)
  (hd_LH:PySem.W.hasDictIn K c_LH=true)
  (po_LH:PySem.W.plainOver K c_LH=true)
  (sa_LH:PySem.W.findIn K (.ref c_LH) "__setattr__"=some (some (.builtin "object.__setattr__")))
  (rs_LH:PySem.W.specialIn K (.ref c_LH) "__getattribute__"=some (some (.builtin "type.__getattribute__")))
  (rr_LH:PySem.W.readsIn K c_LH (.type "type")=true)
  (rf_LH:PySem.W.findCls K (.ref c_LH) (.type "type") "__init__"=some (.val (.ref g_KK)))
  (mk_LH:PySem.W.makesIn K c_LH=true)
  (in_LH:PySem.W.findIn K (.ref c_LH) "__init__"=some (some (.ref g_KK)))
  (kc_LH:PySem.W.keepIn K (.ref c_LH)=true)
  (ha_LH:PySem.W.findIn K (.ref c_LH) "__class__"=some (some (.builtin "object.__class__")))
  (mo_LH:PySem.W.mroIn K c_LH (.type "object")=some true)
  (me_Plain_text:PySem.W.findIn K (.ref c_LH) "text"=some (some (.ref g_KS)))
  (me_Plain_kinds:PySem.W.findIn K (.ref c_LH) "kinds"=some (some (.ref g_KG)))
  (me_Plain_laid_out:PySem.W.findIn K (.ref c_LH) "laid_out"=some (some (.ref g_KA)))
  (me_Plain_words:PySem.W.findIn K (.ref c_LH) "words"=some (some (.ref g_KH)))
  (n_Plain_own_text:PySem.W.findIn K (.ref c_LH) "own_text"=some none)
  (n_Plain_own_kinds:PySem.W.findIn K (.ref c_LH) "own_kinds"=some none)
  (n_Plain_own_lacking:PySem.W.findIn K (.ref c_LH) "own_lacking"=some none)
  (n_Plain_own_deeds:PySem.W.findIn K (.ref c_LH) "own_deeds"=some none)
  (a_LI:PySem.W.nsIn K mainGlobals "Strip"=some (some (.ref c_LI)))
  (pg_LI:PySem.W.plainGet K c_LI Str.empty=true)
  (hd_LI:PySem.W.hasDictIn K c_LI=true)
  (po_LI:PySem.W.plainOver K c_LI=true)
  (sa_LI:PySem.W.findIn K (.ref c_LI) "__setattr__"=some (some (.builtin "object.__setattr__")))
  (rs_LI:PySem.W.specialIn K (.ref c_LI) "__getattribute__"=some (some (.builtin "type.__getattribute__")))
  (rr_LI:PySem.W.readsIn K c_LI (.type "type")=true)
  (rf_LI:PySem.W.findCls K (.ref c_LI) (.type "type") "__init__"=some (.val (.ref g_KO)))
  (mk_LI:PySem.W.makesIn K c_LI=true)
  (in_LI:PySem.W.findIn K (.ref c_LI) "__init__"=some (some (.ref g_KO)))
  (kc_LI:PySem.W.keepIn K (.ref c_LI)=true)
  (ha_LI:PySem.W.findIn K (.ref c_LI) "__class__"=some (some (.builtin "object.__class__")))
  (mo_LI:PySem.W.mroIn K c_LI (.type "object")=some true)
  (me_Strip_text:PySem.W.findIn K (.ref c_LI) "text"=some (some (.ref g_KS)))
  (me_Strip_kinds:PySem.W.findIn K (.ref c_LI) "kinds"=some (some (.ref g_KG)))
  (me_Strip_laid_out:PySem.W.findIn K (.ref c_LI) "laid_out"=some (some (.ref g_KA)))
  (me_Strip_words:PySem.W.findIn K (.ref c_LI) "words"=some (some (.ref g_KH)))
  (me_KU:PySem.W.findIn K (.ref c_LI) "put"=some (some (.ref g_KU)))
  (me_KM:PySem.W.findIn K (.ref c_LI) "drop"=some (some (.ref g_KM)))
  (me_KL:PySem.W.findIn K (.ref c_LI) "back"=some (some (.ref g_KL)))
  (me_KN:PySem.W.findIn K (.ref c_LI) "grow"=some (some (.ref g_KN)))
  (me_KE:PySem.W.findIn K (.ref c_LI) "shrink"=some (some (.ref g_KE)))
  (me_KD:PySem.W.findIn K (.ref c_LI) "change"=some (some (.ref g_KD)))
  (n_Strip_own_text:PySem.W.findIn K (.ref c_LI) "own_text"=some none)
  (n_Strip_own_kinds:PySem.W.findIn K (.ref c_LI) "own_kinds"=some none)
  (n_Strip_own_lacking:PySem.W.findIn K (.ref c_LI) "own_lacking"=some none)
  (n_Strip_own_deeds:PySem.W.findIn K (.ref c_LI) "own_deeds"=some none)
  (F_Band_init:MG K "__init__" "Band.__init__" s_KR g_KR e_KR)
  (F_Band_kinds:MG K "kinds" "Band.kinds" s_KG g_KG e_KG)
  (F_Band_text:MG K "text" "Band.text" s_KS g_KS e_KS)
  (F_Band_laid_out:MG K "laid_out" "Band.laid_out" s_KA g_KA e_KA)
  (F_Band_words:MG K "words" "Band.words" s_KH g_KH e_KH)
  (F_Plain_init:MG K "__init__" "Plain.__init__" s_KK g_KK e_KK)
  (F_Strip_init:MG K "__init__" "Strip.__init__" s_KO g_KO e_KO)
  (F_Strip_put:MG K "put" "Strip.put" s_KU g_KU e_KU)
  (F_Strip_drop:MG K "drop" "Strip.drop" s_KM g_KM e_KM)
  (F_Strip_back:MG K "back" "Strip.back" s_KL g_KL e_KL)
  (F_Strip_grow:MG K "grow" "Strip.grow" s_KN g_KN e_KN)
  (F_Strip_shrink:MG K "shrink" "Strip.shrink" s_KE g_KE e_KE)
  (F_Strip_change:MG K "change" "Strip.change" s_KD g_KD e_KD)
  (nd:[c_KT,c_K9,c_KY,c_K4,c_K3,c_LT,c_LS,c_K8].Nodup)
  (D_has_only:DG K "has_only" s_KZ f_KZ d_KZ)
  (D_is_kinds:DG K "is_kinds" s_K1 f_K1 d_K1)
  (D_is_word:DG K "is_word" s_K5 f_K5 d_K5)
  (D_is_letter:DG K "is_letter" s_KW f_KW d_KW)
  (D_need_kinds:DG K "need_kinds" s_KQ f_KQ d_KQ)
  (D_need_word:DG K "need_word" s_KX f_KX d_KX)
  (D_need_letter:DG K "need_letter" s_KF f_KF d_KF)
  (D_places:DG K "places" s_LF f_LF d_LF)
  (D_in_order:DG K "in_order" s_K0 f_K0 d_K0)
  (D_pieces:DG K "pieces" s_LE f_LE d_LE)
  (D_lacks:DG K "lacks" s_LK f_LK d_LK)
  (D_within:DG K "is_within" s_LG f_LG d_LG)
  (D_all_places:DG K "all_places" s_KP f_KP d_KP)
  (D_how_often:DG K "how_often" s_KV f_KV d_KV)
  (D_oftenest:DG K "oftenest" s_K2 f_K2 d_K2)
  (D_fresh:DG K "fresh_words" s_LJ f_LJ d_LJ)
  (D_filled:DG K "filled" s_LA f_LA d_LA)
  (D_opened:DG K "opened" s_LD f_LD d_LD)
  (D_lcell:DG K "_law_cell" s_LL f_LL d_LL)
  (D_mixed:DG K "_law_mixed" s_LO f_LO d_LO)
  (D_lsame:DG K "_law_same" s_LM f_LM d_LM)
  (D_lkinds:DG K "_law_kinds" s_LB f_LB d_LB)
  (D_letters:DG K "_law_letters" s_K6 f_K6 d_K6)
  (D_ltext:DG K "_law_text" s_LN f_LN d_LN)
  (D_moved:DG K "_law_moved" s_LP f_LP d_LP)
  (D_due:DG K "_law_due" Zks f_due d_due)
  (D_refused:DG K "_law_refused" s_K7 f_K7 d_K7)
  (D_right:DG K "_law_right" s_LQ f_LQ d_LQ)
  (D_law:DG K "law" ZcP f_law d_law)
  (z_len:PySem.W.nsIn K mainGlobals "len"=some none)
  (z_range:PySem.W.nsIn K mainGlobals "range"=some none)
  (z_isinstance:PySem.W.nsIn K mainGlobals "isinstance"=some none)
  (z_all:PySem.W.nsIn K mainGlobals "all"=some none)
  (z_max:PySem.W.nsIn K mainGlobals "max"=some none)
  (z_list:PySem.W.nsIn K mainGlobals "list"=some none)
  (z_tuple:PySem.W.nsIn K mainGlobals "tuple"=some none)
  (z_set:PySem.W.nsIn K mainGlobals "set"=some none)
  (z_sorted:PySem.W.nsIn K mainGlobals "sorted"=some none)
  (z_str:PySem.W.nsIn K mainGlobals "str"=some none)
  (z_int:PySem.W.nsIn K mainGlobals "int"=some none)
  (z_bool:PySem.W.nsIn K mainGlobals "bool"=some none)
  (z_ValueError:PySem.W.nsIn K mainGlobals "ValueError"=some none)
  (z_zip:PySem.W.nsIn K mainGlobals "zip"=some none)
  (c_KC:PySem.W.nsIn K mainGlobals "SMALL_LETTERS"=some (some (.str (Str.ofString "abcdefghijklmnopqrstuvwxyz") tk_KC)))
  (c_KJ:PySem.W.nsIn K mainGlobals "MOST_KINDS"=some (some (.int 4 tk_KJ)))
  (c_KB:PySem.W.nsIn K mainGlobals "MOST_IN_STRIP"=some (some (.int 40 tk_KB)))
  (c_KI:PySem.W.nsIn K mainGlobals "MOST_ASKED"=some (some (.int 60 tk_KI))):∃a,Txt K mg a∧a.t_K0=t_K0∧a.k_K0=k_K0∧a.t_K2=t_K2∧a.k_K2=k_K2:=by
 obtain⟨_,_,_,_,_,_,_,_,_,rfl,_⟩:=id D_law.2.ex
 refine⟨{ c_KT,g_NoWord_init,e_NoWord_init,c_K9,g_NoLength_init,e_NoLength_init,c_KY,g_NoPlace_init,e_NoPlace_init,c_K4,c_K3,c_LT,c_LS,c_K8,c_LR,c_LH,c_LI,g_KR,e_KR,g_KG,e_KG,g_KS,e_KS,g_KA,e_KA,g_KH,e_KH,g_KK,e_KK,g_KO,e_KO,g_KU,e_KU,g_KM,e_KM,g_KL,e_KL,g_KN,e_KN,g_KE,e_KE,g_KD,e_KD,f_KZ,d_KZ,f_K1,d_K1,f_K5,d_K5,f_KW,d_KW,f_KQ,d_KQ,f_KX,d_KX,f_KF,d_KF,f_LF,d_LF,f_K0,d_K0,f_LE,d_LE,f_LK,d_LK,f_LG,d_LG,f_KP,d_KP,f_KV,d_KV,f_K2,d_K2,f_LJ,d_LJ,f_LA,d_LA,f_LD,d_LD,f_LL,d_LL,f_LO,d_LO,f_LM,d_LM,f_LB,d_LB,f_K6,d_K6,f_LN,d_LN,f_LP,d_LP,f_due,d_due,f_K7,d_K7,f_LQ,d_LQ,f_law,t_K0,k_K0,t_K2,k_K2,d_law:=_ },{ m_KZ:=YAS X G D_has_only.1,f_KZ:=D_has_only.2,b_KZ:=D_has_only.2.binds (by walk_at "b2"),m_K1:=YAS X G D_is_kinds.1,f_K1:=D_is_kinds.2,b_K1:=D_is_kinds.2.binds (by walk_at "b1"),m_K5:=YAS X G D_is_word.1,f_K5:=D_is_word.2,b_K5:=D_is_word.2.binds (by walk_at "b3"),m_KW:=YAS X G D_is_letter.1,f_KW:=D_is_letter.2,b_KW:=D_is_letter.2.binds (by walk_at "b2"),m_KQ:=YAS X G D_need_kinds.1,f_KQ:=D_need_kinds.2,b_KQ:=D_need_kinds.2.binds (by walk_at "b1"),m_KX:=YAS X G D_need_word.1,f_KX:=D_need_word.2,b_KX:=D_need_word.2.binds (by walk_at "b3"),m_KF:=YAS X G D_need_letter.1,f_KF:=D_need_letter.2,b_KF:=D_need_letter.2.binds (by walk_at "b2"),m_LF:=YAS X G D_places.1,f_LF:=D_places.2,b_LF:=D_places.2.binds (by walk_at "b2"),m_K0:=YAS X G D_in_order.1,f_K0:=D_in_order.2,b_K0:=D_in_order.2.binds (by walk_at "b1"),m_LE:=YAS X G D_pieces.1,f_LE:=D_pieces.2,b_LE:=D_pieces.2.binds (by walk_at "b2"),m_LK:=YAS X G D_lacks.1,f_LK:=D_lacks.2,b_LK:=D_lacks.2.binds (by walk_at "b2"),m_LG:=YAS X G D_within.1,f_LG:=D_within.2,b_LG:=D_within.2.binds (by walk_at "b3"),m_KP:=YAS X G D_all_places.1,f_KP:=D_all_places.2,b_KP:=D_all_places.2.binds (by walk_at "b2"),m_KV:=YAS X G D_how_often.1,f_KV:=D_how_often.2,b_KV:=D_how_often.2.binds (by walk_at "b2"),m_K2:=YAS X G D_oftenest.1,f_K2:=D_oftenest.2,b_K2:=D_oftenest.2.binds (by walk_at "b2"),m_LJ:=YAS X G D_fresh.1,f_LJ:=D_fresh.2,b_LJ:=D_fresh.2.binds (by walk_at "b2"),m_LA:=YAS X G D_filled.1,f_LA:=D_filled.2,b_LA:=D_filled.2.binds (by walk_at "b3"),m_LD:=YAS X G D_opened.1,f_LD:=D_opened.2,b_LD:=D_opened.2.binds (by walk_at "b4"),m_LL:=YAS X G D_lcell.1,f_LL:=D_lcell.2,b_LL:=D_lcell.2.binds (by walk_at "b2"),m_LO:=YAS X G D_mixed.1,f_LO:=D_mixed.2,b_LO:=D_mixed.2.binds (by walk_at "b2"),m_LM:=YAS X G D_lsame.1,f_LM:=D_lsame.2,b_LM:=D_lsame.2.binds (by walk_at "b2"),m_LB:=YAS X G D_lkinds.1,f_LB:=D_lkinds.2,b_LB:=D_lkinds.2.binds (by walk_at "b1"),m_K6:=YAS X G D_letters.1,f_K6:=D_letters.2,b_K6:=D_letters.2.binds (by walk_at "b4"),m_LN:=YAS X G D_ltext.1,f_LN:=D_ltext.2,b_LN:=D_ltext.2.binds (by walk_at "b3"),m_LP:=YAS X G D_moved.1,f_LP:=D_moved.2,b_LP:=D_moved.2.binds (by walk_at "b4"),m_due:=YAS X G D_due.1,f_due:=D_due.2,b_due:=D_due.2.binds (by walk_at "b2"),m_K7:=YAS X G D_refused.1,f_K7:=D_refused.2,b_K7:=D_refused.2.binds (by walk_at "b2"),m_LQ:=YAS X G D_right.1,f_LQ:=D_right.2,b_LQ:=D_right.2.binds (by walk_at "b2"),m_law:=YAS X G D_law.1,f_law:=D_law.2,b_law:=D_law.2.binds (by walk_at "b1"),m_KT:=YAS X G X_LackError.a,x_KT:=X_LackError.m,xi_KT:=X_LackError.i,k_KT:=X_LackError.k,i_KT,r_KT:=⟨rs_KT,rr_KT,rf_KT,rfl⟩,m_K9:=YAS X G X_NoWord.a,x_K9:=X_NoWord.m,xi_K9:=X_NoWord.i,k_K9:=X_NoWord.k,i_K9,fn_K9:=F_INoWord.2,n_NoWord_word,fi_K9:=F_INoWord.1,b_K9:=F_INoWord.1.binds (by walk_at "b2"),m_KY:=YAS X G X_NoLength.a,x_KY:=X_NoLength.m,xi_KY:=X_NoLength.i,k_KY:=X_NoLength.k,i_KY,fn_KY:=F_INoLength.2,n_NoLength_length,fi_KY:=F_INoLength.1,b_KY:=F_INoLength.1.binds (by walk_at "b2"),m_K4:=YAS X G X_NoPlace.a,x_K4:=X_NoPlace.m,xi_K4:=X_NoPlace.i,k_K4:=X_NoPlace.k,i_K4,fn_K4:=F_INoPlace.2,n_NoPlace_place,fi_K4:=F_INoPlace.1,b_K4:=F_INoPlace.1.binds (by walk_at "b2"),m_K3:=YAS X G X_NoKinds.a,x_K3:=X_NoKinds.m,xi_K3:=X_NoKinds.i,k_K3:=X_NoKinds.k,i_K3,m_LT:=YAS X G X_Full.a,x_LT:=X_Full.m,xi_LT:=X_Full.i,k_LT:=X_Full.k,i_LT,m_LS:=YAS X G X_Bare.a,x_LS:=X_Bare.m,xi_LS:=X_Bare.i,k_LS:=X_Bare.k,i_LS,m_K8:=YAS X G X_NoBack.a,x_K8:=X_NoBack.m,xi_K8:=X_NoBack.i,k_K8:=X_NoBack.k,i_K8,m_LR:=YAS X G a_LR,cr_LR:=⟨rs_LR,rr_LR,rf_LR,rfl⟩,cl_LR:=⟨pg_LR,hd_LR,po_LR,sa_LR⟩,m_LH:=YAS X G a_LH,cr_LH:=⟨rs_LH,rr_LH,rf_LH,rfl⟩,cl_LH:=⟨pg_LH,hd_LH,po_LH,sa_LH⟩,mk_LH:=⟨mk_LH,in_LH,F_Plain_init.2,kc_LH⟩,me_Plain_text:=⟨me_Plain_text,F_Band_text.2,F_Band_text.1.kp⟩,me_Plain_kinds:=⟨me_Plain_kinds,F_Band_kinds.2,F_Band_kinds.1.kp⟩,me_Plain_laid_out:=⟨me_Plain_laid_out,F_Band_laid_out.2,F_Band_laid_out.1.kp⟩,me_Plain_words:=⟨me_Plain_words,F_Band_words.2,F_Band_words.1.kp⟩,n_Plain_own_text,n_Plain_own_kinds,n_Plain_own_lacking,n_Plain_own_deeds,ty_LH:=fun e=>.ins e ⟨pg_LH,hd_LH,po_LH,sa_LH⟩ ha_LH ow_hn ow_tk mo_LH,m_LI:=YAS X G a_LI,cr_LI:=⟨rs_LI,rr_LI,rf_LI,rfl⟩,cl_LI:=⟨pg_LI,hd_LI,po_LI,sa_LI⟩,mk_LI:=⟨mk_LI,in_LI,F_Strip_init.2,kc_LI⟩,me_Strip_text:=⟨me_Strip_text,F_Band_text.2,F_Band_text.1.kp⟩,me_Strip_kinds:=⟨me_Strip_kinds,F_Band_kinds.2,F_Band_kinds.1.kp⟩,me_Strip_laid_out:=⟨me_Strip_laid_out,F_Band_laid_out.2,F_Band_laid_out.1.kp⟩,me_Strip_words:=⟨me_Strip_words,F_Band_words.2,F_Band_words.1.kp⟩,me_KU:=⟨me_KU,F_Strip_put.2,F_Strip_put.1.kp⟩,me_KM:=⟨me_KM,F_Strip_drop.2,F_Strip_drop.1.kp⟩,me_KL:=⟨me_KL,F_Strip_back.2,F_Strip_back.1.kp⟩,me_KN:=⟨me_KN,F_Strip_grow.2,F_Strip_grow.1.kp⟩,me_KE:=⟨me_KE,F_Strip_shrink.2,F_Strip_shrink.1.kp⟩,me_KD:=⟨me_KD,F_Strip_change.2,F_Strip_change.1.kp⟩,n_Strip_own_text,n_Strip_own_kinds,n_Strip_own_lacking,n_Strip_own_deeds,ty_LI:=fun e=>.ins e ⟨pg_LI,hd_LI,po_LI,sa_LI⟩ ha_LI ow_hn ow_tk mo_LI,fm_KR:=F_Band_init.1,kp_KR:=F_Band_init.1.kp,b_KR:=F_Band_init.1.binds (by walk_at "b3"),fm_KG:=F_Band_kinds.1,kp_KG:=F_Band_kinds.1.kp,b_KG:=F_Band_kinds.1.binds (by walk_at "b1"),fm_KS:=F_Band_text.1,kp_KS:=F_Band_text.1.kp,b_KS:=F_Band_text.1.binds (by walk_at "b1"),fm_KA:=F_Band_laid_out.1,kp_KA:=F_Band_laid_out.1.kp,b_KA:=F_Band_laid_out.1.binds (by walk_at "b2"),fm_KH:=F_Band_words.1,kp_KH:=F_Band_words.1.kp,b_KH:=F_Band_words.1.binds (by walk_at "b2"),fm_KK:=F_Plain_init.1,kp_KK:=F_Plain_init.1.kp,b_KK:=F_Plain_init.1.binds (by walk_at "b3"),fm_KO:=F_Strip_init.1,kp_KO:=F_Strip_init.1.kp,b_KO:=F_Strip_init.1.binds (by walk_at "b2"),fm_KU:=F_Strip_put.1,kp_KU:=F_Strip_put.1.kp,b_KU:=F_Strip_put.1.binds (by walk_at "b2"),fm_KM:=F_Strip_drop.1,kp_KM:=F_Strip_drop.1.kp,b_KM:=F_Strip_drop.1.binds (by walk_at "b1"),fm_KL:=F_Strip_back.1,kp_KL:=F_Strip_back.1.kp,b_KL:=F_Strip_back.1.binds (by walk_at "b1"),fm_KN:=F_Strip_grow.1,kp_KN:=F_Strip_grow.1.kp,b_KN:=F_Strip_grow.1.binds (by walk_at "b2"),fm_KE:=F_Strip_shrink.1,kp_KE:=F_Strip_shrink.1.kp,b_KE:=F_Strip_shrink.1.binds (by walk_at "b2"),fm_KD:=F_Strip_change.1,kp_KD:=F_Strip_change.1.kp,b_KD:=F_Strip_change.1.binds (by walk_at "b4"),nd,z_len:=YAv X G z_len,z_range:=YAv X G z_range,z_isinstance:=YAv X G z_isinstance,z_all:=YAv X G z_all,z_max:=YAv X G z_max,z_list:=YAv X G z_list,z_tuple:=YAv X G z_tuple,z_set:=YAv X G z_set,z_sorted:=YAv X G z_sorted,z_str:=YAv X G z_str,z_int:=YAv X G z_int,z_bool:=YAv X G z_bool,z_ValueError:=YAv X G z_ValueError,z_zip:=YAv X G z_zip,c_KC:=⟨_,YAS X G c_KC⟩,c_KJ:=⟨_,YAS X G c_KJ⟩,c_KB:=⟨_,YAS X G c_KB⟩,c_KI:=⟨_,YAS X G c_KI⟩,bl:=fun s u=>.of_eq rfl },rfl,rfl,rfl,rfl⟩
end Pk43
namespace Pk43
open PySem L2
def lpos:Pos:=⟨61,29,61,59⟩
def lq:Str:="in_order.<locals>.<lambda>"
def ZmI:Pos:=⟨119,40,119,75⟩
def lqO:Str:="oftenest.<locals>.<lambda>"
def LET:List Nat:=[97,98,99,100,101,102,103,104,105,106,107,108,109,110,111,112,113,114,115,116,117,118,119,120,121,122]
def isk (l:List Nat):Bool:=decide (1≤l.length)&&decide (l.length≤4)&&(l.all fun c=>LET.contains c)&&decide (signs l=ZaR (ddl (signs l)))
def isw (l m:List Nat)(most:Int):Bool:=decide ((l.length:Int)≤most)&&l.all fun c=>m.contains c
def Zd5:List Nat→List Nat→Bool
 | _,[]=>true
 | last,c::r=>decide (c∈LET)&&decide (last < [c])&&Zd5 [c] r
def Zf6 (l:List Nat):Bool:=decide (1≤l.length)&&decide (l.length≤4)&&Zd5 [] l
theorem Zgm {a b:Nat}:([a] < [b])↔a<b:=by
 constructor
 ·intro h;cases h with
  | rel h=>exact h
  | cons h=>cases h
 ·exact fun h=>List.Lex.rel h
theorem Zf7:∀(l:List Nat) (d:Nat),Zd5 [d] l=true↔(∀c∈l,c∈LET)∧(d::l).Pairwise (· < ·)
 | [],d=>by simp[Zd5]
 | c::r,d=>by
  rw[Zd5,YAT,YAT,decide_eq_true_iff,decide_eq_true_iff,Zgm,Zf7 r c]
  simp only[YBN,YAM,forall_eq_or_imp]
  constructor
  ·rintro⟨⟨h1,h2⟩,h3,h4,h5⟩
   exact⟨⟨h1,h3⟩,⟨h2,fun x hx=>Nat.lt_trans h2 (h4 x hx)⟩,h4,h5⟩
  ·rintro⟨⟨h1,h3⟩,⟨h2,_⟩,h4,h5⟩
   exact⟨⟨h1,h2⟩,h3,h4,h5⟩
theorem Zc7 (l:List Nat):Zd5 [] l=true↔(∀c∈l,c∈LET)∧l.Pairwise (· < ·):=by
 cases l with
 | nil=>simp[Zd5]
 | cons c r=>
  rw[Zd5,YAT,YAT,decide_eq_true_iff,decide_eq_true_iff,Zf7 r c]
  simp only[YAM,forall_eq_or_imp]
  constructor
  ·rintro⟨⟨h1,_⟩,h3,h4⟩;exact⟨⟨h1,h3⟩,h4⟩
  ·rintro⟨⟨h1,h3⟩,h4⟩;exact⟨⟨h1,by simp⟩,h3,h4⟩
theorem ZdX:∀(ls acc:List (List Nat)),(acc++ls).Nodup→ls.foldl addT acc=acc++ls
 | [],acc,_=>by simp
 | x::ls,acc,h=>by
  have hx:¬x∈acc:=by
   rw[YDB]at h
   exact fun hm=>h.2.2 x hm x YAd rfl
  rw[YCg,addT,YAJ hx,ZdX ls (acc++[x]) (by simpa using h)]
  simp
theorem ZfD {l:List Nat}(h:l.Pairwise (· < ·)):(signs l).Nodup:=by
 unfold signs List.Nodup
 rw[YBm]
 exact h.imp fun hab e=>by injection e with e;omega
theorem Zil (ls:List (List Nat)):(ddl ls).Nodup:=by rw[←Zes];exact Zcw _
theorem ZgH (l:List Nat):signs l=ZaR (ddl (signs l))↔l.Pairwise (· < ·):=by
 constructor
 ·intro e
  have h1:(signs l).Pairwise (fun a b=>leT a b=true):=by rw[e];exact Za2 _
  have h2:(signs l).Nodup:=by rw[e];exact(Zay _).nodup_iff.mpr (Zil _)
  unfold signs at h1
  unfold signs List.Nodup at h2
  rw[YBm]at h1 h2
  refine(h1.and h2).imp ?_
  rintro a b ⟨x,y⟩
  have y':a≠b:=fun e=>y (by rw[e])
  have x':¬([b] < [a]):=by simpa [leT] using x
  rw[Zgm]at x'
  omega
 ·intro h
  have e:ddl (signs l)=signs l:=by unfold ddl;rw[ZdX _ _ (by simpa using ZfD h)];simp
  rw[e]
  refine ZbY (List.Perm.refl _) ?_
  unfold signs
  rw[YBm]
  refine h.imp fun {a b} hab=>?_
  have:¬([b] < [a]):=by rw[Zgm];omega
  simpa [leT] using this
theorem Ze9 (l:List Nat):isk l=Zf6 l:=by
 have h1:(l.all fun c=>LET.contains c)=decide (∀c∈l,c∈LET):=by
  rw[YBG,YBE,decide_eq_true_iff]
  simp
 have h2:decide (signs l=ZaR (ddl (signs l)))=decide (l.Pairwise (· < ·)):=by rw[YBG,decide_eq_true_iff,decide_eq_true_iff,ZgH]
 have h3:Zd5 [] l=(decide (∀c∈l,c∈LET)&&decide (l.Pairwise (· < ·))):=by rw[YBG,YAT,decide_eq_true_iff,decide_eq_true_iff,Zc7]
 unfold isk Zf6
 rw[h1,h2,h3,Bool.and_assoc]
theorem all_range (l m:List Nat):((List.range l.length).map (fun i=>decide (l.getD i 0∈m))).all id=l.all fun c=>m.contains c:=by
 rw[YBG,YBE,YBE]
 constructor
 ·intro h c hc
  obtain⟨i,hi,rfl⟩:=List.mem_iff_getElem.mp hc
  have:=h _ (YCR (YAq.mpr hi))
  simpa [YAR,YAL hi] using this
 ·intro h b hb
  obtain⟨i,hi,rfl⟩:=YBX.mp hb
  have hi:=YAq.mp hi
  have:=h _ (YCB hi)
  simpa [YAR,YAL hi] using this
def cell (ns:List Int)(k:Int):Int:=ns.getD k.toNat 0
theorem Zln {ns:List Int}{k:Int}(h0:0≤k)(h1:k<ns.length):atI (ns.map V.int) k=some (.int (cell ns k)):=by
 have hk:k.toNat<ns.length:=by omega
 unfold atI ixN cell
 rw[YAD,YAO h0,YAO h1,YCT,YAk,YAR,YAL hk]
 rfl
theorem Zbf {K:PySem.W.Frag}{H:Hp}{l:List Nat}(h:l.length≤1000):LenV K (tx l) H l.length:=by
 have e:(⟨l.toArray⟩:Str).length=l.length:=by simp[Str.length]
 have:l.length≤sizeLine:=YAQ h (by rw[sizeLine_eq];decide)
 exact⟨by rw[e];exact this,e.symm⟩
theorem cm {x y m:Int}(h:0<m)(h2:m≤2 ^ 64):CMul (x % m) y:=.inl ⟨by have:=YBx x (show m≠0 by omega);omega,by have:=YBp x h;omega⟩
theorem ZbI {K:PySem.W.Frag}{t:Value}:PySem.W.kitOne K t t=some true:=by unfold PySem.W.kitOne;simp
theorem Zj6 {α:Type}{xs:List α}{i:Int}(h0:0≤i)(h1:i<xs.length):∃v,atI xs i=some v∧v∈xs:=by
 have hi:i.toNat<xs.length:=by omega
 refine⟨xs[i.toNat],?_,YCB hi⟩
 unfold atI ixN
 rw[YAO h0,YAO h1,YCT,YAL hi]
theorem Zen (xs:List (List Nat)):(xs.map tx).all Zbb=true:=by
 rw[YBE]
 intro v hv
 obtain⟨x,_,rfl⟩:=YBX.mp hv
 rfl
theorem same_upd3 {H H2:Hp}{e:Addr}{o':HO}(s:Same H H2)(h:H e=none):Same H (upd H2 e o'):=fun b u hb=>by
 have:b≠e:=fun z=>by rw[z,h]at hb;cases hb
 rw[Zaf this];exact s _ _ hb
theorem Zgl:∀ {ls:List (List Nat)},(∀m∈ls,m.length=1)→ls.flatten.length=ls.length
 | [],_=>rfl
 | m::ls,h=>by
  rw[YCP,YAI,Zgl fun x hx=>h x (YAZ _ hx),h m YAd,YAp]
  omega
theorem ZdY {α:Type}(p:α→Bool)(d:α)(ls:List α):((List.range ls.length).filter fun i=>p (ls.getD i d)).map (fun i=>ls.getD i d)=ls.filter p:=by
 have e:(List.range ls.length).map (fun i=>ls.getD i d)=ls:=by
  apply YDH
  ·simp
  ·intro i h1 h2
   simp[h2]
 have h:=List.filter_map (p:=p) (f:=fun i=>ls.getD i d) (l:=List.range ls.length)
 rw[e]at h
 rw[h]
 rfl
theorem Zdt {ls:List (List Nat)}{k:Nat}(h:k<ls.length):(ls.map tx).getD k V.non=tx (ls.getD k []):=by
 rw[YAR,YAk,YAR,YAL h]
 rfl
theorem Zm3 {x:List Nat}{ls:List (List Nat)}:inV (tx x) (ls.map tx)=decide (x∈ls):=by
 unfold inV
 rw[YBG,List.any_eq_true,decide_eq_true_iff]
 constructor
 ·rintro⟨y,hy,e⟩
  obtain⟨l,hl,rfl⟩:=YBX.mp hy
  rw[Zj0,decide_eq_true_iff,ZdJ]at e
  rw[←e];exact hl
 ·intro h
  exact⟨tx x,YCR h,by rw[Zj0];exact decide_eq_true rfl⟩
theorem Zih:∀(xs ys:List (List Nat)),deqs ((xs.map tx).map DT.f) ((ys.map tx).map DT.f)=decide (xs=ys)
 | [],[]=>by unfold deqs;rfl
 | [],y::ys=>by simp only[YAg,List.map_nil];unfold deqs;rfl
 | x::xs,[]=>by simp only[YAg,List.map_nil];unfold deqs;rfl
 | x::xs,y::ys=>by
  simp only[YAg]
  unfold deqs
  rw[Zih xs ys]
  have e:deq (DT.f (tx x)) (DT.f (tx y))=decide (x=y):=by
   unfold deq
   rw[←Zdy]
   show ((⟨x.toArray⟩:Str) == ⟨y.toArray⟩)=_
   rw[YBG,beq_iff_eq,decide_eq_true_iff]
   exact⟨fun h=>by unfold tx;rw[h],fun h=>by unfold tx at h;injection h⟩
  rw[e,YBG,YAT,decide_eq_true_iff,decide_eq_true_iff,decide_eq_true_iff,List.cons.injEq]
theorem Znd {K:PySem.W.Frag}{H:Hp}{Q:VK}{a b:Addr}{xs ys:List (List Nat)}(h1:SqL K H a (xs.map tx))(h2:SqL K H b (ys.map tx))(q:Q (.bl (decide (xs=ys))) H):rEqD K false (.ref a) (.ref b) H Q:=
 .inr ⟨_,_,datL h1 (Zen _),datL h2 (Zen _),fun z=>YAE z.1,(ownL h1 (Zen _)).2.2,by
  unfold deq
  rw[Zih]
  exact q⟩
theorem ZkQ:V.str (Str.ofString "abcdefghijklmnopqrstuvwxyz")=tx LET:=congrArg V.str (by decide +kernel)
theorem Zlh (l:List Nat):(ddl (signs l)).length≤l.length:=by
 have:∀(ls acc:List (List Nat)),(ls.foldl addT acc).length≤acc.length+ls.length:=by
  intro ls
  induction ls with
  | nil=>intro acc;simp
  | cons x ls ih=>
   intro acc
   rw[YCg]
   refine YAQ (ih _) ?_
   unfold addT
   split<;>simp<;>omega
 have h:=this (signs l) []
 unfold ddl
 unfold signs at h ⊢
 simpa using h
theorem signs_length (l:List Nat):(signs l).length=l.length:=by unfold signs;rw[YAD]
theorem kit_is {K:PySem.W.Frag}:PySem.W.kitOne K (.type "int") (.type "str")=some false:=by rfl
theorem ZjT {K:PySem.W.Frag}:PySem.W.kitOne K (.type "int") (.type "bool")=some false:=by rfl
def flds (l m:List Nat):List (Str×V):=putF "own_kinds" (tx m) (putF "own_text" (tx l) [])
theorem kt:¬(("own_text":Str)="own_kinds"):=by decide +kernel
theorem Zif {l m:List Nat}:(flds l m).lookup ("own_text":Str)=some (tx l):=by unfold flds;rw[Zaq,YAJ kt,Zaq,YAO rfl]
theorem Zg8 {l m:List Nat}:(flds l m).lookup ("own_kinds":Str)=some (tx m):=by unfold flds;rw[Zaq,YAO rfl]
theorem Zdu {l m:List Nat} {x:Str} (h1:¬x="own_text") (h2:¬x="own_kinds"):(flds l m).lookup x=none:=by
 unfold flds
 rw[Zaq,YAJ h2,Zaq,YAJ h1]
 rfl
def Znq (C:Addr)(H:Hp)(p:Addr)(l m:List Nat):Prop:=∃dx,H p=some (.ins C dx (flds l m))
structure StripOk (l m:List Nat):Prop where
 k:isk m=true
 m1:1≤m.length
 m4:m.length≤4
 l40:l.length≤40
 mem:∀x∈l,x∈m
theorem Zni (ls:List (List Nat)):(ddl ls).length≤ls.length:=by
 have:∀(ls acc:List (List Nat)),(ls.foldl addT acc).length≤acc.length+ls.length:=by
  intro ls
  induction ls with
  | nil=>intro acc;simp
  | cons x ls ih=>
   intro acc
   rw[YCg]
   refine YAQ (ih _) ?_
   unfold addT
   split<;>simp<;>omega
 simpa [ddl] using this ls []
theorem ZmY {l m:List Nat}(h:StripOk l m):isw l m 40=true:=by
 have h2:=h.l40
 unfold isw
 rw[YAT,decide_eq_true_iff,YBE]
 exact⟨by omega,fun x hx=>by simpa using h.mem x hx⟩
theorem Zm1 {m:List Nat}(h1:1≤m.length)(h4:m.length≤4)(hm:∀c∈m,c∈LET)(hp:m.Pairwise (· < ·)):isk m=true:=by
 rw[Ze9]
 unfold Zf6
 rw[(Zc7 m).mpr ⟨hm,hp⟩]
 simp[h1,h4]
theorem Znj (l:List Nat){i:Int}(h:0≤i):cut l none (some i)=l.take i.toNat:=by
 obtain⟨k,rfl⟩:∃k:Nat,i=(k:Int):=⟨i.toNat,by omega⟩
 rw[Zfk,YBd]
theorem Zli (l:List Nat){i:Int}(h:0≤i):cut l (some i) none=l.drop i.toNat:=by
 obtain⟨k,rfl⟩:∃k:Nat,i=(k:Int):=⟨i.toNat,by omega⟩
 rw[Zb2,YBd]
theorem iteT' {p q:Prop}[Decidable True](h:p):if True then p else q:=by rw[YAO True.intro];exact h
theorem Zd7 (l:List Nat)(n:Int):(repT l n).length=n.toNat*l.length:=by unfold repT;simp
theorem ZiR {l:List Nat}{n:Int}{x:Nat}(h:x∈repT l n):x∈l:=by
 unfold repT at h
 obtain⟨y,hy,hx⟩:=List.mem_flatten.mp h
 rw[(List.mem_replicate.mp hy).2]at hx
 exact hx
theorem fill {f m:List Nat}{n:Nat}{e:Int}(hn:0<n)(hf:f.length=n)(hm:∀x∈f,x∈m)(he:1≤e):(cut (repT (cut f none (some e)) (n:Nat)) none (some ((n:Nat):Int))).length=n∧∀x∈cut (repT (cut f none (some e)) (n:Nat)) none (some ((n:Nat):Int)),x∈m:=by
 rw[Zfk,Znj f (by omega)]
 have ht:1≤(f.take e.toNat).length:=by rw[YAV];omega
 have hl:n≤(repT (f.take e.toNat) (n:Nat)).length:=by
  rw[Zd7,YBd]
  exact Nat.le_mul_of_pos_right n ht
 refine⟨by rw[YAV];omega,fun x hx=>?_⟩
 exact hm x (YAb (ZiR (YAb hx)))
theorem put1 {f m:List Nat}{n c:Nat}{i:Int}(hf:f.length=n)(hm:∀x∈f,x∈m)(hc:c∈m)(h0:0≤i)(h1:i<(n:Nat)):(cut f none (some i)++[c]++cut f (some (i+1)) none).length=n∧∀x∈cut f none (some i)++[c]++cut f (some (i+1)) none,x∈m:=by
 rw[Znj f h0,Zli f (by omega)]
 refine⟨by rw[YAI,YAI,YAV,YAm,YAu];omega,fun x hx=>?_⟩
 rcases YAf.mp hx with hx | hx
 ·rcases YAf.mp hx with hx | hx
  ·exact hm x (YAb hx)
  ·rw[YAX.mp hx];exact hc
 ·exact hm x (YAc hx)
theorem Zld {K:PySem.W.Frag}{H:Hp}{Q:VK}{x:List Nat}(h:Q (.bl true) H):rEqD K false (tx x) (tx x) H Q:=.inl ⟨rfl,by rw[YAJ YAE,decide_eq_true rfl];exact h⟩
theorem ne_int {K:PySem.W.Frag}{H:Hp}{Q:VK}{x:Int}(h:Q (.bl false) H):rEqD K true (.int x) (.int x) H Q:=.inl ⟨rfl,by rw[YAO rfl,decide_eq_true rfl];exact h⟩
theorem eq_int {K:PySem.W.Frag}{H:Hp}{Q:VK}{x:Int}(h:Q (.bl true) H):rEqD K false (.int x) (.int x) H Q:=.inl ⟨rfl,by rw[YAJ YAE,decide_eq_true rfl];exact h⟩
theorem Ziq (w:List Nat):cut w none (some (-1))=w.dropLast:=by
 unfold cut
 have e1:HT.sIx w.length w.length (some (-1))=w.length-1:=by
  unfold HT.sIx
  simp only[]
  rw[YAO (by decide)]
  omega
 have e2:HT.sIx w.length 0 none=0:=rfl
 rw[e1,e2,YBU,YDF]
 rfl
theorem ZfU (w:List Nat):cut w (some 1) none=w.tail:=by
 have:=Zb2 w 1
 rw[List.drop_one]at this
 exact this
theorem Zdm {α β:Type}(f:α→β):∀(l:List α) (k:Nat),(l.map f).eraseIdx k=(l.eraseIdx k).map f
 | [],k=>by simp
 | x::l,0=>by simp
 | x::l,k+1=>by simp[Zdm f l k]
theorem ZdS:∀ {ls:List (List Nat)},(∀m∈ls,m.length=1)→ls=signs ls.flatten
 | [],_=>rfl
 | m::ls,h=>by
  have h1:=h m YAd
  match m,h1 with
  | [c],_=>
   have ih:=ZdS (ls:=ls) fun x hx=>h x (YAZ _ hx)
   rw[YCP]
   show [c]::ls=[c]::signs ls.flatten
   rw[←ih]
theorem Zg5 {F:List Nat}(nd:F.Nodup)(sub:∀c∈F,c∈LET)(h1:1≤F.length)(h4:F.length≤4):isk (ZaR (signs F)).flatten=true∧(ZaR (signs F)).flatten.length=F.length:=by
 have pm:=Zay (signs F)
 have one:∀m∈ZaR (signs F),m.length=1:=fun m hm=>by
  obtain⟨c,_,rfl⟩:=YBX.mp (pm.mem_iff.mp hm)
  rfl
 have e:=ZdS one
 have hl:(ZaR (signs F)).flatten.length=F.length:=by rw[Zgl one,pm.length_eq];unfold signs;rw[YAD]
 have so:=Za2 (signs F)
 have nd2:(ZaR (signs F)).Nodup:=pm.nodup_iff.mpr (by
  unfold signs List.Nodup
  rw[YBm]
  exact nd.imp fun hab z=>hab (by injection z))
 have mem:∀c∈(ZaR (signs F)).flatten,c∈LET:=fun c hc=>by
  obtain⟨x,hx,hcx⟩:=List.mem_flatten.mp hc
  obtain⟨d,hd,rfl⟩:=YBX.mp (pm.mem_iff.mp hx)
  rw[YAX.mp hcx]
  exact sub d hd
 generalize (ZaR (signs F)).flatten=S at e hl mem
 rw[e]at so nd2
 unfold signs at so nd2
 unfold List.Nodup at nd2
 rw[YBm]at so nd2
 refine⟨Zm1 (by omega) (by omega) mem ((so.and nd2).imp ?_),hl⟩
 rintro a b ⟨x,y⟩
 have y':a≠b:=fun z=>y (by rw[z])
 have x':¬([b] < [a]):=by simpa [leT] using x
 rw[Zgm]at x'
 omega
theorem Zg1 {l m:List Nat}{i:Nat}(hm:m.length≤4)(hl:l.length≤40)(hi:i≤41):(Ze4 l m i).length≤6724:=by
 have h1:∀k,(Ze6 (wordsOf l k) (wordsOf l (k+1)) m).length≤164:=fun k=>YAQ (Zh2 _ _ _) (YAQ (Nat.mul_le_mul (Zft l k) hm) (by omega))
 have h2:=Zcc (f:=fun k=>Ze6 (wordsOf l k) (wordsOf l (k+1)) m) h1 (List.range i)
 rw[YBb]at h2
 have:i*164≤41*164:=Nat.mul_le_mul_right _ hi
 unfold Ze4
 omega
theorem Zct {l m w:List Nat}(hl:l.length≤40)(h:w∈ZaI l m):w.length≤41:=by
 have:=(ZaV.mp h).1.init.len
 rw[YBL]at this
 omega
theorem ZbK {α:Type}{l:List α}{i:Nat}{x:α}(h:l[i]?=some x):l.take (i+1)=l.take i++[x]:=by rw[List.take_succ,h];rfl
theorem Zbj:∀(l:List Nat) (k:Nat) (h:k<l.length),(l[k]::l.eraseIdx k).Perm l
 | x::l,0,h=>by simp
 | x::l,k+1,h=>by
  simp only[List.getElem_cons_succ,List.eraseIdx_cons_succ]
  exact(List.Perm.swap _ _ _).trans ((Zbj l k (by simpa using h)).cons x)
def fs1 (f:Str):List V→List (Str×V):=fun r=>putF f (r.getD 0 .non) []
theorem Zic {f:Str}{vs:List V}:(fs1 f vs).lookup f=some (vs.getD 0 .non):=by unfold fs1;rw[Zaq,YAO rfl]
def SelfEq (K:PySem.W.Frag)(H:Hp)(v:V):Prop:=(∃d,Own K H d v)∨∃(a:Addr) (kvs:List (Key×V)),v=.ref a∧H a=some (.dK kvs)
def Oth (K:PySem.W.Frag)(H:Hp)(v:V):Prop:=∃T b,TyX K H v (.type T)∧PySem.W.kitOne K (.type T) (.type "str")=some false∧PySem.W.kitOne K (.type T) (.type "bool")=some b∧SelfEq K H v
def BadK (K:PySem.W.Frag)(H:Hp)(v:V):Prop:=(∃l:List Nat,v=tx l∧l.length≤1000∧isk l=false)∨Oth K H v
def BadW (K:PySem.W.Frag)(H:Hp)(v:V)(m:List Nat)(most:Int):Prop:=(∃l:List Nat,v=tx l∧l.length≤1000∧isw l m most=false)∨Oth K H v
def XNk (a:Ad)(E:XK)(H:Hp):Prop:=∀e H2,Same H H2→XAny H2 e a.c_K3 []→E (.ref a.c_K3) (some e) H2
def XNw (a:Ad)(E:XK)(H:Hp)(v:V):Prop:=∀e H2,Same H H2→XAny H2 e a.c_K9 (fs1 "word" [v])→E (.ref a.c_K9) (some e) H2
structure KOk (m:List Nat):Prop where
 k:isk m=true
 m1:1≤m.length
 m4:m.length≤4
theorem StripOk.kok {l m:List Nat}(h:StripOk l m):KOk m:=⟨h.k,h.m1,h.m4⟩
theorem Zk0 {l m:List Nat}{most:Int}(h:(l.length:Int)≤most)(hm:∀x∈l,x∈m):isw l m most=true:=by
 unfold isw
 rw[YAT,decide_eq_true_iff,YBE]
 exact⟨h,fun x hx=>by simpa using hm x hx⟩
theorem Zck {H:Hp}{e:Addr}{o o':HO}(h:H e=none):Same H (upd (upd H e o) e o'):=fun b u hb=>by
 have:b≠e:=fun z=>by rw[z,h]at hb;cases hb
 rw[Zaf this,Zaf this];exact hb
theorem Zdf {H:Hp}{e C:Addr}{fs:List (Str×V)}(x:XAt H e C fs):∃d,H e=some (xo e C d)∧XAny (upd H e (xr e C d)) e C fs:=by
 cases x with
 | bare h=>exact⟨none,h,.bare Zae⟩
 | @full d _ h1 h2 h3=>exact⟨some d,h1,.full Zae (by rw[Zaf h3];exact h2) h3⟩
theorem TyX.same {K:PySem.W.Frag}{H H':Hp}{v:V}{t:Value}(h:TyX K H v t)(s:Same H H'):TyX K H' v t:=by
 cases h with
 | pl h=>
  refine .pl ?_
  cases h with
  | non=>exact .non
  | bl x=>exact .bl x
  | int i=>exact .int i
  | str x=>exact .str x
  | flt x=>exact .flt x
  | lst e=>exact .lst (s _ _ e)
  | frz e=>exact .frz (s _ _ e)
  | tup e=>exact .tup (s _ _ e)
  | dK e=>exact .dK (s _ _ e)
  | dT e=>exact .dT (s _ _ e)
  | ins e cl ha hn htk hm=>exact .ins (s _ _ e) cl ha hn htk hm
 | seqL h=>exact .seqL (s.seq h)
 | seqT h=>exact .seqT (s.seqT h)
 | exc x i=>exact .exc (x.same s) i
theorem kit_nb {K:PySem.W.Frag}:PySem.W.kitOne K (.type "NoneType") (.type "bool")=some false:=by rfl
theorem ZmP {K:PySem.W.Frag}:PySem.W.kitOne K (.type "list") (.type "bool")=some false:=by rfl
theorem ZkU {K:PySem.W.Frag}:PySem.W.kitOne K (.type "tuple") (.type "bool")=some false:=by rfl
theorem ZmR {K:PySem.W.Frag}:PySem.W.kitOne K (.type "dict") (.type "bool")=some false:=by rfl
theorem ZmM {K:PySem.W.Frag}:PySem.W.kitOne K (.type "str") (.type "bool")=some false:=by rfl
theorem ZkE {K:PySem.W.Frag}{H:Hp}{i:Int}:Oth K H (.int i):=⟨"int",false,.pl (.int _),kit_is,ZjT,.inl ⟨_,ownF rfl⟩⟩
def Zh1 (l x:List Nat):Bool:=!infB x l&&(infB x.tail l&&infB x.dropLast l)
theorem atI0 {α:Type}{x:α}{xs:List α}:atI (x::xs) 0=some x:=by
 unfold atI ixN
 rw[YAO (Int.le_refl _),YAO (by rw[YAp];omega)]
 rfl
def placesOf (l w:List Nat):List Nat:=(List.range (l.length+1-w.length)).filter fun i=>decide ((l.drop i).take w.length=w)
theorem Zm0 {w m:List Nat}(h:isw w m 60=true):w.length≤60:=by
 unfold isw at h
 rw[YAT,decide_eq_true_eq]at h
 omega
def RowF (H:Hp)(l w:List Nat)(y:V):Prop:=∃t:Addr,y=.ref t∧H t=some (.tup [tx w,.int (fpl l w.dropLast:Nat),.int (fpl l w.tail:Nat)])
def Znp (H:Hp)(l:List Nat)(ws:List (List Nat))(ys:List V):Prop:=ys.length=ws.length∧∀(i:Nat) (y:V),ys[i]?=some y→∃w,ws[i]?=some w∧RowF H l w y
def Zno (H:Hp)(x y:V):Prop:=(x=y∧((∃l,x=tx l)∨∃i,x=.int i))∨∃(px py:Addr) (vs:List V),x=.ref px∧y=.ref py∧H px=some (.tup vs)∧H py=some (.tup vs)∧vs.length≤1000∧∀v∈vs,(∃l,v=tx l)∨∃i,v=.int i
theorem Zji {m:List Nat}(h:isk m=true):m.Pairwise (· < ·):=by
 rw[Ze9]at h
 unfold Zf6 at h
 rw[YAT]at h
 exact((Zc7 m).mp h.2).2
theorem ZlT {H:Hp}{l:List Nat}{W:List (List Nat)}{zs ys:List V}(hZ:Znp H l W zs)(hR:Znp H l W ys)(i:Nat)(x y:V)(hx:zs[i]?=some x)(hy:ys[i]?=some y):Zno H x y:=by
 obtain⟨w,hw,t,e,h⟩:=hZ.2 i x hx
 obtain⟨w2,hw2,t2,e2,h2⟩:=hR.2 i y hy
 obtain rfl:w=w2:=Option.some.inj (hw.symm.trans hw2)
 refine .inr ⟨t,t2,_,e,e2,h,h2,by simp,fun v hv=>?_⟩
 simp only[YAM,YBk,or_false]at hv
 rcases hv with rfl | rfl | rfl
 ·exact .inl ⟨_,rfl⟩
 ·exact .inr ⟨_,rfl⟩
 ·exact .inr ⟨_,rfl⟩
def Tame (K:PySem.W.Frag)(H:Hp)(v:V):Prop:=∃T b,TyX K H v (.type T)∧PySem.W.kitOne K (.type T) (.type "bool")=some b∧SelfEq K H v
def isl (l m:List Nat):Bool:=isw l m 1&&decide ((l.length:Int)=1)
def BadL (K:PySem.W.Frag)(H:Hp)(v:V)(m:List Nat):Prop:=(∃l:List Nat,v=tx l∧l.length≤1000∧isl l m=false)∨Oth K H v
theorem SelfEq.same {K:PySem.W.Frag}{H H':Hp}{v:V}(se:SelfEq K H v)(s:Same H H'):SelfEq K H' v:=by
 rcases se with⟨d,o⟩|⟨b,kvs,rfl,hb⟩
 ·exact .inl ⟨d,o.same s⟩
 ·exact .inr ⟨b,kvs,rfl,s _ _ hb⟩
theorem Oth.tame {K:PySem.W.Frag}{H:Hp}{v:V}(o:Oth K H v):Tame K H v:=let ⟨T,b,ty,_,kb,se⟩:=o;⟨T,b,ty,kb,se⟩
def XN0 (C:Addr)(E:XK)(H:Hp):Prop:=∀e H2,Same H H2→XAny H2 e C []→E (.ref C) (some e) H2
theorem KOk.kinds {m:List Nat}(h:KOk m):KindsOk m:=⟨h.k,h.m1,h.m4,Zji h.k⟩
theorem Zh8 {c:Nat}{m:List Nat}(h:c∈m):isl [c] m=true:=by
 unfold isl
 rw[Zk0 (by show ((1:Nat):Int)≤1;decide) (fun x hx=>by rw[YAX.mp hx];exact h)]
 rfl
theorem Ze5 {l x:List Nat}(ne:x≠[]):Zh1 l x=true↔Miss l x:=by
 unfold Zh1
 rw[YAT,YAT,Bool.not_eq_true',Zgs,ZcZ,ZcZ]
 constructor
 ·rintro⟨a,b,c⟩;exact⟨ne,c,b,a⟩
 ·rintro⟨_,c,b,a⟩;exact⟨a,b,c⟩
def ZaY (L:List Nat)(i:Nat):List (List Nat):=(List.range i).flatMap fun k=>[L.take (k+1),L.drop (L.length-(k+1))]
theorem ZdZ (L:List Nat)(i:Nat):ZaY L (i+1)=ZaY L i++[L.take (i+1),L.drop (L.length-(i+1))]:=by
 unfold ZaY
 rw[YCf,List.flatMap_append,List.flatMap_singleton]
theorem Zcv (L:List Nat):∀i,(ZaY L i).length=2*i
 | 0=>rfl
 | i+1=>by rw[ZdZ,YAI,Zcv L i];simp;omega
theorem ZeX {L w:List Nat}{i:Nat}:w∈ZaY L i↔∃k,1≤k∧k≤i∧(w=L.take k∨w=L.drop (L.length-k)):=by
 unfold ZaY
 rw[List.mem_flatMap]
 constructor
 ·rintro⟨k,hk,h⟩
  have hk:=YAq.mp hk
  simp only[YAM,YBk,or_false]at h
  exact⟨k+1,by omega,by omega,h⟩
 ·rintro⟨k,h1,h2,h⟩
  refine⟨k-1,YAq.mpr (by omega),?_⟩
  have e:k-1+1=k:=by omega
  rw[e]
  simpa using h
theorem Zgb {H:Hp}{zs:List V}{rs:List (List Nat×List V)}(h:RowsA H zs rs){i:Nat}(hi:i<zs.length):∃t u,zs.getD i .non=.ref t∧H t=some (.tup [tx ((rs.map (·.1)).getD i []),u]):=by
 obtain⟨r,hr,t,b,e,h1,_⟩:=h.2 i zs[i] (YAL hi)
 refine⟨t,.ref b,by rw[YAR,YAL hi];exact e,?_⟩
 rw[h1,YAR,YAk,hr]
 rfl
theorem Zir {rs:List (List Nat×List V)}{n:Nat}(h:n=rs.length):((List.range n).filter fun _=>true).map (fun i=>tx ((rs.map (·.1)).getD i []))=(rs.map (·.1)).map tx:=by
 subst h
 rw[List.filter_eq_self.mpr (fun _ _=>rfl)]
 apply YDH (by simp)
 intro i h1 h2
 have hi:i<rs.length:=by simpa using h2
 simp[YAR,YAL hi]
theorem ZfL {kvs:List (Key×V)}{k:Key}{v:V}(h:valV kvs k=some v):k∈kvs.map (·.1):=by
 unfold valV at h
 obtain⟨p,hp,_⟩:=Option.map_eq_some_iff.mp h
 have e:p.1=k:=by simpa using List.find?_some hp
 rw[←e]
 exact YCR (List.mem_of_find?_eq_some hp)
theorem Zjg {k:Key}(l:List (Key×V))(v:V)(h:k∈l.map (·.1)):(putK l k v).map (·.1)=l.map (·.1):=by
 unfold putK
 have ha:(l.any fun kv=>decide (kv.1=k))=true:=by
  obtain⟨p,hp,e⟩:=YBX.mp h
  exact List.any_eq_true.mpr ⟨p,hp,decide_eq_true e⟩
 rw[YAO ha,YBa]
 refine YDW fun p _=>?_
 show (if p.1=k then (p.1,v) else p).1=p.1
 split<;>rfl
structure DI (H:Hp)(s L rs:List Nat)(S:List Nat→Prop)(kvs:List (Key×V))(ws:List (List Nat)):Prop where
 keys:kvs.map (·.1)=ws.map kTx
 nd:ws.Nodup
 mem:∀w,w∈ws↔Miss L w∧S w
 val:∀w∈ws,∃b,valV kvs (kTx w)=some (.ref b)∧H b=some (.tup [tx rs,tx (shOf s w),.int (fpl L (shOf s w):Nat)])
theorem DI.grow {H H':Hp}{s L rs:List Nat}{S S':List Nat→Prop}{kvs:List (Key×V)}{ws:List (List Nat)}(h:DI H s L rs S kvs ws)(sm:∀b us,H b=some (.tup us)→H' b=some (.tup us))(hS:∀w,Miss L w→(S w↔S' w)):DI H' s L rs S' kvs ws:=
 ⟨h.keys,h.nd,fun w=>(h.mem w).trans ⟨fun ⟨a,b⟩=>⟨a,(hS w a).mp b⟩,fun ⟨a,b⟩=>⟨a,(hS w a).mpr b⟩⟩,fun w hw=>let ⟨b,h1,h2⟩:=h.val w hw;⟨b,h1,sm _ _ h2⟩⟩
theorem DI.put {H:Hp}{s L rs:List Nat}{S:List Nat→Prop}{kvs:List (Key×V)}{ws:List (List Nat)}{x:List Nat}{b:Addr}(h:DI H s L rs S kvs ws)(mx:Miss L x)(hb:H b=some (.tup [tx rs,tx (shOf s x),.int (fpl L (shOf s x):Nat)])):
  ∃ws',DI H s L rs (fun w=>S w∨w=x) (putK kvs (kTx x) (.ref b)) ws':=by
 by_cases hx:x∈ws
 ·refine⟨ws,?_,h.nd,fun w=>?_,fun w hw=>?_⟩
  ·rw[Zjg,h.keys]
   rw[h.keys]
   exact YCR hx
  ·rw[h.mem]
   constructor
   ·rintro⟨a,c⟩;exact⟨a,.inl c⟩
   ·rintro⟨a,c | rfl⟩
    ·exact⟨a,c⟩
    ·exact(h.mem w).mp hx
  ·rw[Zf4]
   by_cases e:w=x
   ·subst e
    exact⟨b,by rw[YAO rfl],hb⟩
   ·rw[YAJ (fun z=>e (ZfN z))]
    exact h.val w hw
 ·have hv:valV kvs (kTx x)=none:=by
   cases e:valV kvs (kTx x) with
   | none=>rfl
   | some v=>
    exfalso
    have:=ZfL e
    rw[h.keys]at this
    obtain⟨y,hy,e2⟩:=YBX.mp this
    exact hx (ZfN e2▸hy)
  refine⟨ws++[x],?_,?_,fun w=>?_,fun w hw=>?_⟩
  ·rw[ZiT _ hv,YCO,h.keys,YCO];rfl
  ·rw[YDB]
   refine⟨h.nd,by simp,fun a ha c hc e=>?_⟩
   rw[YAX.mp hc]at e
   exact hx (e▸ha)
  ·rw[YAf,YAX,h.mem]
   constructor
   ·rintro (⟨a,c⟩ | rfl)
    ·exact⟨a,.inl c⟩
    ·exact⟨mx,.inr rfl⟩
   ·rintro⟨a,c | rfl⟩
    ·exact .inl ⟨a,c⟩
    ·exact .inr rfl
  ·rw[Zf4]
   by_cases e:w=x
   ·subst e
    exact⟨b,by rw[YAO rfl],hb⟩
   ·rw[YAJ (fun z=>e (ZfN z))]
    rcases YAf.mp hw with z | z
    ·exact h.val w z
    ·exact absurd (YAX.mp z) e
theorem Zf8 {H H':Hp}{P pd:Addr}{pos:Pos}{q:Str}{o0:HO}(T:TblOk H P pos q)(k:∀b o,H b=some o→b≠pd→H' b=some o)(h:H pd=some o0)(t:Zdr o0=false)(x:Zjj o0=false):TblOk H' P pos q:=by
 obtain⟨ps,e,tr,hc⟩:=T
 refine⟨ps,k _ _ e (fun z=>by rw[z,h]at e;cases e;cases t),tr,hc.imp id ?_⟩
 rintro⟨c,e1,e2⟩
 exact⟨c,e1,k _ _ e2 (fun z=>by rw[z,h]at e2;unfold Zex at e2;cases e2;cases x)⟩
theorem ZbN (rs s L m:List Nat):(Zdc rs s L m).map (·.1)=opnL s L m:=by unfold Zdc;rw[YBa];exact List.map_id' _
theorem ZbO (rs s L m:List Nat):(ZdE rs s L m).map (·.1)=filL s L m:=by unfold ZdE;rw[YBa];exact List.map_id' _
theorem ZbB {l m:List Nat}(hm:m.length≤4)(hl:l.length≤40):(ZaI l m).length≤6724:=Zg1 hm hl (by omega)
theorem ZcY {C:Addr}{H H3 H4:Hp}{p la da t c g la2:Addr}{l l2 m:List Nat}{ds ds2:List (Bool×Nat)}{ts2:List V}{rc rg:List (List Nat×List V)}
  (hp:StripAt C H p la da l m ds) (c3:Chg [da] H H3) (d3:H3 da=some (.lst ts2)) (e3:DeedsA H3 ts2 ds2) (ch:Chg [p] H3 H4) (f4:ZcN C H4 p la2 da l2 m) (l4:H4 la2=some (.lst ((ZaI l2 m).map tx))) (an:AnsS H3 H4 t c g la2 rc rg) (run:Run m ds2 l2):
  Chg [p,da] H H4∧StripAt C H4 p la2 da l2 m ds2∧AnsS H H4 t c g la2 rc rg:=by
 obtain⟨⟨dx,f⟩,hk,⟨ts,d1,d2⟩,_,ok,nld⟩:=id hp
 have npd:p≠da:=fun z=>by rw[z,d1]at f;cases f
 have f3:=c3 _ _ f (by simpa using npd) rfl
 have nw:∀r,Nw H3 r→Nw H r:=fun r n=>n.chg c3 fun b hb=>by obtain rfl:=YAX.mp hb;exact⟨_,d3,rfl⟩
 refine⟨(c3.mono (by simp)).trans (ch.mono (by simp)),⟨f4,l4,⟨ts2,ch _ _ d3 (by simpa using YAw npd) rfl,e3.chg ch fun b hb us z=>by rw[YAX.mp hb,f3]at z;cases z⟩,run,ok,YAw (an.nl.ne d3 rfl)⟩,⟨an.tup,an.came,an.went,nw _ an.nc,nw _ an.ng,nw _ an.nl,an.ncg,an.ncl,an.ngl⟩⟩
theorem Zcj {C:Addr}{H:Hp}{p la da:Addr}{l m:List Nat}{ds:List (Bool×Nat)}(h:StripAt C H p la da l m ds):StripOk l m:=⟨h.ok.k,h.ok.m1,h.ok.m4,h.run.len,h.run.mem⟩
def okN (x:Str):Bool:=!decide (x="own_text")&&!decide (x="own_kinds")&&!decide (x="own_lacking")&&!decide (x="own_deeds")
theorem sN {l m:List Nat}{la da:Addr}{x:Str}(h:okN x=true):(sF l m la da).lookup x=none:=by
 unfold okN at h
 simp only[YAT,Bool.not_eq_true',decide_eq_false_iff_not]at h
 exact ZoC h.1.1.1 h.1.1.2 h.1.2 h.2
def TextAt (a:Ad)(H:Hp)(p:Addr)(l:List Nat):Prop:=∃C dx fs,(C=a.c_LH∨C=a.c_LI)∧H p=some (.ins C dx fs)∧fs.lookup (Str.ofString "own_text")=some (tx l)∧fs.lookup (Str.ofString "text")=none
theorem TextAt.same {a:Ad}{H H':Hp}{p:Addr}{l:List Nat}(h:TextAt a H p l)(s:Same H H'):TextAt a H' p l:=let ⟨C,dx,fs,h1,h2,h3⟩:=h;⟨C,dx,fs,h1,s _ _ h2,h3⟩
theorem Zpg {l w:List Nat}{k:Nat}:k∈placesOf l w↔AtW l w k:=by
 unfold placesOf
 rw[YBv,YAq,decide_eq_true_iff]
 constructor
 ·rintro⟨a,b⟩;exact⟨by omega,b⟩
 ·rintro⟨a,b⟩;exact⟨by omega,b⟩
theorem ZmL {K:PySem.W.Frag}:PySem.W.kitOne K (.type "str") (.type "int")=some false:=by rfl
theorem ZmO {K:PySem.W.Frag}:PySem.W.kitOne K (.type "list") (.type "int")=some false:=by rfl
theorem ZkT {K:PySem.W.Frag}:PySem.W.kitOne K (.type "tuple") (.type "int")=some false:=by rfl
theorem ZmQ {K:PySem.W.Frag}:PySem.W.kitOne K (.type "dict") (.type "int")=some false:=by rfl
theorem ZmN {K:PySem.W.Frag}:PySem.W.kitOne K (.type "NoneType") (.type "int")=some false:=by rfl
def NotI (K:PySem.W.Frag)(H:Hp)(v:V):Prop:=∃T b,TyX K H v (.type T)∧PySem.W.kitOne K (.type T) (.type "bool")=some b∧(b=false→PySem.W.kitOne K (.type T) (.type "int")=some false)∧SelfEq K H v
def BadR (K:PySem.W.Frag)(H:Hp)(v:V)(N:Nat):Prop:=(∃i:Int,v=.int i∧(i<0∨(N:Int)≤i))∨NotI K H v
theorem NotI.same {K:PySem.W.Frag}{H H':Hp}{v:V}(o:NotI K H v)(s:Same H H'):NotI K H' v:=
 let ⟨T,b,ty,kb,ki,se⟩:=o
 ⟨T,b,TyX.same ty s,kb,ki,se.same s⟩
theorem BadR.tame {K:PySem.W.Frag}{H:Hp}{v:V}{N:Nat}(o:BadR K H v N):Tame K H v:=by
 rcases o with⟨i,rfl,_⟩|⟨T,b,ty,kb,_,se⟩
 ·exact Oth.tame ZkE
 ·exact⟨T,b,ty,kb,se⟩
theorem ZhR {K:PySem.W.Frag}{H:Hp}{i:Bool}:NotI K H (.bl i):=⟨"bool",true,.pl (.bl _),ZbI,fun e=>(by cases e),.inl ⟨_,ownF rfl⟩⟩
theorem Zi3 {K:PySem.W.Frag}{H:Hp}:NotI K H .non:=⟨"NoneType",false,.pl .non,kit_nb,fun _=>ZmN,.inl ⟨_,ownF rfl⟩⟩
theorem ZkI {K:PySem.W.Frag}{H:Hp}{l:List Nat}:NotI K H (tx l):=⟨"str",false,.pl (.str _),ZmM,fun _=>ZmL,.inl ⟨_,ownF rfl⟩⟩
theorem Zi4 {K:PySem.W.Frag}{H:Hp}{a:Addr}{xs:List V}(h:H a=some (.lst xs))(hf:xs.all Zbb=true):NotI K H (.ref a):=⟨"list",false,.seqL (.mk h),ZmP,fun _=>ZmO,.inl ⟨_,ownL (.mk h) hf⟩⟩
theorem Zi2 {K:PySem.W.Frag}{H:Hp}{a:Addr}{xs:List V}(h:H a=some (.tup xs))(hf:xs.all Zbb=true):NotI K H (.ref a):=⟨"tuple",false,.seqT (.mk h),ZkU,fun _=>ZkT,.inl ⟨_,ownT (.mk h) hf⟩⟩
theorem ZkJ {K:PySem.W.Frag}{H:Hp}{a:Addr}{kvs:List (Key×V)}(h:H a=some (.dK kvs)):NotI K H (.ref a):=⟨"dict",false,.pl (.dK h),ZmR,fun _=>ZmQ,.inr ⟨_,_,rfl,h⟩⟩
theorem Zlt {C L D:Addr}(h1:D≠C)(h2:D≠L):([.ref C,.ref L,.type "ValueError",.type "Exception",.type "BaseException",.type "object"]:List Value).contains (.ref D)=false:=by simp[YCF,h1,h2]
theorem Zls {C:Addr}{l:List Value}:(Value.ref C::l).contains (.ref C)=true:=by simp[YCF]
def BandT (a:Ad)(H:Hp)(p:Addr)(l m:List Nat):Prop:=∃C dx fs,(C=a.c_LH∨C=a.c_LI)∧H p=some (.ins C dx fs)∧fs.lookup (Str.ofString "own_text")=some (tx l)∧fs.lookup (Str.ofString "own_kinds")=some (tx m)∧fs.lookup (Str.ofString "text")=none∧fs.lookup (Str.ofString "words")=none∧fs.lookup (Str.ofString "lacking")=none∧fs.lookup (Str.ofString "laid_out")=none∧fs.lookup (Str.ofString "kinds")=none
theorem BandT.same {a:Ad}{H H':Hp}{p:Addr}{l m:List Nat}(h:BandT a H p l m)(s:Same H H'):BandT a H' p l m:=let ⟨C,dx,fs,h1,h2,h3⟩:=h;⟨C,dx,fs,h1,s _ _ h2,h3⟩
theorem BandT.text {a:Ad}{H:Hp}{p:Addr}{l m:List Nat}(h:BandT a H p l m):TextAt a H p l:=let ⟨C,dx,fs,h1,h2,h3,_,h5,_⟩:=h;⟨C,dx,fs,h1,h2,h3,h5⟩
def BandAt (a:Ad)(H:Hp)(p:Addr)(l m:List Nat):Prop:=Znq a.c_LH H p l m∨∃la da ds,StripAt a.c_LI H p la da l m ds
theorem BandAt.t {a:Ad}{H:Hp}{p:Addr}{l m:List Nat}(h:BandAt a H p l m):BandT a H p l m:=by
 rcases h with⟨dx,h⟩|⟨la,da,ds,h⟩
 ·exact⟨_,dx,_,.inl rfl,h,Zif,Zg8,Zdu (by decide +kernel) (by decide +kernel),Zdu (by decide +kernel) (by decide +kernel),Zdu (by decide +kernel) (by decide +kernel),Zdu (by decide +kernel) (by decide +kernel),Zdu (by decide +kernel) (by decide +kernel)⟩
 ·obtain⟨dx,f⟩:=h.fld
  exact⟨_,dx,_,.inr rfl,f,Za3,Zcl,sN (by decide +kernel),sN (by decide +kernel),sN (by decide +kernel),sN (by decide +kernel),sN (by decide +kernel)⟩
theorem Zcg {a:Ad}{H:Hp}{p C dx:Addr}{fs:List (Str×V)}{x:Str}{R1 R2:Prop}(hC:C=a.c_LH∨C=a.c_LI)(hp:H p=some (.ins C dx fs))(hx:fs.lookup x=none)(h1:R1)(h2:R2):
  (∃(a_1 dx:Addr) (fs:List (Str×V)),V.ref p=V.ref a_1∧H a_1=some (HO.ins a.c_LH dx fs)∧List.lookup x fs=none∧R1)∨∃(a_1 dx:Addr) (fs:List (Str×V)),V.ref p=V.ref a_1∧H a_1=some (HO.ins a.c_LI dx fs)∧List.lookup x fs=none∧R2:=by
 rcases hC with rfl | rfl
 ·exact .inl ⟨p,dx,fs,rfl,hp,hx,h1⟩
 ·exact .inr ⟨p,dx,fs,rfl,hp,hx,h2⟩
theorem ZmZ {w m:List Nat}(hm:∀x∈w,x∈m)(hw:w.length≤60):isw w m 60=true:=by
 unfold isw
 rw[YAT,decide_eq_true_iff,YBE]
 exact⟨by omega,fun x hx=>by simpa using hm x hx⟩
theorem Zl5 {l w:List Nat}{k:Nat}:k∈placesOf l w↔AtW l w k:=by
 unfold placesOf
 rw[YBv,YAq,decide_eq_true_iff]
 constructor
 ·rintro⟨a,b⟩;exact⟨by omega,b⟩
 ·rintro⟨a,b⟩;exact⟨by omega,b⟩
def TT (a:Ad)(H:Hp):Prop:=TblOk H a.t_K0 lpos lq∧TblOk H a.t_K2 ZmI lqO
theorem TT.same {a:Ad}{H H':Hp}(t:TT a H)(s:Same H H'):TT a H':=⟨t.1.same s,t.2.same s⟩
theorem TT.upd {a:Ad}{H:Hp}{b:Addr}{o o':HO}(t:TT a H)(h:H b=some o)(n1:Zdr o=false)(n2:Zjj o=false):TT a (upd H b o'):=⟨t.1.upd h n1 n2,t.2.upd h n1 n2⟩
def cntW (l w:List Nat):Nat:=(placesOf l w).length
structure Oft (l:List Nat)(n:Nat)(w:List Nat):Prop where
 len:w.length=n
 inf:Inf w l
 most:∀x,x.length=n→Inf x l→cntW l x≤cntW l w∧(x<w→cntW l x<cntW l w)
theorem Oft.one {l:List Nat}{n:Nat}{w v:List Nat}(h1:Oft l n w)(h2:Oft l n v):w=v:=by
 have a:=h1.most v h2.len h2.inf
 have b:=h2.most w h1.len h1.inf
 by_cases z:w<v
 ·have:=b.2 z;omega
 ·by_cases y:v<w
  ·have:=a.2 y;omega
  ·exact List.le_antisymm (YDA.mp y) (YDA.mp z)
def BadQ (K:PySem.W.Frag)(H:Hp)(v:V)(N:Nat):Prop:=(∃i:Int,v=.int i∧(i<1∨(N:Int)<i))∨NotI K H v
theorem BadQ.same {K:PySem.W.Frag}{H H':Hp}{v:V}{N:Nat}(o:BadQ K H v N)(s:Same H H'):BadQ K H' v N:=o.imp id fun o=>o.same s
theorem BadQ.tame {K:PySem.W.Frag}{H:Hp}{v:V}{N:Nat}(o:BadQ K H v N):Tame K H v:=by
 rcases o with⟨i,rfl,hi⟩ | o
 ·exact BadR.tame (N:=0) (.inl ⟨i,rfl,by omega⟩)
 ·exact BadR.tame (N:=0) (.inr o)
def XNl (a:Ad)(E:XK)(H:Hp)(v:V):Prop:=∀e H2,Same H H2→XAny H2 e a.c_KY (fs1 "length" [v])→E (.ref a.c_KY) (some e) H2
theorem BandT.l {a:Ad}{H H':Hp}{p:Addr}{l m:List Nat}(h:BandT a H p l m)(s:SameL H H'):BandT a H' p l m:=let ⟨C,dx,fs,h1,h2,h3⟩:=h;⟨C,dx,fs,h1,s _ _ h2 rfl,h3⟩
theorem Zj9 {a:Ad}{H H':Hp}{pd:Addr}{o0:HO}(T:TT a H)(k:∀b o,H b=some o→b≠pd→H' b=some o)(h:H pd=some o0)(t:Zdr o0=false)(x:Zjj o0=false):TT a H':=⟨Zf8 T.1 k h t x,Zf8 T.2 k h t x⟩
theorem ZiK {ls:List (List Nat)}{i j:Nat}{x w:List Nat}(hi:(ZaR ls)[i]?=some x)(hj:(ZaR ls)[j]?=some w)(h:x<w):i<j:=by
 have pw:=Za2 ls
 obtain⟨hi1,hi2⟩:=YAW.mp hi
 obtain⟨hj1,hj2⟩:=YAW.mp hj
 rcases Nat.lt_trichotomy i j with z | z | z
 ·exact z
 ·subst z
  rw[hi2]at hj2
  rw[hj2]at h
  exact absurd h (List.lt_irrefl _)
 ·have:=YCG.mp pw j i hj1 hi1 z
  rw[hi2,hj2]at this
  exact absurd h (YDA.mpr (by simpa [leT] using this))
theorem Zi1 {l:List Nat}{n j:Nat}{w:List Nat}(hn:n≤l.length)(hw:(wordsOf l n)[j]?=some w)(hm:ZiC (fun k=>((cntW l ((wordsOf l n).getD k []):Nat):Int)) j (wordsOf l n).length):Oft l n w:=by
 have hm1:=(ZaD (l:=l) (by omega)).mp (YAe hw)
 refine⟨hm1.1,hm1.2,fun x hx hi=>?_⟩
 obtain⟨k,hk⟩:=List.mem_iff_getElem?.mp ((ZaD (l:=l) (n:=n) (by omega)).mpr ⟨hx,hi⟩)
 have kl:=(YAW.mp hk).1
 have h:=hm k kl
 have e1:(wordsOf l n).getD k []=x:=by rw[YAR,hk];rfl
 have e2:(wordsOf l n).getD j []=w:=by rw[YAR,hw];rfl
 simp only[e1,e2]at h
 refine⟨by omega,fun lt=>?_⟩
 have:=h.2 (ZiK (ls:=ddl ((List.range (l.length+1-n)).map fun i=>(l.drop i).take n)) hk hw lt)
 omega
def Zcz (l:List Nat)(n:Nat):List (List Nat):=(List.range (l.length+1-n)).map fun i=>(l.drop i).take n
theorem ZfV {l w:List Nat}{n:Nat}(h:w.length=n):(ZaR (Zcz l n)).count w=cntW l w:=by
 rw[(Zay _).count_eq]
 unfold Zcz cntW placesOf
 subst h
 rw[List.count_eq_countP,List.countP_map,List.countP_eq_length_filter]
 congr 1
 refine List.filter_congr fun i _=>?_
 show ((l.drop i).take w.length == w)=_
 rw[YBG,beq_iff_eq,decide_eq_true_iff]
theorem ZhT {l x:List Nat}{n:Nat}(hn:n≤l.length):x∈Zcz l n↔x.length=n∧Inf x l:=by
 unfold Zcz
 rw[YBX]
 constructor
 ·rintro⟨i,hi,rfl⟩
  have hi:=YAq.mp hi
  have e:((l.drop i).take n).length=n:=by rw[YAV,YAm];omega
  exact⟨e,i,by rw[e];omega,by rw[e]⟩
 ·rintro⟨hx,i,h1,h2⟩
  exact⟨i,YAq.mpr (by omega),by rw[←hx];exact h2⟩
def Best (l:List Nat)(ys:List (List Nat))(b:List Nat)(c:Nat):Prop:=(ys=[]∧b=[]∧c=0)∨(b∈ys∧c=cntW l b∧∀x∈ys,cntW l x≤cntW l b∧(x<b→cntW l x<cntW l b))
theorem Best.new {l:List Nat}{ys:List (List Nat)}{b y:List Nat}{c:Nat}(h:Best l ys b c)(gt:c<cntW l y):Best l (ys++[y]) y (cntW l y):=by
 refine .inr ⟨by simp,rfl,fun x hx=>?_⟩
 rcases YAf.mp hx with z | z
 ·rcases h with⟨e,_⟩|⟨_,e,h⟩
  ·rw[e]at z;cases z
  ·have:=(h x z).1;exact⟨by omega,fun _=>by omega⟩
 ·rw[YAX.mp z];exact⟨YAP _,fun z=>absurd z (List.lt_irrefl _)⟩
theorem Best.old {l:List Nat}{ys:List (List Nat)}{b y:List Nat}{c:Nat}(h:Best l ys b c)(le:cntW l y≤c)(h1:1≤cntW l y)(srt:∀x∈ys,¬y<x):Best l (ys++[y]) b c:=by
 rcases h with⟨_,_,e⟩|⟨hb,e,h⟩
 ·omega
 ·refine .inr ⟨YDK _ hb,e,fun x hx=>?_⟩
  rcases YAf.mp hx with z | z
  ·exact h x z
  ·rw[YAX.mp z];exact⟨by omega,fun lt=>absurd lt (srt b hb)⟩
theorem Zjw {l w:List Nat}(h:Inf w l):1≤cntW l w:=by
 obtain⟨i,hi⟩:=h
 exact List.length_pos_of_mem (Zl5.mpr hi)
theorem Zg3 {K:PySem.W.Frag}{t d1 d2:Value}(h1:PySem.W.kitOne K t d1=some false)(h2:PySem.W.kitOne K t d2=some false):PySem.W.kitAny K t [d1,d2]=some false:=by simp[PySem.W.kitAny,h1,h2]
def ZnS (K:PySem.W.Frag)(a:Ad):Sp:=fun vs H Q _=>∃l m,vs=[tx l,tx m]∧l.length≤1000∧∀H2,Same H H2→Q (.bl (l.all fun c=>m.contains c)) H2
def Zoc (K:PySem.W.Frag)(a:Ad):Sp:=fun vs H Q _=>∃v,vs=[v]∧((∃l,v=tx l∧l.length≤1000∧∀H2,Same H H2→Q (.bl (isk l)) H2)∨(Oth K H v∧Q (.bl false) H))
def Zoa (K:PySem.W.Frag)(a:Ad):Sp:=fun vs H Q _=>∃v m most,vs=[v,tx m,.int most]∧((∃l,v=tx l∧l.length≤1000∧∀H2,Same H H2→Q (.bl (isw l m most)) H2)∨(Oth K H v∧Q (.bl false) H))
def ZnY (K:PySem.W.Frag)(a:Ad):Sp:=fun vs H Q E=>∃v,vs=[v]∧((∃l,v=tx l∧l.length≤1000∧isk l=true∧∀H2,Same H H2→Q .non H2)∨(BadK K H v∧XNk a E H))
def ZnT (K:PySem.W.Frag)(a:Ad):Sp:=fun vs H Q E=>∃v m most,vs=[v,tx m,.int most]∧((∃l,v=tx l∧l.length≤1000∧isw l m most=true∧∀H2,Same H H2→Q .non H2)∨(BadW K H v m most∧XNw a E H v))
def ZnJ (K:PySem.W.Frag)(a:Ad):Sp:=fun vs H Q _=>∃(l x:List Nat),vs=[tx l,tx x]∧l.length≤1000∧x.length≤1000∧Q (.bl (Zh1 l x)) H
def ZnU (K:PySem.W.Frag)(a:Ad):Sp:=fun vs H Q _=>∃v m,vs=[v,tx m]∧((∃l,v=tx l∧l.length≤1000∧∀H2,Same H H2→Q (.bl (isl l m)) H2)∨(Oth K H v∧Q (.bl false) H))
def Zn5 (K:PySem.W.Frag)(a:Ad):Sp:=fun vs H Q E=>∃v m,vs=[v,tx m]∧((∃l,v=tx l∧l.length≤1000∧isl l m=true∧∀H2,Same H H2→Q .non H2)∨(BadL K H v m∧XNw a E H v))
def Zod (K:PySem.W.Frag)(a:Ad):Sp:=fun vs H Q _=>∃(p:Addr) (ws:List (List Nat)),vs=[.ref p]∧H p=some (.lst (ws.map tx))∧(∀w∈ws,w.length≤1000)∧TT a H∧∀(ws':List (List Nat)) (r:Addr) (H2:Hp),ws'.Perm ws→ws'.Pairwise (fun a b=>¬BefW b a)→SameL H H2→TT a H2→H r=none→H2 r=some (.lst (ws'.map tx))→Q (.ref r) H2
def ZnK (K:PySem.W.Frag)(a:Ad):Sp:=fun vs H Q _=>∃(s L:List Nat),vs=[tx s,tx L]∧L.length≤41∧Ext s L∧TT a H∧∀(F:List (List Nat)) (r:Addr) (H2:Hp),F.Pairwise BefW→(∀w,w∈F↔Frs s L w)→SameL H H2→TT a H2→Nw H r→H2 r=some (.lst (F.map tx))→Q (.ref r) H2
def ZnR (K:PySem.W.Frag)(a:Ad):Sp:=fun vs H Q _=>∃(s L rs m:List Nat),vs=[tx s,tx L,tx rs]∧L.length≤41∧Ext s L∧(∀x∈L,x∈m)∧m.Pairwise (· < ·)∧TT a H∧∀(ys:List V) (r:Addr) (H2:Hp),SameL H H2→TT a H2→Nw H r→H2 r=some (.lst ys)→RowsA H2 ys (ZdE rs s L m)→Q (.ref r) H2
def ZnO (K:PySem.W.Frag)(a:Ad):Sp:=fun vs H Q _=>∃(s L rs m:List Nat),vs=[tx s,tx L,tx m,tx rs]∧L.length≤41∧Ext s L∧(∀x∈L,x∈m)∧m.Pairwise (· < ·)∧m.length≤4∧TT a H∧∀(ys:List V) (r:Addr) (H2:Hp),SameL H H2→TT a H2→Nw H r→H2 r=some (.lst ys)→RowsA H2 ys (Zdc rs s L m)→Q (.ref r) H2
def ZnX (K:PySem.W.Frag)(a:Ad):Sp:=fun vs H Q _=>∃(p dx C:Addr) (l m:List Nat),vs=[.ref p,tx l,tx m]∧(C=a.c_LH∨C=a.c_LI)∧H p=some (.ins C dx [])∧∀H2,H2 p=some (.ins C dx (putF "own_kinds" (tx m) (putF "own_text" (tx l) [])))→(∀b o,H b=some o→b≠p→H2 b=some o)→Q .non H2
def Zn0 (K:PySem.W.Frag)(a:Ad):Sp:=fun vs H Q E=>∃(p dx:Addr) (u:V),vs=[.ref p,u]∧H p=some (.ins a.c_LI dx [])∧((∃m,u=tx m∧KOk m∧∀la da H2,StripAt a.c_LI H2 p la da [] m []→H la=none→H da=none→(∀b o,H b=some o→b≠p→H2 b=some o)→Q .non H2)∨(BadK K H u∧XNk a E H))
def Zht (K:PySem.W.Frag)(a:Ad):Sp:=fun vs H Q _=>∃(p:Addr) (l:List Nat),vs=[.ref p]∧TextAt a H p l∧Q (tx l) H
def ZlM (K:PySem.W.Frag)(a:Ad):Sp:=fun vs H Q _=>∃(p:Addr) (l m:List Nat),vs=[.ref p]∧BandT a H p l m∧Q (tx m) H
def Zn7 (K:PySem.W.Frag)(a:Ad):Sp:=fun vs H Q _=>∃(p la da c g:Addr) (l l2 m:List Nat) (old new:List (List Nat)) (ys zs:List V) (rc rg:List (List Nat×List V)),vs=[.ref p,tx l2,.ref c,.ref g]∧ZcN a.c_LI H p la da l m∧H la=some (.lst (old.map tx))∧H c=some (.lst ys)∧RowsA H ys rc∧H g=some (.lst zs)∧RowsA H zs rg∧old.Pairwise BefW∧new.Pairwise BefW∧(rc.map (·.1)).Nodup∧(∀w,w∈rc.map (·.1)↔w∈new∧w∉old)∧(∀w,w∈rg.map (·.1)↔w∈old∧w∉new)∧old.length≤9000∧rc.length≤9000∧rg.length≤9000∧(∀w∈old,w.length≤1000)∧(∀w∈new,w.length≤1000)∧TT a H∧∀(t la2:Addr) (H2:Hp),Chg [p] H H2→ZcN a.c_LI H2 p la2 da l2 m→Nw H la2→H2 la2=some (.lst (new.map tx))→H2 t=some (.tup [.ref c,.ref g])→TT a H2→Q (.ref t) H2
def Zn1 (K:PySem.W.Frag)(a:Ad):Sp:=fun vs H Q _=>∃(p la da:Addr) (s L m:List Nat),vs=[.ref p,tx L]∧ZcN a.c_LI H p la da s m∧H la=some (.lst ((ZaI s m).map tx))∧L.length≤40∧Ext s L∧(∀x∈L,x∈m)∧KindsOk m∧TT a H∧∀(t c g la2:Addr) (H2:Hp),Chg [p] H H2→ZcN a.c_LI H2 p la2 da L m→H2 la2=some (.lst ((ZaI L m).map tx))→AnsS H H2 t c g la2 (Zdc [102,105,114,115,116] s L m) (ZdE [115,116,97,110,100,115] s L m)→TT a H2→Q (.ref t) H2
def Zn6 (K:PySem.W.Frag)(a:Ad):Sp:=fun vs H Q _=>∃(p la da:Addr) (s L m:List Nat),vs=[.ref p,tx s]∧ZcN a.c_LI H p la da L m∧H la=some (.lst ((ZaI L m).map tx))∧L.length≤40∧Ext s L∧(∀x∈L,x∈m)∧KindsOk m∧TT a H∧∀(t c g la2:Addr) (H2:Hp),Chg [p] H H2→ZcN a.c_LI H2 p la2 da s m→H2 la2=some (.lst ((ZaI s m).map tx))→AnsS H H2 t c g la2 (ZdE [115,116,111,111,100] s L m) (Zdc [108,97,115,116] s L m)→TT a H2→Q (.ref t) H2
def ZnW (K:PySem.W.Frag)(a:Ad):Sp:=fun vs H Q E=>∃(p la da:Addr) (l m:List Nat) (ds:List (Bool×Nat)) (v:V),vs=[.ref p,v]∧StripAt a.c_LI H p la da l m ds∧ds.length≤9000∧TT a H∧((∃c0,v=tx [c0]∧c0∈m∧l.length<40∧∀(t c g la2:Addr) (H2:Hp),Chg [p,da] H H2→StripAt a.c_LI H2 p la2 da (l++[c0]) m (ds++[(true,c0)])→AnsS H H2 t c g la2 (Zdc [102,105,114,115,116] l (l++[c0]) m) (ZdE [115,116,97,110,100,115] l (l++[c0]) m)→TT a H2→Q (.ref t) H2)∨(BadL K H v m∧XNw a E H v)∨(∃c0,v=tx [c0]∧c0∈m∧l.length=40∧XN0 a.c_LT E H))
def Zn2 (K:PySem.W.Frag)(a:Ad):Sp:=fun vs H Q E=>∃(p la da:Addr) (l m:List Nat) (ds:List (Bool×Nat)),vs=[.ref p]∧StripAt a.c_LI H p la da l m ds∧ds.length≤9000∧TT a H∧((∃c0 l0,l=c0::l0∧∀(t c g la2:Addr) (H2:Hp),Chg [p,da] H H2→StripAt a.c_LI H2 p la2 da l0 m (ds++[(false,c0)])→AnsS H H2 t c g la2 (ZdE [115,116,111,111,100] l0 (c0::l0) m) (Zdc [108,97,115,116] l0 (c0::l0) m)→TT a H2→Q (.ref t) H2)∨(l=[]∧XN0 a.c_LS E H))
def Zn3 (K:PySem.W.Frag)(a:Ad):Sp:=fun vs H Q E=>∃(p la da:Addr) (l m:List Nat) (ds:List (Bool×Nat)),vs=[.ref p]∧StripAt a.c_LI H p la da l m ds∧ds.length≤9000∧TT a H∧((∃ds0 c0 l0,ds=ds0++[(true,c0)]∧l=l0++[c0]∧∀(t c g la2:Addr) (H2:Hp),Chg [p,da] H H2→StripAt a.c_LI H2 p la2 da l0 m ds0→AnsS H H2 t c g la2 (ZdE [115,116,111,111,100] l0 (l0++[c0]) m) (Zdc [108,97,115,116] l0 (l0++[c0]) m)→TT a H2→Q (.ref t) H2)∨(∃ds0 c0,ds=ds0++[(false,c0)]∧∀(t c g la2:Addr) (H2:Hp),Chg [p,da] H H2→StripAt a.c_LI H2 p la2 da (c0::l) m ds0→AnsS H H2 t c g la2 (Zdc [102,105,114,115,116] l (c0::l) m) (ZdE [115,116,97,110,100,115] l (c0::l) m)→TT a H2→Q (.ref t) H2)∨(ds=[]∧XN0 a.c_K8 E H))
def ZnI (K:PySem.W.Frag)(a:Ad):Sp:=fun vs H Q _=>∃(b:Addr) (ns:List Int) (k:Int),vs=[.ref b,.int k]∧SqL K H b (ns.map V.int)∧0≤k∧k≤1000∧∀r:Int,Q (.int r) H
def ZnF (K:PySem.W.Frag)(a:Ad):Sp:=fun vs H Q _=>∃c k,vs=[.int c,.int k]∧∀r:Int,0≤r→Q (.int r) H
def ZnQ (K:PySem.W.Frag)(a:Ad):Sp:=fun vs H Q _=>∃c,vs=[.int c]∧∀m H2,isk m=true→1≤m.length→m.length≤4→Same H H2→Q (tx m) H2
def Zn9 (K:PySem.W.Frag)(a:Ad):Sp:=fun vs H Q _=>∃(c:Int) (m:List Nat) (n:Int) (d:Bool),vs=[.int c,tx m,.int n,.bl d]∧1≤m.length∧m.length≤4∧0≤n∧n≤100∧∀(l:List Nat) H2,l.length=n.toNat→(∀x∈l,x∈m)→Same H H2→Q (tx l) H2
def ZnG (K:PySem.W.Frag)(a:Ad):Sp:=fun vs H Q _=>∃(b:Addr) (ns:List Int) (k:Int) (m:List Nat),vs=[.ref b,.int k,tx m]∧SqL K H b (ns.map V.int)∧0≤k∧k≤900∧1≤m.length∧m.length≤4∧∀(l:List Nat) H2,l.length≤40→(∀x∈l,x∈m)→Same H H2→Q (tx l) H2
def ZnM (K:PySem.W.Frag)(a:Ad):Sp:=fun vs H Q _=>∃(l w:List Nat),vs=[tx l,tx w]∧l.length≤900∧w.length≤900∧∀p H2,Same H H2→H2 p=some (.lst ((placesOf l w).map fun i=>.int (i:Nat)))→Q (.ref p) H2
def ZnN (K:PySem.W.Frag)(a:Ad):Sp:=fun vs H Q _=>∃(l:List Nat) (n:Nat),vs=[tx l,.int n]∧l.length≤40∧n≤100∧∀p H2,Same H H2→H p=none→H2 p=some (.lst ((wordsOf l n).map tx))→Q (.ref p) H2
def ZnP (K:PySem.W.Frag)(a:Ad):Sp:=fun vs H Q _=>∃x,vs=[x,x]∧((∃l,x=tx l)∨∃i,x=.int i)∧∀H2,Same H H2→Q (.bl true) H2
def ZnH (K:PySem.W.Frag)(a:Ad):Sp:=fun vs H Q _=>∃x y,vs=[x,y]∧Zno H x y∧∀H2,Same H H2→Q (.bl true) H2
def Zn4 (K:PySem.W.Frag)(a:Ad):Sp:=fun vs H Q E=>∃(p dx:Addr) (l m:List Nat),vs=[.ref p,tx l,tx m]∧H p=some (.ins a.c_LH dx [])∧StripOk l m∧∀H2,H2 p=some (.ins a.c_LH dx (putF "own_kinds" (tx m) (putF "own_text" (tx l) [])))→(∀b o,H b=some o→b≠p→H2 b=some o)→Q .non H2
def ZnL (K:PySem.W.Frag)(a:Ad):Sp:=fun vs H Q _=>∃(v:V) (y z:Int),vs=[v,.int y,.int z]∧((∃x:Int,v=.int x∧Q (.bl (decide (y≤x)&&decide (x≤z))) H)∨(NotI K H v∧Q (.bl false) H))
def ZlN (K:PySem.W.Frag)(a:Ad):Sp:=fun vs H Q _=>∃(p:Addr) (l:List Nat) (n:Nat),vs=[.ref p,.int n]∧TextAt a H p l∧Q (tx l) H
def ZlL (K:PySem.W.Frag)(a:Ad):Sp:=fun vs H Q _=>∃(p:Addr) (l m:List Nat) (n:Nat),vs=[.ref p,.int n]∧BandT a H p l m∧l.length≤40∧n≤100∧∀q H2,Same H H2→H q=none→H2 q=some (.lst ((wordsOf l n).map tx))→Q (.ref q) H2
def ZnZ (K:PySem.W.Frag)(a:Ad):Sp:=fun vs H Q _=>∃(p:Addr) (l m:List Nat) (w:List Nat),vs=[.ref p,tx w]∧BandT a H p l m∧l.length≤40∧w.length≤1000∧isw w m 60=true∧∀r H2,Same H H2→H2 r=some (.lst ((placesOf l w).map fun i=>.int (i:Nat)))→Q (.ref r) H2
def ZnV (K:PySem.W.Frag)(a:Ad):Sp:=fun vs H Q _=>∃(p:Addr) (l m:List Nat) (w:List Nat),vs=[.ref p,tx w]∧BandT a H p l m∧l.length≤40∧w.length≤1000∧isw w m 60=true∧∀H2,Same H H2→Q (.int ((placesOf l w).length:Nat)) H2
def Zob (K:PySem.W.Frag)(a:Ad):Sp:=fun vs H Q E=>∃(p:Addr) (l m:List Nat) (v:V),vs=[.ref p,v]∧BandT a H p l m∧l.length≤40∧((∃n:Nat,v=.int n∧1≤n∧n≤l.length∧(∀x∈l,x∈m)∧TT a H∧∀t w H2,SameL H H2→TT a H2→H2 t=some (.tup [tx w,.int ((placesOf l w).length:Nat)])→Oft l n w→Q (.ref t) H2)∨(BadQ K H v l.length∧XNl a E H v))
def ZlK (K:PySem.W.Frag)(a:Ad):Sp:=fun vs H Q _=>∃(l:List Nat) (n:Nat),vs=[tx l,.int n]∧l.length≤40∧1≤n∧n≤l.length∧∀t w H2,Same H H2→H2 t=some (.tup [tx w,.int ((placesOf l w).length:Nat)])→Oft l n w→Q (.ref t) H2
def Zn8 (K:PySem.W.Frag)(a:Ad):Sp:=fun vs H Q _=>∃(p:Addr) (l m:List Nat) (v:V),vs=[.ref p,v]∧BandT a H p l m∧l.length≤40∧BadQ K H v l.length∧∀H2,Same H H2→Q (.bl true) H2
def ZnD (K:PySem.W.Frag)(a:Ad):Sp:=fun vs H Q _=>∃(p:Addr) (l m:List Nat),vs=[.ref p,tx l]∧BandT a H p l m∧StripOk l m∧TT a H∧∀H2,SameL H H2→TT a H2→Q (.bl true) H2
def ZnE (K:PySem.W.Frag)(a:Ad):Sp:=fun vs H Q _=>∃(l m:List Nat) (c:Int),vs=[tx l,tx m,.int c,.ref a.f_LQ]∧StripOk l m∧TT a H∧∀H2,SameL H H2→Q (.bl true) H2
def spLaw (K:PySem.W.Frag)(tb:Str→Addr×Addr):Sp:=fun vs H Q _=>∃(b:Addr) (ns:List Int),vs=[.ref b]∧SqL K H b (ns.map V.int)∧ns.length≤63∧TblOk H (tb "in_order").2 lpos lq∧TblOk H (tb "oftenest").2 ZmI lqO∧∀H2,Q (.bl true) H2
section
variable {P:Program}{w:World}{K:PySem.W.Frag}{mg:Str→Option Value}{base:Heap}{a:Ad}{tb:Str→Addr×Addr}
local macro_rules | `(tactic| walk_at "r0") => `(tactic| simp only [tSeq, tAsg, tPar, tOp, tUn, tVar, tC, ZcR, gNil, Znb, tRet, Znx, tIfS, Zly, tB, tNot, tAnd, tOr, ZlJ, tOrV, Zny, tIf, ZlE, tNil, Zkf, ZoH, ZoE, ZoG, ZoF, Zl3, Zkh, tCB, Znv, ZlU, ZjD, tBM, tBM0, tSl, Zlz, tNoPart, tNext, L2.start, cxK, bxK, cxPr, cxWo, suxK, ZnC, ZnB, ZjH, tTry, ZjI, ZlV, ZjL, sIfx, hAs, Zm9, hNone, unE, ZjE, Znz, Zhq, ZoI, Zl2, Zm7, Zm6, Zk3, iTup, Zo9, Zm5, gTup, pick, Option.bind_some, Option.bind_none, Option.join_some, Option.join_none, List.map_cons, List.map_nil, List.length_cons, List.length_nil, Nat.zero_add, Nat.reduceAdd, Nat.reduceSub, List.replicate_succ, List.replicate_zero, List.cons_append, List.nil_append, List.append_nil, List.getElem?_cons_zero, List.getElem?_cons_succ, List.set_cons_zero, List.set_cons_succ, q_I, q_I0, q_U, q_T, q_b, q_var, q_var', iZip, Zkw, ZlC, Zkc, tFld, sFld, sNo, tAug, ZlI, ZlX, ZlA, ZlB, tDNewK, ZlW, ZlD, ZjG, ZlH, tDIn, Zke, ZnA, ZoD, ZoB, Zpa, Zkd, ZlG, ipI, Znw, ZlF, tOr2, ZjJ, Zhr, Zm4])
local macro_rules | `(tactic| walk_at "r1") => do
 let some t ←Lean.Macro.expandMacro? (←`(tactic| walk_at "r0")) | Lean.Macro.throwUnsupported
 match (⟨t⟩:Lean.TSyntax `tactic) with
 | `(tactic| simp only[$l,*])=>let d:=⟨l.elemsAndSeps⟩;`(tactic| dsimp only[$d,*])
 | _=>Lean.Macro.throwUnsupported
local macro_rules | `(tactic| walk_at "rd") => `(tactic| first | (walk_at "r1"; try walk_at "r0") | walk_at "r0")
local macro_rules | `(tactic| walk_at "sc") => `(tactic| exact ⟨rfl, rfl, rfl, by decide +kernel, rfl, by decide +kernel, by decide +kernel⟩)
local macro_rules | `(tactic| walk_at "rd?") => `(tactic| (try walk_at "rd"))
theorem Zoi:FnScope ["text","letters"] ["text","letters"] (Zag s_KZ):=by walk_at "sc"
theorem Zmk (T:TL K mg base a tb):FnOk P w K mg base CX0 1 a.f_KZ a.d_KZ ["text","letters"] (ZnS K a):=by
 refine T.f_KZ.ok Zoi (fun vs H Q E h=>?_) (fun cdv A outer s H vs Q E hr h=>?_)
 ·obtain⟨_,_,rfl,_⟩:=h;rfl
 ·have hu64:=hr.units
  have hu1:=ZaM hr
  obtain⟨l,m,rfl,hl,q⟩:=h
  refine⟨_,(Zad (Zar (Zah (Ziu rfl) rfl T.z_all Znn (Zaa (ZbQ (N:=["sign","letters"]) (ix:=[none,some 1]) rfl (Zbi rfl) rfl (Zd9 (pv 0)) (fun _ _ _ _=>(ZaC (i:=0) (show (["sign","letters"]:List Str).Nodup from by decide +kernel) rfl (Or.inl rfl) (Or.inr rfl))) (fun _ _ _ _=>ZbZ) (fun _ _ _ _=>(ZaK ZgP (pv 0) (pv 1) rfl))) Zab)))),?_⟩
  walk_at "rd"
  refine⟨l,rfl,CompRun.text (fun _=>true) (fun i=>.bl (decide (l.getD i 0∈m))) hl ?_ ?_ ?_⟩
  ·intro i H1 Q1 hi s1 q1;exact q1 H1 (Same.refl _)
  ·intro i H1 Q1 hi _ s1 q1
   walk_at "rd"
   exact⟨_,m,rfl,rfl,q1 H1 (Same.refl _)⟩
  ·intro p H1 s1 n1 l1
   refine⟨p,(List.range l.length).map (fun i=>decide (l.getD i 0∈m)),rfl,?_,?_⟩
   ·rw[l1,filter_all,YBa];rfl
   ·rw[all_range];exact q H1 s1
theorem ZdD:FnScope ["self","word"] ["self","word"] (Zag ZbE):=by walk_at "sc"
theorem Zb6 (T:TL K mg base a tb):FnOk P w K mg base CX0 1 a.g_NoWord_init a.e_NoWord_init ["self","word"] (ZdL K a.c_K9 1 (fs1 "word")):=by
 refine T.fi_K9.ok ZdD (fun vs H Q E h=>?_) (fun cdv A outer s H vs Q E hr h=>?_)
 ·obtain⟨e,r,rfl,hl,_⟩:=h;simp[hl]
 ·have hu64:=hr.units
  have hu1:=ZaM hr
  obtain⟨e,r,rfl,hl,he,q⟩:=h
  obtain⟨x,rfl⟩:∃x,r=[x]:=by match r,hl with | [x],_=>exact⟨x,rfl⟩
  refine⟨_,(Zac (ZaX (Zge rfl T.m_KT T.r_KT (Zaa (pv 0) (Zaa (ZaQ (l:=[116,104,105,115,32,105,115,32,110,111,32,119,111,114,100,32,111,102,32,116,104,101,115,101,32,107,105,110,100,115,44,32,111,114,32,104,97,115,32,116,111,111,32,109,97,110,121,32,108,101,116,116,101,114,115]) (by decide +kernel)) Zab))))
   (Zad (ZhF (pv 0) (pv 1) rfl))),?_⟩
  walk_at "rd"
  refine⟨e,a.c_K9,none,_,rfl,he,T.x_K9,(by show 1≤1000;decide),e,a.c_K9,[],rfl,.bare he,T.x_K9.c,T.n_NoWord_word,(by show 0<1000;decide),fun H1 x1 k1 _=>?_⟩
  exact q H1 x1 fun b o hb hne=>k1 b o hb hne fun d hd=>by rw[he]at hd;exact absurd hd Zlr
theorem ZlP:FnScope ["text","word","size"] ["text","word"] (Zag s_LF):=by walk_at "sc"
theorem ZoT (T:TL K mg base a tb):FnOk P w K mg base CX0 1 a.f_LF a.d_LF ["text","word"] (ZnM K a):=by
 refine T.f_LF.ok ZlP (fun vs H Q E h=>?_) (fun cdv A outer s H vs Q E hr h=>?_)
 ·obtain⟨_,_,rfl,_⟩:=h;rfl
 ·have hu64:=hr.units
  have hu1:=ZaM hr
  obtain⟨l,w_,rfl,hl,hw,q⟩:=h
  refine⟨_,(Zac (Zaw (i:=2) ZlP.nd rfl (Or.inr rfl) (Zah (Zas (K:=K) rfl) rfl T.z_len ZaN (Zaa (pv 1) Zab)))
   (Zad (Zar (ZbQ (N:=["start","size","text","word"]) (ix:=[none,some 2,some 0,some 1]) rfl (Zbi rfl) rfl (Zbz rfl T.z_range (Zaa (Zau Za0 (Zau ZdR (Zah (Zas (K:=K) rfl) rfl T.z_len ZaN (Zaa (pv 0) Zab)) (pv 2)) Zak) Zab)) (fun _ _ _ _=>(ZaC (i:=0) (show (["start","size","text","word"]:List Str).Nodup from by decide +kernel) rfl (Or.inl rfl) (Or.inr rfl))) (fun _ _ _ _=>(Zd8 (ZaG (Zba (K:=K) rfl hu64) (ZaH ZbJ (pv 2) (ZaO (pv 0)) (ZaO (Zau Za0 (pv 0) (pv 1)))) (pv 3) (Zax _)))) (fun _ _ _ _=>(pv 0)))))),?_⟩
  have sz:l.length≤sizeLine:=by rw[sizeLine_eq];omega
  walk_at "rd"
  refine⟨_,_,rfl,Zbf (by omega),_,_,rfl,Zbf (by omega),_,rfl,by omega,by omega,?_⟩
  have e0:((l.length:Int)-(w_.length:Nat)+1).toNat=l.length+1-w_.length:=by omega
  rw[e0]
  refine CompRun.range (fun i=>decide ((l.drop i).take w_.length=w_)) (fun i=>.int ((i:Nat):Int)) (by omega) ?_ ?_ ?_
  ·intro i H1 Q1 hi s1 q1
   have e1:(0+(i:Int))=((i:Nat):Int):=by omega
   have e2:((i:Nat):Int)+(w_.length:Nat)=((i+w_.length:Nat):Int):=by omega
   walk_at "rd"
   refine⟨_,rfl,_,rfl,l,rfl,sz,.inl ⟨rfl,_,rfl,?_⟩⟩
   rw[YAJ YAE,Zdy,e1,e2,Zip]
   have e3:i+w_.length-i=w_.length:=by omega
   rw[e3]
   exact q1 H1 (Same.refl _)
  ·intro i H1 Q1 hi _ s1 q1
   have e1:(0+(i:Int))=((i:Nat):Int):=by omega
   walk_at "rd"
   rw[e1]
   exact q1 H1 (Same.refl _)
  ·intro p H2 s2 n2 l2
   exact q p H2 s2 l2
theorem ZoA:FnScope ["words"] ["words"] (Zag s_K0):=by walk_at "sc"
theorem ZkH (T:TL K mg base a tb):FnOk P w K mg base CX0 1 a.f_K0 a.d_K0 ["words"] (Zod K a):=by
 refine T.f_K0.okC T.cd_K0 ZoA (fun vs H Q E h=>?_) (fun A outer s H vs Q E hr h=>?_)
 ·obtain⟨_,_,rfl,_⟩:=h;rfl
 ·have hu64:=hr.units
  have hu1:=ZaM hr
  obtain⟨p,ws,rfl,hp,hw,tk,q⟩:=h
  refine⟨_,(Zad (Zar (ZiX (q:="in_order.<locals>.<lambda>") hr T.L_in_order rfl rfl T.z_sorted T.z_len (Zaa (pv 0) Zab) rfl rfl (by kernel_rfl) ⟨rfl,rfl,rfl,rfl,rfl,rfl⟩ (fun _ _ _ _ _=>.of_eq rfl)))),?_⟩
  have sz:∀k:Nat,k≤1000→k≤sizeLine:=fun k h=>YAQ h (by rw[sizeLine_eq];decide)
  walk_at "rd"
  exact⟨p,ws,rfl,hp,fun w h=>sz _ (hw w h),tk.1,fun ws' r H2 a b c d=>q ws' r H2 a b c.1 ⟨d,c.2 _ _ _ (by decide) tk.2⟩⟩
theorem Zoh:FnScope ["text","length"] ["text","length"] (Zag s_LE):=by walk_at "sc"
theorem ZoU (T:TL K mg base a tb):FnOk P w K mg base CX0 1 a.f_LE a.d_LE ["text","length"] (ZnN K a):=by
 refine T.f_LE.ok Zoh (fun vs H Q E h=>?_) (fun cdv A outer s H vs Q E hr h=>?_)
 ·obtain⟨_,_,rfl,_⟩:=h;rfl
 ·have hu64:=hr.units
  have hu1:=ZaM hr
  obtain⟨l,n,rfl,hl,hn,q⟩:=h
  refine⟨_,(Zad (Zar (Zah (ZbU rfl) rfl T.z_sorted ZbW (Zaa (Zbm (Zcd rfl) rfl T.z_set Ziv (Zaa (ZbQ (N:=["start","length","text"]) (ix:=[none,some 1,some 0]) rfl (Zbi rfl) rfl (Zbz rfl T.z_range (Zaa (Zau Za0 (Zau ZdR (Zah (Zas (K:=K) rfl) rfl T.z_len ZaN (Zaa (pv 0) Zab)) (pv 1)) Zak) Zab)) (fun _ _ _ _=>(ZaC (i:=0) (show (["start","length","text"]:List Str).Nodup from by decide +kernel) rfl (Or.inl rfl) (Or.inr rfl))) (fun _ _ _ _=>ZbZ) (fun _ _ _ _=>(ZaH ZbJ (pv 2) (ZaO (pv 0)) (ZaO (Zau Za0 (pv 0) (pv 1)))))) Zab)) Zab)))),?_⟩
  walk_at "rd"
  have sz:l.length≤sizeLine:=by rw[sizeLine_eq];omega
  have ec:((l.length:Int)-(n:Nat)+1).toNat=l.length+1-n:=by omega
  refine⟨_,_,rfl,Zbf (by omega),_,rfl,by omega,by omega,?_⟩
  rw[ec]
  refine CompRun.rangeA (fun i=>tx ((l.drop i).take n)) (by omega) ?_ ?_
  ·intro i H1 Q1 hi s1 q1
   walk_at "rd"
   refine⟨_,rfl,_,rfl,l,rfl,sz,?_⟩
   have e1:(0+(i:Int))=((i:Nat):Int):=by omega
   have e2:((i:Nat):Int)+(n:Nat)=((i+n:Nat):Int):=by omega
   rw[e1,e2,Zip]
   have e3:i+n-i=n:=by omega
   rw[e3]
   exact q1 H1 (Same.refl _)
  ·intro p H1 s1 n1 l1
   refine⟨(List.range (l.length+1-n)).map (fun i=>(l.drop i).take n),by simp;omega,.inr ⟨p,rfl,.mk (by rw[l1,YBa];rfl)⟩,fun p2 n2=>⟨p2,_,rfl,Zae,?_,NewL.of fun p3 H3 s3 n3 l3=>q p3 H3 (s1.trans ((ZaF n2).trans s3)) ((s1.trans (ZaF n2)).free n3) l3⟩⟩
   refine YCE (Zni _) ?_
   rw[YAD,YBb]
   omega
theorem Zof:FnScope ["text","word"] ["text","word"] (Zag s_LK):=by walk_at "sc"
theorem ZoR (T:TL K mg base a tb):FnOk P w K mg base CX0 1 a.f_LK a.d_LK ["text","word"] (ZnJ K a):=by
 refine T.f_LK.ok Zof (fun vs H Q E h=>?_) (fun cdv A outer s H vs Q E hr h=>?_)
 ·obtain⟨_,_,rfl,_⟩:=h;rfl
 ·have hu64:=hr.units
  have hu1:=ZaM hr
  obtain⟨l,x,rfl,hl,hx,q⟩:=h
  refine⟨_,(Zad (Zar (Zbn (ZaK Zdi (pv 1) (pv 0) rfl) (Zbn (ZaK Zgk (ZaH ZbJ (pv 1) (ZaO Zak) Za5) (pv 0) rfl) (ZbP (ZaK Zgk (ZaH ZbJ (pv 1) Za5 (ZaO (ZkA Zhk Zak))) (pv 0) rfl)))))),?_⟩
  walk_at "rd"
  have sx:x.length≤sizeLine:=YAQ hx (by rw[sizeLine_eq];decide)
  unfold Zh1 at q
  refine⟨x,l,rfl,rfl,ite2 (fun h1=>⟨_,rfl,x,rfl,sx,_,l,rfl,rfl,ite2 (fun h2=>⟨_,rfl,x,rfl,sx,_,l,rfl,rfl,?_⟩) (fun h2=>?_)⟩) (fun h1=>?_)⟩
  ·rw[ZfU]at h2
   rw[Ziq]
   rw[h1,h2,YBr,YBr]at q
   exact q
  ·rw[ZfU]at h2
   rw[h1,YBu.mpr h2,YBY,YCY]at q
   exact q
  ·rw[YBu.mpr h1,YBY]at q
   exact q
theorem Zog:FnScope ["thing","least","most"] ["thing","least","most"] (Zag s_LG):=by walk_at "sc"
theorem ZoS (T:TL K mg base a tb):FnOk P w K mg base CX0 1 a.f_LG a.d_LG ["thing","least","most"] (ZnL K a):=by
 refine T.f_LG.ok Zog (fun vs H Q E h=>?_) (fun cdv A outer s H vs Q E hr h=>?_)
 ·obtain⟨_,_,_,rfl,_⟩:=h;rfl
 ·have hu64:=hr.units
  have hu1:=ZaM hr
  obtain⟨v,y,z,rfl,q⟩:=h
  refine⟨_,(Zac (ZaW (PW.pt (ZgO (ZaZ (Zah (Zam (K:=K) rfl) rfl T.z_isinstance Zai (Zaa (pv 0) (Zaa (Zaz (v:=.ty "bool") rfl T.z_bool Zce rfl) Zab)))) (ZdO (Zbg (ZaZ (Zah (Zam (K:=K) rfl) rfl T.z_isinstance Zai (Zaa (pv 0) (Zaa (Zaz (v:=.ty "int") rfl T.z_int Ziw rfl) Zab)))))))) (Zad (Zar Zbv)) Zat)
   (Zad (Zar (Zbn (ZaK ZkG (pv 1) (pv 0) (Zax _)) (ZbP (ZaK ZkG (pv 0) (pv 2) (Zax _))))))),?_⟩
  walk_at "rd"
  rcases q with⟨x,rfl,q⟩|⟨⟨T0,b,ty,kb,ki,_⟩,q⟩
  ·refine⟨_,_,_,_,false,rfl,rfl,.ty (.pl (.int _)),ZjT,iteF ⟨_,_,_,_,true,rfl,rfl,.ty (.pl (.int _)),ZbI,iteF ?_⟩⟩
   walk_at "rd?"
   refine ite2 (fun h=>?_) (fun h=>?_)
   ·rw[h,YBr]at q;exact q
   ·rw[YBu.mpr h,YBY]at q;exact q
  ·cases b with
   | true=>
    refine⟨_,_,_,_,true,rfl,rfl,.ty ty,kb,?_⟩
    rw[YAO rfl,YAO trivial]
    exact q
   | false=>exact⟨_,_,_,_,false,rfl,rfl,.ty ty,kb,iteF ⟨_,_,_,_,false,rfl,rfl,.ty ty,ki rfl,iteT q⟩⟩
theorem Zon:FnScope ["self"] ["self"] (Zag s_KS):=by walk_at "sc"
theorem ZeR (T:TL K mg base a tb):FnOk P w K mg base CX0 1 a.g_KS a.e_KS ["self"] (Zht K a):=by
 refine T.fm_KS.ok Zon (fun vs H Q E h=>?_) (fun cdv A outer s H vs Q E hr h=>?_)
 ·obtain⟨_,_,rfl,_⟩:=h;rfl
 ·have hu64:=hr.units
  have hu1:=ZaM hr
  obtain⟨p,l,rfl,hp,q⟩:=h
  refine⟨_,(Zad (Zar (ZaJ (K:=K) rfl (pv 0) rfl))),?_⟩
  obtain⟨C,dx,fs,hC,f,gt,_⟩:=hp
  walk_at "rd"
  rcases hC with rfl | rfl
  ·exact⟨p,_,dx,_,_,rfl,f,T.cl_LH,T.n_Plain_own_text,gt,q⟩
  ·exact⟨p,_,dx,_,_,rfl,f,T.cl_LI,T.n_Strip_own_text,gt,q⟩
theorem Zov:FnScope ["self"] ["self"] (Zag s_KG):=by walk_at "sc"
theorem Zms (T:TL K mg base a tb):FnOk P w K mg base CX0 1 a.g_KG a.e_KG ["self"] (ZlM K a):=by
 refine T.fm_KG.ok Zov (fun vs H Q E h=>?_) (fun cdv A outer s H vs Q E hr h=>?_)
 ·obtain⟨_,_,_,rfl,_⟩:=h;rfl
 ·have hu64:=hr.units
  have hu1:=ZaM hr
  obtain⟨p,l,m,rfl,hp,q⟩:=h
  refine⟨_,(Zad (Zar (ZaJ (K:=K) rfl (pv 0) rfl))),?_⟩
  obtain⟨C,dx,fs,hC,f,gt,gk,_⟩:=hp
  walk_at "rd"
  rcases hC with rfl | rfl
  ·exact⟨p,_,dx,_,_,rfl,f,T.cl_LH,T.n_Plain_own_kinds,gk,q⟩
  ·exact⟨p,_,dx,_,_,rfl,f,T.cl_LI,T.n_Strip_own_kinds,gk,q⟩
theorem Zox:FnScope ["self","length"] ["self","length"] (Zag s_KA):=by walk_at "sc"
theorem Zmv (T:TL K mg base a tb):FnOk P w K mg base CX0 1 a.g_KA a.e_KA ["self","length"] (ZlN K a):=by
 refine T.fm_KA.ok Zox (fun vs H Q E h=>?_) (fun cdv A outer s H vs Q E hr h=>?_)
 ·obtain⟨_,_,_,rfl,_⟩:=h;rfl
 ·have hu64:=hr.units
  have hu1:=ZaM hr
  obtain⟨p,l,n,rfl,hp,q⟩:=h
  refine⟨_,(Zad (Zar (ZaJ (K:=K) rfl (pv 0) rfl))),?_⟩
  obtain⟨C,dx,fs,hC,f,gt,_⟩:=hp
  walk_at "rd"
  rcases hC with rfl | rfl
  ·exact⟨p,_,dx,_,_,rfl,f,T.cl_LH,T.n_Plain_own_text,gt,q⟩
  ·exact⟨p,_,dx,_,_,rfl,f,T.cl_LI,T.n_Strip_own_text,gt,q⟩
theorem ZcO:FnScope ["self","length"] ["self","length"] (Zag Zbk):=by walk_at "sc"
theorem ZcQ (T:TL K mg base a tb):FnOk P w K mg base CX0 1 a.g_NoLength_init a.e_NoLength_init ["self","length"] (ZdL K a.c_KY 1 (fs1 "length")):=by
 refine T.fi_KY.ok ZcO (fun vs H Q E h=>?_) (fun cdv A outer s H vs Q E hr h=>?_)
 ·obtain⟨e,r,rfl,hl,_⟩:=h;simp[hl]
 ·have hu64:=hr.units
  have hu1:=ZaM hr
  obtain⟨e,r,rfl,hl,he,q⟩:=h
  obtain⟨x,rfl⟩:∃x,r=[x]:=by match r,hl with | [x],_=>exact⟨x,rfl⟩
  refine⟨_,(Zac (ZaX (Zge rfl T.m_KT T.r_KT (Zaa (pv 0) (Zaa (ZaQ (l:=[116,104,105,115,32,105,115,32,110,111,32,108,101,110,103,116,104,32,111,102,32,119,111,114,100,115,32,111,102,32,116,104,101,32,115,116,114,105,112]) (by decide +kernel)) Zab))))
   (Zad (ZhF (pv 0) (pv 1) rfl))),?_⟩
  walk_at "rd"
  refine⟨e,a.c_KY,none,_,rfl,he,T.x_KY,(by show 1≤1000;decide),e,a.c_KY,[],rfl,.bare he,T.x_KY.c,T.n_NoLength_length,(by show 0<1000;decide),fun H1 x1 k1 _=>?_⟩
  exact q H1 x1 fun b o hb hne=>k1 b o hb hne fun d hd=>by rw[he]at hd;exact absurd hd Zlr
theorem Zoe:FnScope ["_law_script","_law_k"] ["_law_script","_law_k"] (Zag s_LL):=by walk_at "sc"
theorem ZhO (T:TL K mg base a tb):FnOk P w K mg base CX0 1 a.f_LL a.d_LL ["_law_script","_law_k"] (ZnI K a):=by
 refine T.f_LL.ok Zoe (fun vs H Q E h=>?_) (fun cdv A outer s H vs Q E hr h=>?_)
 ·obtain⟨_,_,_,rfl,_⟩:=h;rfl
 ·have hu64:=hr.units
  have hu1:=ZaM hr
  obtain⟨b,ns,k,rfl,hS,hk,hk1,q⟩:=h
  refine⟨_,(Zac (ZaW (ZaG Zmd (pv 1) (Zah (Zas (K:=K) rfl) rfl T.z_len ZaN (Zaa (pv 0) Zab)) (Zax _)) (Zad (Zar (ZdF (Zgp (K:=K) rfl) (pv 0) (pv 1) (fun _ _=>rfl)))) Zat)
   (Zad (Zar (Zau Za0 (Zau Zdj Zak (pv 1)) Zak)))),?_⟩
  walk_at "rd"
  refine⟨_,_,rfl,.inl ⟨_,hS,rfl⟩,?_⟩
  rw[YAD]
  refine ite2 (fun h=>?_) (fun h=>?_)
  ·have h':k<ns.length:=of_decide_eq_true h
   exact⟨b,_,k,_,rfl,rfl,hS,Zln hk h',q _⟩
  ·exact⟨.inl ⟨by decide,by decide⟩,q _⟩
theorem Zkn:FnScope ["_law_cell_here","_law_k","_law_number"] ["_law_cell_here","_law_k"] (Zag s_LO):=by walk_at "sc"
theorem Zi0 (T:TL K mg base a tb):FnOk P w K mg base CX0 1 a.f_LO a.d_LO ["_law_cell_here","_law_k"] (ZnF K a):=by
 refine T.f_LO.ok Zkn (fun vs H Q E h=>?_) (fun cdv A outer s H vs Q E hr h=>?_)
 ·obtain⟨_,_,rfl,_⟩:=h;rfl
 ·have hu64:=hr.units
  have hu1:=ZaM hr
  obtain⟨c,k,rfl,q⟩:=h
  refine⟨_,(Zac (Zaw (i:=2) Zkn.nd rfl (Or.inl rfl) (Zau Zbc (Zau Za0 (Zau Za0 (Zau Zdj (Zau Zbc (pv 0) Zak) Zak) (Zau Zdj (pv 1) Zak)) Zak) Zak))
   (Zac (Zaw (i:=2) Zkn.nd rfl (Or.inl rfl) (Zau Zbc (Zau Za0 (Zau Za0 (Zau Zdj (Zau Zbc (Zau Zdj (pv 2) (pv 2)) Zak) Zak) (Zau Zdj (pv 1) Zak)) Zak) Zak))
   (Zad (Zar (Zau Zbc (Zau Zdj (pv 2) (pv 2)) Zak))))),?_⟩
  walk_at "rd"
  exact⟨by decide,.inr ⟨by decide,by decide⟩,.inr ⟨by decide,by decide⟩,by decide,cm (by decide) (by decide),by decide,.inr ⟨by decide,by decide⟩,.inr ⟨by decide,by decide⟩,by decide,cm (by decide) (by decide),by decide,q _ (YBx _ (by decide))⟩
theorem ZgM:FnScope ["_law_cell_here","_law_letters_here","_law_found","_law_left","_law_k"] ["_law_cell_here"] (Zag s_LB):=by walk_at "sc"
theorem ZoW (T:TL K mg base a tb):FnOk P w K mg base CX0 1 a.f_LB a.d_LB ["_law_cell_here"] (ZnQ K a):=by
 refine T.f_LB.ok ZgM (fun vs H Q E h=>?_) (fun cdv A outer s H vs Q E hr h=>?_)
 ·obtain⟨_,rfl,_⟩:=h;rfl
 ·have hu64:=hr.units
  have hu1:=ZaM hr
  obtain⟨c,rfl,q⟩:=h
  refine⟨_,(Zac (Zaw (i:=1) ZgM.nd rfl (Or.inl rfl) (Zbm (ZbV rfl) rfl T.z_list Zbw (Zaa (ZaQ (l:=[97,98,99,100,101,102,103,104,105,106,107,108,109,110,111,112,113,114,115,116,117,118,119,120,121,122]) (by decide +kernel)) Zab)))
   (Zac (Zaw (i:=2) ZgM.nd rfl (Or.inl rfl) (Zdh Zab))
   (Zac (Zaw (i:=3) ZgM.nd rfl (Or.inl rfl) (Zau Zbo (pv 0) Zak))
   (Zac (Zbs YBJ rfl (Zbz rfl T.z_range (Zaa (Zau Za0 Zak (Zau Zbc (pv 0) Zak)) Zab)) (ZaC (i:=4) ZgM.nd rfl (Or.inl rfl))
   (Zac (ZaX (ZeM YBH YCL YCK ZbA (pv 2) (Zaa (ZeM YBH PySem.F.slot_list_pop PySem.F.type_list_pop Zi8 (pv 1) (Zaa (Zau Zbc (pv 3) (Zah (Zas (K:=K) rfl) rfl T.z_len ZaN (Zaa (pv 1) Zab))) Zab)) Zab)))
   (Zad (Zaw (i:=3) ZgM.nd rfl (Or.inl rfl) (Zau Zbo (pv 3) Zak)))))
   (Zad (Zar (ZeM PySem.F.plainAttrs_str PySem.F.slot_str_join PySem.F.type_str_join ZkK (ZaQ (l:=[]) (by decide +kernel)) (Zaa (Zah (Zcx rfl) rfl T.z_sorted ZbW (Zaa (pv 2) Zab)) Zab)))))))),?_⟩
  walk_at "rd"
  refine⟨LET,rfl,by decide,NewL.at fun p1 n1=>⟨YBI _,NewL.at fun p2 n2=>?_⟩⟩
  have n2':H p2=none:=(ZaF n1).free n2
  have ne:p1≠p2:=fun e=>by rw[←e,Zae]at n2;cases n2
  have b1:=YBx c (show (4:Int)≠0 by decide)
  have b2:=YBp c (show (0:Int)<4 by decide)
  generalize c % 4=c4 at b1 b2
  refine⟨⟨by decide,by decide⟩,by decide,_,rfl,by omega,by omega,ForRun.range (fun i σ H'=>Same H H'∧∃(L F:List Nat) (le:Int) (v4:Option V),σ=[some (.int c),some (.ref p1),some (.ref p2),some (.int le),v4]∧H' p1=some (.lst ((signs L).map tx))∧H' p2=some (.lst ((signs F).map tx))∧(L++F).Perm LET∧F.length=i) ?_ ?_ ?_⟩
  ·exact⟨(ZaF n1).trans (ZaF n2),LET,[],_,none,rfl,by rw[Zaf ne];exact Zae,Zae,by rw[YCh],rfl⟩
  ·rintro i σ H1 hi ⟨s1,L,F,le,v4,rfl,h1,h2,pm,lf⟩
   have hi4:i<4:=by omega
   have ll:=pm.length_eq
   have l26:LET.length=26:=rfl
   rw[YAI,l26]at ll
   have sl:((signs L).map tx).length=L.length:=by unfold signs;rw[YAD,YAD]
   walk_at "rd"
   have lx0:(0:Int)<(L.length:Nat):=by omega
   have m0:=YBx le (show ((L.length:Nat):Int)≠0 by omega)
   have m1:=YBp le lx0
   refine⟨.inl ⟨rfl,_,.mk h2⟩,.inl ⟨rfl,_,.mk h1⟩,_,_,rfl,.inl ⟨_,.mk h1,rfl⟩,?_⟩
   rw[sl]
   generalize hk:le % ((L.length:Nat):Int)=k at m0 m1
   have kl:k.toNat<L.length:=by omega
   refine⟨lx0,p1,(signs L).map tx,k,k.toNat,tx [L[k.toNat]],rfl,rfl,h1,by omega,by omega,?_,?_,?_⟩
   ·rw[sl]
    have nk:¬k<0:=by omega
    simp[seqIndex?,nk,m0,m1]
   ·unfold signs
    rw[YBa,YAk,YAL kl]
    rfl
   refine⟨p2,(signs F).map tx,tx [L[k.toNat]],rfl,rfl,by rw[Zaf (YAw ne)];exact h2,by unfold signs;rw[YAD,YAD,sizeLine_eq];omega,?_⟩
   refine⟨⟨by decide,by decide⟩,same_upd3 (same_upd3 s1 n1) n2',L.eraseIdx k.toNat,F++[L[k.toNat]],_,_,rfl,?_,?_,?_,by simp[lf]⟩
   ·rw[Zaf ne,Zae]
    unfold signs
    rw[Zdm,Zdm]
   ·rw[Zae]
    unfold signs
    simp
   ·have p3:=Zbj L k.toNat kl
    have p4:(L.eraseIdx k.toNat++(F++[L[k.toNat]])).Perm ((L[k.toNat]::L.eraseIdx k.toNat)++F):=by
     rw[←YAh]
     exact List.perm_append_comm
    exact(p4.trans (p3.append_right F)).trans pm
  ·rintro σ H1 ⟨s1,L,F,le,v4,rfl,h1,h2,pm,lf⟩
   walk_at "rd"
   have nd:(L++F).Nodup:=pm.nodup_iff.mpr (by decide)
   have ndF:=(YDB.mp nd).2.1
   have sub:∀c∈F,c∈LET:=fun c hc=>pm.mem_iff.mp (YAz _ hc)
   obtain⟨k1,k2⟩:=Zg5 ndF sub (by omega) (by omega)
   have one:∀m∈ZaR (signs F),m.length=1:=fun m hm=>by
    obtain⟨c,_,rfl⟩:=YBX.mp ((Zay _).mem_iff.mp hm)
    rfl
   have sl:(signs F).length=F.length:=by unfold signs;rw[YAD]
   refine⟨rfl,p2,signs F,rfl,h2,by rw[sizeLine_eq];omega,NewL.of fun p3 H3 s3 n3 l3=>⟨[],p3,ZaR (signs F),rfl,rfl,l3,?_,?_⟩⟩
   ·rw[←List.length_flatten,k2,(Zay _).length_eq,sl]
    simp
    omega
   ·rw[Zgu]
    exact q _ H3 k1 (by omega) (by omega) (s1.trans s3)
theorem ZeF:FnScope ["_law_text_here","_law_length","_law_words","_law_best","_law_word"] ["_law_text_here","_law_length"] (Zag Zks):=by walk_at "sc"
theorem Zmg (T:TL K mg base a tb):FnOk P w K mg base CX0 1 a.f_due a.d_due ["_law_text_here","_law_length"] (ZlK K a):=by
 refine T.f_due.ok ZeF (fun vs H Q E h=>?_) (fun cdv A outer s H vs Q E hr h=>?_)
 ·obtain⟨_,_,rfl,_⟩:=h;rfl
 ·have hu64:=hr.units
  have hu1:=ZaM hr
  obtain⟨l,n,rfl,l40,n1,hn,q⟩:=h
  refine⟨_,(Zac (Zaw (i:=2) ZeF.nd rfl (Or.inl rfl) (Zah (Zcx rfl) rfl T.z_sorted ZbW (Zaa (ZbQ (N:=["_law_start","_law_length","_law_text_here"]) (ix:=[none,some 1,some 0]) rfl (Zbi rfl) rfl (Zbz rfl T.z_range (Zaa (Zau Za0 (Zau ZdR (Zah (Zas (K:=K) rfl) rfl T.z_len ZaN (Zaa (pv 0) Zab)) (pv 1)) Zak) Zab)) (fun _ _ _ _=>(ZaC (i:=0) (show (["_law_start","_law_length","_law_text_here"]:List Str).Nodup from by decide +kernel) rfl (Or.inl rfl) (Or.inr rfl))) (fun _ _ _ _=>ZbZ) (fun _ _ _ _=>(ZaH ZbJ (pv 2) (ZaO (pv 0)) (ZaO (Zau Za0 (pv 0) (pv 1)))))) Zab)))
   (Zaj (Zac (Zaw (i:=3) ZeF.nd rfl (Or.inl rfl) (Zbl (Zaa (ZaQ (l:=[]) (by decide +kernel)) (Zaa Zak Zab))))
   (Zaj (Zac (Zbs YBJ rfl (Zbh (K:=K) rfl (pv 2)) (ZaC (i:=4) ZeF.nd rfl (Or.inl rfl))
   (Zad (ZaW (ZaG ZiZ (Zgi (K:=K) rfl YBH PySem.F.slot_list_count PySem.F.type_list_count Zgo (pv 2) (Zaa (pv 4) Zab)) (ZdF (Zdp (K:=K) rfl) (pv 3) Zak (fun _ _=>rfl)) (Zax _)) (Zad (Zaw (i:=3) ZeF.nd rfl (Or.inl rfl) (Zbl (Zaa (pv 4) (Zaa (Zgi (K:=K) rfl YBH PySem.F.slot_list_count PySem.F.type_list_count Zgo (pv 2) (Zaa (pv 4) Zab)) Zab))))) Zat)))
   (Zaj (Zad (Zar (pv 3))))))))),?_⟩
  have sz:∀k:Nat,k≤9000→k≤sizeLine:=fun k h=>YAQ h (by rw[sizeLine_eq];decide)
  walk_at "rd"
  refine⟨_,_,rfl,Zbf (by omega),_,rfl,by omega,by omega,?_⟩
  have en:((l.length:Int)-(n:Int)+1).toNat=l.length+1-n:=by omega
  rw[en]
  refine CompRun.rangeA (fun i=>tx ((l.drop i).take n)) (by omega) ?_ ?_
  ·intro i H1 Q1 hi s1 q1
   have e1:(0+(i:Int))=((i:Nat):Int):=by omega
   have e2:((i:Nat):Int)+(n:Nat)=((i+n:Nat):Int):=by omega
   walk_at "rd"
   refine⟨_,rfl,_,rfl,l,rfl,sz _ (by omega),?_⟩
   rw[e1,e2,Zip,show i+n-i=n by omega]
   exact q1 H1 (Same.refl _)
  ·intro p1 H1 s1 n1 l1
   have el:(List.range (l.length+1-n)).map (fun i=>tx ((l.drop i).take n))=(Zcz l n).map tx:=by unfold Zcz;rw[YBa];rfl
   rw[el]at l1
   have al:(Zcz l n).length≤41:=by unfold Zcz;rw[YAD,YBb];omega
   refine⟨p1,Zcz l n,rfl,l1,sz _ (by omega),NewL.of fun p2 H2 s2 n2 l2=>Zal ?_⟩
   have srt:=Za2 (Zcz l n)
   have cnt:∀w,w.length=n→(ZaR (Zcz l n)).count w=cntW l w:=fun w h=>ZfV h
   have mem:∀w,w∈ZaR (Zcz l n)↔w.length=n∧Inf w l:=fun w=>by rw[(Zay _).mem_iff];exact ZhT hn
   have sl:(ZaR (Zcz l n)).length≤41:=by rw[(Zay _).length_eq];exact al
   generalize ZaR (Zcz l n)=ws at l2 srt cnt mem sl
   have s02:=s1.trans s2
   walk_at "rd"
   refine⟨sz _ (by decide),NewT.of fun t3 H3 s3 n3 l3=>Zal ?_⟩
   have s03:=s02.trans s3
   walk_at "rd"
   refine⟨p2,rfl,⟨_,.mk (s3 _ _ l2)⟩,ForRun.list (xs:=ws.map tx) (fun i σ H'=>∃tb b c v4,σ=[some (tx l),some (.int (n:Nat)),some (.ref p2),some (.ref tb),v4]∧Same H3 H'∧H' tb=some (.tup [tx b,.int (c:Nat)])∧Best l (ws.take i) b c) ⟨t3,[],0,_,rfl,Same.refl _,l3,.inl ⟨rfl,rfl,rfl⟩⟩ (fun i σ H' _ ⟨_,_,_,_,_,s',_⟩=>.mk (s' _ _ (s3 _ _ l2))) ?_ ?_⟩
   ·rintro i x σ H4 hx ⟨tb,b,c,v4,rfl,s4,ht,bs⟩
    rw[YAk]at hx
    obtain⟨w,hw,rfl⟩:=Option.map_eq_some_iff.mp hx
    have wm:=(mem w).mp (YAe hw)
    have tks:=List.take_add_one (l:=ws) (i:=i)
    rw[hw]at tks
    have l24:=s4 _ _ (s3 _ _ l2)
    walk_at "rd"
    refine⟨.inl ⟨rfl,_,.mk l24⟩,p2,ws,w,rfl,rfl,l24,tb,_,_,_,rfl,rfl,.mk ht,rfl,_,_,rfl,rfl,_,rfl,ite2 (fun h=>?_) (fun h=>?_)⟩
    ·have h':=of_decide_eq_true h
     rw[cnt w wm.1]at h'
     refine⟨.inl ⟨rfl,_,.mk l24⟩,p2,ws,w,rfl,rfl,l24,sz _ (by decide),NewT.of fun t5 H5 s5 n5 l5=>⟨t5,w,cntW l w,_,rfl,s4.trans s5,by rw[l5,cnt w wm.1],?_⟩⟩
     rw[tks]
     exact bs.new (by omega)
    ·have h':¬c<cntW l w:=fun z=>h (decide_eq_true (by rw[cnt w wm.1];omega))
     refine⟨tb,b,c,_,rfl,s4,ht,?_⟩
     rw[tks]
     refine bs.old (by omega) (Zjw wm.2) fun x hx lt=>?_
     obtain⟨k,hk,ek⟩:=List.mem_iff_getElem.mp hx
     rw[YAV]at hk
     rw[List.getElem_take]at ek
     obtain⟨hi1,hi2⟩:=YAW.mp hw
     have:=YCG.mp srt k i (by omega) hi1 (by omega)
     rw[ek,hi2]at this
     exact absurd lt (YDA.mpr (Zbq.mp this))
   ·rintro σ H4 ⟨tb,b,c,v4,rfl,s4,ht,bs⟩
    rw[YAD,YCU]at bs
    walk_at "rd?"
    refine Zal ?_
    walk_at "rd"
    rcases bs with⟨e,_⟩|⟨hb,e,h⟩
    ·have:l.take n∈ws:=(mem _).mpr ⟨by rw[YAV];omega,⟨0,by rw[YAV];omega,by rw[YBU,YAV,YBg hn]⟩⟩
     rw[e]at this;cases this
    ·have bm:=(mem b).mp hb
     rw[e]at ht
     exact q tb b H4 (s03.trans s4) ht ⟨bm.1,bm.2,fun x hx hi=>h x ((mem x).mpr ⟨hx,hi⟩)⟩
theorem Zoo:FnScope ["self","text","kinds"] ["self","text","kinds"] (Zag s_KR):=by walk_at "sc"
theorem Zmo (T:TL K mg base a tb):FnOk P w K mg base CX0 1 a.g_KR a.e_KR ["self","text","kinds"] (ZnX K a):=by
 refine T.fm_KR.ok Zoo (fun vs H Q E h=>?_) (fun cdv A outer s H vs Q E hr h=>?_)
 ·obtain⟨_,_,_,_,_,rfl,_⟩:=h;rfl
 ·have hu64:=hr.units
  have hu1:=ZaM hr
  obtain⟨p,dx,C,l,m,rfl,hC,hp,q⟩:=h
  refine⟨_,(Zac (ZdP (pv 0) (pv 1) rfl)
   (Zad (ZdP (pv 0) (pv 2) rfl))),?_⟩
  walk_at "rd"
  rcases hC with rfl | rfl
  ·exact⟨p,a.c_LH,dx,[],rfl,hp,T.cl_LH,T.n_Plain_own_text,(by show 0<1000;decide),p,a.c_LH,dx,_,rfl,Zae,T.cl_LH,T.n_Plain_own_kinds,(by show 1<1000;decide),q _ Zae (fun b o e ne=>by rw[Zaf ne,Zaf ne];exact e)⟩
  ·exact⟨p,a.c_LI,dx,[],rfl,hp,T.cl_LI,T.n_Strip_own_text,(by show 0<1000;decide),p,a.c_LI,dx,_,rfl,Zae,T.cl_LI,T.n_Strip_own_kinds,(by show 1<1000;decide),q _ Zae (fun b o e ne=>by rw[Zaf ne,Zaf ne];exact e)⟩
theorem Zoz:FnScope ["thing"] ["thing"] (Zag s_K1):=by walk_at "sc"
theorem Zo5 (T:TL K mg base a tb):FnOk P w K mg base CX0 2 a.f_K1 a.d_K1 ["thing"] (Zoc K a):=by
 refine T.f_K1.ok Zoz (fun vs H Q E h=>?_) (fun cdv A outer s H vs Q E hr h=>?_)
 ·obtain⟨_,rfl,_⟩:=h;rfl
 ·have hu64:=hr.units
  have hu1:=ZaM hr
  obtain⟨v,rfl,q⟩:=h
  refine⟨_,(Zac (ZaW (Zbg (ZaZ (Zah (Zam (K:=K) rfl) rfl T.z_isinstance Zai (Zaa (pv 0) (Zaa (Zaz (v:=.ty "str") rfl T.z_str Zd3 rfl) Zab))))) (Zad (Zar Zbv)) Zat)
   (Zac (ZaW (PW.pt (ZgO (ZaG Zmd (Zah (Zas (K:=K) rfl) rfl T.z_len ZaN (Zaa (pv 0) Zab)) Zak (Zax _)) (ZdO (ZaG ZiZ (Zah (Zas (K:=K) rfl) rfl T.z_len ZaN (Zaa (pv 0) Zab)) (ZcW rfl T.c_KJ) (Zax _))))) (Zad (Zar Zbv)) Zat)
   (Zad (Zar (Zbn (Zao (Zmk T) (hr.mono (by decide)) rfl T.m_KZ T.f_KZ.kp T.b_KZ .nil Zav (Zaa (pv 0) (Zaa (ZiY rfl T.c_KC) Zab))) (ZbP (ZaK (Zba (K:=K) rfl hu64) (Zbm (ZbV rfl) rfl T.z_list Zbw (Zaa (pv 0) Zab)) (Zah (ZbU rfl) rfl T.z_sorted ZbW (Zaa (Zbm (Zcd rfl) rfl T.z_set Ziv (Zaa (pv 0) Zab)) Zab)) (Zax _)))))))),?_⟩
  walk_at "rd"
  rcases q with⟨l,rfl,hl,q⟩|⟨⟨T0,_,ty,kt,_⟩,q⟩
  ·refine⟨_,_,_,_,true,rfl,rfl,.ty (.pl (.str _)),ZbI,iteF ?_⟩
   refine⟨_,_,rfl,Zbf hl,?_⟩
   refine ite2 (fun h=>iteT' ?_) (fun h=>?_)
   ·have h1:¬1≤l.length:=by have:=of_decide_eq_true h;omega
    have e:=q H (Same.refl _)
    unfold isk at e
    rw[decide_eq_false h1,YBY,YBY,YBY]at e
    exact e
   ·have h1:1≤l.length:=by have:¬((l.length:Nat):Int)<1:=fun z=>h (decide_eq_true z);omega
    refine⟨_,_,rfl,Zbf hl,?_⟩
    refine ite2 (fun h'=>?_) (fun h'=>?_)
    ·have h4:¬l.length≤4:=by have:=of_decide_eq_true h';omega
     have e:=q H (Same.refl _)
     unfold isk at e
     rw[decide_eq_false h4,YCY,YBY,YBY]at e
     exact e
    ·have h4:l.length≤4:=by have:¬4<((l.length:Nat):Int):=fun z=>h' (decide_eq_true z);omega
     refine⟨l,LET,by rw[ZkQ],hl,fun H2 s2=>⟨_,rfl,?_⟩⟩
     refine ite2 (fun ha=>?_) (fun ha=>?_)
     ·refine⟨l,rfl,hl,NewL.of fun p1 H3 s3 n3 l3=>?_⟩
      refine⟨signs l,by rw[signs_length];exact hl,.inl ⟨l,rfl,rfl⟩,fun p4 n4=>?_⟩
      refine⟨p4,ddl (signs l),rfl,Zae,YCE (Zlh l) (by omega),NewL.of fun p5 H5 s5 n5 l5=>?_⟩
      refine Znd (.mk ((ZaF n4).trans s5 _ _ l3)) (.mk l5) ?_
      have e:=q H5 (s2.trans (s3.trans ((ZaF n4).trans s5)))
      unfold isk at e
      rw[decide_eq_true h1,decide_eq_true h4,ha,YBr,YBr,YBr]at e
      exact e
     ·have e:=q H2 s2
      unfold isk at e
      rw[YBu.mpr ha,YCY,YBY]at e
      exact e
  ·exact⟨_,_,_,_,false,rfl,rfl,.ty ty,kt,iteT q⟩
theorem Zoy:FnScope ["thing","kinds","most"] ["thing","kinds","most"] (Zag s_K5):=by walk_at "sc"
theorem Zmx (T:TL K mg base a tb):FnOk P w K mg base CX0 2 a.f_K5 a.d_K5 ["thing","kinds","most"] (Zoa K a):=by
 refine T.f_K5.ok Zoy (fun vs H Q E h=>?_) (fun cdv A outer s H vs Q E hr h=>?_)
 ·obtain⟨_,_,_,rfl,_⟩:=h;rfl
 ·have hu64:=hr.units
  have hu1:=ZaM hr
  obtain⟨v,m,most,rfl,q⟩:=h
  refine⟨_,(Zad (Zar (Zbn (Zah (Zam (K:=K) rfl) rfl T.z_isinstance Zai (Zaa (pv 0) (Zaa (Zaz (v:=.ty "str") rfl T.z_str Zd3 rfl) Zab))) (Zbn (ZaK ZkG (Zah (Zas (K:=K) rfl) rfl T.z_len ZaN (Zaa (pv 0) Zab)) (pv 2) (Zax _)) (ZbP (Zao (Zmk T) (hr.mono (by decide)) rfl T.m_KZ T.f_KZ.kp T.b_KZ .nil Zav (Zaa (pv 0) (Zaa (pv 1) Zab)))))))),?_⟩
  walk_at "rd"
  rcases q with⟨l,rfl,hl,q⟩|⟨⟨T0,_,ty,kt,_⟩,q⟩
  ·refine⟨_,_,_,_,true,rfl,rfl,.ty (.pl (.str _)),ZbI,iteT ?_⟩
   refine⟨_,_,rfl,Zbf hl,?_⟩
   refine ite2 (fun h=>?_) (fun h=>?_)
   ·refine⟨l,m,rfl,hl,fun H2 s2=>?_⟩
    have e:=q H2 s2
    unfold isw at e
    rw[h,YBr]at e
    exact e
   ·have e:=q H (Same.refl _)
    unfold isw at e
    rw[YBu.mpr h,YBY]at e
    exact e
  ·exact⟨_,_,_,_,false,rfl,rfl,.ty ty,kt,iteF q⟩
theorem Zou:FnScope ["self","length"] ["self","length"] (Zag s_KH):=by walk_at "sc"
theorem Zmr (T:TL K mg base a tb):FnOk P w K mg base CX0 2 a.g_KH a.e_KH ["self","length"] (ZlL K a):=by
 refine T.fm_KH.ok Zou (fun vs H Q E h=>?_) (fun cdv A outer s H vs Q E hr h=>?_)
 ·obtain⟨_,_,_,_,rfl,_⟩:=h;rfl
 ·have hu64:=hr.units
  have hu1:=ZaM hr
  obtain⟨p,l,m,n,rfl,hp,l40,hn,q⟩:=h
  refine⟨_,(Zad (Zar (Zao (ZoU T) (hr.mono (by decide)) rfl T.m_LE T.f_LE.kp T.b_LE .nil Zav (Zaa (Zdg (Zbe (pv 0) T.cl_LH T.me_Plain_laid_out (Zmv T) (hr.mono (by decide)) T.b_KA .nil Zav (Zaa (pv 1) Zab)) (Zbe (pv 0) T.cl_LI T.me_Strip_laid_out (Zmv T) (hr.mono (by decide)) T.b_KA .nil Zav (Zaa (pv 1) Zab))) (Zaa (pv 1) Zab))))),?_⟩
  have bt:=hp
  obtain⟨C,dx,fs,hC,f,gt,gk,n1,n2,n3,n4,n5⟩:=hp
  walk_at "rd"
  have tt:∀ {Q':VK},Q' (tx l) H→ZlN K a [.ref p,.int (n:Nat)] H Q' E0:=fun hq=>⟨p,l,n,rfl,bt.text,hq⟩
  refine Zcg hC f n4 (tt ?_) (tt ?_)
  all_goals exact⟨l,n,rfl,by omega,by omega,q⟩
theorem Zko:FnScope ["lesser","longer","edges","size"] ["lesser","longer"] (Zag s_LJ):=by walk_at "sc"
theorem Zmh (T:TL K mg base a tb):FnOk P w K mg base CX0 2 a.f_LJ a.d_LJ ["lesser","longer"] (ZnK K a):=by
 refine T.f_LJ.ok Zko (fun vs H Q E h=>?_) (fun cdv A outer s H vs Q E hr h=>?_)
 ·obtain⟨_,_,rfl,_⟩:=h;rfl
 ·have hu64:=hr.units
  have hu1:=ZaM hr
  obtain⟨s_,L,rfl,hL,ex,tk,q⟩:=h
  refine⟨_,(Zac (Zaw (i:=2) Zko.nd rfl (Or.inl rfl) (Zdh Zab))
   (Zaj (Zac (Zbs YBJ rfl (ZeL rfl T.z_range (Zaa Zak (Zaa (Zau Za0 (Zah (Zas (K:=K) rfl) rfl T.z_len ZaN (Zaa (pv 1) Zab)) Zak) Zab))) (ZaC (i:=3) Zko.nd rfl (Or.inl rfl))
   (Zac (ZaX (ZeM YBH YCL YCK ZbA (pv 2) (Zaa (ZaH ZbJ (pv 1) Za5 (ZaO (pv 3))) Zab)))
   (Zad (ZaX (ZeM YBH YCL YCK ZbA (pv 2) (Zaa (ZaH ZbJ (pv 1) (ZaO (Zau ZdR (Zah (Zas (K:=K) rfl) rfl T.z_len ZaN (Zaa (pv 1) Zab)) (pv 3))) Za5) Zab))))))
   (Zaj (Zad (Zar (Zao (ZkH T) (hr.mono (by decide)) rfl T.m_K0 T.f_K0.kp T.b_K0 .nil Zav (Zaa (Zah (ZcS rfl) rfl T.z_sorted ZbW (Zaa (Zbm (Zcd rfl) rfl T.z_set Ziv (Zaa (ZbQ (N:=["word","lesser"]) (ix:=[none,some 0]) rfl (Zbi rfl) rfl (Zbh (K:=K) rfl (pv 2)) (fun _ _ _ _=>(ZaC (i:=0) (show (["word","lesser"]:List Str).Nodup from by decide +kernel) rfl (Or.inl rfl) (Or.inr rfl))) (fun _ _ _ _=>(Zd8 (ZaG Zdi (pv 0) (pv 1) rfl))) (fun _ _ _ _=>(pv 0))) Zab)) Zab)) Zab)))))))),?_⟩
  have sz:∀k:Nat,k≤9000→k≤sizeLine:=fun k h=>YAQ h (by rw[sizeLine_eq];decide)
  walk_at "rd"
  refine⟨YBI _,NewL.of fun pe H1 s1 ne le=>?_⟩
  refine Zal ?_
  walk_at "rd"
  refine⟨_,_,rfl,Zbf (by omega),_,_,rfl,⟨by decide,by decide,by omega,by omega⟩,?_⟩
  have ej:((L.length:Int)+1-1).toNat=L.length:=by omega
  rw[ej]
  refine ForRun.range (fun i σ H'=>∃v3,σ=[some (tx s_),some (tx L),some (.ref pe),v3]∧Same H H'∧H' pe=some (.lst ((ZaY L i).map tx))) ⟨_,rfl,s1,le⟩ ?_ ?_
  ·rintro i σ H2 hi ⟨v3,rfl,s2,h2⟩
   have el:=Zcv L i
   have e1:(1+(i:Int))=((i+1:Nat):Int):=by omega
   have e2:(L.length:Int)-(1+(i:Int))=((L.length-(i+1):Nat):Int):=by omega
   walk_at "rd"
   refine⟨.inl ⟨rfl,_,.mk h2⟩,_,rfl,L,rfl,sz _ (by omega),pe,_,_,rfl,rfl,h2,by rw[YAD];exact sz _ (by omega),.inl ⟨rfl,_,.mk Zae⟩,_,_,rfl,Zbf (by omega),_,rfl,L,rfl,sz _ (by omega),pe,_,_,rfl,rfl,Zae,by rw[YAI,YAD];exact sz _ (by rw[YAu];omega),_,rfl,?_,?_⟩
   ·exact same_upd3 (same_upd3 s2 ne) ne
   ·rw[Zae,e1,Zfk,←e1,e2,Zb2,ZdZ,YCO,YAh]
    rfl
  ·rintro σ H2 ⟨v3,rfl,s2,h2⟩
   walk_at "rd?"
   refine Zal ?_
   walk_at "rd"
   have el:=Zcv L L.length
   refine⟨pe,rfl,⟨_,.mk h2⟩,CompRun.listL (xs:=(ZaY L L.length).map tx) (fun i=>!infB ((ZaY L L.length).getD i []) s_) (fun i=>tx ((ZaY L L.length).getD i [])) (by rw[YAD];omega) (.mk h2) ?_ ?_ ?_⟩
   ·intro i H3 Q3 hi s3 q3
    rw[YAD]at hi
    rw[Zdt hi]
    walk_at "rd"
    exact⟨_,_,rfl,rfl,q3 H3 (Same.refl _)⟩
   ·intro i H3 Q3 hi _ s3 q3
    rw[YAD]at hi
    rw[Zdt hi]
    walk_at "rd"
    exact q3 H3 (Same.refl _)
   ·intro p3 H3 s3 n3 l3
    have eh:((List.range ((ZaY L L.length).map tx).length).filter fun i=>!infB ((ZaY L L.length).getD i []) s_).map (fun i=>tx ((ZaY L L.length).getD i []))=((ZaY L L.length).filter fun v=>!infB v s_).map tx:=by
     rw[YAD,←ZdY (fun v=>!infB v s_) [] (ZaY L L.length),YBa]
     rfl
    rw[eh]at l3
    have fl:=YBQ (fun v=>!infB v s_) (ZaY L L.length)
    generalize hF:(ZaY L L.length).filter (fun v=>!infB v s_)=F0 at l3 fl
    have mF:∀w,w∈F0↔Frs s_ L w:=fun w=>by
     rw[←hF,YBv,ZeX,Zid ex,Bool.not_eq_true',Zgs]
    have dl:=Zni F0
    refine⟨F0,by omega,.inr ⟨p3,rfl,.mk l3⟩,fun p4 n4=>⟨p4,_,rfl,Zae,sz _ (by omega),NewL.of fun p5 H5 s5 n5 l5=>?_⟩⟩
    have s25:Same H H5:=s2.trans (s3.trans ((ZaF n4).trans s5))
    have pm0:=Zay (ddl F0)
    refine⟨p5,_,rfl,l5,fun w hw=>?_,tk.same s25,fun ws r H6 pm pw sl tk6 nr lr=>?_⟩
    ·have:=((mF w).mp (ZfH.mp (pm0.mem_iff.mp hw))).1.len
     omega
    ·refine q ws r H6 (Zcf pm pw (pm0.nodup_iff.mpr (ZhS F0))) (fun w=>?_) (fun b o e t=>sl _ _ (s25 _ _ e) t) tk6 ((Nw.of nr).same s25) lr
     rw[pm.mem_iff,pm0.mem_iff,ZfH,mF]
theorem ZeG:FnScope ["_law_cell_here","_law_kinds_here","_law_size","_law_digits","_law_found","_law_left","_law_k","_law_number"] ["_law_cell_here","_law_kinds_here","_law_size","_law_digits"] (Zag s_K6):=by walk_at "sc"
theorem Zo4 (T:TL K mg base a tb):FnOk P w K mg base CX0 2 a.f_K6 a.d_K6 ["_law_cell_here","_law_kinds_here","_law_size","_law_digits"] (Zn9 K a):=by
 refine T.f_K6.ok ZeG (fun vs H Q E h=>?_) (fun cdv A outer s H vs Q E hr h=>?_)
 ·obtain⟨_,_,_,_,rfl,_⟩:=h;rfl
 ·have hu64:=hr.units
  have hu1:=ZaM hr
  obtain⟨c,m,n,d,rfl,hm,h4,h0,h1,q⟩:=h
  refine⟨_,(Zac (Zaw (i:=4) ZeG.nd rfl (Or.inl rfl) (ZaQ (l:=[]) (by decide +kernel)))
   (Zac (Zaw (i:=5) ZeG.nd rfl (Or.inl rfl) (pv 0))
   (Zac (Zbs YBJ rfl (Zbz rfl T.z_range (Zaa (pv 2) Zab)) (ZaC (i:=6) ZeG.nd rfl (Or.inl rfl))
   (Zac (Zaw (i:=7) ZeG.nd rfl (Or.inl rfl) (Zao (Zi0 T) (hr.mono (by decide)) rfl T.m_LO T.f_LO.kp T.b_LO .nil Zav (Zaa (pv 0) (Zaa (Zau Za0 Zak (pv 6)) Zab))))
   (Zac (ZaW (PW.pt (ZjN (ZaZ (pv 3)) (ZhC (ZaG (Zco (K:=K) rfl) (pv 5) (Zbl (Zaa Zak (Zaa (ZkA Zhk Zak) Zab))) rfl)))) (Zac (Zaw (i:=7) ZeG.nd rfl (Or.inl rfl) (pv 5))
   (Zad (Zaw (i:=5) ZeG.nd rfl (Or.inl rfl) (Zau Zbo (pv 5) (Zah (Zas (K:=K) rfl) rfl T.z_len ZaN (Zaa (pv 1) Zab)))))) Zat)
   (Zad (Zaw (i:=4) ZeG.nd rfl (Or.inl rfl) (Zau Zbp (pv 4) (ZdF ZkX (pv 1) (Zau Zbc (pv 7) (Zah (Zas (K:=K) rfl) rfl T.z_len ZaN (Zaa (pv 1) Zab))) (fun _ _=>rfl))))))))
   (Zad (Zar (pv 4)))))),?_⟩
  walk_at "rd"
  refine⟨n,rfl,by omega,by omega,ForRun.range (fun i σ H'=>Same H H'∧∃(f:List Nat) (le:Int) (v6 v7:Option V),σ=[some (.int c),some (tx m),some (.int n),some (.bl d),some (tx f),some (.int le),v6,v7]∧f.length=i∧∀x∈f,x∈m) ⟨Same.refl _,[],c,none,none,rfl,rfl,fun x hx=>by cases hx⟩ ?_ ?_⟩
  ·rintro i σ H1 hi ⟨s1,f,le,v6,v7,rfl,hf,hfm⟩
   have hM:m.length≤1000:=by omega
   have sz:m.length≤sizeLine:=YAQ hM (by rw[sizeLine_eq];decide)
   have sf:f.length+1≤sizeLine:=by rw[sizeLine_eq];omega
   have pm:(0:Int)<m.length:=by omega
   have cd:CDiv le m.length:=⟨pm,by omega⟩
   have at_:∀x:Int,∃v,atI m (x % m.length)=some v∧v∈m:=fun x=>Zj6 (YBx _ (by omega)) (YBp _ pm)
   have mem:∀ {v:Nat},v∈m→∀x∈f++[v],x∈m:=fun hv x hx=>(YAf.mp hx).elim (hfm x) fun h=>by rw[YAX.mp h];exact hv
   walk_at "rd"
   refine⟨_,_,rfl,fun r hr=>?_⟩
   walk_at "rd"
   obtain⟨c1,hc1,k1⟩:=at_ r
   obtain⟨c2,hc2,k2⟩:=at_ le
   refine ite2 (fun h=>⟨by rw[sizeLine_eq];decide,NewT.of fun p2 H2 s2 n2 l2=>⟨p2,_,rfl,.inr (.mk l2),rfl,rfl,_,rfl,ite2 (fun h=>?_) (fun h=>?_)⟩⟩) (fun h=>iteF ?_)
   ·exact⟨_,_,rfl,Zbf hM,cd,_,_,rfl,Zbf hM,pm,m,_,c2,rfl,rfl,sz,hc2,sf,s1.trans s2,_,_,_,_,rfl,by simp[hf],mem k2⟩
   ·exact⟨_,_,rfl,Zbf hM,pm,m,_,c1,rfl,rfl,sz,hc1,sf,s1.trans s2,_,_,_,_,rfl,by simp[hf],mem k1⟩
   ·exact⟨_,_,rfl,Zbf hM,pm,m,_,c1,rfl,rfl,sz,hc1,sf,s1,_,_,_,_,rfl,by simp[hf],mem k1⟩
  ·rintro σ H1 ⟨s1,f,le,v6,v7,rfl,hf,hfm⟩
   walk_at "rd"
   exact q f H1 hf hfm s1
theorem Zkr:FnScope ["self","text","came","went","gone","kept"] ["self","text","came","went"] (Zag s_KD):=by walk_at "sc"
theorem Zmu (T:TL K mg base a tb):FnOk P w K mg base CX0 2 a.g_KD a.e_KD ["self","text","came","went"] (Zn7 K a):=by
 refine T.fm_KD.ok Zkr (fun vs H Q E h=>?_) (fun cdv A outer s H vs Q E hr h=>?_)
 ·obtain⟨_,_,_,_,_,_,_,_,_,_,_,_,_,_,rfl,_⟩:=h;rfl
 ·have hu64:=hr.units
  have hu1:=ZaM hr
  obtain⟨p,la,da,c,g,l,l2,m,old,new,ys,zs,rc,rg,rfl,hp,hla,hc,rwc,hg,rwg,ho,hn,nd,mc,mg_,lo,lc,lg,wo,wn,tk,q⟩:=h
  refine⟨_,(Zaj (Zac (Zaw (i:=4) Zkr.nd rfl (Or.inr rfl) (ZbQ (N:=["told"]) (ix:=[none]) rfl (Zbi rfl) rfl (Zbh (K:=K) rfl (pv 3)) (fun _ _ _ _=>(ZaC (i:=0) (show (["told"]:List Str).Nodup from by decide +kernel) rfl (Or.inl rfl) (Or.inr rfl))) (fun _ _ _ _=>ZbZ) (fun _ _ _ _=>(ZdF (Zdp (K:=K) rfl) (pv 0) Zak (fun _ _=>rfl)))))
   (Zaj (Zac (Zky (i:=5) (N:=["word","gone"]) (ix:=[none,some 4]) rfl Zkr.nd rfl rfl rfl (Zbi rfl) rfl (Zbh (K:=K) rfl (ZaJ (K:=K) rfl (pv 0) rfl)) (fun _ _ _ _=>(ZaC (i:=0) (show (["word","gone"]:List Str).Nodup from by decide +kernel) rfl (Or.inl rfl) (Or.inr rfl))) (fun _ _ _ _=>(Zd8 (ZaG (Zco (K:=K) rfl) (pv 0) (pv 1) rfl))) (fun _ _ _ _=>(pv 0)))
   (Zaj (Zac (ZdP (pv 0) (Zao (ZkH T) (hr.mono (by decide)) rfl T.m_K0 T.f_K0.kp T.b_K0 .nil Zav (Zaa (Zau Zme (pv 5) (ZbQ (N:=["told"]) (ix:=[none]) rfl (Zbi rfl) rfl (Zbh (K:=K) rfl (pv 2)) (fun _ _ _ _=>(ZaC (i:=0) (show (["told"]:List Str).Nodup from by decide +kernel) rfl (Or.inl rfl) (Or.inr rfl))) (fun _ _ _ _=>ZbZ) (fun _ _ _ _=>(ZdF (Zdp (K:=K) rfl) (pv 0) Zak (fun _ _=>rfl))))) Zab)) rfl)
   (Zaj (Zac (ZdP (pv 0) (pv 1) rfl)
   (Zad (Zar (Zbl (Zaa (pv 2) (Zaa (pv 3) Zab))))))))))))),?_⟩
  have sz:∀k:Nat,k≤30000→k≤sizeLine:=fun k h=>YAQ h (by rw[sizeLine_eq];decide)
  obtain⟨dx,f⟩:=hp
  walk_at "rd"
  refine Zal ?_
  walk_at "rd"
  have zl:=rwg.1
  have yl:=rwc.1
  refine⟨g,rfl,⟨_,.mk hg⟩,CompRun.listL (xs:=zs) (fun _=>true) (fun i=>tx ((rg.map (·.1)).getD i [])) (by omega) (.mk hg) (fun i H' Q' _ _ q=>q H' (Same.refl _)) ?_ ?_⟩
  ·intro i H1 Q1 hi _ s1 q1
   obtain⟨t,u,e1,e2⟩:=Zgb rwg hi
   rw[e1]
   walk_at "rd"
   exact⟨t,_,_,_,rfl,rfl,.mk (s1 _ _ e2),atI0,q1 H1 (Same.refl _)⟩
  ·intro pg H1 s1 n1 l1
   rw[Zir zl]at l1
   refine Zal ?_
   walk_at "rd"
   refine⟨p,_,dx,_,_,rfl,s1 _ _ f,T.cl_LI,T.n_Strip_own_lacking,ZiP,la,rfl,⟨_,.mk (s1 _ _ hla)⟩,CompRun.listL (xs:=old.map tx) (fun i=>!decide (old.getD i []∈rg.map (·.1))) (fun i=>tx (old.getD i [])) (by rw[YAD];omega) (.mk (s1 _ _ hla)) ?_ ?_ ?_⟩
   ·intro i H2 Q2 hi s2 q2
    rw[YAD]at hi
    rw[Zdt hi]
    walk_at "rd"
    refine⟨pg,_,rfl,.inl (.mk (s2 _ _ l1)),rfl,Zen _,_,rfl,?_⟩
    rw[YAO rfl,Zm3]
    exact q2 H2 (Same.refl _)
   ·intro i H2 Q2 hi _ s2 q2
    rw[YAD]at hi
    rw[Zdt hi]
    walk_at "rd"
    exact q2 H2 (Same.refl _)
   ·intro pk H2 s2 n2 l2k
    have eh:((List.range (old.map tx).length).filter fun i=>!decide (old.getD i []∈rg.map (·.1))).map (fun i=>tx (old.getD i []))=(old.filter fun v=>!decide (v∈rg.map (·.1))).map tx:=by
     rw[YAD,←ZdY (fun v=>!decide (v∈rg.map (·.1))) [] old,YBa]
     rfl
    have e2:(old.filter fun v=>!decide (v∈rg.map (·.1)))=old.filter fun v=>decide (v∉rg.map (·.1)):=by
     congr 1
     funext v
     rw[decide_not]
    rw[eh,e2]at l2k
    have fl:=YBQ (fun v=>decide (v∉rg.map (·.1))) old
    generalize hk:old.filter (fun v=>decide (v∉rg.map (·.1)))=kept at l2k fl
    have s02:=s1.trans s2
    refine Zal ?_
    walk_at "rd"
    refine⟨c,rfl,⟨_,.mk (s02 _ _ hc)⟩,CompRun.listL (xs:=ys) (fun _=>true) (fun i=>tx ((rc.map (·.1)).getD i [])) (by omega) (.mk (s02 _ _ hc)) (fun i H' Q' _ _ q=>q H' (Same.refl _)) ?_ ?_⟩
    ·intro i H3 Q3 hi _ s3 q3
     obtain⟨t,u,e1,e2⟩:=Zgb rwc hi
     rw[e1]
     walk_at "rd"
     exact⟨t,_,_,_,rfl,rfl,.mk ((s02.trans s3) _ _ e2),atI0,q3 H3 (Same.refl _)⟩
    ·intro pc H3 s3 n3 l3
     rw[Zir yl]at l3
     rw[Zl3]
     refine⟨_,_,s3 _ _ l2k,l3,by rw[YAD,YAD,YAD];exact sz _ (by omega),NewL.of fun pw H4 s4 n4 l4=>?_⟩
     have s04:Same H H4:=s02.trans (s3.trans s4)
     rw[←YCO]at l4
     refine⟨pw,_,rfl,l4,fun w hw=>?_,tk.same s04,fun ws r H5 pm pw5 sl tk5 nr lr=>?_⟩
     ·rcases YAf.mp hw with h | h
      ·rw[←hk]at h
       exact wo w (YBv.mp h).1
      ·exact wn w ((mc w).mp h).1
     ·rw[←hk]at pm
      have en:=ZkV ho hn mc nd mg_ pm pw5
      rw[en]at lr
      have f5:=sl _ _ (s04 _ _ f) rfl
      refine⟨p,_,dx,_,rfl,f5,T.cl_LI,T.n_Strip_own_lacking,(by show 4<1000;decide),?_⟩
      rw[show putF (Str.ofString "own_lacking") (.ref r) (sF l m la da)=sF l m r da from Zku]
      refine Zal ?_
      walk_at "rd"
      refine⟨p,_,dx,_,rfl,Zae,T.cl_LI,T.n_Strip_own_text,(by show 4<1000;decide),sz _ (by decide),NewT.of fun t H7 s7 n7 l7=>?_⟩
      rw[show putF (Str.ofString "own_text") (tx l2) (sF l m r da)=sF l2 m r da from Zkt]at s7
      have nrp:p≠r:=Zan (s04 _ _ f) nr
      refine q t r H7 ?_ ⟨dx,s7 _ _ Zae⟩ ((Nw.of nr).same s04) (s7 _ _ (by rw[Zaf (YAw nrp),Zaf (YAw nrp)];exact lr)) l7 ?_
      ·exact s04.chg.trans (sl.chg.trans ((Chg.upd (by simp)).trans ((Chg.upd (by simp)).trans s7.chg)))
      ·exact((tk5.upd f5 rfl rfl).upd Zae rfl rfl).same s7
theorem Zok:FnScope ["thing","kinds"] ["thing","kinds"] (Zag s_KW):=by walk_at "sc"
theorem ZoX (T:TL K mg base a tb):FnOk P w K mg base CX0 3 a.f_KW a.d_KW ["thing","kinds"] (ZnU K a):=by
 refine T.f_KW.ok Zok (fun vs H Q E h=>?_) (fun cdv A outer s H vs Q E hr h=>?_)
 ·obtain⟨_,_,rfl,_⟩:=h;rfl
 ·have hu64:=hr.units
  have hu1:=ZaM hr
  obtain⟨v,m,rfl,q⟩:=h
  refine⟨_,(Zad (Zar (Zbn (Zao (Zmx T) (hr.mono (by decide)) rfl T.m_K5 T.f_K5.kp T.b_K5 .nil Zav (Zaa (pv 0) (Zaa (pv 1) (Zaa Zak Zab)))) (ZbP (ZaK (Zba (K:=K) rfl hu64) (Zah (Zas (K:=K) rfl) rfl T.z_len ZaN (Zaa (pv 0) Zab)) Zak (Zax _)))))),?_⟩
  walk_at "rd"
  rcases q with⟨l,rfl,hl,q⟩|⟨o,q⟩
  ·refine⟨_,m,1,rfl,.inl ⟨l,rfl,hl,fun H1 s1=>⟨_,rfl,ite2 (fun h=>?_) (fun h=>?_)⟩⟩⟩
   ·refine⟨_,_,rfl,Zbf hl,.inl ⟨rfl,?_⟩⟩
    have e:=q H1 s1
    unfold isl at e
    rw[h,YBr]at e
    rw[YAJ YAE]
    simpa using e
   ·have e:=q H1 s1
    unfold isl at e
    rw[YBu.mpr h,YBY]at e
    exact e
  ·exact⟨_,m,1,rfl,.inr ⟨o,_,rfl,iteF q⟩⟩
theorem Zop:FnScope ["thing"] ["thing"] (Zag s_KQ):=by walk_at "sc"
theorem Zmp (T:TL K mg base a tb):FnOk P w K mg base (CXr P w) 3 a.f_KQ a.d_KQ ["thing"] (ZnY K a):=by
 refine T.f_KQ.okX Zop (fun vs H Q E h=>?_) (fun cdv A outer s H vs Q E hr h=>?_)
 ·obtain⟨_,rfl,_⟩:=h;rfl
 ·have hu64:=hr.units
  have hu1:=ZaM hr
  obtain⟨v,rfl,q⟩:=h
  refine⟨_,(Zad (ZaW (Zbg (ZaZ (Zao (Zo5 T) (hr.mono (by decide)) rfl T.m_K1 T.f_K1.kp T.b_K1 .nil Zav (Zaa (pv 0) Zab)))) (Zad (ZbF Zbr rfl (Zcn T.x_K3 T.i_K3 rfl T.m_K3 (Zaa (ZaQ (l:=[107,105,110,100,115,32,97,114,101,32,111,110,101,32,116,111,32,102,111,117,114,32,117,110,108,105,107,101,32,115,109,97,108,108,32,108,101,116,116,101,114,115,44,32,114,105,115,105,110,103]) (by decide +kernel)) Zab)))) Zat)),?_⟩
  walk_at "rd"
  have up:∀H1,Same H H1→XNk a E H→(1≤1000∧Mk0 a.c_K3 H1 fun v H1=>∃e C d,v=.ref e∧H1 e=some (xo e C d)∧Xm K C∧E (.ref C) (some e) (upd H1 e (xr e C d))):=fun H1 s1 z=>
   ⟨by decide,fun e he=>⟨e,_,none,rfl,Zae,T.x_K3,z e _ (s1.trans (Zck he)) (.bare Zae)⟩⟩
  rcases q with⟨l,rfl,hl,hk,q⟩|⟨⟨l,rfl,hl,hk⟩ | o,q⟩
  ·exact⟨_,rfl,.inl ⟨l,rfl,hl,fun H2 s2=>⟨_,rfl,by rw[hk];exact iteF (q H2 s2)⟩⟩⟩
  ·exact⟨_,rfl,.inl ⟨l,rfl,hl,fun H2 s2=>⟨_,rfl,by rw[hk];exact iteT (up H2 s2 q)⟩⟩⟩
  ·exact⟨_,rfl,.inr ⟨o,_,rfl,iteT (up H (Same.refl _) q)⟩⟩
theorem Zoj:FnScope ["thing","kinds","most"] ["thing","kinds","most"] (Zag s_KX):=by walk_at "sc"
theorem Zml (T:TL K mg base a tb):FnOk P w K mg base (CXr P w) 3 a.f_KX a.d_KX ["thing","kinds","most"] (ZnT K a):=by
 refine T.f_KX.okX Zoj (fun vs H Q E h=>?_) (fun cdv A outer s H vs Q E hr h=>?_)
 ·obtain⟨_,_,_,rfl,_⟩:=h;rfl
 ·have hu64:=hr.units
  have hu1:=ZaM hr
  obtain⟨v,m,most,rfl,q⟩:=h
  refine⟨_,(Zad (ZaW (Zbg (ZaZ (Zao (Zmx T) (hr.mono (by decide)) rfl T.m_K5 T.f_K5.kp T.b_K5 .nil Zav (Zaa (pv 0) (Zaa (pv 1) (Zaa (pv 2) Zab)))))) (Zad (ZbF Zbr rfl (Zea T.x_K9 T.i_K9 T.fn_K9 (Zb6 T) (hr.mono (by decide)) T.b_K9 Zav rfl T.m_K9 (Zaa (pv 0) Zab)))) Zat)),?_⟩
  walk_at "rd"
  have up:∀H1,Same H H1→XNw a E H v→(1≤1000∧MkI (ZdL K a.c_K9 1 (fs1 (Str.ofString "word"))) E0 a.c_K9 [v] H1 fun v H1=>∃e C d,v=.ref e∧H1 e=some (xo e C d)∧Xm K C∧E (.ref C) (some e) (upd H1 e (xr e C d))):=fun H1 s1 z=>
   ⟨by decide,MkI.of rfl fun e H2 s2 n2 x2=>by
    obtain⟨d,hd,hx⟩:=Zdf x2
    exact⟨e,_,d,rfl,hd,T.x_K9,z e _ (s1.trans (same_upd3 s2 n2)) hx⟩⟩
  rcases q with⟨l,rfl,hl,hk,q⟩|⟨⟨l,rfl,hl,hk⟩ | o,q⟩
  ·exact⟨_,_,_,rfl,.inl ⟨l,rfl,hl,fun H2 s2=>⟨_,rfl,by rw[hk];exact iteF (q H2 s2)⟩⟩⟩
  ·exact⟨_,_,_,rfl,.inl ⟨l,rfl,hl,fun H2 s2=>⟨_,rfl,by rw[hk];exact iteT (up H2 s2 q)⟩⟩⟩
  ·exact⟨_,_,_,rfl,.inr ⟨o,_,rfl,iteT (up H (Same.refl _) q)⟩⟩
theorem ZlQ:FnScope ["lesser","longer","reason","word"] ["lesser","longer","reason"] (Zag s_LA):=by walk_at "sc"
theorem Zmj (T:TL K mg base a tb):FnOk P w K mg base CX0 3 a.f_LA a.d_LA ["lesser","longer","reason"] (ZnR K a):=by
 refine T.f_LA.ok ZlQ (fun vs H Q E h=>?_) (fun cdv A outer s H vs Q E hr h=>?_)
 ·obtain⟨_,_,_,_,rfl,_⟩:=h;rfl
 ·have hu64:=hr.units
  have hu1:=ZaM hr
  obtain⟨s_,L,rs,m,rfl,hL,ex,hm,hrise,tk,q⟩:=h
  refine⟨_,(Zac (Zaw (i:=3) ZlQ.nd rfl (Or.inl rfl) (ZdF (Zgp (K:=K) rfl) (Zao (Zmh T) (hr.mono (by decide)) rfl T.m_LJ T.f_LJ.kp T.b_LJ .nil Zav (Zaa (pv 0) (Zaa (pv 1) Zab))) Zak (fun _ _=>rfl)))
   (Zad (Zar (Zdh (Zaa (Zbl (Zaa (pv 3) (Zaa (Zbl (Zaa (pv 2) (Zaa (Zgi (K:=K) rfl PySem.F.plainAttrs_str PySem.F.slot_str_find PySem.F.type_str_find Zgn (pv 1) (Zaa (pv 3) Zab)) Zab))) Zab))) Zab))))),?_⟩
  have sz:∀k:Nat,k≤9000→k≤sizeLine:=fun k h=>YAQ h (by rw[sizeLine_eq];decide)
  walk_at "rd"
  refine⟨s_,L,rfl,hL,ex,tk,fun F r H1 pw mF sl tk1 nr lr=>?_⟩
  walk_at "rd?"
  obtain⟨w0,F',rfl⟩:∃w0 F',F=w0::F':=by
   have:L∈F:=(mF L).mpr ⟨Inf.refl L,fun z=>by have:=z.len;have:=ex.len;omega⟩
   cases F with
   | nil=>cases this
   | cons x F'=>exact⟨x,F',rfl⟩
  have f0:=(mF w0).mp YAd
  have hmn:∀w,Frs s_ L w→¬BefW w w0:=fun w hw hb=>by
   rcases YAM.mp ((mF w).mpr hw) with rfl | h
   ·exact Zc1 hb
   ·exact Zfr hb ((YBN.mp pw).1 w h)
  have eF:=Zjo ex hm hrise f0 hmn
  refine⟨r,_,_,_,rfl,rfl,.mk lr,atI0,rfl,L,w0,rfl,rfl,fun k hk=>⟨sz _ (by decide),NewT.of fun t1 H2 s2 n2 l2=>⟨sz _ (by decide),NewT.of fun t2 H3 s3 n3 l3=>⟨sz _ (by decide),NewL.of fun p4 H4 s4 n4 l4=>?_⟩⟩⟩⟩
  have ek:k=((fpl L w0:Nat):Int):=by
   rcases hk with⟨_,no⟩|⟨i,rfl,at_,mn⟩
   ·exact absurd f0.1 no
   ·rw[ZjZ at_ mn]
  have s14:=s2.trans (s3.trans s4)
  refine q [.ref t2] p4 H4 (sl.trans s14.l) (tk1.same s14) ((((Nw.of n4).same s3).same s2).l sl) l4 ?_
  subst ek
  unfold ZdE
  rw[eF]
  refine⟨rfl,fun i y hy=>?_⟩
  match i,hy with
  | 0,hy=>
   cases hy
   exact⟨_,rfl,t2,t1,rfl,s4 _ _ l3,(s3.trans s4) _ _ l2⟩
theorem ZgL:FnScope ["lesser","longer","kinds","reason","found","shorter","told","letter","word"] ["lesser","longer","kinds","reason"] (Zag s_LD):=by walk_at "sc"
theorem Zmi (T:TL K mg base a tb):FnOk P w K mg base CX0 3 a.f_LD a.d_LD ["lesser","longer","kinds","reason"] (ZnO K a):=by
 refine T.f_LD.ok ZgL (fun vs H Q E h=>?_) (fun cdv A outer s H vs Q E hr h=>?_)
 ·obtain⟨_,_,_,_,rfl,_⟩:=h;rfl
 ·have hu64:=hr.units
  have hu1:=ZaM hr
  obtain⟨s_,L,rs,m,rfl,hL,ex,hm,hrise,m4,tk,q⟩:=h
  refine⟨_,(Zac (Zaw (i:=4) ZgL.nd rfl (Or.inr rfl) Zgg)
   (Zaj (Zac (Zbs YBJ rfl (Zbh (K:=K) rfl (Zao (Zmh T) (hr.mono (by decide)) rfl T.m_LJ T.f_LJ.kp T.b_LJ .nil Zav (Zaa (pv 0) (Zaa (pv 1) Zab)))) (ZaC (i:=5) ZgL.nd rfl (Or.inl rfl))
   (Zac (Zaw (i:=6) ZgL.nd rfl (Or.inl rfl) (Zbl (Zaa (pv 3) (Zaa (pv 5) (Zaa (Zgi (K:=K) rfl PySem.F.plainAttrs_str PySem.F.slot_str_find PySem.F.type_str_find Zgn (pv 1) (Zaa (pv 5) Zab)) Zab)))))
   (Zad (Zbs YBJ rfl (Zd9 (pv 2)) (ZaC (i:=7) ZgL.nd rfl (Or.inl rfl))
   (Zad (Zbs YBJ rfl (Zbh (K:=K) rfl (Zdh (Zaa (Zau Zbp (pv 5) (pv 7)) (Zaa (Zau Zbp (pv 7) (pv 5)) Zab)))) (ZaC (i:=8) ZgL.nd rfl (Or.inl rfl))
   (Zad (ZaW (ZaZ (Zao (ZoR T) (hr.mono (by decide)) rfl T.m_LK T.f_LK.kp T.b_LK .nil Zav (Zaa (pv 1) (Zaa (pv 8) Zab)))) (Zaj (Zad (Zkx hu1 (pv 4) (pv 8) (pv 6) rfl))) Zat))))))))
   (Zad (Zar (ZbQ (N:=["word","found"]) (ix:=[none,some 4]) rfl (Zbi rfl) rfl (Zbh (K:=K) rfl (Zao (ZkH T) (hr.mono (by decide)) rfl T.m_K0 T.f_K0.kp T.b_K0 .nil Zav (Zaa (Zbm (Zhb rfl) rfl T.z_list Zbw (Zaa (pv 4) Zab)) Zab))) (fun _ _ _ _=>(ZaC (i:=0) (show (["word","found"]:List Str).Nodup from by decide +kernel) rfl (Or.inl rfl) (Or.inr rfl))) (fun _ _ _ _=>ZbZ) (fun _ _ _ _=>(Zbl (Zaa (pv 0) (Zaa (ZkC hu1 (pv 1) (pv 0) (fun _ _=>rfl)) Zab)))))))))),?_⟩
  have sz:∀k:Nat,k≤9000→k≤sizeLine:=fun k h=>YAQ h (by rw[sizeLine_eq];decide)
  walk_at "rd"
  intro pd hpd
  refine Zal ?_
  walk_at "rd"
  have s0:Same H (upd H pd (.dK [])):=ZaF hpd
  have h0:upd H pd (.dK []) pd=some (.dK []):=Zae
  generalize upd H pd (.dK [])=H0 at s0 h0
  refine⟨s_,L,rfl,hL,ex,tk.same s0,fun F pF H1 pw mF sl tk1 nF lF=>?_⟩
  have d1:=sl _ _ h0 rfl
  have nFd:pd≠pF:=fun z=>by rw[z,lF]at d1;cases d1
  have FL:F.length≤82:=by
   have nd:F.Nodup:=Zcp pw
   have hs:∀w∈F,w∈ZaY L L.length:=fun w hw=>ZeX.mpr ((Zid ex).mp ((mF w).mp hw)).1
   have:=ZeU F _ nd hs
   rw[Zcv]at this
   omega
  refine⟨pF,rfl,⟨_,.mk lF⟩,ForRun.list (xs:=F.map tx) (fun i σ H'=>∃v5 v6 v7 v8 kvs ws,σ=[some (tx s_),some (tx L),some (tx m),some (tx rs),some (.ref pd),v5,v6,v7,v8]∧(∀b o,H1 b=some o→b≠pd→H' b=some o)∧H' pd=some (.dK kvs)∧DI H' s_ L rs (fun w=>∃sh∈F.take i,∃c∈m,w=sh++[c]∨w=c::sh) kvs ws∧kvs.length≤i*8) ⟨_,_,_,_,[],[],rfl,fun b o e _=>e,d1,⟨rfl,by simp,fun w=>by simp,by simp⟩,by simp⟩ (fun i σ H' _ ⟨_,_,_,_,_,_,_,k',_⟩=>.mk (k' _ _ lF (YAw nFd))) ?_ ?_⟩
  ·rintro i x σ H2 hx ⟨v5,v6,v7,v8,kvs,ws,rfl,k2,d2,i2,n2⟩
   obtain⟨sh,hsh,rfl⟩:∃sh,F[i]?=some sh∧x=tx sh:=by
    rw[YAk]at hx
    cases e:F[i]? with
    | none=>rw[e]at hx;cases hx
    | some sh=>rw[e]at hx;exact⟨sh,rfl,(Option.some.inj hx).symm⟩
   have fsh:=(mF sh).mp (YAe hsh)
   have shl:=fsh.1.len
   have hi:i<F.length:=(YAW.mp hsh).1
   walk_at "rd"
   refine⟨rfl,L,sh,rfl,rfl,fun r hr=>⟨sz _ (by decide),NewT.of fun t1 H3 s3 n3 l3=>?_⟩⟩
   have er:r=((fpl L sh:Nat):Int):=by
    rcases hr with⟨_,no⟩|⟨i,rfl,at_,mn⟩
    ·exact absurd fsh.1 no
    ·rw[ZjZ at_ mn]
   subst er
   have d3:=s3 _ _ d2
   refine⟨m,rfl,ForRun.text (fun j σ H'=>∃v7 v8 kvs ws,σ=[some (tx s_),some (tx L),some (tx m),some (tx rs),some (.ref pd),some (tx sh),some (.ref t1),v7,v8]∧(∀b o,H1 b=some o→b≠pd→H' b=some o)∧H' t1=some (.tup [tx rs,tx sh,.int ((fpl L sh:Nat):Int)])∧H' pd=some (.dK kvs)∧DI H' s_ L rs (fun w=>(∃sh∈F.take i,∃c∈m,w=sh++[c]∨w=c::sh)∨∃c∈m.take j,w=sh++[c]∨w=c::sh) kvs ws∧kvs.length≤i*8+2*j) ⟨_,_,_,_,rfl,fun b o e nb=>s3 _ _ (k2 b o e nb),l3,d3,i2.grow (fun b us e=>s3 _ _ e) (fun w _=>by simp),by omega⟩ ?_ ?_⟩
   ·rintro j c σ H4 hc ⟨v7,v8,kvs,ws,rfl,k4,t4,d4,i4,n4⟩
    have hcm:c∈m:=YAe hc
    have hj:j<m.length:=(YAW.mp hc).1
    walk_at "rd"
    refine⟨sz _ (by omega),sz _ (by omega),sz _ (by decide),NewL.of fun pl H5 s5 n5 l5=>?_⟩
    have nl:pd≠pl:=Zan d4 n5
    refine⟨pl,rfl,⟨_,.mk l5⟩,ForRun.list (xs:=[tx (sh++[c]),tx (c::sh)]) (fun k σ H'=>∃v8 kvs ws,σ=[some (tx s_),some (tx L),some (tx m),some (tx rs),some (.ref pd),some (tx sh),some (.ref t1),some (tx [c]),v8]∧(∀b o,H1 b=some o→b≠pd→H' b=some o)∧H' t1=some (.tup [tx rs,tx sh,.int ((fpl L sh:Nat):Int)])∧H' pl=some (.lst [tx (sh++[c]),tx (c::sh)])∧H' pd=some (.dK kvs)∧DI H' s_ L rs (fun w=>((∃sh∈F.take i,∃c∈m,w=sh++[c]∨w=c::sh)∨∃c∈m.take j,w=sh++[c]∨w=c::sh)∨w∈[sh++[c],c::sh].take k) kvs ws∧kvs.length≤i*8+2*j+k) ⟨_,_,_,rfl,fun b o e nb=>s5 _ _ (k4 b o e nb),s5 _ _ t4,l5,s5 _ _ d4,i4.grow (fun b us e=>s5 _ _ e) (fun w _=>by simp),by omega⟩ (fun k σ H' _ ⟨_,_,_,_,_,_,l',_⟩=>.mk l') ?_ ?_⟩
    ·rintro k y σ H6 hy ⟨v8,kvs,ws,rfl,k6,t6,l6,d6,i6,n6⟩
     obtain⟨z,hz,rfl,ez⟩:∃z,[sh++[c],c::sh][k]?=some z∧y=tx z∧(z=sh++[c]∨z=c::sh):=by
      match k,hy with
      | 0,hy=>cases hy;exact⟨_,rfl,rfl,.inl rfl⟩
      | 1,hy=>cases hy;exact⟨_,rfl,rfl,.inr rfl⟩
     have zl:z.length=sh.length+1:=by rcases ez with rfl | rfl<;>simp
     have zne:z≠[]:=fun e=>by rw[e]at zl;simp at zl
     have hk:k<2:=(YAW.mp hz).1
     walk_at "rd"
     refine⟨L,z,rfl,by omega,by omega,_,rfl,?_⟩
     have tkS:∀w,w∈[sh++[c],c::sh].take (k+1)↔(w∈[sh++[c],c::sh].take k∨w=z):=fun w=>by
      rw[ZbK hz,YAf,YAX]
     cases hb:Zh1 L z with
     | false=>
      have nm:¬Miss L z:=fun h=>by rw[(Ze5 zne).mpr h]at hb;cases hb
      refine iteF ⟨_,kvs,ws,rfl,k6,t6,l6,d6,i6.grow (fun _ _ e=>e) (fun w mw=>?_),by omega⟩
      rw[tkS]
      constructor
      ·rintro (h | h)
       ·exact .inl h
       ·exact .inr (.inl h)
      ·rintro (h | h | h)
       ·exact .inl h
       ·exact .inr h
       ·exact absurd (h▸mw) nm
     | true=>
      have mz:=(Ze5 zne).mp hb
      refine iteT ?_
      refine Zal ?_
      walk_at "rd"
      have es:shOf s_ z=sh:=Zmb ex fsh ez mz
      obtain⟨ws',i7⟩:=i6.put (x:=z) (b:=t1) mz (by rw[es];exact t6)
      have np:pd≠pl:=fun e=>by rw[e,l6]at d6;cases d6
      have nt:t1≠pd:=fun e=>by rw[e,d6]at t6;cases t6
      have lp:=Zca kvs (kTx z) (.ref t1)
      refine⟨pd,_,rfl,DPut.k (k:=kTx z) d6 (YAi (show _<9000 by omega) (sz 9000 (YAP _))),_,putK kvs (kTx z) (.ref t1),ws',rfl,fun b o e nb=>by rw[Zaf nb];exact k6 b o e nb,by rw[Zaf nt];exact t6,by rw[Zaf (YAw np)];exact l6,Zae,i7.grow (fun b us e=>?_) (fun w _=>?_),by omega⟩
      ·rw[Zaf (fun e2=>by rw[e2,d6]at e;cases e)];exact e
      ·rw[tkS]
       constructor
       ·rintro ((h | h) | h)
        ·exact .inl h
        ·exact .inr (.inl h)
        ·exact .inr (.inr h)
       ·rintro (h | h | h)
        ·exact .inl (.inl h)
        ·exact .inl (.inr h)
        ·exact .inr h
    ·rintro σ H6 ⟨v8,kvs,ws,rfl,k6,t6,l6,d6,i6,n6⟩
     refine⟨_,_,kvs,ws,rfl,k6,t6,d6,i6.grow (fun _ _ e=>e) (fun w _=>?_),by simp at n6;omega⟩
     rw[ZbK hc]
     simp only[YAf,YAX]
     constructor
     ·rintro ((h | ⟨d,hd,h⟩) | h)
      ·exact .inl h
      ·exact .inr ⟨d,.inl hd,h⟩
      ·exact .inr ⟨c,.inr rfl,by simpa using h⟩
     ·rintro (h | ⟨d,hd | rfl,h⟩)
      ·exact .inl (.inl h)
      ·exact .inl (.inr ⟨d,hd,h⟩)
      ·exact .inr (by simpa using h)
   ·rintro σ H4 ⟨v7,v8,kvs,ws,rfl,k4,t4,d4,i4,n4⟩
    refine⟨_,_,_,_,kvs,ws,rfl,k4,d4,i4.grow (fun _ _ e=>e) (fun w _=>?_),by omega⟩
    rw[YCU,ZbK hsh]
    simp only[YAf,YAX]
    constructor
    ·rintro (⟨s',hs,h⟩ | h)
     ·exact⟨s',.inl hs,h⟩
     ·exact⟨sh,.inr rfl,h⟩
    ·rintro⟨s',hs | rfl,h⟩
     ·exact .inl ⟨s',hs,h⟩
     ·exact .inr h
  ·rintro σ H2 ⟨v5,v6,v7,v8,kvs,ws,rfl,k2,d2,i2,n2⟩
   walk_at "rd"
   rw[YAD,YCU]at i2
   have e3:kvs.map (fun p=>kV p.1)=ws.map tx:=by
    have:kvs.map (fun p=>kV p.1)=(kvs.map (·.1)).map kV:=by rw[YBa];rfl
    rw[this,i2.keys,YBa]
    rfl
   refine⟨pd,kvs,rfl,.inl d2,NewL.of fun p3 H3 s3 n3 l3=>?_⟩
   rw[e3]at l3
   have mws:∀w,w∈ws↔w∈opnL s_ L m:=fun w=>by
    rw[i2.mem,Zee,←ZkF ex hm]
    constructor
    ·rintro⟨ms,sh,h1,c,h2,h3⟩;exact⟨sh,c,(mF sh).mp h1,h2,h3,ms⟩
    ·rintro⟨sh,c,h1,h2,h3,ms⟩;exact⟨ms,sh,(mF sh).mpr h1,c,h2,h3⟩
   have tk2:=Zj9 tk1 k2 d1 rfl rfl
   refine⟨p3,ws,rfl,l3,fun w hw=>?_,tk2.same s3,fun ws' r H4 pm pw4 sl4 tk4 nr lr=>?_⟩
   ·have:=((i2.mem w).mp hw).1.init.len
    rw[YBL]at this
    omega
   ·have ew:ws'=opnL s_ L m:=Zbx (Zcf pm pw4 i2.nd) ((ZaT hrise).filter _) fun w=>by rw[pm.mem_iff,mws]
    subst ew
    have d4:=sl4 _ _ (s3 _ _ d2) rfl
    have ol:(opnL s_ L m).length≤9000:=by
     have:=pm.length_eq
     have e5:=congrArg List.length e3
     rw[YAD,YAD]at e5
     rw[YAD]at n2
     omega
    refine⟨r,rfl,⟨_,.mk lr⟩,CompRun.tups (xs:=(opnL s_ L m).map tx) (fun i vs=>∃w b,(opnL s_ L m)[i]?=some w∧vs=[tx w,.ref b]∧valV kvs (kTx w)=some (.ref b)) (by rw[YAD];omega) (.mk lr) ?_ ?_⟩
    ·intro i H5 Q5 hi s5 q5
     rw[YAD]at hi
     rw[Zdt hi]
     have hw:(opnL s_ L m)[i]?=some ((opnL s_ L m).getD i []):=by rw[YAR,YAL hi];rfl
     obtain⟨b,hv,_⟩:=i2.val _ ((mws _).mpr (YAe hw))
     walk_at "rd"
     have dg:=DGet.k (k:=kTx ((opnL s_ L m).getD i [])) (s5 _ _ d4)
     rw[hv]at dg
     refine⟨pd,_,rfl,dg,sz _ (by decide),NewT.of fun t6 H6 s6 n6 l6=>q5 t6 _ H6 s6 l6 ⟨_,b,hw,rfl,hv⟩⟩
    ·intro p5 ys H5 s5 n5 l5 yl hys
     have n4':Nw H p5:=((((Nw.of n5).l sl4).same s3).chg (S:=[pd]) (H:=H1) (fun b o e nb _=>k2 b o e (by simpa using nb)) (fun b hb=>by obtain rfl:=YAX.mp hb;exact⟨_,d2,rfl⟩)).l (s0.l.trans sl)
     refine q ys p5 H5 (fun b o e t=>?_) (tk4.same s5) n4' l5 ⟨?_,fun i y hy=>?_⟩
     ·have nb:b≠pd:=Zan e hpd
      exact s5 _ _ (sl4 _ _ (s3 _ _ (k2 _ _ (sl _ _ (s0 _ _ e) t) nb)) t)
     ·unfold Zdc
      rw[YAD,yl,YAD]
     ·obtain⟨t,vs,rfl,ht,w,b,hw,rfl,hv⟩:=hys i y hy
      obtain⟨b',hv',hb'⟩:=i2.val w ((mws w).mpr (YAe hw))
      obtain rfl:b=b':=by rw[hv]at hv';injection hv' with e;injection e
      refine⟨_,by unfold Zdc;rw[YAk,hw];rfl,t,b,rfl,ht,s5 _ _ (sl4 _ _ (s3 _ _ hb') rfl)⟩
theorem ZfF:FnScope ["_law_found","_law_due_here","_law_one","_law_other"] ["_law_found","_law_due_here"] (Zag s_LM):=by walk_at "sc"
theorem ZhM (T:TL K mg base a tb):FnOk P w K mg base CX0 1 a.f_LM a.d_LM ["_law_found","_law_due_here"] (fun _ _ _ _=>False):=T.f_LM.ok ZfF (fun _ _ _ _ h=>h.elim) (fun _ _ _ _ _ _ _ _ _ h=>h.elim)
theorem ZoV (T:TL K mg base a tb):FnOk P w K mg base CX0 2 a.f_LM a.d_LM ["_law_found","_law_due_here"] (ZnP K a):=by
 refine T.f_LM.ok ZfF (fun vs H Q E h=>?_) (fun cdv A outer s H vs Q E hr h=>?_)
 ·obtain⟨_,rfl,_⟩:=h;rfl
 ·have hu64:=hr.units
  have hu1:=ZaM hr
  obtain⟨x,rfl,hx,q⟩:=h
  refine⟨_,(Zac (ZaW (ZaZ (Zah (ZcM (K:=K) rfl) rfl T.z_isinstance Zai (Zaa (pv 1) (Zaa (Zbl (Zaa (Zaz (v:=.ty "list") rfl T.z_list Zbw rfl) (Zaa (Zaz (v:=.ty "tuple") rfl T.z_tuple Zb4 rfl) Zab))) Zab)))) (Zac (ZaW (PW.pt (ZgO (ZaG (ZcC (K:=K) rfl hu64) (Zah (Zam (K:=K) rfl) rfl T.z_isinstance Zai (Zaa (pv 1) (Zaa (Zaz (v:=.ty "list") rfl T.z_list Zbw rfl) Zab))) (Zah (Zam (K:=K) rfl) rfl T.z_isinstance Zai (Zaa (pv 0) (Zaa (Zaz (v:=.ty "list") rfl T.z_list Zbw rfl) Zab))) (Zax _)) (ZdO (ZaG (ZcC (K:=K) rfl hu64) (Zah (Zam (K:=K) rfl) rfl T.z_isinstance Zai (Zaa (pv 1) (Zaa (Zaz (v:=.ty "tuple") rfl T.z_tuple Zb4 rfl) Zab))) (Zah (Zam (K:=K) rfl) rfl T.z_isinstance Zai (Zaa (pv 0) (Zaa (Zaz (v:=.ty "tuple") rfl T.z_tuple Zb4 rfl) Zab))) (Zax _))))) (Zad (Zar Zbv)) Zat)
   (Zaj (Zac (ZaW (ZaG (ZcC (K:=K) rfl hu64) (Zah (Zas (K:=K) rfl) rfl T.z_len ZaN (Zaa (pv 0) Zab)) (Zah (Zas (K:=K) rfl) rfl T.z_len ZaN (Zaa (pv 1) Zab)) (Zax _)) (Zad (Zar Zbv)) Zat)
   (Zaj (Zac (Zbs YBJ rfl (ZhH (K:=K) rfl rfl T.z_zip (Zaa (pv 0) (Zaa (pv 1) Zab))) (ZjO rfl (ZcV (ZaC (i:=2) ZfF.nd rfl (Or.inl rfl)) (ZcV (ZaC (i:=3) ZfF.nd rfl (Or.inl rfl)) ZhI)))
   (Zad (ZaW (Zbg (ZaZ (Zao (ZhM T) (hr.mono (by decide)) rfl T.m_LM T.f_LM.kp T.b_LM .nil Zav (Zaa (pv 2) (Zaa (pv 3) Zab))))) (Zad (Zar Zbv)) Zat)))
   (Zad (Zar Zbv))))))) Zat)
   (Zaj (Zac (ZaW (ZaG Zgj (pv 1) ZdQ (Zax _)) (Zad (Zar (ZaK Zgj (pv 0) ZdQ (Zax _)))) Zat)
   (Zaj (Zac (ZaW (ZaZ (Zah (Zam (K:=K) rfl) rfl T.z_isinstance Zai (Zaa (pv 1) (Zaa (Zaz (v:=.ty "str") rfl T.z_str Zd3 rfl) Zab)))) (Zad (Zar (Zbn (Zah (Zam (K:=K) rfl) rfl T.z_isinstance Zai (Zaa (pv 0) (Zaa (Zaz (v:=.ty "str") rfl T.z_str Zd3 rfl) Zab))) (ZbP (ZaK (ZeQ (K:=K) rfl hu64) (pv 0) (pv 1) (Zax _)))))) Zat)
   (Zad (Zar (Zbn (Zah (Zam (K:=K) rfl) rfl T.z_isinstance Zai (Zaa (pv 0) (Zaa (Zaz (v:=.ty "int") rfl T.z_int Ziw rfl) Zab))) (Zbn (ZaK (Zba (K:=K) rfl hu64) (Zah (Zam (K:=K) rfl) rfl T.z_isinstance Zai (Zaa (pv 0) (Zaa (Zaz (v:=.ty "bool") rfl T.z_bool Zce rfl) Zab))) (Zah (Zam (K:=K) rfl) rfl T.z_isinstance Zai (Zaa (pv 1) (Zaa (Zaz (v:=.ty "bool") rfl T.z_bool Zce rfl) Zab))) (Zax _)) (ZbP (ZaK (ZeQ (K:=K) rfl hu64) (pv 0) (pv 1) (Zax _)))))))))))),?_⟩
  walk_at "rd"
  rcases hx with⟨l,rfl⟩|⟨i,rfl⟩
  ·refine⟨by rw[sizeLine_eq];decide,NewT.of fun p1 H1 s1 n1 l1=>⟨_,p1,["list","tuple"],_,false,rfl,l1,.pl (.str _),rfl,(fun _ z=>nomatch z),iteF (Zal ?_)⟩⟩
   walk_at "rd"
   refine⟨trivial,iteF (Zal ?_)⟩
   walk_at "rd"
   exact⟨_,_,_,_,true,rfl,rfl,.ty (.pl (.str _)),ZbI,iteT ⟨_,_,_,_,true,rfl,rfl,.ty (.pl (.str _)),ZbI,iteT (.inl (Zld (q H1 s1)))⟩⟩
  ·refine⟨by rw[sizeLine_eq];decide,NewT.of fun p1 H1 s1 n1 l1=>⟨_,p1,["list","tuple"],_,false,rfl,l1,.pl (.int _),rfl,(fun _ z=>nomatch z),iteF (Zal ?_)⟩⟩
   walk_at "rd"
   refine⟨trivial,iteF (Zal ?_)⟩
   walk_at "rd"
   refine⟨_,_,_,_,false,rfl,rfl,.ty (.pl (.int _)),rfl,iteF ?_⟩
   refine⟨_,_,_,_,true,rfl,rfl,.ty (.pl (.int _)),ZbI,iteT ?_⟩
   refine⟨_,_,_,_,false,rfl,rfl,.ty (.pl (.int _)),rfl,_,_,_,_,false,rfl,rfl,.ty (.pl (.int _)),rfl,.inl ⟨rfl,true,rfl,iteT (.inl (eq_int (q H1 s1)))⟩⟩
theorem ZoQ (T:TL K mg base a tb):FnOk P w K mg base CX0 3 a.f_LM a.d_LM ["_law_found","_law_due_here"] (ZnH K a):=by
 refine T.f_LM.ok ZfF (fun vs H Q E h=>?_) (fun cdv A outer s H vs Q E hr h=>?_)
 ·obtain⟨_,_,rfl,_⟩:=h;rfl
 ·have hu64:=hr.units
  have hu1:=ZaM hr
  obtain⟨x,y,rfl,hxy,q⟩:=h
  refine⟨_,(Zac (ZaW (ZaZ (Zah (ZcM (K:=K) rfl) rfl T.z_isinstance Zai (Zaa (pv 1) (Zaa (Zbl (Zaa (Zaz (v:=.ty "list") rfl T.z_list Zbw rfl) (Zaa (Zaz (v:=.ty "tuple") rfl T.z_tuple Zb4 rfl) Zab))) Zab)))) (Zac (ZaW (PW.pt (ZgO (ZaG (ZcC (K:=K) rfl hu64) (Zah (Zam (K:=K) rfl) rfl T.z_isinstance Zai (Zaa (pv 1) (Zaa (Zaz (v:=.ty "list") rfl T.z_list Zbw rfl) Zab))) (Zah (Zam (K:=K) rfl) rfl T.z_isinstance Zai (Zaa (pv 0) (Zaa (Zaz (v:=.ty "list") rfl T.z_list Zbw rfl) Zab))) (Zax _)) (ZdO (ZaG (ZcC (K:=K) rfl hu64) (Zah (Zam (K:=K) rfl) rfl T.z_isinstance Zai (Zaa (pv 1) (Zaa (Zaz (v:=.ty "tuple") rfl T.z_tuple Zb4 rfl) Zab))) (Zah (Zam (K:=K) rfl) rfl T.z_isinstance Zai (Zaa (pv 0) (Zaa (Zaz (v:=.ty "tuple") rfl T.z_tuple Zb4 rfl) Zab))) (Zax _))))) (Zad (Zar Zbv)) Zat)
   (Zaj (Zac (ZaW (ZaG (ZcC (K:=K) rfl hu64) (Zah (Zas (K:=K) rfl) rfl T.z_len ZaN (Zaa (pv 0) Zab)) (Zah (Zas (K:=K) rfl) rfl T.z_len ZaN (Zaa (pv 1) Zab)) (Zax _)) (Zad (Zar Zbv)) Zat)
   (Zaj (Zac (Zbs YBJ rfl (ZhH (K:=K) rfl rfl T.z_zip (Zaa (pv 0) (Zaa (pv 1) Zab))) (ZjO rfl (ZcV (ZaC (i:=2) ZfF.nd rfl (Or.inl rfl)) (ZcV (ZaC (i:=3) ZfF.nd rfl (Or.inl rfl)) ZhI)))
   (Zad (ZaW (Zbg (ZaZ (Zao (ZoV T) (hr.mono (by decide)) rfl T.m_LM T.f_LM.kp T.b_LM .nil Zav (Zaa (pv 2) (Zaa (pv 3) Zab))))) (Zad (Zar Zbv)) Zat)))
   (Zad (Zar Zbv))))))) Zat)
   (Zaj (Zac (ZaW (ZaG Zgj (pv 1) ZdQ (Zax _)) (Zad (Zar (ZaK Zgj (pv 0) ZdQ (Zax _)))) Zat)
   (Zaj (Zac (ZaW (ZaZ (Zah (Zam (K:=K) rfl) rfl T.z_isinstance Zai (Zaa (pv 1) (Zaa (Zaz (v:=.ty "str") rfl T.z_str Zd3 rfl) Zab)))) (Zad (Zar (Zbn (Zah (Zam (K:=K) rfl) rfl T.z_isinstance Zai (Zaa (pv 0) (Zaa (Zaz (v:=.ty "str") rfl T.z_str Zd3 rfl) Zab))) (ZbP (ZaK (ZeQ (K:=K) rfl hu64) (pv 0) (pv 1) (Zax _)))))) Zat)
   (Zad (Zar (Zbn (Zah (Zam (K:=K) rfl) rfl T.z_isinstance Zai (Zaa (pv 0) (Zaa (Zaz (v:=.ty "int") rfl T.z_int Ziw rfl) Zab))) (Zbn (ZaK (Zba (K:=K) rfl hu64) (Zah (Zam (K:=K) rfl) rfl T.z_isinstance Zai (Zaa (pv 0) (Zaa (Zaz (v:=.ty "bool") rfl T.z_bool Zce rfl) Zab))) (Zah (Zam (K:=K) rfl) rfl T.z_isinstance Zai (Zaa (pv 1) (Zaa (Zaz (v:=.ty "bool") rfl T.z_bool Zce rfl) Zab))) (Zax _)) (ZbP (ZaK (ZeQ (K:=K) rfl hu64) (pv 0) (pv 1) (Zax _)))))))))))),?_⟩
  walk_at "rd"
  rcases hxy with⟨rfl,⟨l,rfl⟩|⟨i,rfl⟩⟩|⟨px,py,vs,rfl,rfl,hx,hy,hz,hv⟩
  ·refine⟨by rw[sizeLine_eq];decide,NewT.of fun p1 H1 s1 n1 l1=>⟨_,p1,["list","tuple"],_,false,rfl,l1,.pl (.str _),rfl,(fun _ z=>nomatch z),iteF (Zal ?_)⟩⟩
   walk_at "rd"
   refine⟨trivial,iteF (Zal ?_)⟩
   walk_at "rd"
   exact⟨_,_,_,_,true,rfl,rfl,.ty (.pl (.str _)),ZbI,iteT ⟨_,_,_,_,true,rfl,rfl,.ty (.pl (.str _)),ZbI,iteT (.inl (Zld (q H1 s1)))⟩⟩
  ·refine⟨by rw[sizeLine_eq];decide,NewT.of fun p1 H1 s1 n1 l1=>⟨_,p1,["list","tuple"],_,false,rfl,l1,.pl (.int _),rfl,(fun _ z=>nomatch z),iteF (Zal ?_)⟩⟩
   walk_at "rd"
   refine⟨trivial,iteF (Zal ?_)⟩
   walk_at "rd"
   refine⟨_,_,_,_,false,rfl,rfl,.ty (.pl (.int _)),rfl,iteF ?_⟩
   refine⟨_,_,_,_,true,rfl,rfl,.ty (.pl (.int _)),ZbI,iteT ?_⟩
   refine⟨_,_,_,_,false,rfl,rfl,.ty (.pl (.int _)),rfl,_,_,_,_,false,rfl,rfl,.ty (.pl (.int _)),rfl,.inl ⟨rfl,true,rfl,iteT (.inl (eq_int (q H1 s1)))⟩⟩
  ·refine⟨by rw[sizeLine_eq];decide,NewT.of fun p1 H1 s1 n1 l1=>⟨_,p1,["list","tuple"],_,true,rfl,l1,.pl (.tup (s1 _ _ hy)),rfl,(fun _ z=>nomatch z),iteT ?_⟩⟩
   have hx1:=s1 _ _ hx
   have hy1:=s1 _ _ hy
   refine⟨_,_,_,_,false,rfl,rfl,.ty (.pl (.tup hy1)),rfl,_,_,_,_,false,rfl,rfl,.ty (.pl (.tup hx1)),rfl,.inl ⟨rfl,false,rfl,iteF ?_⟩⟩
   refine⟨_,_,_,_,true,rfl,rfl,.ty (.pl (.tup hy1)),ZbI,_,_,_,_,true,rfl,rfl,.ty (.pl (.tup hx1)),ZbI,.inl ⟨rfl,false,rfl,iteF (Zal ?_)⟩⟩
   walk_at "rd"
   refine⟨_,vs.length,rfl,.inr ⟨_,.mk hx1,rfl⟩,_,vs.length,rfl,.inr ⟨_,.mk hy1,rfl⟩,ne_int ⟨false,rfl,iteF (Zal ?_)⟩⟩
   walk_at "rd"
   refine⟨px,py,rfl,.inl ⟨⟨_,.mk hx1⟩,⟨_,.mk hy1⟩,ForRun.zip (xs:=vs) (ys:=vs) rfl (fun i σ H'=>∃v2 v3,σ=[some (.ref px),some (.ref py),v2,v3]∧Same H1 H') ⟨_,_,rfl,Same.refl _⟩ (fun i σ H' _ ⟨_,_,_,s'⟩=>⟨.mk (s' _ _ hx1),.mk (s' _ _ hy1)⟩) ?_ ?_⟩⟩
   ·rintro i u v pt σ H2 hu hv' ⟨v2,v3,rfl,s2⟩ hn
    have e:u=v:=Option.some.inj (hu.symm.trans hv')
    subst e
    walk_at "rd"
    refine⟨pt,[u,u],rfl,.mk Zae,rfl,u,[u],rfl,u,[],rfl,rfl,u,rfl,hv u (YAe hu),fun H3 s3=>⟨true,rfl,?_⟩⟩
    rw[Bool.not_true]
    exact iteF ⟨_,_,rfl,s2.trans ((ZaF hn).trans s3)⟩
   ·rintro σ H2 ⟨v2,v3,rfl,s2⟩
    walk_at "rd"
    exact q H2 (s1.trans s2)
theorem Zd6:FnScope ["_law_script","_law_at","_law_kinds_here","_law_shape","_law_size","_law_text_here","_law_place","_law_letter"] ["_law_script","_law_at","_law_kinds_here"] (Zag s_LN):=by walk_at "sc"
theorem ZoP (T:TL K mg base a tb):FnOk P w K mg base CX0 3 a.f_LN a.d_LN ["_law_script","_law_at","_law_kinds_here"] (ZnG K a):=by
 refine T.f_LN.ok Zd6 (fun vs H Q E h=>?_) (fun cdv A outer s H vs Q E hr h=>?_)
 ·obtain⟨_,_,_,_,rfl,_⟩:=h;rfl
 ·have hu64:=hr.units
  have hu1:=ZaM hr
  obtain⟨b,ns,k,m,rfl,hS,hk,hk1,hm,h4,q⟩:=h
  refine⟨_,(Zac (Zaw (i:=3) Zd6.nd rfl (Or.inl rfl) (Zao (Zi0 T) (hr.mono (by decide)) rfl T.m_LO T.f_LO.kp T.b_LO .nil Zav (Zaa (Zao (ZhO T) (hr.mono (by decide)) rfl T.m_LL T.f_LL.kp T.b_LL .nil Zav (Zaa (pv 0) (Zaa (pv 1) Zab))) (Zaa Zak Zab))))
   (Zac (Zaw (i:=4) Zd6.nd rfl (Or.inl rfl) (Zau Zbc (pv 3) Zak))
   (Zac (ZaW (ZaG (Zba (K:=K) rfl hu64) (Zau Zbc (Zau Zbo (pv 3) Zak) Zak) Zak (Zax _)) (Zad (Zaw (i:=4) Zd6.nd rfl (Or.inl rfl) (Zau Zbc (Zau Zbo (pv 3) Zak) Zak))) Zat)
   (Zac (Zaw (i:=5) Zd6.nd rfl (Or.inl rfl) (Zao (Zo4 T) (hr.mono (by decide)) rfl T.m_K6 T.f_K6.kp T.b_K6 .nil Zav (Zaa (Zao (ZhO T) (hr.mono (by decide)) rfl T.m_LL T.f_LL.kp T.b_LL .nil Zav (Zaa (pv 0) (Zaa (Zau Za0 (pv 1) Zak) Zab))) (Zaa (pv 2) (Zaa (pv 4) (Zaa (ZaK (Zba (K:=K) rfl hu64) (Zau Zbc (Zau Zbo (pv 3) Zak) Zak) Zak (Zax _)) Zab))))))
   (Zac (ZaW (PW.pt (ZjN (ZaG (Zba (K:=K) rfl hu64) (Zau Zbc (Zau Zbo (pv 3) Zak) Zak) Zak (Zax _)) (ZhC (ZaG ZiZ (pv 4) Zak (Zax _))))) (Zac (Zaw (i:=5) Zd6.nd rfl (Or.inl rfl) (ZaH ZbJ (Zau ZhL (ZaH ZbJ (pv 5) Za5 (ZaO (Zau Za0 Zak (Zau Zbc (Zau Zbo (pv 3) Zak) Zak)))) (pv 4)) Za5 (ZaO (pv 4))))
   (Zac (Zaw (i:=6) Zd6.nd rfl (Or.inl rfl) (Zau Zbc (Zau Zbo (pv 3) Zak) (pv 4)))
   (Zac (Zaw (i:=7) Zd6.nd rfl (Or.inl rfl) (ZdF ZkX (pv 2) (Zau Zbc (Zau Zbo (pv 3) Zak) (Zah (Zas (K:=K) rfl) rfl T.z_len ZaN (Zaa (pv 2) Zab))) (fun _ _=>rfl)))
   (Zad (Zaw (i:=5) Zd6.nd rfl (Or.inl rfl) (Zau Zbp (Zau Zbp (ZaH ZbJ (pv 5) Za5 (ZaO (pv 6))) (pv 7)) (ZaH ZbJ (pv 5) (ZaO (Zau Za0 (pv 6) Zak)) Za5))))))) Zat)
   (Zad (Zar (pv 5)))))))),?_⟩
  walk_at "rd"
  refine⟨b,ns,k,rfl,hS,hk,by omega,fun r0=>⟨_,_,rfl,fun sp hsp=>?_⟩⟩
  have hM:m.length≤1000:=by omega
  have sz:m.length≤sizeLine:=YAQ hM (by rw[sizeLine_eq];decide)
  have pm:(0:Int)<m.length:=by omega
  have at_:∀x:Int,∃v,atI m (x % m.length)=some v∧v∈m:=fun x=>Zj6 (YBx _ (by omega)) (YBp _ pm)
  walk_at "rd"
  refine⟨by decide,⟨by decide,by decide⟩,by decide,.inl ⟨rfl,_,rfl,ite2 (fun h=>?_) (fun h=>?_)⟩⟩
  ·obtain⟨n,hn,hn40⟩:∃n:Nat,sp/104 % 41=(n:Int)∧n≤40:=⟨(sp/104 % 41).toNat,by omega,by omega⟩
   rw[hn]
   refine⟨⟨by decide,by decide⟩,by decide,b,ns,_,rfl,hS,by omega,by omega,fun r1=>⟨⟨by decide,by decide⟩,by decide,.inl ⟨rfl,r1,m,(n:Int),_,rfl,hm,h4,by omega,by omega,fun f H2 hf hfm s2=>?_⟩⟩⟩
   rw[YBd]at hf
   refine⟨⟨by decide,by decide⟩,by decide,.inl ⟨rfl,_,rfl,ite2 (fun h=>ite2 (fun h2=>?_) (fun h2=>q f H2 (by omega) hfm s2)) (fun h=>iteF (q f H2 (by omega) hfm s2))⟩⟩
   have hn0:0<n:=by have:=of_decide_eq_true h2;omega
   obtain⟨c1,hc1,hm1⟩:=at_ (sp/7200000)
   have cl:=ZcF f none (some (1+sp/30000 % 6))
   obtain⟨g1,g2⟩:=fill (e:=1+sp/30000 % 6) hn0 hf hfm (by omega)
   have gl:(repT (cut f none (some (1+sp/30000 % 6))) (n:Nat)).length≤40*40:=by rw[Zd7,YBd];exact Nat.mul_le_mul hn40 (by omega)
   have m0:=YBx (sp/180000) (show ((n:Nat):Int)≠0 by omega)
   have m1:=YBp (sp/180000) (show (0:Int)<(n:Nat) by omega)
   refine⟨⟨by decide,by decide⟩,by decide,_,rfl,f,rfl,by rw[sizeLine_eq];omega,_,_,rfl,rfl,by omega,by omega,by omega,_,rfl,_,rfl,by rw[sizeLine_eq];omega,⟨by decide,by decide⟩,by omega,⟨by decide,by decide⟩,_,_,rfl,Zbf hM,pm,m,_,c1,rfl,rfl,sz,hc1,?_⟩
   generalize cut (repT (cut f none (some (1+sp/30000 % 6))) (n:Nat)) none (some ((n:Nat):Int))=g at g1 g2
   obtain⟨k1,k2⟩:=put1 (c:=c1) (i:=sp/180000 % (n:Nat)) g1 g2 hm1 m0 m1
   have e1:=k1
   rw[YAI,YAI,YAu]at e1
   exact⟨_,rfl,g,rfl,by rw[sizeLine_eq];omega,by rw[sizeLine_eq];omega,_,rfl,g,rfl,by rw[sizeLine_eq];omega,by rw[sizeLine_eq,YAI,YAu];omega,q _ H2 (by omega) k2 s2⟩
  ·obtain⟨n,hn,hn40⟩:∃n:Nat,sp % 13=(n:Int)∧n≤40:=⟨(sp % 13).toNat,by omega,by omega⟩
   rw[hn]
   refine⟨b,ns,_,rfl,hS,by omega,by omega,fun r1=>⟨⟨by decide,by decide⟩,by decide,.inl ⟨rfl,r1,m,(n:Int),_,rfl,hm,h4,by omega,by omega,fun f H2 hf hfm s2=>?_⟩⟩⟩
   rw[YBd]at hf
   refine⟨⟨by decide,by decide⟩,by decide,.inl ⟨rfl,_,rfl,ite2 (fun h=>ite2 (fun h2=>?_) (fun h2=>q f H2 (by omega) hfm s2)) (fun h=>iteF (q f H2 (by omega) hfm s2))⟩⟩
   have hn0:0<n:=by have:=of_decide_eq_true h2;omega
   obtain⟨c1,hc1,hm1⟩:=at_ (sp/7200000)
   have cl:=ZcF f none (some (1+sp/30000 % 6))
   obtain⟨g1,g2⟩:=fill (e:=1+sp/30000 % 6) hn0 hf hfm (by omega)
   have gl:(repT (cut f none (some (1+sp/30000 % 6))) (n:Nat)).length≤40*40:=by rw[Zd7,YBd];exact Nat.mul_le_mul hn40 (by omega)
   have m0:=YBx (sp/180000) (show ((n:Nat):Int)≠0 by omega)
   have m1:=YBp (sp/180000) (show (0:Int)<(n:Nat) by omega)
   refine⟨⟨by decide,by decide⟩,by decide,_,rfl,f,rfl,by rw[sizeLine_eq];omega,_,_,rfl,rfl,by omega,by omega,by omega,_,rfl,_,rfl,by rw[sizeLine_eq];omega,⟨by decide,by decide⟩,by omega,⟨by decide,by decide⟩,_,_,rfl,Zbf hM,pm,m,_,c1,rfl,rfl,sz,hc1,?_⟩
   generalize cut (repT (cut f none (some (1+sp/30000 % 6))) (n:Nat)) none (some ((n:Nat):Int))=g at g1 g2
   obtain⟨k1,k2⟩:=put1 (c:=c1) (i:=sp/180000 % (n:Nat)) g1 g2 hm1 m0 m1
   have e1:=k1
   rw[YAI,YAI,YAu]at e1
   exact⟨_,rfl,g,rfl,by rw[sizeLine_eq];omega,by rw[sizeLine_eq];omega,_,rfl,g,rfl,by rw[sizeLine_eq];omega,by rw[sizeLine_eq,YAI,YAu];omega,q _ H2 (by omega) k2 s2⟩
theorem Zow:FnScope ["thing","kinds"] ["thing","kinds"] (Zag s_KF):=by walk_at "sc"
theorem Zo3 (T:TL K mg base a tb):FnOk P w K mg base (CXr P w) 4 a.f_KF a.d_KF ["thing","kinds"] (Zn5 K a):=by
 refine T.f_KF.okX Zow (fun vs H Q E h=>?_) (fun cdv A outer s H vs Q E hr h=>?_)
 ·obtain⟨_,_,rfl,_⟩:=h;rfl
 ·have hu64:=hr.units
  have hu1:=ZaM hr
  obtain⟨v,m,rfl,q⟩:=h
  refine⟨_,(Zad (ZaW (Zbg (ZaZ (Zao (ZoX T) (hr.mono (by decide)) rfl T.m_KW T.f_KW.kp T.b_KW .nil Zav (Zaa (pv 0) (Zaa (pv 1) Zab))))) (Zad (ZbF Zbr rfl (Zea T.x_K9 T.i_K9 T.fn_K9 (Zb6 T) (hr.mono (by decide)) T.b_K9 Zav rfl T.m_K9 (Zaa (pv 0) Zab)))) Zat)),?_⟩
  walk_at "rd"
  have up:∀H1,Same H H1→XNw a E H v→(1≤1000∧MkI (ZdL K a.c_K9 1 (fs1 (Str.ofString "word"))) E0 a.c_K9 [v] H1 fun v H1=>∃e C d,v=.ref e∧H1 e=some (xo e C d)∧Xm K C∧E (.ref C) (some e) (upd H1 e (xr e C d))):=fun H1 s1 z=>
   ⟨by decide,MkI.of rfl fun e H2 s2 n2 x2=>by
    obtain⟨d,hd,hx⟩:=Zdf x2
    exact⟨e,_,d,rfl,hd,T.x_K9,z e _ (s1.trans (same_upd3 s2 n2)) hx⟩⟩
  rcases q with⟨l,rfl,hl,hk,q⟩|⟨⟨l,rfl,hl,hk⟩ | o,q⟩
  ·exact⟨_,_,rfl,.inl ⟨l,rfl,hl,fun H2 s2=>⟨_,rfl,by rw[hk];exact iteF (q H2 s2)⟩⟩⟩
  ·exact⟨_,_,rfl,.inl ⟨l,rfl,hl,fun H2 s2=>⟨_,rfl,by rw[hk];exact iteT (up H2 s2 q)⟩⟩⟩
  ·exact⟨_,_,rfl,.inr ⟨o,_,rfl,iteT (up H (Same.refl _) q)⟩⟩
theorem Zoq:FnScope ["strip","word"] ["strip","word"] (Zag s_KP):=by walk_at "sc"
theorem ZoY (T:TL K mg base a tb):FnOk P w K mg base CX0 4 a.f_KP a.d_KP ["strip","word"] (ZnZ K a):=by
 refine T.f_KP.ok Zoq (fun vs H Q E h=>?_) (fun cdv A outer s H vs Q E hr h=>?_)
 ·obtain⟨_,_,_,_,rfl,_⟩:=h;rfl
 ·have hu64:=hr.units
  have hu1:=ZaM hr
  obtain⟨p,l,m,w_,rfl,hp,l40,hw,hk,q⟩:=h
  refine⟨_,(Zac (ZaX (Zao (Zml T) (hr.mono (by decide)) rfl T.m_KX T.f_KX.kp T.b_KX .nil ZbR (Zaa (pv 1) (Zaa (Zdg (Za4 (pv 0) T.cl_LH T.me_Plain_kinds (Zms T) (hr.mono (by decide)) T.b_KG .nil Zav) (Za4 (pv 0) T.cl_LI T.me_Strip_kinds (Zms T) (hr.mono (by decide)) T.b_KG .nil Zav)) (Zaa (ZcW rfl T.c_KI) Zab)))))
   (Zaj (Zad (Zar (Zao (ZoT T) (hr.mono (by decide)) rfl T.m_LF T.f_LF.kp T.b_LF .nil Zav (Zaa (Zdg (Za4 (pv 0) T.cl_LH T.me_Plain_text (ZeR T) (hr.mono (by decide)) T.b_KS .nil Zav) (Za4 (pv 0) T.cl_LI T.me_Strip_text (ZeR T) (hr.mono (by decide)) T.b_KS .nil Zav)) (Zaa (pv 1) Zab))))))),?_⟩
  have bt:=hp
  obtain⟨C,dx,fs,hC,f,gt,gk,n1,n2,n3,n4,n5⟩:=hp
  have w60:=Zm0 hk
  walk_at "rd"
  have kk:∀ {Q':VK},Q' (tx m) H→ZlM K a [.ref p] H Q' E0:=fun hq=>⟨p,l,m,rfl,bt,hq⟩
  refine Zcg hC f n5 (kk ?_) (kk ?_)
  all_goals
   refine⟨_,m,60,rfl,.inl ⟨w_,rfl,hw,hk,fun H1 s1=>Zal ?_⟩⟩
   walk_at "rd"
   have tt:∀ {Q':VK},Q' (tx l) H1→Zht K a [.ref p] H1 Q' E0:=fun hq=>⟨p,l,rfl,bt.text.same s1,hq⟩
   refine Zcg hC (s1 _ _ f) n1 (tt ?_) (tt ?_)
   all_goals exact⟨l,w_,rfl,by omega,by omega,fun r H2 s2 l2=>q r H2 (s1.trans s2) l2⟩
theorem Zkp:FnScope ["self","longer","came","went"] ["self","longer"] (Zag s_KN):=by walk_at "sc"
theorem Zmq (T:TL K mg base a tb):FnOk P w K mg base CX0 4 a.g_KN a.e_KN ["self","longer"] (Zn1 K a):=by
 refine T.fm_KN.ok Zkp (fun vs H Q E h=>?_) (fun cdv A outer s H vs Q E hr h=>?_)
 ·obtain⟨_,_,_,_,_,_,rfl,_⟩:=h;rfl
 ·have hu64:=hr.units
  have hu1:=ZaM hr
  obtain⟨p,la,da,s_,L,m,rfl,hp,hla,hL,ex,hm,ok,tk,q⟩:=h
  refine⟨_,(Zaj (Zac (Zaw (i:=2) Zkp.nd rfl (Or.inl rfl) (Zao (Zmi T) (hr.mono (by decide)) rfl T.m_LD T.f_LD.kp T.b_LD .nil Zav (Zaa (ZaJ (K:=K) rfl (pv 0) rfl) (Zaa (pv 1) (Zaa (ZaJ (K:=K) rfl (pv 0) rfl) (Zaa (ZaQ (l:=[102,105,114,115,116]) (by decide +kernel)) Zab))))))
   (Zaj (Zac (Zaw (i:=3) Zkp.nd rfl (Or.inl rfl) (Zao (Zmj T) (hr.mono (by decide)) rfl T.m_LA T.f_LA.kp T.b_LA .nil Zav (Zaa (ZaJ (K:=K) rfl (pv 0) rfl) (Zaa (pv 1) (Zaa (ZaQ (l:=[115,116,97,110,100,115]) (by decide +kernel)) Zab)))))
   (Zaj (Zad (Zar (Zbe (pv 0) T.cl_LI T.me_KD (Zmu T) (hr.mono (by decide)) T.b_KD .nil Zav (Zaa (pv 1) (Zaa (pv 2) (Zaa (pv 3) Zab))))))))))),?_⟩
  obtain⟨dx,f⟩:=hp
  have m4:=ok.m4
  walk_at "rd"
  refine Zal ?_
  walk_at "rd"
  refine⟨p,_,dx,_,_,rfl,f,T.cl_LI,T.n_Strip_own_text,Za3,p,_,dx,_,_,rfl,f,T.cl_LI,T.n_Strip_own_kinds,Zcl,?_⟩
  refine⟨s_,L,_,m,rfl,by omega,ex,hm,ok.rise,m4,tk,fun ys c H1 sl1 tk1 n1 l1 r1=>?_⟩
  refine Zal ?_
  walk_at "rd"
  have f1:=sl1 _ _ f rfl
  refine⟨p,_,dx,_,_,rfl,f1,T.cl_LI,T.n_Strip_own_text,Za3,?_⟩
  refine⟨s_,L,_,m,rfl,by omega,ex,hm,ok.rise,tk1,fun zs g H2 sl2 tk2 n2 l2 r2=>?_⟩
  refine Zal ?_
  walk_at "rd"
  have f2:=sl2 _ _ f1 rfl
  have l12:=sl2 _ _ l1 rfl
  have la2:=sl2 _ _ (sl1 _ _ hla rfl) rfl
  have sl02:=sl1.trans sl2
  have ncg:c≠g:=n2.ne l1 rfl
  refine⟨p,dx,_,rfl,f2,sN (by decide +kernel),p,la,da,c,g,s_,L,m,ZaI s_ m,ZaI L m,ys,zs,_,_,rfl,⟨dx,f2⟩,la2,l12,r1.l sl2,l2,r2,ZaT ok.rise,ZaT ok.rise,?_,?_,?_,?_,?_,?_,?_,?_,tk2,?_⟩
  ·rw[ZbN];exact Zcp ((ZaT ok.rise).filter _)
  ·intro w;rw[ZbN,Zee]
  ·intro w;rw[ZbO,Zef]
  ·exact YAQ (ZbB m4 (by have:=ex.len;omega)) (by decide)
  ·rw[←YAD (f:=(·.1)),ZbN]
   exact YAQ (YBQ _ _) (YAQ (ZbB m4 (by omega)) (by decide))
  ·rw[←YAD (f:=(·.1)),ZbO]
   exact YAQ (YBQ _ _) (YAQ (ZbB m4 (by have:=ex.len;omega)) (by decide))
  ·intro w hw;have:=Zct (by have:=ex.len;omega) hw;omega
  ·intro w hw;have:=Zct hL hw;omega
  ·intro t la3 H3 ch3 f3 nl3 e3 t3 tk3
   have np:∀us,H2 p≠some (.tup us):=fun us z=>by rw[f2]at z;cases z
   have ncp:p≠c:=n1.ne f rfl
   have ngp:p≠g:=n2.ne f1 rfl
   refine q t c g la3 H3 (sl02.chg.trans ch3) f3 e3 ⟨t3,⟨ys,ch3 _ _ l12 (by simpa using YAw ncp) rfl,(r1.l sl2).chg ch3 (fun b hb us=>by rw[YAX.mp hb];exact np us)⟩,⟨zs,ch3 _ _ l2 (by simpa using YAw ngp) rfl,r2.chg ch3 (fun b hb us=>by rw[YAX.mp hb];exact np us)⟩,n1,n2.l sl1,nl3.l sl02,ncg,nl3.ne l12 rfl,nl3.ne l2 rfl⟩ tk3
theorem Zkq:FnScope ["self","lesser","came","went"] ["self","lesser"] (Zag s_KE):=by walk_at "sc"
theorem Zmt (T:TL K mg base a tb):FnOk P w K mg base CX0 4 a.g_KE a.e_KE ["self","lesser"] (Zn6 K a):=by
 refine T.fm_KE.ok Zkq (fun vs H Q E h=>?_) (fun cdv A outer s H vs Q E hr h=>?_)
 ·obtain⟨_,_,_,_,_,_,rfl,_⟩:=h;rfl
 ·have hu64:=hr.units
  have hu1:=ZaM hr
  obtain⟨p,la,da,s_,L,m,rfl,hp,hla,hL,ex,hm,ok,tk,q⟩:=h
  refine⟨_,(Zac (Zaw (i:=2) Zkq.nd rfl (Or.inl rfl) (Zao (Zmj T) (hr.mono (by decide)) rfl T.m_LA T.f_LA.kp T.b_LA .nil Zav (Zaa (pv 1) (Zaa (ZaJ (K:=K) rfl (pv 0) rfl) (Zaa (ZaQ (l:=[115,116,111,111,100]) (by decide +kernel)) Zab)))))
   (Zac (Zaw (i:=3) Zkq.nd rfl (Or.inl rfl) (Zao (Zmi T) (hr.mono (by decide)) rfl T.m_LD T.f_LD.kp T.b_LD .nil Zav (Zaa (pv 1) (Zaa (ZaJ (K:=K) rfl (pv 0) rfl) (Zaa (ZaJ (K:=K) rfl (pv 0) rfl) (Zaa (ZaQ (l:=[108,97,115,116]) (by decide +kernel)) Zab))))))
   (Zad (Zar (Zbe (pv 0) T.cl_LI T.me_KD (Zmu T) (hr.mono (by decide)) T.b_KD .nil Zav (Zaa (pv 1) (Zaa (pv 2) (Zaa (pv 3) Zab)))))))),?_⟩
  obtain⟨dx,f⟩:=hp
  have m4:=ok.m4
  walk_at "rd"
  refine⟨p,_,dx,_,_,rfl,f,T.cl_LI,T.n_Strip_own_text,Za3,?_⟩
  refine⟨s_,L,_,m,rfl,by omega,ex,hm,ok.rise,tk,fun ys c H1 sl1 tk1 n1 l1 r1=>?_⟩
  walk_at "rd?"
  have f1:=sl1 _ _ f rfl
  refine⟨p,_,dx,_,_,rfl,f1,T.cl_LI,T.n_Strip_own_text,Za3,p,_,dx,_,_,rfl,f1,T.cl_LI,T.n_Strip_own_kinds,Zcl,?_⟩
  refine⟨s_,L,_,m,rfl,by omega,ex,hm,ok.rise,m4,tk1,fun zs g H2 sl2 tk2 n2 l2 r2=>?_⟩
  walk_at "rd?"
  have f2:=sl2 _ _ f1 rfl
  have l12:=sl2 _ _ l1 rfl
  have la2:=sl2 _ _ (sl1 _ _ hla rfl) rfl
  have sl02:=sl1.trans sl2
  have ncg:c≠g:=n2.ne l1 rfl
  refine⟨p,dx,_,rfl,f2,sN (by decide +kernel),p,la,da,c,g,L,s_,m,ZaI L m,ZaI s_ m,ys,zs,_,_,rfl,⟨dx,f2⟩,la2,l12,r1.l sl2,l2,r2,ZaT ok.rise,ZaT ok.rise,?_,?_,?_,?_,?_,?_,?_,?_,tk2,?_⟩
  ·rw[ZbO];exact Zcp ((ZaT ok.rise).filter _)
  ·intro w;rw[ZbO,Zef]
  ·intro w;rw[ZbN,Zee]
  ·exact YAQ (ZbB m4 (by omega)) (by decide)
  ·rw[←YAD (f:=(·.1)),ZbO]
   exact YAQ (YBQ _ _) (YAQ (ZbB m4 (by have:=ex.len;omega)) (by decide))
  ·rw[←YAD (f:=(·.1)),ZbN]
   exact YAQ (YBQ _ _) (YAQ (ZbB m4 (by omega)) (by decide))
  ·intro w hw;have:=Zct hL hw;omega
  ·intro w hw;have:=Zct (by have:=ex.len;omega) hw;omega
  ·intro t la3 H3 ch3 f3 nl3 e3 t3 tk3
   have np:∀us,H2 p≠some (.tup us):=fun us z=>by rw[f2]at z;cases z
   have ncp:p≠c:=n1.ne f rfl
   have ngp:p≠g:=n2.ne f1 rfl
   refine q t c g la3 H3 (sl02.chg.trans ch3) f3 e3 ⟨t3,⟨ys,ch3 _ _ l12 (by simpa using YAw ncp) rfl,(r1.l sl2).chg ch3 (fun b hb us=>by rw[YAX.mp hb];exact np us)⟩,⟨zs,ch3 _ _ l2 (by simpa using YAw ngp) rfl,r2.chg ch3 (fun b hb us=>by rw[YAX.mp hb];exact np us)⟩,n1,n2.l sl1,nl3.l sl02,ncg,nl3.ne l12 rfl,nl3.ne l2 rfl⟩ tk3
theorem Zor:FnScope ["self","kinds"] ["self","kinds"] (Zag s_KO):=by walk_at "sc"
theorem ZoZ (T:TL K mg base a tb):FnOk P w K mg base (CXr P w) 4 a.g_KO a.e_KO ["self","kinds"] (Zn0 K a):=by
 refine T.fm_KO.okX Zor (fun vs H Q E h=>?_) (fun cdv A outer s H vs Q E hr h=>?_)
 ·obtain⟨_,_,_,rfl,_⟩:=h;rfl
 ·have hu64:=hr.units
  have hu1:=ZaM hr
  obtain⟨p,dx,u,rfl,hp,q⟩:=h
  refine⟨_,(Zac (ZaX (Zao (Zmp T) (hr.mono (by decide)) rfl T.m_KQ T.f_KQ.kp T.b_KQ .nil Zeb (Zaa (pv 1) Zab)))
   (Zaj (Zac (ZaX (Zgh rfl T.m_LR T.cr_LR (Zmo T) (hr.mono (by decide)) T.kp_KR T.b_KR .nil Zav (Zaa (pv 0) (Zaa (ZaQ (l:=[]) (by decide +kernel)) (Zaa (pv 1) Zab)))))
   (Zaj (Zac (ZdP (pv 0) (Zbm (ZbV rfl) rfl T.z_list Zbw (Zaa (pv 1) Zab)) rfl)
   (Zaj (Zad (ZdP (pv 0) (Zdh Zab) rfl)))))))),?_⟩
  walk_at "rd"
  rcases q with⟨m,rfl,kok,q⟩|⟨bk,x⟩
  ·have m4:=kok.m4
   refine⟨_,rfl,.inl ⟨m,rfl,by omega,kok.k,fun H1 s1=>?_⟩⟩
   show ZiI _ _ _ _
   refine Zal ?_
   walk_at "rd"
   refine⟨p,dx,_,[],m,rfl,.inr rfl,s1 _ _ hp,fun H2 f2 k2=>?_⟩
   show ZiI _ _ _ _
   refine Zal ?_
   walk_at "rd"
   refine⟨m,rfl,by omega,NewL.of fun la H3 s3 n3 l3=>?_⟩
   have f3:=s3 _ _ f2
   refine⟨p,_,dx,_,rfl,f3,T.cl_LI,T.n_Strip_own_lacking,(by show 2<1000;decide),?_⟩
   refine Zal ?_
   walk_at "rd"
   refine⟨YBI _,NewL.of fun da H4 s4 n4 l4=>?_⟩
   have nla:p≠la:=Zan f2 n3
   have kr:=kok.kinds
   have f4:=s4 _ _ (Zae (H:=H3) (a:=p) (o:=.ins a.c_LI dx (putF (Str.ofString "own_lacking") (.ref la) (putF "own_kinds" (tx m) (putF "own_text" (tx []) [])))))
   have l4':upd H3 p (.ins a.c_LI dx (putF (Str.ofString "own_lacking") (.ref la) (putF "own_kinds" (tx m) (putF "own_text" (tx []) [])))) la=some (.lst ((signs m).map tx)):=by rw[Zaf (YAw nla)];exact l3
   have nda:p≠da:=Zan Zae n4
   have ned:la≠da:=Zan l4' n4
   have n3':H3 da=none:=by rw[Zaf (YAw nda)]at n4;exact n4
   have back:∀b,b≠p→H2 b=none→H b=none:=fun b hb e=>by
    cases z:H1 b with
    | none=>exact s1.free z
    | some o=>rw[k2 b o z hb]at e;cases e
   refine⟨p,_,dx,_,rfl,f4,T.cl_LI,T.n_Strip_own_deeds,(by show 3<1000;decide),q la da _ ⟨⟨dx,?_⟩,?_,⟨[],?_,rfl,fun i y h=>by simp at h⟩,.nil,kr,ned⟩ (back la (YAw nla) n3) (back da (YAw nda) (s3.free n3')) fun b o hb nb=>?_⟩
   ·rw[Zae];exact congrArg (fun z=>some (HO.ins a.c_LI dx z)) ZjK
   ·rw[Zaf (YAw nla),Zjf kr.rise];exact s4 _ _ l4'
   ·rw[Zaf (YAw nda)];exact l4
   ·rw[Zaf nb];exact s4 _ _ (by rw[Zaf nb];exact s3 _ _ (k2 _ _ (s1 _ _ hb) nb))
  ·exact⟨_,rfl,.inr ⟨bk,x⟩⟩
theorem Zot:FnScope ["self","text","kinds"] ["self","text","kinds"] (Zag s_KK):=by walk_at "sc"
theorem Zo2 (T:TL K mg base a tb):FnOk P w K mg base (CXr P w) 4 a.g_KK a.e_KK ["self","text","kinds"] (Zn4 K a):=by
 refine T.fm_KK.okX Zot (fun vs H Q E h=>?_) (fun cdv A outer s H vs Q E hr h=>?_)
 ·obtain⟨_,_,_,_,rfl,_⟩:=h;rfl
 ·have hu64:=hr.units
  have hu1:=ZaM hr
  obtain⟨p,dx,l,m,rfl,hp,ok,q⟩:=h
  refine⟨_,(Zac (ZaX (Zao (Zmp T) (hr.mono (by decide)) rfl T.m_KQ T.f_KQ.kp T.b_KQ .nil Zeb (Zaa (pv 2) Zab)))
   (Zac (ZaX (Zao (Zml T) (hr.mono (by decide)) rfl T.m_KX T.f_KX.kp T.b_KX .nil Zeb (Zaa (pv 1) (Zaa (pv 2) (Zaa (ZcW rfl T.c_KB) Zab)))))
   (Zad (ZaX (Zgh rfl T.m_LR T.cr_LR (Zmo T) (hr.mono (by decide)) T.kp_KR T.b_KR .nil Zav (Zaa (pv 0) (Zaa (pv 1) (Zaa (pv 2) Zab)))))))),?_⟩
  walk_at "rd"
  have m4:=ok.m4
  have l40:=ok.l40
  refine⟨_,rfl,.inl ⟨m,rfl,by omega,ok.k,fun H1 s1=>?_⟩⟩
  walk_at "rd?"
  refine⟨_,m,40,rfl,.inl ⟨l,rfl,by omega,ZmY ok,fun H2 s2=>?_⟩⟩
  walk_at "rd?"
  exact⟨p,dx,_,l,m,rfl,.inl rfl,s1.trans s2 _ _ hp,fun H3 r k=>q H3 r fun b o e ne=>k b o (s1.trans s2 _ _ e) ne⟩
theorem Zol:FnScope ["strip","word"] ["strip","word"] (Zag s_KV):=by walk_at "sc"
theorem Zmm (T:TL K mg base a tb):FnOk P w K mg base CX0 5 a.f_KV a.d_KV ["strip","word"] (ZnV K a):=by
 refine T.f_KV.ok Zol (fun vs H Q E h=>?_) (fun cdv A outer s H vs Q E hr h=>?_)
 ·obtain⟨_,_,_,_,rfl,_⟩:=h;rfl
 ·have hu64:=hr.units
  have hu1:=ZaM hr
  obtain⟨p,l,m,w_,rfl,hp,l40,hw,hk,q⟩:=h
  refine⟨_,(Zad (Zar (Zah (Zas (K:=K) rfl) rfl T.z_len ZaN (Zaa (Zao (ZoY T) (hr.mono (by decide)) rfl T.m_KP T.f_KP.kp T.b_KP .nil Zav (Zaa (pv 0) (Zaa (pv 1) Zab))) Zab)))),?_⟩
  walk_at "rd"
  refine⟨p,l,m,w_,rfl,hp,l40,hw,hk,fun r H2 s2 l2=>⟨_,_,rfl,.inl ⟨_,.mk l2,rfl⟩,?_⟩⟩
  rw[YAD]
  exact q H2 s2
theorem Zom:FnScope ["self","letter"] ["self","letter"] (Zag s_KU):=by walk_at "sc"
theorem Zmn (T:TL K mg base a tb):FnOk P w K mg base (CXr P w) 5 a.g_KU a.e_KU ["self","letter"] (ZnW K a):=by
 refine T.fm_KU.okX Zom (fun vs H Q E h=>?_) (fun cdv A outer s H vs Q E hr h=>?_)
 ·obtain⟨_,_,_,_,_,_,_,rfl,_⟩:=h;rfl
 ·have hu64:=hr.units
  have hu1:=ZaM hr
  obtain⟨p,la,da,l,m,ds,v,rfl,hp,hd,tk,q⟩:=h
  refine⟨_,(Zaj (Zac (ZaX (Zao (Zo3 T) (hr.mono (by decide)) rfl T.m_KF T.f_KF.kp T.b_KF .nil Zeb (Zaa (pv 1) (Zaa (ZaJ (K:=K) rfl (pv 0) rfl) Zab))))
   (Zac (ZaW (ZaG ZoM (Zah (Zas (K:=K) rfl) rfl T.z_len ZaN (Zaa (ZaJ (K:=K) rfl (pv 0) rfl) Zab)) (ZcW rfl T.c_KB) (Zax _)) (Zaj (Zad (ZbF Zbr rfl (Zcn T.x_LT T.i_LT rfl T.m_LT (Zaa (ZaQ (l:=[116,104,101,32,115,116,114,105,112,32,104,97,115,32,102,111,114,116,121,32,108,101,116,116,101,114,115]) (by decide +kernel)) Zab))))) Zat)
   (Zaj (Zac (ZaX (ZeM YBH YCL YCK ZbA (ZaJ (K:=K) rfl (pv 0) rfl) (Zaa (Zbl (Zaa (ZaQ (l:=[112,117,116]) (by decide +kernel)) (Zaa (pv 1) Zab))) Zab)))
   (Zad (Zar (Zbe (pv 0) T.cl_LI T.me_KN (Zmq T) (hr.mono (by decide)) T.b_KN .nil Zav (Zaa (Zau Zbp (ZaJ (K:=K) rfl (pv 0) rfl) (pv 1)) Zab))))))))),?_⟩
  have sz:∀k:Nat,k≤30000→k≤sizeLine:=fun k h=>YAQ h (by rw[sizeLine_eq];decide)
  obtain⟨⟨dx,f⟩,hk,⟨ts,d1,d2⟩,run,ok,nld⟩:=id hp
  have m4:=ok.m4
  have l40:=run.len
  have tl:=d2.1
  have npd:p≠da:=fun z=>by rw[z,d1]at f;cases f
  walk_at "rd"
  refine Zal ?_
  walk_at "rd"
  refine⟨p,_,dx,_,_,rfl,f,T.cl_LI,T.n_Strip_own_kinds,Zcl,?_⟩
  rcases q with⟨c0,rfl,hc,hl,q⟩|⟨bl,x⟩|⟨c0,rfl,hc,hl,x⟩
  ·refine⟨_,m,rfl,.inl ⟨[c0],rfl,by simp,Zh8 hc,fun H1 s1=>?_⟩⟩
   walk_at "rd?"
   refine⟨p,_,dx,_,_,rfl,s1 _ _ f,T.cl_LI,T.n_Strip_own_text,Za3,_,_,rfl,Zbf (by omega),?_⟩
   rw[decide_eq_false (by omega)]
   refine iteF ?_
   refine Zal ?_
   walk_at "rd"
   refine⟨p,_,dx,_,_,rfl,s1 _ _ f,T.cl_LI,T.n_Strip_own_deeds,ZbM,.inl ⟨rfl,_,.mk (s1 _ _ d1)⟩,sz _ (by decide),NewT.of fun td H2 s2 n2 l2=>?_⟩
   have s02:=s1.trans s2
   refine⟨da,_,_,rfl,rfl,s02 _ _ d1,by rw[tl];exact sz _ (by omega),?_⟩
   have c3:Chg [da] H (upd H2 da (.lst (ts++[.ref td]))):=s02.chg.trans (Chg.upd (by simp))
   have d3:upd H2 da (.lst (ts++[.ref td])) da=some (.lst (ts++[.ref td])):=Zae
   have t3:upd H2 da (.lst (ts++[.ref td])) td=some (.tup (ZfS (true,c0))):=by
    rw[Zaf (fun z=>by rw[z,s02 _ _ d1]at l2;cases l2)]
    exact l2
   have tk3:=(tk.same s02).upd (o':=.lst (ts++[.ref td])) (s02 _ _ d1) rfl rfl
   generalize upd H2 da (.lst (ts++[.ref td]))=H3 at c3 d3 t3 tk3
   have e3:DeedsA H3 (ts++[.ref td]) (ds++[(true,c0)]):=(d2.chg c3 (fun b hb us z=>by rw[YAX.mp hb,d1]at z;cases z)).snoc t3
   have f3:=c3 _ _ f (by simpa using npd) rfl
   have k3:=c3 _ _ hk (by simpa using nld) rfl
   have r3:=run.put hc hl
   refine⟨p,dx,_,rfl,f3,sN (by decide +kernel),p,_,dx,_,_,rfl,f3,T.cl_LI,T.n_Strip_own_text,Za3,l,[c0],rfl,rfl,sz _ (by rw[YAu];omega),?_⟩
   refine⟨p,la,da,l,l++[c0],m,rfl,⟨dx,f3⟩,k3,r3.len,.inl ⟨c0,rfl⟩,r3.mem,ok,tk3,fun t c g la2 H4 ch f4 l4 an tk4=>?_⟩
   obtain⟨q1,q2,q3⟩:=ZcY hp c3 d3 e3 ch f4 l4 an r3
   exact q t c g la2 H4 q1 q2 q3 tk4
  ·exact⟨_,m,rfl,.inr ⟨bl,x⟩⟩
  ·refine⟨_,m,rfl,.inl ⟨[c0],rfl,by simp,Zh8 hc,fun H1 s1=>?_⟩⟩
   walk_at "rd?"
   refine⟨p,_,dx,_,_,rfl,s1 _ _ f,T.cl_LI,T.n_Strip_own_text,Za3,_,_,rfl,Zbf (by omega),?_⟩
   rw[decide_eq_true (by omega)]
   refine iteT ?_
   refine Zal ?_
   walk_at "rd"
   exact⟨by decide,fun e he=>⟨e,_,none,rfl,Zae,T.x_LT,x e _ (s1.trans (Zck he)) (.bare Zae)⟩⟩
theorem ZlR:FnScope ["self","deed"] ["self"] (Zag s_KL):=by walk_at "sc"
theorem Zo1 (T:TL K mg base a tb):FnOk P w K mg base (CXr P w) 5 a.g_KL a.e_KL ["self"] (Zn3 K a):=by
 refine T.fm_KL.okX ZlR (fun vs H Q E h=>?_) (fun cdv A outer s H vs Q E hr h=>?_)
 ·obtain⟨_,_,_,_,_,_,rfl,_⟩:=h;rfl
 ·have hu64:=hr.units
  have hu1:=ZaM hr
  obtain⟨p,la,da,l,m,ds,rfl,hp,hd,tk,q⟩:=h
  refine⟨_,(Zaj (Zac (ZaW (ZaG (Zba (K:=K) rfl hu64) (Zah (Zas (K:=K) rfl) rfl T.z_len ZaN (Zaa (ZaJ (K:=K) rfl (pv 0) rfl) Zab)) Zak (Zax _)) (Zad (ZbF Zbr rfl (Zcn T.x_K8 T.i_K8 rfl T.m_K8 (Zaa (ZaQ (l:=[116,104,101,114,101,32,105,115,32,110,111,32,100,101,101,100,32,116,104,97,116,32,115,116,97,110,100,115]) (by decide +kernel)) Zab)))) Zat)
   (Zaj (Zac (Zaw (i:=1) ZlR.nd rfl (Or.inl rfl) (Zma YBH PySem.F.slot_list_pop PySem.F.type_list_pop ZmA (ZaJ (K:=K) rfl (pv 0) rfl)))
   (Zaj (Zac (ZaW (ZaG (Zba (K:=K) rfl hu64) (ZdF (Zdp (K:=K) rfl) (pv 1) Zak (fun _ _=>rfl)) (ZaQ (l:=[112,117,116]) (by decide +kernel)) (Zax _)) (Zad (Zar (Zbe (pv 0) T.cl_LI T.me_KE (Zmt T) (hr.mono (by decide)) T.b_KE .nil Zav (Zaa (ZaH ZbJ (ZaJ (K:=K) rfl (pv 0) rfl) Za5 (ZaO (ZkA Zhk Zak))) Zab)))) Zat)
   (Zad (Zar (Zbe (pv 0) T.cl_LI T.me_KN (Zmq T) (hr.mono (by decide)) T.b_KN .nil Zav (Zaa (Zau Zbp (ZdF (Zdp (K:=K) rfl) (pv 1) Zak (fun _ _=>rfl)) (ZaJ (K:=K) rfl (pv 0) rfl)) Zab)))))))))),?_⟩
  have sz:∀k:Nat,k≤30000→k≤sizeLine:=fun k h=>YAQ h (by rw[sizeLine_eq];decide)
  obtain⟨⟨dx,f⟩,hk,⟨ts,d1,d2⟩,run,ok,nld⟩:=id hp
  have m4:=ok.m4
  have l40:=run.len
  have tl:=d2.1
  have npd:p≠da:=fun z=>by rw[z,d1]at f;cases f
  walk_at "rd"
  refine Zal ?_
  walk_at "rd"
  refine⟨p,_,dx,_,_,rfl,f,T.cl_LI,T.n_Strip_own_deeds,ZbM,_,_,rfl,.inl ⟨_,.mk d1,rfl⟩,.inl ⟨rfl,?_⟩⟩
  rw[YAJ YAE]
  have pop:∀(ds0:List (Bool×Nat)) (d:Bool×Nat),ds=ds0++[d]→∃ts' td,ts=ts'++[.ref td]∧H td=some (.tup (ZfS d))∧DeedsA H ts' ds0:=fun ds0 d e=>(e▸d2).init
  have ne0:ds≠[]→decide (V.int ((ts.length:Nat):Int)=V.int 0)=false:=fun h=>decide_eq_false fun e=>by
   injection e with e
   rw[tl]at e
   exact h (YCy.mp (by omega))
  have go:∀(ds0:List (Bool×Nat)) (d:Bool×Nat),ds=ds0++[d]→∃td H3 ts',Chg [da] H H3∧H3 da=some (.lst ts')∧DeedsA H3 ts' ds0∧H3 td=some (.tup (ZfS d))∧TT a H3∧ts[ts.length-1]?=some (.ref td)∧upd H da (.lst ts.dropLast)=H3:=fun ds0 d e=>by
   obtain⟨ts',td,rfl,h1,h2⟩:=pop ds0 d e
   refine⟨td,_,ts',Chg.upd (by simp),by rw[Zae,YCp],?_,?_,tk.upd d1 rfl rfl,by simp,rfl⟩
   ·exact h2.chg (S:=[da]) (Chg.upd (by simp)) (fun b hb us z=>by rw[YAX.mp hb,d1]at z;cases z)
   ·rw[Zaf (fun z=>by rw[z,d1]at h1;cases h1)];exact h1
  rcases q with⟨ds0,c0,l0,e0,rfl,q⟩|⟨ds0,c0,e0,q⟩|⟨rfl,x⟩
  ·rw[ne0 (by rw[e0];simp)]
   refine⟨_,rfl,iteF ?_⟩
   refine Zal ?_
   walk_at "rd"
   obtain⟨td,H3,ts',c3,d3,e3,t3,tk3,hy,eH⟩:=go ds0 (true,c0) e0
   refine⟨p,_,dx,_,_,rfl,f,T.cl_LI,T.n_Strip_own_deeds,ZbM,.inl ⟨rfl,_,.mk d1⟩,da,_,_,rfl,rfl,d1,hy,?_⟩
   rw[eH]
   refine Zal ?_
   walk_at "rd"
   have f3:=c3 _ _ f (by simpa using npd) rfl
   have k3:=c3 _ _ hk (by simpa using nld) rfl
   have run0:Run m ds0 l0:=by
    obtain⟨ds1,c1,⟨e1,l1,e2,r1⟩|⟨e1,_⟩⟩:=run.last (by rw[e0];simp)
    ·rw[e0]at e1
     have e3:=List.append_inj' e1 rfl
     have e4:=List.append_inj' e2 rfl
     rw[e3.1,e4.1];exact r1
    ·rw[e0]at e1
     have e3:=(List.append_inj' e1 rfl).2
     cases e3
   refine⟨td,_,_,_,rfl,rfl,.mk t3,atI0,.inl ⟨rfl,true,?_,iteT ?_⟩⟩
   ·rw[YAJ YAE];exact congrArg V.bl (decide_eq_true rfl)
   ·refine⟨p,dx,_,rfl,f3,sN (by decide +kernel),p,_,dx,_,_,rfl,f3,T.cl_LI,T.n_Strip_own_text,Za3,_,rfl,l0++[c0],rfl,sz _ (by omega),?_⟩
    rw[Ziq,YCp]
    refine⟨p,la,da,l0,l0++[c0],m,rfl,⟨dx,f3⟩,k3,l40,.inl ⟨c0,rfl⟩,run.mem,ok,tk3,fun t c g la2 H4 ch f4 l4 an tk4=>?_⟩
    obtain⟨q1,q2,q3⟩:=ZcY hp c3 d3 e3 ch f4 l4 an run0
    exact q t c g la2 H4 q1 q2 q3 tk4
  ·rw[ne0 (by rw[e0];simp)]
   refine⟨_,rfl,iteF ?_⟩
   refine Zal ?_
   walk_at "rd"
   obtain⟨td,H3,ts',c3,d3,e3,t3,tk3,hy,eH⟩:=go ds0 (false,c0) e0
   refine⟨p,_,dx,_,_,rfl,f,T.cl_LI,T.n_Strip_own_deeds,ZbM,.inl ⟨rfl,_,.mk d1⟩,da,_,_,rfl,rfl,d1,hy,?_⟩
   rw[eH]
   refine Zal ?_
   walk_at "rd"
   have f3:=c3 _ _ f (by simpa using npd) rfl
   have k3:=c3 _ _ hk (by simpa using nld) rfl
   have run0:Run m ds0 (c0::l):=by
    obtain⟨ds1,c1,⟨e1,l1,e2,r1⟩|⟨e1,r1⟩⟩:=run.last (by rw[e0];simp)
    ·rw[e0]at e1
     have e3:=(List.append_inj' e1 rfl).2
     cases e3
    ·rw[e0]at e1
     have e3:=List.append_inj' e1 rfl
     have e4:=e3.2
     injection e4 with e4 _
     injection e4 with _ e4
     rw[e3.1,e4];exact r1
   have l41:=run0.len
   rw[YAp]at l41
   refine⟨td,_,_,_,rfl,rfl,.mk t3,atI0,.inl ⟨rfl,false,?_,iteF ?_⟩⟩
   ·rw[YAJ YAE];exact congrArg V.bl (show decide (tx DROP=tx [112,117,116])=false by rw[Zdy];decide)
   ·refine⟨p,dx,_,rfl,f3,sN (by decide +kernel),td,_,_,_,rfl,rfl,.mk t3,rfl,p,_,dx,_,_,rfl,f3,T.cl_LI,T.n_Strip_own_text,Za3,[c0],l,rfl,rfl,sz _ (by rw[YAu];omega),?_⟩
    refine⟨p,la,da,l,c0::l,m,rfl,⟨dx,f3⟩,k3,run0.len,.inr ⟨c0,rfl⟩,run0.mem,ok,tk3,fun t c g la2 H4 ch f4 l4 an tk4=>?_⟩
    obtain⟨q1,q2,q3⟩:=ZcY hp c3 d3 e3 ch f4 l4 an run0
    exact q t c g la2 H4 q1 q2 q3 tk4
  ·have tz:ts.length=0:=by rw[tl];rfl
   rw[tz]
   refine⟨_,rfl,?_⟩
   rw[show decide (V.int ((0:Nat):Int)=V.int 0)=true from decide_eq_true rfl]
   exact iteT ⟨by decide,fun e he=>⟨e,_,none,rfl,Zae,T.x_K8,x e _ (Zck he) (.bare Zae)⟩⟩
theorem Zos:FnScope ["self"] ["self"] (Zag s_KM):=by walk_at "sc"
theorem Zo0 (T:TL K mg base a tb):FnOk P w K mg base (CXr P w) 5 a.g_KM a.e_KM ["self"] (Zn2 K a):=by
 refine T.fm_KM.okX Zos (fun vs H Q E h=>?_) (fun cdv A outer s H vs Q E hr h=>?_)
 ·obtain⟨_,_,_,_,_,_,rfl,_⟩:=h;rfl
 ·have hu64:=hr.units
  have hu1:=ZaM hr
  obtain⟨p,la,da,l,m,ds,rfl,hp,hd,tk,q⟩:=h
  refine⟨_,(Zaj (Zac (ZaW (ZaG (Zba (K:=K) rfl hu64) (ZaJ (K:=K) rfl (pv 0) rfl) (ZaQ (l:=[]) (by decide +kernel)) (Zax _)) (Zad (ZbF Zbr rfl (Zcn T.x_LS T.i_LS rfl T.m_LS (Zaa (ZaQ (l:=[116,104,101,32,115,116,114,105,112,32,104,97,115,32,110,111,32,108,101,116,116,101,114]) (by decide +kernel)) Zab)))) Zat)
   (Zaj (Zac (ZaX (ZeM YBH YCL YCK ZbA (ZaJ (K:=K) rfl (pv 0) rfl) (Zaa (Zbl (Zaa (ZaQ (l:=[100,114,111,112]) (by decide +kernel)) (Zaa (ZdF ZkX (ZaJ (K:=K) rfl (pv 0) rfl) Zak (fun _ _=>rfl)) Zab))) Zab)))
   (Zad (Zar (Zbe (pv 0) T.cl_LI T.me_KE (Zmt T) (hr.mono (by decide)) T.b_KE .nil Zav (Zaa (ZaH ZbJ (ZaJ (K:=K) rfl (pv 0) rfl) (ZaO Zak) Za5) Zab)))))))),?_⟩
  have sz:∀k:Nat,k≤30000→k≤sizeLine:=fun k h=>YAQ h (by rw[sizeLine_eq];decide)
  obtain⟨⟨dx,f⟩,hk,⟨ts,d1,d2⟩,run,ok,nld⟩:=id hp
  have m4:=ok.m4
  have l40:=run.len
  have tl:=d2.1
  have npd:p≠da:=fun z=>by rw[z,d1]at f;cases f
  walk_at "rd"
  refine Zal ?_
  walk_at "rd"
  refine⟨p,_,dx,_,_,rfl,f,T.cl_LI,T.n_Strip_own_text,Za3,.inl ⟨rfl,?_⟩⟩
  rw[YAJ YAE,Zdy]
  rcases q with⟨c0,l0,rfl,q⟩|⟨rfl,x⟩
  ·rw[decide_eq_false (by simp)]
   refine⟨_,rfl,iteF ?_⟩
   refine Zal ?_
   walk_at "rd"
   refine⟨p,_,dx,_,_,rfl,f,T.cl_LI,T.n_Strip_own_deeds,ZbM,.inl ⟨rfl,_,.mk d1⟩,p,_,dx,_,_,rfl,f,T.cl_LI,T.n_Strip_own_text,Za3,c0::l0,0,c0,rfl,rfl,sz _ (by omega),atI0,sz _ (by decide),NewT.of fun td H2 s2 n2 l2=>?_⟩
   refine⟨da,_,_,rfl,rfl,s2 _ _ d1,by rw[tl];exact sz _ (by omega),?_⟩
   have c3:Chg [da] H (upd H2 da (.lst (ts++[.ref td]))):=s2.chg.trans (Chg.upd (by simp))
   have d3:upd H2 da (.lst (ts++[.ref td])) da=some (.lst (ts++[.ref td])):=Zae
   have t3:upd H2 da (.lst (ts++[.ref td])) td=some (.tup (ZfS (false,c0))):=by
    rw[Zaf (fun z=>by rw[z,s2 _ _ d1]at l2;cases l2)]
    exact l2
   have tk3:=(tk.same s2).upd (o':=.lst (ts++[.ref td])) (s2 _ _ d1) rfl rfl
   generalize upd H2 da (.lst (ts++[.ref td]))=H3 at c3 d3 t3 tk3
   have e3:DeedsA H3 (ts++[.ref td]) (ds++[(false,c0)]):=(d2.chg c3 (fun b hb us z=>by rw[YAX.mp hb,d1]at z;cases z)).snoc t3
   have f3:=c3 _ _ f (by simpa using npd) rfl
   have k3:=c3 _ _ hk (by simpa using nld) rfl
   refine⟨p,dx,_,rfl,f3,sN (by decide +kernel),p,_,dx,_,_,rfl,f3,T.cl_LI,T.n_Strip_own_text,Za3,_,rfl,c0::l0,rfl,sz _ (by omega),?_⟩
   rw[ZfU]
   refine⟨p,la,da,l0,c0::l0,m,rfl,⟨dx,f3⟩,k3,l40,.inr ⟨c0,rfl⟩,run.mem,ok,tk3,fun t c g la2 H4 ch f4 l4 an tk4=>?_⟩
   obtain⟨q1,q2,q3⟩:=ZcY hp c3 d3 e3 ch f4 l4 an run.drop
   exact q t c g la2 H4 q1 q2 q3 tk4
  ·rw[decide_eq_true rfl]
   refine⟨_,rfl,iteT ?_⟩
   exact⟨by decide,fun e he=>⟨e,_,none,rfl,Zae,T.x_LS,x e _ (Zck he) (.bare Zae)⟩⟩
theorem ZlS:FnScope ["strip","length","word"] ["strip","length"] (Zag s_K2):=by walk_at "sc"
theorem Zmy (T:TL K mg base a tb):FnOk P w K mg base (CXr P w) 8 a.f_K2 a.d_K2 ["strip","length"] (Zob K a):=by
 refine T.f_K2.okCX T.cd_K2 ZlS (fun vs H Q E h=>?_) (fun A outer s H vs Q E hr h=>?_)
 ·obtain⟨_,_,_,_,rfl,_⟩:=h;rfl
 ·have hu64:=hr.units
  have hu1:=ZaM hr
  obtain⟨p,l,m,v,rfl,hp,l40,q⟩:=h
  refine⟨_,(Zaj (Zac (ZaW (Zbg (ZaZ (Zao (ZoS T) (hr.mono (by decide)) rfl T.m_LG T.f_LG.kp T.b_LG .nil Zav (Zaa (pv 1) (Zaa Zak (Zaa (Zah (Zas (K:=K) rfl) rfl T.z_len ZaN (Zaa (Zdg (Za4 (pv 0) T.cl_LH T.me_Plain_text (ZeR T) (hr.mono (by decide)) T.b_KS .nil Zav) (Za4 (pv 0) T.cl_LI T.me_Strip_text (ZeR T) (hr.mono (by decide)) T.b_KS .nil Zav)) Zab)) Zab)))))) (Zad (ZbF Zbr rfl (Zea T.x_KY T.i_KY T.fn_KY (ZcQ T) (hr.mono (by decide)) T.b_KY Zav rfl T.m_KY (Zaa (pv 1) Zab)))) Zat)
   (Zaj (Zac (Zaw (i:=2) ZlS.nd rfl (Or.inl rfl) (ZhJ (k:=5) (i:=0) (fr:="strip") (N:=["each","strip"]) (x1:="each") (q:="oftenest.<locals>.<lambda>") (hr.mono (by decide)) rfl rfl T.z_max T.L_oftenest rfl (fun c h=>ZdH (by decide +kernel) h) rfl (by kernel_rfl) rfl rfl ⟨rfl,rfl,rfl,by decide +kernel,by decide +kernel,by decide +kernel,by decide +kernel,by decide +kernel,rfl⟩ (fun _ us _ _ _ _ hl=>by match us,hl with | [x],_=>exact .of_eq rfl) (fun _ _ _ _ _ _ _ hr2=>Zao (Zmm T) (hr2.mono (by decide)) rfl T.m_KV T.f_KV.kp T.b_KV .nil Zav (Zaa (pv 1) (Zaa (pv 0) Zab))) (Zaa (Zdg (Zbe (pv 0) T.cl_LH T.me_Plain_words (Zmr T) (hr.mono (by decide)) T.b_KH .nil Zav (Zaa (pv 1) Zab)) (Zbe (pv 0) T.cl_LI T.me_Strip_words (Zmr T) (hr.mono (by decide)) T.b_KH .nil Zav (Zaa (pv 1) Zab))) Zab)))
   (Zaj (Zad (Zar (Zbl (Zaa (pv 2) (Zaa (Zao (Zmm T) (hr.mono (by decide)) rfl T.m_KV T.f_KV.kp T.b_KV .nil Zav (Zaa (pv 0) (Zaa (pv 2) Zab))) Zab)))))))))),?_⟩
  have sz:∀k:Nat,k≤9000→k≤sizeLine:=fun k h=>YAQ h (by rw[sizeLine_eq];decide)
  have bt:=hp
  obtain⟨C,dx,fs,hC,f,gt,gk,n1,n2,n3,n4,n5⟩:=hp
  walk_at "rd"
  refine Zal ?_
  walk_at "rd"
  have up':XNl a E H v→(1≤1000∧MkI (ZdL K a.c_KY 1 (fs1 (Str.ofString "length"))) E0 a.c_KY [v] H fun v H1=>∃e C d,v=.ref e∧H1 e=some (xo e C d)∧Xm K C∧E (.ref C) (some e) (upd H1 e (xr e C d))):=fun z=>
   ⟨by decide,MkI.of rfl fun e H2 s2 n2 x2=>by
    obtain⟨d,hd,hx⟩:=Zdf x2
    exact⟨e,_,d,rfl,hd,T.x_KY,z e _ (same_upd3 s2 n2) hx⟩⟩
  have txt:∀ {Q':VK},Q' (tx l) H→Zht K a [.ref p] H Q' E0:=fun hq=>⟨p,l,rfl,bt.text,hq⟩
  refine Zcg hC f n1 (txt ?_) (txt ?_)
  all_goals
   refine⟨_,_,rfl,Zbf (by omega),_,_,_,rfl,?_⟩
   rcases q with⟨n,rfl,hn1,hnl,hlm,tk,q⟩|⟨⟨i,rfl,hi⟩ | o,x⟩
   rotate_left
   ·refine .inl ⟨_,rfl,_,rfl,?_⟩
    have:(decide (1≤i)&&decide (i≤((l.length:Nat):Int)))=false:=by
     rw[Bool.and_eq_false_iff]
     rcases hi with z | z
     ·exact .inl (decide_eq_false (by omega))
     ·exact .inr (decide_eq_false (by omega))
    rw[this]
    exact iteT (up' x)
   ·exact .inr ⟨o,_,rfl,iteT (up' x)⟩
   refine .inl ⟨_,rfl,_,rfl,?_⟩
   rw[decide_eq_true (show (1:Int)≤((n:Nat):Int) by omega),decide_eq_true (show ((n:Nat):Int)≤((l.length:Nat):Int) by omega)]
   refine iteF (Zal ?_)
   walk_at "rd"
   have wrd:∀ {Q':VK},(∀q H2,Same H H2→H q=none→H2 q=some (.lst ((wordsOf l n).map tx))→Q' (.ref q) H2)→ZlL K a [.ref p,.int (n:Nat)] H Q' E0:=fun hq=>⟨p,l,m,n,rfl,bt,l40,by omega,hq⟩
   refine Zcg hC f n2 (wrd fun r H1 s1 nr l1=>?_) (wrd fun r H1 s1 nr l1=>?_)
   all_goals
    have hne:0<(wordsOf l n).length:=List.length_pos_of_mem ((ZaD (l:=l) (x:=l.take n) (by omega)).mpr ⟨by rw[YAV];omega,⟨0,by rw[YAV];omega,by rw[YBU,YAV,YBg hnl]⟩⟩)
    have good:∀ {w:List Nat},w∈wordsOf l n→w.length≤40∧isw w m 60=true:=fun {w} hw=>by
     have h:=(ZaD (l:=l) (by omega)).mp hw
     exact⟨by omega,ZmZ (fun x hx=>hlm x (h.2.mem hx)) (by omega)⟩
    have tk1:=tk.same s1
    refine⟨r,wordsOf l n,fun k=>((cntW l ((wordsOf l n).getD k []):Nat):Int),.ref p,rfl,l1,hne,rfl,tk1.2,fun H2 st t2=>⟨fun j w H3 hj s3=>?_,fun j w H3 hj mo s3=>Zal ?_⟩⟩
    ·have hw:=good (YAe hj)
     refine⟨p,l,m,w,rfl,((bt.same s1).l st.1).same s3,l40,by omega,hw.2,fun H4 s4=>⟨?_,s4⟩⟩
     show V.int ((placesOf l w).length:Nat)=V.int ((cntW l ((wordsOf l n).getD j []):Nat):Int)
     rw[YAR,hj]
     rfl
    ·have hw:=good (YAe hj)
     have of:=Zi1 hnl hj mo
     walk_at "rd"
     refine⟨p,l,m,w,rfl,((bt.same s1).l st.1).same s3,l40,by omega,hw.2,fun H4 s4=>⟨sz _ (by decide),NewT.of fun t H5 s5 n5 l5=>?_⟩⟩
     have s35:=s3.trans (s4.trans s5)
     exact q t w H5 ((s1.l.trans st.1).trans s35.l) ⟨(st.2 _ _ _ (by decide) tk1.1).same s35,t2.same s35⟩ l5 of
theorem ZiO:FnScope ["_law_strip","_law_thing","_law_caught","e"] ["_law_strip","_law_thing"] (Zag s_K7):=by walk_at "sc"
theorem Zmw (T:TL K mg base a tb):FnOk P w K mg base CX0 9 a.f_K7 a.d_K7 ["_law_strip","_law_thing"] (Zn8 K a):=by
 refine T.f_K7.ok ZiO (fun vs H Q E h=>?_) (fun cdv A outer s H vs Q E hr h=>?_)
 ·obtain⟨_,_,_,_,rfl,_⟩:=h;rfl
 ·have hu64:=hr.units
  have hu1:=ZaM hr
  obtain⟨p,l,m,v,rfl,hp,l40,br,q⟩:=h
  refine⟨_,(Zac (Zaw (i:=2) ZiO.nd rfl (Or.inl rfl) ZdQ)
   (Zaj (Zac (Zl4 rfl rfl (ZiV (ZiU (ZiW (Zmy T) (hr.mono (by decide)) rfl T.m_K2 T.f_K2.kp T.b_K2 .nil (Zaa (pv 0) (Zaa (pv 1) Zab))))) (ZoK (i:=3) (fun _=>hr.hd) rfl T.m_KT ZiO.nd rfl rfl (fun _=>(Zad (Zaw (i:=2) ZiO.nd rfl (Or.inl rfl) (pv 3)))) Zl6))
   (Zaj (Zac (ZaW (PW.pt (ZgO (Zbg (ZaZ (Zah (Zam (K:=K) rfl) rfl T.z_isinstance Zai (Zaa (pv 2) (Zaa (ZcB (v:=.ref a.c_KY) rfl T.m_KY rfl) Zab))))) (ZdO (ZaZ (Zah (Zew (K:=K) rfl) rfl T.z_isinstance Zai (Zaa (pv 2) (Zaa (Zbl (Zaa (ZcB (v:=.ref a.c_K4) rfl T.m_K4 rfl) (Zaa (ZcB (v:=.ref a.c_K9) rfl T.m_K9 rfl) Zab))) Zab))))))) (Zad (Zar Zbv)) Zat)
   (Zaj (Zad (Zar (Zbn (ZaK (ZeQ (K:=K) rfl hu64) (Zgf (K:=K) rfl (pv 2) rfl) (pv 1) (Zax _)) (ZbP (ZaK (Zba (K:=K) rfl hu64) (Zah (Zam (K:=K) rfl) rfl T.z_isinstance Zai (Zaa (Zgf (K:=K) rfl (pv 2) rfl) (Zaa (Zaz (v:=.ty "bool") rfl T.z_bool Zce rfl) Zab))) (Zah (Zam (K:=K) rfl) rfl T.z_isinstance Zai (Zaa (pv 1) (Zaa (Zaz (v:=.ty "bool") rfl T.z_bool Zce rfl) Zab))) (Zax _)))))))))))),?_⟩
  have sz:∀k:Nat,k≤9000→k≤sizeLine:=fun k h=>YAQ h (by rw[sizeLine_eq];decide)
  have nd:=T.nd
  simp only[YCN,YAM,YBk,or_false,not_or]at nd
  obtain⟨⟨a1,a2,a3,_⟩,⟨b2,b3,_⟩,⟨c3,_⟩,_⟩:=nd
  obtain⟨T0,b0,ty,kb,se⟩:=br.tame
  walk_at "rd"
  refine Zal ?_
  walk_at "rd"
  have xp:=Zlc (b:=true) T.k_KY T.k_KT (by simp[YCF]) (by simp[YCF])
  refine⟨p,l,m,v,rfl,hp,l40,.inr ⟨br,fun e H3 s3 x=>⟨e,_,rfl,rfl,true,xp,iteT (Zal ?_)⟩⟩⟩
  walk_at "rd"
  refine⟨_,_,_,_,true,rfl,rfl,.exc x T.xi_KY,ZfK T.k_KY T.k_KY Zls (fun _=>rfl),iteF ⟨sz _ (by decide),NewT.of fun pt H4 s4 n4 l4=>⟨e,_,_,pt,[a.c_K4,a.c_K9],false,rfl,l4,x.same s4,T.xi_KY,Zg3 (ZfK T.k_KY T.k_K4 (Zlt (YAw c3) (YAw a3)) (fun z=>absurd z c3)) (ZfK T.k_KY T.k_K9 (Zlt b2 (YAw a1)) (fun z=>absurd z.symm b2)),iteF (Zal ?_)⟩⟩⟩
  have x4:=x.same s4
  have s04:=s3.trans s4
  walk_at "rd"
  have fin:∃(e_2 C:Addr) (fs:List (Str×V)) (v_2:V),V.ref e=V.ref e_2∧XAny H4 e_2 C fs∧Xc K C∧NoAttr K C (Str.ofString "length")∧List.lookup (Str.ofString "length") fs=some v_2∧∃x c t k b,[v_2,V.ty "bool"]=[x,c]∧clsV c=some k∧TyR K H4 x t∧PySem.W.kitOne K t k=some b∧∃x c t k b_1,[v,V.ty "bool"]=[x,c]∧clsV c=some k∧TyR K H4 x t∧PySem.W.kitOne K t k=some b_1∧rEqD K false (V.bl b) (V.bl b_1) H4 Q:=by
   have ty3:=TyX.same ty s04
   refine⟨e,_,_,_,rfl,x4,T.x_KY.c,T.n_NoLength_length,Zic,_,_,_,_,b0,rfl,rfl,.ty ty3,kb,_,_,_,_,b0,rfl,rfl,.ty ty3,kb,.inl ⟨rfl,?_⟩⟩
   rw[YAJ YAE,decide_eq_true rfl]
   exact q H4 s04
  refine⟨e,_,_,_,rfl,x4,T.x_KY.c,T.n_NoLength_length,Zic,?_⟩
  rcases se.same s04 with⟨d,o⟩|⟨b2,kvs,rfl,hb⟩
  ·exact .inl (eq_self o ⟨true,rfl,iteT fin⟩)
  ·exact .inr ⟨b2,kvs,rfl,rfl,hb,true,rfl,iteT fin⟩
theorem ZlO:FnScope ["_law_band","_law_row","_law_length"] ["_law_band","_law_row"] (Zag s_LQ):=by walk_at "sc"
theorem ZhN (T:TL K mg base a tb):FnOk P w K mg base CX0 10 a.f_LQ a.d_LQ ["_law_band","_law_row"] (ZnD K a):=by
 refine T.f_LQ.ok ZlO (fun vs H Q E h=>?_) (fun cdv A outer s H vs Q E hr h=>?_)
 ·obtain⟨_,_,_,rfl,_⟩:=h;rfl
 ·have hu64:=hr.units
  have hu1:=ZaM hr
  obtain⟨p,l,m,rfl,hp,ok,tk,q⟩:=h
  refine⟨_,(Zac (Zbs YBJ rfl (ZeL rfl T.z_range (Zaa Zak (Zaa (Zau Za0 (Zah (Zas (K:=K) rfl) rfl T.z_len ZaN (Zaa (pv 1) Zab)) Zak) Zab))) (ZaC (i:=2) ZlO.nd rfl (Or.inl rfl))
   (Zad (ZaW (Zbg (ZaZ (Zao (ZoQ T) (hr.mono (by decide)) rfl T.m_LM T.f_LM.kp T.b_LM .nil Zav (Zaa (Zao (Zmy T) (hr.mono (by decide)) rfl T.m_K2 T.f_K2.kp T.b_K2 .nil ZbR (Zaa (pv 0) (Zaa (pv 2) Zab))) (Zaa (Zao (Zmg T) (hr.mono (by decide)) rfl T.m_due T.f_due.kp T.b_due .nil Zav (Zaa (pv 1) (Zaa (pv 2) Zab))) Zab))))) (Zad (Zar Zbv)) Zat)))
   (Zaj (Zad (Zar (Zbn (Zao (Zmw T) (hr.mono (by decide)) rfl T.m_K7 T.f_K7.kp T.b_K7 .nil Zav (Zaa (pv 0) (Zaa (Zau Za0 (Zah (Zas (K:=K) rfl) rfl T.z_len ZaN (Zaa (pv 1) Zab)) Zak) Zab))) (ZbP (ZaK (Zba (K:=K) rfl hu64) (Zdg (Za4 (pv 0) T.cl_LH T.me_Plain_text (ZeR T) (hr.mono (by decide)) T.b_KS .nil Zav) (Za4 (pv 0) T.cl_LI T.me_Strip_text (ZeR T) (hr.mono (by decide)) T.b_KS .nil Zav)) (pv 1) (Zax _)))))))),?_⟩
  have l40:=ok.l40
  walk_at "rd"
  refine⟨_,_,rfl,Zbf (by omega),_,_,rfl,⟨by omega,by omega,by omega,by omega⟩,?_⟩
  have en:((l.length:Int)+1-1).toNat=l.length:=by omega
  rw[en]
  refine ForRun.range (fun i σ H'=>∃v2,σ=[some (.ref p),some (tx l),v2]∧SameL H H'∧TT a H') ⟨_,rfl,SameL.refl _,tk⟩ ?_ ?_
  ·rintro i σ H1 hi ⟨v2,rfl,s1,t1⟩
   have e1:(1+(i:Int))=((i+1:Nat):Int):=by omega
   rw[e1]
   walk_at "rd"
   refine⟨p,l,m,_,rfl,hp.l s1,l40,.inl ⟨i+1,rfl,by omega,by omega,ok.mem,t1,fun t w H2 s2 t2 h2 o2=>⟨l,i+1,rfl,l40,by omega,by omega,fun t' w' H3 s3 h3 o3=>?_⟩⟩⟩
   have ew:=o2.one o3
   subst ew
   refine⟨_,_,rfl,.inr ⟨t,t',_,rfl,rfl,s3 _ _ h2,h3,by show (2:Nat)≤1000;decide,fun v hv=>?_⟩,fun H4 s4=>⟨true,rfl,iteF ⟨_,rfl,(s1.trans s2).trans (s3.trans s4).l,t2.same (s3.trans s4)⟩⟩⟩
   rcases YAM.mp hv with rfl | hv
   ·exact .inl ⟨_,rfl⟩
   ·rw[YAX.mp hv];exact .inr ⟨_,rfl⟩
  ·rintro σ H1 ⟨v2,rfl,s1,t1⟩
   walk_at "rd?"
   refine Zal ?_
   walk_at "rd"
   have bt:=hp.l s1
   refine⟨_,_,rfl,Zbf (by omega),p,l,m,_,rfl,bt,l40,.inl ⟨_,rfl,.inr (by omega)⟩,fun H2 s2=>⟨true,rfl,iteT ?_⟩⟩
   obtain⟨C,dx,fs,hC,f,gt,gk,n1,n2,n3,n4,_⟩:=id (bt.same s2)
   have fin:∀ {Q':VK},Q' (tx l) H2→Zht K a [.ref p] H2 Q' E0:=fun hq=>⟨p,l,rfl,(bt.same s2).text,hq⟩
   refine Zcg hC f n1 (fin ?_) (fin ?_)
   all_goals exact .inl ⟨rfl,by rw[YAJ YAE,decide_eq_true rfl];exact q H2 (s1.trans s2.l) (t1.same s2)⟩
theorem ZfE:FnScope ["_law_text_here","_law_kinds_here","_law_cell_here","_law_right_here","_law_strip","_law_cut","_law_many","_law_letter","_law_lap"] ["_law_text_here","_law_kinds_here","_law_cell_here","_law_right_here"] (Zag s_LP):=by walk_at "sc"
theorem ZoO (T:TL K mg base a tb):FnOk P w K mg base CX0 11 a.f_LP a.d_LP ["_law_text_here","_law_kinds_here","_law_cell_here","_law_right_here"] (ZnE K a):=by
 refine T.f_LP.ok ZfE (fun vs H Q E h=>?_) (fun cdv A outer s H vs Q E hr h=>?_)
 ·obtain⟨_,_,_,rfl,_⟩:=h;rfl
 ·have hu64:=hr.units
  have hu1:=ZaM hr
  obtain⟨l,m,c,rfl,ok,tk,q⟩:=h
  refine⟨_,(Zac (Zaw (i:=4) ZfE.nd rfl (Or.inl rfl) (ZhK T.mk_LI (ZoZ T) (hr.mono (by decide)) rfl T.m_LI T.b_KO .nil ZbR (Zaa (pv 1) Zab)))
   (Zaj (Zac (Zaw (i:=5) ZfE.nd rfl (Or.inl rfl) (Zau Zbc (pv 2) (Zau Za0 (Zah (Zas (K:=K) rfl) rfl T.z_len ZaN (Zaa (pv 0) Zab)) Zak)))
   (Zaj (Zac (Zaw (i:=6) ZfE.nd rfl (Or.inl rfl) (Zau Zbc (Zau Zbo (pv 2) Zak) (Zau Za0 (Zah (Zas (K:=K) rfl) rfl T.z_len ZaN (Zaa (pv 0) Zab)) Zak)))
   (Zaj (Zac (Zbs YBJ rfl (Zd9 (ZaH ZbJ (pv 0) Za5 (ZaO (pv 5)))) (ZaC (i:=7) ZfE.nd rfl (Or.inl rfl))
   (Zad (ZaX (Zbe (pv 4) T.cl_LI T.me_KU (Zmn T) (hr.mono (by decide)) T.b_KU .nil ZbR (Zaa (pv 7) Zab)))))
   (Zaj (Zac (ZaW (Zbg (ZaZ (ZcX (ZhN T) (hr.mono (by decide)) (pv 3) T.f_LQ.kp T.b_LQ .nil Zav (Zaa (pv 4) (Zaa (ZaH ZbJ (pv 0) Za5 (ZaO (pv 5))) Zab))))) (Zad (Zar Zbv)) Zat)
   (Zaj (Zac (Zbs YBJ rfl (Zd9 (ZaH ZbJ (pv 0) (ZaO (pv 5)) Za5)) (ZaC (i:=7) ZfE.nd rfl (Or.inl rfl))
   (Zad (ZaX (Zbe (pv 4) T.cl_LI T.me_KU (Zmn T) (hr.mono (by decide)) T.b_KU .nil ZbR (Zaa (pv 7) Zab)))))
   (Zaj (Zac (ZaW (Zbg (ZaZ (ZcX (ZhN T) (hr.mono (by decide)) (pv 3) T.f_LQ.kp T.b_LQ .nil Zav (Zaa (pv 4) (Zaa (pv 0) Zab))))) (Zad (Zar Zbv)) Zat)
   (Zaj (Zac (Zbs YBJ rfl (Zbz rfl T.z_range (Zaa (pv 6) Zab)) (ZaC (i:=8) ZfE.nd rfl (Or.inl rfl))
   (Zad (ZaX (Za4 (pv 4) T.cl_LI T.me_KM (Zo0 T) (hr.mono (by decide)) T.b_KM .nil ZbR))))
   (Zaj (Zac (ZaW (Zbg (ZaZ (ZcX (ZhN T) (hr.mono (by decide)) (pv 3) T.f_LQ.kp T.b_LQ .nil Zav (Zaa (pv 4) (Zaa (ZaH ZbJ (pv 0) (ZaO (pv 6)) Za5) Zab))))) (Zad (Zar Zbv)) Zat)
   (Zaj (Zac (ZaW (ZaG ZiZ (pv 6) Zak (Zax _)) (Zac (ZaX (Za4 (pv 4) T.cl_LI T.me_KL (Zo1 T) (hr.mono (by decide)) T.b_KL .nil ZbR))
   (Zad (Zar (ZcX (ZhN T) (hr.mono (by decide)) (pv 3) T.f_LQ.kp T.b_LQ .nil Zav (Zaa (pv 4) (Zaa (ZaH ZbJ (pv 0) (ZaO (Zau ZdR (pv 6) Zak)) Za5) Zab)))))) Zat)
   (Zad (Zar Zbv))))))))))))))))))))),?_⟩
  have sz:∀k:Nat,k≤9000→k≤sizeLine:=fun k h=>YAQ h (by rw[sizeLine_eq];decide)
  have l40:=ok.l40
  have lm:=ok.mem
  have kok:=ok.kok
  have tat:∀ {H':Hp} {p la da:Addr} {l':List Nat} {ds:List (Bool×Nat)},StripAt a.c_LI H' p la da l' m ds→BandT a H' p l' m:=fun h=>BandAt.t (.inr ⟨_,_,_,h⟩)
  walk_at "rd"
  intro p dx np ndx ne
  refine⟨p,dx,_,rfl,Zae,.inl ⟨m,rfl,kok,fun la0 da H1 at1 nla nda k1=>⟨rfl,Zal ?_⟩⟩⟩
  have s1:Same H H1:=fun b o e=>k1 b o (by rw[Zaf (Zan e np),Zaf (Zan e ndx)];exact e) (Zan e np)
  have tk1:=tk.same s1
  have nda0:H da=none:=by
   cases e:H da with
   | none=>rfl
   | some o=>rw[Zaf (Zan e np),Zaf (Zan e ndx),e]at nda;cases nda
  have keepL:∀ {H' H'':Hp},SameL H H'→Chg [p,da] H' H''→SameL H H'':=fun sl ch bb o e t=>ch _ _ (sl _ _ e t) (by
   simp only[YAM,YBk,or_false,not_or]
   refine⟨fun z=>?_,fun z=>?_⟩
   ·rw[z,np]at e;cases e
   ·rw[z,nda0]at e;cases e) t
  walk_at "rd"
  have cutN:∀x:Int,∃n:Nat,x % ((l.length:Nat)+1)=(n:Int)∧n≤l.length:=fun x=>⟨(x % ((l.length:Nat)+1)).toNat,by have:=YBx x (show (((l.length:Nat):Int)+1)≠0 by omega);omega,by have:=YBp x (show (0:Int)<((l.length:Nat):Int)+1 by omega);omega⟩
  refine⟨_,_,rfl,Zbf (by omega),by omega,Zal ?_⟩
  obtain⟨n1,en1,hn1⟩:=cutN c
  rw[en1]
  walk_at "rd"
  refine⟨⟨by decide,by decide⟩,_,_,rfl,Zbf (by omega),by omega,Zal ?_⟩
  obtain⟨n2,en2,hn2⟩:=cutN (c/41)
  rw[en2]
  walk_at "rd"
  refine⟨_,rfl,l,rfl,sz _ (by omega),l.take n1,by rw[Zfk],ForRun.text (fun i σ H'=>∃v7 la ds,σ=[some (tx l),some (tx m),some (.int c),some (.ref a.f_LQ),some (.ref p),some (.int (n1:Nat)),some (.int (n2:Nat)),v7,none]∧StripAt a.c_LI H' p la da ((l.take n1).take i) m ds∧ds.length≤i∧TT a H'∧SameL H H') ⟨_,la0,[],rfl,at1,YAP _,tk1,s1.l⟩ ?_ ?_⟩
  ·rintro i x σ H2 hx ⟨v7,la,ds,rfl,at2,dl,tk2,sl2⟩
   have hi:i<(l.take n1).length:=(YAW.mp hx).1
   rw[YAV]at hi
   obtain⟨dx2,f2⟩:=id at2.fld
   walk_at "rd"
   refine⟨p,dx2,_,rfl,f2,sN (by decide +kernel),p,la,da,_,m,ds,_,rfl,at2,by omega,tk2,.inl ⟨x,rfl,lm x (YAb (YAe hx)),by rw[YAV,YAV];omega,fun t c1 g la2 H3 q1 q2 q3 q4=>?_⟩⟩
   rw[←ZbK hx]at q2
   exact⟨_,la2,_,rfl,q2,by rw[YAI];exact YDG dl,q4,keepL sl2 q1⟩
  ·rintro σ H2 ⟨v7,la,ds,rfl,at2,dl,tk2,sl2⟩
   rw[YCU]at at2
   rw[YAV]at dl
   walk_at "rd?"
   refine Zal ?_
   walk_at "rd"
   refine⟨trivial,_,rfl,l,rfl,sz _ (by omega),p,l.take n1,m,by rw[Zfk],tat at2,Zcj at2,tk2,fun H3 s3 tk3=>⟨true,rfl,iteF (Zal ?_)⟩⟩
   walk_at "rd"
   refine⟨_,rfl,l,rfl,sz _ (by omega),l.drop n1,by rw[Zb2],ForRun.text (fun i σ H'=>∃v7 la ds,σ=[some (tx l),some (tx m),some (.int c),some (.ref a.f_LQ),some (.ref p),some (.int (n1:Nat)),some (.int (n2:Nat)),v7,none]∧StripAt a.c_LI H' p la da (l.take n1++(l.drop n1).take i) m ds∧ds.length≤40+i∧TT a H'∧SameL H H') ⟨_,la,ds,rfl,by rw[List.take_zero,YCh];exact at2.l s3,by omega,tk3,sl2.trans s3⟩ ?_ ?_⟩
   ·rintro i x σ H4 hx ⟨v7,la,ds,rfl,at4,dl,tk4,sl4⟩
    have hi:i<(l.drop n1).length:=(YAW.mp hx).1
    rw[YAm]at hi
    obtain⟨dx2,f2⟩:=id at4.fld
    walk_at "rd"
    refine⟨p,dx2,_,rfl,f2,sN (by decide +kernel),p,la,da,_,m,ds,_,rfl,at4,by omega,tk4,.inl ⟨x,rfl,lm x (YAc (YAe hx)),by rw[YAI,YAV,YAV,YAm];omega,fun t c1 g la2 H5 q1 q2 q3 q4=>?_⟩⟩
    rw[YAh,←ZbK hx]at q2
    exact⟨_,la2,_,rfl,q2,by rw[YAI];exact YDG dl,q4,keepL sl4 q1⟩
   ·rintro σ H4 ⟨v7,la,ds,rfl,at4,dl,tk4,sl4⟩
    rw[YCU,YAj]at at4
    rw[YAm]at dl
    walk_at "rd?"
    refine Zal ?_
    walk_at "rd"
    refine⟨trivial,p,l,m,rfl,tat at4,Zcj at4,tk4,fun H5 s5 tk5=>⟨true,rfl,iteF (Zal ?_)⟩⟩
    walk_at "rd"
    refine⟨_,rfl,by omega,by omega,?_⟩
    have en:((n2:Nat):Int).toNat=n2:=by omega
    rw[en]
    refine ForRun.range (fun i σ H'=>∃v8 la ds,σ=[some (tx l),some (tx m),some (.int c),some (.ref a.f_LQ),some (.ref p),some (.int (n1:Nat)),some (.int (n2:Nat)),v7,v8]∧StripAt a.c_LI H' p la da (l.drop i) m ds∧ds.length≤80+i∧TT a H'∧(i=0∨∃ds0 c0,ds=ds0++[(false,c0)]∧l[i-1]?=some c0)∧SameL H H') ⟨_,la,ds,rfl,at4.l s5,by omega,tk5,.inl rfl,sl4.trans s5⟩ ?_ ?_
    ·rintro i σ H6 hi ⟨v8,la,ds,rfl,at6,dl,tk6,_,sl6⟩
     obtain⟨dx2,f2⟩:=id at6.fld
     have hil:i<l.length:=by omega
     have ed:l.drop i=l[i]::l.drop (i+1):=YCH hil
     walk_at "rd"
     refine⟨p,dx2,_,rfl,f2,sN (by decide +kernel),p,la,da,l.drop i,m,ds,rfl,at6,by omega,tk6,.inl ⟨l[i],l.drop (i+1),ed,fun t c1 g la2 H7 q1 q2 q3 q4=>⟨_,la2,_,rfl,q2,by rw[YAI];exact YDG dl,q4,.inr ⟨ds,l[i],rfl,by rw[Nat.add_sub_cancel];exact YAL hil⟩,keepL sl6 q1⟩⟩⟩
    ·rintro σ H6 ⟨v8,la,ds,rfl,at6,dl,tk6,last,sl6⟩
     walk_at "rd?"
     refine Zal ?_
     walk_at "rd"
     refine⟨trivial,_,rfl,l,rfl,sz _ (by omega),p,l.drop n2,m,by rw[Zb2],tat at6,Zcj at6,tk6,fun H7 s7 tk7=>⟨true,rfl,iteF (Zal ?_)⟩⟩
     walk_at "rd"
     refine ite2 (fun h=>?_) (fun _=>q H7 (sl6.trans s7))
     have h0:0<n2:=by have:=of_decide_eq_true h;omega
     rcases last with z | ⟨ds0,c0,e0,h1⟩
     ·omega
     have at7:=at6.l s7
     obtain⟨dx2,f2⟩:=id at7.fld
     refine⟨p,dx2,_,rfl,f2,sN (by decide +kernel),p,la,da,l.drop n2,m,ds,rfl,at7,by omega,tk7,.inr (.inl ⟨ds0,c0,e0,fun t c1 g la2 H8 q1 q2 q3 q4=>?_⟩)⟩
     have e1:((n2:Nat):Int)-1=((n2-1:Nat):Int):=by omega
     have e2:c0::l.drop n2=l.drop (n2-1):=by
      have hl':=(YAW.mp h1).1
      rw[YCH hl',(YAW.mp h1).2]
      congr 2
      omega
     rw[e2]at q2
     exact⟨trivial,_,rfl,l,rfl,sz _ (by omega),p,l.drop (n2-1),m,by rw[e1,Zb2],tat q2,Zcj q2,q4,fun H9 s9 _=>q H9 ((keepL (sl6.trans s7) q1).trans s9)⟩
theorem ZdN:FnScope ["_law_script","_law_kinds_here","_law_text_here","_law_strip","_law_far","_law_thing"] ["_law_script"] (Zag ZcP):=by walk_at "sc"
theorem ok_law (T:TL K mg base a tb):FnOk P w K mg base CX0 12 a.f_law a.d_law ["_law_script"] (spLaw K tb):=by
 refine T.f_law.ok ZdN (fun vs H Q E h=>?_) (fun cdv A outer s H vs Q E hr h=>?_)
 ·obtain⟨_,_,rfl,_⟩:=h;rfl
 ·have hu64:=hr.units
  have hu1:=ZaM hr
  obtain⟨b,ns,rfl,hS,hl,tk,tkO,q⟩:=h
  obtain⟨es0_,ees0_⟩:∃es_,es_=Zpd ((ZaP ZcP).getD 5 (.Pass ⟨0,0,0,0⟩)):=⟨_,rfl⟩
  have eb_:ZaP ZcP=[(ZaP ZcP).getD 0 (.Pass ⟨0,0,0,0⟩),(ZaP ZcP).getD 1 (.Pass ⟨0,0,0,0⟩),(ZaP ZcP).getD 2 (.Pass ⟨0,0,0,0⟩),(ZaP ZcP).getD 3 (.Pass ⟨0,0,0,0⟩),(ZaP ZcP).getD 4 (.Pass ⟨0,0,0,0⟩),Zpc es0_ ((ZaP ZcP).getD 5 (.Pass ⟨0,0,0,0⟩)),(ZaP ZcP).getD 6 (.Pass ⟨0,0,0,0⟩)]:=by
   rw[ees0_]
   kernel_rfl
  rw[eb_]
  refine' ⟨_,(Zac (Zaw (i:=1) ZdN.nd rfl (Or.inl rfl) (Zao (ZoW T) (hr.mono (by decide)) rfl T.m_LB T.f_LB.kp T.b_LB .nil Zav (Zaa (Zao (ZhO T) (hr.mono (by decide)) rfl T.m_LL T.f_LL.kp T.b_LL .nil Zav (Zaa (pv 0) (Zaa Zak Zab))) Zab)))
   (Zaj (Zac (Zaw (i:=2) ZdN.nd rfl (Or.inl rfl) (Zao (ZoP T) (hr.mono (by decide)) rfl T.m_LN T.f_LN.kp T.b_LN .nil Zav (Zaa (pv 0) (Zaa Zak (Zaa (pv 1) Zab)))))
   (Zaj (Zac (Zaw (i:=3) ZdN.nd rfl (Or.inl rfl) (ZhK T.mk_LH (Zo2 T) (hr.mono (by decide)) rfl T.m_LH T.b_KK .nil ZbR (Zaa (pv 2) (Zaa (pv 1) Zab))))
   (Zaj (Zac (ZaW (PW.pt (ZgO (Zbg (ZaZ (Zao (ZhN T) (hr.mono (by decide)) rfl T.m_LQ T.f_LQ.kp T.b_LQ .nil Zav (Zaa (pv 3) (Zaa (pv 2) Zab))))) (ZdO (Zbg (ZaZ (Zao (ZoO T) (hr.mono (by decide)) rfl T.m_LP T.f_LP.kp T.b_LP .nil Zav (Zaa (pv 2) (Zaa (pv 1) (Zaa (Zao (Zi0 T) (hr.mono (by decide)) rfl T.m_LO T.f_LO.kp T.b_LO .nil Zav (Zaa (Zao (ZhO T) (hr.mono (by decide)) rfl T.m_LL T.f_LL.kp T.b_LL .nil Zav (Zaa (pv 0) (Zaa Zak Zab))) (Zaa Zak Zab))) (Zaa (ZcB (v:=.ref a.f_LQ) rfl T.m_LQ rfl) Zab)))))))))) (Zad (Zar Zbv)) Zat)
   (Zaj (Zac (Zaw (i:=4) ZdN.nd rfl (Or.inl rfl) (Zao (Zi0 T) (hr.mono (by decide)) rfl T.m_LO T.f_LO.kp T.b_LO .nil Zav (Zaa (Zao (ZhO T) (hr.mono (by decide)) rfl T.m_LL T.f_LL.kp T.b_LL .nil Zav (Zaa (pv 0) (Zaa Zak Zab))) (Zaa Zak Zab))))
   (Zaj (Zac (Zbs YBJ rfl (Zbh (K:=K) rfl (ZkB ?disp0)) (ZaC (i:=5) ZdN.nd rfl (Or.inl rfl))
   (Zad (ZaW (Zbg (ZaZ (Zao (Zmw T) (hr.mono (by decide)) rfl T.m_K7 T.f_K7.kp T.b_K7 .nil Zav (Zaa (pv 3) (Zaa (pv 5) Zab))))) (Zad (Zar Zbv)) Zat)))
   (Zaj (Zad (Zar (ZaK (Zba (K:=K) rfl hu64) (Zdg (Za4 (pv 3) T.cl_LH T.me_Plain_text (ZeR T) (hr.mono (by decide)) T.b_KS .nil Zav) (Za4 (pv 3) T.cl_LI T.me_Strip_text (ZeR T) (hr.mono (by decide)) T.b_KS .nil Zav)) (pv 2) (Zax _)))))))))))))))),?_⟩
  case disp0=>
   rw[ees0_]
   exact(Za9 Zak (Za9 (Zau ZdR Zak (pv 4)) (Za9 (Zau Za0 (Zah (Zas (K:=K) rfl) rfl T.z_len ZaN (Zaa (pv 2) Zab)) Zak) (Za9 (Zau Za0 (Zau Za0 (Zah (Zas (K:=K) rfl) rfl T.z_len ZaN (Zaa (pv 2) Zab)) Zak) (pv 4)) (Za9 Zbv (Za9 Zbv (Za9 ZdQ (Za9 (ZaQ (l:=[49]) (by decide +kernel)) (Za9 (Zdh (Zaa Zak Zab)) (Za9 (Zbl (Zaa Zak Zab)) (Za9 Zgg ZkD)))))))))))
  have sz:∀k:Nat,k≤9000→k≤sizeLine:=fun k h=>YAQ h (by rw[sizeLine_eq];decide)
  rw[←T.e_K0]at tk
  rw[←T.e_K2]at tkO
  have tt:TT a H:=⟨tk,tkO⟩
  walk_at "rd"
  refine⟨b,ns,0,rfl,hS,by decide,by decide,fun r0=>⟨_,rfl,fun m H1 mk m1 m4 s1=>Zal ?_⟩⟩
  walk_at "rd"
  refine⟨b,ns,1,m,rfl,s1.seq hS,by decide,by decide,m1,m4,fun l H2 ll lm s2=>Zal ?_⟩
  have ok:StripOk l m:=⟨mk,m1,m4,ll,lm⟩
  walk_at "rd"
  intro p dx np ndx ne
  refine⟨p,dx,l,m,rfl,Zae,ok,fun H3 f3 k3=>⟨rfl,Zal ?_⟩⟩
  have s3:Same H2 H3:=fun b o e=>k3 b o (by rw[Zaf (Zan e np),Zaf (Zan e ndx)];exact e) (Zan e np)
  have hp3:BandT a H3 p l m:=BandAt.t (.inl ⟨dx,f3⟩)
  have s03:=s1.trans (s2.trans s3)
  walk_at "rd"
  refine⟨p,l,m,rfl,hp3,ok,tt.same s03,fun H4 s4 t4=>⟨true,rfl,iteF ?_⟩⟩
  have S4:=(s03.seq hS).lL s4
  refine⟨b,ns,3,rfl,S4,by decide,by decide,fun r3=>⟨_,_,rfl,fun r7 _=>⟨l,m,r7,rfl,ok,t4,fun H5 s5=>⟨true,rfl,iteF (Zal ?_)⟩⟩⟩⟩
  have S5:=S4.lL s5
  have hp5:BandT a H5 p l m:=(hp3.l s4).l s5
  walk_at "rd"
  refine⟨b,ns,3,rfl,S5,by decide,by decide,fun r3'=>⟨_,_,rfl,fun far far0=>Zal ?_⟩⟩
  walk_at "r1"
  refine⟨_,rfl,_,_,rfl,rfl,_,rfl,_,_,rfl,Zbf (by omega),_,_,rfl,rfl,_,rfl,_,_,rfl,Zbf (by omega),_,_,rfl,rfl,_,rfl,_,_,rfl,rfl,sz _ (by decide),NewL.of fun q6 H6 s6 n6 l6=>⟨sz _ (by decide),NewT.of fun q7 H7 s7 n7 l7 q8 n8=>?_⟩⟩
  have s8:Same H7 (upd H7 q8 (.dK [])):=ZaF n8
  have l8:upd H7 q8 (.dK []) q8=some (.dK []):=Zae
  generalize upd H7 q8 (.dK [])=H8 at s8 l8
  refine⟨sz _ (by decide),NewL.of fun q9 H9 s9 n9 l9=>?_⟩
  have all:∀v∈[V.int 0,V.int (0-far),V.int ((l.length:Nat)+1),V.int ((l.length:Nat)+1+far),V.bl true,V.bl false,V.non,tx [49],V.ref q6,V.ref q7,V.ref q8],BadQ K H9 v l.length:=by
   intro v hv
   simp only[YAM,YBk,or_false]at hv
   rcases hv with rfl | rfl | rfl | rfl | rfl | rfl | rfl | rfl | rfl | rfl | rfl
   ·exact .inl ⟨_,rfl,.inl (by decide)⟩
   ·exact .inl ⟨_,rfl,.inl (by omega)⟩
   ·exact .inl ⟨_,rfl,.inr (by omega)⟩
   ·exact .inl ⟨_,rfl,.inr (by omega)⟩
   ·exact .inr ZhR
   ·exact .inr ZhR
   ·exact .inr Zi3
   ·exact .inr ZkI
   ·exact .inr (Zi4 ((s7.trans (s8.trans s9)) _ _ l6) rfl)
   ·exact .inr (Zi2 ((s8.trans s9) _ _ l7) rfl)
   ·exact .inr (ZkJ (s9 _ _ l8))
  have s59:=s6.trans (s7.trans (s8.trans s9))
  refine⟨q9,rfl,⟨_,.mk l9⟩,ForRun.list (xs:=[V.int 0,V.int (0-far),V.int ((l.length:Nat)+1),V.int ((l.length:Nat)+1+far),V.bl true,V.bl false,V.non,tx [49],V.ref q6,V.ref q7,V.ref q8]) (fun i σ H'=>∃(v5:Option V),σ=[some (.ref b),some (tx m),some (tx l),some (.ref p),some (.int far),v5]∧Same H9 H') ⟨_,rfl,Same.refl _⟩ (fun _ σ H' _ ⟨_,_,s'⟩=>s'.seq (.mk l9)) ?_ ?_⟩
  ·rintro i v σ HA hv ⟨v5,rfl,sA⟩
   have bad:=all v (YAe hv)
   have s5A:=s59.trans sA
   walk_at "rd"
   exact⟨p,l,m,v,rfl,hp5.same s5A,ll,bad.same sA,fun HB sB=>⟨true,rfl,iteF ⟨_,rfl,sA.trans sB⟩⟩⟩
  ·rintro σ HA ⟨v5,rfl,sA⟩
   have hpA:=hp5.same (s59.trans sA)
   walk_at "rd?"
   refine Zal ?_
   walk_at "rd"
   obtain⟨C,dx,fs,hC,f,gt,gk,n1,_⟩:=id hpA
   have fin:∀ {Q':VK},Q' (tx l) HA→Zht K a [.ref p] HA Q' E0:=fun hq=>⟨p,l,rfl,hpA.text,hq⟩
   refine Zcg hC f n1 (fin ?_) (fin ?_)
   all_goals exact Zld (q HA)
end
end Pk43
structure PySem.W.Fast:Prop where(tw10019404775564195790 tw10033221424005517825 tw10066852239944294415 tw10091705204125789743 tw10092498607542012437 tw10098108431655272493 tw10108520754414299588 tw10124456695866117114 tw10157011778621624894 tw1023997112434656964 tw10253604958898001832 tw10254589822993447802 tw10286462381007922814 tw10314843460548523686 tw10375026615164263889 tw10418906568302078310 tw10429906187848063102 tw10430546678940397536 tw10512622832267519286 tw10544751460104094061 tw10577583550496813902 tw10663099415607714604 tw10665082262442932210 tw10678977057800231059 tw10698218533802041794 tw10746481513132023831 tw10749278397953492004 tw10800881651637657849 tw108514629169347846 tw10905830606816190918 tw10948922913235492751 tw10950935166379154552 tw10971835417496736037 tw11165078161839333485 tw1121682096151605239 tw11287539909971930567 tw11315521333077601367 tw11370152169767810504 tw11381109707438506220 tw11417857721608542849 tw11439631763889554687 tw11448868555677091737 tw1145913301903278770 tw11528090260580595386 tw11556637391727247383 tw11558971394135562243 tw11594036000545858684 tw1164057614425332844 tw11640943554502068816 tw11643223818310988553 tw11652063495322004402 tw11767740201736302848 tw11812518546063642740 tw11863419033798910578 tw11865604362303067007 tw11886547981878629920 tw11895690339431300150 tw11896065160869258790 tw11929474100912669132 tw1198738534935806107 tw12101021351027911599 tw12111486660328457206 tw1215506877379607531 tw12163364049808105717 tw12212983674707425139 tw12217451370144475258 tw12234647945601025743 tw12236888027047590982 tw12240580412982091505 tw12278433669760554509 tw12297153085465134265 tw1235110384963867714 tw12374573491602340326 tw12393134487367186545 tw12439108753404298013 tw12455263082758091651 tw12507573265907750032 tw12535972674126549975 tw1259452187376531499 tw12658939307300405197 tw12733549809532370001 tw12757941973606796106 tw12837381948366306759 tw12843804224359997050 tw12899335168375404574 tw12904790935924773080 tw12928992463528992419 tw12957518464846937788 tw12977050410017031856 tw12994874571369609707 tw13003572932614849749 tw13007617706812957967 tw13015733552778260866 tw13023480042650094674 tw13037056243079698964 tw1308569985975883513 tw13088244068863068863 tw13119776979421893955 tw13178633871699134465 tw13203518691927344962 tw13225513723156962997 tw13226060265547375757 tw13286777967373597416 tw13294133471316285505 tw1330035176432003231 tw13406949064695721128 tw13436119230577385987 tw13474090037252512747 tw13521934092048146057 tw13529169798649267222 tw13537156281576220270 tw13623621163649057092 tw13624910939200949758 tw13658231297664599193 tw1366601165483420567 tw13675377564066974278 tw13700861646122916969 tw13711080077855537034 tw13729064777963691145 tw13761406425075733034 tw13813083445594080749 tw13934546900371337690 tw13945990514867212761 tw13960082449091147528 tw13998453133544200636 tw14028667123085238914 tw1406248721735290641 tw14087028234389697387 tw14164138869727710489 tw14183377163120732469 tw14228027450527167364 tw14257749461618128005 tw14260093839904467458 tw14328283972420872120 tw14379268243089915184 tw14395851547644268703 tw14399355799780798034 tw14471961397503834463 tw14556515820718199895 tw14560469471754684538 tw14617984682403025906 tw14654585910930446334 tw14691198847985686235 tw1481850373484935242 tw14846619442500983307 tw14904554822661214067 tw14922621846980511755 tw14933771288298330727 tw14994836416523426674 tw15028450119345643057 tw15091926679302161448 tw15095760953044662835 tw15145818745573797122 tw1515321166075993856 tw15183758920375111983 tw15211803203836117055 tw15240201437270342111 tw1524465010836920663 tw15275851668076534375 tw15289598746841200277 tw1530087091248455647 tw15355777640529945312 tw15360376371129142357 tw1539444070191747108 tw15405789643086241709 tw15414480505645617090 tw1545456572050364979 tw1549064046795585265 tw15555720544916731792 tw15637920308294484043 tw15687702738526480475 tw15700966712551343781 tw15747997721289347210 tw15867311330525715823 tw15879625258476985612 tw15906139087027786324 tw15909075129021912112 tw15912425231493228378 tw1596112994884117520 tw15972128086658359 tw15978529812954653791 tw16035529581500071693 tw16046715725774303317 tw16081434938232590007 tw16157537524489386721 tw161849779502628802 tw16217194930869251380 tw16266296524128485913 tw16279904647199296482 tw16327514817202497618 tw16328903922226327817 tw16340570586976489054 tw16347316499257419727 tw16359668190644470498 tw16380682361217453154 tw16390793865409621687 tw16395105339831747894 tw16401626423190998170 tw16467013003940075476 tw16526225024914413685 tw16566408099175140299 tw16584296997879321897 tw16587869554556751105 tw16623072734234012595 tw16624167408470348379 tw16661191510787153722 tw16680729717530233405 tw1669868287177446232 tw16722017354891289194 tw16750739206176384587 tw16768081527065369982 tw16906416164835922880 tw1702943567484450383 tw17032328343032547472 tw17044746777872710594 tw17064413600882694984 tw17072155534362573751 tw17078940845368652077 tw17090564448504268971 tw17117376328263852002 tw17137844990795951343 tw17144523701397643264 tw17146812226692812332 tw17159504735158469127 tw17166080844045663733 tw17195473623400178102 tw17198632925455730138 tw17212182510512250188 tw17227674131503919992 tw17255823817319640726 tw17270385985504577876 tw1730479027007927778 tw17324517448815124683 tw17413658724744096335 tw17426188380624251066 tw17433865082371383340 tw17493722723909843649 tw17499927689089316240 tw17519017879764118880 tw17527799688394249874 tw17533774803546128122 tw17555623187539607019 tw17556093687529447526 tw17610100632924644962 tw17667256748693117658 tw1766927801938346901 tw17672599710484568070 tw17827679000883870262 tw17879433164887184232 tw17889283892476175721 tw17900084664133116084 tw17946172626078792039 tw17958764263321296343 tw17994413336588293052 tw18009753473029159214 tw1805026105870095400 tw18072283750620781188 tw18094318780684817123 tw18127230103193267223 tw18129471114446520734 tw18173958084813151226 tw18206478251373140473 tw1820677070554495817 tw18232351713555134050 tw18280529071553914164 tw18387757399909665707 tw18405540327783872485 tw18408868686053455655 tw18431682984898229291 tw1875618132370938119 tw1900620969522406906 tw2057866080332238326 tw2060702866271529985 tw2092793922510098368 tw2168057455142284848 tw2176853251977708054 tw2177529968343994929 tw2210625976722458760 tw2306434501355239824 tw232997091468767566 tw2376716478782839974 tw238183322603719300 tw2404838121875091928 tw2417762273024025377 tw2434223858325745771 tw2468965064843553225 tw2473557278716015613 tw2502621577895647324 tw2503374487015070474 tw2567308312916757083 tw2582206567288687055 tw2635711589427312773 tw2651279715201462737 tw2717896659030001992 tw272425929610276660 tw2775066317782866817 tw2796411764468196257 tw2808615447318034743 tw2809945030545522418 tw2941431975296857062 tw3027586280627934256 tw307780215593342766 tw3081756605794066815 tw3098789905186667507 tw3149652804212261314 tw3153844267557043672 tw3164836762099743317 tw3188914058289945977 tw3244814179761719862 tw3266927110071559511 tw3305800880289826738 tw3337151686595718796 tw3351323090367446156 tw3360288450181232679 tw3392716027616476691 tw3486281353021120126 tw3525822473277197996 tw352605840828672018 tw3533529758316729959 tw3537548551876562515 tw3541840257204386347 tw3559638008300245239 tw3560251953955818888 tw3668726791966901751 tw3773488169305688872 tw3780045887104557054 tw3814979224175378580 tw3882878027766764030 tw3943047343722041853 tw3949708566425054891 tw3953805104854439110 tw3982311980813831340 tw3996744799156107312 tw4050144323231166870 tw4106017406692665423 tw4163141873883147042 tw4230323993788066524 tw4272501653782595325 tw4317278170010311669 tw4361671482106772587 tw4378343210138599594 tw4403828623562556127 tw4426306808256744056 tw450682960206391470 tw4575973548979475078 tw4600620419154367566 tw4606153154065562423 tw4701304789398843862 tw4814149688940572956 tw4837221162903115206 tw4866247031176029617 tw4930839220382716767 tw4938983025983379671 tw4949661429990264865 tw5009838639947166614 tw5034523284320785713 tw5069772130037345884 tw5093833004114371784 tw5103973112665563264 tw5106016145064994919 tw5162666805129011836 tw5182650227884889827 tw5218518328015044214 tw5254808263815569375 tw5260045655830055383 tw5293307721121253576 tw5335974935670098279 tw5341895630727372247 tw5351623826100535895 tw540838072649234713 tw5409798192670872530 tw5414674901019796223 tw5593749195452496617 tw5630347776481519049 tw5667202318344116153 tw575052626962756196 tw5752755347792375556 tw5762817277198747818 tw5805740935956738353 tw5825685721993467564 tw5845287120773082201 tw5896512291219662480 tw5964356323665438069 tw5988392498482525770 tw6000187604923448177 tw6027087860603194487 tw605972546616673326 tw6073918793037577739 tw6089371676212704420 tw6177165182161501382 tw6200950789826894250 tw6217225940643274566 tw6227492823761950311 tw6249976277448481490 tw62887228956559616 tw631772812126830227 tw6328347724067486358 tw6353897549979454213 tw637886827726330462 tw6417037596689431634 tw6431766056855912861 tw6530180535646815218 tw6604958778897965454 tw6606703535871279875 tw6616182591115169301 tw6618595187306373868 tw66624115697911121 tw6712838439559448758 tw671899922193082798 tw6740258879867021429 tw6776256075917399568 tw6794626830596838293 tw6872457719669896950 tw6921552721744098270 tw6943002239455830734 tw6981353227243221893 tw7007484239324335793 tw7050905595442438848 tw7073122210478600105 tw7096403371357087676 tw7149087361505035397 tw7158378259705114307 tw7180799620235084991 tw7181438764900056155 tw7195850701488797230 tw7257516318150345673 tw7313350886771195685 tw7328252154179839816 tw7350276550725802701 tw7353115116513542630 tw7403393769440835978 tw7429191771790076913 tw7439885105290796322 tw7441028283521497176 tw7454994736636272881 tw7555774895746113585 tw7744755302166635146 tw7832124994627411994 tw7852351952355181219 tw7881229138871911276 tw7887005594574107121 tw7923379923604096721 tw800428377191120159 tw8099641787237310220 tw8132017707981872987 tw8135286045456890611 tw8184467797232566299 tw8185459015910422383 tw8192428227973383645 tw8226250893275221249 tw8252391009845807086 tw8274990318784139682 tw834016509025085050 tw8479843666701970091 tw8495709545245079542 tw849571012822098084 tw8533209529017720661 tw8625151291922617710 tw8664363557382449990 tw8675220240997679720 tw8684823481857229237 tw8705796567262846274 tw8714928283572194225 tw8781436071644202951 tw8803726097794512962 tw8814805035160015394 tw8819721854266084545 tw8841607437248737764 tw8848516752013021184 tw8863915092886863372 tw8948284884734741437 tw901772416144486073 tw9151604966530148969 tw9156480374756979426 tw9205841164114945860 tw924519170234642119 tw9372456959020979164 tw9395105231199414988 tw942501597503456547 tw9559669241156645916 tw9603914285045435383 tw9614023727351052138 tw9680376612141196920 tw9689947104147134187 tw9691683923225744730 tw9896318271483263798 tw9899196941569045985 tw9942294162030155884 tw9947935123141332195 tw999079369270474036:True)
open PySem PySem.W PyProof.Rows
set_option maxRecDepth 100000 in
set_option maxHeartbeats 0 in
theorem PySem.Challenge.cw_lackword_k43_the_oftenest_holds : PySem.Challenge.rw_lackword_k43_the_oftenest.Holds := by
 w_on;o_law;k_head;(case hw=>w_witness2)
 k_fill
 refine L2.walk_ofT (l:=PySem.Challenge.rw_lackword_k43_the_oftenest) (n:=63) (k:=12) (x:="_law_script") (CX:=L2.CX0) (sp:=Pk43.spLaw) ["in_order","oftenest"] rfl (by decide) rfl ⟨rfl,by decide,by decide⟩ (fun w h Y=>PySem.W.km_in_of Y) (fun _=>by kernel_rfl) (by kernel_rfl) ?F ?S ?C
 case F=>
  intro w mg fa h tb KX G hmg hT
  have T:∃t,Pk43.Txt (L2.KOf KX) mg t∧t.t_K0=(tb "in_order").2∧t.k_K0=(tb "in_order").1∧t.t_K2=(tb "oftenest").2∧t.k_K2=(tb "oftenest").1:=by
   dsimp only[L2.KOf]
   apply Pk43.txt_mk (t_K0:=(tb "in_order").2) (k_K0:=(tb "in_order").1) (t_K2:=(tb "oftenest").2) (k_K2:=(tb "oftenest").1) KX G
   (apply L2.xg_mk;(iterate 2 k_is);rfl;(iterate 10 k_is);rfl;rfl)
   iterate 4 k_is
   (apply L2.xg_mk;(iterate 2 k_is);rfl;(iterate 10 k_is);rfl;rfl)
   k_is
   (apply L2.mg_mk;iterate 4 k_is)
   k_is
   (apply L2.xg_mk;(iterate 2 k_is);rfl;(iterate 10 k_is);rfl;rfl)
   k_is
   (apply L2.mg_mk;iterate 4 k_is)
   k_is
   (apply L2.xg_mk;(iterate 2 k_is);rfl;(iterate 10 k_is);rfl;rfl)
   k_is
   (apply L2.mg_mk;iterate 4 k_is)
   k_is
   (apply L2.xg_mk;(iterate 2 k_is);rfl;(iterate 10 k_is);rfl;rfl)
   k_is
   (apply L2.xg_mk;(iterate 2 k_is);rfl;(iterate 10 k_is);rfl;rfl)
   k_is
   (apply L2.xg_mk;(iterate 2 k_is);rfl;(iterate 10 k_is);rfl;rfl)
   k_is
   (apply L2.xg_mk;(iterate 2 k_is);rfl;(iterate 10 k_is);rfl;rfl)
   iterate 59 k_is
   iterate 13 (apply L2.mg_mk;iterate 4 k_is)
   decide
   iterate 29 (apply L2.dg_mk;iterate 4 k_is)
   iterate 18 k_is
  obtain⟨t,T,et_K0,ek_K0,et_K2,ek_K2⟩:=T
  have e0:=hmg.symm.trans T.m_law
  cases e0
  have cd_K0:t.d_K0.code=.ref t.k_K0:=by
   obtain⟨o,e1,e2⟩:=T.f_K0.at KX
   rw[ek_K0]
   exact(hT "in_order" (by simp)).codeEq T.m_K0 e1 e2
  have cd_K2:t.d_K2.code=.ref t.k_K2:=by
   obtain⟨o,e1,e2⟩:=T.f_K2.at KX
   rw[ek_K2]
   exact(hT "oftenest" (by simp)).codeEq T.m_K2 e1 e2
  refine' ⟨_,?b,fun base kb nb hL=>Pk43.ok_law (tb:=tb) { T with L_in_order:=by rw[et_K0,ek_K0];exact hL "in_order" (by simp),cd_K0:=cd_K0,e_K0:=et_K0,L_oftenest:=by rw[et_K2,ek_K2];exact hL "oftenest" (by simp),cd_K2:=cd_K2,e_K2:=et_K2 }⟩
  exact T.bl
 case S=>exact fun K tb H a ns hl hP hS=>⟨a,ns,rfl,hS,hl,L2.tbl_new (hP "in_order" (by simp)),L2.tbl_new (hP "oftenest" (by simp)),fun _=>rfl⟩
 case C=>exact fun _ _ _ _ z=>z
#print axioms PySem.Challenge.cw_lackword_k43_the_oftenest_holds
