import PyProof.Rows.All
import Wide.All
import OpenK.AllK
import Wide.FinOn
import Lean
import PyProof.EqAt
import PyProof.EqKinds
import PyProof.TupleCall
import PyProof.SetRoads
import PyProof.Rows.SetFrom
import PyProof.StrWalks
import PyProof.FactsAll.set
import PyProof.FactsAll.subtypes_3
import PyProof.CollectWalk
import PyProof.CollectStr
import PyProof.StationsW
import PyProof.RulesAs
import KE.KTryMore
import PyProof.NsDelKeeps
import PyProof.ListStr
import PyProof.TupleOfStr
import PyProof.ConsumeS
import KE.KEqDict
import PyProof.DictWalks
import PyProof.DictUpdate
import KE.KLam
import KE.KDictSum
import PyProof.DictItems
import PyProof.DictItemsLoops
import KE.KPairComp
import PyProof.DictDisplay
import PyProof.ListRange
import PyProof.Rows.StrNews2
import PyProof.Rows.Range3
import KE.KDictLaws
import KE.KDictList
import PyProof.DictRoadsH
import PySem.Challenge.RW_lackword_k64_lists_of_no_strip
abbrev Q11:=List Nat
abbrev Q22:=List (List Nat)
abbrev Q33:=PySem.Value->PySem.Shared->Prop
abbrev Q44:=PySem.W.Frag
set_option Elab.async false
set_option linter.all false
def YAA:=@PySem.wpAny_bind
def YAB:=@List.length_map
def YAC:=@PySem.Heap.get?_push_of_some
def YAD:=@List.getElem?_eq_some_iff
def YAE:=@List.getElem?_eq_getElem
def YAF:=@Bool.false_ne_true
def YAG:=@List.getD_eq_getElem?_getD
def YAH:=@PySem.wpAny_pure
def YAI:=@List.length_append
def YAJ:=@Nat.le_refl
def YAK:=@Nat.le_trans
def YAL:=@PySem.Heap.lt_size
def YAM:=@List.mem_of_getElem?
def YAN:=@List.length_singleton
def YAO:=@List.mem_singleton
def YAP:=@List.size_toArray
def YAQ:=@PySem.Heap.get?_push_size
def YAR:=@PySem.W.mg_of
def YAS:=@Ne.symm
def YAT:=@Nat.lt_of_lt_of_le
def YAU:=@Bool.and_eq_true
def YAV:=@List.mem_cons_of_mem
def YAW:=@if_pos
def YAX:=@if_neg
def YAY:=@List.mem_cons
def YAZ:=@List.getElem?_map
def YAa:=@List.mem_cons_self
def YAb:=@PySem.PassesOwn.never
def YAc:=@List.mem_map
def YAd:=@List.length_take
def YAe:=@List.mem_append
def YAf:=@List.length_cons
def YAg:=@Nat.zero_le
def YAh:=@List.getElem_of_mem
def YAi:=@Nat.ne_of_lt
def YAj:=@List.map_cons
def YAk:=@PySem.Heap.SameBut.update
def YAl:=@List.contains_cons
def YAm:=@Array.length_toList
def YAn:=@List.length_drop
def YAo:=@Nat.lt_irrefl
def YAp:=@Classical.byContradiction
def YAq:=@List.map_append
def YAr:=@Bool.eq_false_iff
def YAs:=@List.all_eq_true
def YAt:=@List.length_filter_le
def YAu:=@List.mem_range
def YAv:=@Bool.eq_iff_iff
def YAw:=@List.length_eq_zero_iff
def YAx:=@List.getElem?_append_left
def YAy:=@PySem.W.mg_none_of
def YAz:=@List.getElem?_append_right
def YBA:=@List.mem_filter
def YBB:=@List.map_map
def YBC:=@List.append_nil
def YBD:=@PySem.Heap.get?_update_other
def YBE:=@PyProof.Rows.wpS_bind
def YBF:=@List.mem_of_mem_take
def YBG:=@PySem.Around.under_plainId
def YBH:=@List.take_length
def YBI:=@PySem.W.kia_one
def YBJ:=@List.length_range
def YBK:=@List.mem_append_right
def YBL:=@PySem.wpAny_holding
def YBM:=@List.getElem_mem
def YBN:=@PySem.wpAny_mono
def YBO:=@List.filter_append
def YBP:=@List.nodup_cons
def YBQ:=@List.mem_map_of_mem
def YBR:=@List.ext_getElem
def YBS:=@PySem.wpAny_truthy_bool
def YBT:=@PySem.wpAny_loadPart_at
def YBU:=@PySem.F.plainAttrs_list
def YBV:=@List.length_dropLast
def YBW:=@Int.emod_lt_of_pos
def YBX:=@List.nil_append
def YBY:=@List.take_append_of_le_length
def YBZ:=@List.lookup_cons
def YBa:=@List.any_eq_true
def YBb:=@List.pairwise_map
def YBc:=@List.getElem?_eq_none
def YBd:=@PySem.Heap.get?_update_self
def YBe:=@PySem.wpAny_setField
def YBf:=@List.take_zero
def YBg:=@PySem.Heap.size_push
def YBh:=@Int.emod_nonneg
def YBi:=@PySem.Calls.spliced_cons
def YBj:=@PySem.F.plain_max_loop
def YBk:=@PySem.wpAny_newObj_type
def YBl:=@PySem.mem_of_lookup
def YBm:=@List.append_assoc
def YBn:=@PyProof.Rows.wpS_pure
def YBo:=@PySem.wpAny_Call_Name_kw
def YBp:=@PySem.F.type_list_append
def YBq:=@PySem.F.slot_list_append
def YBr:=@Option.bind_some
def YBs:=@List.drop_append_of_le_length
def YBt:=@PySem.W.looks_findIn
def YBu:=@List.mem_append_left
def YBv:=@Nat.le_of_eq
def YBw:=@Bool.false_and
def YBx:=@List.range_succ
def YBy:=@List.drop_eq_nil_of_le
def YBz:=@List.filter_cons
def YCA:=@Bool.false_eq_true
def YCB:=@List.pairwise_iff_getElem
def YCC:=@PySem.wpAny_pyIter_list
def YCD:=@List.nodup_append
def YCE:=@Nat.le_of_lt
def YCF:=@List.replicate_succ
def YCG:=@PySem.W.any_some
def YCH:=@List.mem_flatMap
def YCI:=@Bool.and_false
def YCJ:=@List.take_of_length_le
def YCK:=@PySem.W.callWith_K
def YCL:=@PySem.wpAny_passesOwn
def YCM:=@PySem.W.methodCall_KW
def YCN:=@Option.map_some
def YCO:=@Nat.le_succ
def YCP:=@List.take_append_drop
def YCQ:=@Array.getElem?_toList
def YCR:=@PySem.wpAny_setState_of
def YCS:=@PySem.wpAny_call
def YCT:=@Nat.lt_trichotomy
def YCU:=@PySem.Calls.spliced_nil
def YCV:=@Bool.true_and
def YCW:=@Array.getElem?_eq_some_iff
def YCX:=@List.mem_of_mem_drop
def YCY:=@List.nodup_nil
def YCZ:=@List.drop_drop
def YCa:=@PySem.wpAny_askSetting
def YCb:=@PySem.IsL.isList
def YCc:=@PySem.wpAny_isSubtype_exc
def YCd:=@List.length_pos_iff
def YCe:=@Nat.sub_self
def YCf:=@PySem.wpAny_execs_nil
def YCg:=@PySem.wpAny_attempt
def YCh:=@PySem.F.plainAttrs_dict
def YCi:=@PySem.Obj.data_mapFields
def YCj:=@Nat.lt_of_le_of_lt
def YCk:=@List.pairwise_cons
def YCl:=@List.length_nil
def YCm:=@List.foldl_cons
def YCn:=@List.find?_cons
def YCo:=@PySem.wpAny_pyNext_list_item
def YCp:=@List.filter_eq_nil_iff
def YCq:=@PySem.Calls.callWith_builtin
def YCr:=@PySem.wpAny_rule
def YCs:=@Nat.lt_succ_of_lt
def YCt:=@List.take_add_one
def YCu:=@List.ext_getElem?
def YCv:=@List.Pairwise.imp
def YCw:=@PySem.wpAny_seqItems
def YCx:=@List.drop_zero
def YCy:=@PyProof.Rows.callWith_builtin1
def YCz:=@List.map_nil
def YDA:=@PySem.wpAny_call_entry
def YDB:=@List.getLast?_eq_some_getLast
def YDC:=@List.eq_nil_of_length_eq_zero
def YDD:=@PySem.F.excBase_ValueError
def YDE:=@PySem.Calls.evalArgs_plain
def YDF:=@List.dropLast_concat_getLast
def YDG:=@PySem.wpAny_updateSeq
def YDH:=@PySem.W.looks_mroIn
def YDI:=@PyProof.Rows.callWith_type1
def YDJ:=@List.flatMap_append
def YDK:=@List.filterMap_cons
def YDL:=@List.nodup_iff_pairwise_ne
def YDM:=@List.length_eraseIdx_of_lt
def YDN:=@Array.perm_iff_toList_perm
def YDO:=@PyProof.Rows.wpS_forRange
def YDP:=@Option.isSome_some
def YDQ:=@List.getElem?_drop
def YDR:=@PySem.wpAny_tryCatch
def YDS:=@List.drop_take
def YDT:=@PySem.wpAny_Call_method
def YDU:=@Option.isSome_iff_exists
def YDV:=@Nat.not_lt
def YDW:=@List.take_sublist
def YDX:=@List.getElem_take
def YDY:=@List.flatten_cons
def YDZ:=@List.flatMap_cons
def YDa:=@PySem.wpAny_standAt
def YDb:=@List.any_cons
def YDc:=@List.all_cons
def YDd:=@PyProof.Rows.F.plain_set_update_loop
def YDe:=@Bool.not_true
def YDf:=@Nat.lt_succ_self
def YDg:=@Nat.le_of_not_lt
def YDh:=@List.length_tail
set_option maxRecDepth 100000
namespace L2
open PySem PySem.Spec PyProof.Rows
abbrev Key:=Sum Int Str
def ZeK:Key->Value->Bool
 | .inl k,v=>Value.isInt k v
 | .inr x,v=>Value.isStrOf x v
def keyH (w:World):Key->Int
 | .inl k=>hashInt k
 | .inr x=>hashStr w x
theorem ZaZ:∀ {k:Key} {v:Value},ZeK k v=true->(∃i t,k=Sum.inl i/\v=Value.int i t)\/(∃x t,k=Sum.inr x/\v=Value.str x t)
 | .inl i,v,h=>by
  obtain⟨t,e⟩:=Value.isInt_shape (k:=i) (v:=v) h
  exact .inl ⟨i,t,rfl,e⟩
 | .inr x,v,h=>by
  obtain⟨t,e⟩:=Value.isStrOf_shape (x:=x) (v:=v) h
  exact .inr ⟨x,t,rfl,e⟩
theorem ZiL (i:Int)(t:Tok):ZeK (.inl i) (.int i t)=true:=by simp[ZeK,Value.isInt]
theorem ZiK (x:Str)(t:Tok):ZeK (.inr x) (.str x t)=true:=by simp[ZeK,Value.isStrOf]
theorem ZmN (a b:Int):decide ((Sum.inl a:Key)=Sum.inl b)=(a == b):=by
 by_cases e:a=b
 .subst e;simp
 .have h:¬(Sum.inl a:Key)=Sum.inl b:=fun q=>e (Sum.inl.inj q)
  rw[decide_eq_false h]
  exact(beq_eq_false_iff_ne.mpr e).symm
theorem ZmK (a b:Str):decide ((Sum.inr a:Key)=Sum.inr b)=decide (a=b):=by
 by_cases e:a=b
 .subst e;simp
 .have h:¬(Sum.inr a:Key)=Sum.inr b:=fun q=>e (Sum.inr.inj q)
  rw[decide_eq_false h,decide_eq_false e]
theorem ZmM (a:Int)(b:Str):decide ((Sum.inl a:Key)=Sum.inr b)=false:=decide_eq_false (fun q=>nomatch q)
theorem ZmL (a:Str)(b:Int):decide ((Sum.inr a:Key)=Sum.inl b)=false:=decide_eq_false (fun q=>nomatch q)
def Zax (prog:Program)(w:World):PySem.KeyKind prog w Key where
 is:=ZeK
 hash:=keyH w
 inj:=fun v a b ha hb=>by
  rcases ZaZ ha with⟨i,t,rfl,rfl⟩|⟨x,t,rfl,rfl⟩
  .rcases ZaZ hb with⟨j,u,rfl,e⟩|⟨y,u,rfl,e⟩
   .injection e with e1 _;rw[e1]
   .exact nomatch e
  .rcases ZaZ hb with⟨j,u,rfl,e⟩|⟨y,u,rfl,e⟩
   .exact nomatch e
   .injection e with e1 _;rw[e1]
 byValue:=fun k v h=>by
  rcases ZaZ h with⟨i,t,rfl,rfl⟩|⟨x,t,rfl,rfl⟩<;>rfl
 pyHash:=fun hv h=>by
  rcases ZaZ hv with⟨i,t,rfl,rfl⟩|⟨x,t,rfl,rfl⟩
  .exact wpAny_pyHash_int h
  .exact wpAny_pyHash_str h
 eqBool:=fun hu hv h=>by
  rcases ZaZ hu with⟨i,t,rfl,rfl⟩|⟨x,t,rfl,rfl⟩
  .rcases ZaZ hv with⟨j,u,rfl,rfl⟩|⟨y,u,rfl,rfl⟩
   .rw[ZmN]at h;exact wpAny_eqBool_int h
   .rw[ZmM]at h;exact SeqAt.EqAt.int_str i t y u _ _ _ _ h
  .rcases ZaZ hv with⟨j,u,rfl,rfl⟩|⟨y,u,rfl,rfl⟩
   .rw[ZmL]at h;exact SeqAt.EqAt.str_int x t j u _ _ _ _ h
   .rw[ZmK]at h;exact wpAny_eqBool_str h
 «strs»:=fun k x t v h=>by
  rcases ZaZ h with⟨i,u,rfl,e⟩|⟨y,u,rfl,e⟩
  .exact nomatch e
  .injection e with e1 _
   subst e1
   cases v<;>rfl
theorem Zgk (prog:Program)(w:World)(i:Int)(t:Tok):(Zax prog w).is (.inl i) (.int i t)=true:=ZiL i t
theorem ZdG (prog:Program)(w:World)(x:Str)(t:Tok):(Zax prog w).is (.inr x) (.str x t)=true:=ZiK x t
inductive V where
 | non | bl (b:Bool) | int (i:Int) | str (x:Str) | byt (b:Array UInt8) | flt (b:UInt64) | ref (a:Addr) | ty (n:String)
 deriving DecidableEq
def RelV:V->Value->Prop
 | .non,u=>u=Value.none
 | .bl b,u=>u=Value.bool b
 | .int i,u=>∃t,u=Value.int i t
 | .str x,u=>∃t,u=Value.str x t
 | .byt b,u=>∃t,u=Value.bytes b t
 | .flt b,u=>∃t,u=Value.float b t
 | .ref a,u=>u=Value.ref a
 | .ty n,u=>u=Value.type n
abbrev Vals:List V->List Value->Prop:=Paired RelV
theorem Vals.length {xs:List V}{us:List Value}(r:Vals xs us):xs.length=us.length:=Paired.length r
theorem Vals.get:∀ {xs:List V} {us:List Value} {i:Nat} {x:V},Vals xs us->xs[i]?=some x->∃u,us[i]?=some u/\RelV x u
 | _,_,_,_,.nil,e=>by simp at e
 | _,_,0,_,.cons r _,e=>by simp at e;subst e;exact⟨_,rfl,r⟩
 | _,_,i+1,x,.cons _ t,e=>by
  obtain⟨u,h1,h2⟩:=Vals.get (i:=i) (x:=x) t (by simpa using e)
  exact⟨u,by simpa using h1,h2⟩
theorem Vals.set {x:V}{u:Value}(r:RelV x u):∀ {xs:List V} {us:List Value} (i:Nat),Vals xs us->Vals (xs.set i x) (us.set i u)
 | _,_,_,.nil=>.nil
 | _,_,0,.cons _ t=>.cons r t
 | _,_,i+1,.cons q t=>.cons q (Vals.set r i t)
theorem Vals.append:∀ {xs ys:List V} {us ws:List Value},Vals xs us->Vals ys ws->Vals (xs++ys) (us++ws)
 | _,_,_,_,.nil,s=>s
 | _,_,_,_,.cons r t,s=>.cons r (Vals.append t s)
theorem Vals.take:∀ {xs:List V} {us:List Value} (n:Nat),Vals xs us->Vals (xs.take n) (us.take n)
 | _,_,0,_=>.nil
 | _,_,_+1,.nil=>.nil
 | _,_,n+1,.cons r t=>.cons r (Vals.take n t)
theorem Vals.drop:∀ {xs:List V} {us:List Value} (n:Nat),Vals xs us->Vals (xs.drop n) (us.drop n)
 | _,_,0,r=>r
 | _,_,_+1,.nil=>.nil
 | _,_,n+1,.cons _ t=>Vals.drop n t
def RelO:Option V->Option Value->Prop
 | some v,some u=>RelV v u
 | none,none=>True
 | _,_=>False
def KV {κ:Type}:List (κ×V)->List (κ×Value)->Prop:=Paired fun (p:κ×V) (q:κ×Value)=>p.1=q.1/\RelV p.2 q.2
def kV:Key->V
 | .inl i=>.int i
 | .inr x=>.str x
inductive HO where
 | lst (xs:List V)
 | tup (xs:List V)
 | dK (kvs:List (Key×V)) | dT (kvs:List (List Key×V))
 | set (S:Int->Bool) (n:Nat)
 | ins (C dx:Addr) (fs:List (Str×V))
 | own (x:Addr)
 | xd (fs:List (Str×V))
 | met (f x:Addr)
 | rng (lo hi:Int)
 | frz (o:Obj) (u:HO)
 | tbl (ps:Array Value)
 | ext (φ:Heap->Prop)
abbrev Hp:=Addr->Option HO
def upd (H:Hp)(a:Addr)(o:HO):Hp:=fun b=>if b=a then some o else H b
theorem Zad {H:Hp}{a:Addr}{o:HO}:upd H a o a=some o:=by unfold upd;rw[YAW rfl]
theorem Zaf {H:Hp}{a b:Addr}{o:HO}(h:b≠a):upd H a o b=H b:=by unfold upd;rw[YAX h]
theorem Zo5 {H:Hp}{a b:Addr}{o u:HO}(h:H a=some o)(h':H b=some u)(d:o≠u):a≠b:=by
 intro e;subst e;rw[h]at h';exact d (Option.some.inj h')
theorem Zai {H:Hp}{a b:Addr}{o:HO}(h:H a=some o)(h':H b=none):a≠b:=by
 intro e;subst e;rw[h]at h';cases h'
section
variable (P:Program)(w:World)
def ObjOk (H:Hp)(h:Heap)(a:Addr):HO->Prop
 | .lst xs=>xs.length<=sizeLine/\∃(its:List Value) (n:Nat),Vals xs its/\h.get? a=some { cls:=.type "list",data:=.seq its.toArray n }
 | .tup xs=>xs.length<=sizeLine/\∃its:List Value,Vals xs its/\IsTup h a its.toArray
 | .dK kvs=>kvs.length<=sizeLine/\(a == sysModules)=false/\∃vs,KV kvs vs/\h.DictOf (Zax P w) a vs
 | .dT kvs=>kvs.length<=sizeLine/\(a == sysModules)=false/\∃xs:List (List Key×Addr×Value),
   Paired (fun (p:List Key×V) (q:List Key×Addr×Value)=>p.1=q.1/\H q.2.1=some (.tup (p.1.map kV))/\RelV p.2 q.2.2) kvs xs /\
   ∃o es ep,h.get? a=some o/\o.ExactDict/\o.data=.dict es ep/\es.toList=xs.map (entryOfKey (tupleKind (Zax P w)))/\(xs.map (·.1)).Nodup
 | .set S n=>h.SetOf (intKind P w) a S n
 | .ins C dx fs=>H dx=some (.own a)/\fs.length<=1000/\dx≠a/\h.get? a=some (PySem.W.instObj C dx) /\
   ∃mA,h.Ns1 dx mA/\(∀f,RelO (fs.lookup f) (mA f))/\PySem.Within mA (fs.map (·.1))
 | .own _=>∃o,h.get? a=some o
 | .xd fs=>∃mA,h.Ns1 a mA/\∀f,RelO (fs.lookup f) (mA f)
 | .rng lo hi=>∃t u v,h.get? a=some { cls:=.type "range",data:=.fields #[.int lo t,.int hi u,.int 1 v] }
 | .frz o u=>h.get? a=some o/\ObjOk H h a u
 | .tbl ps=>h.get? a=some { cls:=.none,data:=.fields ps }
 | .met f x=>h.get? a=some (PySem.W.methodObj (.ref f) (.ref x))
 | .ext φ=>φ h/\(∃o,h.get? a=some o)/\∀h1 h2:Heap,φ h1->(∀o,h1.get? a=some o->h2.get? a=some o)->φ h2
def HOk (H:Hp)(h:Heap):Prop:=∀a o,H a=some o->ObjOk P w H h a o
end
section
variable {P:Program}{w:World}{H H':Hp}{h h':Heap}{a:Addr}{o:HO}
theorem ObjOk.lt (x:ObjOk P w H h a o):a<h.objs.size:=by
 cases o with
 | lst xs=>obtain⟨_,_,_,_,e⟩:=x;exact YAL e
 | tup xs=>obtain⟨_,_,_,p⟩:=x;exact p.lt
 | dK kvs=>obtain⟨_,_,_,_,o,_,_,e,_⟩:=x;exact YAL e
 | dT kvs=>obtain⟨_,_,_,_,o,_,_,e,_⟩:=x;exact YAL e
 | set S n=>obtain⟨o,_,_,_,e,_⟩:=x;exact YAL e
 | ins C dx fs=>obtain⟨_,_,_,e,_⟩:=x;exact YAL e
 | own y=>obtain⟨_,e⟩:=x;exact YAL e
 | xd fs=>obtain⟨_,⟨_,_,_,e,_⟩,_⟩:=x;exact YAL e
 | rng lo hi=>obtain⟨_,_,_,e⟩:=x;exact YAL e
 | frz ob u=>obtain⟨e,_⟩:=x;exact YAL e
 | tbl ps=>exact YAL (show h.get? a=some _ from x)
 | met f y=>exact YAL (show h.get? a=some _ from x)
 | ext φ=>obtain⟨_,⟨_,e⟩,_⟩:=x;exact YAL e
theorem Paired.mapP {α β:Type}{F G:α->β->Prop}:∀ {l₁:List α} {l₂:List β},Paired F l₁ l₂->(∀a b,F a b->G a b)->Paired G l₁ l₂
 | _,_,.nil,_=>.nil
 | _,_,.cons r t,f=>.cons (f _ _ r) (Paired.mapP t f)
theorem ObjOk.stay (x:ObjOk P w H h a o)(k:∀b u,(b=a\/H b=some (.own a))->h.get? b=some u->h'.get? b=some u)
  (ho:∀b,H b=some (.own a)->H' b=some (.own a)) (ht:∀b xs,H b=some (.tup xs)->H' b=some (.tup xs)):ObjOk P w H' h' a o:=by
 induction o with
 | lst xs=>obtain⟨z,its,n,r,e⟩:=x;exact⟨z,its,n,r,k _ _ (.inl rfl) e⟩
 | tup xs=>obtain⟨z,its,r,ob,e,c⟩:=x;exact⟨z,its,r,ob,k _ _ (.inl rfl) e,c⟩
 | dK kvs=>obtain⟨z,y,vs,r,ob,es,ep,e,c⟩:=x;exact⟨z,y,vs,r,ob,es,ep,k _ _ (.inl rfl) e,c⟩
 | dT kvs=>
  obtain⟨z,y,xs,r,ob,es,ep,e,c⟩:=x
  exact⟨z,y,xs,Paired.mapP r fun p q z=>⟨z.1,ht _ _ z.2.1,z.2.2⟩,ob,es,ep,k _ _ (.inl rfl) e,c⟩
 | set S n=>obtain⟨ob,es,ep,t,e,c⟩:=x;exact⟨ob,es,ep,t,k _ _ (.inl rfl) e,c⟩
 | ins C dx fs=>
  obtain⟨d,z,ne,e,mA,⟨od,es,ep,e2,c⟩,r⟩:=x
  exact⟨ho _ d,z,ne,k _ _ (.inl rfl) e,mA,⟨od,es,ep,k _ _ (.inr d) e2,c⟩,r⟩
 | own y=>obtain⟨ob,e⟩:=x;exact⟨ob,k _ _ (.inl rfl) e⟩
 | xd fs=>obtain⟨mA,⟨od,es,ep,e,c⟩,r⟩:=x;exact⟨mA,⟨od,es,ep,k _ _ (.inl rfl) e,c⟩,r⟩
 | rng lo hi=>obtain⟨t,u,v,e⟩:=x;exact⟨t,u,v,k _ _ (.inl rfl) e⟩
 | frz ob u ih=>obtain⟨e,q⟩:=x;exact⟨k _ _ (.inl rfl) e,ih q⟩
 | tbl ps=>
  have e:h.get? a=some { cls:=.none,data:=.fields ps }:=x
  show h'.get? a=some { cls:=.none,data:=.fields ps }
  exact k a _ (.inl rfl) e
 | met f y=>
  have e:h.get? a=some (PySem.W.methodObj (.ref f) (.ref y)):=x
  show h'.get? a=some (PySem.W.methodObj (.ref f) (.ref y))
  exact k a _ (.inl rfl) e
 | ext φ=>obtain⟨p,⟨o,e⟩,st⟩:=x;exact⟨st _ _ p fun o q=>k _ _ (.inl rfl) q,⟨o,k _ _ (.inl rfl) e⟩,st⟩
theorem HOk.lt (x:HOk P w H h)(e:H a=some o):a<h.objs.size:=(x a o e).lt
theorem HOk.fresh (x:HOk P w H h)(e:h.objs.size<=a):H a=none:=by
 cases q:H a with
 | none=>rfl
 | some u=>exact absurd (YAT (x.lt q) e) (YAo _)
theorem HOk.kept (x:HOk P w H h)(k:∀b u,h.get? b=some u->h'.get? b=some u):HOk P w H h':=fun a o e=>
 (x a o e).stay (fun b u _ q=>k b u q) (fun _ q=>q) fun _ _ q=>q
theorem HOk.laid (x:HOk P w H h)(k:∀b u,h.get? b=some u->h'.get? b=some u)(hp:h.objs.size<=a)(new:ObjOk P w (upd H a o) h' a o):HOk P w (upd H a o) h':=fun b u e=>by
 have hn:=x.fresh hp
 by_cases hb:b=a
 .subst hb;rw[Zad]at e;cases e;exact new
 .rw[Zaf hb]at e
  exact(x b u e).stay (fun c v _ q=>k c v q) (fun c q=>by rw[Zaf (Zai q hn)];exact q) fun c xs q=>by rw[Zaf (Zai q hn)];exact q
end
def Rd (H:Hp)(a:Addr)(u:HO):Prop:=H a=some u\/∃o,H a=some (.frz o u)
theorem Rd.ok {P:Program}{w:World}{H:Hp}{h:Heap}{a:Addr}{u:HO}(r:Rd H a u)(x:HOk P w H h):ObjOk P w H h a u:=by
 rcases r with r | ⟨o,r⟩
 .exact x a u r
 .obtain⟨_,q⟩:=x a _ r
  exact q
def Mut:Option HO->Prop
 | some (.lst _)=>True
 | some (.dK _)=>True
 | some (.dT _)=>True
 | some (.set _ _)=>True
 | some (.ins _ _ _)=>True
 | some (.ext _)=>True
 | _=>False
section
variable {P:Program}{w:World}{H:Hp}{h h':Heap}{x e:Addr}{o':HO}
theorem HOk.write (ok:HOk P w H h)(mu:Mut (H x))(he:e=x\/H e=some (.own x))(k:∀b u,b≠e->h.get? b=some u->h'.get? b=some u)(heo:∃u,h'.get? e=some u)
  (new:ObjOk P w (upd H x o') h' x o'):HOk P w (upd H x o') h':=fun b u q=>by
 have nown:∀c y,H c=some (.own y)->c≠x:=fun c y r z=>by subst z;rw[r]at mu;exact mu
 have ntup:∀c xs,H c=some (.tup xs)->c≠x:=fun c xs r z=>by subst z;rw[r]at mu;exact mu
 by_cases hb:b=x
 .subst hb;rw[Zad]at q;cases q;exact new
 .rw[Zaf hb]at q
  by_cases hbe:b=e
  .have q':H b=some (.own x):=by
    rcases he with z | z
    .exact absurd (hbe.trans z) hb
    .rw[hbe];exact z
   rw[q]at q';cases q'
   obtain⟨v,hv⟩:=heo
   exact⟨v,by rw[hbe];exact hv⟩
  .refine(ok b u q).stay (fun c v hc r=>k c v ?_ r) (fun c r=>by rw[Zaf (nown c b r)];exact r) fun c xs r=>by rw[Zaf (ntup c xs r)];exact r
   rcases hc with rfl | hc
   .exact hbe
   .rintro rfl
    rcases he with z | z
    .exact nown c b hc z
    .rw[hc]at z;cases z;exact hb rfl
end
structure Un (fs ex:List Addr)(H H':Hp)(h h':Heap):Prop where
 keep:∀b o,h.get? b=some o->H b=none->b∉fs->b∉ex->h'.get? b=some o
 slot:∀b o,h.get? b=some o->H b=none->b∈fs->b∉ex->∃sl,h'.get? b=some { o with slots:=sl }
 free:∀b o,h.get? b=some o->H b=none->b∉ex->H' b=none
 there:∀b o,h.get? b=some o->b∉ex->∃o',h'.get? b=some o'
 tups:∀b xs,H b=some (.tup xs)->H' b=some (.tup xs)
 frzs:∀b o u,H b=some (.frz o u)->H' b=some (.frz o u)
 tbls:∀b ps,H b=some (.tbl ps)->∃more,H' b=some (.tbl (ps++more))
section
variable {fs fs' ex ex':List Addr}{H H1 H2:Hp}{h h1 h2 h':Heap}{a x e:Addr}{o:HO}
theorem Un.any (u:Un fs ex H H1 h h1){b:Addr}{ob:Obj}(q:h.get? b=some ob)(n:H b=none)(hx:b∉ex):∃sl,h1.get? b=some { ob with slots:=sl }:=by
 by_cases hb:b∈fs
 .exact u.slot b ob q n hb hx
 .exact⟨ob.slots,u.keep b ob q n hb hx⟩
theorem Un.trans (a:Un fs ex H H1 h h1)(b:Un fs ex H1 H2 h1 h2):Un fs ex H H2 h h2 where
 keep:=fun c ob q n hc hx=>b.keep c ob (a.keep c ob q n hc hx) (a.free c ob q n hx) hc hx
 slot:=fun c ob q n hc hx=>by
  obtain⟨sl,e1⟩:=a.slot c ob q n hc hx
  obtain⟨sl',e2⟩:=b.slot c _ e1 (a.free c ob q n hx) hc hx
  exact⟨sl',e2⟩
 free:=fun c ob q n hx=>by
  obtain⟨o',e1⟩:=a.there c ob q hx
  exact b.free c o' e1 (a.free c ob q n hx) hx
 there:=fun c ob q hx=>by
  obtain⟨o',e1⟩:=a.there c ob q hx
  exact b.there c o' e1 hx
 tups:=fun c xs q=>b.tups c xs (a.tups c xs q)
 frzs:=fun c ob xs q=>b.frzs c ob xs (a.frzs c ob xs q)
 tbls:=fun c ps q=>by
  obtain⟨m1,e1⟩:=a.tbls c ps q
  obtain⟨m2,e2⟩:=b.tbls c _ e1
  exact⟨m1++m2,by rw[e2,Array.append_assoc]⟩
theorem Un.kept (k:∀b u,h.get? b=some u->h'.get? b=some u):Un fs ex H H h h':=
 ⟨fun b ob q _ _ _=>k b ob q,fun b ob q _ _ _=>⟨ob.slots,k b ob q⟩,fun _ _ _ n _=>n,fun b ob q _=>⟨ob,k b ob q⟩,fun _ _ q=>q,fun _ _ _ q=>q,fun _ ps q=>⟨#[],by rw[q];simp⟩⟩
theorem Un.refl:Un fs ex H H h h:=Un.kept fun _ _ q=>q
theorem Un.laid (k:∀b u,h.get? b=some u->h'.get? b=some u)(hp:h.objs.size<=a)(hn:H a=none):Un fs ex H (upd H a o) h h' where
 keep:=fun b u q _ _ _=>k b u q
 slot:=fun b u q _ _ _=>⟨u.slots,k b u q⟩
 free:=fun b u q n _=>by rw[Zaf (YAi (YAT (YAL q) hp))];exact n
 there:=fun b u q _=>⟨u,k b u q⟩
 tups:=fun b xs q=>by rw[Zaf (Zai q hn)];exact q
 frzs:=fun b u xs q=>by rw[Zaf (Zai q hn)];exact q
 tbls:=fun b ps q=>⟨#[],by rw[Zaf (Zai q hn),q];simp⟩
theorem Un.write (mu:Mut (H x))(he:e=x\/H e=some (.own x))(k:∀b u,b≠e->h.get? b=some u->h'.get? b=some u)(heo:∃u,h'.get? e=some u):Un fs ex H (upd H x o) h h':=by
 have hx:∀b,H b=none->b≠x:=fun b n z=>by subst z;rw[n]at mu;exact mu
 have hb:∀b,H b=none->b≠e:=fun b n z=>by
  subst z
  rcases he with r | r
  .exact hx b n r
  .rw[n]at r;cases r
 have hm:∀b u,H b=some u->¬Mut (some u)->b≠x:=fun b u q nm z=>by subst z;rw[q]at mu;exact nm mu
 refine⟨fun b u q n _ _=>k b u (hb b n) q,fun b u q n _ _=>⟨u.slots,k b u (hb b n) q⟩,fun b u q n _=>by rw[Zaf (hx b n)];exact n,fun b u q _=>?_,
  fun b xs q=>by rw[Zaf (hm b _ q fun z=>z)];exact q,fun b u xs q=>by rw[Zaf (hm b _ q fun z=>z)];exact q,fun b ps q=>⟨#[],by rw[Zaf (hm b _ q fun z=>z),q];simp⟩⟩
 by_cases hbe:b=e
 .subst hbe;exact heo
 .exact⟨u,k b u hbe q⟩
end
def trk (h:Heap)(H:Hp):List Addr:=(List.range h.objs.size).filter fun a=>(H a).isSome
def hidT (h:Heap)(H:Hp):Heap:=PySem.W.hideAll h (trk h H)
theorem ZfF (h:Heap)(H:Hp):(hidT h H).objs.size=h.objs.size:=PySem.W.hideAll_size _ _
theorem Zg4 {h:Heap}{H:Hp}{b:Addr}{o:Obj}(e:h.get? b=some o)(n:H b=none):(hidT h H).get? b=some o:=
 PySem.W.hideAll_get _ e fun hm=>by
  have q:(H b).isSome=true:=(YBA.mp hm).2
  rw[n]at q;simp at q
theorem Ziu {h:Heap}{H:Hp}{b:Addr}{o:Obj}(e:(hidT h H).get? b=some o):h.get? b=some o/\H b=none:=by
 have e':h.get? b=some o:=PySem.W.of_hideAll (trk h H) e
 refine⟨e',?_⟩
 cases q:H b with
 | none=>rfl
 | some x=>
  have hm:b∈trk h H:=YBA.mpr ⟨YAu.mpr (YAL e'),by simp[q]⟩
  have z:(hidT h H).get? b=none:=PySem.W.hideAll_none (trk h H) hm
  rw[z]at e;cases e
def ZlE (g h:Heap)(L:Addr):List (Addr×Obj):=(List.range h.objs.size).filterMap fun a=>if a=L\/(g.get? a).isSome=true then none else (h.get? a).map fun o=>(a,o)
def rest (g h:Heap)(L d:Addr):List (Addr×Obj):=(ZlE g h L).filter fun p=>decide (p.1≠d)
structure Mod (K:Q44)(mg:Str->Option Value)(base:Heap):Prop where
 kin:K.In base
 glob:base.Ns mainGlobals mg
 blt:∃mb,base.Ns builtinsNs mb/\∀x:Str,x≠"__name__"->mb x=bootBuiltins x
 nolimit:base.NoLimit
structure Cx where
 prog:Program
 w:World
 K:Q44
 mg:Str->Option Value
 base:Heap
 A:Around
 N:List Str
 s₀:Shared
 H₀:Hp
 env:Env
 outer:List Env
 stack:List Env
 ex:List Addr
 fn:Str->Bool
 calm:Bool
 pn:List (Addr×Obj)
 xe:Q33
def frs (l:List Env):List Addr:=l.filterMap (·.frame)
abbrev Cx.fs (X:Cx):List Addr:=frs X.outer
def Vis (sc:Scope)(x:Str):Prop:=sc.names.lookup x=some .local\/sc.names.lookup x=some .cell\/sc.names.lookup x=some .free
def Loc (sc:Scope)(x:Str):Prop:=sc.names.lookup x=some .local\/sc.names.lookup x=some .cell
def Look (env:Env)(h:Heap)(m:Str->Option Value)(x:Str)(u:Value):Prop:=
 (env.kindOf x=some .local/\m x=some u)\/((env.kindOf x=some .cell\/env.kindOf x=some .free)/\∃c,env.cells.lookup x=some c/\h.IsCell c (some u))
structure Cx.Ok (X:Cx):Prop where
 mod:Mod X.K X.mg X.base
 kind:X.env.scope.kind=.function
 glob:X.env.globals=mainGlobals
 blt:X.env.builtins=builtinsNs
 above:X.s₀.heap.objs.size<=X.env.locals
 inj:∀x y c,X.env.cells.lookup x=some c->X.env.cells.lookup y=some c->x=y
 has:∀x,(X.env.kindOf x=some .cell\/X.env.kindOf x=some .free)->∃c,X.env.cells.lookup x=some c
 cab:∀x c,X.fn x=true->X.env.cells.lookup x=some c->X.s₀.heap.objs.size<=c
 hd:X.calm=true->X.A.handled=none
 frames:X.A.frames=some X.stack
 stk:X.stack=X.outer\/(X.stack=X.env::X.outer/\X.env.frame=some X.env.locals)
 exf:∀b∈X.ex,b≠X.env.locals/\∀x c,X.env.cells.lookup x=some c->c≠b
 bs:∀b o,X.base.get? b=some o->X.s₀.heap.get? b=some o/\X.H₀ b=none
 bsz:X.base.objs.size<=X.s₀.heap.objs.size
 noex:∀b o,X.base.get? b=some o->b∉X.ex
 exfs:∀b∈X.ex,b∉X.fs
 funs:X.s₀.heap.FunFrames X.base X.outer
 frf:∀b∈X.fs,X.H₀ b=none
structure Inv (X:Cx)(pins:List (Addr×Obj))(σ:List (Option V))(H:Hp)(s:Shared):Prop where
 ok:X.Ok
 os:s.os=X.s₀.os
 bare:AllBare s.gens
 base:Un X.fs X.ex X.H₀ H X.s₀.heap s.heap
 loc:∃m,s.heap.Ns X.env.locals m/\∀(i:Nat) (x:Str) (v:V),X.N[i]?=some x->σ[i]?=some (some v)->Vis X.env.scope x->∃u,RelV v u/\Look X.env s.heap m x u
 cell:∀x c,X.env.cells.lookup x=some c->∃v,s.heap.IsCell c v
 free:H X.env.locals=none
 freeC:∀x c,X.env.cells.lookup x=some c->H c=none
 pin:∀p∈X.pn++pins,s.heap.get? p.1=some p.2/\H p.1=none/\p.1≠X.env.locals/\p.1∉X.fs/\∀v,p.2.data≠.cell v
 hok:HOk X.prog X.w H s.heap
 len:σ.length=X.N.length
section
variable {X:Cx}{pins:List (Addr×Obj)}{σ:List (Option V)}{H H':Hp}{s:Shared}{h':Heap}
theorem Cx.Ok.nofr (ok:X.Ok){b:Addr}{o:Obj}(e:X.base.get? b=some o):b∉X.fs:=fun hb=>by
 have:=(ok.funs.mem hb).1
 rw[e]at this;cases this
theorem Inv.bs (I:Inv X pins σ H s):∀b o,X.base.get? b=some o->s.heap.get? b=some o/\H b=none:=fun b o e=>
 ⟨I.base.keep b o (I.ok.bs b o e).1 (I.ok.bs b o e).2 (I.ok.nofr e) (I.ok.noex b o e),I.base.free b o (I.ok.bs b o e).1 (I.ok.bs b o e).2 (I.ok.noex b o e)⟩
theorem Inv.bk (I:Inv X pins σ H s):∀b o,X.base.get? b=some o->s.heap.get? b=some o:=fun b o e=>(I.bs b o e).1
theorem Inv.mod (I:Inv X pins σ H s):Mod X.K X.mg X.base:=I.ok.mod
theorem Inv.kIn (I:Inv X pins σ H s):X.K.In s.heap:=I.ok.mod.kin.keeps I.bk
theorem Inv.lt (I:Inv X pins σ H s):X.env.locals<s.heap.objs.size:=let ⟨_,hn,_⟩:=I.loc;hn.lt
theorem Inv.sz (I:Inv X pins σ H s):X.s₀.heap.objs.size<=s.heap.objs.size:=YAK I.ok.above (YCE I.lt)
theorem Inv.nofs (I:Inv X pins σ H s){a:Addr}(h:s.heap.objs.size<=a):a∉X.fs:=fun hb=>by
 obtain⟨_,o,ho,_⟩:=I.ok.funs.mem hb
 exact absurd (YAT (YAL ho) (YAK I.sz h)) (YAo _)
theorem Inv.cne (I:Inv X pins σ H s):∀x c,X.env.cells.lookup x=some c->c≠X.env.locals:=fun x c e z=>by
 obtain⟨v,o,ho,hd⟩:=I.cell x c e
 obtain⟨m,⟨o',es,ep,ho',hd',_⟩,_⟩:=I.loc
 rw[z,ho']at ho;cases ho;rw[hd']at hd;cases hd
theorem Inv.funs (I:Inv X pins σ H s):s.heap.FunFrames X.base X.outer:=by
 have all:∀(l:List Env),(∀b∈frs l,b∈X.fs)->X.s₀.heap.FunFrames X.base l->s.heap.FunFrames X.base l:=by
  intro l
  induction l with
  | nil=>intro _ _;trivial
  | cons env r ih=>
   intro hs hl
   obtain⟨hk,⟨L,o,hf,hn,ho,hd⟩,hr⟩:=hl
   have hL:L∈X.fs:=hs L (by unfold frs;rw[YDK,hf];exact YAa)
   obtain⟨sl,e⟩:=I.base.slot L o ho (I.ok.frf L hL) hL fun z=>I.ok.exfs L z hL
   exact⟨hk,⟨L,_,hf,hn,e,hd⟩,ih (fun b hb=>hs b (by unfold frs;rw[YDK,hf];exact YAV _ hb)) hr⟩
 exact all X.outer (fun _ hb=>hb) I.ok.funs
theorem Inv.stack (I:Inv X pins σ H s):s.heap.FunFrames X.base X.stack:=by
 rcases I.ok.stk with e | ⟨e,hf⟩
 .rw[e];exact I.funs
 .rw[e]
  obtain⟨m,hn,_⟩:=I.loc
  refine .cons (by rw[I.ok.kind];decide) hf hn ?_ I.funs
  exact Heap.get?_none_of_le (YAK I.ok.bsz I.ok.above)
theorem Inv.stkSub (I:Inv X pins σ H s):∀b∈frs X.stack,b∈X.env.locals::X.fs:=fun b hb=>by
 rcases I.ok.stk with e | ⟨e,hf⟩
 .rw[e]at hb;exact YAV _ hb
 .rw[e]at hb
  unfold frs at hb
  rw[YDK,hf]at hb
  exact hb
theorem Inv.stkFree (I:Inv X pins σ H s):∀b∈frs X.stack,H b=none:=fun b hb=>by
 rcases YAY.mp (I.stkSub b hb) with e | hb
 .rw[e];exact I.free
 .obtain⟨_,o,ho,_⟩:=I.ok.funs.mem hb
  exact I.base.free b o ho (I.ok.frf b hb) fun z=>I.ok.exfs b z hb
theorem Inv.step {g':Array GenState}{t':Nat}{d':Drawn}{ch:List Addr}(I:Inv X pins σ H s)
  (hch:∀b∈ch,(b∈X.ex\/X.s₀.heap.objs.size<=b)/\b≠X.env.locals/\(∀x c,X.env.cells.lookup x=some c->c≠b)/\∀p∈X.pn++pins,p.1≠b)
  (keep:∀b o,b≠X.env.locals->b∉X.fs->b∉ch->s.heap.get? b=some o->H b=none->h'.get? b=some o)
  (slot:∀b o,b≠X.env.locals->b∈X.fs->b∉ch->s.heap.get? b=some o->H b=none->∃sl,h'.get? b=some { o with slots:=sl }) (free:∀b o,b∉ch->s.heap.get? b=some o->H b=none->H' b=none)
  (there:∀b o,b∉ch->s.heap.get? b=some o->∃o',h'.get? b=some o')
  (tups:∀b xs,H b=some (.tup xs)->H' b=some (.tup xs)) (frzs:∀b o u,H b=some (.frz o u)->H' b=some (.frz o u)) (tbls:∀b ps,H b=some (.tbl ps)->∃more,H' b=some (.tbl (ps++more)))
  (ns:∀m,s.heap.Ns X.env.locals m->h'.Ns X.env.locals m) (hok:HOk X.prog X.w H' h') (hg:AllBare g'):
  Inv X pins σ H' { s with heap:=h',gens:=g',drawn:=d',toks:=t' }:=by
 have neL:∀b o,X.s₀.heap.get? b=some o->b≠X.env.locals:=fun b o e=>YAi (YAT (YAL e) I.ok.above)
 have neC:∀b o,X.s₀.heap.get? b=some o->b∉X.ex->b∉ch:=fun b o e hx hb=>by
  rcases (hch b hb).1 with z | z
  .exact hx z
  .exact absurd (YAT (YAL e) z) (YAo _)
 have cellK:∀x c,X.env.cells.lookup x=some c->∀v,s.heap.IsCell c v->h'.IsCell c v:=fun x c e v ⟨o,ho,hd⟩=>by
  have nch:c∉ch:=fun z=>(hch c z).2.2.1 x c e rfl
  by_cases hc:c∈X.fs
  .obtain⟨sl,q⟩:=slot c o (I.cne x c e) hc nch ho (I.freeC x c e)
   exact⟨_,q,hd⟩
  .exact⟨o,keep c o (I.cne x c e) hc nch ho (I.freeC x c e),hd⟩
 refine⟨I.ok,I.os,hg,⟨fun b o e n hb hx=>?_,fun b o e n hb hx=>?_,fun b o e n hx=>?_,fun b o e hx=>?_,fun b xs e=>tups b xs (I.base.tups b xs e),fun b o xs e=>frzs b o xs (I.base.frzs b o xs e),fun b ps e=>?_⟩,?_,fun x c e=>?_,?_,fun x c e=>?_,fun p hp=>?_,hok,I.len⟩
 .exact keep b o (neL b o e) hb (neC b o e hx) (I.base.keep b o e n hb hx) (I.base.free b o e n hx)
 .obtain⟨sl,e1⟩:=I.base.slot b o e n hb hx
  obtain⟨sl',e2⟩:=slot b _ (neL b o e) hb (neC b o e hx) e1 (I.base.free b o e n hx)
  exact⟨sl',e2⟩
 .obtain⟨o',e1⟩:=I.base.there b o e hx
  exact free b o' (neC b o e hx) e1 (I.base.free b o e n hx)
 .obtain⟨o',e1⟩:=I.base.there b o e hx
  exact there b o' (neC b o e hx) e1
 .obtain⟨m1,e1⟩:=I.base.tbls b ps e
  obtain⟨m2,e2⟩:=tbls b _ e1
  exact⟨m1++m2,by rw[e2,Array.append_assoc]⟩
 .obtain⟨m,hn,hl⟩:=I.loc
  refine⟨m,ns m hn,fun i x v e1 e2 e3=>?_⟩
  obtain⟨u,r,l⟩:=hl i x v e1 e2 e3
  refine⟨u,r,?_⟩
  rcases l with l | ⟨k,c,e,z⟩
  .exact .inl l
  .exact .inr ⟨k,c,e,cellK x c e _ z⟩
 .obtain⟨v,z⟩:=I.cell x c e
  exact⟨v,cellK x c e v z⟩
 .obtain⟨m,⟨o,_,_,ho,_⟩,_⟩:=I.loc
  exact free _ o (fun z=>(hch _ z).2.1 rfl) ho I.free
 .obtain⟨v,o,ho,hd⟩:=I.cell x c e
  exact free c o (fun z=>(hch c z).2.2.1 x c e rfl) ho (I.freeC x c e)
 .obtain⟨e,n,ne,nf,d⟩:=I.pin p hp
  have nch:p.1∉ch:=fun z=>(hch p.1 z).2.2.2 p hp rfl
  exact⟨keep p.1 p.2 ne nf nch e n,free p.1 p.2 nch e n,ne,nf,d⟩
theorem Inv.un {t':Nat}(I:Inv X pins σ H s)(u:Un X.fs [] H H' s.heap h')(hok:HOk X.prog X.w H' h'):Inv X pins σ H' { s with heap:=h',toks:=t' }:=by
 obtain⟨m,⟨o,es,ep,ho,r⟩,_⟩:=id I.loc
 obtain⟨sl,hL⟩:=u.any ho I.free (by simp)
 exact I.step (g':=s.gens) (d':=s.drawn) (ch:=[]) (fun _ z=>nomatch z) (fun b o _ hb _ e n=>u.keep b o e n hb (by simp)) (fun b o _ hb _ e n=>u.slot b o e n hb (by simp)) (fun b o _ e n=>u.free b o e n (by simp)) (fun b o _ e=>u.there b o e (by simp)) u.tups u.frzs u.tbls (fun m' hm=>by
  obtain⟨o',es',ep',ho',r'⟩:=hm
  rw[ho]at ho';cases ho'
  exact⟨_,es',ep',hL,r'⟩) hok I.bare
theorem Inv.call {g':Array GenState}{t':Nat}{d':Drawn}{ch:List Addr}(I:Inv X pins σ H s)(u:Un (frs X.stack) ch H H' s.heap h')(hok:HOk X.prog X.w H' h')(hg:AllBare g')
  (hch:∀b∈ch,(b∈X.ex\/X.s₀.heap.objs.size<=b)/\b≠X.env.locals/\(∀x c,X.env.cells.lookup x=some c->c≠b)/\∀p∈X.pn++pins,p.1≠b):
  Inv X pins σ H' { s with heap:=h',gens:=g',drawn:=d',toks:=t' }:=by
 obtain⟨m,⟨o,es,ep,ho,r⟩,_⟩:=id I.loc
 obtain⟨sl,hL⟩:=u.any ho I.free fun z=>(hch _ z).2.1 rfl
 exact I.step (ch:=ch) hch (fun b o hL hb hc e n=>u.keep b o e n (fun z=>(YAY.mp (I.stkSub b z)).elim hL hb) hc) (fun b o _ _ hc e n=>u.any e n hc) (fun b o hc e n=>u.free b o e n hc) (fun b o hc e=>u.there b o e hc) u.tups u.frzs u.tbls (fun m' hm=>by
  obtain⟨o',es',ep',ho',r'⟩:=hm
  rw[ho]at ho';cases ho'
  exact⟨_,es',ep',hL,r'⟩) hok hg
theorem Inv.turned {t':Nat}{it:Addr}(I:Inv X pins σ H s)(k:∀b o,b≠it->s.heap.get? b=some o->h'.get? b=some o)(hn:H it=none)(hL:it≠X.env.locals)
  (h1:it∈X.ex\/X.s₀.heap.objs.size<=it) (h2:∀x c,X.env.cells.lookup x=some c->c≠it) (h3:∀p∈X.pn++pins,p.1≠it):Inv X pins σ H { s with heap:=h',toks:=t' }:=by
 have nit:∀b u,H b=some u->b≠it:=fun b u e z=>by rw[z,hn]at e;cases e
 refine I.step (g':=s.gens) (d':=s.drawn) (ch:=[it]) (fun b hb=>?_) (fun b o _ _ hc e _=>k b o (fun z=>hc (by simp[z])) e) (fun b o _ _ hc e _=>⟨o.slots,k b o (fun z=>hc (by simp[z])) e⟩) (fun _ _ _ _ n=>n)
  (fun b o hc e=>⟨o,k b o (fun z=>hc (by simp[z])) e⟩) (fun _ _ e=>e) (fun _ _ _ e=>e) (fun b ps e=>⟨#[],by rw[e];simp⟩) (fun m hm=>?_) (fun b u e=>?_) I.bare
 .have e:b=it:=by simpa using hb
  subst e
  exact⟨h1,hL,h2,h3⟩
 .obtain⟨o,es,ep,ho,r⟩:=hm
  exact⟨o,es,ep,k _ o (YAS hL) ho,r⟩
 .refine(I.hok b u e).stay (fun c v hc q=>k c v ?_ q) (fun _ q=>q) fun _ _ q=>q
  rcases hc with z | z
  .rw[z];exact nit b u e
  .exact nit c _ z
theorem Inv.tok (I:Inv X pins σ H s)(t:Nat):Inv X pins σ H { s with toks:=t }:=I.un (h':=s.heap) (t':=t) Un.refl I.hok
theorem Inv.kept {t':Nat}(I:Inv X pins σ H s)(k:∀b u,s.heap.get? b=some u->h'.get? b=some u):Inv X pins σ H { s with heap:=h',toks:=t' }:=I.un (Un.kept k) (I.hok.kept k)
theorem Inv.laid {a:Addr}{o:HO}{t':Nat}(I:Inv X pins σ H s)(k:∀b u,s.heap.get? b=some u->h'.get? b=some u)(hp:s.heap.objs.size<=a)(new:ObjOk X.prog X.w (upd H a o) h' a o):
  Inv X pins σ (upd H a o) { s with heap:=h',toks:=t' }:=I.un (Un.laid k hp (I.hok.fresh hp)) (I.hok.laid k hp new)
theorem Inv.write {x e:Addr}{o:HO}{t':Nat}(I:Inv X pins σ H s)(mu:Mut (H x))(he:e=x\/H e=some (.own x))(k:∀b u,b≠e->s.heap.get? b=some u->h'.get? b=some u)(heo:∃u,h'.get? e=some u)
  (new:ObjOk X.prog X.w (upd H x o) h' x o):Inv X pins σ (upd H x o) { s with heap:=h',toks:=t' }:=I.un (Un.write mu he k heo) (I.hok.write mu he k heo new)
theorem Inv.pins_of {pins':List (Addr×Obj)}(I:Inv X pins σ H s)(h:∀p∈pins',s.heap.get? p.1=some p.2/\H p.1=none/\p.1≠X.env.locals/\p.1∉X.fs/\∀v,p.2.data≠.cell v):Inv X pins' σ H s:=
 ⟨I.ok,I.os,I.bare,I.base,I.loc,I.cell,I.free,I.freeC,fun p hp=>(YAe.mp hp).elim (fun z=>I.pin p (YBu _ z)) (h p),I.hok,I.len⟩
theorem ZeE {N:List Str}(hN:N.Nodup){i j:Nat}{x:Str}(a:N[i]?=some x)(b:N[j]?=some x):i=j:=by
 obtain⟨h1,e1⟩:=YAD.mp a
 obtain⟨h2,e2⟩:=YAD.mp b
 exact(List.getElem_inj hN).mp (e1.trans e2.symm)
theorem Ze9 {M:Model}{A:Around}{E:Q33}{i:Nat}{x:Str}{v:V}{u:Value}{Q:Unit->Shared->Prop}(I:Inv X pins σ H s)(hN:X.N.Nodup)(hi:X.N[i]?=some x)(hx:Loc X.env.scope x)(r:RelV v u)
  (h:∀s',Inv X pins (σ.set i (some v)) H s'->(∃a,Heap.SameBut a s.heap s'.heap/\(a=X.env.locals\/X.env.cells.lookup x=some a))->Q () s') (hf:X.fn x=true\/X.env.scope.names.lookup x=some .local:=by first | exact .inl rfl | exact .inr rfl | assumption):wpAny M A (storeName X.env x u) Q E s:=by
 obtain⟨m,hn,hl⟩:=id I.loc
 have hcls:(X.env.scope.kind == .class || (X.env.scope.kind == .module&&X.env.locals != X.env.globals))=false:=by rw[I.ok.kind];rfl
 have hiσ:i<σ.length:=by rw[I.len];exact(YAD.mp hi).1
 have cne:=I.cne
 have tracked:∀ {a:Addr} {h':Heap},(∃o,s.heap.get? a=some o/\H a=none)->Heap.SameBut a s.heap h'->HOk X.prog X.w H h':=fun {a h'} ha hs b ob e=>by
  obtain⟨_,_,hfree⟩:=ha
  refine(I.hok b ob e).stay (fun c w' hc q=>(hs.2 c ?_).trans q) (fun _ q=>q) fun _ _ q=>q
  rintro rfl
  rcases hc with rfl | hc
  .rw[hfree]at e;cases e
  .rw[hfree]at hc;cases hc
 rcases hx with hk | hk
 .refine wpAny_storeName_local hk hn (fun h' hn' hs=>?_) hcls
  obtain⟨oL,_,_,hoL,_⟩:=id hn
  refine h _ ⟨I.ok,I.os,I.bare,⟨fun b o e n hb hx=>?_,fun b o e n hb hx=>?_,I.base.free,fun b o e hx=>?_,I.base.tups,I.base.frzs,I.base.tbls⟩,⟨_,hn',fun j y v' e1 e2 e3=>?_⟩,fun y c e=>?_,I.free,I.freeC,fun p hp=>?_,tracked ⟨oL,hoL,I.free⟩ hs,by simpa using I.len⟩ ⟨_,hs,.inl rfl⟩
  .exact(hs.2 b (YAi (YAT (YAL e) I.ok.above))).trans (I.base.keep b o e n hb hx)
  .obtain⟨sl,e1⟩:=I.base.slot b o e n hb hx
   exact⟨sl,(hs.2 b (YAi (YAT (YAL e) I.ok.above))).trans e1⟩
  .obtain⟨o',e1⟩:=I.base.there b o e hx
   exact⟨o',(hs.2 b (YAi (YAT (YAL e) I.ok.above))).trans e1⟩
  .by_cases hj:j=i
   .subst hj
    rw[hi]at e1;cases e1
    rw[List.getElem?_set_self hiσ]at e2
    cases e2
    exact⟨u,r,.inl ⟨hk,by simp⟩⟩
   .rw[List.getElem?_set_ne (YAS hj)]at e2
    obtain⟨u',r',q⟩:=hl j y v' e1 e2 e3
    refine⟨u',r',?_⟩
    rcases q with⟨k,e⟩|⟨k,c,e,z⟩
    .refine .inl ⟨k,?_⟩
     have:y≠x:=fun e=>hj (ZeE hN e1 (e▸hi))
     simp[this,e]
    .exact .inr ⟨k,c,e,z.sameBut hs (cne y c e)⟩
  .obtain⟨w',z⟩:=I.cell y c e
   exact⟨w',z.sameBut hs (cne y c e)⟩
  .obtain⟨e,n,ne,nf,d⟩:=I.pin p hp
   exact⟨(hs.2 p.1 ne).trans e,n,ne,nf,d⟩
 .have hfn:X.fn x=true:=by
   rcases hf with z | z
   .exact z
   .rw[z]at hk;cases hk
  obtain⟨c,hc⟩:=I.ok.has x (.inl hk)
  obtain⟨w',z⟩:=I.cell x c hc
  refine wpAny_storeName_cell I.ok.kind hk hc z (fun h' hc' hs=>?_)
  obtain⟨oc,hoc,hocd⟩:=id z
  refine h { s with heap:=h' } ⟨I.ok,I.os,I.bare,⟨fun b o e n hb hx=>?_,fun b o e n hb hx=>?_,I.base.free,fun b o e hx=>?_,I.base.tups,I.base.frzs,I.base.tbls⟩,⟨m,hn.sameBut hs (YAS (cne x c hc)),fun j y v' e1 e2 e3=>?_⟩,fun y c' e=>?_,I.free,I.freeC,fun p hp=>?_,tracked ⟨oc,hoc,I.freeC x c hc⟩ hs,by simpa using I.len⟩ ⟨c,hs,.inr hc⟩
  .exact(hs.2 b (YAi (YAT (YAL e) (I.ok.cab x c hfn hc)))).trans (I.base.keep b o e n hb hx)
  .obtain⟨sl,e1⟩:=I.base.slot b o e n hb hx
   exact⟨sl,(hs.2 b (YAi (YAT (YAL e) (I.ok.cab x c hfn hc)))).trans e1⟩
  .obtain⟨o',e1⟩:=I.base.there b o e hx
   exact⟨o',(hs.2 b (YAi (YAT (YAL e) (I.ok.cab x c hfn hc)))).trans e1⟩
  .by_cases hj:j=i
   .subst hj
    rw[hi]at e1;cases e1
    rw[List.getElem?_set_self hiσ]at e2
    cases e2
    exact⟨u,r,.inr ⟨.inl hk,c,hc,hc'⟩⟩
   .rw[List.getElem?_set_ne (YAS hj)]at e2
    obtain⟨u',r',q⟩:=hl j y v' e1 e2 e3
    refine⟨u',r',?_⟩
    rcases q with q | ⟨k,c',e,z'⟩
    .exact .inl q
    .refine .inr ⟨k,c',e,z'.sameBut hs ?_⟩
     rintro rfl
     exact hj (ZeE hN e1 (I.ok.inj _ _ _ e hc▸hi))
  .by_cases hcc:c'=c
   .subst hcc;exact⟨_,hc'⟩
   .obtain⟨w2,z2⟩:=I.cell y c' e
    exact⟨w2,z2.sameBut hs hcc⟩
  .obtain⟨e,n,ne,nf,d⟩:=I.pin p hp
   refine⟨(hs.2 p.1 ?_).trans e,n,ne,nf,d⟩
   intro q
   rw[q,hoc]at e
   have q':oc=p.2:=Option.some.inj e
   exact d w' (by rw[<-q'];exact hocd)
theorem ZcA {M:Model}{A:Around}{E:Q33}{i:Nat}{x:Str}{v:V}{u:Value}{Q:Unit->Shared->Prop}(I:Inv X pins σ H s)(hN:X.N.Nodup)(hi:X.N[i]?=some x)(hx:Loc X.env.scope x)(r:RelV v u)
  (h:∀s',Inv X pins (σ.set i (some v)) H s'->Q () s') (hf:X.fn x=true\/X.env.scope.names.lookup x=some .local:=by first | exact .inl rfl | exact .inr rfl | assumption):wpAny M A (storeName X.env x u) Q E s:=
 Ze9 I hN hi hx r (fun s' I' _=>h s' I') hf
theorem Inv.call' {s':Shared}{ch:List Addr}(I:Inv X pins σ H s)(ho:s'.os=s.os)(u:Un (frs X.stack) ch H H' s.heap s'.heap)(hok:HOk X.prog X.w H' s'.heap)(hg:AllBare s'.gens)
  (hch:∀b∈ch,(b∈X.ex\/X.s₀.heap.objs.size<=b)/\b≠X.env.locals/\(∀x c,X.env.cells.lookup x=some c->c≠b)/\∀p∈X.pn++pins,p.1≠b):Inv X pins σ H' s':=by
 obtain⟨h',g',d',t',o'⟩:=s'
 have e:o'=s.os:=ho
 subst e
 exact I.call (g':=g') (t':=t') (d':=d') u hok hg hch
end
abbrev XK:=Value->Option Addr->Hp->Prop
abbrev St:=List (Option V)
abbrev VK:=V->Hp->Prop
abbrev TE:=St->Hp->VK->Prop
abbrev TT:=St->Hp->(Bool->Hp->Prop)->Prop
abbrev TA:=St->Hp->(List V->Hp->Prop)->Prop
structure Ends where
 nx:St->Hp->Prop
 rt:VK
 bk:St->Hp->Prop:=fun _ _=>False
 ct:St->Hp->Prop:=fun _ _=>False
abbrev TS:=Ends->St->Hp->Prop
def EP (X:Cx)(pins:List (Addr×Obj))(σ:St)(Q:VK)(u:Value)(s':Shared):Prop:=∃v H',Inv X pins σ H' s'/\RelV v u/\Q v H'
def TP (X:Cx)(pins:List (Addr×Obj))(σ:St)(Q:Bool->Hp->Prop)(b:Bool)(s':Shared):Prop:=∃H',Inv X pins σ H' s'/\Q b H'
def AP (X:Cx)(pins:List (Addr×Obj))(σ:St)(Q:List V->Hp->Prop)(us:List Value)(s':Shared):Prop:=∃vs H',Inv X pins σ H' s'/\Vals vs us/\Q vs H'
def SP (X:Cx)(pins:List (Addr×Obj))(D:Ends)(f:Flow)(s':Shared):Prop:=
 match f with
 | .next=>∃σ' H',Inv X pins σ' H' s'/\D.nx σ' H'
 | .brk=>∃σ' H',Inv X pins σ' H' s'/\D.bk σ' H'
 | .cont=>∃σ' H',Inv X pins σ' H' s'/\D.ct σ' H'
 | .ret u=>∃v σ' H',Inv X pins σ' H' s'/\RelV v u/\D.rt v H'
def PE (X:Cx)(e:Expr)(t:TE):Prop:=
 ∀(pins:List (Addr×Obj)) (s:Shared) (σ:St) (H:Hp) (Q:VK),Inv X pins σ H s->t σ H Q->wpAny (model X.prog X.w) X.A (eval e X.env) (EP X pins σ Q) X.xe s
def PT (X:Cx)(e:Expr)(t:TT):Prop:=
 ∀(pins:List (Addr×Obj)) (s:Shared) (σ:St) (H:Hp) (Q:Bool->Hp->Prop),Inv X pins σ H s->t σ H Q->wpAny (model X.prog X.w) X.A (isTrue e X.env (eval e X.env)) (TP X pins σ Q) X.xe s
def PW (X:Cx)(e:Expr)(t:TT):Prop:=
 ∀(whole:Sem Value) (pins:List (Addr×Obj)) (s:Shared) (σ:St) (H:Hp) (Q:Bool->Hp->Prop),Inv X pins σ H s->t σ H Q->wpAny (model X.prog X.w) X.A (isTrue e X.env whole) (TP X pins σ Q) X.xe s
theorem PW.pt {X:Cx}{e:Expr}{t:TT}(h:PW X e t):PT X e t:=h _
def PA (X:Cx)(es:List Expr)(t:TA):Prop:=
 ∀(pos:Pos) (pins:List (Addr×Obj)) (s:Shared) (σ:St) (H:Hp) (Q:List V->Hp->Prop),Inv X pins σ H s->t σ H Q->wpAny (model X.prog X.w) X.A (spliced (backTo pos (starEach es X.env))) (AP X pins σ Q) X.xe s
def PS (X:Cx)(st:Stmt)(t:TS):Prop:=
 ∀(pins:List (Addr×Obj)) (s:Shared) (σ:St) (H:Hp) (D:Ends),Inv X pins σ H s->t D σ H->wpAny (model X.prog X.w) X.A (exec st X.env) (SP X pins D) X.xe s
def PSs (X:Cx)(st:List Stmt)(t:TS):Prop:=
 ∀(pins:List (Addr×Obj)) (s:Shared) (σ:St) (H:Hp) (D:Ends),Inv X pins σ H s->t D σ H->wpAny (model X.prog X.w) X.A (execs st X.env) (SP X pins D) X.xe s
theorem thn {α:Type}{t:Sem α}{Q Q':α->Shared->Prop}{M:Model}{A:Around}{E:Q33}{s:Shared}(h:wpAny M A t Q E s)(hQ:∀a s,Q a s->Q' a s):wpAny M A t Q' E s:=YBN h hQ fun _ _ x=>x
section
variable {X:Cx}
theorem bin {a b:Expr}{ta tb:TE}(ha:PE X a ta)(hb:PE X b tb){pins:List (Addr×Obj)}{s:Shared}{σ:St}{H:Hp}{R:V->V->Hp->Prop}(I:Inv X pins σ H s)(h:ta σ H fun x H1=>tb σ H1 fun y H2=>R x y H2)
  {α:Type} {Q:α->Shared->Prop} {f:Value->Value->Sem α}
  (hf:∀v u s2 x y H2,Inv X pins σ H2 s2->RelV x v->RelV y u->R x y H2->wpAny (model X.prog X.w) X.A (f v u) Q X.xe s2):
  wpAny (model X.prog X.w) X.A (eval a X.env) (fun v s₁=>wpAny (model X.prog X.w) X.A (eval b X.env) (fun u s₂=>wpAny (model X.prog X.w) X.A (f v u) Q X.xe s₂) X.xe s₁) X.xe s:=by
 refine thn (ha pins s σ H _ I h) fun v s1 ⟨x,H1,I1,r1,q1⟩=>?_
 refine thn (hb pins s1 σ H1 _ I1 q1) fun u s2 ⟨y,H2,I2,r2,q2⟩=>?_
 exact hf v u s2 x y H2 I2 r1 r2 q2
def tVar (i:Nat):TE:=fun σ H Q=>∃v,σ[i]?=some (some v)/\Q v H
def tC (v:V):TE:=fun _ H Q=>Q v H
theorem Zmp {i:Nat} {x:Str} {pos:Pos} (hN:X.N[i]?=some x) (hv:Vis X.env.scope x) (hd:(x == ("__debug__":Str))=false:=by decide) (hcd:(x == ("__classdict__":Str))=false:=by decide):PE X (.Name x pos) (tVar i):=by
 intro pins s σ H Q I h
 obtain⟨v,e,h⟩:=h
 obtain⟨m,hn,hl⟩:=I.loc
 obtain⟨u,r,l⟩:=hl i x v hN e hv
 have fin:EP X pins σ Q u s:=⟨v,H,I,r,h⟩
 rcases l with⟨hk,hm⟩|⟨hk,c,hc,hcell⟩
 .exact wpAny_Name (wpAny_loadName_local I.ok.kind hk hn hm fin) hd
 .rcases hk with hk | hk
  .exact wpAny_Name (wpAny_loadName_cell I.ok.kind hk hc hcell fin) hd
  .exact wpAny_Name (wpAny_loadName_free I.ok.kind hk hc hcell fin hcd) hd
theorem Zal {i j pos}:PE X (.Constant (.int i) j pos) (tC (.int i)):=fun _ _ _ H _ I h=>wpAny_Constant_int ⟨.int i,H,I.tok _,⟨_,rfl⟩,h⟩
theorem Zbg {b j pos}:PE X (.Constant (.bool b) j pos) (tC (.bl b)):=fun _ _ _ H _ I h=>Constant_bool ⟨.bl b,H,I,rfl,h⟩
theorem ZgT {j pos}:PE X (.Constant .none j pos) (tC .non):=fun _ _ _ H _ I h=>Constant_none ⟨.non,H,I,rfl,h⟩
theorem Zmq {x j pos}:PE X (.Constant (.str x) j pos) (tC (.str x)):=fun _ _ _ H _ I h=>Calls.Constant_str ⟨.str x,H,I.tok _,⟨_,rfl⟩,h⟩
def Gl (X:Cx)(x:Str):Prop:=X.env.kindOf x=some .globalImplicit
theorem Zb1 {E:Q33}{pins:List (Addr×Obj)}{s:Shared}{σ:St}{H:Hp}{x:Str}{u:Value}{pos:Pos}{Q:Q33}(I:Inv X pins σ H s)(hg:Gl X x)(hm:X.mg x=some u)(h:Q u s)
  (hd:(x == ("__debug__":Str))=false:=by decide):wpAny (model X.prog X.w) X.A (eval (.Name x pos) X.env) Q E s:=
 Calls.Name_function_global I.ok.kind hg (Calls.loadGlobal_global (by rw[I.ok.glob];exact I.mod.glob.keeps I.bk) hm h) hd
theorem Zeh {E:Q33}{pins:List (Addr×Obj)}{s:Shared}{σ:St}{H:Hp}{x:Str}{u:Value}{pos:Pos}{Q:Q33}(I:Inv X pins σ H s)(hg:Gl X x)(hm:X.mg x=none)(hv:bootBuiltins x=some u)(h:Q u s)
  (hn:x≠"__name__":=by decide) (hd:(x == ("__debug__":Str))=false:=by decide):wpAny (model X.prog X.w) X.A (eval (.Name x pos) X.env) Q E s:=by
 obtain⟨mb,h1,h2⟩:=I.mod.blt
 exact Calls.Name_function_global I.ok.kind hg (Calls.loadGlobal_builtin (by rw[I.ok.glob];exact I.mod.glob.keeps I.bk) hm (by rw[I.ok.blt];exact h1.keeps I.bk) ((h2 x hn).trans hv) h) hd
theorem ZcT {x:Str} {v:V} {u:Value} {pos:Pos} (hg:Gl X x) (hm:X.mg x=some u) (r:RelV v u) (hd:(x == ("__debug__":Str))=false:=by decide):PE X (.Name x pos) (tC v):=
 fun _ _ _ H _ I h=>Zb1 I hg hm ⟨v,H,I,r,h⟩ hd
theorem ZeB {x:Str} {v:V} {u:Value} {pos:Pos} (hg:Gl X x) (hm:X.mg x=none) (hv:bootBuiltins x=some u) (r:RelV v u) (hn:x≠"__name__":=by decide) (hd:(x == ("__debug__":Str))=false:=by decide):PE X (.Name x pos) (tC v):=
 fun _ _ _ H _ I h=>Zeh I hg hm hv ⟨v,H,I,r,h⟩ hn hd
variable {a b:Expr}{ta tb:TE}{pos:Pos}
def PC (X:Cx)(op:CmpOp)(a b:Expr)(t:TE):Prop:=
 ∀(pins:List (Addr×Obj)) (s:Shared) (σ:St) (H:Hp) (Q:VK),Inv X pins σ H s->t σ H Q ->
  wpAny (model X.prog X.w) X.A (eval a X.env) (fun v s₁=>wpAny (model X.prog X.w) X.A (eval b X.env) (fun u s₂=>wpAny (model X.prog X.w) X.A (compareOp op v u) (EP X pins σ Q) X.xe s₂) X.xe s₁) X.xe s
theorem Zjy (b:Expr){op:CmpOp}(h:op≠.In)(h2:op≠.NotIn):behindInMarks op b=false:=by
 have e1:(op == CmpOp.In)=false:=by cases op<;>first | rfl | exact absurd rfl h
 have e2:(op == CmpOp.NotIn)=false:=by cases op<;>first | rfl | exact absurd rfl h2
 cases b<;>simp[behindInMarks,e1,e2]
def tB (t:TE):TT:=fun σ H Q=>t σ H fun x H1=>∃c,x=.bl c/\Q c H1
theorem ZcD {op:CmpOp}{t:TE}(h:PC X op a b t)(h1:behindInMarks op b=false:=by first | exact Zjy _ (by decide) (by decide) | rfl):PT X (.Compare a [op] [b] pos) (tB t):=by
 intro pins s σ H Q I hw
 refine wpAny_isTrue_Compare1 (thn (h pins s σ H _ I hw) fun v s1 h1=>thn h1 fun u s2 h2=>thn h2 fun c s3 ⟨x,H1,I1,r1,q1⟩=>?_) h1
 obtain⟨d,rfl,q⟩:=q1
 cases r1
 exact YBS ⟨H1,I1,q⟩
theorem Za1 {e:Expr}{t:TE}(h:PE X e t)(he:∀whole,isTrue e X.env whole=(do let v <-whole;standAt e.pos;holding [v] (truthy v)):=by intro _;rfl):PT X e (tB t):=by
 intro pins s σ H Q I hw
 refine isTrue_plain (thn (h pins s σ H _ I hw) fun v s1 ⟨x,H1,I1,r1,q1⟩=>?_) (he _)
 obtain⟨d,rfl,q⟩:=q1
 cases r1
 exact YBS ⟨H1,I1,q⟩
variable {tA tB':TT}{rest:List Expr}
def tAnd (t u:TT):TT:=fun σ H Q=>t σ H fun c H1=>if c=true then u σ H1 Q else Q false H1
def tOr (t u:TT):TT:=fun σ H Q=>t σ H fun c H1=>if c=true then Q true H1 else u σ H1 Q
def tNot (t:TT):TT:=fun σ H Q=>t σ H fun c H1=>Q (!c) H1
theorem ZdA (ha:PT X a tA):PW X (.BoolOp .And [a] pos) tA:=by
 intro wh pins s σ H Q I h
 refine isTrue_and (thn (ha pins s σ H Q I h) fun c s1 e=>?_)
 cases c with
 | true=>exact isTrue_and_nil e
 | false=>exact e
theorem ZbX (ha:PT X a tA):PW X (.BoolOp .Or [a] pos) tA:=by
 intro wh pins s σ H Q I h
 refine isTrue_or (thn (ha pins s σ H Q I h) fun c s1 e=>?_)
 cases c with
 | false=>exact isTrue_or_nil e
 | true=>exact e
theorem Zfg (ha:PT X a tA)(hb:PW X (.BoolOp .And (b::rest) pos) tB'):PW X (.BoolOp .And (a::b::rest) pos) (tAnd tA tB'):=by
 intro wh pins s σ H Q I h
 refine isTrue_and (thn (ha pins s σ H _ I h) fun c s1 ⟨H1,I1,q1⟩=>?_)
 cases c with
 | true=>exact hb wh pins s1 σ H1 Q I1 q1
 | false=>exact⟨H1,I1,q1⟩
theorem ZbY (ha:PT X a tA)(hb:PW X (.BoolOp .Or (b::rest) pos) tB'):PW X (.BoolOp .Or (a::b::rest) pos) (tOr tA tB'):=by
 intro wh pins s σ H Q I h
 refine isTrue_or (thn (ha pins s σ H _ I h) fun c s1 ⟨H1,I1,q1⟩=>?_)
 cases c with
 | true=>exact⟨H1,I1,q1⟩
 | false=>exact hb wh pins s1 σ H1 Q I1 q1
theorem ZbH (ha:PT X a tA):PT X (.UnaryOp .Not a pos) (tNot tA):=by
 intro pins s σ H Q I h
 exact isTrue_not (ha pins s σ H (fun c H1=>Q (!c) H1) I h)
def Zl4 (ta tb:TE):TE:=fun σ H Q=>ta σ H fun x H1=>∃c,x=.bl c/\if c=true then tb σ H1 Q else Q (.bl false) H1
def tOrV (ta tb:TE):TE:=fun σ H Q=>ta σ H fun x H1=>∃c,x=.bl c/\if c=true then Q (.bl true) H1 else tb σ H1 Q
def ZlQ (ta:TE):TE:=fun σ H Q=>ta σ H fun x H1=>∃c,x=.bl c/\Q (.bl (!c)) H1
theorem ZcG {op}{t:TE}(h:PE X a t):PE X (.BoolOp op [a] pos) t:=fun pins s σ H Q I hw=>BoolOp_one (h pins s σ H Q I hw)
theorem Zbt (ha:PE X a ta)(hb:PE X (.BoolOp .And (b::rest) pos) tb):PE X (.BoolOp .And (a::b::rest) pos) (Zl4 ta tb):=by
 intro pins s σ H Q I h
 refine BoolOp_and (thn (ha pins s σ H _ I h) fun v s1 ⟨x,H1,I1,r1,q1⟩=>?_)
 obtain⟨c,rfl,q1⟩:=q1
 cases r1
 refine YBS ?_
 cases c with
 | true=>exact hb pins s1 σ H1 Q I1 q1
 | false=>exact⟨.bl false,H1,I1,rfl,q1⟩
theorem Zox (ha:PE X a ta)(hb:PE X (.BoolOp .Or (b::rest) pos) tb):PE X (.BoolOp .Or (a::b::rest) pos) (tOrV ta tb):=by
 intro pins s σ H Q I h
 refine BoolOp_or (thn (ha pins s σ H _ I h) fun v s1 ⟨x,H1,I1,r1,q1⟩=>?_)
 obtain⟨c,rfl,q1⟩:=q1
 cases r1
 refine YBS ?_
 cases c with
 | false=>exact hb pins s1 σ H1 Q I1 q1
 | true=>exact⟨.bl true,H1,I1,rfl,q1⟩
theorem Zmr (ha:PE X a ta):PE X (.UnaryOp .Not a pos) (ZlQ ta):=by
 intro pins s σ H Q I h
 refine UnaryOp_ (thn (ha pins s σ H _ I h) fun v s1 ⟨x,H1,I1,r1,q1⟩=>?_)
 obtain⟨c,rfl,q1⟩:=q1
 cases r1
 exact not_of (YBS ⟨.bl (!c),H1,I1,rfl,q1⟩)
def tIf (t:TT)(ta tb:TE):TE:=fun σ H Q=>t σ H fun c H1=>if c=true then ta σ H1 Q else tb σ H1 Q
end
def SqL (K:Q44)(H:Hp)(a:Addr)(xs:List V):Prop:=
 Rd H a (.lst xs) \/
  ∃(o:Obj) (its:Array Value) (n:Nat),K.lookup a=some o/\o.cls=.type "list"/\o.dict=none/\o.data=.seq its n/\its.size<=sizeLine/\Vals xs its.toList
def SqT (K:Q44)(H:Hp)(a:Addr)(xs:List V):Prop:=
 Rd H a (.tup xs) \/
  ∃(o:Obj) (its:Array Value) (n:Nat),K.lookup a=some o/\o.cls=.type "tuple"/\o.data=.seq its n/\its.size<=sizeLine/\Vals xs its.toList
def absV:Value->Option V
 | .none=>some .non
 | .bool b=>some (.bl b)
 | .int i _=>some (.int i)
 | .str x _=>some (.str x)
 | .bytes b _=>some (.byt b)
 | .float b _=>some (.flt b)
 | .ref a=>some (.ref a)
 | .type n=>some (.ty n)
 | _=>none
theorem RelV.abs {x:V}{u:Value}(r:RelV x u):absV u=some x:=by
 cases x with
 | non=>cases r;rfl
 | bl _=>cases r;rfl
 | int _=>obtain⟨t,rfl⟩:=r;rfl
 | str _=>obtain⟨t,rfl⟩:=r;rfl
 | byt _=>obtain⟨t,rfl⟩:=r;rfl
 | flt _=>obtain⟨t,rfl⟩:=r;rfl
 | ref _=>cases r;rfl
 | ty _=>cases r;rfl
theorem RelV.inj {x y:V}{u:Value}(r:RelV x u)(q:RelV y u):x=y:=Option.some.inj (r.abs.symm.trans q.abs)
theorem Vals.inj:∀ {xs ys:List V} {us:List Value},Vals xs us->Vals ys us->xs=ys
 | _,_,_,.nil,.nil=>rfl
 | _,_,_,.cons r t,.cons r' t'=>by rw[r.inj r',Vals.inj t t']
section
variable {X:Cx}{pins:List (Addr×Obj)}{σ:St}{H:Hp}{s:Shared}{a:Addr}{xs ys:List V}
theorem Inv.list (I:Inv X pins σ H s)(h:SqL X.K H a xs):∃its:List Value,Vals xs its/\PlainL s.heap a its.toArray/\xs.length<=sizeLine:=by
 rcases h with h | ⟨o,its,n,hk,hc,hd,hs,hz,r⟩
 .obtain⟨z,its,n,r,e⟩:=h.ok I.hok
  exact⟨its,r,⟨_,n,e,rfl,rfl,rfl⟩,z⟩
 .refine⟨its.toList,r,⟨o,n,I.kIn a o hk,hc,hd,by simpa using hs⟩,?_⟩
  have e:=r.length
  simp only[YAm]at e
  omega
theorem Inv.tuple (I:Inv X pins σ H s)(h:SqT X.K H a xs):∃its:List Value,Vals xs its/\IsTup s.heap a its.toArray/\xs.length<=sizeLine:=by
 rcases h with h | ⟨o,its,n,hk,hc,hs,hz,r⟩
 .obtain⟨z,its,r,p⟩:=h.ok I.hok
  exact⟨its,r,p,z⟩
 .refine⟨its.toList,r,⟨o,I.kIn a o hk,hc,n,by simpa using hs⟩,?_⟩
  have e:=r.length
  simp only[YAm]at e
  omega
theorem Inv.list_inj (I:Inv X pins σ H s)(h:SqL X.K H a xs)(h':SqL X.K H a ys):xs=ys:=by
 obtain⟨its,r,⟨o,n,e,_,_,d⟩,_⟩:=I.list h
 obtain⟨its',r',⟨o',n',e',_,_,d'⟩,_⟩:=I.list h'
 rw[e]at e';cases e'
 rw[d]at d'
 injection d' with d1 _
 have:its=its':=by simpa using congrArg Array.toList d1
 subst this
 exact r.inj r'
theorem Inv.tuple_inj (I:Inv X pins σ H s)(h:SqT X.K H a xs)(h':SqT X.K H a ys):xs=ys:=by
 obtain⟨its,r,⟨o,e,_,n,d⟩,_⟩:=I.tuple h
 obtain⟨its',r',⟨o',e',_,n',d'⟩,_⟩:=I.tuple h'
 rw[e]at e';cases e'
 rw[d]at d'
 injection d' with d1 _
 have:its=its':=by simpa using congrArg Array.toList d1
 subst this
 exact r.inj r'
end
abbrev Cx.wish (X:Cx)(E:Q33):Cx:={ X with xe:=E }
abbrev Cx.nox (X:Cx):Cx:=X.wish fun _ _=>False
theorem Cx.Ok.wish {X:Cx}(ok:X.Ok)(E:Q33):(X.wish E).Ok:=
 ⟨ok.mod,ok.kind,ok.glob,ok.blt,ok.above,ok.inj,ok.has,ok.cab,ok.hd,ok.frames,ok.stk,ok.exf,ok.bs,ok.bsz,ok.noex,ok.exfs,ok.funs,ok.frf⟩
theorem Cx.Ok.unwish {X:Cx}{E:Q33}(ok:(X.wish E).Ok):X.Ok:=
 ⟨ok.mod,ok.kind,ok.glob,ok.blt,ok.above,ok.inj,ok.has,ok.cab,ok.hd,ok.frames,ok.stk,ok.exf,ok.bs,ok.bsz,ok.noex,ok.exfs,ok.funs,ok.frf⟩
section
variable {X:Cx}{pins:List (Addr×Obj)}{σ:St}{H:Hp}{s:Shared}{E:Q33}
theorem Inv.wish (I:Inv X pins σ H s)(E:Q33):Inv (X.wish E) pins σ H s:=⟨I.ok.wish E,I.os,I.bare,I.base,I.loc,I.cell,I.free,I.freeC,I.pin,I.hok,I.len⟩
theorem Inv.unwish (I:Inv (X.wish E) pins σ H s):Inv X pins σ H s:=⟨I.ok.unwish,I.os,I.bare,I.base,I.loc,I.cell,I.free,I.freeC,I.pin,I.hok,I.len⟩
theorem SP.unwish {D:Ends}{f:Flow}{s':Shared}(h:SP (X.wish E) pins D f s'):SP X pins D f s':=by
 cases f with
 | next=>obtain⟨σ',H',I,q⟩:=h;exact⟨σ',H',I.unwish,q⟩
 | brk=>obtain⟨σ',H',I,q⟩:=h;exact⟨σ',H',I.unwish,q⟩
 | cont=>obtain⟨σ',H',I,q⟩:=h;exact⟨σ',H',I.unwish,q⟩
 | ret u=>obtain⟨v,σ',H',I,r,q⟩:=h;exact⟨v,σ',H',I.unwish,r,q⟩
theorem PSs.nox {st:List Stmt}{t:TS}(h:PSs X.nox st t):PSs X st t:=fun pins s σ H D I hw=>
 YBN (h pins s σ H D (I.wish _) hw) (fun _ _ q=>q.unwish) fun _ _ z=>False.elim z
end
section
variable {X:Cx}{st:Stmt}{rest:List Stmt}{t u:TS}{e:Expr}{te:TE}{pos:Pos}
def tNext:TS:=fun D σ H=>D.nx σ H
def tSeq (t u:TS):TS:=fun D σ H=>t { D with nx:=u D } σ H
theorem Zau:PSs X [] tNext:=fun _ _ σ H _ I h=>YCf ⟨σ,H,I,h⟩
theorem Zab (h1:PS X st t)(h2:PSs X rest u):PSs X (st::rest) (tSeq t u):=by
 intro pins s σ H D I h
 refine wpAny_execs_cons (thn (h1 pins s σ H { D with nx:=u D } I h) fun f s1 q=>?_)
 cases f with
 | next=>
  obtain⟨σ',H',I',q⟩:=q
  exact h2 pins s1 σ' H' D I' q
 | ret v=>exact q
 | brk=>exact q
 | cont=>exact q
theorem Zae (h1:PS X st t):PSs X [st] t:=by
 intro pins s σ H D I h
 refine wpAny_execs_cons (thn (h1 pins s σ H D I h) fun f s1 q=>?_)
 cases f with
 | next=>exact YCf q
 | ret v=>exact q
 | brk=>exact q
 | cont=>exact q
theorem Inv.quiet {pins:List (Addr×Obj)}{σ:St}{H:Hp}{s:Shared}(I:Inv X pins σ H s):interactive X.env=false:=by simp[interactive,I.ok.kind]
def ZlV (te:TE):TS:=fun D σ H=>te σ H fun _ H1=>D.nx σ H1
theorem ZaU (he:PE X e te)(hs:swapsWith e none pos.line X.env=pure false:=by rfl):PS X (.Expr e pos) (ZlV te):=by
 intro pins s σ H D I h
 exact wpAny_Expr_any (thn (he pins s σ H _ I h) fun v s1 ⟨x,H1,I1,r1,q1⟩=>⟨σ,H1,I1,q1⟩) I.quiet hs
def tRet (te:TE):TS:=fun D σ H=>te σ H D.rt
theorem Zar (he:PE X e te):PS X (.Return (some e) pos) (tRet te):=by
 intro pins s σ H D I h
 exact wpAny_Return_some (thn (he pins s σ H _ I h) fun v s1 ⟨x,H1,I1,r1,q1⟩=>⟨x,σ,H1,I1,r1,q1⟩)
def Znl:TS:=fun D _ H=>D.rt .non H
def tIfS (c:TT)(t u:TS):TS:=fun D σ H=>c σ H fun b H1=>if b=true then t D σ H1 else u D σ H1
theorem ZaP {c:Expr}{a b:List Stmt}{tc:TT}(hc:PT X c tc)(ha:PSs X a t)(hb:PSs X b u):PS X (.If c a b pos) (tIfS tc t u):=by
 intro pins s σ H D I h
 refine wpAny_If (thn (hc pins s σ H _ I h) fun d s1 ⟨H1,I1,q1⟩=>?_)
 cases d with
 | true=>exact ha pins s1 σ H1 D I1 q1
 | false=>exact hb pins s1 σ H1 D I1 q1
end
abbrev TG:=V->St->Hp->(St->Hp->Prop)->Prop
abbrev TGs:=List V->St->Hp->(St->Hp->Prop)->Prop
def PG (X:Cx)(target:Expr)(t:TG):Prop:=
 ∀(pins:List (Addr×Obj)) (s:Shared) (σ:St) (H:Hp) (v:V) (u:Value) (Q:St->Hp->Prop),Inv X pins σ H s->RelV v u->t v σ H Q ->
  wpAny (model X.prog X.w) X.A (assign target X.env u) (fun _ s'=>∃σ' H',Inv X pins σ' H' s'/\Q σ' H') X.xe s
def PGs (X:Cx)(ts:List Expr)(t:TGs):Prop:=
 ∀(pins:List (Addr×Obj)) (s:Shared) (σ:St) (H:Hp) (vs:List V) (us:List Value) (Q:St->Hp->Prop),Inv X pins σ H s->Vals vs us->t vs σ H Q ->
  wpAny (model X.prog X.w) X.A (assignInOrder ((assignEach ts X.env).map (·.2)) us) (fun _ s'=>∃σ' H',Inv X pins σ' H' s'/\Q σ' H') X.xe s
abbrev TIp:=V->V->Hp->VK->Prop
def PIp (X:Cx)(op:Operator)(t:TIp):Prop:=
 ∀(pins:List (Addr×Obj)) (s:Shared) (σ:St) (H:Hp) (x y:V) (v u:Value) (Q:VK),Inv X pins σ H s->RelV x v->RelV y u->t x y H Q ->
  wpAny (model X.prog X.w) X.A (inplaceOp op v u) (EP X pins σ Q) X.xe s
section
variable {X:Cx}{pos:Pos}
def Zcx (i:Nat):TG:=fun v σ H Q=>Q (σ.set i (some v)) H
theorem Zaq {i:Nat}{x:Str}(hN:X.N.Nodup)(hi:X.N[i]?=some x)(hx:Loc X.env.scope x)(hf:X.fn x=true\/X.env.scope.names.lookup x=some .local:=by first | exact .inl rfl | exact .inr rfl | assumption):PG X (.Name x pos) (Zcx i):=by
 intro pins s σ H v u Q I r h
 exact wpAny_assign_Name (ZcA I hN hi hx r (fun s' I'=>⟨_,H,I',h⟩) hf)
def gNil:TGs:=fun vs σ H Q=>vs=[]/\Q σ H
def Zm2 (t:TG)(u:TGs):TGs:=fun vs σ H Q=>∃v r,vs=v::r/\t v σ H fun σ' H'=>u r σ' H' Q
theorem ZkZ:PGs X [] gNil:=by
 intro pins s σ H vs us Q I r h
 obtain⟨e,h⟩:=h
 subst e
 cases r
 exact assignInOrder_nil ⟨σ,H,I,h⟩
theorem Zez {e:Expr}{es:List Expr}{t:TG}{u:TGs}(h1:PG X e t)(h2:PGs X es u)
  (hs:(assignEach (e::es) X.env).map (·.2)=assign e X.env::(assignEach es X.env).map (·.2):=by rfl):PGs X (e::es) (Zm2 t u):=by
 intro pins s σ H vs us Q I r h
 obtain⟨v,vr,e1,h⟩:=h
 subst e1
 cases r with
 | cons r rr=>
  rw[hs]
  refine assignInOrder_cons (thn (h1 pins s σ H _ _ _ I r h) fun _ s1 ⟨σ1,H1,I1,q1⟩=>?_)
  exact h2 pins s1 σ1 H1 _ _ Q I1 rr q1
def gTup (K:Q44)(n:Nat)(t:TGs):TG:=fun v σ H Q=>∃a xs,v=.ref a/\SqT K H a xs/\xs.length=n/\t xs σ H Q
theorem Zmo {es:List Expr}{k:Nat}{t:TGs}{n:Nat}(hc:X.calm=true)(h:PGs X es t)
  (hn:(assignEach es X.env).length=n:=by rfl) (hst:(assignEach es X.env).findIdx? (·.1)=none:=by rfl):PG X (.Tuple es k pos) (gTup X.K n t):=by
 intro pins s σ H v u Q I r hw
 obtain⟨a,xs,e1,hq,hl,hw⟩:=hw
 subst e1
 cases r
 obtain⟨its,rv,ht,hz⟩:=I.tuple hq
 refine assign_Tuple_tuple (I.ok.hd hc) ht (by simp[hn,<-hl,rv.length]) hst fun h' hx=>?_
 have I1:Inv X pins σ H { s with heap:=h' }:=I.kept (t':=s.toks) fun b o e=>hx b o (YAi (YAL e)) e
 exact h pins _ σ H xs _ Q I1 (by simpa using rv) hw
def tAsg (te:TE)(g:TG):TS:=fun D σ H=>te σ H fun x H1=>g x σ H1 D.nx
theorem Zmm {tg e:Expr}{te:TE}{g:TG}(he:PE X e te)(hg:PG X tg g)(hs:swapsWithSole [tg] e pos.line X.env=pure false:=by rfl)(hw:swappedStores [tg] e X.env=pure none:=by rfl)
  (h1:(assignEach [tg] X.env).map (·.2)=[assign tg X.env]:=by rfl):PS X (.Assign [tg] e pos) (tAsg te g):=by
 intro pins s σ H D I h
 refine wpAny_Assign_stores (thn (he pins s σ H _ I h) fun v s1 ⟨x,H1,I1,r1,q1⟩=>?_) hs hw
 rw[h1]
 exact thn (hg pins s1 σ H1 x v _ I1 r1 q1) fun _ s2 q=>q
theorem Zan {i:Nat}{x:Str}{e:Expr}{te:TE}{pos':Pos}(hN:X.N.Nodup)(hi:X.N[i]?=some x)(hx:Loc X.env.scope x)(he:PE X e te)(hs:swapsWith e (some (.Name x pos')) pos.line X.env=pure false:=by rfl)(hf:X.fn x=true\/X.env.scope.names.lookup x=some .local:=by first | exact .inl rfl | exact .inr rfl | assumption):
  PS X (.Assign [.Name x pos'] e pos) (tAsg te (Zcx i)):=by
 intro pins s σ H D I h
 refine wpAny_Assign_Name (thn (he pins s σ H _ I h) fun v s1 ⟨y,H1,I1,r1,q1⟩=>?_) hs
 exact ZcA I1 hN hi hx r1 (fun s2 I2=>⟨_,H1,I2,q1⟩) hf
def tPar (i j:Nat)(ta:TA):TS:=fun D σ H=>ta σ H fun vs H1=>∃v w,vs=[v,w]/\D.nx ((σ.set i (some v)).set j (some w)) H1
def tAug (i:Nat)(te:TE)(ti:TIp):TS:=fun D σ H=>∃x,σ[i]?=some (some x)/\te σ H fun y H1=>ti x y H1 fun z H2=>D.nx (σ.set i (some z)) H2
theorem Zj8 {i:Nat}{x:Str}{e:Expr}{te:TE}{op:Operator}{ti:TIp}{pos':Pos}(hN:X.N.Nodup)(hi:X.N[i]?=some x)(hx:Loc X.env.scope x)(he:PE X e te)(ho:PIp X op ti)(hf:X.fn x=true\/X.env.scope.names.lookup x=some .local:=by first | exact .inl rfl | exact .inr rfl | assumption):
  PS X (.AugAssign (.Name x pos') op e pos) (tAug i te ti):=by
 intro pins s σ H D I h
 obtain⟨v,e1,h⟩:=h
 obtain⟨m,hn,hl⟩:=I.loc
 have vis:Vis X.env.scope x:=by rcases hx with k | k;exact .inl k;exact .inr (.inl k)
 obtain⟨u,r,l⟩:=hl i x v hi e1 vis
 refine wpAny_AugAssign_Name ?_
 have go:wpAny (model X.prog X.w) X.A (eval e X.env) (fun w s₂=>wpAny (model X.prog X.w) X.A (inplaceOp op u w) (fun r s₃=>wpAny (model X.prog X.w) X.A (storeName X.env x r) (fun _=>SP X pins D .next) X.xe s₃) X.xe s₂) X.xe s:=by
  refine thn (he pins s σ H _ I h) fun w s1 ⟨y,H1,I1,r1,q1⟩=>?_
  refine thn (ho pins s1 σ H1 v y u w _ I1 r r1 q1) fun z s2 ⟨zv,H2,I2,r2,q2⟩=>?_
  exact ZcA I2 hN hi hx r2 (fun s3 I3=>⟨_,H2,I3,q2⟩) hf
 rcases l with⟨hk,hm⟩|⟨hk,c,hc,hcell⟩
 .exact wpAny_loadName_local I.ok.kind hk hn hm go
 .rcases hk with hk | hk
  .exact wpAny_loadName_cell I.ok.kind hk hc hcell go
  .rcases hx with k | k
   .have:X.env.scope.names.lookup x=some .free:=hk
    rw[k]at this;cases this
   .have:X.env.scope.names.lookup x=some .free:=hk
    rw[k]at this;cases this
def ipI (f:Int->Int->Int):TIp:=fun x y H Q=>∃i j,x=.int i/\y=.int j/\Q (.int (f i j)) H
theorem Zke:PIp X .Add (ipI fun i j=>i+j):=by
 intro pins s σ H x y v u Q I r1 r2 h
 obtain⟨i,j,e1,e2,q⟩:=h
 subst e1;subst e2
 obtain⟨t,rfl⟩:=r1
 obtain⟨t',rfl⟩:=r2
 exact iadd_int ⟨.int _,H,I.tok _,⟨_,rfl⟩,q⟩
end
section
variable {X:Cx}{pos:Pos}
def Zh4 (c:TT)(tb:TS):TS:=fun D σ H=>∃W:Nat->St->Hp->Prop,(∃m,W m σ H)/\∀m σ H,W m σ H ->
 c σ H fun b H1=>if b=true then ∃N:St->Hp->Prop,(∀σ' H',N σ' H'->∃m',m'<m/\W m' σ' H')/\tb { D with nx:=N,ct:=N,bk:=D.nx } σ H1 else D.nx σ H1
theorem Zcb {c:Expr}{body:List Stmt}{tc:TT}{tb:TS}(hp:PassesOwn (model X.prog X.w) X.A X.env X.xe)(hc:PT X c tc)(hb:PSs X body tb):PS X (.While c body [] pos) (Zh4 tc tb):=by
 intro pins s σ H D I h
 obtain⟨W,⟨m0,w0⟩,turn⟩:=h
 refine wpAny_While (codeAny_whileLoop (fun n s'=>∃σ' H',Inv X pins σ' H' s'/\W n σ' H') ?_ m0 ⟨σ,H,I,w0⟩)
 rintro n s1 ⟨σ1,H1,I1,w1⟩
 refine YCL hp (thn (hc pins s1 σ1 H1 _ I1 (turn n σ1 H1 w1)) fun b s2 ⟨H2,I2,q2⟩=>?_)
 cases b with
 | true=>
  obtain⟨N,hN,q2⟩:=q2
  rw[YAW rfl]
  refine YCL hp (thn (hb pins s2 σ1 H2 _ I2 q2) fun f s3 q3=>?_)
  cases f with
  | next=>
   obtain⟨σ3,H3,I3,n3⟩:=q3
   obtain⟨m',hm,w3⟩:=hN σ3 H3 n3
   exact⟨m',hm,σ3,H3,I3,w3⟩
  | cont=>
   obtain⟨σ3,H3,I3,n3⟩:=q3
   obtain⟨m',hm,w3⟩:=hN σ3 H3 n3
   exact⟨m',hm,σ3,H3,I3,w3⟩
  | brk=>exact q3
  | ret v=>exact q3
 | false=>
  rw[YAX YAF]
  exact YCf ⟨σ1,H2,I2,q2⟩
end
structure It where
 go:Nat->Hp->Prop
 yld:Nat->Hp->V->Hp->Prop
 stop:Nat->Hp->Prop
def FpOk (X:Cx)(pins:List (Addr×Obj))(H:Hp)(b:Addr):Prop:=
 H b=none/\b≠X.env.locals/\b∉X.fs/\(b∈X.ex\/X.s₀.heap.objs.size<=b)/\(∀x c,X.env.cells.lookup x=some c->c≠b)/\∀p∈X.pn++pins,p.1≠b
theorem Inv.fpOk {X:Cx}{pins:List (Addr×Obj)}{σ:St}{H H':Hp}{s:Shared}{b:Addr}(I:Inv X pins σ H s)(hb:s.heap.objs.size<=b)(hn:H' b=none):FpOk X pins H' b:=by
 refine⟨hn,Nat.ne_of_gt (YAT I.lt hb),I.nofs hb,.inr (YAK I.sz hb),fun x c e z=>?_,fun p hp z=>?_⟩
 .obtain⟨v,q⟩:=I.cell x c e
  exact absurd (YAT q.lt (by rw[z];exact hb)) (YAo _)
 .exact absurd (YAT (YAL (I.pin p hp).1) (by rw[z];exact hb)) (YAo _)
structure Turn (P:Program)(w:World)(K:Q44)(tg:Expr)(J:It)(fp:List Addr)(it:Addr)(tn:Nat->Heap->Prop):Prop where
 mem:it∈fp
 obj:∀i h,tn i h->∀b∈fp,∃o,h.get? b=some o/\∀v,o.data≠.cell v
 keep:∀i h h',tn i h->(∀b∈fp,∀o,h.get? b=some o->h'.get? b=some o)->tn i h'
 item:∀(X:Cx),X.prog=P->X.w=w->X.K=K->X.calm=true->∀(i:Nat) (pins:List (Addr×Obj)) (s:Shared) (σ:St) (H:Hp) (E:Q33),Inv X pins σ H s->(∀b∈fp,FpOk X pins H b)->tn i s.heap->J.go i H ->
  wpAny (model P w) X.A (pyNext (.ref it)) (fun r s1=>∃u,r=some u /\
   wpAny (model P w) X.A (letOwnedTupleGo tg (.ref it) u) (fun _ s2=>∃x H',Inv X pins σ H' s2/\RelV x u/\J.yld i H x H'/\tn (i+1) s2.heap/\∀b∈fp,H' b=none) E s1) E s
 done:∀(X:Cx),X.prog=P->X.w=w->X.K=K->X.calm=true->∀(i:Nat) (pins:List (Addr×Obj)) (s:Shared) (σ:St) (H:Hp) (E:Q33),Inv X pins σ H s->(∀b∈fp,FpOk X pins H b)->tn i s.heap->J.stop i H ->
  wpAny (model P w) X.A (pyNext (.ref it)) (fun r s1=>r=none/\Inv X pins σ H s1) E s
 self:∀(A:Around) (i:Nat) (s:Shared) (Q:Q33) (E:Q33),tn i s.heap->Q (.ref it) s->wpAny (model P w) A (pyIter (.ref it)) Q E s
abbrev TI:=St->Hp->(It->Hp->Prop)->Prop
def PIE (X:Cx)(pins:List (Addr×Obj))(σ:St)(tg:Expr)(R:It->Hp->Prop)(itv:Value)(s2:Shared):Prop:=
 ∃(it:Addr) (fp:List Addr) (tn:Nat->Heap->Prop) (J:It) (H':Hp),itv=.ref it/\Inv X pins σ H' s2/\Turn X.prog X.w X.K tg J fp it tn/\tn 0 s2.heap/\(∀b∈fp,FpOk X pins H' b)/\R J H'
def PI (X:Cx)(tg iter:Expr)(wi:TI):Prop:=
 ∀(pins:List (Addr×Obj)) (s:Shared) (σ:St) (H:Hp) (R:It->Hp->Prop),Inv X pins σ H s->wi σ H R ->
  wpAny (model X.prog X.w) X.A (eval iter X.env) (fun v s1=>wpAny (model X.prog X.w) X.A (pyIter v) (PIE X pins σ tg R) X.xe s1) X.xe s
theorem ZiR {M:Model}{A:Around}{E:Q33}{s:Shared}{tg:Expr}{it:Addr}{u:Value}{o:Obj}{n:String}{vs:Array Value}{Q:Unit->Shared->Prop}(ho:s.heap.get? it=some o)(hc:o.cls=.type n)(hd:o.data=.fields vs)
    (hn:["enumerate","zip","dict_itemiterator","dict_reverseitemiterator","odict_iterator","itertools.zip_longest","itertools.pairwise"].contains n=false) (hQ:Q () s):wpAny M A (letOwnedTupleGo tg (.ref it) u) Q E s:=by
  unfold letOwnedTupleGo
  cases tg<;>first
    | exact YAH hQ
    | (cases u<;>first
        | exact YAH hQ
        | (refine YAA (wpAny_load ho ?_)
           rw[hc,hd]
           show wpAny M A (if (["enumerate","zip","dict_itemiterator","dict_reverseitemiterator","odict_iterator","itertools.zip_longest","itertools.pairwise"].contains n&&vs[0]? == some (rawInt _))=true then _ else _) Q E s
           rw[YAX (by intro h;rw[hn,YBw]at h;cases h)]
           exact YAH hQ))
def Itl (K:Q44)(a:Addr):It:=
 ⟨fun i H=>∃xs x,SqL K H a xs/\xs[i]?=some x,fun i H x H'=>H'=H/\∀xs,SqL K H a xs->xs[i]?=some x,fun i H=>∃xs,SqL K H a xs/\xs.length<=i⟩
def Itt (K:Q44)(a:Addr):It:=
 ⟨fun i H=>∃xs x,SqT K H a xs/\xs[i]?=some x,fun i H x H'=>H'=H/\∀xs,SqT K H a xs->xs[i]?=some x,fun i H=>∃xs,SqT K H a xs/\xs.length<=i⟩
def Itr (lo:Int)(n:Nat):It:=⟨fun i _=>i<n,fun i H x H'=>H'=H/\x=.int (lo+i),fun i _=>n<=i⟩
theorem Zh2 {P:Program}{w:World}{K:Q44}{tg:Expr}(a it:Addr):Turn P w K tg (Itl K a) [it] it (fun i h=>h.IsListIter it a i) where
 mem:=by simp
 obj:=fun i h st b hb=>by
  have e:b=it:=by simpa using hb
  subst e
  obtain⟨o,e,c,d⟩:=st
  exact⟨o,e,fun v z=>by rw[d]at z;cases z⟩
 keep:=fun i h h' st k=>st.at fun o e=>k it (by simp) o e
 item:=by
  intro X hP hw hK hc i pins s σ H E I hf st hg
  subst hP hw hK
  obtain⟨xs,x,hq,hx⟩:=hg
  obtain⟨its,rv,p,hz⟩:=I.list hq
  obtain⟨u,hu,ru⟩:=rv.get hx
  obtain⟨f0,f1,f2,f3,f4,f5⟩:=hf it (by simp)
  refine YCo st p.isList (x:=u) (by simpa using hu) fun h' st' sb=>?_
  have I1:Inv X pins σ H { s with heap:=h' }:=I.turned (t':=s.toks) (fun b o hb e=>(sb.2 b hb).trans e) f0 f1 f3 f4 f5
  obtain⟨o,e,c,d⟩:=id st'
  exact⟨u,rfl,ZiR (s:={ s with heap:=h' }) e c d (by decide) ⟨x,H,I1,ru,⟨rfl,fun ys hy=>by rw[I.list_inj hy hq];exact hx⟩,st',fun b hb=>(hf b hb).1⟩⟩
 done:=by
  intro X hP hw hK hc i pins s σ H E I hf st hg
  subst hP hw hK
  obtain⟨xs,hq,hx⟩:=hg
  obtain⟨its,rv,p,hz⟩:=I.list hq
  obtain⟨f0,f1,f2,f3,f4,f5⟩:=hf it (by simp)
  have hl:=rv.length
  exact wpAny_pyNext_list_end (I.ok.hd hc) st p.isList (by simp;omega) fun h' eb=>⟨rfl,I.turned (t':=s.toks) (fun b o hb e=>eb b o hb e) f0 f1 f3 f4 f5⟩
 self:=fun _ _ _ _ _ st h=>wpAny_pyIter_listiter st h
theorem Zhi {P:Program}{w:World}{K:Q44}{tg:Expr}(it:Addr)(lo:Int)(n:Nat):Turn P w K tg (Itr lo n) [it] it (fun i h=>IsRangeIter h it (lo+(i:Nat)*1) ((n:Int)-(i:Nat)) 1) where
 mem:=by simp
 obj:=fun i h st b hb=>by
  have e:b=it:=by simpa using hb
  subst e
  exact⟨_,st,fun v z=>by
   have z':Data.fields _=Data.cell v:=z
   cases z'⟩
 keep:=fun i h h' st k=>k it (by simp) _ st
 item:=by
  intro X hP hw hK hc i pins s σ H E I hf st hg
  subst hP hw hK
  obtain⟨f0,f1,f2,f3,f4,f5⟩:=hf it (by simp)
  have W:=Walks.range (prog:=X.prog) (w:=X.w) (I.ok.hd hc) it lo 1 n
  refine W.item i s _ _ hg st fun v h' tk hv st' kk=>?_
  obtain⟨t,rfl⟩:=hv
  have I1:Inv X pins σ H { s with heap:=h',toks:=tk }:=I.turned (fun b o hb e=>kk b o (by simpa using hb) e) f0 f1 f3 f4 f5
  refine⟨_,rfl,ZiR (s:={ s with heap:=h',toks:=tk }) (n:="range_iterator") st' rfl rfl (by decide) ⟨.int (lo+i),H,I1,⟨t,?_⟩,⟨rfl,rfl⟩,st',fun b hb=>(hf b hb).1⟩⟩
  rw[Int.mul_one]
 done:=by
  intro X hP hw hK hc i pins s σ H E I hf st hg
  subst hP hw hK
  obtain⟨f0,f1,f2,f3,f4,f5⟩:=hf it (by simp)
  exact wpAny_pyNext_range_end (I.ok.hd hc) st (by have:n<=i:=hg;omega) fun h' eb=>⟨rfl,I.turned (t':=s.toks) (fun b o hb e=>eb b o hb e) f0 f1 f3 f4 f5⟩
 self:=fun _ _ _ _ _ st h=>wpAny_pyIter_rangeiter st h
section
variable {X:Cx}{tg:Expr}
def Zlm (K:Q44)(tl:TE):TI:=fun σ H R=>tl σ H fun x H1=>∃a,x=.ref a/\(∃xs,SqL K H1 a xs)/\R (Itl K a) H1
def iTup (K:Q44)(tl:TE):TI:=fun σ H R=>tl σ H fun x H1=>∃a,x=.ref a/\(∃xs,SqT K H1 a xs)/\R (Itt K a) H1
theorem ZkY {l:Expr}{tl:TE}(hl:PE X l tl):PI X tg l (Zlm X.K tl):=by
 intro pins s σ H R I h
 refine thn (hl pins s σ H _ I h) fun v s1 ⟨x,H1,I1,r1,q1⟩=>?_
 obtain⟨a,e,⟨xs,hq⟩,q⟩:=q1
 subst e
 cases r1
 obtain⟨its,rv,p,hz⟩:=I1.list hq
 refine YCC p.isList ?_
 refine⟨s1.heap.objs.size,[s1.heap.objs.size],_,_,H1,rfl,I1.kept (t':=s1.toks) fun b o e=>YAC _ e,Zh2 a _,⟨_,YAQ _ rfl,rfl,rfl⟩,fun b hb=>?_,q⟩
 have e:b=s1.heap.objs.size:=by simpa using hb
 subst e
 exact I1.fpOk (YAJ _) (I1.hok.fresh (YAJ _))
theorem ZgR {pins:List (Addr×Obj)}{σ:St}{H:Hp}{s:Shared}{R:It->Hp->Prop}{E:Q33}{lo hi:Int}{t u v:Tok}{tk:Nat}(I:Inv X pins σ H s)(h1:-(2 ^ 62)<=lo)(h2:lo<2 ^ 62)(h3:-(2 ^ 62)<=hi)(h4:hi<2 ^ 62)
  (q:R (Itr lo (hi-lo).toNat) H):wpAny (model X.prog X.w) X.A (pyIter (.ref s.heap.objs.size)) (PIE X pins σ tg R) E { s with heap:=s.heap.push { cls:=.type "range",data:=.fields #[.int lo t,.int hi u,.int 1 v] },toks:=tk }:=by
 refine wpAny_pyIter_range (IsRange.new ..) (small_one h1 h2 h3 h4) ?_
 have I1:Inv X pins σ H { s with heap:=s.heap.push { cls:=.type "range",data:=.fields #[.int lo t,.int hi u,.int 1 v] },toks:=tk }:=I.kept fun b o e=>YAC _ e
 refine⟨(s.heap.push { cls:=.type "range",data:=.fields #[.int lo t,.int hi u,.int 1 v] }).objs.size,[(s.heap.push { cls:=.type "range",data:=.fields #[.int lo t,.int hi u,.int 1 v] }).objs.size],_,_,H,rfl,
  I1.kept (t':=tk) fun b o e=>YAC _ e,Zhi _ lo (hi-lo).toNat,?_,fun b hb=>?_,q⟩
 .have e1:lo+((0:Nat):Int)*1=lo:=by simp
  have e2:(((hi-lo).toNat:Nat):Int)-((0:Nat):Int)=Builtin.Range.rangeSize lo hi 1:=by rw[rangeSize_one];split<;>omega
  show IsRangeIter _ _ (lo+((0:Nat):Int)*1) ((((hi-lo).toNat:Nat):Int)-((0:Nat):Int)) 1
  rw[e1,e2]
  exact YAQ _ rfl
 .have e:b=(s.heap.push { cls:=.type "range",data:=.fields #[.int lo t,.int hi u,.int 1 v] }).objs.size:=by simpa using hb
  subst e
  exact I1.fpOk (YAJ _) (I1.hok.fresh (YAJ _))
def ZmZ (ta:TA):TI:=fun σ H R=>ta σ H fun vs H1=>∃j:Int,vs=[.int j]/\-(2 ^ 62)<=j/\j<2 ^ 62/\R (Itr 0 j.toNat) H1
def ZmY (ta:TA):TI:=fun σ H R=>ta σ H fun vs H1=>∃i j:Int,vs=[.int i,.int j]/\(-(2 ^ 62)<=i/\i<2 ^ 62/\-(2 ^ 62)<=j/\j<2 ^ 62)/\R (Itr i (j-i).toNat) H1
theorem Zbr {a:Expr} {ta:TA} {p pos:Pos} (hg:Gl X "range") (hm:X.mg "range"=none) (ha:PA X [a] ta) (hs:starEach [a] X.env=[(false,eval a X.env)]:=by rfl):PI X tg (.Call (.Name "range" p) [a] [] pos) (ZmZ ta):=by
 intro pins s σ H R I h
 refine Call_ (Zeh I hg hm boot_range (YDI (thn (ha pos pins s σ H _ I h) fun us s1 ⟨vs,H1,I1,r1,q1⟩=>?_) hs rfl))
 obtain⟨j,e,q1,q2,q⟩:=q1
 subst e
 cases r1 with
 | cons r rr=>
  cases rr
  obtain⟨t,rfl⟩:=r
  exact call_range_1 (ZgR I1 (by omega) (by omega) q1 q2 (by simpa using q))
theorem ZcF {a b:Expr} {ta:TA} {p pos:Pos} (hg:Gl X "range") (hm:X.mg "range"=none) (ha:PA X [a,b] ta) (hs:starEach [a,b] X.env=[(false,eval a X.env),(false,eval b X.env)]:=by rfl) (hs2:starEach [b] X.env=[(false,eval b X.env)]:=by rfl):
  PI X tg (.Call (.Name "range" p) [a,b] [] pos) (ZmY ta):=by
 intro pins s σ H R I h
 refine Call_ (Zeh I hg hm boot_range (YDI (thn (ha pos pins s σ H _ I h) fun us s1 ⟨vs,H1,I1,r1,q1⟩=>?_) (by rw[hs,hs2]) (by rw[hs2];rfl)))
 obtain⟨i,j,e,⟨q1,q2,q3,q4⟩,q⟩:=q1
 subst e
 cases r1 with
 | cons r rr=>
  cases rr with
  | cons r' rr=>
   cases rr
   obtain⟨t,rfl⟩:=r
   obtain⟨t',rfl⟩:=r'
   exact call_range_2 (ZgR I1 q1 q2 q3 q4 q)
def tFor (wi:TI)(g:TG)(tb:TS):TS:=fun D σ H=>wi σ H fun J H1=>∃W:Nat->Nat->St->Hp->Prop,(∃m,W 0 m σ H1)/\∀i m σ H,W i m σ H ->
 (J.stop i H/\D.nx σ H)\/(J.go i H/\∃N:St->Hp->Prop,(∀σ' H',N σ' H'->∃m',m'<m/\W (i+1) m' σ' H')/\∀x H',J.yld i H x H'->g x σ H' fun σ2 H2=>tb { D with nx:=N,ct:=N,bk:=D.nx } σ2 H2)
def Zfh (fp:List Addr)(h:Heap):List (Addr×Obj):=fp.filterMap fun b=>(h.get? b).map fun o=>(b,o)
theorem Zcj {fp:List Addr}{h:Heap}{b:Addr}{o:Obj}(hb:b∈fp)(e:h.get? b=some o):(b,o)∈Zfh fp h:=List.mem_filterMap.mpr ⟨b,hb,by rw[e];rfl⟩
theorem Zit {fp:List Addr}{h:Heap}{p:Addr×Obj}(hp:p∈Zfh fp h):p.1∈fp/\h.get? p.1=some p.2:=by
 obtain⟨b,hb,e⟩:=List.mem_filterMap.mp hp
 cases q:h.get? b with
 | none=>rw[q]at e;cases e
 | some o=>
  rw[q]at e
  have e':(b,o)=p:=Option.some.inj e
  subst e'
  exact⟨hb,q⟩
theorem Inv.pinned {pins:List (Addr×Obj)}{σ:St}{H:Hp}{s:Shared}{fp:List Addr}(I:Inv X pins σ H s)(hf:∀b∈fp,FpOk X pins H b)(ho:∀b∈fp,∃o,s.heap.get? b=some o/\∀v,o.data≠.cell v):Inv X (pins++Zfh fp s.heap) σ H s:=
 I.pins_of fun p hp=>(YAe.mp hp).elim (fun z=>I.pin p (YBK _ z)) fun z=>by
  obtain⟨hb,e⟩:=Zit z
  obtain⟨f0,f1,f2,_⟩:=hf p.1 hb
  obtain⟨o,e',d⟩:=ho p.1 hb
  rw[e]at e';cases e'
  exact⟨e,f0,f1,f2,d⟩
theorem Inv.unpinned {pins pl:List (Addr×Obj)}{σ:St}{H:Hp}{s:Shared}(I:Inv X (pins++pl) σ H s):Inv X pins σ H s:=I.pins_of fun p hp=>I.pin p (YBK _ (YBu _ hp))
theorem ZaI {iter:Expr}{body:List Stmt}{wi:TI}{g:TG}{tb:TS}{pos:Pos}(hp:PassesOwn (model X.prog X.w) X.A X.env X.xe)(hc:X.calm=true)(hi:PI X tg iter wi)(hg:PG X tg g)(hb:PSs X body tb)
  (hs:∀x,foldedSetIterable iter X.env x=pure x:=by intro _;rfl):PS X (.For tg iter body [] pos) (tFor wi g tb):=by
 intro pins s σ H D I h
 refine wpAny_For (thn (hi pins s σ H _ I h) fun v s1 h1=>thn h1 fun itv s2 h2=>?_) hs
 obtain⟨it,fp,tn,J,H2,e,I2,T,st2,f2,W,⟨m0,w0⟩,turn⟩:=h2
 subst e
 have stat:∀ {H':Hp},(∀b∈fp,H' b=none)->∀b∈fp,FpOk X pins H' b:=fun hn b hb=>⟨hn b hb,(f2 b hb).2⟩
 refine codeAny_forLoop_any (fun n s'=>∃i σ' H',Inv X pins σ' H' s'/\tn i s'.heap/\(∀b∈fp,H' b=none)/\W i n σ' H') ?_ m0 ⟨0,σ,H2,I2,st2,fun b hb=>(f2 b hb).1,w0⟩
 rintro n s3 ⟨i,σ3,H3,I3,st3,fr3,w3⟩
 rcases turn i n σ3 H3 w3 with⟨stop,qn⟩|⟨go,N,hN,step⟩
 .refine YCL hp (thn (T.done X rfl rfl rfl hc i pins s3 σ3 H3 X.xe I3 (stat fr3) st3 stop) fun r s4 ⟨hr,I4⟩=>?_)
  subst hr
  exact YCf ⟨σ3,H3,I4,qn⟩
 .refine YCL hp (thn (T.item X rfl rfl rfl hc i pins s3 σ3 H3 X.xe I3 (stat fr3) st3 go) fun r s4 ⟨u,hr,h4⟩=>?_)
  subst hr
  refine YCL hp (thn h4 fun _ s5 ⟨x,H5,I5,r5,y5,st5,fr5⟩=>?_)
  have I5':=I5.pinned (stat fr5) (T.obj _ _ st5)
  refine YCL hp (thn (hg _ s5 σ3 H5 x u _ I5' r5 (step x H5 y5)) fun _ s6 ⟨σ6,H6,I6,q6⟩=>?_)
  refine YCL hp (thn (hb _ s6 σ6 H6 _ I6 q6) fun f s7 q7=>?_)
  have again:∀ {σ7:St} {H7:Hp},Inv X (pins++Zfh fp s5.heap) σ7 H7 s7->N σ7 H7->∃m,m<n/\∃i σ' H',Inv X pins σ' H' s7/\tn i s7.heap/\(∀b∈fp,H' b=none)/\W i m σ' H':=fun {σ7 H7} I7 n7=>by
   obtain⟨m',hm,w7⟩:=hN σ7 H7 n7
   refine⟨m',hm,i+1,σ7,H7,I7.unpinned,T.keep _ _ _ st5 fun b hb o e=>(I7.pin (b,o) (YBK _ (YBK _ (Zcj hb e)))).1,fun b hb=>?_,w7⟩
   obtain⟨o,e,d⟩:=T.obj _ _ st5 b hb
   exact(I7.pin (b,o) (YBK _ (YBK _ (Zcj hb e)))).2.1
  cases f with
  | next=>obtain⟨σ7,H7,I7,n7⟩:=q7;exact again I7 n7
  | cont=>obtain⟨σ7,H7,I7,n7⟩:=q7;exact again I7 n7
  | brk=>obtain⟨σ7,H7,I7,q7⟩:=q7;exact⟨σ7,H7,I7.unpinned,q7⟩
  | ret v=>obtain⟨x7,σ7,H7,I7,r7,q7⟩:=q7;exact⟨x7,σ7,H7,I7.unpinned,r7,q7⟩
end
theorem ZjP {K:Q44}{a:Addr}{xs:List V}{g:TG}{tb:TS}{D:Ends}{σ:St}{H:Hp}(Pv:Nat->St->Hp->Prop)(h0:Pv 0 σ H)(hl:∀i σ H,i<=xs.length->Pv i σ H->SqL K H a xs)
  (hs:∀i x σ H,xs[i]?=some x->Pv i σ H->g x σ H fun σ2 H2=>tb { D with nx:=Pv (i+1),ct:=Pv (i+1),bk:=D.nx } σ2 H2) (hd:∀σ H,Pv xs.length σ H->D.nx σ H):
  ∃W:Nat->Nat->St->Hp->Prop,(∃m,W 0 m σ H)/\∀i m σ H,W i m σ H ->
   ((Itl K a).stop i H/\D.nx σ H)\/((Itl K a).go i H/\∃N:St->Hp->Prop,(∀σ' H',N σ' H'->∃m',m'<m/\W (i+1) m' σ' H')/\∀x H',(Itl K a).yld i H x H'->g x σ H' fun σ2 H2=>tb { D with nx:=N,ct:=N,bk:=D.nx } σ2 H2):=by
 refine⟨fun i m σ H=>m=xs.length-i/\i<=xs.length/\Pv i σ H,⟨xs.length,by simp,YAg _,h0⟩,?_⟩
 rintro i m σ H ⟨rfl,hi,p⟩
 have q:=hl i σ H hi p
 by_cases hlt:i<xs.length
 .refine .inr ⟨⟨xs,xs[i],q,by simp[hlt]⟩,Pv (i+1),fun σ' H' p'=>⟨xs.length-(i+1),by omega,rfl,hlt,p'⟩,fun x H' y=>?_⟩
  obtain⟨e,y⟩:=y
  subst e
  exact hs i x σ _ (y xs q) p
 .have e:i=xs.length:=by omega
  subst e
  exact .inl ⟨⟨xs,q,YAJ _⟩,hd σ H p⟩
theorem ZiS {lo:Int}{n:Nat}{g:TG}{tb:TS}{D:Ends}{σ:St}{H:Hp}(Pv:Nat->St->Hp->Prop)(h0:Pv 0 σ H)
  (hs:∀i σ H,i<n->Pv i σ H->g (.int (lo+i)) σ H fun σ2 H2=>tb { D with nx:=Pv (i+1),ct:=Pv (i+1),bk:=D.nx } σ2 H2) (hd:∀σ H,Pv n σ H->D.nx σ H):
  ∃W:Nat->Nat->St->Hp->Prop,(∃m,W 0 m σ H)/\∀i m σ H,W i m σ H ->
   ((Itr lo n).stop i H/\D.nx σ H)\/((Itr lo n).go i H/\∃N:St->Hp->Prop,(∀σ' H',N σ' H'->∃m',m'<m/\W (i+1) m' σ' H')/\∀x H',(Itr lo n).yld i H x H'->g x σ H' fun σ2 H2=>tb { D with nx:=N,ct:=N,bk:=D.nx } σ2 H2):=by
 refine⟨fun i m σ H=>m=n-i/\i<=n/\Pv i σ H,⟨n,by simp,YAg _,h0⟩,?_⟩
 rintro i m σ H ⟨rfl,hi,p⟩
 by_cases hlt:i<n
 .refine .inr ⟨hlt,Pv (i+1),fun σ' H' p'=>⟨n-(i+1),by omega,rfl,hlt,p'⟩,fun x H' y=>?_⟩
  obtain⟨e,y⟩:=y
  subst e y
  exact hs i σ _ hlt p
 .have e:i=n:=by omega
  subst e
  exact .inl ⟨YAJ _,hd σ H p⟩
abbrev R2:=V->V->Hp->VK->Prop
def OpR (X:Cx)(f:Value->Value->Sem Value)(r:R2):Prop:=
 ∀(pins:List (Addr×Obj)) (s:Shared) (σ:St) (H:Hp) (x y:V) (v u:Value) (Q:VK),Inv X pins σ H s->RelV x v->RelV y u->r x y H Q ->
  wpAny (model X.prog X.w) X.A (f v u) (EP X pins σ Q) X.xe s
def UnR (X:Cx)(f:Value->Sem Value)(r:V->Hp->VK->Prop):Prop:=
 ∀(pins:List (Addr×Obj)) (s:Shared) (σ:St) (H:Hp) (x:V) (v:Value) (Q:VK),Inv X pins σ H s->RelV x v->r x H Q ->
  wpAny (model X.prog X.w) X.A (f v) (EP X pins σ Q) X.xe s
def ZbR (X:Cx)(f:Value)(r:List V->Hp->VK->Prop):Prop:=
 ∀(pins:List (Addr×Obj)) (s:Shared) (σ:St) (H:Hp) (xs:List V) (us:List Value) (Q:VK),Inv X pins σ H s->Vals xs us->r xs H Q ->
  wpAny (model X.prog X.w) X.A (call f us) (EP X pins σ Q) X.xe s
def TruR (X:Cx)(r:V->Hp->(Bool->Hp->Prop)->Prop):Prop:=
 ∀(pins:List (Addr×Obj)) (s:Shared) (σ:St) (H:Hp) (x:V) (v:Value) (Q:Bool->Hp->Prop),Inv X pins σ H s->RelV x v->r x H Q ->
  wpAny (model X.prog X.w) X.A (truthy v) (TP X pins σ Q) X.xe s
def tOp (r:R2)(ta tb:TE):TE:=fun σ H Q=>ta σ H fun x H1=>tb σ H1 fun y H2=>r x y H2 Q
def tUn (r:V->Hp->VK->Prop)(ta:TE):TE:=fun σ H Q=>ta σ H fun x H1=>r x H1 Q
def rI (C:Int->Int->Prop)(g:Int->Int->V):R2:=fun x y H Q=>∃i j,x=.int i/\y=.int j/\C i j/\Q (g i j) H
def rI0 (g:Int->Int->V):R2:=fun x y H Q=>∃i j,x=.int i/\y=.int j/\Q (g i j) H
def rU (g:Int->V):V->Hp->VK->Prop:=fun x H Q=>∃i,x=.int i/\Q (g i) H
section
variable {X:Cx}{a b c:Expr}{ta tb tc:TE}{pos:Pos}
theorem binT (ha:PE X a ta)(hb:PE X b tb){pins:List (Addr×Obj)}{s:Shared}{σ:St}{H:Hp}{R:V->V->Hp->Prop}(I:Inv X pins σ H s)
  (h:ta σ H fun x H1=>tb σ H1 fun y H2=>R x y H2) {Q:Q33} {f:Value->Value->Sem Value}
  (hf:∀v u s2 x y H2,Inv X pins σ H2 s2->RelV x v->RelV y u->R x y H2->wpAny (model X.prog X.w) X.A (f v u) Q X.xe s2):
  wpAny (model X.prog X.w) X.A (eval a X.env) (fun v s₁=>wpAny (model X.prog X.w) X.A (eval b X.env) (fun u s₂=>wpAny (model X.prog X.w) X.A (f v u) Q X.xe s₂) X.xe s₁) X.xe s:=by
 refine thn (ha pins s σ H _ I h) fun v s1 ⟨x,H1,I1,r1,q1⟩=>?_
 refine thn (hb pins s1 σ H1 _ I1 q1) fun u s2 ⟨y,H2,I2,r2,q2⟩=>?_
 exact hf v u s2 x y H2 I2 r1 r2 q2
theorem Zav {op:Operator}{r:R2}(ho:OpR X (binaryOp op) r)(ha:PE X a ta)(hb:PE X b tb):PE X (.BinOp a op b pos) (tOp r ta tb):=by
 intro pins s σ H Q I h
 exact wpAny_BinOp (binT ha hb I h fun v u s2 x y H2 I2 rx ry q=>ho pins s2 σ H2 x y v u Q I2 rx ry q)
theorem Zow {op:UnaryOp}{r:V->Hp->VK->Prop}(ho:UnR X (unaryOp op) r)(ha:PE X a ta):PE X (.UnaryOp op a pos) (tUn r ta):=by
 intro pins s σ H Q I h
 exact UnaryOp_ (thn (ha pins s σ H _ I h) fun v s1 ⟨x,H1,I1,r1,q1⟩=>ho pins s1 σ H1 x v Q I1 r1 q1)
theorem opI {f:Value->Value->Sem Value}{C:Int->Int->Prop}{g:Int->Int->Int}
  (rule:∀(i j:Int) (t u:Tok) (s:Shared) (Q:Q33) (E:Q33),C i j->Q (.int (g i j) s.toks) { s with toks:=s.toks+1 }->wpAny (model X.prog X.w) X.A (f (.int i t) (.int j u)) Q E s):
  OpR X f (rI C fun i j=>.int (g i j)):=by
 intro pins s σ H x y v u Q I rx ry h
 obtain⟨i,j,rfl,rfl,hc,q⟩:=h
 obtain⟨t,rfl⟩:=rx
 obtain⟨t',rfl⟩:=ry
 exact rule i j t t' s _ _ hc ⟨.int (g i j),H,I.tok _,⟨_,rfl⟩,q⟩
theorem opI0 {f:Value->Value->Sem Value}{g:Int->Int->Int}
  (rule:∀(i j:Int) (t u:Tok) (s:Shared) (Q:Q33) (E:Q33),Q (.int (g i j) s.toks) { s with toks:=s.toks+1 }->wpAny (model X.prog X.w) X.A (f (.int i t) (.int j u)) Q E s):
  OpR X f (rI0 fun i j=>.int (g i j)):=by
 intro pins s σ H x y v u Q I rx ry h
 obtain⟨i,j,rfl,rfl,q⟩:=h
 obtain⟨t,rfl⟩:=rx
 obtain⟨t',rfl⟩:=ry
 exact rule i j t t' s _ _ ⟨.int (g i j),H,I.tok _,⟨_,rfl⟩,q⟩
theorem opB0 {f:Value->Value->Sem Value}{g:Int->Int->Bool}
  (rule:∀(i j:Int) (t u:Tok) (s:Shared) (Q:Q33) (E:Q33),Q (.bool (g i j)) s->wpAny (model X.prog X.w) X.A (f (.int i t) (.int j u)) Q E s):
  OpR X f (rI0 fun i j=>.bl (g i j)):=by
 intro pins s σ H x y v u Q I rx ry h
 obtain⟨i,j,rfl,rfl,q⟩:=h
 obtain⟨t,rfl⟩:=rx
 obtain⟨t',rfl⟩:=ry
 exact rule i j t t' s _ _ ⟨.bl (g i j),H,I,rfl,q⟩
def CDiv (i j:Int):Prop:=0<j/\j<1073741824
def CMul (i j:Int):Prop:=(-(2 ^ 64)<i/\i<2 ^ 64)\/(-(2 ^ 64)<j/\j<2 ^ 64)
theorem CMul.ok {i j:Int}(h:CMul i j):IntMulOk i j:=by
 rcases h with⟨h1,h2⟩|⟨h1,h2⟩
 .exact .of_left (intBits_le_64 h1 h2)
 .exact .of_right (intBits_le_64 h1 h2)
theorem ZaO:OpR X (binaryOp .Add) (rI0 fun i j=>.int (i+j)):=opI0 fun _ _ _ _ _ _ _ q=>add_int q
theorem Zkb:OpR X (binaryOp .Sub) (rI0 fun i j=>.int (i-j)):=opI0 fun _ _ _ _ _ _ _ q=>sub_int q
theorem ZdD:OpR X (binaryOp .Mult) (rI CMul fun i j=>.int (i*j)):=opI fun _ _ _ _ _ _ _ hc q=>mul_int q hc.ok
theorem Zk3:OpR X (binaryOp .FloorDiv) (rI CDiv fun i j=>.int (i/j)):=opI fun i j _ _ _ _ _ hc q=>by
 have h1:(0:Int)<j:=hc.1
 have h2:j<1073741824:=hc.2
 exact floordiv_int (by omega) (by rw[Int.fdiv_eq_ediv_of_nonneg i (by omega)];exact q) (.inl (PyProof.noPylong_small (by omega)))
theorem Za5:OpR X (binaryOp .Mod) (rI (fun _ j=>0<j) fun i j=>.int (i % j)):=opI fun i j _ _ _ _ _ hc q=>by
 have h1:(0:Int)<j:=hc
 exact mod_int' (by omega) (by rw[Int.fmod_eq_emod_of_nonneg i (by omega)];exact q)
theorem unI {f:Value->Sem Value}{g:Int->Int}
  (rule:∀(i:Int) (t:Tok) (s:Shared) (Q:Q33) (E:Q33),Q (.int (g i) s.toks) { s with toks:=s.toks+1 }->wpAny (model X.prog X.w) X.A (f (.int i t)) Q E s):
  UnR X f (rU fun i=>.int (g i)):=by
 intro pins s σ H x v Q I rx h
 obtain⟨i,rfl,q⟩:=h
 obtain⟨t,rfl⟩:=rx
 exact rule i t s _ _ ⟨.int (g i),H,I.tok _,⟨_,rfl⟩,q⟩
theorem ZlK:UnR X (unaryOp .USub) (rU fun i=>.int (-i)):=unI fun _ _ _ _ _ q=>neg_int q
end
def scal:V->V->Bool
 | .non,.non=>true | .non,.int _=>true | .int _,.non=>true | .non,.bl _=>true | .bl _,.non=>true | .non,.str _=>true | .str _,.non=>true
 | .int _,.int _=>true | .bl _,.bl _=>true | .str _,.str _=>true | .byt _,.byt _=>true
 | .int _,.str _=>true | .str _,.int _=>true | .bl _,.str _=>true | .str _,.bl _=>true
 | _,_=>false
def rEq:R2:=fun x y H Q=>scal x y=true/\Q (.bl (decide (x=y))) H
def rNe:R2:=fun x y H Q=>scal x y=true/\Q (.bl (!decide (x=y))) H
theorem ZiU {i j:Int}:decide (V.int i=V.int j)=(i == j):=by
 rw[YAv]
 simp
theorem Zkl {i j:Bool}:decide (V.bl i=V.bl j)=(i == j):=by
 rw[YAv]
 simp
theorem ZiT {i j:Str}:decide (V.str i=V.str j)=(i == j):=by
 rw[YAv]
 simp
theorem ZiV {i j:Array UInt8}:decide (V.byt i=V.byt j)=(i.toList == j.toList):=by
 rw[YAv]
 cases i
 cases j
 simp
section
variable {X:Cx}{a b c:Expr}{ta tb tc:TE}{pos:Pos}
theorem ZaJ {pins:List (Addr×Obj)}{σ:St}{H:Hp}{s:Shared}{Q:VK}{k k':Bool}(I:Inv X pins σ H s)(q:Q (.bl k) H)(e:k=k'):EP X pins σ Q (.bool k') s:=by
 subst e
 exact⟨.bl k,H,I,rfl,q⟩
theorem Zoz:OpR X (compareOp .Eq) rEq:=by
 intro pins s σ H x y v u Q I rx ry h
 obtain⟨hs,q⟩:=h
 cases x with
 | non=>
  cases rx
  cases y with
  | non=>cases ry;exact PySem.EqNone.eq_none_none (ZaJ I q (by simp))
  | bl j=>cases ry;exact PySem.EqNone.eq_none_bool (ZaJ I q (by simp))
  | int j=>obtain⟨t',rfl⟩:=ry;exact PySem.EqNone.eq_none_int (ZaJ I q (by simp))
  | str j=>obtain⟨t',rfl⟩:=ry;exact PySem.EqNone.eq_none_str (ZaJ I q (by simp))
  | _=>exact absurd (show false=true from hs) YAF
 | bl i=>
  cases rx
  cases y with
  | non=>cases ry;exact PySem.EqNone.eq_bool_none (ZaJ I q (by simp))
  | bl j=>cases ry;exact eq_bool (ZaJ I q Zkl)
  | str j=>obtain⟨t',rfl⟩:=ry;exact PySem.EqMixed.eq_bool_str (ZaJ I q (by simp))
  | _=>exact absurd (show false=true from hs) YAF
 | int i=>
  obtain⟨t,rfl⟩:=rx
  cases y with
  | non=>cases ry;exact PySem.EqNone.eq_int_none (ZaJ I q (by simp))
  | int j=>obtain⟨t',rfl⟩:=ry;exact eq_int (ZaJ I q ZiU)
  | str j=>obtain⟨t',rfl⟩:=ry;exact PySem.EqMixed.eq_int_str (ZaJ I q (by simp))
  | _=>exact absurd (show false=true from hs) YAF
 | str i=>
  obtain⟨t,rfl⟩:=rx
  cases y with
  | non=>cases ry;exact PySem.EqNone.eq_str_none (ZaJ I q (by simp))
  | bl j=>cases ry;exact PySem.EqMixed.eq_str_bool (ZaJ I q (by simp))
  | int j=>obtain⟨t',rfl⟩:=ry;exact PySem.EqMixed.eq_str_int (ZaJ I q (by simp))
  | str j=>obtain⟨t',rfl⟩:=ry;exact eq_str (ZaJ I q ZiT)
  | _=>exact absurd (show false=true from hs) YAF
 | byt i=>
  obtain⟨t,rfl⟩:=rx
  cases y with
  | byt j=>obtain⟨t',rfl⟩:=ry;exact PySem.W.eq_bytes (ZaJ I q ZiV)
  | _=>exact absurd (show false=true from hs) YAF
 | _=>cases y<;>exact absurd (show false=true from hs) YAF
theorem Zoy:OpR X (compareOp .NotEq) rNe:=by
 intro pins s σ H x y v u Q I rx ry h
 obtain⟨hs,q⟩:=h
 cases x with
 | non=>
  cases rx
  cases y with
  | non=>cases ry;exact PySem.EqNone.ne_none_none (ZaJ I q (by simp))
  | bl j=>cases ry;exact PySem.EqNone.ne_none_bool (ZaJ I q (by simp))
  | int j=>obtain⟨t',rfl⟩:=ry;exact PySem.EqNone.ne_none_int (ZaJ I q (by simp))
  | str j=>obtain⟨t',rfl⟩:=ry;exact PySem.EqNone.ne_none_str (ZaJ I q (by simp))
  | _=>exact absurd (show false=true from hs) YAF
 | bl i=>
  cases rx
  cases y with
  | non=>cases ry;exact PySem.EqNone.ne_bool_none (ZaJ I q (by simp))
  | bl j=>cases ry;exact ne_bool (ZaJ I q (congrArg not Zkl))
  | str j=>obtain⟨t',rfl⟩:=ry;exact PySem.EqMixed.ne_bool_str (ZaJ I q (by simp))
  | _=>exact absurd (show false=true from hs) YAF
 | int i=>
  obtain⟨t,rfl⟩:=rx
  cases y with
  | non=>cases ry;exact PySem.EqNone.ne_int_none (ZaJ I q (by simp))
  | int j=>obtain⟨t',rfl⟩:=ry;exact ne_int (ZaJ I q (congrArg not ZiU))
  | str j=>obtain⟨t',rfl⟩:=ry;exact PySem.EqMixed.ne_int_str (ZaJ I q (by simp))
  | _=>exact absurd (show false=true from hs) YAF
 | str i=>
  obtain⟨t,rfl⟩:=rx
  cases y with
  | non=>cases ry;exact PySem.EqNone.ne_str_none (ZaJ I q (by simp))
  | bl j=>cases ry;exact PySem.EqMixed.ne_str_bool (ZaJ I q (by simp))
  | int j=>obtain⟨t',rfl⟩:=ry;exact PySem.EqMixed.ne_str_int (ZaJ I q (by simp))
  | str j=>obtain⟨t',rfl⟩:=ry;exact ne_str (ZaJ I q (congrArg not ZiT))
  | _=>exact absurd (show false=true from hs) YAF
 | byt i=>
  obtain⟨t,rfl⟩:=rx
  cases y with
  | byt j=>obtain⟨t',rfl⟩:=ry;exact PySem.W.ne_bytes (ZaJ I q (congrArg not ZiV))
  | _=>exact absurd (show false=true from hs) YAF
 | _=>cases y<;>exact absurd (show false=true from hs) YAF
theorem Zjv:OpR X (compareOp .Lt) (rI0 fun i j=>.bl (decide (i<j))):=opB0 fun _ _ _ _ _ _ _ q=>lt_int q
theorem Zmw:OpR X (compareOp .LtE) (rI0 fun i j=>.bl (decide (i<=j))):=opB0 fun _ _ _ _ _ _ _ q=>le_int q
theorem Zfn:OpR X (compareOp .Gt) (rI0 fun i j=>.bl (decide (j<i))):=opB0 fun _ _ _ _ _ _ _ q=>gt_int q
theorem Zfm:OpR X (compareOp .In) (fun x y H Q=>∃i j,x=.str i/\y=.str j/\Q (.bl (!(Builtin.Str.occurrences j i 0 j.length 1).isEmpty)) H):=by
 intro pins s σ H x y v u Q I rx ry h
 obtain⟨i,j,rfl,rfl,q⟩:=h
 obtain⟨t,rfl⟩:=rx
 obtain⟨t',rfl⟩:=ry
 exact in_str (ZaJ I q rfl)
theorem Zmx:OpR X (compareOp .Is) (fun x y H Q=>y=.non/\Q (.bl (decide (x=.non))) H):=by
 intro pins s σ H x y v u Q I rx ry h
 obtain⟨rfl,q⟩:=h
 cases ry
 refine is_none_gen (ZaJ I q ?_)
 cases x<;>first
  | (cases rx;rfl)
  | (obtain⟨t,rfl⟩:=rx;rfl)
theorem Zfk:OpR X (compareOp .NotIn) (fun x y H Q=>∃i j,x=.str i/\y=.str j/\Q (.bl (!(!(Builtin.Str.occurrences j i 0 j.length 1).isEmpty))) H):=by
 intro pins s σ H x y v u Q I rx ry h
 obtain⟨i,j,rfl,rfl,q⟩:=h
 obtain⟨t,rfl⟩:=rx
 obtain⟨t',rfl⟩:=ry
 exact notIn_str (ZaJ I q rfl)
theorem Zaw (b:Expr){op:CmpOp}(h:op≠.In:=by decide)(h2:op≠.NotIn:=by decide):behindInMarks op b=false:=by
 have e1:(op == CmpOp.In)=false:=by cases op<;>first | rfl | exact absurd rfl h
 have e2:(op == CmpOp.NotIn)=false:=by cases op<;>first | rfl | exact absurd rfl h2
 cases b<;>simp[behindInMarks,e1,e2]
theorem ZaV {op:CmpOp}{r:R2}(ho:OpR X (compareOp op) r)(ha:PE X a ta)(hb:PE X b tb)(hm:behindInMarks op b=false):PE X (.Compare a [op] [b] pos) (tOp r ta tb):=by
 intro pins s σ H Q I h
 exact wpAny_Compare1 (binT ha hb I h fun v u s2 x y H2 I2 rx ry q=>ho pins s2 σ H2 x y v u Q I2 rx ry q) hm
def ZlO (t:TE):TT:=fun σ H Q=>t σ H fun x H'=>∃k,x=.bl k/\Q k H'
theorem Zat {op:CmpOp}{r:R2}(ho:OpR X (compareOp op) r)(ha:PE X a ta)(hb:PE X b tb)(hm:behindInMarks op b=false):PT X (.Compare a [op] [b] pos) (ZlO (tOp r ta tb)):=by
 intro pins s σ H Q I h
 refine wpAny_isTrue_Compare1 (thn (ha pins s σ H _ I h) fun v s1 ⟨x,H1,I1,r1,q1⟩=>thn (hb pins s1 σ H1 _ I1 q1) fun u s2 ⟨y,H2,I2,r2,q2⟩=>
  thn (ho pins s2 σ H2 x y v u _ I2 r1 r2 q2) fun c s3 ⟨z,H3,I3,r3,k,e,q3⟩=>?_) hm
 subst e
 cases r3
 exact YBS ⟨H3,I3,q3⟩
def Zl3 (r r':R2)(ta tb tc:TE):TE:=fun σ H Q=>ta σ H fun x H1=>tb σ H1 fun y H2=>r x y H2 fun z H3=>∃k,z=.bl k /\
 (if k=true then tc σ H3 fun w' H4=>r' y w' H4 Q else Q (.bl false) H3)
def TruV (K:Q44)(x:V)(H:Hp)(k:Bool):Prop:=
 match x with
 | .non=>k=false
 | .bl b=>k=b
 | .int i=>k=(i != 0)
 | .str y=>y.length<=sizeLine/\k=((y.length:Int) != 0)
 | .byt y=>y.size<=sizeLine/\k=((y.size:Int) != 0)
 | .ref p=>(∃xs,SqL K H p xs/\k=!xs.isEmpty)\/(∃xs,SqT K H p xs/\k=!xs.isEmpty)\/∃kvs,H p=some (.dK kvs)/\k=!kvs.isEmpty
 | _=>False
theorem ZhE {κ:Type}{kvs:List (κ×V)}{vs:List (κ×Value)}(r:KV kvs vs):(!vs.isEmpty)=!kvs.isEmpty:=by
 cases r<;>rfl
theorem Zek {xs:List V}{its:List Value}(r:Vals xs its):(!its.toArray.isEmpty)=!xs.isEmpty:=by
 cases r<;>simp
theorem Zfy:(sizeLine:Nat)<2 ^ 63:=by rw[sizeLine_eq];decide
theorem Zpd:TruR X (fun x H Q=>∃k,TruV X.K x H k/\Q k H):=by
 intro pins s σ H x v Q I rx h
 obtain⟨k,e,q⟩:=h
 have hl:=Zfy
 have hs:sizeLine=16777216:=sizeLine_eq
 cases x with
 | non=>
  cases rx
  have e':k=false:=e
  subst e'
  exact truthy_none ⟨H,I,q⟩
 | bl b=>
  cases rx
  have e':k=b:=e
  subst e'
  exact YBS ⟨H,I,q⟩
 | int i=>
  obtain⟨t,rfl⟩:=rx
  have e':k=(i != 0):=e
  subst e'
  exact PySem.P.truthy_int ⟨H,I,q⟩
 | str y=>
  obtain⟨t,rfl⟩:=rx
  obtain⟨hy,e'⟩:y.length<=sizeLine/\k=((y.length:Int) != 0):=e
  subst e'
  exact PySem.P.truthy_str (by omega) ⟨H,I.tok _,q⟩
 | byt y=>
  obtain⟨t,rfl⟩:=rx
  obtain⟨hy,e'⟩:y.size<=sizeLine/\k=((y.size:Int) != 0):=e
  subst e'
  exact PySem.W.truthy_bytes (by omega) ⟨H,I.tok _,q⟩
 | ref p=>
  cases rx
  have e':(∃xs,SqL X.K H p xs/\k=!xs.isEmpty)\/(∃xs,SqT X.K H p xs/\k=!xs.isEmpty)\/∃kvs,H p=some (.dK kvs)/\k=!kvs.isEmpty:=e
  rcases e' with⟨xs,hx,e'⟩|⟨xs,hx,e'⟩|⟨kvs,hx,e'⟩
  .subst e'
   obtain⟨its,r,pl,hz⟩:=I.list hx
   have hlen:=r.length
   exact wpAny_truthy_list pl.isList (by simp only[YAP];omega) ⟨H,I.tok _,by rw[Zek r];exact q⟩
  .subst e'
   obtain⟨its,r,pl,hz⟩:=I.tuple hx
   have hlen:=r.length
   exact truthy_tuple pl (by simp only[YAP];omega) ⟨H,I.tok _,by rw[Zek r];exact q⟩
  .subst e'
   obtain⟨hz,hS,vs,r,m⟩:kvs.length<=sizeLine/\(p == sysModules)=false/\∃vs,KV kvs vs/\s.heap.DictOf (Zax X.prog X.w) p vs:=I.hok p _ hx
   have hlen:kvs.length=vs.length:=Paired.length r
   exact wpAny_truthy_dict hS m (by omega) ⟨H,I.tok _,by rw[ZhE r];exact q⟩
 | _=>exact(show False from e).elim
theorem Zhu:OpR X (binaryOp .Add) (fun x y H Q=>∃i j,x=.str i/\y=.str j/\i.length+j.length<=sizeLine/\Q (.str (i++j)) H):=by
 intro pins s σ H x y v u Q I rx ry h
 obtain⟨i,j,rfl,rfl,hz,q⟩:=h
 obtain⟨t,rfl⟩:=rx
 obtain⟨t',rfl⟩:=ry
 exact add_str (fun t' tk=>⟨.str (i++j),H,I.tok _,⟨_,rfl⟩,q⟩) hz
theorem vals1 {x:V}{us:List Value}(r:Vals [x] us):∃u,us=[u]/\RelV x u:=by
 cases r with
 | cons r1 r2=>cases r2;exact⟨_,rfl,r1⟩
theorem Zi1:ZbR X (.type "int") (fun xs H Q=>(∃i,xs=[.int i]/\Q (.int i) H)\/∃k,xs=[.bl k]/\Q (.int (if k then 1 else 0)) H):=by
 intro pins s σ H xs us Q I r h
 rcases h with⟨i,rfl,q⟩|⟨k,rfl,q⟩
 .obtain⟨u,rfl,t,rfl⟩:=vals1 r
  exact call_int_int ⟨.int i,H,I,⟨_,rfl⟩,q⟩
 .obtain⟨u,rfl,r1⟩:=vals1 r
  cases r1
  exact call_int_bool ⟨.int (if k then 1 else 0),H,I.tok _,⟨_,rfl⟩,q⟩
def LenV (K:Q44)(x:V)(H:Hp)(n:Nat):Prop:=
 match x with
 | .str y=>y.length<=sizeLine/\n=y.length
 | .byt y=>y.size<=sizeLine/\n=y.size
 | .ref p=>(∃xs,SqL K H p xs/\n=xs.length)\/∃xs,SqT K H p xs/\n=xs.length
 | _=>False
theorem ZjW:ZbR X (.builtin "len") (fun xs H Q=>∃x n,xs=[x]/\LenV X.K x H n/\Q (.int n) H):=by
 intro pins s σ H xs us Q I r h
 obtain⟨x,n,rfl,e,q⟩:=h
 obtain⟨u,rfl,rx⟩:=vals1 r
 have hl:=Zfy
 have hs:sizeLine=16777216:=sizeLine_eq
 cases x with
 | str y=>
  obtain⟨t,rfl⟩:=rx
  obtain⟨hy,e'⟩:y.length<=sizeLine/\n=y.length:=e
  subst e'
  exact len_str (by omega) ⟨.int _,H,I.tok _,⟨_,rfl⟩,q⟩
 | byt y=>
  obtain⟨t,rfl⟩:=rx
  obtain⟨hy,e'⟩:y.size<=sizeLine/\n=y.size:=e
  subst e'
  exact PySem.W.len_bytes (by omega) ⟨.int _,H,I.tok _,⟨_,rfl⟩,q⟩
 | ref p=>
  cases rx
  have e':(∃xs,SqL X.K H p xs/\n=xs.length)\/∃xs,SqT X.K H p xs/\n=xs.length:=e
  rcases e' with⟨xs,hx,e'⟩|⟨xs,hx,e'⟩
  .subst e'
   obtain⟨its,r',pl,hz⟩:=I.list hx
   have hlen:=r'.length
   exact Calls.call_len_list pl.isList (by simp only[YAP];omega) ⟨.int xs.length,H,I.tok _,⟨_,by simp only[YAP];rw[hlen]⟩,q⟩
  .subst e'
   obtain⟨its,r',pl,hz⟩:=I.tuple hx
   have hlen:=r'.length
   exact len_tuple pl (by simp only[YAP];omega) ⟨.int xs.length,H,I.tok _,⟨_,by simp only[YAP];rw[hlen]⟩,q⟩
 | _=>exact(show False from e).elim
end
structure ObjM (h:Heap)(x dx C:Addr)(mA:Str->Option Value):Prop where
 obj:h.get? x=some (PySem.W.instObj C dx)
 ns:h.Ns1 dx mA
 ne:dx≠x
theorem ZdJ {h:Heap}{dx:Addr}{mA:Str->Option Value}(n:h.Ns1 dx mA):∃od,h.get? dx=some od/\∀name,PySem.W.lookIn name od=some (mA name):=by
 obtain⟨o,es,ep,ho,hd,hk,_,hm⟩:=n
 refine⟨o,ho,fun name=>?_⟩
 have e:=hm name
 unfold nsFind findBy at e
 rw[<-Array.find?_toList]at e
 unfold PySem.W.lookIn
 rw[hd]
 dsimp only
 split
 .rename_i y q
  rw[q]at e
  exact congrArg some e
 .rename_i q
  rw[q]at e
  have a:es.toList.any (·.refKey)=false:=by
   rw[List.any_eq_false]
   intro y hy
   obtain⟨z,t,hkey⟩:=hk y (Array.mem_toList_iff.mp hy)
   simp[DictEntry.refKey,hkey]
  have a':¬es.toList.any (·.refKey)=true:=by rw[a];exact YAF
  rw[YAX a']
  exact congrArg some e
theorem ObjM.look {h:Heap}{x dx C:Addr}{mA:Str->Option Value}(I:ObjM h x dx C mA):∃od,PySem.W.InstAt h x (PySem.W.instObj C dx) C (some od)/\∀name,PySem.W.lookIn name od=some (mA name):=
 let ⟨od,ho,hl⟩:=ZdJ I.ns
 ⟨od,⟨I.obj,rfl,rfl,ho⟩,hl⟩
section
variable {prog:Program}{w:World}{A:Around}{E:Q33}{s:Shared}{K:Q44}{x dx C f:Addr}{mA:Str->Option Value}{name:Str}{v:Value}
theorem Zlo {expr:Bool}{Q:Q33}(X:K.In s.heap)(I:ObjM s.heap x dx C mA)(hg:PySem.W.plainGet K C name=true)(hh:PySem.W.hasDictIn K C=true)
  (ha:PySem.W.findIn K (.ref C) name=some none) (hv:mA name=some v) (hv':PySem.W.handedIn v=true) (h:Q v { s with toks:=s.toks+1 }):
  wpAny (model prog w) A (getAttr (.ref x) name expr) Q E s:=by
 obtain⟨od,J,hl⟩:=I.look
 exact PySem.W.get_value X J (PySem.W.plainGet_of hg).1 (PySem.W.findObj_own hh ha rfl (by rw[hl,hv])) hv' h
theorem ZjM {pl:Sem Bool}{Q:Value×List Value->Shared->Prop}(X:K.In s.heap)(I:ObjM s.heap x dx C mA)(hg:PySem.W.plainGet K C name=true)
  (hf:PySem.W.findIn K (.ref C) name=some (some (.ref f))) (ht:PySem.W.isFn K (.ref f)=true) (hv:mA name=none) (h:Q (.ref f,[.ref x]) s):
  wpAny (model prog w) A (getMethod (.ref x) name pl) Q E s:=by
 obtain⟨od,J,hl⟩:=I.look
 exact PySem.W.method_fn X J (PySem.W.plainGet_of hg).1 (PySem.W.plainGet_of hg).2 hf (beq_iff_eq.mp ht) (by show (PySem.W.lookIn name od).map (·.isSome)=some false;rw[hl,hv];rfl) h
theorem ZkJ {ns:List Str}{Q:Unit->Shared->Prop}(X:K.In s.heap)(I:ObjM s.heap x dx C mA)
  (hs:PySem.W.findIn K (.ref C) "__setattr__"=some (some (.builtin "object.__setattr__"))) (hp:PySem.W.plainOver K C=true) (ht:PySem.W.takerIn K C name=some none) (hh:PySem.W.hasDictIn K C=true)
  (hw:PySem.Within mA ns) (hsz:ns.length<=sizeLine)
  (h:∀h',ObjM h' x dx C (fun y=>if y=name then some v else mA y)->Heap.SameBut dx s.heap h'->Q () { s with heap:=h',toks:=s.toks+2 }):
  wpAny (model prog w) A (setAttr (.ref x) name v) Q E s:=by
 obtain⟨od,J,hl⟩:=I.look
 refine PySem.W.set_plain X J hs (PySem.W.osa_open (s:={ s with toks:=s.toks+1 }) (r:=none) X J hp ht fun b=>?_)
 obtain⟨cd,hc,hd'⟩:=YCG hh
 have hx:s.heap.get? x=some ⟨.ref C,some dx,.plain,#[]⟩:=I.obj
 refine YAA (YAH (YAA (YAA (wpAny_loadPart hx (YAA (PySem.W.Looks.here (s:={ s with toks:=s.toks+1 }) (PySem.W.looks_clsIn X hc) ?_))))))
 rw[hd']
 refine YAH (a:=some dx) (YAA (YAH (YAA ?_)))
 refine wpAny_nsSet1 (s:={ s with toks:=s.toks+1 }) I.ns fun h' hn2 hs2=>?_
 obtain⟨oD,esD,epD,hoD,hdD,hcD⟩:=hn2.count (PySem.Within.cons name v hw)
 refine YAA (wpAny_lookBehind hoD (by rw[hdD];exact pastItsLine_dict (YAK hcD (by rw[YAf];omega))) ?_)
 exact YAH (h _ ⟨(hs2.2 _ (YAS I.ne)).trans I.obj,hn2,I.ne⟩ hs2)
theorem ZjD {R:Result->Shared->Prop}{vs:List Value}{kw:List (Str×Value)}(X:K.In s.heap)(hm:PySem.W.makesIn K C=true)
  (hi:PySem.W.findIn K (.ref C) "__init__"=some (some (.ref f))) (hf:PySem.W.typeIn K (.ref f)=some (.type "function"))
  (h:codeAny (model prog w) (A.under (.builtin "type.__call__" ⟨.ref C::vs,kw⟩)) (.call (.ref f) ⟨.ref (s.heap.objs.size+1)::vs,kw⟩) (PySem.W.InitBack (s.heap.objs.size+1) R)
   { s with heap:=(s.heap.push PySem.W.emptyDict).push (PySem.W.instObj C s.heap.objs.size) }):
  codeAny (model prog w) A (.call (.ref C) ⟨vs,kw⟩) R s:=by
 obtain⟨hh,g,d,t,os⟩:=s
 exact PySem.W.make_core (PySem.W.makes_of X hm) (YBt X hi) (fun self=>PySem.W.bind_fn X self hf) (.inl rfl) h
end
def putF (f:Str)(v:V):List (Str×V)->List (Str×V)
 | []=>[(f,v)]
 | (g,x)::r=>if g=f then (g,v)::r else (g,x)::putF f v r
theorem ZaF (f g:Str)(v:V):∀fs:List (Str×V),(putF f v fs).lookup g=if g=f then some v else fs.lookup g
 | []=>by
  show List.lookup g [(f,v)]=_
  by_cases h:g=f
  .have hb:(g == f)=true:=beq_iff_eq.mpr h
   simp only[List.lookup,hb,YAW h]
  .have hb:(g == f)=false:=beq_eq_false_iff_ne.mpr h
   simp only[List.lookup,hb,YAX h]
 | (k,x)::r=>by
  have ih:=ZaF f g v r
  rw[show putF f v ((k,x)::r)=(if k=f then (k,v)::r else (k,x)::putF f v r) from rfl]
  by_cases hk:k=f
  .rw[YAW hk]
   by_cases h:g=k
   .have hb:(g == k)=true:=beq_iff_eq.mpr h
    simp only[List.lookup,hb,YAW (h.trans hk)]
   .have hb:(g == k)=false:=beq_eq_false_iff_ne.mpr h
    simp only[List.lookup,hb,YAX (fun e:g=f=>h (e.trans hk.symm))]
  .rw[YAX hk]
   by_cases h:g=k
   .have hb:(g == k)=true:=beq_iff_eq.mpr h
    simp only[List.lookup,hb,YAX (fun e:g=f=>hk (h.symm.trans e))]
   .have hb:(g == k)=false:=beq_eq_false_iff_ne.mpr h
    simp only[List.lookup,hb]
    exact ih
theorem Zb2 (f:Str)(v:V):∀fs:List (Str×V),f∈(putF f v fs).map (·.1)/\∀g,g∈fs.map (·.1)->g∈(putF f v fs).map (·.1)
 | []=>⟨by simp[putF],fun g h=>by simp at h⟩
 | (k,x)::r=>by
  obtain⟨i1,i2⟩:=Zb2 f v r
  rw[show putF f v ((k,x)::r)=(if k=f then (k,v)::r else (k,x)::putF f v r) from rfl]
  by_cases hk:k=f
  .rw[YAW hk]
   subst hk
   exact⟨by simp,fun g h=>by simpa using h⟩
  .rw[YAX hk]
   refine⟨?_,fun g h=>?_⟩
   .rw[YAj]
    exact YAV _ i1
   .rw[YAj]at h ⊢
    rcases YAY.mp h with e | e
    .exact YAY.mpr (.inl e)
    .exact YAV _ (i2 g e)
theorem Zcw (f:Str)(v:V):∀fs:List (Str×V),(putF f v fs).length<=fs.length+1
 | []=>by simp[putF]
 | (k,x)::r=>by
  have ih:=Zcw f v r
  rw[show putF f v ((k,x)::r)=(if k=f then (k,v)::r else (k,x)::putF f v r) from rfl]
  by_cases hk:k=f
  .rw[YAW hk,YAf,YAf];omega
  .rw[YAX hk,YAf,YAf];omega
theorem RelO.some_of {v:V}{o:Option Value}(r:RelO (some v) o):∃u,o=some u/\RelV v u:=by
 cases o with
 | none=>exact(show False from r).elim
 | some u=>exact⟨u,rfl,r⟩
theorem RelO.none_of {o:Option Value}(r:RelO none o):o=none:=by
 cases o with
 | none=>rfl
 | some u=>exact(show False from r).elim
theorem ZfG {v:V}{u:Value}(r:RelV v u):PySem.W.handedIn u=true:=by
 cases v with
 | non=>cases (show u=Value.none from r);rfl
 | bl b=>cases (show u=Value.bool b from r);rfl
 | int i=>obtain⟨t,e⟩:=(show ∃t,u=Value.int i t from r);cases e;rfl
 | str x=>obtain⟨t,e⟩:=(show ∃t,u=Value.str x t from r);cases e;rfl
 | byt b=>obtain⟨t,e⟩:=(show ∃t,u=Value.bytes b t from r);cases e;rfl
 | flt b=>obtain⟨t,e⟩:=(show ∃t,u=Value.float b t from r);cases e;rfl
 | ref a=>cases (show u=Value.ref a from r);rfl
 | ty n=>cases (show u=Value.type n from r);rfl
section
variable {P:Program}{w:World}{H H':Hp}{h h':Heap}{a C dx:Addr}{fs fs':List (Str×V)}
theorem ZeO (hok:HOk P w H h)(e:H a=some (.ins C dx fs)):∃mA,ObjM h a dx C mA/\(∀f,RelO (fs.lookup f) (mA f))/\PySem.Within mA (fs.map (·.1))/\fs.length<=1000/\H dx=some (.own a):=by
 obtain⟨d,z,ne,ob,mA,n,r,q⟩:=(show ObjOk P w H h a (.ins C dx fs) from hok a _ e)
 exact⟨mA,⟨ob,n,ne⟩,r,q,z,d⟩
end
structure Cls (K:Q44)(C:Addr):Prop where
 pg:PySem.W.plainGet K C Str.empty=true
 hd:PySem.W.hasDictIn K C=true
 po:PySem.W.plainOver K C=true
 sa:PySem.W.findIn K (.ref C) "__setattr__"=some (some (.builtin "object.__setattr__"))
theorem Cls.get {K:Q44}{C:Addr}(c:Cls K C)(f:Str):PySem.W.plainGet K C f=true:=c.pg
def NoAttr (K:Q44)(C:Addr)(f:Str):Prop:=PySem.W.findIn K (.ref C) f=some none
theorem NoAttr.taker {K:Q44}{C:Addr}{f:Str}(n:NoAttr K C f):PySem.W.takerIn K C f=some none:=by
 unfold PySem.W.takerIn
 rw[show PySem.W.findIn K (.ref C) f=some none from n]
 rfl
structure Meth (K:Q44)(C:Addr)(m:Str)(f:Addr):Prop where
 at_:PySem.W.findIn K (.ref C) m=some (some (.ref f))
 fn:PySem.W.isFn K (.ref f)=true
 kp:PySem.W.keepIn K (.ref f)=true
section
variable {X:Cx}{pins:List (Addr×Obj)}{σ:St}{H:Hp}{s:Shared}{a C dx:Addr}{fs:List (Str×V)}{f:Str}{v:V}{A:Around}{E:Q33}
theorem ZhF {b:Bool}{Q:Q33}(I:Inv X pins σ H s)(e:H a=some (.ins C dx fs))(c:Cls X.K C)(n:NoAttr X.K C f)(l:fs.lookup f=some v)
  (h:∀u s',Inv X pins σ H s'->RelV v u->Q u s'):wpAny (model X.prog X.w) A (getAttr (.ref a) f b) Q E s:=by
 obtain⟨mA,O,r,_,_,_⟩:=ZeO I.hok e
 obtain⟨u,hu,ru⟩:=RelO.some_of (v:=v) (o:=mA f) (by rw[<-l];exact r f)
 exact Zlo I.kIn O (c.get f) c.hd n hu (ZfG ru) (h u _ (I.tok _) ru)
theorem ZcW {m:Str}{g:Addr}{pl:Sem Bool}{Q:Value×List Value->Shared->Prop}(I:Inv X pins σ H s)(e:H a=some (.ins C dx fs))(c:Cls X.K C)(k:Meth X.K C m g)(l:fs.lookup m=none)
  (h:Q (.ref g,[.ref a]) s):wpAny (model X.prog X.w) A (getMethod (.ref a) m pl) Q E s:=by
 obtain⟨mA,O,r,_,_,_⟩:=ZeO I.hok e
 have hn:mA m=none:=RelO.none_of (by rw[<-l];exact r m)
 exact ZjM I.kIn O (c.get m) k.at_ k.fn hn h
theorem Zhm {y:V}{u:Value}{Q:Unit->Shared->Prop}(I:Inv X pins σ H s)(e:H a=some (.ins C dx fs))(c:Cls X.K C)(n:NoAttr X.K C f)(hl:fs.length<1000)(ry:RelV y u)
  (h:∀s',Inv X pins σ (upd H a (.ins C dx (putF f y fs))) s'->Q () s'):wpAny (model X.prog X.w) A (setAttr (.ref a) f u) Q E s:=by
 obtain⟨mA,O,r,wi,_,ho⟩:=ZeO I.hok e
 have hz:(fs.map (·.1)).length<=sizeLine:=by rw[YAB,sizeLine_eq];omega
 refine ZkJ I.kIn O c.sa c.po n.taker c.hd wi hz fun h' O' sb=>h _ ?_
 have hd:∃o,h'.get? dx=some o:=let ⟨o,_,_,e',_⟩:=O'.ns;⟨o,e'⟩
 refine I.write (x:=a) (e:=dx) (by rw[e];exact True.intro) (.inr ho) (fun b q hb z=>(sb.2 b hb).trans z) hd ?_
 refine⟨by rw[Zaf O.ne];exact ho,?_,O.ne,O'.obj,_,O'.ns,fun g=>?_,fun g hg=>?_⟩
 .have:=Zcw f y fs;omega
 .show RelO ((putF f y fs).lookup g) (if g=f then some u else mA g)
  rw[ZaF]
  by_cases q:g=f
  .rw[YAW q,YAW q];exact ry
  .rw[YAX q,YAX q];exact r g
 .by_cases q:g=f
  .rw[q];exact(Zb2 f y fs).1
  .refine(Zb2 f y fs).2 g (wi g fun z=>hg ?_)
   show (if g=f then some u else mA g)=none
   rw[YAX q];exact z
theorem Inv.made (I:Inv X pins σ H s):Inv X pins σ (upd (upd H s.heap.objs.size (.own (s.heap.objs.size+1))) (s.heap.objs.size+1) (.ins C s.heap.objs.size []))
  { s with heap:=(s.heap.push PySem.W.emptyDict).push (PySem.W.instObj C s.heap.objs.size) }:=by
 have e1:(s.heap.push PySem.W.emptyDict).get? s.heap.objs.size=some PySem.W.emptyDict:=YAQ s.heap rfl
 have e2:((s.heap.push PySem.W.emptyDict).push (PySem.W.instObj C s.heap.objs.size)).get? (s.heap.objs.size+1)=some (PySem.W.instObj C s.heap.objs.size):=by
  have:=YAQ (s.heap.push PySem.W.emptyDict) (o:=PySem.W.instObj C s.heap.objs.size) rfl
  rwa [YBg]at this
 have e3:(s.heap.push PySem.W.emptyDict).Ns s.heap.objs.size (fun _=>none):=⟨PySem.W.emptyDict,#[],_,e1,rfl,(fun e he=>absurd he (by simp)),fun _=>rfl⟩
 have I1:=I.laid (a:=s.heap.objs.size) (o:=.own (s.heap.objs.size+1)) (h':=s.heap.push PySem.W.emptyDict) (t':=s.toks) (fun b u q=>YAC _ q) (YAJ _) ⟨_,e1⟩
 refine I1.laid (a:=s.heap.objs.size+1) (o:=.ins C s.heap.objs.size []) (t':=s.toks) (fun b u q=>YAC _ q) (YBv (YBg _ _)) ?_
 have ne:s.heap.objs.size≠s.heap.objs.size+1:=YAi (YDf _)
 refine⟨by rw[Zaf ne,Zad],YAg _,ne,e2,fun _=>none,(Heap.Ns1.of_empty e3).at fun o q=>YAC _ q,fun _=>True.intro,fun y hy=>absurd rfl hy⟩
theorem Zi9 {prog:Program}{w:World}{env:Env}{e:Expr}{f:Str}{pos:Pos}{s:Shared}{Q:Q33}(hb:attributeBase e f env (eval e env)=eval e env)
  (h:wpAny (model prog w) A (eval e env) (fun o s₁=>wpAny (model prog w) A (getAttr o f true) Q E s₁) E s):wpAny (model prog w) A (eval (.Attribute e f pos) env) Q E s:=
 Attribute_any_ h (by rw[arm_eval_Attribute,hb])
end
def tFld (K:Q44)(ta:TE)(f:Str):TE:=fun σ H Q=>ta σ H fun x H1=>∃a C dx fs v,x=.ref a/\H1 a=some (.ins C dx fs)/\Cls K C/\NoAttr K C f/\fs.lookup f=some v/\Q v H1
def sFld (K:Q44)(ta tv:TE)(f:Str):TS:=fun D σ H=>tv σ H fun y H1=>ta σ H1 fun x H2=>∃a C dx fs,x=.ref a/\H2 a=some (.ins C dx fs)/\Cls K C/\NoAttr K C f/\fs.length<1000 /\
 D.nx σ (upd H2 a (.ins C dx (putF f y fs)))
def InOp (X:Cx)(op:Operator)(rd:V->V->Hp->VK->Prop):Prop:=
 ∀(pins:List (Addr×Obj)) (s:Shared) (σ:St) (H:Hp) (x y:V) (u v:Value) (Q:VK),Inv X pins σ H s->RelV x u->RelV y v->rd x y H Q->wpAny (model X.prog X.w) X.A (inplaceOp op u v) (EP X pins σ Q) X.xe s
section
variable {X:Cx}{o e value:Expr}{f:Str}{pos pos' tpos:Pos}{ta tv:TE}
theorem Zms (he:PE X e ta)(hb:attributeBase e f X.env (eval e X.env)=eval e X.env):PE X (.Attribute e f pos) (tFld X.K ta f):=by
 intro pins s σ H Q I h
 refine Zi9 hb (thn (he pins s σ H _ I h) fun u s1 ⟨x,H1,I1,rx,a,C,dx,fs,v,ex,ea,c,n,l,q⟩=>?_)
 subst ex
 obtain rfl:u=Value.ref a:=rx
 exact ZhF I1 ea c n l fun u' s2 I2 ru=>⟨v,H1,I2,ru,q⟩
theorem Zj7 (ha:PE X o ta)(hv:PE X value tv)(hs:swapsWith value (some (.Attribute o f pos')) pos.line X.env=pure false):PS X (.Assign [.Attribute o f pos'] value pos) (sFld X.K ta tv f):=by
 intro pins s σ H D I h
 refine plainObj_wpAny_Assign_Attribute (thn (hv pins s σ H _ I h) fun u s1 ⟨y,H1,I1,ry,q⟩=>thn (ha pins s1 σ H1 _ I1 q) fun ov s2 ⟨x,H2,I2,rx,a,C,dx,fs,ex,ea,c,n,l,q2⟩=>?_) hs
 subst ex
 obtain rfl:ov=Value.ref a:=rx
 exact Zhm I2 ea c n l ry fun s3 I3=>⟨σ,_,I3,q2⟩
def rSub:V->V->Hp->VK->Prop:=fun x y H Q=>∃i j,x=.int i/\y=.int j/\Q (.int (i-j)) H
theorem ZmV:InOp X .Sub rSub:=by
 rintro pins s σ H x y u v Q I rx ry ⟨i,j,rfl,rfl,q⟩
 obtain⟨t,rfl⟩:=(show ∃t,u=Value.int i t from rx)
 obtain⟨t',rfl⟩:=(show ∃t',v=Value.int j t' from ry)
 exact PyProof.Rows.isub_int ⟨.int (i-j),H,I.tok _,⟨_,rfl⟩,q⟩
theorem Zk8 {pl:Sem Bool}{m:Str}{apos:Pos}{args:List Expr}{pins:List (Addr×Obj)}{s:Shared}{σ:St}{H:Hp}{Q:Q33}{te:TE}(he:PE X e te)(I:Inv X pins σ H s)
  (h:te σ H fun x H1=>∃a C dx fs g,x=.ref a/\H1 a=some (.ins C dx fs)/\Cls X.K C/\Meth X.K C m g/\fs.lookup m=none /\
   ∀s1,Inv X pins σ H1 s1->wpAny (model X.prog X.w) X.A (callWith pos (.ref g) [.ref a] (backTo pos (starEach args X.env)) (backToKw pos (keywordEach [] X.env))) Q X.xe s1)
  (ht:eval (.Call (.Attribute e m apos) args [] pos) X.env=(do
   let ov <-eval e X.env
   standAt apos.atName
   let (f,first) <-holding [ov] (getMethod ov m pl)
   callWith pos f first (backTo pos (starEach args X.env)) (backToKw pos (keywordEach [] X.env)))):
  wpAny (model X.prog X.w) X.A (eval (.Call (.Attribute e m apos) args [] pos) X.env) Q X.xe s:=by
 refine YCM (pl:=pl) (thn (he pins s σ H _ I h) fun u s1 ⟨x,H1,I1,rx,a,C,dx,fs,g,ex,ea,c,k,l,q⟩=>?_) ht
 subst ex
 obtain rfl:u=Value.ref a:=rx
 exact ZcW I1 ea c k l (q s1 I1)
end
section
variable {X:Cx}{pins:List (Addr×Obj)}{σ:St}{H:Hp}{s:Shared}{A:Around}{E:Q33}{Q:Q33}{c:Value}{b:Bool}
inductive TyOf (K:Q44) (H:Hp):V->Value->Prop where
 | non:TyOf K H .non (.type "NoneType")
 | bl (x:Bool):TyOf K H (.bl x) (.type "bool")
 | int (i:Int):TyOf K H (.int i) (.type "int")
 | str (x:Str):TyOf K H (.str x) (.type "str")
 | flt (x:UInt64):TyOf K H (.flt x) (.type "float")
 | lst {a:Addr} {xs:List V} (e:H a=some (.lst xs)):TyOf K H (.ref a) (.type "list")
 | frz {a:Addr} {o:Obj} {xs:List V} (e:H a=some (.frz o (.lst xs))):TyOf K H (.ref a) (.type "list")
 | tup {a:Addr} {xs:List V} (e:H a=some (.tup xs)):TyOf K H (.ref a) (.type "tuple")
 | dK {a:Addr} {kvs:List (Key×V)} (e:H a=some (.dK kvs)):TyOf K H (.ref a) (.type "dict")
 | dT {a:Addr} {kvs:List (List Key×V)} (e:H a=some (.dT kvs)):TyOf K H (.ref a) (.type "dict")
 | ins {a C dx:Addr} {fs:List (Str×V)} (e:H a=some (.ins C dx fs)) (cl:Cls K C) (ha:PySem.W.findIn K (.ref C) "__class__"=some (some (.builtin "object.__class__")))
   (hn:PySem.W.specialIn K (.builtin "object.__class__") "__get__"=some (some (.builtin "getset_descriptor.__get__"))) (htk:PySem.W.takesIn K (.builtin "object.__class__")=some true)
   (hm:PySem.W.mroIn K C (.type "object")=some true):TyOf K H (.ref a) (.ref C)
theorem ZiN {x:V}{u t:Value}(I:Inv X pins σ H s)(rx:RelV x u)(ty:TyOf X.K H x t)(e:PySem.W.kitOne X.K t c=some b)(h:∀tk,Q (.bool b) { s with toks:=tk }):
  wpAny (model X.prog X.w) A (call (.builtin "isinstance") [u,c]) Q E s:=by
 cases ty with
 | non=>cases (show u=Value.none from rx);exact YBI PySem.W.kitx_none I.kIn True.intro e (fun z=>nomatch z) h
 | bl y=>cases (show u=Value.bool y from rx);exact YBI PySem.W.kitx_bool I.kIn True.intro e (fun z=>nomatch z) h
 | int i=>obtain⟨t,q⟩:=(show ∃t,u=Value.int i t from rx);cases q;exact YBI PySem.W.kitx_int I.kIn True.intro e (fun z=>nomatch z) h
 | str y=>obtain⟨t,q⟩:=(show ∃t,u=Value.str y t from rx);cases q;exact YBI PySem.W.kitx_str I.kIn True.intro e (fun z=>nomatch z) h
 | flt y=>obtain⟨t,q⟩:=(show ∃t,u=Value.float y t from rx);cases q;exact YBI PySem.W.kitx_float I.kIn True.intro e (fun z=>nomatch z) h
 | @lst a xs ea=>
  cases (show u=Value.ref a from rx)
  obtain⟨_,_,n,_,h1⟩:=(show ObjOk X.prog X.w H s.heap a (.lst xs) from I.hok a _ ea)
  exact YBI PySem.W.kitx_list I.kIn ⟨_,h1,rfl⟩ e (fun z=>nomatch z) h
 | @frz a ob xs ea=>
  cases (show u=Value.ref a from rx)
  obtain⟨_,_,_,n,_,h1⟩:=(show ObjOk X.prog X.w H s.heap a (.frz ob (.lst xs)) from I.hok a _ ea)
  exact YBI PySem.W.kitx_list I.kIn ⟨_,h1,rfl⟩ e (fun z=>nomatch z) h
 | @tup a xs ea=>
  cases (show u=Value.ref a from rx)
  obtain⟨_,_,_,p⟩:=(show ObjOk X.prog X.w H s.heap a (.tup xs) from I.hok a _ ea)
  obtain⟨o,h1,h2,_⟩:=p
  exact YBI PySem.W.kitx_tuple I.kIn ⟨o,h1,h2⟩ e (fun z=>nomatch z) h
 | @dK a kvs ea=>
  cases (show u=Value.ref a from rx)
  obtain⟨_,_,vs,_,p⟩:=(show ObjOk X.prog X.w H s.heap a (.dK kvs) from I.hok a _ ea)
  obtain⟨o,es,ep,h1,h2,_⟩:=p
  exact YBI PySem.W.kitx_dict I.kIn ⟨o,h1,h2.1⟩ e (fun z=>nomatch z) h
 | @dT a kvs ea=>
  cases (show u=Value.ref a from rx)
  obtain⟨_,_,xs,_,o,es,ep,h1,h2,_⟩:=(show ObjOk X.prog X.w H s.heap a (.dT kvs) from I.hok a _ ea)
  exact YBI PySem.W.kitx_dict I.kIn ⟨o,h1,h2.1⟩ e (fun z=>nomatch z) h
 | @ins a C dx fs ea cl ha hn htk hm=>
  cases (show u=Value.ref a from rx)
  obtain⟨mA,O,_⟩:=ZeO I.hok ea
  obtain⟨od,J,_⟩:=O.look
  exact YBI (PySem.W.kitx_own (cl.get _) cl.hd ha hn htk hm) I.kIn J e (fun z=>nomatch z) h
end
structure Room (k:Nat)(A:Around):Prop where
 hd:A.handled=none
 dp:A.depth+3*k+5<recursionLimit
 un:A.units+16*k+200<cLine
theorem Room.mono {j k:Nat}{A:Around}(r:Room k A)(h:j<=k):Room j A:=⟨r.hd,by have:=r.dp;omega,by have:=r.un;omega⟩
theorem Room.deeper {k:Nat}{A:Around}(r:Room (k+1) A)(env:Env):Room k (A.deeper env):=
 ⟨r.hd,by have:=r.dp;show A.depth+1+3*k+5<_;omega,by have:=r.un;show A.units+3+16*k+200<_;omega⟩
theorem ZhB {A:Around}{C:Addr}{us:List Value}{kw:List (Str×Value)}:(A.under (.builtin "type.__call__" ⟨.ref C::us,kw⟩)).depth=A.depth+1:=by
 first | rfl | simp[Around.under,Code.weight,Code.isCreation,Code.isGuard,Code.isCaller,Code.frames,Code.isFrame,guardIds]
theorem ZhA {A:Around}{C:Addr}{us:List Value}{kw:List (Str×Value)}:(A.under (.builtin "type.__call__" ⟨.ref C::us,kw⟩)).units=A.units+1:=by
 first | rfl | simp[Around.under,Code.cUnits,Code.frames,Code.isFrame]
theorem Room.make {k:Nat}{A:Around}(r:Room (k+1) A)(C:Addr)(us:List Value)(kw:List (Str×Value)):Room k (A.under (.builtin "type.__call__" ⟨.ref C::us,kw⟩)):=
 ⟨r.hd,by have:=r.dp;rw[ZhB];omega,by have:=r.un;rw[ZhA];omega⟩
theorem Room.depth {k:Nat}{A:Around}(r:Room k A):A.depth<recursionLimit:=by have:=r.dp;omega
theorem Room.units {k:Nat}{A:Around}(r:Room k A):A.units+64<cLine:=by have:=r.un;omega
def tNil:TA:=fun _ H Q=>Q [] H
def Zl2 (ta:TE)(tr:TA):TA:=fun σ H Q=>ta σ H fun x H1=>tr σ H1 fun xs H2=>Q (x::xs) H2
section
variable {X:Cx}{e:Expr}{es:List Expr}{te:TE}{t:TA}{pos:Pos}
theorem Zac:PA X [] tNil:=fun _ _ _ _ H Q I h=>YCU ⟨[],H,I,.nil,h⟩
theorem Zaa (ha:PE X e te)(hr:PA X es t)(hs:starEach (e::es) X.env=(false,eval e X.env)::starEach es X.env:=by rfl):PA X (e::es) (Zl2 te t):=by
 intro pos pins s σ H Q I h
 rw[hs]
 show wpAny _ _ (spliced ((false,eval e X.env)::backTo pos (starEach es X.env))) _ _ s
 refine YBi (thn (ha pins s σ H _ I h) fun u s1 ⟨x,H1,I1,r1,q1⟩=>?_)
 exact thn (hr pos pins s1 σ H1 _ I1 q1) fun us s2 ⟨xs,H2,I2,r2,q2⟩=>⟨x::xs,H2,I2,.cons r1 r2,q2⟩
def tTup (t:TA):TE:=fun σ H Q=>t σ H fun xs H1=>xs.length<=sizeLine/\∀p,H1 p=none->Q (.ref p) (upd H1 p (.tup xs))
def tLst (t:TA):TE:=fun σ H Q=>t σ H fun xs H1=>xs.length<=sizeLine/\∀p,H1 p=none->Q (.ref p) (upd H1 p (.lst xs))
theorem ZdC {x1}(h:PA X es t):PE X (.Tuple es x1 pos) (tTup t):=by
 intro pins s σ H Q I hq
 refine wpAny_Tuple_spliced (thn (h pos pins s σ H _ I hq) fun us s1 ⟨xs,H1,I1,r,z,q⟩=>⟨by rw[<-r.length];exact z,?_⟩)
 have hf:H1 s1.heap.objs.size=none:=I1.hok.fresh (YAJ _)
 refine⟨.ref s1.heap.objs.size,upd H1 s1.heap.objs.size (.tup xs),I1.laid (t':=s1.toks) (fun b u e=>YAC _ e) (YAJ _) ?_,rfl,q _ hf⟩
 exact⟨z,us,r,⟨_,YAQ _ rfl,rfl,_,rfl⟩⟩
theorem Zbe (h:PA X es t):PE X (.List es pos) (tLst t):=by
 intro pins s σ H Q I hq
 refine wpAny_List_spliced (thn (h pos pins s σ H _ I hq) fun us s1 ⟨xs,H1,I1,r,z,q⟩=>⟨by rw[<-r.length];exact z,?_⟩)
 have hf:H1 s1.heap.objs.size=none:=I1.hok.fresh (YAJ _)
 refine⟨.ref s1.heap.objs.size,upd H1 s1.heap.objs.size (.lst xs),I1.laid (t':=s1.toks) (fun b u e=>YAC _ e) (YAJ _) ?_,rfl,q _ hf⟩
 exact⟨z,us,0,r,YAQ _ rfl⟩
end
abbrev Sp:=List V->Hp->VK->XK->Prop
abbrev CXT:=List Env->Hp->Shared->XK->Value->Shared->Prop
structure Env0 (P:Program)(w:World)(K:Q44)(mg:Str->Option Value)(base:Heap)(A:Around)(outer:List Env)(s:Shared)(H:Hp):Prop where
 frames:A.frames=some outer
 mod:Mod K mg base
 bs:∀b o,base.get? b=some o->s.heap.get? b=some o/\H b=none
 bsz:base.objs.size<=s.heap.objs.size
 funs:s.heap.FunFrames base outer
 frf:∀b∈frs outer,H b=none
 hok:HOk P w H s.heap
 bare:AllBare s.gens
def CE (outer:List Env)(P:Program)(w:World)(H:Hp)(s:Shared)(Q:VK)(u:Value)(s':Shared):Prop:=
 ∃v H',s'.os=s.os/\AllBare s'.gens/\Un (frs outer) [] H H' s.heap s'.heap/\HOk P w H' s'.heap/\RelV v u/\Q v H'
def CR (CX:CXT)(outer:List Env)(P:Program)(w:World)(H:Hp)(s:Shared)(Q:VK)(E:XK)(r:Result)(s':Shared):Prop:=
 match r with
 | .ok (.ret u)=>CE outer P w H s Q u s'
 | .ok _=>False
 | .error e=>CX outer H s E e s'
structure FnOk (P:Program)(w:World)(K:Q44)(mg:Str->Option Value)(base:Heap)(CX:CXT)(k:Nat)(f:Addr)(fd:FuncData)(ps:List Str)(sp:Sp):Prop where
 len:∀vs H Q E,sp vs H Q E->vs.length=ps.length
 run:∀(A:Around) (outer:List Env) (s:Shared) (H:Hp) (args:Args) (us:List Value) (vs:List V) (Q:VK) (E:XK),Room k A->Env0 P w K mg base A outer s H->BindsTo s fd args (ps.zip us)->Vals vs us->sp vs H Q E ->
  codeAny (model P w) A (.call (.ref f) args) (CR CX outer P w H s Q E) s
theorem Env0.make {P:Program}{w:World}{K:Q44}{mg:Str->Option Value}{base:Heap}{A:Around}{outer:List Env}{s:Shared}{H:Hp}(e:Env0 P w K mg base A outer s H)(C:Addr)(us:List Value)(kw:List (Str×Value)):
  Env0 P w K mg base (A.under (.builtin "type.__call__" ⟨.ref C::us,kw⟩)) outer s H:=⟨by first | exact e.frames | (simpa [Around.under,Code.envs,Code.isFrame,pushEnvs] using e.frames),e.mod,e.bs,e.bsz,e.funs,e.frf,e.hok,e.bare⟩
section
variable {X:Cx}{pins:List (Addr×Obj)}{σ:St}{H:Hp}{s s':Shared}
theorem Inv.env0 (I:Inv X pins σ H s):Env0 X.prog X.w X.K X.mg X.base X.A X.stack s H:=
 ⟨I.ok.frames,I.ok.mod,I.bs,YAK I.ok.bsz I.sz,I.stack,I.stkFree,I.hok,I.bare⟩
theorem Inv.after {Q:VK}{u:Value}(I:Inv X pins σ H s)(h:CE X.stack X.prog X.w H s Q u s'):EP X pins σ Q u s':=by
 obtain⟨v,H',os,bare,un,hok,r,q⟩:=h
 obtain⟨hh,g,d,t,os'⟩:=s'
 obtain rfl:os'=s.os:=os
 exact⟨v,H',I.call (h':=hh) (g':=g) (d':=d) (t':=t) (ch:=[]) un hok bare (fun b z=>absurd z (by simp)),r,q⟩
end
def ZkC (sp:Sp)(dvs:List V)(E:XK)(t:TA):TE:=fun σ H Q=>t σ H fun vs H1=>sp (vs++dvs) H1 Q E
def Zkz (C:Addr)(m:Str)(sp:Sp)(dvs:List V)(E:XK)(ta:TE)(t:TA):TE:=fun σ H Q=>ta σ H fun x H1=>∃a dx fs,x=.ref a/\H1 a=some (.ins C dx fs)/\fs.lookup m=none /\
 t σ H1 fun vs H2=>sp (x::(vs++dvs)) H2 Q E
def ZlT (C:Addr)(sp:Sp)(dvs:List V)(E:XK)(t:TA):TE:=fun σ H Q=>t σ H fun vs H1=>∀x dx,H1 x=none->H1 dx=none->dx≠x ->
 sp (.ref x::(vs++dvs)) (upd (upd H1 dx (.own x)) x (.ins C dx [])) (fun v H2=>v=.non/\Q (.ref x) H2) E
def Binds (K:Q44)(fd:FuncData)(ps:List Str)(ds:List Value):Prop:=
 ∀(s:Shared) (us:List Value),K.In s.heap->(us++ds).length=ps.length->BindsTo s fd ⟨us,[]⟩ (ps.zip (us++ds))
theorem Binds.all {K:Q44}{fd:FuncData}{ps:List Str}(h:∀us:List Value,us.length=ps.length->bindArgs fd ⟨us,[]⟩=pure (ps.zip us)):Binds K fd ps []:=fun s us _ hl=>by
 rw[YBC]at hl ⊢
 exact .of_eq (h us hl)
def Zb8 (CX:CXT)(X:Cx)(E:XK):Prop:=∀(pins:List (Addr×Obj)) (σ:St) (H:Hp) (s:Shared) (e:Value) (s':Shared),Inv X pins σ H s->CX X.stack H s E e s'->X.xe e s'
section
variable {X:Cx}{CX:CXT}{k:Nat}{f C:Addr}{fd:FuncData}{ps:List Str}{sp:Sp}{dvs:List V}{ds:List Value}{E:XK}{x m:Str}{p pos apos:Pos}{e o:Expr}{es:List Expr}{ta:TE}{t:TA}
theorem ZgP {pins:List (Addr×Obj)}{σ:St}{H:Hp}{s:Shared}{Q:VK}{us:List Value}{vs:List V}(F:FnOk X.prog X.w X.K X.mg X.base CX k f fd ps sp)(hr:Room k X.A)(hb:Binds X.K fd ps ds)(hd:Vals dvs ds)(hx:Zb8 CX X E)
  (I:Inv X pins σ H s) (r:Vals vs us) (h:sp (vs++dvs) H Q E):wpAny (model X.prog X.w) X.A (call (.ref f) us) (EP X pins σ Q) X.xe s:=by
 have r2:Vals (vs++dvs) (us++ds):=r.append hd
 have hl:(us++ds).length=ps.length:=by rw[<-r2.length];exact F.len _ _ _ _ h
 refine YCS (codeAny_mono (F.run X.A X.stack s H ⟨us,[]⟩ (us++ds) (vs++dvs) Q E hr I.env0 (hb s us I.kIn hl) r2 h) fun r s' hq=>?_)
 cases r with
 | error e=>exact hx pins σ H s e s' I hq
 | ok fl=>
  cases fl with
  | ret u=>exact I.after hq
  | next=>exact False.elim hq
  | brk=>exact False.elim hq
  | cont=>exact False.elim hq
theorem Zak (F:FnOk X.prog X.w X.K X.mg X.base CX k f fd ps sp)(hr:Room k X.A)(hg:Gl X x)(hm:X.mg x=some (.ref f))(hk:PySem.W.keepIn X.K (.ref f)=true)(hb:Binds X.K fd ps ds)(hd:Vals dvs ds)(hx:Zb8 CX X E)
  (ha:PA X (e::es) t) (hdb:(x == ("__debug__":Str))=false:=by decide) (he:starEach (e::es) X.env=(false,eval e X.env)::starEach es X.env:=by rfl) (hpl:(backTo pos (starEach es X.env)).any (·.1)=false:=by rfl):
  PE X (.Call (.Name x p) (e::es) [] pos) (ZkC sp dvs E t):=by
 intro pins s σ H Q I h
 refine YBo (Zb1 I hg hm ?_ hdb)
 refine YCK (h₀:=X.base) I.ok.mod.kin hk (thn (ha pos pins s σ H _ I h) fun us s1 ⟨vs,H1,I1,r,q⟩=>⟨I1.kIn,?_⟩) he hpl
 exact ZgP F hr hb hd hx I1 r q
theorem Zge {pl:Sem Bool}(he:PE X o ta)(c:Cls X.K C)(hm:Meth X.K C m f)(F:FnOk X.prog X.w X.K X.mg X.base CX k f fd ps sp)(hr:Room k X.A)(hb:Binds X.K fd ps ds)(hd:Vals dvs ds)(hx:Zb8 CX X E)(ha:PA X (e::es) t)
  (hst:starEach (e::es) X.env=(false,eval e X.env)::starEach es X.env:=by rfl) (hpl:(backTo pos (starEach es X.env)).any (·.1)=false:=by rfl)
  (ht:eval (.Call (.Attribute o m apos) (e::es) [] pos) X.env=(do
   let ov <-eval o X.env
   standAt apos.atName
   let (f,first) <-holding [ov] (getMethod ov m pl)
   callWith pos f first (backTo pos (starEach (e::es) X.env)) (backToKw pos (keywordEach [] X.env))):=by rfl):
  PE X (.Call (.Attribute o m apos) (e::es) [] pos) (Zkz C m sp dvs E ta t):=by
 intro pins s σ H Q I h
 refine YCM (pl:=pl) (thn (he pins s σ H _ I h) fun u s1 ⟨x,H1,I1,rx,a,dx,fs,ex,ea,l,q⟩=>?_) ht
 subst ex
 obtain rfl:u=Value.ref a:=rx
 refine ZcW I1 ea c hm l ?_
 refine YCK (first:=[.ref a]) (h₀:=X.base) I.ok.mod.kin hm.kp (thn (ha pos pins s1 σ H1 _ I1 q) fun us s2 ⟨vs,H2,I2,r,q2⟩=>⟨I2.kIn,?_⟩) hst hpl
 exact ZgP (us:=.ref a::us) (vs:=.ref a::vs) F hr hb hd hx I2 (.cons rfl r) q2
theorem ZgU {pl:Sem Bool}(he:PE X o ta)(c:Cls X.K C)(hm:Meth X.K C m f)(F:FnOk X.prog X.w X.K X.mg X.base CX k f fd ps sp)(hr:Room k X.A)(hb:Binds X.K fd ps ds)(hd:Vals dvs ds)(hx:Zb8 CX X E)
  (ht:eval (.Call (.Attribute o m apos) [] [] pos) X.env=(do
   let ov <-eval o X.env
   standAt apos.atName
   let (f,first) <-holding [ov] (getMethod ov m pl)
   callWith pos f first (backTo pos (starEach [] X.env)) (backToKw pos (keywordEach [] X.env))):=by rfl):
  PE X (.Call (.Attribute o m apos) [] [] pos) (Zkz C m sp dvs E ta tNil):=by
 intro pins s σ H Q I h
 refine YCM (pl:=pl) (thn (he pins s σ H _ I h) fun u s1 ⟨x,H1,I1,rx,a,dx,fs,ex,ea,l,q⟩=>?_) ht
 subst ex
 obtain rfl:u=Value.ref a:=rx
 refine ZcW I1 ea c hm l ?_
 exact PySem.W.callWith_K0 (first:=[.ref a]) I1.kIn hm.kp (ZgP (us:=[.ref a]) (vs:=[.ref a]) F hr hb hd hx I1 (.cons rfl .nil) q)
structure Mk (K:Q44)(C f:Addr):Prop where
 makes:PySem.W.makesIn K C=true
 init:PySem.W.findIn K (.ref C) "__init__"=some (some (.ref f))
 fn:PySem.W.isFn K (.ref f)=true
 kp:PySem.W.keepIn K (.ref C)=true
theorem Zjn {pins:List (Addr×Obj)}{σ:St}{H:Hp}{s:Shared}{Q:VK}{us:List Value}{vs:List V}(M:Mk X.K C f)(F:FnOk X.prog X.w X.K X.mg X.base CX k f fd ps sp)(hr:Room (k+1) X.A)(hb:Binds X.K fd ps ds)(hd:Vals dvs ds)
  (hx:Zb8 CX X E) (I:Inv X pins σ H s) (r:Vals vs us)
  (h:∀x dx,H x=none->H dx=none->dx≠x->sp (.ref x::(vs++dvs)) (upd (upd H dx (.own x)) x (.ins C dx [])) (fun v H2=>v=.non/\Q (.ref x) H2) E):
  wpAny (model X.prog X.w) X.A (call (.ref C) us) (EP X pins σ Q) X.xe s:=by
 have hq:=h (s.heap.objs.size+1) s.heap.objs.size (I.hok.fresh (YCO _)) (I.hok.fresh (YAJ _)) (YAi (YDf _))
 have I2:=Inv.made (C:=C) I
 have r2:Vals (V.ref (s.heap.objs.size+1)::(vs++dvs)) (Value.ref (s.heap.objs.size+1)::(us++ds)):=.cons rfl (r.append hd)
 have hl:(Value.ref (s.heap.objs.size+1)::us++ds).length=ps.length:=by
  have e:=r2.length
  rw[F.len _ _ _ _ hq]at e
  exact e.symm
 refine YCS (ZjD (f:=f) I.kIn M.makes M.init (beq_iff_eq.mp M.fn) (codeAny_mono (F.run _ X.stack _ _ ⟨Value.ref (s.heap.objs.size+1)::us,[]⟩ (Value.ref (s.heap.objs.size+1)::(us++ds)) _ _ E (hr.make C us [])
  (I2.env0.make C us []) (hb _ (Value.ref (s.heap.objs.size+1)::us) I2.kIn hl) r2 hq) fun r s' hq'=>?_))
 cases r with
 | error e=>exact hx pins σ _ _ e s' I2 hq'
 | ok fl=>
  cases fl with
  | ret u=>
   obtain⟨v,H',I3,rv,ev,q3⟩:=I2.after hq'
   subst ev
   exact⟨rv,⟨V.ref (s.heap.objs.size+1),H',I3,rfl,q3⟩⟩
  | next=>exact False.elim hq'
  | brk=>exact False.elim hq'
  | cont=>exact False.elim hq'
theorem Zk1 (M:Mk X.K C f)(F:FnOk X.prog X.w X.K X.mg X.base CX k f fd ps sp)(hr:Room (k+1) X.A)(hg:Gl X x)(hm:X.mg x=some (.ref C))(hb:Binds X.K fd ps ds)(hd:Vals dvs ds)(hx:Zb8 CX X E)
  (ha:PA X (e::es) t) (hdb:(x == ("__debug__":Str))=false:=by decide) (he:starEach (e::es) X.env=(false,eval e X.env)::starEach es X.env:=by rfl) (hpl:(backTo pos (starEach es X.env)).any (·.1)=false:=by rfl):
  PE X (.Call (.Name x p) (e::es) [] pos) (ZlT C sp dvs E t):=by
 intro pins s σ H Q I h
 refine YBo (Zb1 I hg hm ?_ hdb)
 refine YCK (h₀:=X.base) I.ok.mod.kin M.kp (thn (ha pos pins s σ H _ I h) fun us s1 ⟨vs,H1,I1,r,q⟩=>⟨I1.kIn,?_⟩) he hpl
 exact Zjn M F hr hb hd hx I1 r q
end
section
variable {X:Cx}{CX:CXT}{k:Nat}{f C:Addr}{fd:FuncData}{ps ks:List Str}{sp:Sp}{E:XK}{x m:Str}{p pos apos kpos:Pos}{e o:Expr}{es:List Expr}{kws:List Keyword}{te ta:TE}{t tk:TA}{nm:Option Str}
variable {g:List Value->List Value->List Value}{gV:List V->List V->List V}
end
structure FnScope (N P:List Str)(sc:Scope):Prop where
 kind:sc.kind=.function
 co:sc.isCoroutine=false
 gen:sc.isGenerator=false
 nd:N.Nodup
 pre:N.take P.length=P
 par:∀x∈P,sc.names.lookup x=some .local\/sc.names.lookup x=some .cell
 nofree:∀y∈sc.names,y.2≠.free
theorem ZfX {kindOf:Str->Option NameKind}{x:Str}:∀ {binds:List (Str×Value)} {m:Str->Option Value},(∀v,(x,v)∉binds)->bindL kindOf binds m x=m x
 | [],_,_=>rfl
 | (n,v)::r,m,h=>by
  unfold bindL
  rw[ZfX fun w hw=>h w (YAV _ hw)]
  split
  .have:x≠n:=by rintro rfl;exact h v YAa
   simp[this]
  .rfl
theorem ZfZ {kindOf:Str->Option NameKind}{x:Str}:∀ {binds:List (Str×Value)} {m:Str->Option Value},(∀v,(x,v)∉binds)->bindC kindOf binds m x=m x
 | [],_,_=>rfl
 | (n,v)::r,m,h=>by
  unfold bindC
  rw[ZfZ fun w hw=>h w (YAV _ hw)]
  split
  .rfl
  .have:x≠n:=by rintro rfl;exact h v YAa
   simp[this]
theorem ZfY {kindOf:Str->Option NameKind}{x:Str}{v:Value}:∀ {P:List Str} {vs:List Value} {i:Nat} {m:Str->Option Value},P.Nodup->P[i]?=some x->vs[i]?=some v->kindOf x=some .local ->
  bindL kindOf (P.zip vs) m x=some v
 | [],_,_,_,_,h,_,_=>by simp at h
 | _::_,[],_,_,_,_,h,_=>by simp at h
 | p::P,w::vs,0,m,nd,h1,h2,hk=>by
  simp at h1 h2;subst h1;subst h2
  show bindL kindOf ((p,w)::P.zip vs) m p=_
  unfold bindL
  rw[ZfX fun v hv=>(YBP.mp nd).1 (List.of_mem_zip hv).1,YAW hk]
  simp
 | p::P,w::vs,i+1,m,nd,h1,h2,hk=>by
  show bindL kindOf ((p,w)::P.zip vs) m x=_
  unfold bindL
  exact ZfY (i:=i) (YBP.mp nd).2 (by simpa using h1) (by simpa using h2) hk
theorem Zf0 {kindOf:Str->Option NameKind}{x:Str}{v:Value}:∀ {P:List Str} {vs:List Value} {i:Nat} {m:Str->Option Value},P.Nodup->P[i]?=some x->vs[i]?=some v->kindOf x≠some .local ->
  bindC kindOf (P.zip vs) m x=some v
 | [],_,_,_,_,h,_,_=>by simp at h
 | _::_,[],_,_,_,_,h,_=>by simp at h
 | p::P,w::vs,0,m,nd,h1,h2,hk=>by
  simp at h1 h2;subst h1;subst h2
  show bindC kindOf ((p,w)::P.zip vs) m p=_
  unfold bindC
  rw[ZfZ fun v hv=>(YBP.mp nd).1 (List.of_mem_zip hv).1,YAX hk]
  simp
 | p::P,w::vs,i+1,m,nd,h1,h2,hk=>by
  show bindC kindOf ((p,w)::P.zip vs) m x=_
  unfold bindC
  exact Zf0 (i:=i) (YBP.mp nd).2 (by simpa using h1) (by simpa using h2) hk
def start (N:List Str)(vs:List V):St:=vs.map some++List.replicate (N.length-vs.length) none
def cxOf (CX:CXT)(P:Program)(w:World)(K:Q44)(mg:Str->Option Value)(base:Heap)(N:List Str)(qual:Str)(scope:Scope)(f:Addr)(cd:Value)(A:Around)(outer:List Env)(s:Shared)(H:Hp)(E:XK):Cx where
 prog:=P
 w:=w
 K:=K
 mg:=mg
 base:=base
 A:=A.deeper (envOfC qual scope s.heap.objs.size f cd)
 N:=N
 s₀:=s
 H₀:=H
 env:=envOfC qual scope s.heap.objs.size f cd
 outer:=outer
 stack:=envOfC qual scope s.heap.objs.size f cd::outer
 ex:=[]
 calm:=true
 fn:=fun _=>true
 pn:=[]
 xe:=fun e s'=>wpAny (model P w) (A.deeper (envOfC qual scope s.heap.objs.size f cd)) (leaving (envOfC qual scope s.heap.objs.size f cd) e) (fun _ s''=>CX outer H s E e s'') (fun e' s''=>CX outer H s E e' s'') s'
theorem Zha {sc:Scope}{n:Nat}{x:Str}(h:sc.names.lookup x=some .cell):∃c,(cellsFrom n sc.names []).lookup x=some c:=by
 have q:=PySem.W.cellsFrom_some sc.names n [] (.inl h)
 exact YDU.mp q
theorem ZiP {CX:CXT}{P:Program}{w:World}{K:Q44}{mg:Str->Option Value}{base:Heap}{N ps:List Str}{qual:Str}{scope:Scope}{f:Addr}{cd:Value}{A:Around}{outer:List Env}{s s1:Shared}{H:Hp}{E:XK}{us:List Value}{vs:List V}
  (S:FnScope N ps scope) (hd:A.handled=none) (e0:Env0 P w K mg base A outer s H) (hl:vs.length=ps.length) (r:Vals vs us)
  (x:InCallC s s.heap.objs.size (bindL (envOfC qual scope s.heap.objs.size f cd).kindOf (ps.zip us) fun _=>none) (cellsFrom (s.heap.objs.size+1) scope.names []) (bindC (envOfC qual scope s.heap.objs.size f cd).kindOf (ps.zip us) fun _=>none) s1):
  Inv (cxOf CX P w K mg base N qual scope f cd A outer s H E) [] (start N vs) H s1:=by
 have hpl:ps.length<=N.length:=by have:=congrArg List.length S.pre;rw[YAd]at this;omega
 obtain⟨h1,tk,rfl,hk⟩:=x.done
 have noA:∀b:Addr,b∉(cxOf CX P w K mg base N qual scope f cd A outer s H E).ex:=fun b z=>absurd (show b∈([]:List Addr) from z) (by simp)
 refine⟨⟨e0.mod,S.kind,rfl,rfl,YAJ _,fun y z c h1 h2=>?_,fun y hy=>?_,fun y c _ h=>?_,fun _=>hd,Around.frames_deeper e0.frames,.inr ⟨rfl,rfl⟩,fun b z=>absurd z (noA b),e0.bs,e0.bsz,fun b _ _=>noA b,fun b z=>absurd z (noA b),e0.funs,e0.frf⟩,
  rfl,e0.bare,Un.kept hk,⟨_,x.toInCall.ns,fun i y v h1 h2 h3=>?_⟩,fun y c h=>⟨_,x.cell y c h⟩,e0.hok.fresh (YAJ _),fun y c h=>?_,fun p hp=>absurd (show p∈([]:List (Addr×Obj)) from hp) (by simp),e0.hok.kept hk,?_⟩
 .exact name_of_addr x.apart (YBl h1) (YBl h2)
 .have hy:scope.names.lookup y=some .cell\/scope.names.lookup y=some .free:=hy
  rcases hy with hy | hy
  .exact Zha hy
  .exact absurd rfl (S.nofree _ (YBl hy))
 .exact YCE (x.above y c (YBl h))
 .have hi:i<vs.length:=by
   unfold start at h2
   by_cases hi:i<vs.length
   .exact hi
   .rw[YAz (by simpa using hi)]at h2
    rw[List.getElem?_replicate]at h2
    split at h2<;>cases h2
  have ha:vs[i]?=some v:=by
   unfold start at h2
   rw[YAx (by simpa using hi),YAZ]at h2
   cases e:vs[i]? with
   | none=>rw[e]at h2;cases h2
   | some a=>rw[e]at h2;cases h2;rfl
  obtain⟨u,hu,rv⟩:=r.get ha
  have hp:ps[i]?=some y:=by
   rw[<-S.pre,List.getElem?_take_of_lt (by omega)];exact h1
  have ndP:ps.Nodup:=by rw[<-S.pre];exact S.nd.sublist (YDW _ _)
  refine⟨u,rv,?_⟩
  rcases S.par y (YAM hp) with k | k
  .exact .inl ⟨k,ZfY ndP hp hu k⟩
  .obtain⟨c,e⟩:=Zha (n:=s.heap.objs.size+1) k
   refine .inr ⟨.inl k,c,e,?_⟩
   have q:=x.cell y c e
   rw[Zf0 ndP hp hu (by show scope.names.lookup y≠_;rw[k];decide)]at q
   exact q
 .exact e0.hok.fresh (YCE (x.above y c (YBl h)))
 .unfold start
  show _=N.length
  rw[YAI,YAB,List.length_replicate]
  omega
theorem Zlt {CX:CXT}{P:Program}{w:World}{K:Q44}{mg:Str->Option Value}{base:Heap}{k:Nat}{f:Addr}{name qual:Str}{params:Arguments}{body:List Stmt}{scope:Scope}{dV kV doc pm cdv ct oc:Value}{an od:Option Addr}
  {osl:Array (Option Value)} {N ps:List Str} {sp:Sp} (lk:K.lookup f=some ⟨oc,od,.func (PySem.W.fnOf name qual params body scope dV kV doc pm an cdv ct),osl⟩) (hcd:PySem.W.codeIn K cdv qual=true) (S:FnScope N ps scope)
  (len:∀vs H Q E,sp vs H Q E->vs.length=ps.length)
  (hbody:∀(A:Around) (outer:List Env) (s:Shared) (H:Hp) (vs:List V) (Q:VK) (E:XK),Room k (A.deeper (envOfC qual scope s.heap.objs.size f cdv))->sp vs H Q E ->
   ∃t,PSs (cxOf CX P w K mg base N qual scope f cdv A outer s H E) body t/\t { nx:=fun _ H'=>Q .non H',rt:=Q } (start N vs) H):
  FnOk P w K mg base CX (k+1) f (PySem.W.fnOf name qual params body scope dV kV doc pm an cdv ct) ps sp:=by
 refine⟨len,fun A outer s H args us vs Q E hr e0 hb r hsp=>?_⟩
 have hl:=len _ _ _ _ hsp
 have KX:K.In s.heap:=e0.mod.kin.keeps fun b o e=>(e0.bs b o e).1
 have lim:s.heap.NoLimit:=e0.mod.nolimit.keeps fun b o e=>(e0.bs b o e).1
 have hkind:∀y∈ps.zip us,scope.names.lookup y.1=some .local\/(scope.names.lookup y.1=some .cell/\((cellsFrom (s.heap.objs.size+1) scope.names []).lookup y.1).isSome=true):=fun ⟨n,v⟩ hy=>by
  rcases S.par n (List.of_mem_zip hy).1 with q | q
  .exact .inl q
  .exact .inr ⟨q,PySem.W.cellsFrom_some _ _ _ (.inl q)⟩
 refine codeAny_call_function hr.depth (KX _ _ lk) rfl S.co S.gen rfl (PySem.W.codeRec_of KX hcd) (hb _ _ _ _ ?_)
 refine wpAny_newFunctionEnv_cells S.kind hkind fun env he s1 x=>?_
 subst he
 refine⟨lim.keeps x.toInCall.keep,codeAny_func ?_⟩
 obtain⟨t,ht,hq⟩:=hbody A outer s H vs Q E (hr.deeper _) hsp
 have I:Inv (cxOf CX P w K mg base N qual scope f cdv A outer s H E) [] (start N vs) H s1:=ZiP S hr.hd e0 hl r x
 refine YBN (ht [] s1 (start N vs) H _ I hq) (fun fl s' hs=>?_) fun e s' hs=>hs
 have fin:∀ {σ':St} {H':Hp} {v:V} {u:Value},Inv (cxOf CX P w K mg base N qual scope f cdv A outer s H E) [] σ' H' s'->RelV v u->Q v H'->CE outer P w H s Q u s':=
  fun {σ' H' v u} J rv q=>⟨v,H',J.os,J.bare,J.base,J.hok,rv,q⟩
 cases fl with
 | ret u=>
  obtain⟨v,σ',H',J,rv,q⟩:=hs
  exact fin J rv q
 | next=>
  obtain⟨σ',H',J,q⟩:=hs
  exact fin (v:=V.non) (u:=Value.none) J rfl q
 | brk=>
  obtain⟨_,_,_,q⟩:=hs
  exact False.elim q
 | cont=>
  obtain⟨_,_,_,q⟩:=hs
  exact False.elim q
section
variable {X:Cx}{x:Str}{p pos:Pos}{e:Expr}{es:List Expr}{t:TA}{id T:String}{r:List V->Hp->VK->Prop}
def tCB (r:List V->Hp->VK->Prop)(t:TA):TE:=fun σ H Q=>t σ H fun vs H1=>r vs H1 Q
theorem Zam (hc:ZbR X (.builtin id) r) (hg:Gl X x) (hm:X.mg x=none) (hv:bootBuiltins x=some (.builtin id)) (ha:PA X (e::es) t) (hn:x≠"__name__":=by decide) (hdb:(x == ("__debug__":Str))=false:=by decide)
  (he:starEach (e::es) X.env=(false,eval e X.env)::starEach es X.env:=by rfl) (hpl:(backTo pos (starEach es X.env)).any (·.1)=false:=by rfl):PE X (.Call (.Name x p) (e::es) [] pos) (tCB r t):=by
 intro pins s σ H Q I h
 refine YBo (Zeh I hg hm hv ?_ hn hdb)
 exact YCy (thn (ha pos pins s σ H _ I h) fun us s1 ⟨vs,H1,I1,r1,q1⟩=>hc pins s1 σ H1 vs us Q I1 r1 q1) he hpl
theorem Zbs (hc:ZbR X (.type T) r) (hg:Gl X x) (hm:X.mg x=none) (hv:bootBuiltins x=some (.type T)) (ha:PA X (e::es) t) (hn:x≠"__name__":=by decide) (hdb:(x == ("__debug__":Str))=false:=by decide)
  (he:starEach (e::es) X.env=(false,eval e X.env)::starEach es X.env:=by rfl) (hpl:(backTo pos (starEach es X.env)).any (·.1)=false:=by rfl):PE X (.Call (.Name x p) (e::es) [] pos) (tCB r t):=by
 intro pins s σ H Q I h
 refine YBo (Zeh I hg hm hv ?_ hn hdb)
 exact YDI (thn (ha pos pins s σ H _ I h) fun us s1 ⟨vs,H1,I1,r1,q1⟩=>hc pins s1 σ H1 vs us Q I1 r1 q1) he hpl
end
end L2
namespace HT
open PySem PyProof.Rows
section
open PySem.SeqAt
open PySem.AutoSeq1 (wpAny_loadPart')
open PySem.MeetsSeq PySem.MeetsSeq2 PySem.MeetsSeq3
end
section
variable {prog:Program}{w:World}{A:Around}{E:Q33}{s:Shared}
def sIx (n d:Nat):Option Int->Nat
 | none=>d
 | some v=>if v<0 then (v+(n:Int)).toNat else min v.toNat n
theorem sIx_none (n d:Nat):sIx n d none=d:=rfl
theorem sIx_nat (n d k:Nat):sIx n d (some (k:Int))=min k n:=by
 show (if (k:Int)<0 then ((k:Int)+(n:Int)).toNat else min (k:Int).toNat n)=min k n
 rw[YAX (by omega),Int.toNat_natCast]
theorem sIx_le (n d:Nat)(hd:d<=n)(o:Option Int):sIx n d o<=n:=by
 cases o with
 | none=>exact hd
 | some v=>
  show (if v<0 then (v+(n:Int)).toNat else min v.toNat n)<=n
  by_cases hv:v<0
  .rw[YAW hv];omega
  .rw[YAX hv];exact Nat.min_le_right _ _
theorem clip_eq (v:Int)(n d:Nat):(if v<0 then max (v+(n:Int)) 0 else min v (n:Int))=((sIx n d (some v):Nat):Int):=by
 show (if v<0 then max (v+(n:Int)) 0 else min v (n:Int))=(((if v<0 then (v+(n:Int)).toNat else min v.toNat n):Nat):Int)
 by_cases hv:v<0
 .simp only[YAW hv];omega
 .simp only[YAX hv];omega
end
end HT
namespace L2
open PySem PySem.Spec PyProof.Rows
abbrev TO:=St->Hp->(Option Int->Hp->Prop)->Prop
def PO (X:Cx)(e:Option Expr)(t:TO):Prop:=
 ∀(pins:List (Addr×Obj)) (s:Shared) (σ:St) (H:Hp) (Q:Option Int->Hp->Prop),Inv X pins σ H s->t σ H Q ->
  wpAny (model X.prog X.w) X.A (evalPart e X.env) (fun u s'=>∃o H',Inv X pins σ H' s'/\IsPart u o/\Q o H') X.xe s
def tNoPart:TO:=fun _ H Q=>Q none H
def ZlP (t:TE):TO:=fun σ H Q=>t σ H fun x H1=>∃i,x=.int i/\Q (some i) H1
section
variable {X:Cx}{e:Expr}{te:TE}{lo hi:Option Expr}{tl th:TO}{pos p2:Pos}
theorem Za7:PO X none tNoPart:=by
 intro pins s σ H Q I h
 rw[evalPart_none]
 exact YAH ⟨none,H,I,.none,h⟩
theorem ZaM (h:PE X e te):PO X (some e) (ZlP te):=by
 intro pins s σ H Q I hw
 rw[evalPart_some]
 refine thn (h pins s σ H _ I hw) fun u s1 ⟨x,H1,I1,r1,q1⟩=>?_
 obtain⟨i,rfl,q⟩:=q1
 obtain⟨t,rfl⟩:=r1
 exact⟨some i,H1,I1,.int i t,q⟩
def SlR (X:Cx)(r:V->Option Int->Option Int->Hp->VK->Prop):Prop:=
 ∀(pins:List (Addr×Obj)) (s:Shared) (σ:St) (H:Hp) (x:V) (v vl vu:Value) (lo hi:Option Int) (sl:Addr) (Q:VK),Inv X pins σ H s->RelV x v->s.heap.IsSliceOf sl vl vu .none->IsPart vl lo->IsPart vu hi->r x lo hi H Q ->
  ∃T id,typeLookup (.type T) "__getitem__"=pure (some (.builtin id))/\s.TypeIs v T/\wpAny (model X.prog X.w) X.A (getItem v (.ref sl)) (EP X pins σ Q) X.xe s
def tSl (r:V->Option Int->Option Int->Hp->VK->Prop)(te:TE)(tl th:TO):TE:=fun σ H Q=>te σ H fun x H1=>tl σ H1 fun l H2=>th σ H2 fun u H3=>r x l u H3 Q
theorem ZaK {r:V->Option Int->Option Int->Hp->VK->Prop}(hr:SlR X r)(he:PE X e te)(hl:PO X lo tl)(hu:PO X hi th):PE X (.Subscript e (.Slice lo hi none p2) pos) (tSl r te tl th):=by
 intro pins s σ H Q I h
 refine Subscript_ (thn (he pins s σ H _ I h) fun v s1 ⟨x,H1,I1,r1,q1⟩=>?_)
 refine wpAny_Slice (thn (hl pins s1 σ H1 _ I1 q1) fun vl s2 ⟨l,H2,I2,pl,q2⟩=>thn (hu pins s2 σ H2 _ I2 q2) fun vu s3 ⟨u,H3,I3,pu,q3⟩=>?_)
 rw[evalPart_none]
 refine YAH ?_
 have I4:Inv X pins σ H3 { s3 with heap:=s3.heap.push { cls:=.type "slice",data:=.fields #[vl,vu,.none] } }:=I3.kept (t':=s3.toks) fun b ob q=>YAC _ q
 obtain⟨T,id,hT,ht,hg⟩:=hr pins { s3 with heap:=s3.heap.push { cls:=.type "slice",data:=.fields #[vl,vu,.none] } } σ H3 x v vl vu l u s3.heap.objs.size Q I4 r1 (Heap.IsSliceOf.new ..) pl pu q3
 show wpAny (model X.prog X.w) X.A (subscriptTail e (.Slice lo hi none p2) v (.ref s3.heap.objs.size)) (EP X pins σ Q) X.xe { s3 with heap:=s3.heap.push { cls:=.type "slice",data:=.fields #[vl,vu,.none] } }
 exact tail_any (ops:=[.ref s3.heap.objs.size,v]) ht hT hg (by with_unfolding_all rfl)
def cutV (xs:List V)(lo hi:Option Int):List V:=(xs.drop (HT.sIx xs.length 0 lo)).take (HT.sIx xs.length xs.length hi-HT.sIx xs.length 0 lo)
theorem ZgA (xs:List V)(lo hi:Option Int):(cutV xs lo hi).length<=xs.length:=by
 unfold cutV
 rw[YAd,YAn]
 omega
end
end L2
namespace L2
open PySem PySem.Spec PyProof.Rows
def ixN (n:Nat)(i:Int):Option Nat:=if 0<=i then (if i<n then some i.toNat else none) else if -(n:Int)<=i then some (i+n).toNat else none
def atI {α:Type}(xs:List α)(i:Int):Option α:=(ixN xs.length i).bind fun j=>xs[j]?
theorem Zli {n:Nat}{i:Int}{j:Nat}(h:ixN n i=some j):seqIndex? i n=some j/\j<n/\-(n:Int)<=i/\i<n:=by
 unfold ixN at h
 by_cases h0:0<=i
 .rw[YAW h0]at h
  by_cases h1:i<n
  .rw[YAW h1]at h
   have e:i.toNat=j:=Option.some.inj h
   exact⟨by rw[seqIndex_of h0 h1,e],by omega,by omega,h1⟩
  .rw[YAX h1]at h;cases h
 .rw[YAX h0]at h
  by_cases h1:-(n:Int)<=i
  .rw[YAW h1]at h
   have e:(i+n).toNat=j:=Option.some.inj h
   exact⟨by rw[seqIndex_neg (by omega) h1,e],by omega,h1,by omega⟩
  .rw[YAX h1]at h;cases h
theorem ZgG {α:Type}{xs:List α}{i:Int}{v:α}(h:atI xs i=some v):∃j,seqIndex? i xs.length=some j/\xs[j]?=some v/\j<xs.length/\-(xs.length:Int)<=i/\i<xs.length:=by
 unfold atI at h
 cases e:ixN xs.length i with
 | none=>rw[e]at h;cases h
 | some j=>
  rw[e]at h
  obtain⟨h1,h2,h3,h4⟩:=Zli e
  exact⟨j,h1,h,h2,h3,h4⟩
theorem Zja {α:Type}{xs:List α}{j:Nat}{v:α}(h:xs[j]?=some v):atI xs (j:Int)=some v:=by
 have hj:j<xs.length:=(YAD.mp h).1
 have e:ixN xs.length (j:Int)=some j:=by
  unfold ixN
  rw[YAW (by omega),YAW (by omega)];simp
 unfold atI;rw[e];exact h
def ZlG (b:Expr):Prop:=∀o i,subscripted b false o i=operate [o,i] (getItem o i)
def IxR (X:Cx)(r:R2):Prop:=
 ∀(value slice:Expr) (pins:List (Addr×Obj)) (s:Shared) (σ:St) (H:Hp) (x y:V) (v u:Value) (Q:VK),Inv X pins σ H s->RelV x v->RelV y u->r x y H Q ->
  subscripted slice false v u=operate [v,u] (getItem v u)->wpAny (model X.prog X.w) X.A (subscriptTail value slice v u) (EP X pins σ Q) X.xe s
def MtR (X:Cx)(id:String)(r:V->List V->Hp->VK->Prop):Prop:=
 ∀(pins:List (Addr×Obj)) (s:Shared) (σ:St) (H:Hp) (x:V) (xs:List V) (v:Value) (us:List Value) (Q:VK),Inv X pins σ H s->RelV x v->Vals xs us->r x xs H Q ->
  wpAny (model X.prog X.w) X.A (call (.builtin id) (v::us)) (EP X pins σ Q) X.xe s
section
variable {X:Cx}{a b:Expr}{ta tb:TE}{pos:Pos}
theorem Zc9 {r:R2}(hr:IxR X r)(ha:PE X a ta)(hb:PE X b tb)(hs:ZlG b):PE X (.Subscript a b pos) (tOp r ta tb):=by
 intro pins s σ H Q I h
 exact Subscript_ (binT ha hb I h fun v u s2 x y H2 I2 rx ry q=>hr a b pins s2 σ H2 x y v u Q I2 rx ry q (hs _ _))
def rIxL (K:Q44):R2:=fun x y H Q=>∃p xs i v,x=.ref p/\y=.int i/\SqL K H p xs/\atI xs i=some v/\Q v H
def rIxT (K:Q44):R2:=fun x y H Q=>∃p xs i v,x=.ref p/\y=.int i/\SqT K H p xs/\atI xs i=some v/\Q v H
def rIxS:R2:=fun x y H Q=>∃z i c,x=.str z/\y=.int i/\z.length<=sizeLine/\atI z.cps.toList i=some c/\Q (.str ⟨#[c]⟩) H
theorem Zlh:IxR X (rIxL X.K):=by
 intro value slice pins s σ H x y v u Q I rx ry h hs
 obtain⟨p,xs,i,z,rfl,rfl,hq,he,q⟩:=h
 cases rx
 obtain⟨t,rfl⟩:=ry
 obtain⟨its,r,pl,hz⟩:=I.list hq
 obtain⟨j,h1,h2,h3,h4,h5⟩:=ZgG he
 obtain⟨w,ew,rw'⟩:=r.get h2
 have hl:=r.length
 have hn:=Zfy
 have fin:EP X pins σ Q w s:=⟨z,H,I,rw',q⟩
 by_cases h0:0<=i
 .have hj:i.toNat=j:=by
   rw[seqIndex_of h0 h5]at h1
   exact Option.some.inj h1
  exact item_listR pl.isList h0 (by omega) (by rw[hj];simpa using ew) fin hs
 .have hj:(i+(its.toArray.size:Int)).toNat=j:=by
   rw[seqIndex_neg (by omega) h4]at h1
   rw[YAP,<-hl]
   exact Option.some.inj h1
  exact subscriptTail_builtinR (x:=w) pl.isList.typeIs slot_list_getitem.lookup
   (wpAny_getItem_list_neg (Q:=fun r s'=>r=w/\EP X pins σ Q r s') pl.isList (by omega) (by rw[YAP]<;>omega) (by omega) (by rw[hj];simpa using ew) ⟨rfl,fin⟩) hs
theorem ZmO:IxR X (rIxT X.K):=by
 intro value slice pins s σ H x y v u Q I rx ry h hs
 obtain⟨p,xs,i,z,rfl,rfl,hq,he,q⟩:=h
 cases rx
 obtain⟨t,rfl⟩:=ry
 obtain⟨its,r,pl,hz⟩:=I.tuple hq
 obtain⟨j,h1,h2,h3,h4,h5⟩:=ZgG he
 obtain⟨w,ew,rw'⟩:=r.get h2
 have hl:=r.length
 have hn:=Zfy
 have fin:EP X pins σ Q w s:=⟨z,H,I,rw',q⟩
 exact subscriptTail_builtinR (x:=w) pl.typeIs slot_tuple_getitem.lookup
  (getItem_tuple (j:=j) (Q:=fun r s'=>r=w/\EP X pins σ Q r s') pl (by omega) (by omega) (by rw[YAP,<-hl];exact h1) (by simpa using ew) ⟨rfl,fin⟩) hs
theorem ZmP:IxR X rIxS:=by
 intro value slice pins s σ H x y v u Q I rx ry h hs
 obtain⟨z,i,c,rfl,rfl,hz,he,q⟩:=h
 obtain⟨t,rfl⟩:=rx
 obtain⟨t',rfl⟩:=ry
 obtain⟨j,h1,h2,h3,h4,h5⟩:=ZgG he
 have hl:z.cps.toList.length=z.length:=by simp[Str.length]
 rw[hl]at h1 h4 h5
 have hn:=Zfy
 exact tail_any (typeIs_str s z t) slot_str_getitem.lookup (getItem_str (c:=c) (by
  have e1:decide (i < -(2 ^ 63:Int))=false:=decide_eq_false (by omega)
  have e2:decide (i>=2 ^ 63)=false:=decide_eq_false (by omega)
  rw[e1,e2,Bool.or_false]) (by rw[h1];simpa using h2) ⟨.str ⟨#[c]⟩,H,I.tok _,⟨_,rfl⟩,q⟩) hs
theorem Zfd (lo hi:Option Int)(n:Nat):(sliceBounds lo hi none n).1=((HT.sIx n 0 lo:Nat):Int)/\(sliceBounds lo hi none n).2.1=((HT.sIx n n hi:Nat):Int)/\(sliceBounds lo hi none n).2.2=1:=by
 refine⟨?_,?_,rfl⟩
 .cases lo with
  | none=>simp[sliceBounds,HT.sIx]
  | some i=>
   simp only[sliceBounds,HT.sIx,Option.getD_none,show (1:Int)>0 by decide,if_true]
   by_cases h:i<0
   .simp only[h,if_true]<;>omega
   .simp only[h,if_false]<;>omega
 .cases hi with
  | none=>simp[sliceBounds,HT.sIx]
  | some i=>
   simp only[sliceBounds,HT.sIx,Option.getD_none,show (1:Int)>0 by decide,if_true]
   by_cases h:i<0
   .simp only[h,if_true]<;>omega
   .simp only[h,if_false]<;>omega
theorem Zeu (its:List Value)(lo hi:Option Int):slicePick its.toArray lo hi none=((its.drop (HT.sIx its.length 0 lo)).take (HT.sIx its.length its.length hi-HT.sIx its.length 0 lo)).toArray:=by
 obtain⟨h1,h2,h3⟩:=Zfd lo hi its.toArray.size
 unfold slicePick
 rw[h1,h2,h3]
 simp only[sliceRange_one,pick_run,YAP]<;>rfl
def rSlL (K:Q44):V->Option Int->Option Int->Hp->VK->Prop:=fun x lo hi H Q=>∃a xs,x=.ref a/\SqL K H a xs/\∀p,H p=none->Q (.ref p) (upd H p (.lst (cutV xs lo hi)))
theorem ZkH:SlR X (rSlL X.K):=by
 intro pins s σ H x v vl vu lo hi sl Q I rx hs pl pu h
 obtain⟨a,xs,rfl,hx,q⟩:=h
 cases rx
 obtain⟨its,r,ht,hz⟩:=I.list hx
 have hlen:=r.length
 refine⟨"list",_,slot_list_getitem.lookup,ht.isList.typeIs,?_⟩
 refine wpAny_getItem_list_slice ht.isList hs pl pu .none (by simp) ?_ (by rw[YAP]<;>omega)
 rw[Zeu,<-hlen]
 refine⟨.ref s.heap.objs.size,_,I.laid (t':=s.toks) (o:=.lst (cutV xs lo hi)) (fun b ob q=>YAC _ q) (YAJ _) ?_,rfl,q _ (I.hok.fresh (YAJ _))⟩
 exact⟨YAK (ZgA xs lo hi) hz,_,0,(r.drop (HT.sIx xs.length 0 lo)).take (HT.sIx xs.length xs.length hi-HT.sIx xs.length 0 lo),YAQ _ rfl⟩
def Zbm:V->Bool
 | .non=>true
 | .bl _=>true
 | .int _=>true
 | .str _=>true
 | _=>false
def eqV:V->V->Bool
 | .non,.non=>true
 | .bl a,.bl b=>a == b
 | .bl a,.int b=>(if a then 1 else 0) == b
 | .int a,.bl b=>a == (if b then 1 else 0)
 | .int a,.int b=>a == b
 | .str a,.str b=>a == b
 | _,_=>false
theorem Zkj {A:Around}{s:Shared}{y x:V}{u v:Value}(ry:RelV y u)(rx:RelV x v)(fy:Zbm y=true)(fx:Zbm x=true):SeqAt.EqAt A s u v (eqV y x):=by
 cases y with
 | non=>
  cases ry
  cases x with
  | non=>cases rx;exact SeqAt.EqAt.same _
  | bl b=>cases rx;exact SeqAt.EqAt.none_bool b
  | int b=>obtain⟨t,rfl⟩:=rx;exact SeqAt.EqAt.none_int b t
  | str b=>obtain⟨t,rfl⟩:=rx;exact SeqAt.EqAt.none_str b t
  | _=>exact absurd (show false=true from fx) YAF
 | bl a=>
  cases ry
  cases x with
  | non=>cases rx;exact SeqAt.EqAt.bool_none a
  | bl b=>cases rx;exact SeqAt.EqAt.bool_bool a b
  | int b=>obtain⟨t,rfl⟩:=rx;exact SeqAt.EqAt.bool_int a b t
  | str b=>obtain⟨t,rfl⟩:=rx;exact SeqAt.EqAt.bool_str a b t
  | _=>exact absurd (show false=true from fx) YAF
 | int a=>
  obtain⟨t',rfl⟩:=ry
  cases x with
  | non=>cases rx;exact SeqAt.EqAt.int_none a t'
  | bl b=>cases rx;exact SeqAt.EqAt.int_bool a t' b
  | int b=>obtain⟨t,rfl⟩:=rx;exact SeqAt.EqAt.int_int a t' b t
  | str b=>obtain⟨t,rfl⟩:=rx;exact SeqAt.EqAt.int_str a t' b t
  | _=>exact absurd (show false=true from fx) YAF
 | str a=>
  obtain⟨t',rfl⟩:=ry
  cases x with
  | non=>cases rx;exact SeqAt.EqAt.str_none a t'
  | bl b=>cases rx;exact SeqAt.EqAt.str_bool a t' b
  | int b=>obtain⟨t,rfl⟩:=rx;exact SeqAt.EqAt.str_int a t' b t
  | str b=>obtain⟨t,rfl⟩:=rx;exact SeqAt.EqAt.str_str a t' b t
  | _=>exact absurd (show false=true from fx) YAF
 | _=>exact absurd (show false=true from fy) YAF
def eqU (x:V)(u:Value):Bool:=match u with
 | .none=>eqV .non x
 | .bool b=>eqV (.bl b) x
 | .int i _=>eqV (.int i) x
 | .str z _=>eqV (.str z) x
 | _=>false
theorem Zki {x y:V}{u:Value}(r:RelV y u)(f:Zbm y=true):eqU x u=eqV y x:=by
 cases y with
 | non=>cases r;rfl
 | bl b=>cases r;rfl
 | int i=>obtain⟨t,rfl⟩:=r;rfl
 | str z=>obtain⟨t,rfl⟩:=r;rfl
 | _=>exact absurd (show false=true from f) YAF
theorem Zd3 {x:V}:∀ {xs:List V} {us:List Value},Vals xs us->xs.all Zbm=true->us.any (eqU x)=xs.any fun y=>eqV y x
 | _,_,.nil,_=>rfl
 | y::xs,u::us,.cons r t,f=>by
  rw[YDc,YAU]at f
  rw[YDb,YDb,Zki r f.1,Zd3 t f.2]
theorem ZcJ {A:Around}{s:Shared}{x:V}{v:Value}(rx:RelV x v)(fx:Zbm x=true):∀ {xs:List V} {us:List Value},Vals xs us->xs.all Zbm=true->∀u∈us,SeqAt.EqAt A s u v (eqU x u)
 | _,_,.nil,_=>fun u hu=>by cases hu
 | y::xs,u::us,.cons r t,f=>fun u' hu=>by
  rw[YDc,YAU]at f
  rcases YAY.mp hu with rfl | hu
  .rw[Zki r f.1];exact Zkj r rx f.1 fx
  .exact ZcJ rx fx t f.2 u' hu
def inV (x:V)(xs:List V):Bool:=xs.any fun y=>eqV y x
def rIn (K:Q44)(neg:Bool):R2:=fun x y H Q=>∃p xs,y=.ref p/\(SqL K H p xs\/SqT K H p xs)/\Zbm x=true/\xs.all Zbm=true/\Q (.bl (if neg then !inV x xs else inV x xs)) H
theorem Ziq:OpR X (compareOp .In) (rIn X.K false):=by
 intro pins s σ H x y v u Q I rx ry h
 obtain⟨p,xs,rfl,hq,fx,fs,q⟩:=h
 cases ry
 rcases hq with hq | hq
 .obtain⟨its,r,pl,hz⟩:=I.list hq
  refine SeqAt.in_listAt (eqU x) pl.isList (fun w hw=>ZcJ rx fx r fs w (by simpa using hw)) ⟨.bl _,H,I,rfl,?_⟩
  rw[show its.toArray.any (eqU x)=its.any (eqU x) by simp,Zd3 r fs]
  exact q
 .obtain⟨its,r,pl,hz⟩:=I.tuple hq
  refine SeqAt.in_tupleAt (eqU x) pl (fun w hw=>ZcJ rx fx r fs w (by simpa using hw)) ⟨.bl _,H,I,rfl,?_⟩
  rw[show its.toArray.any (eqU x)=its.any (eqU x) by simp,Zd3 r fs]
  exact q
theorem Zfl:OpR X (compareOp .NotIn) (rIn X.K true):=by
 intro pins s σ H x y v u Q I rx ry h
 obtain⟨p,xs,rfl,hq,fx,fs,q⟩:=h
 cases ry
 rcases hq with hq | hq
 .obtain⟨its,r,pl,hz⟩:=I.list hq
  refine SeqAt.notIn_listAt (eqU x) pl.isList (fun w hw=>ZcJ rx fx r fs w (by simpa using hw)) ⟨.bl _,H,I,rfl,?_⟩
  rw[show its.toArray.any (eqU x)=its.any (eqU x) by simp,Zd3 r fs]
  exact q
 .obtain⟨its,r,pl,hz⟩:=I.tuple hq
  refine SeqAt.notIn_tupleAt (eqU x) pl (fun w hw=>ZcJ rx fx r fs w (by simpa using hw)) ⟨.bl _,H,I,rfl,?_⟩
  rw[show its.toArray.any (eqU x)=its.any (eqU x) by simp,Zd3 r fs]
  exact q
theorem ZfW:ZbR X (.type "list") (fun xs H Q=>∃p ys,xs=[.ref p]/\(SqL X.K H p ys\/SqT X.K H p ys)/\∀l,H l=none->Q (.ref l) (upd H l (.lst ys))):=by
 intro pins s σ H xs us Q I r h
 obtain⟨p,ys,rfl,hq,q⟩:=h
 obtain⟨u,rfl,rx⟩:=vals1 r
 cases rx
 have fin:∀(its:List Value),Vals ys its->ys.length<=sizeLine->∀(h':Heap) (c':Nat),(∀b o',s.heap.get? b=some o'->h'.get? b=some o') ->
   h'.get? s.heap.objs.size=some { cls:=.type "list",dict:=none,data:=.seq its.toArray c',slots:=#[] }->EP X pins σ Q (.ref s.heap.objs.size) { s with heap:=h' }:=fun its r' hz h' c' kp e=>
  ⟨.ref s.heap.objs.size,_,I.laid (t':=s.toks) kp (YAJ _) (show ObjOk X.prog X.w _ h' _ (.lst ys) from⟨hz,its,c',r',e⟩),rfl,q _ (I.hok.fresh (YAJ _))⟩
 rcases hq with hq | hq
 .obtain⟨its,r',pl,hz⟩:=I.list hq
  have hlen:=r'.length
  obtain⟨o,ho,hc,n,hd⟩:=pl.isList
  exact call_list_seq p (.inl rfl) ho hc hd (fun h' c' kp e=>fin its r' hz h' c' kp e) (by simp only[YAP]<;>omega)
 .obtain⟨its,r',pl,hz⟩:=I.tuple hq
  have hlen:=r'.length
  obtain⟨o,ho,hc,n,hd⟩:=pl
  exact call_list_seq p (.inr rfl) ho hc hd (fun h' c' kp e=>fin its r' hz h' c' kp e) (by simp only[YAP]<;>omega)
def tyV (K:Q44)(T:String)(x:V)(H:Hp):Prop:=match x with
 | .str _=>T="str"
 | .int _=>T="int"
 | .ref p=>(T="list"/\∃xs,SqL K H p xs)\/(T="tuple"/\∃o,K.lookup p=some o/\o.cls=.type "tuple"/\o.dict=none) \/
   (T="dict"/\((∃kvs,H p=some (.dK kvs))\/∃kvs,H p=some (.dT kvs)))\/(T="set"/\∃S n,H p=some (.set S n))
 | _=>False
theorem ZlL {pins:List (Addr×Obj)}{σ:St}{H:Hp}{s:Shared}{T:String}{x:V}{v:Value}(I:Inv X pins σ H s)(r:RelV x v)(ty:tyV X.K T x H):
  s.TypeIs v T/\∀a,v=.ref a->∃ob,s.heap.get? a=some ob/\ob.dict=none:=by
 cases x with
 | str z=>
  obtain⟨t,rfl⟩:=r
  cases (show T="str" from ty)
  exact⟨typeIs_str s z t,fun _ e=>nomatch e⟩
 | int i=>
  obtain⟨t,rfl⟩:=r
  cases (show T="int" from ty)
  exact⟨typeIs_int s i t,fun _ e=>nomatch e⟩
 | ref p=>
  cases r
  rcases ty with⟨rfl,xs,hq⟩|⟨rfl,o,hk,hc,hd⟩|⟨rfl,hk⟩|⟨rfl,S,n,hk⟩
  .obtain⟨its,_,pl,_⟩:=I.list hq
   refine⟨pl.isList.typeIs,fun a e=>?_⟩
   cases e
   obtain⟨o,n,e,c,hd,_⟩:=pl
   exact⟨o,e,hd⟩
  .refine⟨⟨o,I.kIn p o hk,hc⟩,fun a e=>?_⟩
   cases e
   exact⟨o,I.kIn _ o hk,hd⟩
  .have z:∃o,s.heap.get? p=some o/\o.ExactDict:=by
    rcases hk with⟨kvs,hk⟩|⟨kvs,hk⟩
    .obtain⟨_,_,_,_,o,_,_,e,ex,_⟩:=I.hok p _ hk
     exact⟨o,e,ex⟩
    .obtain⟨_,_,_,_,o,_,_,e,ex,_⟩:=I.hok p _ hk
     exact⟨o,e,ex⟩
   obtain⟨o,e,ex⟩:=z
   refine⟨⟨o,e,ex.1⟩,fun a e2=>?_⟩
   cases e2
   exact⟨o,e,ex.2.1⟩
  .obtain⟨o,_,_,_,e,ex,_⟩:=I.hok p _ hk
   refine⟨⟨o,e,ex.1⟩,fun a e2=>?_⟩
   cases e2
   exact⟨o,e,ex.2.1⟩
 | _=>exact False.elim ty
def tBM0 (K:Q44)(T:String)(r:V->List V->Hp->VK->Prop)(to:TE):TE:=fun σ H Q=>to σ H fun x H1=>tyV K T x H1/\r x [] H1 Q
def tBM (K:Q44)(T:String)(r:V->List V->Hp->VK->Prop)(to:TE)(t:TA):TE:=fun σ H Q=>to σ H fun x H1=>tyV K T x H1/\t σ H1 fun xs H2=>r x xs H2 Q
variable {o e:Expr}{es:List Expr}{to:TE}{t:TA}{name:Str}{apos cpos:Pos}{T id:String}{r:V->List V->Hp->VK->Prop}
theorem Zfj (pa:PlainAttrs T) (slot:Slot T name id) (hty:typeOf (.builtin id)=pure (.type "method_descriptor")) (hm:MtR X id r) (ho:PE X o to) (ha:PA X (e::es) t)
  (hbase:attributeBase o name X.env (eval o X.env)=eval o X.env:=by rfl)
  (hfew:((backTo cpos (starEach (e::es) X.env)).all (fun x=>!x.1)&&(backToKw cpos (keywordEach [] X.env)).all (fun x=>x.1.isSome)
   && decide ((e::es).length+([]:List Keyword).length+(if ([]:List Keyword).isEmpty then 0 else 1)<30))=true:=by rfl)
  (hline:(apos.endLine == cpos.line)=true:=by rfl) (hs:starEach (e::es) X.env=(false,eval e X.env)::starEach es X.env:=by rfl) (hplain:(backTo cpos (starEach es X.env)).any (·.1)=false:=by rfl):
  PE X (.Call (.Attribute o name apos) (e::es) [] cpos) (tBM X.K T r to t):=by
 intro pins s σ H Q I h
 refine wpAny_Call_method_late hbase hfew hline rfl (thn (ho pins s σ H _ I h) fun v s1 ⟨x,H1,I1,r1,ty,q1⟩=>?_)
 obtain⟨h1,h2⟩:=ZlL I1 r1 ty
 refine⟨T,id,pa,slot,hty,h1,h2,?_⟩
 have hA:=ha cpos pins s1 σ H1 _ I1 q1
 rw[hs]at hA ⊢
 refine YCq (by show (false || (backTo cpos (starEach es X.env)).any (·.1))=false;rw[hplain]<;>rfl) (YDE ?_)
 exact thn hA fun us s2 ⟨vs,H2,I2,r2,q2⟩=>hm pins s2 σ H2 x vs v us Q I2 r1 r2 q2
end
def MtM (X:Cx)(id:String)(r:V->List V->Hp->VK->Prop):Prop:=
 ∀(pins:List (Addr×Obj)) (s:Shared) (σ:St) (H:Hp) (x:V) (xs:List V) (v:Value) (us:List Value) (Q:VK),Inv X pins σ H s->RelV x v->Vals xs us->r x xs H Q ->
  wpAny (model X.prog X.w) X.A (call (.builtin id) (v::us)) (EP X pins σ Q) X.xe s
theorem Vals.one:∀ {x:V} {us:List Value},Vals [x] us->∃u,us=[u]/\RelV x u
 | _,_,.cons r .nil=>⟨_,rfl,r⟩
theorem Vals.two:∀ {x y:V} {us:List Value},Vals [x,y] us->∃u v,us=[u,v]/\RelV x u/\RelV y v
 | _,_,_,.cons r (.cons q .nil)=>⟨_,_,rfl,r,q⟩
theorem Vals.eraseIdx:∀ {xs:List V} {us:List Value} (i:Nat),Vals xs us->Vals (xs.eraseIdx i) (us.eraseIdx i)
 | _,_,_,.nil=>.nil
 | _,_,0,.cons _ t=>t
 | _,_,i+1,.cons r t=>.cons r (Vals.eraseIdx i t)
theorem Vals.rep {xs:List V}{us:List Value}(h:Vals xs us):∀k:Nat,Vals (List.replicate k xs).flatten (List.replicate k us).flatten
 | 0=>.nil
 | k+1=>by
  rw[YCF,YCF,YDY,YDY]
  exact Vals.append h (Vals.rep h k)
theorem Zfz {α:Type}:∀(l:List α) (i:Nat),(l.eraseIdx i).length<=l.length
 | [],_=>YAJ _
 | _::_,0=>YCO _
 | _::r,i+1=>Nat.succ_le_succ (Zfz r i)
theorem foldl_rep (its:List Value):∀(k:Nat) (acc:List Value),
  List.foldl (fun x1 x2=>x1++x2) acc.toArray (List.replicate k its.toArray)=(acc++(List.replicate k its).flatten).toArray
 | 0,acc=>by simp
 | k+1,acc=>by
  have e:acc.toArray++its.toArray=(acc++its).toArray:=by simp
  have e2:(acc++its)++(List.replicate k its).flatten=acc++(List.replicate (k+1) its).flatten:=by
   rw[YCF,YDY,YBm]
  rw[<-e2,<-foldl_rep its k (acc++its),<-e,YCF,YCm]
section
variable {X:Cx}{pins:List (Addr×Obj)}{σ:St}{H:Hp}{s:Shared}{l b:Addr}{xs ys zs:List V}
theorem Inv.lset {its its':List Value}{n:Nat}{f:Array Value->Array Value}{t':Nat}(I:Inv X pins σ H s)(hH:H l=some (.lst xs))
  (e:s.heap.get? l=some { cls:=.type "list",data:=.seq its.toArray n }) (hf:f its.toArray=its'.toArray) (hv:Vals ys its') (hz:ys.length<=sizeLine):
  Inv X pins σ (upd H l (.lst ys)) { s with heap:=s.heap.update l (Obj.mapSeq f),toks:=t' }:=by
 have q:=PySem.IsL.update e f
 rw[hf]at q
 refine I.write (x:=l) (e:=l) (by rw[hH];exact trivial) (.inl rfl) (fun b' u hb hu=>(YBD s.heap (Obj.mapSeq f) (YAS hb)).trans hu) ⟨_,q⟩ ?_
 exact⟨hz,its',_,hv,q⟩
theorem Inv.lnew {its:List Value}{t':Nat}(I:Inv X pins σ H s)(hv:Vals ys its)(hz:ys.length<=sizeLine):
  Inv X pins σ (upd H s.heap.objs.size (.lst ys)) { s with heap:=s.heap.push { cls:=.type "list",data:=.seq its.toArray },toks:=t' }:=
 I.laid (fun _ _ q=>YAC _ q) (YAJ _) ⟨hz,its,0,hv,YAQ _ rfl⟩
theorem Inv.fresh (I:Inv X pins σ H s):H s.heap.objs.size=none:=I.hok.fresh (YAJ _)
theorem Inv.lstM (I:Inv X pins σ H s)(hH:H l=some (.lst xs)):xs.length<=sizeLine/\∃(its:List Value) (n:Nat),Vals xs its/\xs.length=its.length/\s.heap.get? l=some { cls:=.type "list",data:=.seq its.toArray n }:=by
 obtain⟨z,its,n,r,e⟩:=I.hok l _ hH
 exact⟨z,its,n,r,r.length,e⟩
theorem ZgY {n:Nat}(h:n<=sizeLine):Builtin.List.listTooLong n=false:=by
 unfold Builtin.List.listTooLong
 exact decide_eq_false (by omega)
end
section
variable {X:Cx}
def rAppend:V->List V->Hp->VK->Prop:=fun x vs H Q=>∃l xs y,x=.ref l/\vs=[y]/\H l=some (.lst xs)/\xs.length<sizeLine/\Q .non (upd H l (.lst (xs++[y])))
theorem Zbw:MtM X "list.append" rAppend:=by
 intro pins s σ H x vs v us Q I rx rv h
 obtain⟨l,xs,y,rfl,rfl,hH,hz,q⟩:=h
 cases rx
 obtain⟨u,rfl,ru⟩:=rv.one
 obtain⟨z,its,n,r,hl,e⟩:=I.lstM hH
 refine call_meets F.slot_list_append ⟨_,e,rfl⟩ F.entry_list_append (F.args_list_append_2 _ _) (PySem.list_append l its.toArray n u (by rw[YAP];omega)) ⟨e,?_⟩
 refine⟨.non,_,I.lset (its':=its++[u]) hH e (by simp) (r.append (.cons ru .nil)) ?_,rfl,q⟩
 rw[YAI,YAN]
 omega
def rExtend:V->List V->Hp->VK->Prop:=fun x vs H Q=>∃l b xs zs,x=.ref l/\vs=[.ref b]/\H l=some (.lst xs)/\H b=some (.lst zs)/\xs.length+zs.length<=sizeLine/\Q .non (upd H l (.lst (xs++zs)))
theorem Ziw:MtM X "list.extend" rExtend:=by
 intro pins s σ H x vs v us Q I rx rv h
 obtain⟨l,b,xs,zs,rfl,rfl,hH,hB,hz,q⟩:=h
 cases rx
 obtain⟨u,rfl,ru⟩:=rv.one
 cases ru
 obtain⟨z,its,n,r,hl,e⟩:=I.lstM hH
 obtain⟨z2,its2,n2,r2,hl2,e2⟩:=I.lstM hB
 have hsz:its.toArray.size+its2.toArray.size<=sizeLine:=by rw[YAP,YAP];omega
 have hlong:¬(!its.toArray.isEmpty&&Builtin.List.listTooLong (its.toArray.size+its2.toArray.size))=true:=by
  rw[ZgY hsz,YCI]
  exact YAF
 refine call_meets F.slot_list_extend ⟨_,e,rfl⟩ F.entry_list_extend (F.args_list_extend_2 _ _)
  (AutoSeq1.list_extend_list_list_0 l its.toArray n b its2.toArray n2 hlong (by rw[YAP];omega) (by omega)) ⟨e,e2,?_⟩
 refine⟨.non,_,I.lset (its':=its++its2) hH e (by simp) (r.append r2) ?_,rfl,q⟩
 rw[YAI]
 omega
def rPopAt:V->List V->Hp->VK->Prop:=fun x vs H Q=>∃l xs i k y,x=.ref l/\vs=[.int i]/\H l=some (.lst xs)/\-(2 ^ 63)<=i/\i<2 ^ 63/\seqIndex? i xs.length=some k/\xs[k]?=some y/\Q y (upd H l (.lst (xs.eraseIdx k)))
theorem ZjB:MtM X "list.pop" rPopAt:=by
 intro pins s σ H x vs v us Q I rx rv h
 obtain⟨l,xs,i,k,y,rfl,rfl,hH,h1,h2,hk,hy,q⟩:=h
 cases rx
 obtain⟨u,rfl,ru⟩:=rv.one
 obtain⟨t,rfl⟩:=ru
 obtain⟨z,its,n,r,hl,e⟩:=I.lstM hH
 obtain⟨w,hw,rw'⟩:=r.get hy
 refine call_meets F.slot_list_pop ⟨_,e,rfl⟩ F.entry_list_pop (F.args_list_pop_2 _ _)
  (MeetsSeq.list_pop_at l its.toArray n i t k w (fitsIndex_both h1 h2) (by rw[YAP,<-hl];exact hk) (by rw[<-YCQ];exact hw) (by rw[YAP];omega)) ⟨e,?_⟩
 refine⟨y,_,I.lset (its':=its.eraseIdx k) hH e ?_ (r.eraseIdx k) ?_,rw',q⟩
 .show its.toArray.eraseIdxIfInBounds k=(its.eraseIdx k).toArray
  rw[List.eraseIdxIfInBounds_toArray]
 .have:=Zfz xs k
  omega
def rCat:R2:=fun x y H Q=>∃l b xs zs,x=.ref l/\y=.ref b/\H l=some (.lst xs)/\H b=some (.lst zs)/\xs.length+zs.length<=sizeLine/\∀p,H p=none->Q (.ref p) (upd H p (.lst (xs++zs)))
theorem Zfo:OpR X (binaryOp .Add) rCat:=by
 intro pins s σ H x y v u Q I rx ry h
 obtain⟨l,b,xs,zs,rfl,rfl,hH,hB,hz,q⟩:=h
 cases rx
 cases ry
 obtain⟨z,its,n,r,hl,e⟩:=I.lstM hH
 obtain⟨z2,its2,n2,r2,hl2,e2⟩:=I.lstM hB
 refine PySem.P.add_list e e2 ?_ (by rw[YAP,YAP];omega)
 have ea:its.toArray++its2.toArray=(its++its2).toArray:=by simp
 rw[ea]
 exact⟨.ref _,_,I.lnew (t':=s.toks) (r.append r2) (by rw[YAI];omega),rfl,q _ I.fresh⟩
def rRep:R2:=fun x y H Q=>∃l k xs,x=.ref l/\y=.int k/\H l=some (.lst xs)/\-(2 ^ 63)<=k/\k<2 ^ 63/\xs.length*k.toNat<=sizeLine /\
 ∀p,H p=none->Q (.ref p) (upd H p (.lst (List.replicate k.toNat xs).flatten))
theorem len_rep {α:Type}(xs:List α)(k:Nat):(List.replicate k xs).flatten.length=k*xs.length:=by
 induction k with
 | zero=>simp
 | succ k ih=>rw[YCF,YDY,YAI,ih,Nat.succ_mul,Nat.add_comm]
theorem Zmu:OpR X (binaryOp .Mult) rRep:=by
 intro pins s σ H x y v u Q I rx ry h
 obtain⟨l,k,xs,rfl,rfl,hH,h1,h2,hz,q⟩:=h
 cases rx
 obtain⟨t,rfl⟩:=ry
 obtain⟨z,its,n,r,hl,e⟩:=I.lstM hH
 have hlen:its.toArray.size*k.toNat<=sizeLine:=by rw[YAP,<-hl];exact hz
 have hcap:¬its.toArray.size*k.toNat>(2 ^ 63-1)/8:=by
  have:(sizeLine:Nat)<=(2 ^ 63-1)/8:=by decide
  omega
 have hfit:¬(!Builtin.List.listFitsIndex k)=true:=by
  rw[fitsIndex_both h1 h2]
  exact YAF
 have hlong:¬Builtin.List.listTooLong (its.toArray.size*k.toNat)=true:=by
  rw[ZgY hlen]
  exact YAF
 have hnew:List.foldl (fun x1 x2=>x1++x2) #[] (List.replicate (if its.toArray.isEmpty=true then 0 else k.toNat) its.toArray)=(List.replicate k.toNat its).flatten.toArray:=by
  have f0:∀m:Nat,List.foldl (fun x1 x2=>x1++x2) #[] (List.replicate m its.toArray)=(List.replicate m its).flatten.toArray:=fun m=>by
   have:=foldl_rep its m []
   rw[YBX]at this
   exact this
  rw[f0]
  cases its with
  | nil=>simp
  | cons a r'=>rw[YAX (by simp)]
 refine wpAny_binaryOp_repeat_ref (T:="list") (U:="int") (by decide) ⟨_,e,rfl⟩ (fun s'=>typeIs_int s' k t) noFill_list_mul F.fills_int_mul F.slot_int_rmul repeat_list F.slot_int_index.lookup
  (call_meets F.slot_int_rmul (typeIs_int s k t) F.entry_int_rmul (F.args_int_rmul_2 _ _) (int___rmul___int_list k t l its.toArray n)
   ⟨e,rfl,⟨_,e,rfl⟩,call_meets F.slot_list_mul ⟨_,e,rfl⟩ F.entry_list_mul (F.args_list_mul_2 _ _) (AutoListH.list___mul___list_int_3 l its.toArray n k t hfit hcap hlong) ⟨e,?_⟩⟩)
 rw[hnew]
 exact⟨.ref _,_,I.lnew (t':=s.toks) (r.rep k.toNat) (by rw[len_rep,Nat.mul_comm];exact hz),rfl,q _ I.fresh⟩
end
section
variable {prog:Program}{w:World}{A:Around}{E:Q33}{s:Shared}
end
section
variable {X:Cx}
end
end L2
namespace Att
open PySem PySem.W PySem.Calls PyProof.Rows
theorem ZdR {P:Params}{h:Heap}:∀(ns:List Int) (vs:List Value),WellAll P h vs (ns.map WData.int)->IntsAre vs ns:=by
 intro ns
 induction ns with
 | nil=>
  intro vs w
  rw[YCz]at w
  cases w
  exact .nil
 | cons n ns ih=>
  intro vs w
  rw[YAj]at w
  cases w with
  | cons a b=>
   cases a
   exact .cons _ _ (ih _ b)
theorem Zid {l:OpenLaw}{n:Nat}(hn:l.most=some n){P:Params}{h:Heap}{args:List WData}{vals:List Value}
  (hpre:l.row.toRowW.claim.pre args=true) (hwl:WellAll P h vals args):
  ∃a vs ns,vals=[Value.ref a]/\args=[WData.list (ns.map WData.int)]/\h.get? a=some { cls:=.type "list",data:=.seq vs.toArray }/\IntsAre vs ns/\ns.length<=n:=by
 have hsh:WShape.hasAll [] args [.list .int]=true:=(pre_splitW hpre).1
 have hc:l.pre.holds [] { args:=args }=true:=(pre_splitW hpre).2
 obtain⟨d,r,rfl,h1,h2⟩:=hasAllW_cons hsh
 obtain rfl:=hasAllW_nil h2
 obtain⟨xs,rfl,h3⟩:=hasW_list h1
 obtain⟨ns,rfl⟩:=items_int h3
 have hlen:ns.length<=n:=by
  unfold OpenLaw.pre at hc
  have h4:(WTm.not (.lt (.lit (.int (n:Int))) (.len (.arg 0)))).holds [] { args:=[.list (ns.map .int)] }=true:=by
   have h4:=(holds_andW hc).1
   rw[hn]at h4
   exact h4
  have h5:=condW_of h4 (w_not (w_lt w_lit (w_len_list (w_arg rfl))))
  rw[YAB]at h5
  refine YDg fun q=>?_
  have q':(n:Int)<((ns.length:Nat):Int):=by omega
  first
   | (rw[decide_eq_true q']at h5;exact absurd h5 (by decide))
   | (simp at h5;omega)
 cases hwl with
 | cons w1 w2=>
  cases w2
  cases w1 with
  | list ho hall=>exact⟨_,_,ns,rfl,rfl,ho,ZdR ns _ hall,hlen⟩
theorem Zin (l:OpenLaw)(args:List WData):l.row.toRowW.claim.post args (.bool true) args=true:=
 postW_of (r:=l.row.toRowW) (X:=(true == true))
  (show WShape.has [] (.bool true) .bool=true by first | rfl | decide | simp[WShape.has,WShape.arms,WShape.armsAll])
  (show (WTm.eq .res (.lit (.bool true))).value [] { args:=args,res:=some (.bool true),after:=args }=some (.bool (true == true)) from w_eq_bool (w_res rfl) w_lit) rfl
theorem attach_call {l:OpenLaw}{n:Nat}{q:Program}{loose:List Str}{XP:(Str->Option Value)->Heap->Prop}{YP:World->Heap->Prop}{d:DefRec}
  (hn:l.most=some n) (hdf:d.params.defaults=[])
  (call:∀(w:World) (s₀ s₁:Shared) (mg mb:Str->Option Value) (fa:Addr) (o:Obj) (pm cd doc:Value) (a:Addr) (vs:List Value) (ns:List Int),
   Ground q loose [] XP w s₀ mg mb s₁.heap->YP w s₁.heap ->
   s₁.heap.get? fa=some o->o.data=.func (docDef d.name d.params d.body d.scope pm cd doc)->s₁.heap.CodeRec cd d.name->mg d.name=some (.ref fa) ->
   s₁.heap.get? a=some { cls:=.type "list",data:=.seq vs.toArray }->IntsAre vs ns->ns.length<=n->s₁.gens=#[] ->
   codeAny (model l.prog w) callerA (.call (.ref fa) ⟨[.ref a],[]⟩) (fun r s'=>r=.ok (.ret (.bool true))/\OldK s₁.heap s'.heap/\s'.os=s₁.os/\AllBare s'.gens) s₁):
  WalkO q loose XP YP l.row.toRowW d [] (fun f vs=>PySem.call f vs):=by
 intro w s₀ s₁ mg mb G Y fa o pm cd doc dV kV ho hd hcd hD hmg hg args vals as hpre hlay hrd hwl hlo
 obtain rfl:dV=.none:=Dflts.none hD hdf
 obtain rfl:kV=.none:=Dflts.noKw hD
 obtain⟨a,vs,ns,rfl,rfl,hobj,hints,hlen⟩:=Zid hn hpre hwl
 refine enter_call (codeAny_mono (call w s₀ s₁ mg mb fa o pm cd doc a vs ns G Y ho (fd_plain hd) hcd hmg hobj hints hlen hg) fun r s' hq=>?_)
 obtain⟨rfl,h2,h3,h4⟩:=hq
 exact⟨.inl ⟨.bool true,.bool true,[],rfl,fun _=>rfl,.bool true,Zin l _,fun _=>⟨List.Pairwise.nil,fun _ hm=>(nomatch hm)⟩⟩,h2,h3,h4⟩
section
variable {prog:Program}{w:World}{A:Around}{E:Q33}{s:Shared}{K:Frag}
def ledger (h:Heap)(L d:Addr):List (Addr×Obj):=(List.range h.objs.size).filterMap fun a=>if a=L\/a=d then none else (h.get? a).map fun o=>(a,o)
end
end Att
namespace L2
open PySem PySem.Spec PyProof.Rows
theorem Zdq:∀ {vs:List Value} {ns:List Int},IntsAre vs ns->Vals (ns.map V.int) vs
 | _,_,.nil=>.nil
 | _,_,.cons n t h=>.cons ⟨t,rfl⟩ (Zdq h)
def Only (H:Hp):Prop:=∀b,H b=none\/∃o xs,H b=some (.frz o (.lst xs))
theorem ZjG {P:Program}{w:World}{K:Q44}{mg mb:Str->Option Value}{CX:CXT}{k:Nat}{fa a:Addr}{fd:FuncData}{x:Str}{sp:Sp}{s₁:Shared}{vs:List Value}{ns:List Int}
  (KX:K.In s₁.heap) (hns:s₁.heap.Ns mainGlobals mg) (hb:s₁.heap.Ns builtinsNs mb) (hbb:∀x:Str,x≠"__name__"->mb x=bootBuiltins x) (hlim:s₁.heap.NoLimit) (hg:s₁.gens=#[])
  (ha:s₁.heap.get? a=some { cls:=.type "list",data:=.seq vs.toArray }) (hi:IntsAre vs ns) (hl:ns.length<=sizeLine) (hr:Room k callerA)
  (F:∀base:Heap,K.In base->base.Ns mainGlobals mg->FnOk P w K mg base CX k fa fd [x] sp) (hbind:∀(s:Shared) (u:Value),BindsTo s fd ⟨[u],[]⟩ [(x,u)])
  (hsp:∀H:Hp,Only H->SqL K H a (ns.map V.int)->sp [.ref a] H (fun v _=>v=.bl true) fun _ _ _=>False)
  (hCX:∀H e s',CX [] H s₁ (fun _ _ _=>False) e s'->False):
  codeAny (model P w) callerA (.call (.ref fa) ⟨[.ref a],[]⟩) (fun r s'=>r=.ok (.ret (.bool true))/\OldK s₁.heap s'.heap/\s'.os=s₁.os/\AllBare s'.gens) s₁:=by
 have rv:=Zdq hi
 have lenV:=hi.length
 have core:∀H:Hp,Only H->SqL K H a (ns.map V.int)->HOk P w H s₁.heap->(∀b,H b≠none->b=a)->(H a≠none->K.lookup a=none) ->
   codeAny (model P w) callerA (.call (.ref fa) ⟨[.ref a],[]⟩) (fun r s'=>r=.ok (.ret (.bool true))/\OldK s₁.heap s'.heap/\s'.os=s₁.os/\AllBare s'.gens) s₁:=by
  intro H hO hS hok hA hK
  have base_of:∀ {b:Addr} {o:Obj},s₁.heap.get? b=some o->H b=none->(hidT s₁.heap H).get? b=some o:=fun e n=>Zg4 e n
  have noA:∀ {b:Addr} {o:Obj} {es:Array DictEntry} {ep:Nat},s₁.heap.get? b=some o->o.data=.dict es ep->H b=none:=fun {b o es ep} e d=>by
   cases q:H b with
   | none=>rfl
   | some u=>
    have e':b=a:=hA b (by rw[q];simp)
    subst e'
    rw[ha]at e;cases e
    have d':Data.seq vs.toArray _=Data.dict es ep:=d
    cases d'
  have nsK:∀ {b:Addr} {m:Str->Option Value},s₁.heap.Ns b m->(hidT s₁.heap H).Ns b m:=fun {b m} ⟨o,es,ep,e,d,r⟩=>⟨o,es,ep,base_of e (noA e d),d,r⟩
  have hKb:K.In (hidT s₁.heap H):=fun b o e=>base_of (KX b o e) (by
   cases q:H b with
   | none=>rfl
   | some u=>
    have e':b=a:=hA b (by rw[q];simp)
    subst e'
    rw[hK (by rw[q];simp)]at e;cases e)
  have hM:Mod K mg (hidT s₁.heap H):=⟨hKb,nsK hns,⟨mb,nsK hb,hbb⟩,let ⟨mc,h1,h2⟩:=hlim;⟨mc,nsK h1,h2⟩⟩
  have e0:Env0 P w K mg (hidT s₁.heap H) callerA [] s₁ H:=⟨rfl,hM,fun b o e=>Ziu e,YBv (ZfF _ _),trivial,fun b hb=>absurd (show b∈([]:List Addr) from hb) (by simp),hok,.of_eq hg⟩
  refine codeAny_mono ((F _ hKb (nsK hns)).run callerA [] s₁ H ⟨[.ref a],[]⟩ [.ref a] [.ref a] _ _ hr e0 (hbind s₁ (.ref a)) (.cons rfl .nil) (hsp H hO hS)) fun r s' h=>?_
  cases r with
  | error e=>exact(hCX H e s' h).elim
  | ok fl=>
   cases fl with
   | next=>exact False.elim h
   | brk=>exact False.elim h
   | cont=>exact False.elim h
   | ret u=>
    obtain⟨v,H',os,bare,un,hok',r',q⟩:=h
    have q':v=.bl true:=q
    subst q'
    obtain rfl:u=Value.bool true:=r'
    refine⟨rfl,OldK.of_keep fun b o e=>?_,os,bare⟩
    cases q:H b with
    | none=>exact un.keep b o e q (by intro z;exact absurd (show b∈([]:List Addr) from z) (by simp)) (by simp)
    | some u=>
     rcases hO b with z | ⟨ob,xs,z⟩
     .rw[q]at z;cases z
     .have z2:=un.frzs b ob _ z
      obtain⟨e1,_⟩:=hok b _ z
      obtain⟨e2,_⟩:=hok' b _ z2
      rw[e]at e1;cases e1
      exact e2
 cases hk:K.lookup a with
 | some o=>
  have e:=KX a o hk
  rw[ha]at e
  cases e
  refine core (fun _=>none) (fun _=>.inl rfl) (.inr ⟨_,vs.toArray,_,hk,rfl,rfl,rfl,by rw[YAP,lenV];exact hl,by simpa using rv⟩) (fun b u z=>by have z':(none:Option HO)=some u:=z;cases z') (fun b z=>absurd rfl z) fun z=>absurd rfl z
 | none=>
  refine core (fun b=>if b=a then some (.frz { cls:=.type "list",data:=.seq vs.toArray } (.lst (ns.map V.int))) else none) (fun b=>?_) (.inl (.inr ⟨{ cls:=.type "list",data:=.seq vs.toArray },YAW rfl⟩)) (fun b u z=>?_) (fun b z=>?_) fun _=>hk
  .by_cases hb:b=a
   .exact .inr ⟨_,_,YAW hb⟩
   .exact .inl (YAX hb)
  .by_cases hb:b=a
   .have z':=(YAW hb).symm.trans z
    cases z'
    subst hb
    exact⟨ha,by rw[YAB];exact hl,vs,_,rv,ha⟩
   .have z':=(YAX hb).symm.trans z
    cases z'
  .by_cases hb:b=a
   .exact hb
   .exact absurd (YAX hb) z
end L2
namespace L2
open PySem PySem.Spec PyProof.Rows
abbrev KOf {K:Q44}{h:Heap}(_:K.In h):Q44:=K
theorem Zni {l:PySem.W.OpenLaw}{n k:Nat}{q:Program}{loose:List Str}{XP:(Str->Option Value)->Heap->Prop}{YP:World->Heap->Prop}{d:DefRec}{K:Params->Q44}{CX:World->CXT}{sp:World->Sp}{x:Str}
  (hn:l.most=some n) (hn2:n<=sizeLine) (hdf:d.params.defaults=[]) (hr:Room k callerA)
  (hY:∀(w:World) (h:Heap),YP w h->(K w.params).In h)
  (F:∀(w:World) (mg:Str->Option Value) (fa:Addr) (h:Heap),(K w.params).In h->h.Ns mainGlobals mg->mg d.name=some (.ref fa) ->
   ∃fd:FuncData,(∀(s:Shared) (u:Value),BindsTo s fd ⟨[u],[]⟩ [(x,u)]) /\
    ∀base:Heap,(K w.params).In base->base.Ns mainGlobals mg->FnOk l.prog w (K w.params) mg base (CX w) k fa fd [x] (sp w))
  (hsp:∀(w:World) (H:Hp) (a:Addr) (ns:List Int),ns.length<=n->Only H->SqL (K w.params) H a (ns.map V.int)->sp w [.ref a] H (fun v _=>v=.bl true) fun _ _ _=>False)
  (hCX:∀(w:World) (H:Hp) (s:Shared) (e:Value) (s':Shared),CX w [] H s (fun _ _ _=>False) e s'->False):
  PySem.W.WalkO q loose XP YP l.row.toRowW d [] (fun f vs=>PySem.call f vs):=by
 refine Att.attach_call hn hdf fun w s₀ s₁ mg mb fa o pm cd doc a vs ns G Y ho hd hcd hmg hobj hints hlen hg=>?_
 have KX:=hY w _ Y
 obtain⟨fd,hb,hF⟩:=F w mg fa _ KX G.T.g hmg
 exact ZjG KX G.T.g G.T.b G.T.builtins G.T.nolimit hg hobj hints (YAK hlen hn2) hr hF hb (fun H hO hS=>hsp w H a ns hlen hO hS) fun H e s'=>hCX w H s₁ e s'
def inClass (s:Stmt)(j:Nat):Stmt:=match s with
 | .ClassDef _ _ _ body _ _ _ _ _ _ _=>body.getD j (.Pass ⟨0,0,0,0⟩)
 | _=>.Pass ⟨0,0,0,0⟩
def Zb3 (s:Stmt):Arguments:=match s with
 | .FunctionDef _ a _ _ _ _ _ _ _ _=>a
 | _=>{ posonlyargs:=[],args:=[],vararg:=none,kwonlyargs:=[],kw_defaults:=[],kwarg:=none,defaults:=[] }
def Zbx (s:Stmt):List Stmt:=match s with
 | .FunctionDef _ _ b _ _ _ _ _ _ _=>b
 | _=>[]
def Zaj (s:Stmt):Scope:=match s with
 | .FunctionDef _ _ _ _ _ _ sc _ _ _=>sc
 | _=>{ kind:=.function,names:=[],isGenerator:=false,isCoroutine:=false }
abbrev CX0:CXT:=fun _ _ _ _ _ _=>False
abbrev E0:XK:=fun _ _ _=>False
theorem Zas {X:Cx}:Zb8 CX0 X E0:=fun _ _ _ _ _ _ _ h=>h.elim
structure Fun (K:Q44)(x qual:Str)(st:Stmt)(f:Addr)(fd:FuncData):Prop where
 ex:∃(oc:Value) (od:Option Addr) (kV doc pm:Value) (an:Option Addr) (cdv ct:Value) (osl:Array (Option Value)),
  fd=PySem.W.fnOf x qual (Zb3 st) (Zbx st) (Zaj st) .none kV doc pm an cdv ct/\K.lookup f=some ⟨oc,od,.func fd,osl⟩/\PySem.W.codeIn K cdv qual=true
 kp:PySem.W.keepIn K (.ref f)=true
section
variable {P:Program}{w:World}{K:Q44}{mg:Str->Option Value}{base:Heap}
theorem Fun.ok {x qual:Str}{st:Stmt}{f:Addr}{fd:FuncData}{N ps:List Str}{k:Nat}{sp:Sp}(F:Fun K x qual st f fd)(S:FnScope N ps (Zaj st))(len:∀vs H Q E,sp vs H Q E->vs.length=ps.length)
  (hbody:∀(cdv:Value) (A:Around) (outer:List Env) (s:Shared) (H:Hp) (vs:List V) (Q:VK) (E:XK),Room k (A.deeper (envOfC qual (Zaj st) s.heap.objs.size f cdv))->sp vs H Q E ->
   ∃t,PSs (cxOf CX0 P w K mg base N qual (Zaj st) f cdv A outer s H E).nox (Zbx st) t/\t { nx:=fun _ H'=>Q .non H',rt:=Q } (start N vs) H):FnOk P w K mg base CX0 (k+1) f fd ps sp:=by
 obtain⟨oc,od,kV,doc,pm,an,cdv,ct,osl,rfl,lk,hcd⟩:=F.ex
 refine Zlt lk hcd S len fun A outer s H vs Q E hr hsp=>?_
 obtain⟨t,h,q⟩:=hbody cdv A outer s H vs Q E hr hsp
 exact⟨t,h.nox,q⟩
theorem Fun.binds {x qual:Str}{st:Stmt}{f:Addr}{fd:FuncData}{ps:List Str}(F:Fun K x qual st f fd)
  (h:∀(kV doc pm:Value) (an:Option Addr) (cdv ct:Value) (us:List Value),us.length=ps.length->bindArgs (PySem.W.fnOf x qual (Zb3 st) (Zbx st) (Zaj st) .none kV doc pm an cdv ct) ⟨us,[]⟩=pure (ps.zip us)):Binds K fd ps []:=by
 obtain⟨oc,od,kV,doc,pm,an,cdv,ct,osl,rfl,lk,hcd⟩:=F.ex
 exact .all (h kV doc pm an cdv ct)
theorem Zkf {x qual:Str}{st:Stmt}{f:Addr}{oc:Value}{od an:Option Addr}{osl:Array (Option Value)}{kV doc pm cdv ct:Value}(l:K.lookup f=some ⟨oc,od,.func (PySem.W.fnOf x qual (Zb3 st) (Zbx st) (Zaj st) .none kV doc pm an cdv ct),osl⟩)
  (c:PySem.W.codeIn K cdv qual=true) (k:PySem.W.keepIn K (.ref f)=true):Fun K x qual st f (PySem.W.fnOf x qual (Zb3 st) (Zbx st) (Zaj st) .none kV doc pm an cdv ct):=⟨⟨oc,od,kV,doc,pm,an,cdv,ct,osl,rfl,l,c⟩,k⟩
end
theorem ZaH {A:Around}{k:Nat}(hr:Room k A):A.units+1<cLine:=YCj (Nat.add_le_add_left (by decide:1<=64) _) hr.units
theorem Zdt {n:Nat}(h:n<=1000):n<sizeLine:=YCj h (by decide)
section
variable {X:Cx}
theorem pv (i:Nat) {x:Str} {pos:Pos} (hN:X.N[i]?=some x:=by rfl) (hv:Vis X.env.scope x:=by first | exact Or.inl rfl | exact Or.inr (Or.inl rfl) | exact Or.inr (Or.inr rfl)) (hd:(x == ("__debug__":Str))=false:=by decide)
  (hcd:(x == ("__classdict__":Str))=false:=by decide):PE X (.Name x pos) (tVar i):=Zmp hN hv hd hcd
end
theorem iteF {A B:Prop}(h:B):if false=true then A else B:=by
 rw[YAX YAF]
 exact h
theorem iteT {A B:Prop}(h:A):if true=true then A else B:=by
 rw[YAW rfl]
 exact h
theorem ite2 {c A B:Prop}[Decidable c](h1:c->A)(h2:¬c->B):if c then A else B:=by
 by_cases h:c
 .rw[YAW h]
  exact h1 h
 .rw[YAX h]
  exact h2 h
def Same (H H':Hp):Prop:=∀b o,H b=some o->H' b=some o
theorem Same.refl (H:Hp):Same H H:=fun _ _ h=>h
theorem Same.trans {H H1 H2:Hp}(a:Same H H1)(b:Same H1 H2):Same H H2:=fun c o h=>b c o (a c o h)
theorem Same.free {H H':Hp}(e:Same H H'){l:Addr}(h:H' l=Option.none):H l=Option.none:=by
 cases q:H l with
 | none=>rfl
 | some o=>
  rw[e l o q]at h
  cases h
theorem Same.seq {K:Q44}{H H':Hp}{a:Addr}{xs:List V}(e:Same H H')(h:SqL K H a xs):SqL K H' a xs:=by
 rcases h with (h | ⟨o,h⟩) | h
 .exact .inl (.inl (e _ _ h))
 .exact .inl (.inr ⟨o,e _ _ h⟩)
 .exact .inr h
section
variable {κ:Type}[DecidableEq κ]
def valV (kvs:List (κ×V))(k:κ):Option V:=(kvs.find? fun kv=>decide (kv.1=k)).map (·.2)
def putK (kvs:List (κ×V))(k:κ)(v:V):List (κ×V):=
 if (kvs.any fun kv=>decide (kv.1=k))=true then kvs.map (fun kv=>if kv.1=k then (kv.1,v) else kv) else kvs++[(k,v)]
def Zm6 (kvs:List (κ×V))(k:κ):List (κ×V):=kvs.filter fun kv=>decide (kv.1≠k)
theorem ZaX {p:κ×V}{r:List (κ×V)}{k:κ}(e:p.1=k):valV (p::r) k=some p.2:=by simp[valV,YCn,e]
theorem Za0 {p:κ×V}{r:List (κ×V)}{k:κ}(e:¬p.1=k):valV (p::r) k=valV r k:=by simp[valV,YCn,e]
theorem ZbK (k:κ):∀kvs:List (κ×V),(kvs.any fun kv=>decide (kv.1=k))=(valV kvs k).isSome
 | []=>rfl
 | p::r=>by
  rw[YDb]
  by_cases e:p.1=k
  .simp only[ZaX e,decide_eq_true e,Bool.true_or,YDP]
  .rw[Za0 e,decide_eq_false e,Bool.false_or];exact ZbK k r
theorem ZgK (k j:κ)(y:V):∀kvs:List (κ×V),valV (kvs.map fun kv=>if kv.1=k then (kv.1,y) else kv) j=(valV kvs j).map fun x=>if j=k then y else x
 | []=>rfl
 | p::r=>by
  have ih:=ZgK k j y r
  rw[YAj]
  by_cases h:p.1=k
  .rw[YAW h]
   by_cases e:p.1=j
   .rw[ZaX (p:=(p.1,y)) e,ZaX e,YCN,YAW (e.symm.trans h)]
   .rw[Za0 (p:=(p.1,y)) e,Za0 e,ih]
  .rw[YAX h]
   by_cases e:p.1=j
   .rw[ZaX (p:=p) e,ZaX e,YCN,YAX (fun z=>h (e.trans z))]
   .rw[Za0 (p:=p) e,Za0 e,ih]
theorem Ze3 (k j:κ)(y:V):∀kvs:List (κ×V),valV kvs k=none->valV (kvs++[(k,y)]) j=if j=k then some y else valV kvs j
 | [],_=>by
  by_cases e:k=j
  .rw[YAW e.symm];exact ZaX (p:=(k,y)) e
  .rw[YAX (fun z=>e z.symm)];exact Za0 (p:=(k,y)) e
 | p::r,hn=>by
  rw[List.cons_append]
  have hk:¬p.1=k:=fun z=>by rw[ZaX z]at hn;cases hn
  rw[Za0 hk]at hn
  have ih:=Ze3 k j y r hn
  by_cases e:p.1=j
  .rw[ZaX e,ZaX e,YAX (fun z=>hk (e.trans z))]
  .rw[Za0 e,Za0 e,ih]
theorem ZaS (kvs:List (κ×V))(k j:κ)(y:V):valV (putK kvs k y) j=if j=k then some y else valV kvs j:=by
 unfold putK
 by_cases a:(kvs.any fun kv=>decide (kv.1=k))=true
 .rw[YAW a,ZgK]
  rw[ZbK]at a
  by_cases e:j=k
  .obtain⟨x,hx⟩:=YDU.mp a
   rw[YAW e,e,hx,YCN,YAW rfl]
  .rw[YAX e]
   cases valV kvs j with
   | none=>rfl
   | some x=>rw[YCN,YAX e]
 .rw[YAX a]
  refine Ze3 k j y kvs ?_
  rw[ZbK]at a
  cases q:valV kvs k with
  | none=>rfl
  | some x=>rw[q]at a;exact(a rfl).elim
theorem ZaE (kvs:List (κ×V))(k:κ)(v:V):(putK kvs k v).length<=kvs.length+1:=by
 unfold putK
 split
 .rw[YAB];omega
 .rw[YAI,YAf,YCl];omega
theorem Zdd {kvs:List (κ×V)}{k:κ}(v:V)(h:valV kvs k=none):putK kvs k v=kvs++[(k,v)]:=by
 unfold putK
 rw[ZbK,h]
 exact YAX (by decide)
theorem RelO.isSome_eq {o:Option V}{u:Option Value}(r:RelO o u):o.isSome=u.isSome:=by
 cases o with
 | none=>cases u with
  | none=>rfl
  | some _=>exact(show False from r).elim
 | some _=>cases u with
  | none=>exact(show False from r).elim
  | some _=>rfl
theorem RelO.getD {o:Option V}{u:Option Value}{d:V}{d':Value}(r:RelO o u)(rd:RelV d d'):RelV (o.getD d) (u.getD d'):=by
 cases o with
 | none=>cases u with
  | none=>exact rd
  | some _=>exact(show False from r).elim
 | some _=>cases u with
  | none=>exact(show False from r).elim
  | some _=>exact r
theorem KV.val {kvs:List (κ×V)}{vs:List (κ×Value)}(r:KV kvs vs)(k:κ):RelO (valV kvs k) (valueAt vs k):=by
 unfold KV at r
 induction r with
 | nil=>exact True.intro
 | @cons p q ps qs h t ih=>
  obtain⟨h1,h2⟩:=h
  by_cases e:p.1=k
  .have e':q.1=k:=h1.symm.trans e
   have b:valueAt (q::qs) k=some q.2:=by simp[valueAt,YCn,e']
   rw[ZaX e,b];exact h2
  .have e':¬q.1=k:=fun z=>e (h1.trans z)
   have b:valueAt (q::qs) k=valueAt qs k:=by simp[valueAt,YCn,e']
   rw[Za0 e,b];exact ih
theorem KV.any {kvs:List (κ×V)}{vs:List (κ×Value)}(r:KV kvs vs)(k:κ):(kvs.any fun kv=>decide (kv.1=k))=vs.any fun kv=>decide (kv.1=k):=by
 unfold KV at r
 induction r with
 | nil=>rfl
 | cons h t ih=>rw[YDb,YDb,ih,h.1]
theorem KV.repl {kvs:List (κ×V)}{vs:List (κ×Value)}(r:KV kvs vs)(k:κ){y:V}{u:Value}(ry:RelV y u):
  KV (kvs.map fun kv=>if kv.1=k then (kv.1,y) else kv) (vs.map fun kv=>if kv.1=k then (kv.1,u) else kv):=by
 unfold KV at r ⊢
 induction r with
 | nil=>exact .nil
 | @cons p q ps qs h t ih=>
  rw[YAj,YAj]
  refine .cons ?_ ih
  obtain⟨h1,h2⟩:=h
  by_cases e:p.1=k
  .rw[YAW e,YAW (h1.symm.trans e)];exact⟨h1,ry⟩
  .rw[YAX e,YAX (fun z=>e (h1.trans z))];exact⟨h1,h2⟩
theorem KV.put {kvs:List (κ×V)}{vs:List (κ×Value)}(r:KV kvs vs)(k:κ){y:V}{u:Value}(ry:RelV y u):KV (putK kvs k y) (stored vs k u):=by
 unfold putK stored
 rw[r.any k]
 by_cases e:(vs.any fun kv=>decide (kv.1=k))=true
 .rw[YAW e,YAW e];exact r.repl k ry
 .rw[YAX e,YAX e];exact Paired.snoc r ⟨rfl,ry⟩
theorem KV.drop {kvs:List (κ×V)}{vs:List (κ×Value)}(r:KV kvs vs)(k:κ):KV (Zm6 kvs k) (without vs k):=by
 unfold KV at r ⊢
 unfold Zm6 without
 induction r with
 | nil=>exact .nil
 | @cons p q ps qs h t ih=>
  obtain⟨h1,h2⟩:=h
  rw[YBz,YBz]
  by_cases e:p.1=k
  .have a:¬decide (p.1≠k)=true:=by simp[e]
   have b:¬decide (q.1≠k)=true:=by simp[h1.symm.trans e]
   rw[YAX a,YAX b];exact ih
  .have e':¬q.1=k:=fun z=>e (h1.trans z)
   have a:decide (p.1≠k)=true:=by simp[e]
   have b:decide (q.1≠k)=true:=by simp[e']
   rw[YAW a,YAW b];exact .cons ⟨h1,h2⟩ ih
theorem KV.keys {kvs:List (κ×V)}{vs:List (κ×Value)}(r:KV kvs vs):kvs.map (·.1)=vs.map (·.1):=by
 unfold KV at r
 induction r with
 | nil=>rfl
 | cons h t ih=>rw[YAj,YAj,ih,h.1]
theorem KV.length {kvs:List (κ×V)}{vs:List (κ×Value)}(r:KV kvs vs):kvs.length=vs.length:=Paired.length r
end
theorem Zd9 {P:Program}{w:World}{k:Key}{u:Value}(r:RelV (kV k) u):(Zax P w).is k u=true:=by
 cases k with
 | inl i=>obtain⟨t,e⟩:=(show ∃t,u=Value.int i t from r);subst e;exact Zgk P w i t
 | inr x=>obtain⟨t,e⟩:=(show ∃t,u=Value.str x t from r);subst e;exact ZdG P w x t
theorem ZfD {P:Program}{w:World}:∀ {ks:List Key} {us:List Value},Vals (ks.map kV) us->ItemsAre (Zax P w) ks us
 | [],_,r=>by rw[YCz]at r;cases r;exact .nil
 | k::ks,_,r=>by
  rw[YAj]at r
  cases r with
  | cons h t=>exact .cons (Zd9 h) (ZfD t)
abbrev KT (H:Hp):List (List Key×V)->List (List Key×Addr×Value)->Prop:=Paired fun p q=>p.1=q.1/\H q.2.1=some (.tup (p.1.map kV))/\RelV p.2 q.2.2
theorem KT.val {H:Hp}{kvs:List (List Key×V)}{xs:List (List Key×Addr×Value)}(r:KT H kvs xs)(k:List Key):RelO (valV kvs k) ((atKey xs k).map (·.2)):=by
 induction r with
 | nil=>exact True.intro
 | @cons p q ps qs h t ih=>
  obtain⟨h1,_,h2⟩:=h
  by_cases e:p.1=k
  .have e':q.1=k:=h1.symm.trans e
   have b:atKey (q::qs) k=some q.2:=by simp[atKey,YCn,e']
   rw[ZaX e,b];exact h2
  .have e':¬q.1=k:=fun z=>e (h1.trans z)
   have b:atKey (q::qs) k=atKey qs k:=by simp[atKey,YCn,e']
   rw[Za0 e,b];exact ih
theorem KT.repl {H:Hp}{kvs:List (List Key×V)}{xs:List (List Key×Addr×Value)}(r:KT H kvs xs)(k:List Key){y:V}{u:Value}(ry:RelV y u):
  KT H (kvs.map fun kv=>if kv.1=k then (kv.1,y) else kv) (xs.map (putAt k u)):=by
 induction r with
 | nil=>exact .nil
 | @cons p q ps qs h t ih=>
  rw[YAj,YAj]
  refine .cons ?_ ih
  obtain⟨h1,h2,h3⟩:=h
  unfold putAt
  by_cases e:p.1=k
  .rw[YAW e,YAW (h1.symm.trans e)];exact⟨h1,h2,ry⟩
  .rw[YAX e,YAX (fun z=>e (h1.trans z))];exact⟨h1,h2,h3⟩
theorem KT.put {H:Hp}{kvs:List (List Key×V)}{xs:List (List Key×Addr×Value)}(r:KT H kvs xs)(k:List Key){b:Addr}{y:V}{u:Value}(hb:H b=some (.tup (k.map kV)))(ry:RelV y u):
  KT H (putK kvs k y) (storedH xs k b u):=by
 have e:(kvs.any fun kv=>decide (kv.1=k))=(atKey xs k).isSome:=by
  rw[ZbK,(r.val k).isSome_eq,Option.isSome_map]
 unfold putK storedH
 rw[e]
 by_cases q:(atKey xs k).isSome=true
 .rw[YAW q,YAW q];exact r.repl k ry
 .rw[YAX q,YAX q];exact Paired.snoc r ⟨rfl,hb,ry⟩
theorem KT.keeps {H H':Hp}{kvs:List (List Key×V)}{xs:List (List Key×Addr×Value)}(r:KT H kvs xs)(ht:∀b ys,H b=some (.tup ys)->H' b=some (.tup ys)):KT H' kvs xs:=
 Paired.mapP r fun _ _ z=>⟨z.1,ht _ _ z.2.1,z.2.2⟩
section
variable {P:Program}{w:World}{H:Hp}{h:Heap}{a:Addr}
theorem Zmg {u:HO}(ok:HOk P w H h)(e:Rd H a u):ObjOk P w H h a u:=e.ok ok
theorem ZeU {kvs:List (Key×V)}(ok:HOk P w H h)(e:Rd H a (.dK kvs)):kvs.length<=sizeLine/\(a == sysModules)=false/\∃vs,KV kvs vs/\h.DictOf (Zax P w) a vs:=
 show ObjOk P w H h a (.dK kvs) from Zmg ok e
theorem ZfM {kvs:List (Key×V)}(ok:HOk P w H h)(e:H a=some (.dK kvs)):kvs.length<=sizeLine/\(a == sysModules)=false/\∃vs,KV kvs vs/\h.DictOf (Zax P w) a vs:=ZeU ok (.inl e)
theorem ZdN {ks:List Key}(ok:HOk P w H h)(e:H a=some (.tup (ks.map kV))):(tupleKind (Zax P w)).is h ks a:=by
 obtain⟨_,its,r,o,h1,h2,n,h3⟩:=(show ObjOk P w H h a (.tup (ks.map kV)) from ok a _ e)
 exact⟨o,its.toArray,n,h1,h2,h3,by simpa using ZfD r⟩
theorem ZfL {kvs:List (List Key×V)}(ok:HOk P w H h)(e:Rd H a (.dT kvs)):kvs.length<=sizeLine/\(a == sysModules)=false /\
  ∃xs,KT H kvs xs/\h.DictOfH (tupleKind (Zax P w)) a xs:=by
 obtain⟨z,y,xs,r,o,es,ep,h1,h2,h3,h4,h5⟩:=(show ObjOk P w H h a (.dT kvs) from Zmg ok e)
 refine⟨z,y,xs,r,o,es,ep,h1,h2,h3,h4,fun x hx=>?_,h5⟩
 have all:∀ {l:List (List Key×V)} {m:List (List Key×Addr×Value)},KT H l m->∀x∈m,(tupleKind (Zax P w)).is h x.1 x.2.1:=by
  intro l m q
  induction q with
  | nil=>intro x hx;exact nomatch hx
  | @cons p q ps qs hq t ih=>
   intro x hx
   rcases YAY.mp hx with e | hx
   .subst e
    exact ZdN ok (by rw[<-hq.1];exact hq.2.1)
   .exact ih x hx
 exact all r x hx
theorem Zpa {kvs:List (List Key×V)}(ok:HOk P w H h)(e:H a=some (.dT kvs)):kvs.length<=sizeLine/\(a == sysModules)=false /\
  ∃xs,KT H kvs xs/\h.DictOfH (tupleKind (Zax P w)) a xs:=ZfL ok (.inl e)
end
def DGet (H:Hp)(a:Addr)(y:V)(r:Option V):Prop:=
 (∃kvs k,Rd H a (.dK kvs)/\y=kV k/\r=valV kvs k)\/∃kvs k b,Rd H a (.dT kvs)/\y=.ref b/\H b=some (.tup (k.map kV))/\r=valV kvs k
def DPut (H:Hp)(a:Addr)(y v:V)(H':Hp):Prop:=
 (∃kvs k,H a=some (.dK kvs)/\y=kV k/\kvs.length<sizeLine/\H'=upd H a (.dK (putK kvs k v))) \/
 ∃kvs k b,H a=some (.dT kvs)/\y=.ref b/\H b=some (.tup (k.map kV))/\kvs.length<sizeLine/\H'=upd H a (.dT (putK kvs k v))
theorem DGet.k {H:Hp}{a:Addr}{kvs:List (Key×V)}{k:Key}(e:H a=some (.dK kvs)):DGet H a (kV k) (valV kvs k):=.inl ⟨kvs,k,.inl e,rfl,rfl⟩
theorem DGet.t {H:Hp}{a b:Addr}{kvs:List (List Key×V)}{k:List Key}(e:H a=some (.dT kvs))(eb:H b=some (.tup (k.map kV))):DGet H a (.ref b) (valV kvs k):=.inr ⟨kvs,k,b,.inl e,rfl,eb,rfl⟩
theorem DPut.k {H:Hp}{a:Addr}{kvs:List (Key×V)}{k:Key}{v:V}(e:H a=some (.dK kvs))(hl:kvs.length<sizeLine):DPut H a (kV k) v (upd H a (.dK (putK kvs k v))):=.inl ⟨kvs,k,e,rfl,hl,rfl⟩
theorem DPut.t {H:Hp}{a b:Addr}{kvs:List (List Key×V)}{k:List Key}{v:V}(e:H a=some (.dT kvs))(eb:H b=some (.tup (k.map kV)))(hl:kvs.length<sizeLine):
  DPut H a (.ref b) v (upd H a (.dT (putK kvs k v))):=.inr ⟨kvs,k,b,e,rfl,eb,hl,rfl⟩
section
variable {X:Cx}{pins:List (Addr×Obj)}{σ:St}{H:Hp}{s:Shared}{a:Addr}{y v:V}{u r:Value}{o:Option V}{A:Around}{E:Q33}
theorem Inv.big (I:Inv X pins σ H s):sysModules<s.heap.objs.size:=by
 have h:mainGlobals<s.heap.objs.size:=(I.mod.glob.keeps I.bk).lt
 exact Nat.lt_trans (by decide) h
theorem ZfS {Q:Q33}(hu:A.units+1<cLine)(I:Inv X pins σ H s)(g:DGet H a y (some v))(ry:RelV y u)(h:∀w' s',Inv X pins σ H s'->RelV v w'->Q w' s'):
  wpAny (model X.prog X.w) A (getItem (.ref a) u) Q E s:=by
 rcases g with⟨kvs,k,e,ey,l⟩|⟨kvs,k,b,e,ey,eb,l⟩
 .subst ey
  obtain⟨z,hd,vs,rel,dd⟩:=ZeU I.hok e
  obtain⟨w',hw,rw'⟩:=RelO.some_of (v:=v) (o:=valueAt vs k) (by rw[l];exact rel.val k)
  exact wpAny_getItem_of (Zd9 ry) dd.mapOf hw (h w' _ (I.tok _) rw')
 .subst ey
  cases (show u=Value.ref b from ry)
  obtain⟨z,hd,xs,rel,dd⟩:=ZfL I.hok e
  obtain⟨w',hw,rw'⟩:=RelO.some_of (v:=v) (o:=(atKey xs k).map (·.2)) (by rw[l];exact rel.val k)
  obtain⟨p,hp,hp2⟩:=Option.map_eq_some_iff.mp hw
  refine wpAny_getItem_heap (tupleKind_room_in1 hu) (ZdN I.hok eb) dd hp ?_
  rw[hp2]
  exact h w' _ (I.tok _) rw'
theorem d_in {Q:Q33}(hu:A.units+1<cLine)(I:Inv X pins σ H s)(g:DGet H a y o)(ry:RelV y u)(h:∀s',Inv X pins σ H s'->Q (.bool o.isSome) s'):
  wpAny (model X.prog X.w) A (compareOp .In u (.ref a)) Q E s:=by
 rcases g with⟨kvs,k,e,ey,l⟩|⟨kvs,k,b,e,ey,eb,l⟩
 .subst ey
  obtain⟨z,hd,vs,rel,dd⟩:=ZeU I.hok e
  refine wpAny_in_of (Zd9 ry) hd dd.mapOf ?_
  rw[<-(rel.val k).isSome_eq,<-l]
  exact h _ (I.tok _)
 .subst ey
  cases (show u=Value.ref b from ry)
  obtain⟨z,hd,xs,rel,dd⟩:=ZfL I.hok e
  refine wpAny_in_heap (tupleKind_room_in1 hu) (ZdN I.hok eb) hd dd ?_
  have q:=(rel.val k).isSome_eq
  rw[Option.isSome_map]at q
  rw[<-q,<-l]
  exact h _ (I.tok _)
theorem Zly {Q:Q33}(hu:A.units+1<cLine)(I:Inv X pins σ H s)(g:DGet H a y o)(ry:RelV y u)(h:∀s',Inv X pins σ H s'->Q (.bool (!o.isSome)) s'):
  wpAny (model X.prog X.w) A (compareOp .NotIn u (.ref a)) Q E s:=by
 rcases g with⟨kvs,k,e,ey,l⟩|⟨kvs,k,b,e,ey,eb,l⟩
 .subst ey
  obtain⟨z,hd,vs,rel,dd⟩:=ZeU I.hok e
  refine wpAny_notIn_of (Zd9 ry) hd dd.mapOf ?_
  rw[<-(rel.val k).isSome_eq,<-l]
  exact h _ (I.tok _)
 .subst ey
  cases (show u=Value.ref b from ry)
  obtain⟨z,hd,xs,rel,dd⟩:=ZfL I.hok e
  refine wpAny_notIn_heap (tupleKind_room_in1 hu) (ZdN I.hok eb) hd dd ?_
  have q:=(rel.val k).isSome_eq
  rw[Option.isSome_map]at q
  rw[<-q,<-l]
  exact h _ (I.tok _)
theorem ZdW {h':Heap}{t':Nat}{ob:HO}(I:Inv X pins σ H s)(mu:Mut (H a))(hs:Heap.SameBut a s.heap h')(he:∃q,h'.get? a=some q)(new:ObjOk X.prog X.w (upd H a ob) h' a ob):
  Inv X pins σ (upd H a ob) { s with heap:=h',toks:=t' }:=
 I.write (x:=a) (e:=a) mu (.inl rfl) (fun b q hb z=>(hs.2 b hb).trans z) he new
theorem ZfN {P:Program}{w:World}{H':Hp}{h':Heap}{kvs:List (Key×V)}{vs:List (Key×Value)}(z:kvs.length<=sizeLine)(hd:(a == sysModules)=false)(rel:KV kvs vs)(dd:h'.DictOf (Zax P w) a vs):
  ObjOk P w H' h' a (.dK kvs):=⟨z,hd,vs,rel,dd⟩
theorem ZfR {H':Hp}{Q:Unit->Shared->Prop}(hu:A.units+1<cLine)(I:Inv X pins σ H s)(g:DPut H a y v H')(ry:RelV y u)(rv:RelV v r)(h:∀s',Inv X pins σ H' s'->Q () s'):
  wpAny (model X.prog X.w) A (setItem (.ref a) u r) Q E s:=by
 rcases g with⟨kvs,k,e,ey,l,eH⟩|⟨kvs,k,b,e,ey,eb,l,eH⟩
 .subst ey eH
  obtain⟨z,hd,vs,rel,dd⟩:=ZfM I.hok e
  have hz:vs.length<=sizeLine:=by rw[<-rel.length];exact z
  have hl:(putK kvs k v).length<=sizeLine:=by have:=ZaE kvs k v;omega
  refine wpAny_setItem_pairs (hsz:=hz) (Zd9 ry) dd fun h' dd' hs=>h _ ?_
  have he:∃q,h'.get? a=some q:=let ⟨q,_,_,hq,_⟩:=dd';⟨q,hq⟩
  exact ZdW I (by rw[e];exact True.intro) hs he (ZfN hl hd (rel.put k rv) dd')
 .subst ey eH
  cases (show u=Value.ref b from ry)
  obtain⟨z,hd,xs,rel,dd⟩:=Zpa I.hok e
  have hz:xs.length<=sizeLine:=by rw[<-Paired.length rel];exact z
  have hl:(putK kvs k v).length<=sizeLine:=by have:=ZaE kvs k v;omega
  refine wpAny_setItem_heap (hsz:=hz) (tupleKind_room_in1 hu) (ZdN I.hok eb) dd fun h' dd' hs=>h _ ?_
  obtain⟨q,es,ep,hq,h2,h3,h4,_,h5⟩:=dd'
  refine ZdW I (by rw[e];exact True.intro) hs ⟨q,hq⟩ ⟨hl,hd,_,(rel.put k eb rv).keeps fun c ys ec=>?_,q,es,ep,hq,h2,h3,h4,h5⟩
  rw[Zaf (Zo5 ec e (fun z=>nomatch z))]
  exact ec
end
section
variable {X:Cx}{pins:List (Addr×Obj)}{σ:St}{H:Hp}{s:Shared}{a:Addr}{kvs:List (Key×V)}{k:Key}{u:Value}{A:Around}{E:Q33}
theorem Zpc {Q:Q33}(I:Inv X pins σ H s)(e:Rd H a (.dK kvs))(h:∀t s',Inv X pins σ H s'->Q (.int kvs.length t) s'):wpAny (model X.prog X.w) A (call (.builtin "len") [.ref a]) Q E s:=by
 obtain⟨z,hd,vs,rel,dd⟩:=ZeU I.hok e
 refine call_len_dict hd dd (by rw[<-rel.length];rw[sizeLine_eq]at z;omega) ?_
 rw[<-rel.length]
 exact h _ _ (I.tok _)
end
def NoSl (i:Expr):Prop:=∀ov iv,subscripted i false ov iv=operate [ov,iv] (getItem ov iv)
theorem ZkD {prog:Program}{w:World}{A:Around}{E:Q33}{s:Shared}{env:Env}{value slice:Expr}{pos:Pos}{T id:String}{Q:Q33}
  (hl:typeLookup (.type T) "__getitem__"=pure (some (.builtin id))) (hs:NoSl slice)
  (h:wpAny (model prog w) A (eval value env) (fun o s₁=>wpAny (model prog w) A (eval slice env) (fun i s₂=>s₂.TypeIs o T/\wpAny (model prog w) A (getItem o i) Q E s₂) E s₁) E s):
  wpAny (model prog w) A (eval (.Subscript value slice pos) env) Q E s:=by
 refine Subscript_ (YBN h (fun o s₁ h₁=>YBN h₁ (fun i s₂ h₂=>?_) fun _ _ x=>x) fun _ _ x=>x)
 obtain⟨hT,h₂⟩:=h₂
 unfold subscriptTail
 refine YAA ?_
 rw[getitemInPython_of_ne hT.not_modules]
 refine YAA (wpAny_specialOf hT hl ?_)
 have fin:wpAny (model prog w) A (subscripted slice false o i) (fun r s₃=>wpAny (model prog w) A (letTemporaryGo value o r >>= fun _=>pure r) Q E s₃) E s₂:=by
  rw[hs o i]
  exact wpAny_operating (YBN h₂ (fun r s₃ h₃=>YAA (wpAny_letTemporaryGo (YAH h₃))) fun _ _ x=>x)
 first
  | exact YAH (YAA fin)
  | exact YAA (YAH (YAA fin))
  | exact YAA fin
theorem Zgw {X:Cx}{pins:List (Addr×Obj)}{σ:St}{H:Hp}{s:Shared}{a:Addr}{y:V}{o:Option V}(I:Inv X pins σ H s)(g:DGet H a y o):s.TypeIs (.ref a) "dict":=by
 rcases g with⟨kvs,k,e,_,_⟩|⟨kvs,k,b,e,_,_,_⟩
 .obtain⟨_,_,vs,_,dd⟩:=ZeU I.hok e
  exact dd.typeIs
 .obtain⟨_,_,xs,_,dd⟩:=ZfL I.hok e
  exact dd.typeIs
def Zl1 (td ty:TE):TE:=fun σ H Q=>td σ H fun x H1=>ty σ H1 fun y H2=>∃a v,x=.ref a/\DGet H2 a y (some v)/\Q v H2
def tDIn (ty td:TE):TE:=fun σ H Q=>ty σ H fun y H1=>td σ H1 fun x H2=>∃a o,x=.ref a/\DGet H2 a y o/\Q (.bl o.isSome) H2
def Zh6 (ty td:TE):TE:=fun σ H Q=>ty σ H fun y H1=>td σ H1 fun x H2=>∃a o,x=.ref a/\DGet H2 a y o/\Q (.bl (!o.isSome)) H2
def Zmd (td ty tv:TE):TS:=fun D σ H=>tv σ H fun v H1=>td σ H1 fun x H2=>ty σ H2 fun y H3=>∃a H4,x=.ref a/\DPut H3 a y v H4/\D.nx σ H4
def Zme (td ty tv:TE)(rd:V->V->Hp->VK->Prop):TS:=fun D σ H=>td σ H fun x H1=>ty σ H1 fun y H2=>∃a v,x=.ref a/\DGet H2 a y (some v) /\
 tv σ H2 fun y2 H3=>rd v y2 H3 fun z H4=>∃H5,DPut H4 a y z H5/\D.nx σ H5
section
variable {X:Cx}{o i e value:Expr}{pos pos' tpos:Pos}{td ty tv:TE}
theorem Za2 (hu:X.A.units+1<cLine)(ho:PE X o td)(hi:PE X i ty)(hs:NoSl i):PE X (.Subscript o i pos) (Zl1 td ty):=by
 intro pins s σ H Q I h
 refine ZkD PySem.F.slot_dict_getitem.lookup hs (thn (ho pins s σ H _ I h) fun u s1 ⟨x,H1,I1,rx,q1⟩=>thn (hi pins s1 σ H1 _ I1 q1) fun iv s2 ⟨y,H2,I2,ry,a,v,ex,g,q2⟩=>?_)
 subst ex
 obtain rfl:u=Value.ref a:=rx
 exact⟨Zgw I2 g,ZfS hu I2 g ry fun w' s3 I3 rw'=>⟨v,H2,I3,rw',q2⟩⟩
theorem Zj9 (hu:X.A.units+1<cLine)(hi:PE X i ty)(ho:PE X o td):PC X .In i o (tDIn ty td):=by
 intro pins s σ H Q I h
 refine thn (hi pins s σ H _ I h) fun iv s1 ⟨y,H1,I1,ry,q1⟩=>thn (ho pins s1 σ H1 _ I1 q1) fun u s2 ⟨x,H2,I2,rx,a,ov,ex,g,q2⟩=>?_
 subst ex
 obtain rfl:u=Value.ref a:=rx
 exact d_in hu I2 g ry fun s3 I3=>⟨.bl ov.isSome,H2,I3,rfl,q2⟩
theorem Zbu (hu:X.A.units+1<cLine)(hi:PE X i ty)(ho:PE X o td):PC X .NotIn i o (Zh6 ty td):=by
 intro pins s σ H Q I h
 refine thn (hi pins s σ H _ I h) fun iv s1 ⟨y,H1,I1,ry,q1⟩=>thn (ho pins s1 σ H1 _ I1 q1) fun u s2 ⟨x,H2,I2,rx,a,ov,ex,g,q2⟩=>?_
 subst ex
 obtain rfl:u=Value.ref a:=rx
 exact Zly hu I2 g ry fun s3 I3=>⟨.bl (!ov.isSome),H2,I3,rfl,q2⟩
theorem Zbq (hu:X.A.units+1<cLine)(ho:PE X o td)(hi:PE X i ty)(hv:PE X value tv)(hs:swapsWith value (some (.Subscript o i pos')) pos.line X.env=pure false):
  PS X (.Assign [.Subscript o i pos'] value pos) (Zmd td ty tv):=by
 intro pins s σ H D I h
 refine wpAny_Assign_Subscript (thn (hv pins s σ H _ I h) fun r s1 ⟨v,H1,I1,rv,q1⟩=>thn (ho pins s1 σ H1 _ I1 q1) fun u s2 ⟨x,H2,I2,rx,q2⟩=>thn (hi pins s2 σ H2 _ I2 q2) fun iv s3 ⟨y,H3,I3,ry,a,H4,ex,g,q3⟩=>?_) hs
 subst ex
 obtain rfl:u=Value.ref a:=rx
 exact ZfR hu I3 g ry rv fun s4 I4=>⟨σ,H4,I4,q3⟩
theorem ZkX {op:Operator}{rd:V->V->Hp->VK->Prop}(hu:X.A.units+1<cLine)(ho:PE X o td)(hi:PE X i ty)(hv:PE X value tv)(hop:InOp X op rd)
  (ha:∀ov iv new,augStore i ov iv new=(do holding [new,ov,iv] (setItem ov iv new);release [new,ov,iv] [];pure .next)):PS X (.AugAssign (.Subscript o i tpos) op value pos) (Zme td ty tv rd):=by
 intro pins s σ H D I h
 refine wpAny_AugAssign_SubscriptAny (thn (ho pins s σ H _ I h) fun u s1 ⟨x,H1,I1,rx,q1⟩=>thn (hi pins s1 σ H1 _ I1 q1) fun iv s2 ⟨y,H2,I2,ry,a,v,ex,g,q2⟩=>?_) ha
 subst ex
 obtain rfl:u=Value.ref a:=rx
 refine ZfS hu I2 g ry fun w' s3 I3 rw'=>thn (hv pins s3 σ H2 _ I3 q2) fun w2 s4 ⟨y2,H3,I4,ry2,q3⟩=>thn (hop pins s4 σ H3 v y2 w' w2 _ I4 rw' ry2 q3) fun w3 s5 ⟨z,H4,I5,rz,H5,g5,q4⟩=>?_
 exact ZfR hu I5 g5 ry rz fun s6 I6=>⟨σ,H5,I6,q4⟩
end
theorem Zg7 {P:Program}{w:World}{H:Hp}(h:Heap)(hb:sysModules<h.objs.size):ObjOk P w H (h.push { cls:=.type "dict",data:=.dict #[] }) h.objs.size (.dK []):=
 ⟨YAg _,beq_eq_false_iff_ne.mpr (YAS (YAi hb)),[],.nil,Heap.DictOf.new h⟩
def tDNewK:TE:=fun _ H Q=>∀p,H p=none->Q (.ref p) (upd H p (.dK []))
def ZlZ:TE:=fun _ H Q=>∀p,H p=none->Q (.ref p) (upd H p (.dT []))
section
variable {X:Cx}{pos:Pos}
theorem Zbl:PE X (.Dict [] [] pos) tDNewK:=fun pins s σ H Q I h=>
 wpAny_Dict_empty ⟨.ref s.heap.objs.size,_,I.laid (a:=s.heap.objs.size) (o:=.dK []) (t':=s.toks) (fun _ _ q=>YAC _ q) (YAJ _) (Zg7 s.heap I.big),rfl,h _ (I.hok.fresh (YAJ _))⟩
end
def ZgM:List (TE×TE)->St->Hp->(List (V×V)->Hp->Prop)->Prop
 | [],_,H,Q=>Q [] H
 | (tk,tv)::r,σ,H,Q=>tk σ H fun x H1=>tv σ H1 fun y H2=>ZgM r σ H2 fun ps H3=>Q ((x,y)::ps) H3
abbrev VV:List (V×V)->List (Value×Value)->Prop:=Paired fun p q=>RelV p.1 q.1/\RelV p.2 q.2
def PPs (X:Cx)(pos:Pos)(keys:List (Option Expr))(values:List Expr)(trs:List (TE×TE)):Prop:=
 ∀(pins:List (Addr×Obj)) (s:Shared) (σ:St) (H:Hp) (Q:List (V×V)->Hp->Prop),Inv X pins σ H s->ZgM trs σ H Q ->
  wpAny (model X.prog X.w) X.A (evalPairs (pairTrees keys values X.env pos)) (fun vs s'=>∃ps H',Inv X pins σ H' s'/\VV ps vs/\Q ps H') X.xe s
theorem Zey {X:Cx}{pos:Pos}:PPs X pos [] [] []:=fun pins s σ H Q I h=>pairTrees_nil_walk ⟨[],H,I,.nil,h⟩
theorem Zdf {X:Cx}{pos:Pos}{k v:Expr}{ks:List (Option Expr)}{vs:List Expr}{tk tv:TE}{trs:List (TE×TE)}(hk:PE X k tk)(hv:PE X v tv)(hr:PPs X pos ks vs trs):
  PPs X pos (some k::ks) (v::vs) ((tk,tv)::trs):=fun pins s σ H Q I h=>
 pairTrees_cons_walk (thn (hk pins s σ H _ I h) fun u s1 ⟨x,H1,I1,rx,q1⟩=>thn (hv pins s1 σ H1 _ I1 q1) fun w2 s2 ⟨y,H2,I2,ry,q2⟩=>
  thn (hr pins s2 σ H2 _ I2 q2) fun ws s3 ⟨ps,H3,I3,rel,q3⟩=>⟨(x,y)::ps,H3,I3,.cons ⟨rx,ry⟩ rel,q3⟩)
def Zaz (kvs more:List (Key×V)):List (Key×V):=more.foldl (fun acc kv=>putK acc kv.1 kv.2) kvs
theorem KV.merge:∀ {more:List (Key×V)} {rs:List (Key×Value)} {kvs:List (Key×V)} {vs:List (Key×Value)},KV more rs->KV kvs vs->KV (Zaz kvs more) (merged vs rs):=by
 intro more rs kvs vs r
 unfold KV at r
 induction r generalizing kvs vs with
 | nil=>intro q;exact q
 | @cons p q ps qs h t ih=>
  intro r0
  have e:KV (putK kvs p.1 p.2) (stored vs q.1 q.2):=by
   have:=r0.put p.1 h.2
   rw[<-h.1];exact this
  exact ih e
theorem ZaQ:∀(more kvs:List (Key×V)),(Zaz kvs more).length<=kvs.length+more.length
 | [],kvs=>by show kvs.length<=kvs.length+0;omega
 | p::r,kvs=>by
  have h1:=ZaQ r (putK kvs p.1 p.2)
  have h2:=ZaE kvs p.1 p.2
  show (Zaz (putK kvs p.1 p.2) r).length<=_
  rw[YAf];omega
theorem Zep {P:Program}{w:World}:∀ {kvs:List (Key×V)} {ws:List (Value×Value)},VV (kvs.map fun kv=>(kV kv.1,kv.2)) ws->∃rs,Carries (Zax P w) ws rs/\KV kvs rs
 | [],_,r=>by rw[YCz]at r;cases r;exact⟨[],True.intro,.nil⟩
 | p::kvs,_,r=>by
  rw[YAj]at r
  cases r with
  | @cons a b as bs h t=>
   obtain⟨rs,c,q⟩:=Zep (P:=P) (w:=w) t
   obtain⟨b1,b2⟩:=b
   exact⟨(p.1,b2)::rs,⟨Zd9 h.1,rfl,c⟩,.cons ⟨rfl,h.2⟩ q⟩
def ZlW (trs:List (TE×TE)):TE:=fun σ H Q=>∀p,H p=none->ZgM trs σ (upd H p (.dK [])) fun ps H2=>H2 p=some (.dK [])/\∃kvs:List (Key×V),ps=kvs.map (fun kv=>(kV kv.1,kv.2))/\kvs.length<=15/\Q (.ref p) (upd H2 p (.dK (Zaz [] kvs)))
theorem ZeA {X:Cx}{pos:Pos}{keys:List (Option Expr)}{values:List Expr}{trs:List (TE×TE)}(h:PPs X pos keys values trs)(hall:keys.all (·.isSome)=true)(hl:keys.length=values.length)(h0:keys≠[])
  (h15:keys.length<=15):PE X (.Dict keys values pos) (ZlW trs):=by
 intro pins s σ H Q I q
 have hn:=I.hok.fresh (YAJ s.heap.objs.size)
 have I1:=I.laid (a:=s.heap.objs.size) (o:=.dK []) (h':=s.heap.push { cls:=.type "dict",data:=.dict #[] }) (t':=s.toks) (fun _ _ q=>YAC _ q) (YAJ _) (Zg7 s.heap I.big)
 refine wpAny_Dict_walk (knd:=Zax X.prog X.w) hall hl h0 h15 (thn (h pins _ σ _ _ I1 (q _ hn)) fun ws s2 ⟨ps,H2,I2,rel,e,kvs,ep,lk,q2⟩=>?_)
 subst ep
 obtain⟨rs,c,rk⟩:=Zep (P:=X.prog) (w:=X.w) rel
 obtain⟨z,hd,vs0,r0,dd⟩:=ZfM I2.hok e
 cases r0
 refine⟨rs,c,dd,fun h' dd' hs=>⟨.ref s.heap.objs.size,_,?_,rfl,q2⟩⟩
 have hz:(Zaz [] kvs).length<=sizeLine:=by
  have h1:=ZaQ kvs []
  rw[YCl]at h1
  rw[sizeLine_eq];omega
 have he:∃q,h'.get? s.heap.objs.size=some q:=let ⟨q,_,_,hq,_⟩:=dd';⟨q,hq⟩
 exact ZdW I2 (by rw[e];exact True.intro) hs he (ZfN hz hd (rk.merge .nil) dd')
structure M1 (X:Cx)(o:Expr)(m:Str)(apos:Pos)(e:Expr)(cpos:Pos):Prop where
 base:attributeBase o m X.env (eval o X.env)=eval o X.env
 few:((backTo cpos (starEach [e] X.env)).all (fun x=>!x.1)&&(backToKw cpos (keywordEach [] X.env)).all (fun x=>x.1.isSome)
  && decide (([e]:List Expr).length+([]:List Keyword).length+(if ([]:List Keyword).isEmpty then 0 else 1)<30))=true
 line:(apos.endLine == cpos.line)=true
 trees:backTo cpos (starEach [e] X.env)=[(false,eval e X.env)]
structure M2 (X:Cx)(o:Expr)(m:Str)(apos:Pos)(e f:Expr)(cpos:Pos):Prop where
 base:attributeBase o m X.env (eval o X.env)=eval o X.env
 few:((backTo cpos (starEach [e,f] X.env)).all (fun x=>!x.1)&&(backToKw cpos (keywordEach [] X.env)).all (fun x=>x.1.isSome)
  && decide (([e,f]:List Expr).length+([]:List Keyword).length+(if ([]:List Keyword).isEmpty then 0 else 1)<30))=true
 line:(apos.endLine == cpos.line)=true
 trees:backTo cpos (starEach [e,f] X.env)=[(false,eval e X.env),(false,eval f X.env)]
def IsD (H:Hp)(a:Addr):Prop:=(∃kvs,Rd H a (.dK kvs))\/∃kvs,Rd H a (.dT kvs)
theorem ZiO {X:Cx}{pins:List (Addr×Obj)}{σ:St}{H:Hp}{s:Shared}{a:Addr}(I:Inv X pins σ H s)(d:IsD H a):
  s.TypeIs (.ref a) "dict"/\(∀b,Value.ref a=.ref b->∃ob,s.heap.get? b=some ob/\ob.dict=none)/\(a == sysModules)=false:=by
 rcases d with⟨kvs,e⟩|⟨kvs,e⟩
 .obtain⟨_,hd,vs,_,dd⟩:=ZeU I.hok e
  refine⟨dd.typeIs,fun b q=>?_,hd⟩
  cases q
  obtain⟨ob,_,_,h1,h2,_⟩:=dd
  exact⟨ob,h1,h2.2.1⟩
 .obtain⟨_,hd,xs,_,dd⟩:=ZfL I.hok e
  refine⟨dd.typeIs,fun b q=>?_,hd⟩
  cases q
  obtain⟨ob,_,_,h1,h2,_⟩:=dd
  exact⟨ob,h1,h2.2.1⟩
section
variable {X:Cx}{pins:List (Addr×Obj)}{σ:St}{H:Hp}{s:Shared}{a:Addr}{y d:V}{u r:Value}{o:Option V}{A:Around}{E:Q33}
theorem Zm7 {Q:Q33}(hu:A.units+1<cLine)(I:Inv X pins σ H s)(g:DGet H a y o)(ry:RelV y u)(rd:RelV d r)(h:∀w' s',Inv X pins σ H s'->RelV (o.getD d) w'->Q w' s'):
  wpAny (model X.prog X.w) A (call (.builtin "dict.get") [.ref a,u,r]) Q E s:=by
 rcases g with⟨kvs,k,e,ey,l⟩|⟨kvs,k,b,e,ey,eb,l⟩
 .subst ey
  obtain⟨z,hd,vs,rel,dd⟩:=ZeU I.hok e
  refine call_meetsIn PySem.F.slot_dict_get dd.typeIs PySem.F.entry_dict_get (PySem.F.args_dict_get_3 _ _ _) (meets_dict_get_default (Zax X.prog X.w) a (Zd9 ry) hd r) ⟨_,dd.mapOf,h _ _ (I.tok _) ?_⟩
  rw[l]
  exact(rel.val k).getD rd
 .subst ey
  cases (show u=Value.ref b from ry)
  obtain⟨z,hd,xs,rel,dd⟩:=ZfL I.hok e
  refine call_meetsIn PySem.F.slot_dict_get dd.typeIs PySem.F.entry_dict_get (PySem.F.args_dict_get_3 _ _ _) (meetsH_dict_get_default (tupleKind (Zax X.prog X.w)) a b hd r) ⟨tupleKind_room_in1 hu,k,xs,ZdN I.hok eb,dd,h _ _ (I.tok _) ?_⟩
  rw[l]
  exact(rel.val k).getD rd
end
def Zl0 (td ty:TE):TE:=fun σ H Q=>td σ H fun x H1=>∃a,x=.ref a/\IsD H1 a/\ty σ H1 fun y H2=>∃o,DGet H2 a y o/\Q (o.getD .non) H2
def Zj5 (td ty tx:TE):TE:=fun σ H Q=>td σ H fun x H1=>∃a,x=.ref a/\IsD H1 a/\ty σ H1 fun y H2=>tx σ H2 fun z H3=>∃o,DGet H3 a y o/\Q (o.getD z) H3
section
variable {X:Cx}{o e f:Expr}{apos cpos:Pos}{td ty tx:TE}
theorem Zjt (hu:X.A.units+1<cLine) (ho:PE X o td) (he:PE X e ty) (hf:PE X f tx) (m:M2 X o "get" apos e f cpos):PE X (.Call (.Attribute o "get" apos) [e,f] [] cpos) (Zj5 td ty tx):=by
 intro pins s σ H Q I h
 refine YDT m.base m.few m.line YCh PySem.F.slot_dict_get PySem.F.type_dict_get (thn (ho pins s σ H _ I h) fun u s1 ⟨x,H1,I1,rx,a,ex,d,q1⟩=>?_)
 subst ex
 obtain rfl:u=Value.ref a:=rx
 obtain⟨t1,t2,_⟩:=ZiO I1 d
 refine⟨t1,t2,?_⟩
 rw[m.trees]
 refine YCq rfl (YDE (YBi (thn (he pins s1 σ H1 _ I1 q1) fun iv s2 ⟨y,H2,I2,ry,q2⟩=>
  YBi (thn (hf pins s2 σ H2 _ I2 q2) fun fv s3 ⟨z,H3,I3,rz,ov,g,q3⟩=>YCU ?_))))
 exact Zm7 hu I3 g ry rz fun w' s4 I4 rw'=>⟨_,H3,I4,rw',q3⟩
end
section
variable {X:Cx}{pins:List (Addr×Obj)}{σ:St}{H:Hp}{s:Shared}{a:Addr}{kvs:List (Key×V)}{A:Around}{E:Q33}
end
section
variable {X:Cx}{pins:List (Addr×Obj)}{σ:St}{H:Hp}{s:Shared}{a:Addr}{y:V}{u:Value}{A:Around}{E:Q33}
theorem d_K6 {Q:Q33}(hu:A.units+1<cLine)(hh:A.handled=none)(I:Inv X pins σ H s)(g:DGet H a y none)(ry:RelV y u)
  (h:∀h' e t',Heap.NewExc s.heap h' e "KeyError"->E (.ref e) { s with heap:=h',toks:=t' }):wpAny (model X.prog X.w) A (getItem (.ref a) u) Q E s:=by
 rcases g with⟨kvs,k,e,ey,l⟩|⟨kvs,k,b,e,ey,eb,l⟩
 .subst ey
  obtain⟨z,hd,vs,rel,dd⟩:=ZeU I.hok e
  have hn:valueAt vs k=none:=RelO.none_of (by rw[l];exact rel.val k)
  exact wpAny_getItem_missing_of (Zd9 ry) hd hh dd.mapOf hn fun h' ex ne=>h h' ex _ ne
 .subst ey
  cases (show u=Value.ref b from ry)
  obtain⟨z,hd,xs,rel,dd⟩:=ZfL I.hok e
  have hn:(atKey xs k).map (·.2)=none:=RelO.none_of (by rw[l];exact rel.val k)
  exact wpAny_getItem_missing_heap (tupleKind_room_in1 hu) (ZdN I.hok eb) hd hh dd (Option.map_eq_none_iff.mp hn) fun h' ex ne=>h h' ex _ ne
end
section
variable {X:Cx}
theorem Zi0:ZbR X (.builtin "len") (fun xs H Q=>∃a kvs,xs=[V.ref a]/\H a=some (.dK kvs)/\Q (.int kvs.length) H):=by
 intro pins s σ H xs us Q I r h
 obtain⟨a,kvs,rfl,ha,q⟩:=h
 obtain⟨u,rfl,ru⟩:=vals1 r
 cases ru
 exact Zpc I (.inl ha) fun t s' I'=>⟨.int kvs.length,H,I',⟨t,rfl⟩,q⟩
end
section
variable {κ:Type}[DecidableEq κ]
theorem Zjd {kvs:List (κ×V)}{k:κ}(h:valV kvs k=none):¬k∈kvs.map (·.1):=by
 intro m
 obtain⟨p,hp,e⟩:=YAc.mp m
 have q:(kvs.any fun kv=>decide (kv.1=k))=true:=YBa.mpr ⟨p,hp,decide_eq_true e⟩
 rw[ZbK,h]at q
 exact absurd q (by simp)
theorem ZhZ {kvs:List (κ×V)}{k:κ}{v:V}(h:valV kvs k=some v):k∈kvs.map (·.1):=by
 have q:(kvs.any fun kv=>decide (kv.1=k))=true:=by
  rw[ZbK,h]
  all_goals rfl
 obtain⟨p,hp,e⟩:=YBa.mp q
 exact YAc.mpr ⟨p,hp,of_decide_eq_true e⟩
theorem Ziv:∀ {l:List κ} {k:κ},l.Nodup->¬k∈l->(l++[k]).Nodup
 | [],k,_,_=>by simp
 | a::r,k,h,hk=>by
  obtain⟨h1,h2⟩:=YBP.mp h
  show (a::(r++[k])).Nodup
  refine YBP.mpr ⟨fun m=>?_,Ziv h2 fun m=>hk (YAY.mpr (Or.inr m))⟩
  rcases YAe.mp m with q | q
  .exact h1 q
  .exact hk (YAY.mpr (Or.inl (YAO.mp q).symm))
theorem Zk7 {kvs:List (κ×V)}{k:κ}(v:V)(hn:(kvs.map (·.1)).Nodup)(h:valV kvs k=none):((putK kvs k v).map (·.1)).Nodup:=by
 rw[Zdd v h,YAq]
 exact Ziv hn (Zjd h)
end
def clOf (cells:List (Str×Addr)):List (Str×NameKind)->List (Str×Addr)->List (Str×Addr)
 | [],acc=>acc
 | (n,k)::r,acc=>if k == NameKind.free then clOf cells r ((n,(cells.lookup n).getD 0)::acc) else clOf cells r acc
theorem ZeZ {cells:List (Str×Addr)}:∀(names:List (Str×NameKind)) (acc:List (Str×Addr)) (p:Str×Addr),p∈acc->p∈clOf cells names acc
 | [],_,_,h=>h
 | (n,k)::r,acc,p,h=>by
  unfold clOf
  split
  .exact ZeZ r _ p (YAV _ h)
  .exact ZeZ r acc p h
theorem Ze0 {cells:List (Str×Addr)}{x:Str}:∀(names:List (Str×NameKind)) (acc:List (Str×Addr)),(x,NameKind.free)∈names->(x,(cells.lookup x).getD 0)∈clOf cells names acc
 | [],_,h=>by cases h
 | (n,k)::r,acc,h=>by
  unfold clOf
  rcases YAY.mp h with e | h
  .have e1:x=n:=congrArg Prod.fst e
   have e2:NameKind.free=k:=congrArg Prod.snd e
   subst e1 e2
   exact ZeZ r _ _ YAa
  .split
   .exact Ze0 r _ h
   .exact Ze0 r _ h
theorem ZgC {cells:List (Str×Addr)}:∀(names:List (Str×NameKind)) (acc:List (Str×Addr)) (p:Str×Addr),p∈clOf cells names acc->p∈acc\/((p.1,NameKind.free)∈names/\p.2=(cells.lookup p.1).getD 0)
 | [],_,_,h=>.inl h
 | (n,k)::r,acc,p,h=>by
  unfold clOf at h
  split at h
  .rename_i hk
   have hk':k=NameKind.free:=by simpa using hk
   rcases ZgC r _ p h with q | ⟨q,e⟩
   .rcases YAY.mp q with q | q
    .subst q;subst hk';exact .inr ⟨YAa,rfl⟩
    .exact .inl q
   .exact .inr ⟨YAV _ q,e⟩
  .rcases ZgC r _ p h with q | ⟨q,e⟩
   .exact .inl q
   .exact .inr ⟨YAV _ q,e⟩
theorem Zeo {sc:Scope}{env:Env}(h:∀y∈sc.names,y.2=NameKind.free->∃c,env.cells.lookup y.1=some c):closureFor sc env=pure (clOf env.cells sc.names []):=by
 have all:∀(names:List (Str×NameKind)) (acc:List (Str×Addr)),(∀y∈names,y.2=NameKind.free->∃c,env.cells.lookup y.1=some c) ->
   (forIn names acc fun (y:Str×NameKind) (cs:List (Str×Addr))=>(if (y.2 == NameKind.free)=true then (do let a <-cellOf env y.1;pure (ForInStep.yield ((y.1,a)::cs))) else pure (ForInStep.yield cs):Sem (ForInStep (List (Str×Addr)))))=pure (clOf env.cells names acc):=by
  intro names
  induction names with
  | nil=>intro acc _;rfl
  | cons y r ih=>
   intro acc hy
   obtain⟨n,k⟩:=y
   rw[List.forIn_cons]
   unfold clOf
   by_cases hk:k=NameKind.free
   .subst hk
    obtain⟨c,hc⟩:=hy (n,NameKind.free) YAa rfl
    have hc':env.cells.lookup n=some c:=hc
    simp only[beq_self_eq_true,if_true,cellOf,hc',pure_bind,Option.getD_some]
    exact ih _ fun z hz=>hy z (YAV _ hz)
   .have hb:(k == NameKind.free)=false:=by simpa using hk
    simp only[hb,YCA,if_false,pure_bind]
    exact ih _ fun z hz=>hy z (YAV _ hz)
 have q:=all sc.names [] h
 unfold closureFor
 show (forIn sc.names [] fun (y:Str×NameKind) (cs:List (Str×Addr))=>_) >>= _=_
 first
  | (rw[q];rfl)
  | (refine Eq.trans (congrArg (fun t=>t >>= fun cs=>pure cs) q) ?_;rfl)
structure CmpScope (X:Cx)(sc:Scope):Prop where
 kind:sc.kind=.function
 nocell:∀y∈sc.names,y.2≠NameKind.cell
 loc:∀y∈sc.names,y.2=NameKind.local->sc.names.lookup y.1=some .local
 clos:∀y∈sc.names,y.2=NameKind.free->(X.env.kindOf y.1=some .cell\/X.env.kindOf y.1=some .free)
def pick (ix:List (Option Nat))(σ:St):St:=ix.map fun o=>o.bind fun i=>(σ[i]?).join
def ZiQ (N M:List Str)(sc:Scope)(ix:List (Option Nat)):Bool:=
 ix.length == N.length&&(N.zip ix).all fun p=>match p.2 with | none=>true | some i=>decide (M[i]?=some p.1)&&decide (sc.names.lookup p.1=some NameKind.free)
def bx (X:Cx)(sc:Scope)(N:List Str)(fp:List Addr)(s₀:Shared)(H:Hp)(pn:List (Addr×Obj)):Cx:=
 { X with N:=N,s₀:=s₀,H₀:=H,env:=compEnvC sc (clOf X.env.cells sc.names []) s₀.heap.objs.size X.env,outer:=X.stack,stack:=X.stack,ex:=fp,fn:=fun _=>false,pn:=pn,xe:=fun _ _=>False }
theorem Zdz {sc:Scope}{env:Env}{x:Str}{k:NameKind}(h:(relabel sc env).names.lookup x=some k):(x,k)∈sc.names\/(k=.cell/\(x,NameKind.free)∈sc.names):=by
 have m:=YBl h
 unfold relabel at m
 obtain⟨⟨n,k'⟩,hm,e⟩:=YAc.mp m
 dsimp only at e
 split at e
 .rename_i hc
  have e1:n=x:=congrArg Prod.fst e
  have e2:NameKind.cell=k:=congrArg Prod.snd e
  have e3:k'=NameKind.free:=by
   rw[YAU,YAU]at hc
   simpa using hc.1.1
  subst e1 e2 e3
  exact .inr ⟨rfl,hm⟩
 .have e1:n=x:=congrArg Prod.fst e
  have e2:k'=k:=congrArg Prod.snd e
  subst e1 e2
  exact .inl hm
theorem Zc4 {env:Env}{x:Str}:∀ {names:List (Str×NameKind)},names.lookup x=some NameKind.free ->
  (names.map fun (n,k)=>if (k == NameKind.free&&env.scope.kind == .function&&env.kindOf n == some .cell) then (n,NameKind.cell) else (n,k)).lookup x=some .cell \/
  (names.map fun (n,k)=>if (k == NameKind.free&&env.scope.kind == .function&&env.kindOf n == some .cell) then (n,NameKind.cell) else (n,k)).lookup x=some .free
 | [],h=>by simp at h
 | (n,k)::r,h=>by
  by_cases hx:x=n
  .subst hx
   simp only[YBZ,beq_self_eq_true]at h
   cases h
   simp only[YAj]
   split
   .left;simp[YBZ]
   .right;simp[YBZ]
  .have hb:(x == n)=false:=by simpa using hx
   simp only[YBZ,hb]at h
   have ih:=Zc4 (env:=env) h
   simp only[YAj]
   split
   .simpa only[YBZ,hb] using ih
   .simpa only[YBZ,hb] using ih
theorem ZcK {α:Type}{x:Str}{c:α}:∀ {l:List (Str×α)},(x,c)∈l->∃c',l.lookup x=some c'
 | [],h=>by cases h
 | (n,d)::r,h=>by
  by_cases hx:x=n
  .subst hx;exact⟨d,by simp[YBZ]⟩
  .have hb:(x == n)=false:=by simpa using hx
   rcases YAY.mp h with e | h
   .exact absurd (congrArg Prod.fst e) hx
   .obtain⟨c',e⟩:=ZcK h
    exact⟨c',by simpa only[YBZ,hb] using e⟩
section
variable {X:Cx}{pins:List (Addr×Obj)}{σ:St}{H:Hp}{s:Shared}{sc:Scope}{N:List Str}{fp:List Addr}{ix:List (Option Nat)}
theorem Inv.capt (I:Inv X pins σ H s)(S:CmpScope X sc):∀y∈sc.names,y.2=NameKind.free->∃c,X.env.cells.lookup y.1=some c:=fun y hy e=>I.ok.has y.1 (S.clos y hy e)
theorem Inv.clcell (I:Inv X pins σ H s)(S:CmpScope X sc){x:Str}{c:Addr}(h:(clOf X.env.cells sc.names []).lookup x=some c):X.env.cells.lookup x=some c:=by
 rcases ZgC _ _ _ (YBl h) with q | ⟨q,e⟩
 .cases q
 .obtain⟨c',hc⟩:=I.capt S _ q rfl
  have hc':X.env.cells.lookup x=some c':=hc
  have e':c=(X.env.cells.lookup x).getD 0:=e
  rw[hc',Option.getD_some]at e'
  rw[e'];exact hc'
theorem Inv.clhas (I:Inv X pins σ H s)(S:CmpScope X sc){x:Str}(h:(x,NameKind.free)∈sc.names):∃c,(clOf X.env.cells sc.names []).lookup x=some c/\X.env.cells.lookup x=some c:=by
 obtain⟨c,e⟩:=ZcK (Ze0 (cells:=X.env.cells) sc.names [] h)
 exact⟨c,e,I.clcell S e⟩
theorem Inv.block {h1:Heap}{tk:Nat}{m:Str->Option Value}(I:Inv X pins σ H s)(S:CmpScope X sc)(hix:ZiQ N X.N sc ix=true)(hf:∀b∈fp,FpOk X pins H b/\b<s.heap.objs.size)
  (hk:∀b o,s.heap.get? b=some o->h1.get? b=some o) (hn:h1.Ns s.heap.objs.size m):
  Inv (bx X sc N fp s H (X.pn++pins)) [] (pick ix σ) H { s with heap:=h1,toks:=tk }:=by
 have hC:∀b o,s.heap.get? b=some o->b≠s.heap.objs.size:=fun b o e=>YAi (YAL e)
 have hcell:∀x c,(clOf X.env.cells sc.names []).lookup x=some c->∃v,s.heap.IsCell c v:=fun x c e=>I.cell x c (I.clcell S e)
 have stk:∀b,b≠X.env.locals->b∉X.fs->b∉frs X.stack:=fun b h1 h2 hb=>by
  rcases YAY.mp (I.stkSub b hb) with z | z
  .exact h1 z
  .exact h2 z
 rw[ZiQ,YAU]at hix
 refine⟨⟨I.ok.mod,S.kind,I.ok.glob,I.ok.blt,YAJ _,?_,?_,?_,I.ok.hd,I.ok.frames,.inl rfl,?_,I.bs,YAK I.ok.bsz I.sz,?_,?_,I.stack,I.stkFree⟩,
  rfl,I.bare,Un.kept hk,⟨m,hn,?_⟩,?_,I.fresh,?_,?_,I.hok.kept hk,?_⟩
 .intro x y c e1 e2
  exact I.ok.inj x y c (I.clcell S e1) (I.clcell S e2)
 .intro x hx
  have hx:(relabel sc X.env).names.lookup x=some .cell\/(relabel sc X.env).names.lookup x=some .free:=hx
  have hm:(x,NameKind.free)∈sc.names:=by
   rcases hx with hx | hx
   .rcases Zdz hx with q | ⟨_,q⟩
    .exact absurd rfl (S.nocell _ q)
    .exact q
   .rcases Zdz hx with q | ⟨q,_⟩
    .exact q
    .cases q
  obtain⟨c,e,_⟩:=I.clhas S hm
  exact⟨c,e⟩
 .intro x c z
  cases z
 .intro b hb
  obtain⟨f,hlt⟩:=hf b hb
  refine⟨YAi hlt,fun x c e=>f.2.2.2.2.1 x c (I.clcell S e)⟩
 .intro b o e hb
  obtain⟨⟨_,_,_,f3,_⟩,_⟩:=hf b hb
  rcases f3 with z | z
  .exact I.ok.noex b o e z
  .exact absurd (YAL e) (YDV.mpr (YAK I.ok.bsz z))
 .intro b hb
  obtain⟨⟨_,f1,f2,_⟩,_⟩:=hf b hb
  exact stk b f1 f2
 .intro i x v e1 e2 e3
  have e1:N[i]?=some x:=e1
  have hi:∃j,ix[i]?=some (some j)/\σ[j]?=some (some v):=by
   unfold pick at e2
   rw[YAZ]at e2
   cases q:ix[i]? with
   | none=>rw[q]at e2;cases e2
   | some o=>
    rw[q]at e2
    cases o with
    | none=>cases e2
    | some j=>
     refine⟨j,rfl,?_⟩
     have e4:(σ[j]?).join=some v:=Option.some.inj e2
     cases q2:σ[j]? with
     | none=>rw[q2]at e4;cases e4
     | some w=>rw[q2]at e4;cases w with
      | none=>cases e4
      | some w=>rw[<-e4];rfl
  obtain⟨j,hj,hσ⟩:=hi
  have hz:(x,some j)∈N.zip ix:=by
   have q:(N.zip ix)[i]?=some (x,some j):=by rw[List.getElem?_zip_eq_some];exact⟨e1,hj⟩
   exact YAM q
  have hp:=YAs.mp hix.2 _ hz
  dsimp only at hp
  rw[YAU]at hp
  have hM:X.N[j]?=some x:=of_decide_eq_true hp.1
  have hfr:sc.names.lookup x=some NameKind.free:=of_decide_eq_true hp.2
  have hmem:=YBl hfr
  obtain⟨mo,hno,hlo⟩:=I.loc
  have hvis:Vis X.env.scope x:=by
   rcases S.clos _ hmem rfl with z | z
   .exact .inr (.inl z)
   .exact .inr (.inr z)
  obtain⟨u,ru,l⟩:=hlo j x v hM hσ hvis
  refine⟨u,ru,.inr ⟨?_,?_⟩⟩
  .exact Zc4 (env:=X.env) hfr
  .obtain⟨c,e,e'⟩:=I.clhas S hmem
   refine⟨c,e,?_⟩
   rcases l with⟨k,_⟩|⟨_,c',ec,z⟩
   .rcases S.clos _ hmem rfl with q | q
    .rw[k]at q;cases q
    .rw[k]at q;cases q
   .rw[e']at ec
    cases ec
    obtain⟨o,ho,hd⟩:=z
    exact⟨o,hk _ _ ho,hd⟩
 .intro x c e
  obtain⟨v,o,ho,hd⟩:=hcell x c e
  exact⟨v,o,hk _ _ ho,hd⟩
 .intro x c e
  exact I.freeC x c (I.clcell S e)
 .intro p hp
  have hp:p∈X.pn++pins:=by
   rcases YAe.mp hp with z | z
   .exact z
   .cases z
  obtain⟨e,n,ne,nf,d⟩:=I.pin p hp
  exact⟨hk _ _ e,n,hC _ _ e,stk p.1 ne nf,d⟩
 .show (pick ix σ).length=N.length
  unfold pick
  rw[YAB]
  simpa using hix.1
theorem Inv.unblock {τ:St}{H':Hp}{s':Shared}{h':Heap}(I:Inv X pins σ H s)(hf:∀b∈fp,FpOk X pins H b)(J:Inv (bx X sc N fp s H (X.pn++pins)) [] τ H' s')(hs:Heap.SameBut s.heap.objs.size s'.heap h'):
  Inv X pins σ H' { s' with heap:=h' }:=by
 have nC:∀b o,s.heap.get? b=some o->b≠s.heap.objs.size:=fun b o e=>YAi (YAL e)
 have hfr:H' s.heap.objs.size=none:=J.free
 have u:Un (frs X.stack) fp H H' s.heap s'.heap:=J.base
 have ok:HOk X.prog X.w H' h':=fun b ob e=>by
  refine(J.hok b ob e).stay (fun c w' hc q=>(hs.2 c ?_).trans q) (fun _ q=>q) fun _ _ q=>q
  rintro rfl
  rcases hc with rfl | hc
  .rw[hfr]at e;cases e
  .rw[hfr]at hc;cases hc
 refine I.call' (ch:=fp) J.os ⟨fun b o e n h1 h2=>(hs.2 b (nC b o e)).trans (u.keep b o e n h1 h2),fun b o e n h1 h2=>?_,u.free,fun b o e h2=>?_,u.tups,u.frzs,u.tbls⟩ ok J.bare fun b hb=>?_
 .obtain⟨sl,q⟩:=u.slot b o e n h1 h2
  exact⟨sl,(hs.2 b (nC b o e)).trans q⟩
 .obtain⟨o',q⟩:=u.there b o e h2
  exact⟨o',(hs.2 b (nC b o e)).trans q⟩
 .obtain⟨_,f1,_,f3,f4,f5⟩:=hf b hb
  exact⟨f3,f1,f4,f5⟩
end
def PIfs (X:Cx)(ifs:List Expr)(t:TT):Prop:=
 ∀(pins:List (Addr×Obj)) (s:Shared) (σ:St) (H:Hp) (Q:Bool->Hp->Prop),Inv X pins σ H s->t σ H Q ->
  wpAny (model X.prog X.w) X.A (forIn ifs true fun c r=>if r=true then do let ok <-isTrue c X.env (eval c X.env);pure (ForInStep.yield ok) else pure (ForInStep.yield r)) (TP X pins σ Q) X.xe s
def tAll:TT:=fun _ H Q=>Q true H
theorem Zbk {X:Cx}:PIfs X [] tAll:=fun _ _ _ H _ I h=>wpAny_tests_nil ⟨H,I,h⟩
theorem Zcc {X:Cx}{c:Expr}{t:TT}(h:PT X c t):PIfs X [c] t:=fun pins s σ H Q I q=>wpAny_tests_one (h pins s σ H Q I q)
theorem ZfT {prog:Program}{w:World}{A:Around}{R:Result->Shared->Prop}{s:Shared}{el tgt iter:Expr}{ifs:List Expr}{scp:Scope}{pos:Pos}{it acc:Value}{env:Env}(W:Nat->Shared->Prop)
  (turn:∀n s,W n s->wpAny (model prog w) A (pyNext it) (fun r s₁=>match r with
   | none=>R (.ok .next) s₁
   | some v=>wpAny (model prog w) A (letOwnedTupleGo tgt it v) (fun _ s₁'=>wpAny (model prog w) A (assign tgt env v) (fun _ s₂=>
     wpAny (model prog w) A (forIn ifs true fun c r=>if r=true then do let ok <-isTrue c env (eval c env);pure (ForInStep.yield ok) else pure (ForInStep.yield r)) (fun ok s₃=>
      if ok=true then wpAny (model prog w) A (eval el env) (fun x s₄=>
       wpAny (model prog w) A (call (.builtin "list.append") [acc,x]) (fun _ s₅=>∃m,m<n/\W m s₅) (fun _ _=>False) s₄) (fun _ _=>False) s₃
      else ∃m,m<n/\W m s₃) (fun _ _=>False) s₂) (fun _ _=>False) s₁') (fun _ _=>False) s₁) (fun _ _=>False) s)
  (n:Nat) (h:W n s):codeAny (model prog w) A (.compLoop (.ListComp el [⟨tgt,iter,ifs,0⟩] scp pos) 0 it acc env) R s:=by
 refine codeAny_loop rfl W (fun n s hI=>?_) n h
 show wpAny _ A ((compTurn (.ListComp el [⟨tgt,iter,ifs,0⟩] scp pos) 0 it acc env).onRaise (fun x=>do noteFrame x env;theTreesLotGoes x)) _ _ s
 refine wpAny_noted ?_
 rw[compTurn_list]
 refine YAA (YDa (YAA (YBN (turn n s hI) (fun r s1 q1=>?_) fun _ _ z=>z.elim)))
 cases r with
 | none=>exact YAH q1
 | some v=>
  refine YAA (YBN q1 (fun _ s1' q1'=>?_) fun _ _ z=>z.elim)
  refine YAA (YBN q1' (fun _ s2 q2=>YAA (YBN q2 (fun ok s3 q3=>?_) fun _ _ z=>z.elim)) fun _ _ z=>z.elim)
  cases ok with
  | false=>exact YAH ⟨rfl,q3⟩
  | true=>exact YAA (YAA (YBN q3 (fun x s4 q4=>YAA (YBN q4 (fun _ s5 q5=>YAH (YAH ⟨rfl,q5⟩)) fun _ _ z=>z.elim)) fun _ _ z=>z.elim))
def ZkB (ix:List (Option Nat))(wi:TI)(g:TG)(tt:TT)(te:TE):TE:=fun σ H Q=>wi σ H fun J H1=>∀acc,H1 acc=none->∃W:Nat->Nat->St->Hp->Prop,(∃m,W 0 m (pick ix σ) (upd H1 acc (.lst []))) /\
 ∀i m τ H2,W i m τ H2->(J.stop i H2/\Q (.ref acc) H2)\/(J.go i H2/\∃Nx:St->Hp->Prop,(∀τ' H',Nx τ' H'->∃m',m'<m/\W (i+1) m' τ' H') /\
  ∀x H3,J.yld i H2 x H3->g x τ H3 fun τ2 H4=>tt τ2 H4 fun b H5=>if b=true then te τ2 H5 fun y H6=>∃ys,H6 acc=some (.lst ys)/\ys.length<sizeLine/\Nx τ2 (upd H6 acc (.lst (ys++[y]))) else Nx τ2 H5)
section
variable {X:Cx}{sc:Scope}{N:List Str}{ix:List (Option Nat)}{elt tg iter:Expr}{ifs:List Expr}{pos:Pos}{wi:TI}{g:TG}{tt:TT}{te:TE}
theorem Zen {Q:VK}{pins:List (Addr×Obj)}{s:Shared}{σ:St}{H:Hp}{it:Addr}{fp:List Addr}{tn:Nat->Heap->Prop}{J:It}{RR:Value->Addr->Result->Shared->Prop}
  (hc:X.calm=true) (S:CmpScope X sc) (hix:ZiQ N X.N sc ix=true)
  (hg:∀fp s₀ H₀ pn,PG (bx X sc N fp s₀ H₀ pn) tg g) (ht:∀fp s₀ H₀ pn,PIfs (bx X sc N fp s₀ H₀ pn) ifs tt) (he:∀fp s₀ H₀ pn,PE (bx X sc N fp s₀ H₀ pn) elt te)
  (I:Inv X pins σ H s) (T:Turn X.prog X.w X.K tg J fp it tn) (st:tn 0 s.heap) (hf:∀b∈fp,FpOk X pins H b)
  (q:∀acc,H acc=none->∃W:Nat->Nat->St->Hp->Prop,(∃m,W 0 m (pick ix σ) (upd H acc (.lst []))) /\
   ∀i m τ H2,W i m τ H2->(J.stop i H2/\Q (.ref acc) H2)\/(J.go i H2/\∃Nx:St->Hp->Prop,(∀τ' H',Nx τ' H'->∃m',m'<m/\W (i+1) m' τ' H') /\
    ∀x H3,J.yld i H2 x H3->g x τ H3 fun τ2 H4=>tt τ2 H4 fun b H5=>if b=true then te τ2 H5 fun y H6=>∃ys,H6 acc=some (.lst ys)/\ys.length<sizeLine/\Nx τ2 (upd H6 acc (.lst (ys++[y]))) else Nx τ2 H5))
  (hR:∀(acc:Addr) (s₃ s':Shared) (τ:St) (H':Hp),Inv X pins σ (upd H acc (.lst [])) s₃->(∀b∈fp,FpOk X pins (upd H acc (.lst [])) b)->Inv (bx X sc N fp s₃ (upd H acc (.lst [])) (X.pn++pins)) [] τ H' s'->Q (.ref acc) H' ->
   RR (.ref acc) s₃.heap.objs.size (.ok .next) s'):
  wpAny (model X.prog X.w) X.A (newList []) (fun acc s₃=>wpAny (model X.prog X.w) X.A (newFunctionEnv sc X.env.globals (clOf X.env.cells sc.names []) [] X.env.qual none .none (some X.env)) (fun cenv s₄=>
   codeAny (model X.prog X.w) X.A (.compStart (.ListComp elt [⟨tg,iter,ifs,0⟩] sc pos) 0 (.ref it) acc { cenv with scope:=relabel sc X.env }) (RR acc cenv.locals) s₄) X.xe s₃) X.xe s:=by
 refine YBk ?_
 have hfr:=I.fresh
 have I3:=I.lnew (its:=[]) (ys:=[]) (t':=s.toks) .nil (YAg _)
 have fne:∀b∈fp,b<s.heap.objs.size:=fun b hb=>by
  obtain⟨o,e,_⟩:=T.obj 0 _ st b hb
  exact YAL e
 have hf3:∀b∈fp,FpOk X pins (upd H s.heap.objs.size (.lst [])) b:=fun b hb=>by
  obtain⟨f0,f⟩:=hf b hb
  refine⟨?_,f⟩
  rw[Zaf (YAi (fne b hb))]
  exact f0
 have q3:=q _ hfr
 have st3:tn 0 (s.heap.push { cls:=.type "list",data:=.seq ([]:List Value).toArray }):=T.keep _ _ _ st fun b _ o e=>YAC _ e
 generalize e3:({ s with heap:=s.heap.push { cls:=.type "list",data:=.seq ([]:List Value).toArray },toks:=s.toks }:Shared)=s3 at I3
 have es3:s3.heap=s.heap.push { cls:=.type "list",data:=.seq ([]:List Value).toArray }:=by rw[<-e3]
 rw[<-es3]at st3
 have hf3':∀b∈fp,FpOk X pins (upd H s.heap.objs.size (.lst [])) b/\b<s3.heap.objs.size:=fun b hb=>⟨hf3 b hb,by rw[es3,YBg];exact YCs (fne b hb)⟩
 refine wpAny_newFunctionEnv S.nocell (by intro y hy;cases hy) (fun h₁ hns₁ hsb₁=>?_) S.kind
 have hk:∀b o,s3.heap.get? b=some o->h₁.get? b=some o:=fun b o e=>hsb₁.extBut b o (YAi (YAL e)) (YAC _ e)
 have I4:=I3.block (N:=N) (ix:=ix) (tk:=s3.toks+([]:List (Str×Value)).length) S hix hf3' hk hns₁
 have st4:tn 0 h₁:=T.keep _ _ _ st3 fun b _ o e=>hk b o e
 obtain⟨W,⟨m0,w0⟩,turn⟩:=q3
 have statN:∀ {H':Hp},(∀b∈fp,H' b=none)->∀b∈fp,FpOk (bx X sc N fp s3 (upd H s.heap.objs.size (.lst [])) (X.pn++pins)) [] H' b:=fun {H'} hn b hb=>by
  obtain⟨⟨_,f1,f2,f3,f4,f5⟩,hlt⟩:=hf3' b hb
  refine⟨hn b hb,YAi hlt,fun z=>?_,.inl hb,fun x c e=>f4 x c (I3.clcell S e),fun p hp=>?_⟩
  .rcases YAY.mp (I3.stkSub b z) with z | z
   .exact f1 z
   .exact f2 z
  .refine f5 p ?_
   rcases YAe.mp hp with z | z
   .exact z
   .cases z
 have loop:∀s4:Shared,s4={ s3 with heap:=h₁,toks:=s3.toks+([]:List (Str×Value)).length } ->
   codeAny (model X.prog X.w) X.A (.compLoop (.ListComp elt [⟨tg,iter,ifs,0⟩] sc pos) 0 (.ref it) (.ref s.heap.objs.size) (compEnvC sc (clOf X.env.cells sc.names []) s3.heap.objs.size X.env)) (RR (.ref s.heap.objs.size) s3.heap.objs.size) s4:=by
  rintro s4 rfl
  refine ZfT (fun n s'=>∃i τ H',Inv (bx X sc N fp s3 (upd H s.heap.objs.size (.lst [])) (X.pn++pins)) [] τ H' s'/\tn i s'.heap/\(∀b∈fp,H' b=none)/\W i n τ H') ?_ m0 ⟨0,_,_,I4,st4,fun b hb=>(hf3 b hb).1,w0⟩
  rintro n s5 ⟨i,τ,H5,I5,st5,fr5,w5⟩
  rcases turn i n τ H5 w5 with⟨stop,qn⟩|⟨go,Nx,hN,step⟩
  .refine thn (T.done (bx X sc N fp s3 (upd H s.heap.objs.size (.lst [])) (X.pn++pins)) rfl rfl rfl hc i [] s5 τ H5 (fun _ _=>False) I5 (statN fr5) st5 stop) fun r s6 ⟨hr,I6⟩=>?_
   subst hr
   exact hR _ _ _ _ _ I3 hf3 I6 qn
  .refine thn (T.item (bx X sc N fp s3 (upd H s.heap.objs.size (.lst [])) (X.pn++pins)) rfl rfl rfl hc i [] s5 τ H5 (fun _ _=>False) I5 (statN fr5) st5 go) fun r s6 ⟨u,hr,h6⟩=>?_
   subst hr
   refine thn h6 fun _ s7 ⟨x,H7,I7,r7,y7,st7,fr7⟩=>?_
   have I7':=I7.pinned (statN fr7) (T.obj _ _ st7)
   refine thn (hg _ _ _ _ _ s7 τ H7 x u _ I7' r7 (step x H7 y7)) fun _ s8 ⟨τ8,H8,I8,q8⟩=>?_
   have again:∀ {s9:Shared} {τ9:St} {H9:Hp},Inv (bx X sc N fp s3 (upd H s.heap.objs.size (.lst [])) (X.pn++pins)) ([]++Zfh fp s7.heap) τ9 H9 s9->Nx τ9 H9 ->
     ∃m,m<n/\∃i τ H',Inv (bx X sc N fp s3 (upd H s.heap.objs.size (.lst [])) (X.pn++pins)) [] τ H' s9/\tn i s9.heap/\(∀b∈fp,H' b=none)/\W i m τ H':=fun {s9 τ9 H9} I9 n9=>by
    obtain⟨m',hm,w9⟩:=hN τ9 H9 n9
    refine⟨m',hm,i+1,τ9,H9,I9.unpinned,T.keep _ _ _ st7 fun b hb o e=>(I9.pin (b,o) (YBK _ (YBK _ (Zcj hb e)))).1,fun b hb=>?_,w9⟩
    obtain⟨o,e,d⟩:=T.obj _ _ st7 b hb
    exact(I9.pin (b,o) (YBK _ (YBK _ (Zcj hb e)))).2.1
   refine thn (ht _ _ _ _ _ s8 τ8 H8 _ I8 q8) fun ok s9 ⟨H9,I9,q9⟩=>?_
   cases ok with
   | false=>exact again I9 q9
   | true=>
    rw[YAW rfl]at q9 ⊢
    refine thn (he _ _ _ _ _ s9 τ8 H9 _ I9 q9) fun yv s10 ⟨y,H10,I10,r10,ys,ha,hz,q10⟩=>?_
    refine thn (Zbw _ s10 τ8 H10 (.ref s.heap.objs.size) [y] (.ref s.heap.objs.size) [yv] (fun v H'=>v=.non/\Nx τ8 H') I10 rfl (.cons r10 .nil) ⟨_,ys,y,rfl,rfl,ha,hz,rfl,q10⟩) fun _ s11 ⟨_,H11,I11,_,_,q11⟩=>?_
    exact again I11 q11
 exact codeAny_compStart_list (loop _ rfl) (T.self _ 0 _ _ _ st4 (loop _ rfl))
theorem Za9 (hc:X.calm=true)(S:CmpScope X sc)(hix:ZiQ N X.N sc ix=true)(hi:PI X tg iter wi)
  (hg:∀fp s₀ H₀ pn,PG (bx X sc N fp s₀ H₀ pn) tg g) (ht:∀fp s₀ H₀ pn,PIfs (bx X sc N fp s₀ H₀ pn) ifs tt) (he:∀fp s₀ H₀ pn,PE (bx X sc N fp s₀ H₀ pn) elt te)
  (hs:∀x,foldedSetIterable iter X.env x=pure x:=by intro _;rfl):PE X (.ListComp elt [⟨tg,iter,ifs,0⟩] sc pos) (ZkB ix wi g tt te):=by
 intro pins s σ H Q I h
 rw[eval_ListComp]
 refine wpAny_comprehension_free (use:=none) rfl hs (Zeo (I.capt S)) S.kind S.loc (thn (hi pins s σ H _ I h) fun v s1 h1=>thn h1 fun itv s2 h2=>?_)
 obtain⟨it,fp,tn,J,H2,e,I2,T,st2,f2,q⟩:=h2
 subst e
 refine Zen (Q:=Q) (RR:=fun acc C=>compPost (model X.prog X.w) X.A X.xe none (EP X pins σ Q) acc C) hc S hix hg ht he I2 T st2 f2 q ?_
 intro acc s3 s' τ H' I3 hf3 J' qq
 obtain⟨m,hn,_⟩:=J'.loc
 exact⟨m,hn,fun h' hs'=>⟨.ref acc,H',I3.unblock hf3 J' hs',rfl,qq⟩⟩
theorem Zim {i:Nat}{x:Str}{px spos:Pos}(hsw:swapsWith (.ListComp elt [⟨tg,iter,ifs,0⟩] sc pos) (some (.Name x px)) spos.line X.env=pure true)
  (hN:X.N.Nodup) (hi':X.N[i]?=some x) (hx:X.env.scope.names.lookup x=some .local) (hc:X.calm=true) (S:CmpScope X sc) (hix:ZiQ N X.N sc ix=true) (hi:PI X tg iter wi)
  (hg:∀fp s₀ H₀ pn,PG (bx X sc N fp s₀ H₀ pn) tg g) (ht:∀fp s₀ H₀ pn,PIfs (bx X sc N fp s₀ H₀ pn) ifs tt) (he:∀fp s₀ H₀ pn,PE (bx X sc N fp s₀ H₀ pn) elt te)
  (hs:∀x,foldedSetIterable iter X.env x=pure x:=by intro _;rfl):PS X (.Assign [.Name x px] (.ListComp elt [⟨tg,iter,ifs,0⟩] sc pos) spos) (tAsg (ZkB ix wi g tt te) (Zcx i)):=by
 intro pins s σ H D I h
 rw[exec_Assign_Name_used _ _ _ _ hsw]
 refine YAA (YDa (YAA ?_))
 show wpAny _ X.A (do let _ <-comprehension (.ListComp elt [⟨tg,iter,ifs,0⟩] sc pos) sc X.env _ (newList []) false (eval iter X.env) (some (assign (.Name x px) X.env))) _ _ s
 refine YAA (YBN (wpAny_comprehension_free (use:=some (assign (.Name x px) X.env)) (Q:=fun _ s'=>SP X pins D .next s') rfl hs (Zeo (I.capt S)) S.kind S.loc
  (thn (hi pins s σ H _ I h) fun v s1 h1=>thn h1 fun itv s2 h2=>?_)) (fun _ s' hq=>YAH (YAH hq)) fun _ _ z=>z)
 obtain⟨it,fp,tn,J,H2,e,I2,T,st2,f2,q⟩:=h2
 subst e
 refine Zen (Q:=fun y H1=>Zcx i y σ H1 D.nx) (RR:=fun acc C=>compPost (model X.prog X.w) X.A X.xe (some (assign (.Name x px) X.env)) (fun _ s'=>SP X pins D .next s') acc C) hc S hix hg ht he I2 T st2 f2 q ?_
 intro acc s3 s' τ H' I3 hf3 J' qq
 show wpAny _ X.A (assign (.Name x px) X.env (.ref acc)) _ _ _
 have I5:Inv X pins σ H' s':=I3.unblock hf3 J' (.refl ..)
 obtain⟨m,hn,_⟩:=J'.loc
 have hn:s'.heap.Ns s3.heap.objs.size m:=hn
 have hLC:s3.heap.objs.size≠X.env.locals:=Nat.ne_of_gt I3.lt
 refine wpAny_assign_Name (Ze9 I5 hN hi' (.inl hx) (v:=.ref acc) rfl (fun s6 I6 ⟨a,sb,ha⟩=>?_) (.inr hx))
 have ea:a≠s3.heap.objs.size:=by
  rcases ha with ha | ha
  .rw[ha];exact YAS hLC
  .obtain⟨v,o,ho,_⟩:=I3.cell x a ha
   exact YAi (YAL ho)
 refine⟨m,hn.sameBut sb (YAS ea),fun h' hs'=>?_⟩
 have hfr:H' s3.heap.objs.size=none:=J'.free
 refine⟨_,H',?_,qq⟩
 have ok:HOk X.prog X.w H' h':=fun b ob e=>by
  refine(I6.hok b ob e).stay (fun c w' hc q=>(hs'.2 c ?_).trans q) (fun _ q=>q) fun _ _ q=>q
  rintro rfl
  rcases hc with rfl | hc
  .rw[hfr]at e;cases e
  .rw[hfr]at hc;cases hc
 have l3:X.s₀.heap.objs.size<=s3.heap.objs.size:=I3.sz
 have cne:∀y c,X.env.cells.lookup y=some c->c≠s3.heap.objs.size:=fun y c e z=>by
  obtain⟨v,o,ho,_⟩:=I3.cell y c e
  exact absurd (YAL ho) (by rw[z];exact YAo _)
 exact I6.turned (t':=s6.toks) (it:=s3.heap.objs.size) (fun b o hb e=>(hs'.2 b hb).trans e) hfr hLC (.inr l3) cne fun p hp z=>by
  have:=(I3.pin p hp).1
  exact absurd (YAL this) (by rw[z];exact YAo _)
end
abbrev tx (l:Q11):V:=.str ⟨l.toArray⟩
theorem Zc2 {a b:Q11}:tx a=tx b↔a=b:=by
 constructor
 .intro h
  have h1:(⟨a.toArray⟩:Str)=⟨b.toArray⟩:=V.str.inj h
  have h2:a.toArray=b.toArray:=congrArg Str.cps h1
  simpa using h2
 .rintro rfl;rfl
theorem ZfP {a b:Q11}:decide (tx a=tx b)=decide (a=b):=by
 by_cases h:a=b
 .subst h;simp
 .rw[decide_eq_false h,decide_eq_false fun z=>h (Zc2.mp z)]
theorem Zf7 (l:Q11):(⟨l.toArray⟩:Str).length=l.length:=by
 show l.toArray.size=l.length
 simp
def rT (C:Q11->Q11->Prop)(g:Q11->Q11->V):R2:=fun x y H Q=>∃a b,x=tx a/\y=tx b/\C a b/\Q (g a b) H
def cut {α:Type}(l:List α)(lo hi:Option Int):List α:=(l.drop (HT.sIx l.length 0 lo)).take (HT.sIx l.length l.length hi-HT.sIx l.length 0 lo)
theorem ZhL {α:Type}(l:List α)(lo hi:Option Int):(cut l lo hi).length<=l.length:=by
 unfold cut
 rw[YAd,YAn]
 omega
theorem ZiY {α:Type}(l:List α)(a b:Nat):cut l (some (a:Int)) (some (b:Int))=(l.drop a).take (b-a):=by
 unfold cut
 rw[HT.sIx_nat,HT.sIx_nat]
 apply YCu
 intro i
 simp only[List.getElem?_take,YDQ]
 by_cases h1:i<min b l.length-min a l.length
 .rw[YAW h1,YAW (by omega)]
  congr 1;omega
 .rw[YAX h1]
  by_cases h2:i<b-a
  .rw[YAW h2,YBc (by omega)]
  .rw[YAX h2]
theorem ZdX {α:Type}(l:List α)(b:Nat):cut l none (some (b:Int))=l.take b:=by
 unfold cut
 rw[HT.sIx_nat,HT.sIx_none]
 apply YCu
 intro i
 simp only[List.getElem?_take,YDQ,Nat.zero_add,Nat.sub_zero]
 by_cases h1:i<min b l.length
 .rw[YAW h1,YAW (by omega)]
 .rw[YAX h1]
  by_cases h2:i<b
  .rw[YAW h2,YBc (by omega)]
  .rw[YAX h2]
theorem Zbo {α:Type}(l:List α)(a:Nat):cut l (some (a:Int)) none=l.drop a:=by
 unfold cut
 rw[HT.sIx_nat,HT.sIx_none]
 apply YCu
 intro i
 simp only[List.getElem?_take,YDQ]
 by_cases h1:i<l.length-min a l.length
 .rw[YAW h1];congr 1;omega
 .rw[YAX h1,YBc (by omega)]
def clp (n:Nat)(v:Option Int)(d:Int):Int:=match v with
 | none=>d
 | some i=>max 0 (min (if i<0 then i+(n:Int) else i) (n:Int))
theorem Zkn (n d:Nat)(o:Option Int):clp n o (d:Int)=((HT.sIx n d o:Nat):Int):=by
 cases o with
 | none=>rw[HT.sIx_none];rfl
 | some v=>
  have:=HT.clip_eq v n d
  unfold clp
  dsimp only
  rw[<-this]
  split<;>omega
theorem Zh9 (lo hi:Option Int)(n:Nat):Builtin.Str.strSliceIndices lo hi 1 n=(List.range (HT.sIx n n hi-HT.sIx n 0 lo)).map fun k=>HT.sIx n 0 lo+k:=by
 have g:Builtin.Str.strSliceIndices lo hi 1 n=sliceRange (clp n lo ((0:Nat):Int)) (clp n hi (n:Int)) 1:=by
  cases lo<;>cases hi<;>rfl
 rw[g,Zkn,Zkn]
 generalize HT.sIx n 0 lo=a
 generalize HT.sIx n n hi=b
 unfold sliceRange
 have hc:(if (1:Int)>0 then (if (a:Int)<(b:Int) then ((b:Int)-a+1-1)/1 else 0) else (if (a:Int)>(b:Int) then ((a:Int)-b-1-1)/(-1) else 0)).toNat=b-a:=by
  simp only[show (1:Int)>0 by decide,if_true,Int.ediv_one]
  split<;>omega
 dsimp only
 rw[hc]
 apply List.map_congr_left
 intro k _
 omega
theorem Zjg (l:Q11)(lo hi:Option Int):Txt.slice ⟨l.toArray⟩ lo hi=⟨(cut l lo hi).toArray⟩:=by
 have h1:=HT.sIx_le l.length 0 (YAg _) lo
 have h2:=HT.sIx_le l.length l.length (YAJ _) hi
 unfold Txt.slice
 rw[Zf7,Zh9]
 have e:((List.range (HT.sIx l.length l.length hi-HT.sIx l.length 0 lo)).map fun k=>HT.sIx l.length 0 lo+k).filterMap (fun i=>l.toArray[i]?)=cut l lo hi:=by
  unfold cut
  generalize HT.sIx l.length 0 lo=a at *
  generalize HT.sIx l.length l.length hi=b at *
  have hab:∀n,a+n<=l.length->((List.range n).map fun k=>a+k).filterMap (fun i=>l.toArray[i]?)=(l.drop a).take n:=by
   intro n
   induction n with
   | zero=>intro _;simp
   | succ n ih=>
    intro hn
    rw[YBx,YAq,List.filterMap_append,ih (by omega),YCt]
    have:(l.drop a)[n]?=l[a+n]?:=YDQ
    simp[this,YAE (show a+n<l.length by omega)]
  by_cases hle:a<=b
  .exact hab _ (by omega)
  .have:b-a=0:=by omega
   rw[this];simp
 split
 .rename_i hc
  simp only[beq_self_eq_true,YCV,YAB,YBJ]at hc
  have hc':HT.sIx l.length l.length hi-HT.sIx l.length 0 lo=l.length:=by simpa using hc
  have:cut l lo hi=l:=by
   unfold cut
   have ha:HT.sIx l.length 0 lo=0:=by omega
   rw[hc',ha,YCx,YCJ (YAJ _)]
  rw[this]
 .show (⟨(List.filterMap (fun i=>l.toArray[i]?) _).toArray⟩:Str)=_
  rw[e]
section
variable {X:Cx}
theorem ZaN:OpR X (binaryOp .Add) (rT (fun a b=>a.length+b.length<=sizeLine) fun a b=>tx (a++b)):=by
 rintro pins s σ H x y v u Q I rx ry ⟨a,b,rfl,rfl,hz,q⟩
 refine Zhu pins s σ H _ _ v u Q I rx ry ⟨_,_,rfl,rfl,by rw[Zf7,Zf7];exact hz,?_⟩
 have e:((⟨a.toArray⟩:Str)++(⟨b.toArray⟩:Str))=⟨(a++b).toArray⟩:=by
  show (⟨a.toArray++b.toArray⟩:Str)=_
  simp
 rw[e];exact q
theorem Zht:OpR X (compareOp .In) (fun x y H Q=>∃c l,x=tx [c]/\y=tx l/\Q (.bl (decide (c∈l))) H):=by
 rintro pins s σ H x y v u Q I rx ry ⟨c,l,rfl,rfl,q⟩
 refine Zfm pins s σ H _ _ v u Q I rx ry ⟨_,_,rfl,rfl,?_⟩
 have e:=StrLaws.found_one ⟨l.toArray⟩ c
 have e':(!(Builtin.Str.occurrences ⟨l.toArray⟩ ⟨[c].toArray⟩ 0 (⟨l.toArray⟩:Str).length 1).isEmpty)=decide (c∈l):=by
  rw[show ([c].toArray)=#[c] from rfl,e]
 rw[e'];exact q
theorem ZeC:OpR X (compareOp .NotIn) (fun x y H Q=>∃c l,x=tx [c]/\y=tx l/\Q (.bl (!decide (c∈l))) H):=by
 rintro pins s σ H x y v u Q I rx ry ⟨c,l,rfl,rfl,q⟩
 refine Zfk pins s σ H _ _ v u Q I rx ry ⟨_,_,rfl,rfl,?_⟩
 have e:=StrLaws.found_one ⟨l.toArray⟩ c
 have e':(!(Builtin.Str.occurrences ⟨l.toArray⟩ ⟨[c].toArray⟩ 0 (⟨l.toArray⟩:Str).length 1).isEmpty)=decide (c∈l):=by
  rw[show ([c].toArray)=#[c] from rfl,e]
 rw[e'];exact q
theorem ZiM:IxR X (fun x y H Q=>∃l i c,x=tx l/\y=.int i/\l.length<=sizeLine/\atI l i=some c/\Q (tx [c]) H):=by
 rintro value slice pins s σ H x y v u Q I rx ry ⟨l,i,c,rfl,rfl,hz,h,q⟩ hs
 exact ZmP value slice pins s σ H _ _ v u Q I rx ry ⟨_,i,c,rfl,rfl,by rw[Zf7];exact hz,h,q⟩ hs
theorem Zcq:SlR X (fun x lo hi H Q=>∃l,x=tx l/\l.length<=sizeLine/\Q (tx (cut l lo hi)) H):=by
 rintro pins s σ H x v vl vu lo hi sl Q I rx hs pl pu ⟨l,rfl,hz,q⟩
 obtain⟨t,rfl⟩:=rx
 refine⟨"str",_,F.slot_str_getitem.lookup,typeIs_str _ _ _,?_⟩
 have part:∀ {v:Value} {o:Option Int},IsPart v o->∃p:Option (Int×Tok),v=partValue p/\p.map (·.1)=o:=fun {v o} h=>by
  cases h with
  | none=>exact⟨none,rfl,rfl⟩
  | int i t=>exact⟨some (i,t),rfl,rfl⟩
 obtain⟨a,rfl,ea⟩:=part pl
 obtain⟨b,rfl,eb⟩:=part pu
 refine wpAny_getItem_str_slice (l:=a) (u:=b) (st:=none) hs rfl ?_
 have e:(if ((1:Int) == 1&&(Builtin.Str.strSliceIndices lo hi 1 (⟨l.toArray⟩:Str).length).length == (⟨l.toArray⟩:Str).length)=true then (⟨l.toArray⟩:Str) else ⟨((Builtin.Str.strSliceIndices lo hi 1 (⟨l.toArray⟩:Str).length).filterMap ((⟨l.toArray⟩:Str).cps[·]?)).toArray⟩)=⟨(cut l lo hi).toArray⟩:=Zjg l lo hi
 unfold sliceMade slicePicked
 rw[ea,eb]
 refine post_val_or_str ?_
 refine⟨?_,fun t' k=>?_⟩
 .show (if ((1:Int) == 1&&(Builtin.Str.strSliceIndices lo hi 1 (⟨l.toArray⟩:Str).length).length == (⟨l.toArray⟩:Str).length)=true then (⟨l.toArray⟩:Str) else ⟨((Builtin.Str.strSliceIndices lo hi 1 (⟨l.toArray⟩:Str).length).filterMap ((⟨l.toArray⟩:Str).cps[·]?)).toArray⟩).length<=sizeLine
  rw[e,Zf7]
  exact YAK (ZhL _ _ _) hz
 .refine⟨tx (cut l lo hi),H,I.tok _,⟨t',?_⟩,q⟩
  exact congrArg (fun z=>Value.str z t') e
theorem Zec:∀ {ls:Q22} {us:List Value},Vals (ls.map tx) us->StrsAre us (ls.map fun l=>(⟨l.toArray⟩:Str))
 | [],us,r=>by
  rw[YCz]at r;cases r;exact .nil
 | l::ls,us,r=>by
  rw[YAj]at r
  cases r with
  | cons r1 r2=>
   obtain⟨t,e⟩:=r1
   subst e
   exact .cons _ t (Zec r2)
end
def Its (l:Q11):It:=⟨fun i _=>i<l.length,fun i H x H'=>H'=H/\∃c,l[i]?=some c/\x=tx [c],fun i _=>l.length<=i⟩
theorem Zh1 {P:Program} {w:World} {K:Q44} {tg:Expr} (l:Q11) (t:Tok) (it:Addr) (ty:String) (hty:ty="str_ascii_iterator"\/ty="str_iterator"):Turn P w K tg (Its l) [it] it (fun i h=>h.IsStrIter it ty ⟨l.toArray⟩ t i) where
 mem:=by simp
 obj:=fun i h st b hb=>by
  have e:b=it:=by simpa using hb
  subst e
  obtain⟨o,e,c,d⟩:=st
  exact⟨o,e,fun v z=>by rw[d]at z;cases z⟩
 keep:=fun i h h' st k=>by
  obtain⟨o,e,r⟩:=st
  exact⟨o,k it (by simp) o e,r⟩
 item:=by
  intro X hP hw hK hc i pins s σ H E I hf st hg
  subst hP hw hK
  obtain⟨f0,f1,f2,f3,f4,f5⟩:=hf it (by simp)
  have hg:i<l.length:=hg
  have hx:(⟨l.toArray⟩:Str).cps[i]?=some l[i]:=by
   show l.toArray[i]?=some l[i]
   simp[hg]
  have fin:∀(h':Heap) (tk:Tok),h'.IsStrIter it ty ⟨l.toArray⟩ t (i+1)->Heap.SameBut it s.heap h' ->
    ∃u,some (Value.str ⟨#[l[i]]⟩ s.toks)=some u/\wpAny (model X.prog X.w) X.A (letOwnedTupleGo tg (.ref it) u) (fun _ s2=>∃x H',Inv X pins σ H' s2/\RelV x u/\(Its l).yld i H x H'/\s2.heap.IsStrIter it ty ⟨l.toArray⟩ t (i+1)/\∀b∈[it],H' b=none) E { s with heap:=h',toks:=tk }:=fun h' tk st' sb=>by
   have I1:Inv X pins σ H { s with heap:=h',toks:=tk }:=I.turned (t':=tk) (fun b o hb e=>(sb.2 b hb).trans e) f0 f1 f3 f4 f5
   obtain⟨o,e,c,d⟩:=id st'
   refine⟨_,rfl,ZiR (s:={ s with heap:=h',toks:=tk }) e c d ?_ ⟨tx [l[i]],H,I1,⟨_,rfl⟩,⟨rfl,l[i],by simp[hg],rfl⟩,st',fun b hb=>(hf b hb).1⟩⟩
   rcases hty with rfl | rfl<;>decide
  rcases hty with rfl | rfl
  .exact wpAny_pyNext_ascii_item st hx fun h' st' sb=>fin h' _ st' sb
  .exact wpAny_pyNext_wide_item st hx fun h' st' sb=>fin h' _ st' sb
 done:=by
  intro X hP hw hK hc i pins s σ H E I hf st hg
  subst hP hw hK
  obtain⟨f0,f1,f2,f3,f4,f5⟩:=hf it (by simp)
  have hg:l.length<=i:=hg
  have hx:(⟨l.toArray⟩:Str).cps[i]?=none:=by
   show l.toArray[i]?=none
   simp[hg]
  rcases hty with rfl | rfl
  .exact wpAny_pyNext_ascii_end (I.ok.hd hc) st hx fun h' eb=>⟨rfl,I.turned (t':=s.toks) (fun b o hb e=>eb b o hb e) f0 f1 f3 f4 f5⟩
  .exact wpAny_pyNext_wide_end (I.ok.hd hc) st hx fun h' eb=>⟨rfl,I.turned (t':=s.toks) (fun b o hb e=>eb b o hb e) f0 f1 f3 f4 f5⟩
 self:=by
  intro A i s Q E st h
  rcases hty with rfl | rfl
  .exact wpAny_pyIter_striter_ascii st h
  .exact wpAny_pyIter_striter_wide st h
section
variable {X:Cx}{tg:Expr}
def ZmX (tl:TE):TI:=fun σ H R=>tl σ H fun x H1=>∃l,x=tx l/\R (Its l) H1
theorem ZbZ {l:Expr}{tl:TE}(hl:PE X l tl):PI X tg l (ZmX tl):=by
 intro pins s σ H R I h
 refine thn (hl pins s σ H _ I h) fun v s1 ⟨x,H1,I1,r1,q1⟩=>?_
 obtain⟨l,rfl,q⟩:=q1
 obtain⟨t,rfl⟩:=r1
 have fin:∀ty,(ty="str_ascii_iterator"\/ty="str_iterator")->PIE X pins σ tg R (.ref s1.heap.objs.size) { s1 with heap:=s1.heap.push { cls:=.type ty,data:=.fields #[.str ⟨l.toArray⟩ t,.int 0 0] } }:=fun ty hty=>by
  refine⟨s1.heap.objs.size,[s1.heap.objs.size],_,_,H1,rfl,I1.kept (t':=s1.toks) fun b o e=>YAC _ e,Zh1 l t _ ty hty,⟨_,YAQ _ rfl,rfl,rfl⟩,fun b hb=>?_,q⟩
  have e:b=s1.heap.objs.size:=by simpa using hb
  subst e
  exact I1.fpOk (YAJ _) (I1.hok.fresh (YAJ _))
 cases ha:(⟨l.toArray⟩:Str).cps.all (· < 128)
 .exact wpAny_pyIter_wide ha (fin _ (.inr rfl))
 .exact wpAny_pyIter_ascii ha (fin _ (.inl rfl))
end
theorem ZjO {l:Q11}{g:TG}{tb:TS}{D:Ends}{σ:St}{H:Hp}(Pv:Nat->St->Hp->Prop)(h0:Pv 0 σ H)
  (hs:∀i c σ H,l[i]?=some c->Pv i σ H->g (tx [c]) σ H fun σ2 H2=>tb { D with nx:=Pv (i+1),ct:=Pv (i+1),bk:=D.nx } σ2 H2) (hd:∀σ H,Pv l.length σ H->D.nx σ H):
  ∃W:Nat->Nat->St->Hp->Prop,(∃m,W 0 m σ H)/\∀i m σ H,W i m σ H ->
   ((Its l).stop i H/\D.nx σ H)\/((Its l).go i H/\∃N:St->Hp->Prop,(∀σ' H',N σ' H'->∃m',m'<m/\W (i+1) m' σ' H')/\∀x H',(Its l).yld i H x H'->g x σ H' fun σ2 H2=>tb { D with nx:=N,ct:=N,bk:=D.nx } σ2 H2):=by
 refine⟨fun i m σ H=>m=l.length-i/\i<=l.length/\Pv i σ H,⟨l.length,by simp,YAg _,h0⟩,?_⟩
 rintro i m σ H ⟨rfl,hi,p⟩
 by_cases hlt:i<l.length
 .refine .inr ⟨hlt,Pv (i+1),fun σ' H' p'=>⟨l.length-(i+1),by omega,rfl,hlt,p'⟩,fun x H' y=>?_⟩
  obtain⟨e,c,hc,y⟩:=y
  subst e y
  exact hs i c σ _ hc p
 .have e:i=l.length:=by omega
  subst e
  exact .inl ⟨YAJ _,hd σ H p⟩
inductive DT where
 | f (v:V)
 | l (xs:List DT)
 | t (xs:List DT)
section
variable (K:Q44)(H:Hp)
mutual
def DatOk:DT->V->Prop
 | .f w,v=>v=w/\Zbm w=true
 | .l ds,v=>∃a vs,v=.ref a/\SqL K H a vs/\DatsOk ds vs
 | .t ds,v=>∃a vs,v=.ref a/\SqT K H a vs/\DatsOk ds vs
def DatsOk:List DT->List V->Prop
 | [],vs=>vs=[]
 | d::ds,vs=>∃v r,vs=v::r/\DatOk d v/\DatsOk ds r
end
end
mutual
def deq:DT->DT->Bool
 | .f v,.f w=>eqV v w
 | .l xs,.l ys=>deqs xs ys
 | .t xs,.t ys=>deqs xs ys
 | .f _,.l _=>false
 | .f _,.t _=>false
 | .l _,.f _=>false
 | .t _,.f _=>false
 | .l _,.t _=>false
 | .t _,.l _=>false
def deqs:List DT->List DT->Bool
 | [],[]=>true
 | x::xs,y::ys=>deq x y&&deqs xs ys
 | [],_::_=>false
 | _::_,[]=>false
end
mutual
def dep:DT->Nat
 | .f _=>0
 | .l xs=>deps xs+1
 | .t xs=>deps xs+1
def deps:List DT->Nat
 | []=>0
 | x::xs=>max (dep x) (deps xs)
end
theorem Zg5 {v:V}(h:Zbm v=true):eqV v v=true:=by
 cases v<;>first | rfl | (simp[eqV];done) | exact absurd (show false=true from h) YAF
theorem DatsOk.length {K:Q44}{H:Hp}:∀ {ds:List DT} {vs:List V},DatsOk K H ds vs->vs.length=ds.length
 | [],vs,h=>by
  unfold DatsOk at h;subst h;rfl
 | d::ds,vs,h=>by
  unfold DatsOk at h
  obtain⟨v,r,rfl,_,hr⟩:=h
  rw[YAf,YAf,DatsOk.length hr]
def ZaY (xs ys:List DT)(j:Nat):Bool:=match xs[j]?,ys[j]? with
 | some x,some y=>deq x y
 | _,_=>false
theorem Zgy:∀xs ys:List DT,deqs xs ys=((List.range (min xs.length ys.length)).all (ZaY xs ys)&&xs.length == ys.length)
 | [],[]=>by simp[deqs]
 | [],_::_=>by simp[deqs]
 | _::_,[]=>by simp[deqs]
 | x::xs,y::ys=>by
  have e:min (x::xs).length (y::ys).length=min xs.length ys.length+1:=by simp only[YAf];omega
  have e2:∀j,ZaY (x::xs) (y::ys) (j+1)=ZaY xs ys j:=fun j=>by simp[ZaY]
  have e3:ZaY (x::xs) (y::ys) 0=deq x y:=by simp[ZaY]
  rw[deqs,Zgy xs ys,e,List.range_succ_eq_map,YDc,e3,List.all_map]
  have e4:((fun j=>ZaY (x::xs) (y::ys) j) ∘ Nat.succ)=ZaY xs ys:=by funext j;exact e2 j
  have e5:(ZaY (x::xs) (y::ys) ∘ Nat.succ)=ZaY xs ys:=e4
  rw[e5,Bool.and_assoc]
  simp
mutual
theorem DatOk.uniq {K:Q44}{X:Cx}{pins:List (Addr×Obj)}{σ:St}{H:Hp}{s:Shared}(I:Inv X pins σ H s):∀(d e:DT) (v:V),DatOk X.K H d v->DatOk X.K H e v->deq d e=true
 | .f w,.f u,v,h1,h2=>by
  unfold DatOk at h1 h2
  obtain⟨rfl,hf⟩:=h1
  obtain⟨e,_⟩:=h2
  subst e
  unfold deq
  exact Zg5 hf
 | .f w,.l ys,v,h1,h2=>by
  unfold DatOk at h1 h2
  obtain⟨rfl,hf⟩:=h1
  obtain⟨a,vs,rfl,_⟩:=h2
  exact absurd (show false=true from hf) YAF
 | .f w,.t ys,v,h1,h2=>by
  unfold DatOk at h1 h2
  obtain⟨rfl,hf⟩:=h1
  obtain⟨a,vs,rfl,_⟩:=h2
  exact absurd (show false=true from hf) YAF
 | .l xs,.f w,v,h1,h2=>by
  unfold DatOk at h1 h2
  obtain⟨rfl,hf⟩:=h2
  obtain⟨a,vs,rfl,_⟩:=h1
  exact absurd (show false=true from hf) YAF
 | .t xs,.f w,v,h1,h2=>by
  unfold DatOk at h1 h2
  obtain⟨rfl,hf⟩:=h2
  obtain⟨a,vs,rfl,_⟩:=h1
  exact absurd (show false=true from hf) YAF
 | .l xs,.l ys,v,h1,h2=>by
  unfold DatOk at h1 h2
  obtain⟨a,vs,rfl,q1,r1⟩:=h1
  obtain⟨b,ws,e,q2,r2⟩:=h2
  cases e
  have:=I.list_inj q1 q2
  subst this
  unfold deq
  exact DatsOk.uniq (K:=K) I xs ys vs r1 r2
 | .t xs,.t ys,v,h1,h2=>by
  unfold DatOk at h1 h2
  obtain⟨a,vs,rfl,q1,r1⟩:=h1
  obtain⟨b,ws,e,q2,r2⟩:=h2
  cases e
  have:=I.tuple_inj q1 q2
  subst this
  unfold deq
  exact DatsOk.uniq (K:=K) I xs ys vs r1 r2
 | .l xs,.t ys,v,h1,h2=>by
  unfold DatOk at h1 h2
  obtain⟨a,vs,rfl,q1,r1⟩:=h1
  obtain⟨b,ws,e,q2,r2⟩:=h2
  cases e
  obtain⟨_,_,⟨o,n,e1,c1,_⟩,_⟩:=I.list q1
  obtain⟨_,_,⟨o',e2,c2,_⟩,_⟩:=I.tuple q2
  rw[e1]at e2;cases e2
  rw[c1]at c2;exact absurd c2 (by simp)
 | .t xs,.l ys,v,h1,h2=>by
  unfold DatOk at h1 h2
  obtain⟨a,vs,rfl,q1,r1⟩:=h1
  obtain⟨b,ws,e,q2,r2⟩:=h2
  cases e
  obtain⟨_,_,⟨o',e2,c2,_⟩,_⟩:=I.tuple q1
  obtain⟨_,_,⟨o,n,e1,c1,_⟩,_⟩:=I.list q2
  rw[e1]at e2;cases e2
  rw[c1]at c2;exact absurd c2 (by simp)
theorem DatsOk.uniq {K:Q44}{X:Cx}{pins:List (Addr×Obj)}{σ:St}{H:Hp}{s:Shared}(I:Inv X pins σ H s):∀(xs ys:List DT) (vs:List V),DatsOk X.K H xs vs->DatsOk X.K H ys vs->deqs xs ys=true
 | [],[],vs,h1,h2=>by unfold deqs;rfl
 | [],y::ys,vs,h1,h2=>by
  unfold DatsOk at h1 h2
  subst h1
  obtain⟨_,_,e,_⟩:=h2
  cases e
 | x::xs,[],vs,h1,h2=>by
  unfold DatsOk at h1 h2
  subst h2
  obtain⟨_,_,e,_⟩:=h1
  cases e
 | x::xs,y::ys,vs,h1,h2=>by
  unfold DatsOk at h1 h2
  obtain⟨v,r,rfl,a1,a2⟩:=h1
  obtain⟨v',r',e,b1,b2⟩:=h2
  cases e
  unfold deqs
  rw[DatOk.uniq (K:=K) I x y v a1 b1,DatsOk.uniq (K:=K) I xs ys r a2 b2]
  rfl
end
section
variable {X:Cx}{pins:List (Addr×Obj)}{σ:St}{H:Hp}{s:Shared}
open SeqAt
theorem ZeR {A:Around}{w:V}{u:Value}{l:Addr}{items:Array Value}(hf:Zbm w=true)(r:RelV w u)(hl:s.heap.IsList l items)(hu:A.units<cLine):EqAt A s u (.ref l) false/\EqAt A s (.ref l) u false/\RcAt A s u (.ref l) false/\RcAt A s (.ref l) u false/\RcNeAt A s u (.ref l) true/\RcNeAt A s (.ref l) u true:=by
 cases w with
 | non=>cases r;exact⟨.none_list hl hu,.list_none hl hu,.none_list hl hu,.list_none hl hu,.none_list hl hu,.list_none hl hu⟩
 | bl b=>cases r;exact⟨.bool_list b hl hu,.list_bool b hl hu,.bool_list b hl hu,.list_bool b hl hu,.bool_list b hl hu,.list_bool b hl hu⟩
 | int i=>obtain⟨t,rfl⟩:=r;exact⟨.int_list i t hl hu,.list_int i t hl hu,.int_list i t hl hu,.list_int i t hl hu,.int_list i t hl hu,.list_int i t hl hu⟩
 | str i=>obtain⟨t,rfl⟩:=r;exact⟨.str_list i t hl hu,.list_str i t hl hu,.str_list i t hl hu,.list_str i t hl hu,.str_list i t hl hu,.list_str i t hl hu⟩
 | _=>exact absurd (show false=true from hf) YAF
theorem ZeQ {A:Around}{w:V}{u:Value}{l:Addr}{items:Array Value}(hf:Zbm w=true)(r:RelV w u)(hl:s.heap.IsTuple l items)(hu:A.units<cLine):EqAt A s u (.ref l) false/\EqAt A s (.ref l) u false/\RcAt A s u (.ref l) false/\RcAt A s (.ref l) u false/\RcNeAt A s u (.ref l) true/\RcNeAt A s (.ref l) u true:=by
 cases w with
 | non=>cases r;exact⟨.none_tuple hl hu,.tuple_none hl hu,.none_tuple hl hu,.tuple_none hl hu,.none_tuple hl hu,.tuple_none hl hu⟩
 | bl b=>cases r;exact⟨.bool_tuple b hl hu,.tuple_bool b hl hu,.bool_tuple b hl hu,.tuple_bool b hl hu,.bool_tuple b hl hu,.tuple_bool b hl hu⟩
 | int i=>obtain⟨t,rfl⟩:=r;exact⟨.int_tuple i t hl hu,.tuple_int i t hl hu,.int_tuple i t hl hu,.tuple_int i t hl hu,.int_tuple i t hl hu,.tuple_int i t hl hu⟩
 | str i=>obtain⟨t,rfl⟩:=r;exact⟨.str_tuple i t hl hu,.tuple_str i t hl hu,.str_tuple i t hl hu,.tuple_str i t hl hu,.str_tuple i t hl hu,.tuple_str i t hl hu⟩
 | _=>exact absurd (show false=true from hf) YAF
theorem Zmj {A:Around}{l b:Addr}{ps qs:List Value}{xs ys:List DT}(hl:s.heap.IsList l ps.toArray)(hb:s.heap.IsList b qs.toArray)(n1:ps.length=xs.length)(n2:qs.length=ys.length)(hu:A.units<cLine)
  (he:∀j (h1:j<ps.length) (h2:j<qs.length),EqAt A.in1 s ps[j] qs[j] (ZaY xs ys j)):RcAt A s (.ref l) (.ref b) (deqs xs ys)/\RcNeAt A s (.ref l) (.ref b) (!deqs xs ys):=by
 rw[Zgy]
 by_cases hz:ps.length=qs.length
 .have hsz:ps.toArray.size=qs.toArray.size:=by rw[YAP,YAP];exact hz
  have e1:((List.range (min xs.length ys.length)).all (ZaY xs ys)&&xs.length == ys.length)=(List.range ps.toArray.size).all (ZaY xs ys):=by
   have:xs.length=ys.length:=by omega
   rw[YAP,n1,<-this,Nat.min_self]
   simp
  rw[e1]
  exact⟨RcAt.lists hl hb hsz hu fun j j1 j2=>by simpa using he j (by simpa using j1) (by simpa using j2),RcNeAt.lists hl hb hsz hu fun j j1 j2=>by simpa using he j (by simpa using j1) (by simpa using j2)⟩
 .have e1:((List.range (min xs.length ys.length)).all (ZaY xs ys)&&xs.length == ys.length)=false:=by
   have:xs.length≠ys.length:=by omega
   simp[this]
  rw[e1]
  have hsz:(ps.toArray.size != qs.toArray.size)=true:=by rw[YAP,YAP];simpa using hz
  exact⟨RcAt.lists_lengths hl hb hsz hu,RcNeAt.lists_lengths hl hb hsz hu⟩
theorem Zmi {A:Around}{l b:Addr}{ps qs:List Value}{xs ys:List DT}(hl:s.heap.IsTuple l ps.toArray)(hb:s.heap.IsTuple b qs.toArray)(n1:ps.length=xs.length)(n2:qs.length=ys.length)(hu:A.units<cLine)
  (he:∀j (h1:j<ps.length) (h2:j<qs.length),EqAt A.in1 s ps[j] qs[j] (ZaY xs ys j)):RcAt A s (.ref l) (.ref b) (deqs xs ys)/\RcNeAt A s (.ref l) (.ref b) (!deqs xs ys):=by
 have e1:deqs xs ys=((List.range (min ps.toArray.size qs.toArray.size)).all (ZaY xs ys)&&ps.toArray.size == qs.toArray.size):=by
  rw[Zgy,YAP,YAP,n1,n2]
 rw[e1]
 exact⟨RcAt.tuples hl hb hu fun j j1 j2=>by simpa using he j (by simpa using j1) (by simpa using j2),RcNeAt.tuples hl hb hu fun j j1 j2=>by simpa using he j (by simpa using j1) (by simpa using j2)⟩
mutual
theorem Zm4 (I:Inv X pins σ H s):∀(d e:DT) (A:Around) (x y:V) (u v:Value),DatOk X.K H d x->DatOk X.K H e y->RelV x u->RelV y v->A.units+dep d<cLine->EqAt A s u v (deq d e)
 | .f w,.f w',A,x,y,u,v,h1,h2,ru,rv,hu=>by
  unfold DatOk at h1 h2
  obtain⟨rfl,f1⟩:=h1
  obtain⟨rfl,f2⟩:=h2
  unfold deq
  exact Zkj ru rv f1 f2
 | .f w,.l ys,A,x,y,u,v,h1,h2,ru,rv,hu=>by
  unfold DatOk at h1 h2
  obtain⟨rfl,f1⟩:=h1
  obtain⟨a,vs,rfl,q,_⟩:=h2
  cases rv
  obtain⟨its,_,p,_⟩:=I.list q
  unfold deq
  exact(ZeR f1 ru p.isList (by unfold dep at hu;omega)).1
 | .f w,.t ys,A,x,y,u,v,h1,h2,ru,rv,hu=>by
  unfold DatOk at h1 h2
  obtain⟨rfl,f1⟩:=h1
  obtain⟨a,vs,rfl,q,_⟩:=h2
  cases rv
  obtain⟨its,_,p,_⟩:=I.tuple q
  unfold deq
  exact(ZeQ f1 ru (show s.heap.IsTuple a its.toArray from p) (by unfold dep at hu;omega)).1
 | .l xs,.f w,A,x,y,u,v,h1,h2,ru,rv,hu=>by
  unfold DatOk at h1 h2
  obtain⟨rfl,f1⟩:=h2
  obtain⟨a,vs,rfl,q,_⟩:=h1
  cases ru
  obtain⟨its,_,p,_⟩:=I.list q
  unfold deq
  exact(ZeR f1 rv p.isList (by omega)).2.1
 | .t xs,.f w,A,x,y,u,v,h1,h2,ru,rv,hu=>by
  unfold DatOk at h1 h2
  obtain⟨rfl,f1⟩:=h2
  obtain⟨a,vs,rfl,q,_⟩:=h1
  cases ru
  obtain⟨its,_,p,_⟩:=I.tuple q
  unfold deq
  exact(ZeQ f1 rv (show s.heap.IsTuple a its.toArray from p) (by omega)).2.1
 | .l xs,.t ys,A,x,y,u,v,h1,h2,ru,rv,hu=>by
  unfold DatOk at h1 h2
  obtain⟨a,vs,rfl,q,_⟩:=h1
  obtain⟨b,ws,rfl,q',_⟩:=h2
  cases ru
  cases rv
  obtain⟨its,_,p,_⟩:=I.list q
  obtain⟨its',_,p',_⟩:=I.tuple q'
  unfold deq
  exact EqAt.list_tuple p.isList (show s.heap.IsTuple b its'.toArray from p') (by omega)
 | .t xs,.l ys,A,x,y,u,v,h1,h2,ru,rv,hu=>by
  unfold DatOk at h1 h2
  obtain⟨a,vs,rfl,q,_⟩:=h1
  obtain⟨b,ws,rfl,q',_⟩:=h2
  cases ru
  cases rv
  obtain⟨its,_,p,_⟩:=I.tuple q
  obtain⟨its',_,p',_⟩:=I.list q'
  unfold deq
  exact EqAt.tuple_list (show s.heap.IsTuple a its.toArray from p) p'.isList (by omega)
 | .l xs,.l ys,A,x,y,u,v,h1,h2,ru,rv,hu=>by
  by_cases hxy:x=y
  .subst hxy
   rw[DatOk.uniq (K:=X.K) I (.l xs) (.l ys) x h1 h2]
   unfold DatOk at h1
   obtain⟨a,vs,rfl,_⟩:=h1
   cases ru
   cases rv
   exact EqAt.same _
  .unfold DatOk at h1 h2
   obtain⟨a,vs,rfl,q,d1⟩:=h1
   obtain⟨b,ws,rfl,q',d2⟩:=h2
   cases ru
   cases rv
   obtain⟨its,r,p,_⟩:=I.list q
   obtain⟨its',r',p',_⟩:=I.list q'
   unfold deq
   unfold dep at hu
   refine EqAt.of_refs (fun e=>hxy (by rw[e])) (Zmj p.isList p'.isList (by rw[<-r.length,d1.length]) (by rw[<-r'.length,d2.length]) (by omega) fun j j1 j2=>?_).1
   exact ZdU I xs ys A.in1 vs ws its its' d1 d2 r r' (by show A.units+1+_<_;omega) j j1 j2
 | .t xs,.t ys,A,x,y,u,v,h1,h2,ru,rv,hu=>by
  by_cases hxy:x=y
  .subst hxy
   rw[DatOk.uniq (K:=X.K) I (.t xs) (.t ys) x h1 h2]
   unfold DatOk at h1
   obtain⟨a,vs,rfl,_⟩:=h1
   cases ru
   cases rv
   exact EqAt.same _
  .unfold DatOk at h1 h2
   obtain⟨a,vs,rfl,q,d1⟩:=h1
   obtain⟨b,ws,rfl,q',d2⟩:=h2
   cases ru
   cases rv
   obtain⟨its,r,p,_⟩:=I.tuple q
   obtain⟨its',r',p',_⟩:=I.tuple q'
   unfold deq
   unfold dep at hu
   refine EqAt.of_refs (fun e=>hxy (by rw[e])) (Zmi (show s.heap.IsTuple a its.toArray from p) (show s.heap.IsTuple b its'.toArray from p') (by rw[<-r.length,d1.length]) (by rw[<-r'.length,d2.length]) (by omega) fun j j1 j2=>?_).1
   exact ZdU I xs ys A.in1 vs ws its its' d1 d2 r r' (by show A.units+1+_<_;omega) j j1 j2
theorem ZdU (I:Inv X pins σ H s):∀(xs ys:List DT) (A:Around) (vs ws:List V) (ps qs:List Value),DatsOk X.K H xs vs->DatsOk X.K H ys ws->Vals vs ps->Vals ws qs->A.units+deps xs<cLine ->
  ∀(j:Nat) (h1:j<ps.length) (h2:j<qs.length),EqAt A s ps[j] qs[j] (ZaY xs ys j)
 | [],ys,A,vs,ws,ps,qs,d1,d2,r1,r2,hu,j,h1,h2=>by
  unfold DatsOk at d1
  subst d1
  cases r1
  exact absurd h1 (Nat.not_lt_zero _)
 | x::xs,[],A,vs,ws,ps,qs,d1,d2,r1,r2,hu,j,h1,h2=>by
  unfold DatsOk at d2
  subst d2
  cases r2
  exact absurd h2 (Nat.not_lt_zero _)
 | x::xs,y::ys,A,vs,ws,ps,qs,d1,d2,r1,r2,hu,j,h1,h2=>by
  unfold DatsOk at d1 d2
  obtain⟨v,vr,rfl,a1,a2⟩:=d1
  obtain⟨w,wr,rfl,b1,b2⟩:=d2
  unfold deps at hu
  cases r1 with
  | cons ru rus=>
   cases r2 with
   | cons rv rvs=>
    cases j with
    | zero=>
     have:=Zm4 I x y A v w _ _ a1 b1 ru rv (by omega)
     simpa [ZaY] using this
    | succ j=>
     have:=ZdU I xs ys A vr wr _ _ a2 b2 rus rvs (by omega) j (Nat.lt_of_succ_lt_succ h1) (Nat.lt_of_succ_lt_succ h2)
     simpa [ZaY] using this
end
theorem Zmh (I:Inv X pins σ H s){d e:DT}{A:Around}{x y:V}{u v:Value}(h1:DatOk X.K H d x)(h2:DatOk X.K H e y)(ru:RelV x u)(rv:RelV y v)(hu:A.units+dep d<cLine)(hn:¬(Zbm x=true/\Zbm y=true)):
  RcAt A s u v (deq d e)/\RcNeAt A s u v (!deq d e):=by
 cases d with
 | f w=>
  unfold DatOk at h1
  obtain⟨rfl,f1⟩:=h1
  cases e with
  | f w'=>
   unfold DatOk at h2
   obtain⟨rfl,f2⟩:=h2
   exact absurd ⟨f1,f2⟩ hn
  | l ys=>
   unfold DatOk at h2
   obtain⟨a,vs,rfl,q,_⟩:=h2
   cases rv
   obtain⟨its,_,p,_⟩:=I.list q
   have z:=ZeR (A:=A) f1 ru p.isList (by omega)
   unfold deq
   exact⟨z.2.2.1,z.2.2.2.2.1⟩
  | t ys=>
   unfold DatOk at h2
   obtain⟨a,vs,rfl,q,_⟩:=h2
   cases rv
   obtain⟨its,_,p,_⟩:=I.tuple q
   have z:=ZeQ (A:=A) f1 ru (show s.heap.IsTuple a its.toArray from p) (by omega)
   unfold deq
   exact⟨z.2.2.1,z.2.2.2.2.1⟩
 | l xs=>
  unfold DatOk at h1
  obtain⟨a,vs,rfl,q,d1⟩:=h1
  cases ru
  obtain⟨its,r,p,_⟩:=I.list q
  cases e with
  | f w=>
   unfold DatOk at h2
   obtain⟨rfl,f1⟩:=h2
   have z:=ZeR (A:=A) f1 rv p.isList (by omega)
   unfold deq
   exact⟨z.2.2.2.1,z.2.2.2.2.2⟩
  | l ys=>
   unfold DatOk at h2
   obtain⟨b,ws,rfl,q',d2⟩:=h2
   cases rv
   obtain⟨its',r',p',_⟩:=I.list q'
   unfold deq
   unfold dep at hu
   exact Zmj p.isList p'.isList (by rw[<-r.length,d1.length]) (by rw[<-r'.length,d2.length]) (by omega) fun j j1 j2=>ZdU I xs ys A.in1 vs ws its its' d1 d2 r r' (by show A.units+1+_<_;omega) j j1 j2
  | t ys=>
   unfold DatOk at h2
   obtain⟨b,ws,rfl,q',d2⟩:=h2
   cases rv
   obtain⟨its',r',p',_⟩:=I.tuple q'
   unfold deq
   exact⟨RcAt.list_tuple p.isList (show s.heap.IsTuple b its'.toArray from p') (by omega),RcNeAt.list_tuple p.isList (show s.heap.IsTuple b its'.toArray from p') (by omega)⟩
 | t xs=>
  unfold DatOk at h1
  obtain⟨a,vs,rfl,q,d1⟩:=h1
  cases ru
  obtain⟨its,r,p,_⟩:=I.tuple q
  cases e with
  | f w=>
   unfold DatOk at h2
   obtain⟨rfl,f1⟩:=h2
   have z:=ZeQ (A:=A) f1 rv (show s.heap.IsTuple a its.toArray from p) (by omega)
   unfold deq
   exact⟨z.2.2.2.1,z.2.2.2.2.2⟩
  | t ys=>
   unfold DatOk at h2
   obtain⟨b,ws,rfl,q',d2⟩:=h2
   cases rv
   obtain⟨its',r',p',_⟩:=I.tuple q'
   unfold deq
   unfold dep at hu
   exact Zmi (show s.heap.IsTuple a its.toArray from p) (show s.heap.IsTuple b its'.toArray from p') (by rw[<-r.length,d1.length]) (by rw[<-r'.length,d2.length]) (by omega) fun j j1 j2=>ZdU I xs ys A.in1 vs ws its its' d1 d2 r r' (by show A.units+1+_<_;omega) j j1 j2
  | l ys=>
   unfold DatOk at h2
   obtain⟨b,ws,rfl,q',d2⟩:=h2
   cases rv
   obtain⟨its',r',p',_⟩:=I.list q'
   unfold deq
   exact⟨RcAt.tuple_list (show s.heap.IsTuple a its.toArray from p) p'.isList (by omega),RcNeAt.tuple_list (show s.heap.IsTuple a its.toArray from p) p'.isList (by omega)⟩
end
def rEqD (K:Q44)(neg:Bool):R2:=fun x y H Q=>(scal x y=true/\Q (.bl (if neg then !decide (x=y) else decide (x=y))) H) \/
 ∃d e,DatOk K H d x/\DatOk K H e y/\¬(Zbm x=true/\Zbm y=true)/\dep d<=60/\Q (.bl (if neg then !deq d e else deq d e)) H
theorem Zmz {X:Cx}(hu:X.A.units+64<cLine):OpR X (compareOp .Eq) (rEqD X.K false):=by
 intro pins s σ H x y v u Q I rx ry h
 rcases h with⟨h1,q⟩|⟨d,e,h1,h2,hn,hd,q⟩
 .exact Zoz pins s σ H x y v u Q I rx ry ⟨h1,q⟩
 .exact(Zmh I h1 h2 rx ry (by omega) hn).1 _ _ _ _ ⟨.bl _,H,I,rfl,q⟩
theorem Zmv {X:Cx}(hu:X.A.units+64<cLine):OpR X (compareOp .NotEq) (rEqD X.K true):=by
 intro pins s σ H x y v u Q I rx ry h
 rcases h with⟨h1,q⟩|⟨d,e,h1,h2,hn,hd,q⟩
 .exact Zoy pins s σ H x y v u Q I rx ry ⟨h1,q⟩
 .exact(Zmh I h1 h2 rx ry (by omega) hn).2 _ _ _ _ ⟨.bl _,H,I,rfl,q⟩
theorem ZeX {K:Q44}{H:Hp}:∀ {vs:List V},vs.all Zbm=true->DatsOk K H (vs.map DT.f) vs
 | [],_=>by unfold DatsOk;rfl
 | v::r,h=>by
  rw[YDc,YAU]at h
  rw[YAj]
  unfold DatsOk
  exact⟨v,r,rfl,by unfold DatOk;exact⟨rfl,h.1⟩,ZeX h.2⟩
theorem ZfO (vs:List V):deps (vs.map DT.f)=0:=by
 induction vs with
 | nil=>rfl
 | cons v r ih=>rw[YAj];unfold deps;rw[ih];rfl
theorem Zkh (a b:Q11):eqV (tx a) (tx b)=decide (tx a=tx b):=by
 rw[ZfP]
 show ((⟨a.toArray⟩:Str) == ⟨b.toArray⟩)=_
 by_cases h:a=b
 .subst h;simp
 .rw[decide_eq_false h]
  exact beq_eq_false_iff_ne.mpr fun z=>h (Zc2.mp (congrArg V.str z))
theorem datL {K:Q44}{H:Hp}{a:Addr}{vs:List V}(h:SqL K H a vs)(hf:vs.all Zbm=true):DatOk K H (.l (vs.map DT.f)) (.ref a):=by
 unfold DatOk
 exact⟨a,vs,rfl,h,ZeX hf⟩
theorem datT {K:Q44}{H:Hp}{a:Addr}{vs:List V}(h:SqT K H a vs)(hf:vs.all Zbm=true):DatOk K H (.t (vs.map DT.f)) (.ref a):=by
 unfold DatOk
 exact⟨a,vs,rfl,h,ZeX hf⟩
end L2
namespace L2
open PySem PySem.Spec PyProof.Rows
open PySem.W (Frag findIn specialIn typeIn mroIn clsIn InstAt Looks)
def Ze2:List Value:=[.type "ValueError",.type "Exception",.type "BaseException",.type "object"]
def Zkd:Value->Bool
 | .ref _=>true
 | _=>false
def xmro (l:List Value):Bool:=l.dropWhile Zkd == Ze2
theorem Zer {P:List Value->Prop}(h0:P Ze2)(h1:∀c r,P r->P (.ref c::r)):∀l:List Value,xmro l=true->P l
 | [],e=>by simp[xmro,Ze2]at e
 | v::r,e=>by
  cases hv:Zkd v with
  | true=>
   cases v with
   | ref c=>
    refine h1 c r (Zer h0 h1 r ?_)
    unfold xmro at e ⊢
    rw[List.dropWhile_cons,YAW hv]at e
    exact e
   | _=>cases hv
  | false=>
   unfold xmro at e
   rw[List.dropWhile_cons,YAX (by rw[hv];exact YAF)]at e
   rw[show (v::r)=Ze2 by simpa using e]
   exact h0
theorem Zik (self:Value):refuseLoop self "__setattr__" Ze2=pure ():=by
 first | rfl | kernel_rfl
theorem Zjo (self:Value){l:List Value}(e:xmro l=true):refuseLoop self "__setattr__" l=pure ():=
 Zer (P:=fun l=>refuseLoop self "__setattr__" l=pure ()) (Zik self) (fun c r h=>by rw[refuseLoop_ref];exact h) l e
theorem Zca {n:String}{b:Bool}(h:Ze2.contains (.type n)=b){l:List Value}(e:xmro l=true):l.contains (.type n)=b:=
 Zer (P:=fun l=>l.contains (.type n)=b) h (fun c r h=>by rw[YAl,h];rfl) l e
structure Xc (K:Frag)(C:Addr):Prop where
 ga:findIn K (.ref C) "__getattribute__"=some (some (.builtin "BaseException.__getattribute__"))
 gr:findIn K (.ref C) "__getattr__"=some none
 sa:findIn K (.ref C) "__setattr__"=some (some (.builtin "object.__setattr__"))
 hd:PySem.W.hasDictIn K C=true
 mr:(clsIn K C).any (fun cd=>xmro cd.mro)=true
theorem ZhS {l:List Value}(e:xmro l=true):l.isEmpty=false:=by
 cases l with
 | nil=>simp[xmro,Ze2]at e
 | cons _ _=>rfl
theorem Xc.base {K:Frag}{C:Addr}(c:Xc K C){n:String}{b:Bool}(h:Ze2.contains (.type n)=b):mroIn K C (.type n)=some b:=by
 obtain⟨cd,hc,hm⟩:=YCG c.mr
 unfold PySem.W.mroIn
 rw[hc,YBr,YAX (by rw[ZhS hm];exact YAF),Zca h hm]
def xo (a C:Addr)(d:Option Addr):HO:=.ext fun h=>∃(o:Obj) (t:Addr),h.get? a=some o/\o.cls=.ref C/\o.dict=d/\o.data=.fields #[.ref t,.none,.none,.none,.bool false,.none]
def xdO (d:Addr)(fs:List (Str×V)):HO:=.ext fun h=>fs.length<=1000/\∃mA,h.Ns1 d mA/\(∀f,RelO (fs.lookup f) (mA f))/\PySem.Within mA (fs.map (·.1))
inductive XAt (H:Hp) (e C:Addr):List (Str×V)->Prop where
 | bare:H e=some (xo e C none)->XAt H e C []
 | full {d:Addr} {fs:List (Str×V)}:H e=some (xo e C (some d))->H d=some (xdO d fs)->d≠e->XAt H e C fs
theorem ZlJ {H:Hp}{a:Addr}{o:HO}(h:H a=some o):upd H a o=H:=by
 funext b
 unfold upd
 by_cases hb:b=a
 .rw[YAW hb,hb,h]
 .rw[YAX hb]
section
variable {X:Cx}{pins:List (Addr×Obj)}{σ:St}{H:Hp}{s:Shared}{e C:Addr}{fs:List (Str×V)}{f:Str}{v:V}{A:Around}{E:Q33}
theorem Zc0 {d:Option Addr}(I:Inv X pins σ H s)(h:H e=some (xo e C d)):∃(o:Obj) (t:Addr),s.heap.get? e=some o/\o.cls=.ref C/\o.dict=d/\o.data=.fields #[.ref t,.none,.none,.none,.bool false,.none]:=(I.hok e _ h).1
theorem Zku {P:Program}{w:World}{H:Hp}{h:Heap}{d:Option Addr}{o:Obj}{t:Addr}(h1:h.get? e=some o)(h2:o.cls=.ref C)(h3:o.dict=d)(h4:o.data=.fields #[.ref t,.none,.none,.none,.bool false,.none]):ObjOk P w H h e (xo e C d):=
 ⟨⟨o,t,h1,h2,h3,h4⟩,⟨o,h1⟩,fun a b ⟨o,t,q1,q⟩ k=>⟨o,t,k o q1,q⟩⟩
theorem ZhU {P:Program}{w:World}{H:Hp}{h:Heap}{d:Addr}{mA:Str->Option Value}(hz:fs.length<=1000)(h1:h.Ns1 d mA)(h2:∀f,RelO (fs.lookup f) (mA f))(h3:PySem.Within mA (fs.map (·.1))):ObjOk P w H h d (xdO d fs):=by
 obtain⟨o,es,ep,ho,r⟩:=id h1
 refine⟨⟨hz,mA,h1,h2,h3⟩,⟨o,ho⟩,fun a b ⟨hz,m,⟨o,es,ep,q,r⟩,z⟩ k=>⟨hz,m,⟨o,es,ep,k o q,r⟩,z⟩⟩
theorem XAt.inst (I:Inv X pins σ H s)(x:XAt H e C fs):∃(ox:Obj) (od:Option Obj),InstAt s.heap e ox C od/\∀name,∃r,(match od with | some o=>PySem.W.lookIn name o | none=>some none)=some r/\RelO (fs.lookup name) r:=by
 cases x with
 | bare h=>
  obtain⟨o,t,h1,h2,h3,h4⟩:=Zc0 I h
  exact⟨o,none,⟨h1,h2,by unfold PySem.W.notCls;rw[h4],by rw[h3];trivial⟩,fun name=>⟨none,rfl,by trivial⟩⟩
 | @full d _ h h' hne=>
  obtain⟨o,t,h1,h2,h3,h4⟩:=Zc0 I h
  obtain⟨⟨_,mA,hn,hr,_⟩,_⟩:=I.hok d _ h'
  obtain⟨od,hod,hl⟩:=ZdJ hn
  exact⟨o,some od,⟨h1,h2,by unfold PySem.W.notCls;rw[h4],by rw[h3];exact hod⟩,fun name=>⟨mA name,hl name,hr name⟩⟩
theorem ZfK:entryFor table "BaseException.__getattribute__"=some Builtin.«object.__getattribute__»:=F.entry_bexc_ga
theorem Zhf {K:Frag}{x:Addr}{ox:Obj}{od:Option Obj}{name:Str}{expr:Bool}{u:Value}{prog:Program}{w:World}{Q:Q33}(KX:K.In s.heap)(I:InstAt s.heap x ox C od)(c:Xc K C)
  (hf:PySem.W.findObj K C od name=some (.value u)) (hh:PySem.W.handedIn u=true) (h:Q u { s with toks:=s.toks+1 }):wpAny (model prog w) A (getAttr (.ref x) name expr) Q E s:=by
 obtain⟨hp,g,d,t,os⟩:=s
 have L0:=I.type (M:=model prog w)
 have L1:=YBt (M:=model prog w) KX c.ga
 have L2:=YBt (M:=model prog w) KX c.gr
 have L3:=PySem.W.looks_find (M:=model prog w) KX I hf
 have L4:=YDH (M:=model prog w) KX (c.base (n:="BaseException") (b:=true) (by decide +kernel))
 have hx2:(Value.builtin "BaseException.__getattribute__" == Value.builtin "object.__getattribute__")=false:=by decide +kernel
 have slot:=F.excAttr_ValueError.ga
 unfold getAttr getAttrBy
 refine YAA (wpAny_mkText (YBL (YAA (L0.at (YAA (L1.at ?_))))))
 dsimp only
 rw[hx2,YCI,YAX YAF]
 unfold getAttrByItsOwn hookBefore
 refine YAA ?_
 show wpAny _ _ (if onTheHeap (Value.ref C)=true then typeLookup (.ref C) "__getattr__" else pure none) _ _ _
 rw[YAW (show onTheHeap (Value.ref C)=true from rfl)]
 refine L2.at (YAA (YCg (YBL ?_)))
 unfold callGetattribute
 rw[show (expr&&onTheHeap (Value.builtin "BaseException.__getattribute__"))=false from YCI _,YAX YAF]
 unfold boundAndCalled
 rw[slot.bind]
 refine YAA (YAH ?_)
 show wpAny _ _ (call (.builtin "BaseException.__getattribute__") [.ref x,.str name t]) _ _ _
 refine YCS (codeAny_call_builtin slot.plain ZfK ?_)
 refine @PySem.W.check_slot (model prog w) _ _ ⟨hp,g,d,t+1,os⟩ "BaseException.__getattribute__" "BaseException" "__getattribute__" (.ref x) [.str name t] [] _ (by decide +kernel) (by decide +kernel) (L0.andThen L4) (F.args_bexc_ga (.ref x) (.str name t)) ?_
 refine YAA (YAH (YAA (YAH (YAA (L0.at (YAA (L3.at (YAH ?_))))))))
 show wpAny _ _ (handedOut u) _ _ _
 rw[PySem.W.handedOut_of hh]
 exact YAH h
theorem xset {y:V}{u:Value}{Q:Unit->Shared->Prop}(I:Inv X pins σ H s)(x:XAt H e C fs)(c:Xc X.K C)(n:NoAttr X.K C f)(hz:fs.length<1000)(ry:RelV y u)
  (h:∀s' H',Inv X pins σ H' s'->XAt H' e C (putF f y fs)->(∀b o,H b=some o->b≠e->(∀d,H e=some (xo e C (some d))->b≠d)->H' b=some o) ->
   (∃d,H' e=some (xo e C (some d))/\(H e=some (xo e C (some d))\/H d=none))->Q () s'):wpAny (model X.prog X.w) A (setAttr (.ref e) f u) Q E s:=by
 obtain⟨ox,od,J,hr⟩:=x.inst I
 obtain⟨cd,hc,hd'⟩:=YCG c.hd
 obtain⟨cd',hc2,hm⟩:=YCG c.mr
 rw[hc]at hc2;cases hc2
 refine PySem.W.set_plain I.kIn J c.sa ?_
 have SF:=PySem.F.store_object
 have hne:=ZhS hm
 have KX:X.K.In ({ s with toks:=s.toks+1 }:Shared).heap:=I.kIn
 have J1:InstAt ({ s with toks:=s.toks+1 }:Shared).heap e ox C od:=J
 have L1:Looks (model X.prog X.w) s.heap (mroOf (.ref C)) cd.mro:=(PySem.W.looks_clsIn I.kIn hc).andThen .now
 have sub:Looks (model X.prog X.w) s.heap (isInstance (.ref e) (.type "object")) true:=J.type.andThen (YDH I.kIn (c.base (n:="object") (b:=true) (by decide +kernel)))
 refine codeAny_call_builtin SF.slot.plain SF.entry (@PySem.W.check_slot (model X.prog X.w) _ _ { s with toks:=s.toks+1 } "object.__setattr__" "object" "__setattr__" (.ref e) [.str f s.toks,u] [] _ SF.kind SF.split sub (SF.args (.ref e) (.str f s.toks) u) ?_)
 rw[PySem.W.osa_eq,refuse_eq]
 refine YAA (YAA (Looks.here (s:={ s with toks:=s.toks+1 }) J.type (YAA (Looks.here (s:={ s with toks:=s.toks+1 }) L1 ?_))))
 rw[Zjo _ hm]
 refine YAH (YAA (Looks.here (s:={ s with toks:=s.toks+1 }) J.type (YAA (Looks.here (s:={ s with toks:=s.toks+1 }) (YBt I.kIn n) (YAA (YAH ?_))))))
 dsimp only
 refine YAA (YAH (YAA (YAA ?_)))
 have LC:=PySem.W.looks_clsIn (M:=model X.prog X.w) I.kIn hc
 cases x with
 | bare hb=>
  obtain⟨o,t,h1,h2,h3,h4⟩:=Zc0 I hb
  obtain⟨oc,odi,oda,osl⟩:=o
  dsimp only at h2 h3 h4
  subst h2 h3 h4
  refine wpAny_loadPart h1 (YAA (Looks.here (s:={ s with toks:=s.toks+1 }) LC ?_))
  rw[hd']
  refine YAA (wpAny_alloc (YAA (wpAny_update (YAC _ h1) (YAH ?_))))
  dsimp only
  refine YAA (YAH (YAA ?_))
  have hlt:e<s.heap.objs.size:=YAL h1
  have hfr:=I.fresh
  have hed:s.heap.objs.size≠e:=Nat.ne_of_gt hlt
  have ee:(s.heap.push PySem.W.emptyDict).get? s.heap.objs.size=some PySem.W.emptyDict:=YAQ s.heap rfl
  have e2:((s.heap.push PySem.W.emptyDict).update e fun o=>{ o with dict:=some s.heap.objs.size }).get? e=some ⟨.ref C,some s.heap.objs.size,.fields #[.ref t,.none,.none,.none,.bool false,.none],osl⟩:=YBd _ (YAC _ h1) rfl
  have e3:((s.heap.push PySem.W.emptyDict).update e fun o=>{ o with dict:=some s.heap.objs.size }).get? s.heap.objs.size=some PySem.W.emptyDict:=by
   rw[YBD _ _ (YAS hed)];exact ee
  have ns:((s.heap.push PySem.W.emptyDict).update e fun o=>{ o with dict:=some s.heap.objs.size }).Ns s.heap.objs.size (fun _=>none):=⟨PySem.W.emptyDict,#[],_,e3,rfl,(fun e he=>absurd he (by simp)),fun _=>rfl⟩
  have ns1:=Heap.Ns1.of_empty ns
  have I1:=I.laid (a:=s.heap.objs.size) (o:=xdO s.heap.objs.size []) (h':=s.heap.push PySem.W.emptyDict) (t':=s.toks+1) (fun b u q=>YAC _ q) (YAJ _)
   (ZhU (fs:=[]) (YAg _) (Heap.Ns1.of_empty (h:=s.heap.push PySem.W.emptyDict) ⟨PySem.W.emptyDict,#[],_,ee,rfl,(fun e he=>absurd he (by simp)),fun _=>rfl⟩) (fun _=>by trivial) (fun y hy=>absurd rfl hy))
  have I2:=I1.write (x:=e) (e:=e) (o:=xo e C (some s.heap.objs.size)) (h':=(s.heap.push PySem.W.emptyDict).update e fun o=>{ o with dict:=some s.heap.objs.size }) (t':=s.toks+1)
   (by rw[Zaf (YAS hed),hb];exact trivial) (.inl rfl) (fun b u hbe q=>by rw[YBD _ _ (YAS hbe)];exact q) ⟨_,e2⟩ (Zku e2 rfl rfl rfl)
  refine wpAny_nsSet1 (s:={ s with heap:=(s.heap.push PySem.W.emptyDict).update e fun o=>{ o with dict:=some s.heap.objs.size },toks:=s.toks+1 }) ns1 fun h' hn2 hs2=>?_
  have hw:PySem.Within (fun x=>if x=f then some u else none) [f]:=fun z hz=>by
   by_cases q:z=f
   .rw[q];exact YAa
   .exact absurd (YAX q) hz
  obtain⟨oD,esD,epD,hoD,hdD,hcD⟩:=hn2.count hw
  refine YAA (wpAny_lookBehind hoD (by rw[hdD];exact pastItsLine_dict (YAK hcD (by rw[YAN,sizeLine_eq];decide))) ?_)
  refine YAH (h _ _ (I2.write (x:=s.heap.objs.size) (e:=s.heap.objs.size) (o:=xdO s.heap.objs.size [(f,y)]) (h':=h') (t':=s.toks+1+1) ?_ (.inl rfl) (fun b u' hb' q=>(hs2.2 b hb').trans q) ⟨oD,hoD⟩ (ZhU (by show 1<=1000;decide) hn2 ?_ hw)) ?_ ?_ ⟨_,(by rw[Zaf (YAS hed),Zad]),.inr hfr⟩)
  .rw[Zaf hed,Zad];exact trivial
  .intro g
   show RelO (List.lookup g [(f,y)]) (if g=f then some u else none)
   by_cases q:g=f
   .rw[YAW q,q];simp[YBZ];exact ry
   .have hbq:(g == f)=false:=by simpa using q
    rw[YAX q];simp[YBZ,hbq];trivial
  .refine .full (d:=s.heap.objs.size) (by rw[Zaf (YAS hed),Zad]) ?_ hed
   rw[Zad];rfl
  .intro b o' hb' hbe _
   have nb:b≠s.heap.objs.size:=Zai hb' hfr
   rw[Zaf nb,Zaf hbe,Zaf nb]
   exact hb'
 | @full d _ hb hd2 hne2=>
  obtain⟨o,t,h1,h2,h3,h4⟩:=Zc0 I hb
  obtain⟨oc,odi,oda,osl⟩:=o
  dsimp only at h2 h3 h4
  subst h2 h3 h4
  obtain⟨⟨hz',mA,hn,hr',hw⟩,_⟩:=I.hok d _ hd2
  refine wpAny_loadPart h1 (YAA (Looks.here (s:={ s with toks:=s.toks+1 }) LC ?_))
  rw[hd']
  refine YAH ?_
  dsimp only
  refine YAA (YAH (YAA ?_))
  refine wpAny_nsSet1 (s:={ s with toks:=s.toks+1 }) hn fun h' hn2 hs2=>?_
  obtain⟨oD,esD,epD,hoD,hdD,hcD⟩:=hn2.count (PySem.Within.cons f u hw)
  refine YAA (wpAny_lookBehind hoD (by rw[hdD];exact pastItsLine_dict (YAK hcD (by rw[YAf,YAB,sizeLine_eq];omega))) ?_)
  refine YAH (h _ _ (I.write (x:=d) (e:=d) (o:=xdO d (putF f y fs)) (h':=h') (t':=s.toks+1+1) (by rw[hd2];exact trivial) (.inl rfl) (fun b u' hb' q=>(hs2.2 b hb').trans q) ⟨oD,hoD⟩ (ZhU ?_ hn2 ?_ ?_)) ?_ ?_ ⟨d,(by rw[Zaf (YAS hne2)];exact hb),.inl hb⟩)
  .have:=Zcw f y fs;omega
  .intro g
   show RelO ((putF f y fs).lookup g) (if g=f then some u else mA g)
   rw[ZaF]
   by_cases q:g=f
   .rw[YAW q,YAW q];exact ry
   .rw[YAX q,YAX q];exact hr' g
  .intro g hg
   by_cases q:g=f
   .rw[q];exact(Zb2 f y fs).1
   .refine(Zb2 f y fs).2 g (hw g fun z=>hg ?_)
    show (if g=f then some u else mA g)=none
    rw[YAX q];exact z
  .exact .full (d:=d) (by rw[Zaf (YAS hne2)];exact hb) Zad hne2
  .intro b o' hb' hbe hbd
   rw[Zaf (hbd d hb)]
   exact hb'
end
abbrev xraw (C t:Addr):Obj:={ cls:=.ref C,data:=.fields #[.ref t,.none,.none,.none,.bool false,.none] }
abbrev tupO (vs:List Value):Obj:={ cls:=.type "tuple",data:=.seq vs.toArray }
structure Xm (K:Frag)(C:Addr):Prop where
 c:Xc K C
 ob:∃(nm q:Str) (N:Addr) (bs bm:List Value) (hdct:Bool) (sn:List Str) (sub:List Value) (ab:Bool) (col:Option Bool) (dd:Option Addr) (k0 k1 k2 k3 k5:Option Value),
  K.lookup C=some (excClassObj nm q C N bs bm hdct sn sub ab col dd k0 k1 k2 k3 k5 "ValueError.__new__")
 kp:PySem.W.keepIn K (.ref C)=true
section
variable {prog:Program}{w:World}{A:Around}{E:Q33}{h:Heap}{g:Array GenState}{d:Drawn}{t:Nat}{os:OsState}{K:Frag}
variable {nm q:Str}{C N:Addr}{bs bm:List Value}{hdct:Bool}{sn:List Str}{sub:List Value}{ab:Bool}{col:Option Bool}{dd:Option Addr}{k0 k1 k2 k3 k5:Option Value}
theorem Zhe {M:Model} {rest:List Value} {Q:Unit->Shared->Prop} (hx:xmro (.ref C::bm)=true) (hC:h.get? C=some (excClassObj nm q C N bs bm hdct sn sub ab col dd k0 k1 k2 k3 k5 "ValueError.__new__"))
  (hq:Q () ⟨h,g,d,t,os⟩):wpAny M A (checkBuiltinCall "ValueError.__new__" ⟨.ref C::rest,[]⟩) Q E ⟨h,g,d,t,os⟩:=by
 have Fn:=YDD
 have hcB:=Zca (n:="ValueError") (b:=true) (by decide +kernel) hx
 have hstar:=Fn.noStar
 simp only[checkBuiltinCall,Fn.newKind,Fn.newSplit,Fn.newRow]
 repeat (first | refine YBT hC ?_ | (refine YCc hC ?_;rw[hcB]) | refine wpAny_staticBase_exc hC ?_ | refine wpAny_madeBy_exc hC ?_ | simp only[bne_self_eq_false,YCA,if_false] | wp_step)
 exact hq
theorem xnew {R:Result->Shared->Prop} {rest:List Value} (hx:xmro (.ref C::bm)=true) (hC:h.get? C=some (excClassObj nm q C N bs bm hdct sn sub ab col dd k0 k1 k2 k3 k5 "ValueError.__new__"))
  (hq:R (.ok (.ret (.ref (h.objs.size+1)))) ⟨(h.push (tupO rest)).push (xraw C h.objs.size),g,d,t,os⟩) (hrest:rest.length<=sizeLine):
  codeAny (model prog w) A (.builtin "ValueError.__new__" ⟨.ref C::rest,[]⟩) R ⟨h,g,d,t,os⟩:=by
 have Fn:=YDD
 have hends:=Fn.ends
 have hcB:=Zca (n:="ValueError") (b:=true) (by decide +kernel) hx
 have hcA:=Zca (n:="AttributeError") (b:=false) (by decide +kernel) hx
 have hcN:=Zca (n:="NameError") (b:=false) (by decide +kernel) hx
 refine codeAny_builtinAt Fn.entry ?_
 unfold Builtin.«BaseException.__new__»
 refine PySem.wpAt_bind ?_
 show PySem.wpAt _ _ _ (stack >>= _) _ _ _
 refine PySem.wpAt_bind (PySem.wpAt_stack fun p below=>PySem.wpAt_of_wpAny ?_)
 wp_walk
 refine PySem.wpAt_of_wpAny ?_
 rw[Fn.owner]
 repeat (first | with_reducible refine wpAny_madeHere_exc Fn.canon hC ?_ | with_reducible refine YBT hC ?_ | (with_reducible refine YCc hC ?_;first | rw[hcB] | rw[hcA] | rw[hcN]) | wp_step)
 show R _ _
 rw[YBg]
 exact hq
theorem Znh {R:Result->Shared->Prop} {rest:List Value} {init:Value} (KX:K.In h) (hx:xmro (.ref C::bm)=true) (hC:h.get? C=some (excClassObj nm q C N bs bm hdct sn sub ab col dd k0 k1 k2 k3 k5 "ValueError.__new__"))
  (hi:Looks (model prog w) h (typeLookup (.ref C) "__init__") (some init)) (hb:∀self,Looks (model prog w) h (bindSpecial init self) (init,[self])) (hrest:rest.length<=sizeLine)
  (hq:codeAny (model prog w) (A.under (.builtin "type.__call__" ⟨.ref C::rest,[]⟩)) (.call init ⟨.ref (h.objs.size+1)::rest,[]⟩) (PySem.W.InitBack (h.objs.size+1) R) ⟨(h.push (tupO rest)).push (xraw C h.objs.size),g,d,t,os⟩):
  codeAny (model prog w) A (.call (.ref C) ⟨rest,[]⟩) R ⟨h,g,d,t,os⟩:=by
 have f1:=tc_lookup
 have f2:=tc_bind (.ref C)
 have hT:(⟨h,g,d,t,os⟩:Shared).TypeIs (.ref C) "type":=⟨_,hC,rfl⟩
 have Fn:=YDD
 refine codeAny_of_tree ?_
 show wpAny _ _ (callAny (.ref C) _) _ _ _
 repeat (any_goals (first | assumption | with_reducible refine YBT hC ?_ | wp_step))
 refine⟨rfl,?_⟩
 refine codeAny_call_builtin_at (Code.quiet_builtin _ (by decide +kernel)) entry_typeCall (wpAny_check_type_call_sub hC ?_)
 repeat (first | with_reducible refine YBT hC ?_ | with_reducible refine wpAny_madeBy_exc hC ?_ | wp_step)
 refine codeAny_call_builtin_code (Code.quiet_builtin _ Fn.quiet) (Zhe hx hC ?_)
 refine xnew hx hC ?_ hrest
 show wpAny _ _ _ _ _ _
 have k:∀b o,h.get? b=some o->((h.push (tupO rest)).push (xraw C h.objs.size)).get? b=some o:=fun b o e=>YAC _ (YAC _ e)
 have hC1:=k _ _ hC
 have hget:((h.push (tupO rest)).push (xraw C h.objs.size)).get? (h.objs.size+1)=some { cls:=.ref C,data:=.fields #[.ref h.objs.size,.none,.none,.none,.bool false,.none] }:=by heap_get
 have hcC:(Value.ref C::bm).contains (.ref C)=true:=by simp
 have i1:=hi.keeps k
 have b1:=(hb (.ref (h.objs.size+1))).keeps k
 have t1:Looks (model prog w) ((h.push (tupO rest)).push (xraw C h.objs.size)) (typeOf (.ref (h.objs.size+1))) (.ref C):=(Looks.ld hget).andThen .now
 unfold isInstance
 repeat (first | with_reducible refine YBT hget ?_ | (with_reducible refine YCc hC1 ?_;rw[hcC]) | wp_step)
 refine YCc hC1 ?_
 rw[hcC]
 repeat (first | with_reducible refine YBT hget ?_ | wp_step)
 show wpAny _ _ (typeLookup (.ref C) _) _ _ _
 refine i1.at (YBL (YAA (b1.at ?_)))
 refine YAA (YCS ?_)
 refine codeAny_mono hq fun r s' z=>?_
 rcases r with e | (v | _ | _ | _)<;>first | exact z | exact z.elim | skip
 obtain⟨rfl,z⟩:=z
 exact YAH (YAH z)
end
section
variable {X:Cx}{pins:List (Addr×Obj)}{σ:St}{H:Hp}{s:Shared}{C:Addr}{us:List Value}{vs:List V}{Q:VK}
theorem Inv.xmade (I:Inv X pins σ H s):Inv X pins σ (upd H (s.heap.objs.size+1) (xo (s.heap.objs.size+1) C none)) { s with heap:=(s.heap.push (tupO us)).push (xraw C s.heap.objs.size) }:=by
 have I1:Inv X pins σ H { s with heap:=s.heap.push (tupO us) }:=I.kept (t':=s.toks) fun b o e=>YAC _ e
 have e2:((s.heap.push (tupO us)).push (xraw C s.heap.objs.size)).get? (s.heap.objs.size+1)=some (xraw C s.heap.objs.size):=by
  have:=YAQ (s.heap.push (tupO us)) (o:=xraw C s.heap.objs.size) rfl
  rwa [YBg]at this
 exact I1.laid (a:=s.heap.objs.size+1) (t':=s.toks) (fun b u q=>YAC _ q) (YBv (YBg _ _)) (Zku e2 rfl rfl rfl)
theorem ZhT {e:Addr}{d:Option Addr}{R:Result->Shared->Prop}(I:Inv X pins σ H s)(m:Xm X.K C)(hx:H e=some (xo e C d))(hz:us.length<=sizeLine)(A:Around)
    (h:∀s',Inv X pins σ H s'->R (.ok (.ret .none)) s'):codeAny (model X.prog X.w) A (.call (.builtin "ValueError.__init__") ⟨.ref e::us,[]⟩) R s:=by
  have Fn:=YDD
  have c:=m.c
  obtain⟨nm,qn,N,bs,bm,hdct,sn,sub,ab,col,dd,k0,k1,k2,k3,k5,lC⟩:=m.ob
  have hC:=I.kIn _ _ lC
  obtain⟨o,t,h1,h2,h3,h4⟩:=Zc0 I hx
  obtain⟨oc,od,oda,osl⟩:=o
  dsimp only at h2 h3 h4
  subst h2 h3 h4
  have L:Looks (model X.prog X.w) s.heap (isInstance (.ref e) (.type "ValueError")) true:=((Looks.ld h1).andThen .now).andThen (YDH I.kIn (c.base (n:="ValueError") (b:=true) (by decide +kernel)))
  obtain⟨hp,g,dr,tk,os⟩:=s
  refine codeAny_call_builtin Fn.init.plain Fn.initEntry ?_
  have hshort:=Fn.noStar
  simp only[checkBuiltinCall,Fn.initKind,Fn.initSplit,Fn.initRow]
  refine YAA (L.at ?_)
  simp only[YDe,YCA,if_false]
  have fin:wpAny (model X.prog X.w) A.in1 (Builtin.«BaseException.__init__» ⟨.ref e::us,[]⟩) (fun fin s'=>match fin with | .done f=>R (.ok f) s' | .again c'=>c'.quiet=true/\codeAny (model X.prog X.w) A c' R s') (fun e s'=>R (.error e) s') ⟨hp,g,dr,tk,os⟩:=by
    have hlt:e<hp.objs.size:=YAL h1
    wp_walk
    refine h _ ?_
    have I1:Inv X pins σ H { (⟨hp,g,dr,tk,os⟩:Shared) with heap:=hp.push (tupO us) }:=I.kept (t':=tk) fun b o e=>YAC _ e
    have e2:=YBd (Obj.mapFields (·.setIfInBounds 0 (Value.ref hp.objs.size))) (YAC (h:=hp) (tupO us) h1) rfl
    have I2:=I1.write (x:=e) (e:=e) (o:=xo e C od) (h':=(hp.push (tupO us)).update e (Obj.mapFields (·.setIfInBounds 0 (Value.ref hp.objs.size)))) (t':=tk) (by rw[hx];exact trivial) (.inl rfl)
      (fun b u hb q=>by rw[YBD _ _ (YAS hb)];exact q) ⟨_,e2⟩ (Zku e2 rfl rfl rfl)
    rw[ZlJ hx]at I2
    exact I2
  repeat (first | with_reducible refine YBT hC ?_ | (with_reducible refine wpAny_load hC ?_) | with_reducible refine YBT h1 ?_ | wp_step)
  first
    | (refine wpAny_onRaise ?_
       rw[show ∀(a b:String) (n:Nat),Bind.check ⟨.positional,"*","ValueError",.self,[⟨"args",.varPos,false⟩]⟩ a b n (List.map (fun x=>x.fst) ({ pos:=Value.ref e::us }:Args).kw)=pure () from fun a b n=>check_star_args _ _ _ _ _ _]
       exact YAH fin)
    | skip
end
structure Xi (K:Frag)(C:Addr):Prop where
 c:Xc K C
 ha:findIn K (.ref C) "__class__"=some (some (.builtin "object.__class__"))
 hn:specialIn K (.builtin "object.__class__") "__get__"=some (some (.builtin "getset_descriptor.__get__"))
 htk:PySem.W.takesIn K (.builtin "object.__class__")=some true
section
variable {K:Frag}{x C:Addr}{ox:Obj}{od:Option Obj}{prog:Program}{w:World}{A:Around}{E:Q33}{s:Shared}
theorem ZlI {Q:Option Value->Shared->Prop}(i:Xi K C)(KX:K.In s.heap)(I:InstAt s.heap x ox C od)(h:Q (some (.ref C)) { s with toks:=s.toks+1 }):wpAny (model prog w) A (getAttr? (.ref x) "__class__") Q E s:=by
 have c:=i.c
 have hf:PySem.W.findObj K C od "__class__"=some (.bind (.builtin "getset_descriptor.__get__") (.builtin "object.__class__")):=by
  obtain⟨cd,hc,_⟩:=YCG c.hd
  unfold PySem.W.findObj
  rw[hc,i.ha]
  simp only[YBr,i.hn,i.htk]
 obtain⟨hp,g,d,t,os⟩:=s
 have L0:=I.type (M:=model prog w)
 have L1:=YBt (M:=model prog w) KX c.ga
 have L2:=YBt (M:=model prog w) KX c.gr
 have L3:=PySem.W.looks_find (M:=model prog w) KX I hf
 have L4:=YDH (M:=model prog w) KX (c.base (n:="BaseException") (b:=true) (by decide +kernel))
 have hm:=c.base (n:="object") (b:=true) (by decide +kernel)
 have hx2:(Value.builtin "BaseException.__getattribute__" == Value.builtin "object.__getattribute__")=false:=by decide +kernel
 have slot:=F.excAttr_ValueError.ga
 unfold getAttr? getAttrBy?
 refine YAA (wpAny_mkText (YAA (YCg ?_)))
 unfold getAttrBy
 refine YBL (YAA (L0.at (YAA (L1.at ?_))))
 dsimp only
 rw[hx2,YCI,YAX YAF]
 unfold getAttrByItsOwn hookBefore
 refine YAA ?_
 show wpAny _ _ (if onTheHeap (Value.ref C)=true then typeLookup (.ref C) "__getattr__" else pure none) _ _ _
 rw[YAW (show onTheHeap (Value.ref C)=true from rfl)]
 refine L2.at (YAA (YCg (YBL ?_)))
 unfold callGetattribute
 rw[show (false&&onTheHeap (Value.builtin "BaseException.__getattribute__"))=false from rfl,YAX YAF]
 unfold boundAndCalled
 rw[slot.bind]
 refine YAA (YAH ?_)
 show wpAny _ _ (call (.builtin "BaseException.__getattribute__") [.ref x,.str "__class__" t]) _ _ _
 refine YCS (codeAny_call_builtin slot.plain ZfK ?_)
 refine @PySem.W.check_slot (model prog w) _ _ ⟨hp,g,d,t+1,os⟩ "BaseException.__getattribute__" "BaseException" "__getattribute__" (.ref x) [.str "__class__" t] [] _ (by decide +kernel) (by decide +kernel) (L0.andThen L4) (F.args_bexc_ga (.ref x) (.str "__class__" t)) ?_
 refine YAA (YAH (YAA (YAH (YAA (L0.at (YAA (L3.at ?_)))))))
 show wpAny _ _ (holding [.builtin "object.__class__"] (call (.builtin "getset_descriptor.__get__") [.builtin "object.__class__",.ref x,.ref C]) >>= ret) _ _ _
 refine YAA (YBL (YCS (PySem.W.class_get (s:=⟨hp,g,d,t+1,os⟩) (ox:=ox) (od:=od) KX I hm (YAH ?_))))
 exact PySem.W.handed_on rfl (YAH h)
theorem Zg1 (i:Xi K C):PySem.W.KitX K (.ref x) (.ref C) (fun h=>InstAt h x ox C od) where
 ty:=fun _ _ _ I=>I.type
 it:=fun _ _ KX _=>by
  obtain⟨cd,hc,_⟩:=YCG i.c.hd
  unfold PySem.W.clsIn at hc
  split at hc
  .rename_i ho
   intro A' Q' E' s' k q
   unfold isType loadHead
   exact YAA (wpAny_loadPart (k _ _ (KX _ _ ho)) (YAH q))
  .cases hc
 ne:=fun h tp dd its n sl KX htp=>by
  obtain⟨cd,hc,_⟩:=YCG i.c.hd
  refine YAr.mpr fun q=>?_
  have e:C=tp:=Value.ref.inj (beq_iff_eq.mp q)
  subst e
  unfold PySem.W.clsIn at hc
  split at hc
  .rename_i ho
   have z:=(KX _ _ ho).symm.trans htp
   cases z
  .cases hc
 ca:=fun KX I k=>ZlI i KX I k
end
inductive TyX (K:Frag) (H:Hp):V->Value->Prop where
 | pl {x:V} {t:Value} (h:TyOf K H x t):TyX K H x t
 | seqL {a:Addr} {xs:List V} (h:SqL K H a xs):TyX K H (.ref a) (.type "list")
 | seqT {a:Addr} {xs:List V} (h:SqT K H a xs):TyX K H (.ref a) (.type "tuple")
 | exc {e C:Addr} {fs:List (Str×V)} (x:XAt H e C fs) (i:Xi K C):TyX K H (.ref e) (.ref C)
def clsV:V->Option Value
 | .ref a=>some (.ref a)
 | .ty n=>some (.type n)
 | _=>none
theorem ZgD {X:Cx}:ZbR X (.builtin "isinstance") (fun xs H Q=>∃x c t k b,xs=[x,c]/\clsV c=some k/\TyX X.K H x t/\PySem.W.kitOne X.K t k=some b/\Q (.bl b) H):=by
 rintro pins s σ H xs us Q I r ⟨x,c,t,k,b,rfl,hk,ty,e,q⟩
 obtain⟨u,v,rfl,ru,rv⟩:=r.two
 have hv:v=k:=by
  cases c with
  | ref a=>cases hk;exact rv
  | ty n=>cases hk;exact rv
  | _=>cases hk
 subst hv
 cases ty with
 | pl ty=>exact ZiN I ru ty e fun tk=>⟨.bl b,H,I.tok _,rfl,q⟩
 | seqL h=>
  cases ru
  obtain⟨its,_,⟨o,n,ho,hc,_⟩,_⟩:=I.list h
  exact YBI PySem.W.kitx_list I.kIn ⟨o,ho,hc⟩ e (fun z=>nomatch z) fun tk=>⟨.bl b,H,I.tok _,rfl,q⟩
 | seqT h=>
  cases ru
  obtain⟨its,_,⟨o,ho,hc,_⟩,_⟩:=I.tuple h
  exact YBI PySem.W.kitx_tuple I.kIn ⟨o,ho,hc⟩ e (fun z=>nomatch z) fun tk=>⟨.bl b,H,I.tok _,rfl,q⟩
 | exc x i=>
  cases ru
  obtain⟨ox,od,J,_⟩:=x.inst I
  exact YBI (Zg1 i) I.kIn J e (fun z=>nomatch z) fun tk=>⟨.bl b,H,I.tok _,rfl,q⟩
def Znk (K:Frag)(ta:TE)(f:Str):TE:=fun σ H Q=>ta σ H fun x H1=>∃e C fs v,x=.ref e/\XAt H1 e C fs/\Xc K C/\NoAttr K C f/\fs.lookup f=some v/\Q v H1
def Zl9 (K:Frag)(ta tv:TE)(f:Str):TS:=fun D σ H=>tv σ H fun y H1=>ta σ H1 fun x H2=>∃e C fs,x=.ref e/\XAt H2 e C fs/\Xc K C/\NoAttr K C f/\fs.length<1000 /\
 ∀H',XAt H' e C (putF f y fs)->(∀b o,H2 b=some o->b≠e->(∀d,H2 e=some (xo e C (some d))->b≠d)->H' b=some o)->(∃d,H' e=some (xo e C (some d))/\(H2 e=some (xo e C (some d))\/H2 d=none))->D.nx σ H'
def Zkx (K:Frag)(C:Addr)(t:TA):TE:=fun σ H Q=>t σ H fun vs H1=>vs.length<=1000/\∀e,H1 e=none->Q (.ref e) (upd H1 e (xo e C none))
def Zj1 (C:Addr)(sp:Sp)(E:XK)(t:TA):TE:=fun σ H Q=>t σ H fun vs H1=>vs.length<=1000/\∀e,H1 e=none->sp (.ref e::vs) (upd H1 e (xo e C none)) (fun v H2=>v=.non/\Q (.ref e) H2) E
section
variable {X:Cx}{o e value:Expr}{es:List Expr}{f x:Str}{p pos pos':Pos}{ta tv:TE}{t:TA}{C fI:Addr}
theorem Zcr (ha:PE X o ta)(hv:PE X value tv)(hs:swapsWith value (some (.Attribute o f pos')) pos.line X.env=pure false):PS X (.Assign [.Attribute o f pos'] value pos) (Zl9 X.K ta tv f):=by
 intro pins s σ H D I h
 refine plainObj_wpAny_Assign_Attribute (thn (hv pins s σ H _ I h) fun u s1 ⟨y,H1,I1,ry,q⟩=>thn (ha pins s1 σ H1 _ I1 q) fun ov s2 ⟨x,H2,I2,rx,a,C,fs,ex,xa,c,n,l,q2⟩=>?_) hs
 subst ex
 obtain rfl:ov=Value.ref a:=rx
 exact xset I2 xa c n l ry fun s3 H3 I3 x3 k3 d3=>⟨σ,H3,I3,q2 H3 x3 k3 d3⟩
theorem Xm.parts {K:Frag}{C:Addr}(m:Xm K C):∃(nm q:Str) (N:Addr) (bs bm:List Value) (hdct:Bool) (sn:List Str) (sub:List Value) (ab:Bool) (col:Option Bool) (dd:Option Addr) (k0 k1 k2 k3 k5:Option Value),
  K.lookup C=some (excClassObj nm q C N bs bm hdct sn sub ab col dd k0 k1 k2 k3 k5 "ValueError.__new__")/\xmro (.ref C::bm)=true:=by
 obtain⟨nm,qn,N,bs,bm,hdct,sn,sub,ab,col,dd,k0,k1,k2,k3,k5,lC⟩:=m.ob
 refine⟨nm,qn,N,bs,bm,hdct,sn,sub,ab,col,dd,k0,k1,k2,k3,k5,lC,?_⟩
 have hm:=m.c.mr
 unfold PySem.W.clsIn at hm
 rw[lC]at hm
 exact hm
theorem Zij {CX:CXT} {k:Nat} {fd:FuncData} {ps:List Str} {sp:Sp} {E:XK} {pins:List (Addr×Obj)} {σ:St} {H:Hp} {s:Shared} {Q:VK} {us:List Value} {vs:List V} (m:Xm X.K C) (hi:findIn X.K (.ref C) "__init__"=some (some (.ref fI))) (hfn:PySem.W.isFn X.K (.ref fI)=true)
  (F:FnOk X.prog X.w X.K X.mg X.base CX k fI fd ps sp) (hr:Room (k+1) X.A) (hb:Binds X.K fd ps []) (hxp:Zb8 CX X E) (I:Inv X pins σ H s) (r:Vals vs us) (hz:vs.length<=1000)
  (h:∀e,H e=none->sp (.ref e::vs) (upd H e (xo e C none)) (fun v H2=>v=.non/\Q (.ref e) H2) E):wpAny (model X.prog X.w) X.A (call (.ref C) us) (EP X pins σ Q) X.xe s:=by
 obtain⟨nm,qn,N,bs,bm,hdct,sn,sub,ab,col,dd,k0,k1,k2,k3,k5,lC,hx⟩:=m.parts
 have I2:=Inv.xmade (C:=C) (us:=us) I
 have hq:=h (s.heap.objs.size+1) (I.hok.fresh (YCO _))
 have hz':us.length<=sizeLine:=by rw[<-r.length];exact YAK hz (by rw[sizeLine_eq];decide)
 have KX:=I.kIn
 have hC:=KX _ _ lC
 have r2:Vals (V.ref (s.heap.objs.size+1)::vs) (Value.ref (s.heap.objs.size+1)::us):=.cons rfl r
 have hl:((Value.ref (s.heap.objs.size+1)::us)++[]).length=ps.length:=by
  have e:=r2.length
  rw[F.len _ _ _ _ hq]at e
  rw[YBC]
  exact e.symm
 have hb2:=hb { s with heap:=(s.heap.push (tupO us)).push (xraw C s.heap.objs.size) } (Value.ref (s.heap.objs.size+1)::us) I2.kIn hl
 rw[YBC]at hb2
 obtain⟨hp,g,d,t,os⟩:=s
 refine YCS (Znh (K:=X.K) KX hx hC (YBt KX hi) (fun self=>PySem.W.bind_fn KX self (beq_iff_eq.mp hfn)) hz' ?_)
 refine codeAny_mono (F.run _ X.stack _ _ ⟨Value.ref (hp.objs.size+1)::us,[]⟩ (Value.ref (hp.objs.size+1)::us) _ _ E (hr.make C us []) (I2.env0.make C us []) hb2 r2 hq) fun r s' hq'=>?_
 cases r with
 | error e=>exact hxp pins σ _ _ e s' I2 hq'
 | ok fl=>
  cases fl with
  | ret u=>
   obtain⟨v,H',I3,rv,ev,q3⟩:=I2.after hq'
   subst ev
   exact⟨rv,⟨V.ref (hp.objs.size+1),H',I3,rfl,q3⟩⟩
  | next=>exact False.elim hq'
  | brk=>exact False.elim hq'
  | cont=>exact False.elim hq'
theorem Zdg {CX:CXT} {k:Nat} {fd:FuncData} {ps:List Str} {sp:Sp} {E:XK} (m:Xm X.K C) (hi:findIn X.K (.ref C) "__init__"=some (some (.ref fI))) (hfn:PySem.W.isFn X.K (.ref fI)=true)
  (F:FnOk X.prog X.w X.K X.mg X.base CX k fI fd ps sp) (hr:Room (k+1) X.A) (hb:Binds X.K fd ps []) (hxp:Zb8 CX X E) (hg:Gl X x) (hm:X.mg x=some (.ref C)) (ha:PA X (e::es) t)
  (hdb:(x == ("__debug__":Str))=false:=by decide) (he:starEach (e::es) X.env=(false,eval e X.env)::starEach es X.env:=by rfl) (hpl:(backTo pos (starEach es X.env)).any (·.1)=false:=by rfl):
  PE X (.Call (.Name x p) (e::es) [] pos) (Zj1 C sp E t):=by
 intro pins s σ H Q I h
 refine YBo (Zb1 I hg hm ?_ hdb)
 refine YCK (h₀:=X.base) I.ok.mod.kin m.kp (thn (ha pos pins s σ H _ I h) fun us s1 ⟨vs,H1,I1,r,hz,q⟩=>⟨I1.kIn,?_⟩) he hpl
 exact Zij m hi hfn F hr hb hxp I1 r hz q
structure ClsRead (K:Frag)(C:Addr)(f:Str)(v:Value):Prop where
 sp:specialIn K (.ref C) "__getattribute__"=some (some (.builtin "type.__getattribute__"))
 rd:PySem.W.readsIn K C (.type "type")=true
 fd:PySem.W.findCls K (.ref C) (.type "type") f=some (.val v)
 hn:PySem.W.handedIn v=true
def Zj2 (K:Frag)(t:TA):TE:=fun σ H Q=>t σ H fun vs H1=>∃e C d rest,vs=.ref e::rest/\H1 e=some (xo e C d)/\Xm K C/\rest.length<=1000/\Q .non H1
theorem Zdh {L:Addr} {pl:Sem Bool} {apos:Pos} {np:Pos} (hg:Gl X x) (hm:X.mg x=some (.ref L)) (cr:ClsRead X.K L "__init__" (.builtin "ValueError.__init__")) (ha:PA X (e::es) t)
  (hdb:(x == ("__debug__":Str))=false:=by decide) (hst:starEach (e::es) X.env=(false,eval e X.env)::starEach es X.env:=by rfl) (hpl:(backTo pos (starEach es X.env)).any (·.1)=false:=by rfl)
  (ht:eval (.Call (.Attribute (.Name x np) "__init__" apos) (e::es) [] pos) X.env=(do
   let ov <-eval (.Name x np) X.env
   standAt apos.atName
   let (f,first) <-holding [ov] (getMethod ov "__init__" pl)
   callWith pos f first (backTo pos (starEach (e::es) X.env)) (backToKw pos (keywordEach [] X.env))):=by rfl):
  PE X (.Call (.Attribute (.Name x np) "__init__" apos) (e::es) [] pos) (Zj2 X.K t):=by
 intro pins s σ H Q I h
 refine YCM (pl:=pl) (Zb1 I hg hm ?_ hdb) ht
 refine PySem.W.method_cls I.kIn cr.sp (PySem.W.cls_value I.kIn cr.rd cr.fd cr.hn ?_)
 refine YCy (thn (ha pos pins _ σ H _ (I.tok _) h) fun us s1 ⟨vs,H1,I1,r1,ev,C,d,rest,evs,hx,m,hz,q⟩=>?_) hst hpl
 subst evs
 cases r1 with
 | cons ru rr=>
  cases ru
  refine YCS (ZhT I1 m hx (by rw[<-rr.length];exact YAK hz (by rw[sizeLine_eq];decide)) _ fun s' I3=>?_)
  exact⟨.non,H1,I3,rfl,q⟩
end
end L2
namespace L2
open PySem PySem.Spec PyProof.Rows
section
variable {X:Cx}{pins:List (Addr×Obj)}{σ:St}{H:Hp}{s:Shared}
end
def Ite (K:Q44)(a:Addr):It:=
 ⟨fun i H=>∃xs x,SqL K H a xs/\xs[i]?=some x,fun i H x H'=>∃p v,H p=none/\x=.ref p/\H'=upd H p (.tup [.int i,v])/\∀xs,SqL K H a xs->xs[i]?=some v,fun i H=>∃xs,SqL K H a xs/\xs.length<=i⟩
section
variable {X:Cx}{es:List Expr}{x1:Nat}{tp:Pos}
def Zo9 (K:Q44)(ta:TA):TI:=fun σ H R=>ta σ H fun vs H1=>∃a,vs=[.ref a]/\(∃xs,SqL K H1 a xs)/\R (Ite K a) H1
end
section
variable {H:Hp}{Q:VK}{σ:St}
theorem q_I {C:Int->Int->Prop}{g:Int->Int->V}{i j:Int}:rI C g (.int i) (.int j) H Q=(C i j/\Q (g i j) H):=
 propext ⟨fun ⟨_,_,e1,e2,h⟩=>by cases e1;cases e2;exact h,fun h=>⟨i,j,rfl,rfl,h⟩⟩
theorem q_I0 {g:Int->Int->V}{i j:Int}:rI0 g (.int i) (.int j) H Q=Q (g i j) H:=
 propext ⟨fun ⟨_,_,e1,e2,h⟩=>by cases e1;cases e2;exact h,fun h=>⟨i,j,rfl,rfl,h⟩⟩
theorem q_U {g:Int->V}{i:Int}:rU g (.int i) H Q=Q (g i) H:=
 propext ⟨fun ⟨_,e1,h⟩=>by cases e1;exact h,fun h=>⟨i,rfl,h⟩⟩
theorem q_T {C:Q11->Q11->Prop}{g:Q11->Q11->V}{a b:Q11}:rT C g (tx a) (tx b) H Q=(C a b/\Q (g a b) H):=
 propext ⟨fun ⟨_,_,e1,e2,h⟩=>by rw[Zc2.mp e1,Zc2.mp e2];exact h,fun h=>⟨a,b,rfl,rfl,h⟩⟩
theorem q_b {b:Bool}{p:Bool->Prop}:(∃k,V.bl b=V.bl k/\p k)=p b:=
 propext ⟨fun ⟨_,e,h⟩=>by cases e;exact h,fun h=>⟨b,rfl,h⟩⟩
theorem q_var {v:V}{p:V->Prop}:(∃u,some (some v)=some (some u)/\p u)=p v:=
 propext ⟨fun ⟨_,e,h⟩=>by cases e;exact h,fun h=>⟨v,rfl,h⟩⟩
theorem q_var' {v:V}{p:V->Prop}:(∃u,v=u/\p u)=p v:=
 propext ⟨fun ⟨_,e,h⟩=>by cases e;exact h,fun h=>⟨v,rfl,h⟩⟩
end
end L2
namespace L2
open PySem PySem.Spec PyProof.Rows
open PySem.W (Frag findIn specialIn typeIn mroIn clsIn subIn kitOne kitCls)
def Zm8 (sc sco:Scope):Bool:=decide (sc.kind=.function)&&sc.names.all fun y=>decide (y.2≠NameKind.cell)&&(decide (y.2≠NameKind.local) || decide (sc.names.lookup y.1=some NameKind.local)) &&
 (decide (y.2≠NameKind.free) || (decide (sco.names.lookup y.1=some NameKind.cell) || decide (sco.names.lookup y.1=some NameKind.free)))
theorem ZaT {X:Cx}{sc:Scope}(h:Zm8 sc X.env.scope=true):CmpScope X sc:=by
 unfold Zm8 at h
 rw[YAU,YAs]at h
 obtain⟨h1,h2⟩:=h
 refine⟨of_decide_eq_true h1,fun y hy=>?_,fun y hy e=>?_,fun y hy e=>?_⟩
 .have:=h2 y hy
  simp only[YAU,Bool.or_eq_true,decide_eq_true_eq]at this
  exact this.1.1
 .have:=h2 y hy
  simp only[YAU,Bool.or_eq_true,decide_eq_true_eq]at this
  rcases this.1.2 with z | z
  .exact absurd e z
  .exact z
 .have:=h2 y hy
  simp only[YAU,Bool.or_eq_true,decide_eq_true_eq]at this
  rcases this.2 with z | z | z
  .exact absurd e z
  .exact .inl z
  .exact .inr z
section
variable {K:Frag}{H:Hp}{C D:Addr}
structure ClsOk (K:Frag)(C:Addr)(mro:List Value):Prop where
 cd:∃cd,clsIn K C=some cd/\cd.mro=mro
 ty:typeIn K (.ref C)=some (.type "type")
 ne:mro.isEmpty=false
theorem ZbF {m1 m2:List Value}{b:Bool}(c:ClsOk K C m1)(d:ClsOk K D m2)(h:m1.contains (.ref D)=b)(hh:C=D->b=true):kitOne K (.ref C) (.ref D)=some b:=by
 obtain⟨cd,e1,e2⟩:=c.cd
 obtain⟨cd',e3,e4⟩:=d.cd
 unfold PySem.W.kitOne
 split
 .rename_i z
  have z':Value.ref C=Value.ref D:=by simpa using z
  cases z'
  rw[hh rfl]
 .unfold PySem.W.kitCls
  dsimp only
  rw[e3,d.ty]
  simp only[YDP,YCV,beq_self_eq_true,if_true]
  unfold PySem.W.subIn PySem.W.mroIn
  dsimp only
  rw[e1,YBr,e2,c.ne,h]
  rfl
theorem mk0 {Q:VK}{vs:List V}(hl:vs.length<=1000)(h:∀e H2,Same H H2->H e=none->XAt H2 e C []->Q (.ref e) H2):vs.length<=1000/\∀e,H e=none->Q (.ref e) (upd H e (xo e C none)):=
 ⟨hl,fun e he=>h e _ (fun b o hb=>by rw[Zaf (Zai hb he)];exact hb) he (.bare Zad)⟩
def Zc3 (K:Frag)(C:Addr)(n:Nat)(fs:List V->List (Str×V)):Sp:=fun vs H Q _=>∃e r,vs=.ref e::r/\r.length=n/\H e=some (xo e C none) /\
 ∀H',XAt H' e C (fs r)->(∀b o,H b=some o->b≠e->H' b=some o)->Q .non H'
theorem Zao {a:Addr}{o:HO}(h:H a=none):Same H (upd H a o):=fun b u hb=>by rw[Zaf (Zai hb h)];exact hb
end
def Mk0 (C:Addr)(H:Hp)(Q:VK):Prop:=∀e,H e=none->Q (.ref e) (upd H e (xo e C none))
def MkI (sp:Sp)(E:XK)(C:Addr)(vs:List V)(H:Hp)(Q:VK):Prop:=∀e,H e=none->sp (.ref e::vs) (upd H e (xo e C none)) (fun v H2=>v=.non/\Q (.ref e) H2) E
def NewL (xs:List V)(H:Hp)(Q:VK):Prop:=∀p,H p=none->Q (.ref p) (upd H p (.lst xs))
def NewT (xs:List V)(H:Hp)(Q:VK):Prop:=∀p,H p=none->Q (.ref p) (upd H p (.tup xs))
section
variable {K:Frag}{C:Addr}{sp:Sp}{E:XK}{t:TA}{σ:St}{H:Hp}{Q:VK}{vs:List V}
theorem Zor:Zkx K C t σ H Q=t σ H (fun vs H1=>vs.length<=1000/\Mk0 C H1 Q):=rfl
theorem Zoq:Zj1 C sp E t σ H Q=t σ H (fun vs H1=>vs.length<=1000/\MkI sp E C vs H1 Q):=rfl
theorem Zos:tLst t σ H Q=t σ H (fun xs H1=>xs.length<=sizeLine/\NewL xs H1 Q):=rfl
theorem Zop:tTup t σ H Q=t σ H (fun xs H1=>xs.length<=sizeLine/\NewT xs H1 Q):=rfl
theorem Zou {l b:Addr}:rCat (.ref l) (.ref b) H Q=∃xs zs,H l=some (.lst xs)/\H b=some (.lst zs)/\xs.length+zs.length<=sizeLine/\NewL (xs++zs) H Q:=
 propext ⟨fun ⟨_,_,xs,zs,e1,e2,h⟩=>by cases e1;cases e2;exact⟨xs,zs,h⟩,fun ⟨xs,zs,h⟩=>⟨l,b,xs,zs,rfl,rfl,h⟩⟩
theorem MkI.of {n:Nat}{fs:List V->List (Str×V)}(hn:vs.length=n)(h:∀e H',Same H H'->H e=none->XAt H' e C (fs vs)->Q (.ref e) H'):MkI (Zc3 K C n fs) E C vs H Q:=
 fun e he=>⟨e,vs,rfl,hn,Zad,fun H' x k=>⟨rfl,h e H' (fun b o hb=>k b o (by rw[Zaf (Zai hb he)];exact hb) (Zai hb he)) he x⟩⟩
theorem NewL.of (h:∀p H',Same H H'->H p=none->H' p=some (.lst vs)->Q (.ref p) H'):NewL vs H Q:=fun p hp=>h p _ (Zao hp) hp Zad
theorem NewT.of (h:∀p H',Same H H'->H p=none->H' p=some (.tup vs)->Q (.ref p) H'):NewT vs H Q:=fun p hp=>h p _ (Zao hp) hp Zad
theorem NewL.at (h:∀p,H p=none->Q (.ref p) (upd H p (.lst vs))):NewL vs H Q:=h
theorem NewT.at (h:∀p,H p=none->Q (.ref p) (upd H p (.tup vs))):NewT vs H Q:=h
theorem Zi4:bootBuiltins "str"=some (.type "str"):=by decide +kernel
theorem Znb:bootBuiltins "int"=some (.type "int"):=by decide +kernel
theorem ZgE:bootBuiltins "list"=some (.type "list"):=by decide +kernel
theorem Zi5:bootBuiltins "dict"=some (.type "dict"):=by decide +kernel
theorem Zkp:bootBuiltins "set"=some (.type "set"):=by decide +kernel
theorem ZaB:bootBuiltins "len"=some (.builtin "len"):=by decide +kernel
theorem ZaR:bootBuiltins "isinstance"=some (.builtin "isinstance"):=by decide +kernel
theorem Znd:bootBuiltins "all"=some (.builtin "all"):=by decide +kernel
theorem Znc:bootBuiltins "any"=some (.builtin "any"):=by decide +kernel
theorem Zna:bootBuiltins "max"=some (.builtin "max"):=by decide +kernel
theorem Zb7:bootBuiltins "sorted"=some (.builtin "sorted"):=by decide +kernel
theorem Zko:bootBuiltins "sum"=some (.builtin "sum"):=by decide +kernel
end
def Own (K:Frag)(H:Hp)(d:DT)(x:V):Prop:=DatOk K H d x/\deq d d=true/\dep d<=60
theorem SqL.mk {K:Frag}{H:Hp}{a:Addr}{xs:List V}(h:H a=some (.lst xs)):SqL K H a xs:=.inl (.inl h)
theorem SqT.mk {K:Frag}{H:Hp}{a:Addr}{xs:List V}(h:H a=some (.tup xs)):SqT K H a xs:=.inl (.inl h)
theorem Zf3 {e C d:Addr}:¬(some (xo e C none)=some (xo e C (some d))):=by
 intro z
 have z1:xo e C none=xo e C (some d):=Option.some.inj z
 unfold xo at z1
 have z2:=HO.ext.inj z1
 have hget:(⟨Array.replicate (e+1) (xraw C 0),{}⟩:Heap).get? e=some (xraw C 0):=by
  unfold Heap.get?
  have:(Array.replicate (e+1) (xraw C 0))[e]?=some (xraw C 0):=by simp
  dsimp only
  rw[this]
 have q:=congrFun z2 ⟨Array.replicate (e+1) (xraw C 0),{}⟩
 have l:∃(o:Obj) (t:Addr),(⟨Array.replicate (e+1) (xraw C 0),{}⟩:Heap).get? e=some o/\o.cls=.ref C/\o.dict=none/\o.data=.fields #[.ref t,.none,.none,.none,.bool false,.none]:=⟨_,0,hget,rfl,rfl,rfl⟩
 have r:=q.mp l
 obtain⟨o,t,h1,_,h3,_⟩:=r
 rw[hget]at h1
 cases h1
 cases h3
theorem ZhR {e C d d':Addr}(z:some (xo e C (some d))=some (xo e C (some d'))):d=d':=by
 have z1:xo e C (some d)=xo e C (some d'):=Option.some.inj z
 unfold xo at z1
 have z2:=HO.ext.inj z1
 generalize eo:({ cls:=.ref C,dict:=some d,data:=.fields #[.ref 0,.none,.none,.none,.bool false,.none] }:Obj)=ob at *
 have hget:(⟨Array.replicate (e+1) ob,{}⟩:Heap).get? e=some ob:=by
  unfold Heap.get?
  have:(Array.replicate (e+1) ob)[e]?=some ob:=by simp
  dsimp only
  rw[this,<-eo]
 have q:=congrFun z2 ⟨Array.replicate (e+1) ob,{}⟩
 have r:=q.mp ⟨_,0,hget,by rw[<-eo],by rw[<-eo],by rw[<-eo]⟩
 obtain⟨o,t,h1,_,h3,_⟩:=r
 rw[hget]at h1
 cases h1
 rw[<-eo]at h3
 exact Option.some.inj h3
section
variable {X:Cx}{K:Frag}
theorem ZaA (hK:X.K=K)(hu:X.A.units+64<cLine):OpR X (compareOp .Eq) (rEqD K false):=by subst hK;exact Zmz hu
theorem Zcu (hK:X.K=K)(hu:X.A.units+64<cLine):OpR X (compareOp .NotEq) (rEqD K true):=by subst hK;exact Zmv hu
theorem Zdk (hK:X.K=K):IxR X (rIxL K):=by subst hK;exact Zlh
theorem Zgr (hK:X.K=K):IxR X (rIxT K):=by subst hK;exact ZmO
theorem Zdc (hK:X.K=K):SlR X (rSlL K):=by subst hK;exact ZkH
theorem Zce (hK:X.K=K):OpR X (compareOp .In) (rIn K false):=by subst hK;exact Ziq
theorem Zbn (hK:X.K=K):OpR X (compareOp .NotIn) (rIn K true):=by subst hK;exact Zfl
theorem Zap (hK:X.K=K):ZbR X (.builtin "len") (fun xs H Q=>∃x n,xs=[x]/\LenV K x H n/\Q (.int n) H):=by subst hK;exact ZjW
theorem Ze1 (hK:X.K=K):ZbR X (.type "list") (fun xs H Q=>∃p ys,xs=[.ref p]/\(SqL K H p ys\/SqT K H p ys)/\∀l,H l=none->Q (.ref l) (upd H l (.lst ys))):=by subst hK;exact ZfW
theorem Zgf {e:Expr}{f:Str}{pos:Pos}{ta:TE}(hK:X.K=K)(he:PE X e ta)(hb:attributeBase e f X.env (eval e X.env)=eval e X.env):PE X (.Attribute e f pos) (tFld K ta f):=by subst hK;exact Zms he hb
theorem ZaC {tg l:Expr}{tl:TE}(hK:X.K=K)(hl:PE X l tl):PI X tg l (Zlm K tl):=by subst hK;exact ZkY hl
end
theorem cxK {CX:CXT}{P:Program}{w:World}{K:Q44}{mg:Str->Option Value}{base:Heap}{N:List Str}{qual:Str}{scope:Scope}{f:Addr}{cd:Value}{A:Around}{outer:List Env}{s:Shared}{H:Hp}{E:XK}:
  (cxOf CX P w K mg base N qual scope f cd A outer s H E).K=K:=rfl
theorem bxK {X:Cx}{sc:Scope}{N:List Str}{fp:List Addr}{s₀:Shared}{H:Hp}{pn:List (Addr×Obj)}:(bx X sc N fp s₀ H pn).K=X.K:=rfl
end L2
namespace L2
open PySem PySem.Spec PyProof.Rows
open PySem.W (Frag)
def ForRun (J:It)(g:TG)(tb:TS)(D:Ends)(σ:St)(H:Hp):Prop:=∃W:Nat->Nat->St->Hp->Prop,(∃m,W 0 m σ H)/\∀i m σ H,W i m σ H ->
 (J.stop i H/\D.nx σ H)\/(J.go i H/\∃N:St->Hp->Prop,(∀σ' H',N σ' H'->∃m',m'<m/\W (i+1) m' σ' H')/\∀x H',J.yld i H x H'->g x σ H' fun σ2 H2=>tb { D with nx:=N,ct:=N,bk:=D.nx } σ2 H2)
theorem Zot {wi:TI}{g:TG}{tb:TS}{D:Ends}{σ:St}{H:Hp}:tFor wi g tb D σ H=wi σ H fun J H1=>ForRun J g tb D σ H1:=rfl
def CompRun (J:It)(τ0:St)(g:TG)(tt:TT)(te:TE)(H1:Hp)(Q:VK):Prop:=∀acc,H1 acc=none->∃W:Nat->Nat->St->Hp->Prop,(∃m,W 0 m τ0 (upd H1 acc (.lst []))) /\
 ∀i m τ H2,W i m τ H2->(J.stop i H2/\Q (.ref acc) H2)\/(J.go i H2/\∃Nx:St->Hp->Prop,(∀τ' H',Nx τ' H'->∃m',m'<m/\W (i+1) m' τ' H') /\
  ∀x H3,J.yld i H2 x H3->g x τ H3 fun τ2 H4=>tt τ2 H4 fun b H5=>if b=true then te τ2 H5 fun y H6=>∃ys,H6 acc=some (.lst ys)/\ys.length<sizeLine/\Nx τ2 (upd H6 acc (.lst (ys++[y]))) else Nx τ2 H5)
theorem Zmk {ix:List (Option Nat)}{wi:TI}{g:TG}{tt:TT}{te:TE}{σ:St}{H:Hp}{Q:VK}:ZkB ix wi g tt te σ H Q=wi σ H fun J H1=>CompRun J (pick ix σ) g tt te H1 Q:=rfl
section
variable {g:TG}{tb:TS}{D:Ends}{σ:St}{H:Hp}{K:Frag}{a:Addr}{xs:List V}
theorem ForRun.list (Pv:Nat->St->Hp->Prop)(h0:Pv 0 σ H)(hl:∀i σ H,i<=xs.length->Pv i σ H->SqL K H a xs)
  (hs:∀i x σ H,xs[i]?=some x->Pv i σ H->g x σ H fun σ2 H2=>tb { D with nx:=Pv (i+1),ct:=Pv (i+1),bk:=D.nx } σ2 H2) (hd:∀σ H,Pv xs.length σ H->D.nx σ H):ForRun (Itl K a) g tb D σ H:=
 ZjP Pv h0 hl hs hd
theorem ForRun.range {lo:Int}{n:Nat}(Pv:Nat->St->Hp->Prop)(h0:Pv 0 σ H)
  (hs:∀i σ H,i<n->Pv i σ H->g (.int (lo+i)) σ H fun σ2 H2=>tb { D with nx:=Pv (i+1),ct:=Pv (i+1),bk:=D.nx } σ2 H2) (hd:∀σ H,Pv n σ H->D.nx σ H):
  ForRun (Itr lo n) g tb D σ H:=ZiS Pv h0 hs hd
theorem ForRun.text {l:Q11}(Pv:Nat->St->Hp->Prop)(h0:Pv 0 σ H)
  (hs:∀i c σ H,l[i]?=some c->Pv i σ H->g (tx [c]) σ H fun σ2 H2=>tb { D with nx:=Pv (i+1),ct:=Pv (i+1),bk:=D.nx } σ2 H2) (hd:∀σ H,Pv l.length σ H->D.nx σ H):
  ForRun (Its l) g tb D σ H:=ZjO Pv h0 hs hd
end
section
variable {tt:TT}{te:TE}{Q:VK}{τ0:St}{H:Hp}
theorem CompRun.gen {J:It}{n:Nat}(v:Nat->V)(b:Nat->Bool)(f:Nat->V)(hz:n<=1000)(hgo:∀i H',i<n->Same H H'->J.go i H')(hst:∀H',Same H H'->J.stop n H')(hy:∀i H' x H3,i<n->Same H H'->J.yld i H' x H3->H3=H'/\x=v i)
  (ht:∀i H' Q',i<n->Same H H'->(∀H'',Same H' H''->Q' (b i) H'')->tt (τ0.set 0 (some (v i))) H' Q')
  (he:∀i H' Q',i<n->b i=true->Same H H'->(∀H'',Same H' H''->Q' (f i) H'')->te (τ0.set 0 (some (v i))) H' Q')
  (hQ:∀p H',Same H H'->H p=none->H' p=some (.lst (((List.range n).filter b).map f))->Q (.ref p) H'):CompRun J τ0 (Zcx 0) tt te H Q:=by
 intro acc ha
 refine⟨fun i m τ H2=>i<=n/\m=n-i/\(∀w:Option V,τ.set 0 w=τ0.set 0 w)/\Same H H2/\H2 acc=some (.lst (((List.range i).filter b).map f)),⟨n,YAg _,rfl,fun _=>rfl,Zao ha,Zad⟩,?_⟩
 rintro i m τ H2 ⟨hi,rfl,hτ,hs,hacc⟩
 by_cases hlt:i<n
 .refine .inr ⟨hgo i H2 hlt hs,fun τ' H'=>(∀w:Option V,τ'.set 0 w=τ0.set 0 w)/\Same H H'/\H' acc=some (.lst (((List.range (i+1)).filter b).map f)),fun τ' H' q=>⟨n-(i+1),by omega,hlt,rfl,q⟩,fun x H3 y=>?_⟩
  obtain⟨rfl,rfl⟩:=hy i H2 x H3 hlt hs y
  show tt (τ.set 0 (some (v i))) _ _
  rw[hτ]
  have hτ':∀w:Option V,(τ0.set 0 (some (v i))).set 0 w=τ0.set 0 w:=fun w=>by rw[List.set_set]
  refine ht i _ _ hlt hs fun H4 s4=>?_
  cases hb:b i with
  | false=>
   rw[YAX YAF]
   refine⟨hτ',hs.trans s4,?_⟩
   rw[s4 _ _ hacc,YBx,YBO]
   simp[hb]
  | true=>
   rw[YAW rfl]
   refine he i _ _ hlt hb (hs.trans s4) fun H5 s5=>?_
   refine⟨_,s5 _ _ (s4 _ _ hacc),?_,hτ',?_,?_⟩
   .rw[YAB]
    have:=YAt b (List.range i)
    rw[YBJ]at this
    exact Zdt (by omega)
   .intro c o hc
    have:c≠acc:=Zai hc ha
    rw[Zaf this]
    exact s5 _ _ (s4 _ _ (hs _ _ hc))
   .rw[Zad,YBx,YBO]
    simp[hb]
 .have e:i=n:=by omega
  subst e
  exact .inl ⟨hst H2 hs,hQ acc H2 hs ha hacc⟩
theorem CompRun.range {lo:Int}{n:Nat}(b:Nat->Bool)(f:Nat->V)(hz:n<=1000)
  (ht:∀(i:Nat) H' Q',i<n->Same H H'->(∀H'',Same H' H''->Q' (b i) H'')->tt (τ0.set 0 (some (.int (lo+i)))) H' Q')
  (he:∀(i:Nat) H' Q',i<n->b i=true->Same H H'->(∀H'',Same H' H''->Q' (f i) H'')->te (τ0.set 0 (some (.int (lo+i)))) H' Q')
  (hQ:∀p H',Same H H'->H p=none->H' p=some (.lst (((List.range n).filter b).map f))->Q (.ref p) H'):CompRun (Itr lo n) τ0 (Zcx 0) tt te H Q:=
 .gen (fun i=>.int (lo+i)) b f hz (fun i _ h _=>h) (fun _ _=>YAJ _) (fun i H' x H3 _ _ y=>y) ht he hQ
theorem filter_all {n:Nat}{f:Nat->V}:((List.range n).filter fun _=>true).map f=(List.range n).map f:=by rw[List.filter_eq_self.mpr (fun _ _=>rfl)]
theorem CompRun.rangeA {lo:Int}{n:Nat}(f:Nat->V)(hz:n<=1000)
  (he:∀(i:Nat) H' Q',i<n->Same H H'->(∀H'',Same H' H''->Q' (f i) H'')->te (τ0.set 0 (some (.int (lo+i)))) H' Q')
  (hQ:∀p H',Same H H'->H p=none->H' p=some (.lst ((List.range n).map f))->Q (.ref p) H'):CompRun (Itr lo n) τ0 (Zcx 0) tAll te H Q:=
 .range (fun _=>true) f hz (fun i H' Q' _ _ q=>q H' (Same.refl _)) (fun i H' Q' hi _=>he i H' Q' hi) fun p H' s n e=>hQ p H' s n (by rw[e,filter_all])
theorem CompRun.text {l:Q11}(b:Nat->Bool)(f:Nat->V)(hz:l.length<=1000)
  (ht:∀i H' Q' (h:i<l.length),Same H H'->(∀H'',Same H' H''->Q' (b i) H'')->tt (τ0.set 0 (some (tx [l.getD i 0]))) H' Q')
  (he:∀i H' Q' (h:i<l.length),b i=true->Same H H'->(∀H'',Same H' H''->Q' (f i) H'')->te (τ0.set 0 (some (tx [l.getD i 0]))) H' Q')
  (hQ:∀p H',Same H H'->H p=none->H' p=some (.lst (((List.range l.length).filter b).map f))->Q (.ref p) H'):CompRun (Its l) τ0 (Zcx 0) tt te H Q:=
 .gen (fun i=>tx [l.getD i 0]) b f hz (fun i _ h _=>h) (fun _ _=>YAJ _) (fun i H' x H3 _ _ y=>by
  obtain⟨e,c,hc,rfl⟩:=y
  refine⟨e,?_⟩
  rw[YAG,hc];rfl) ht he hQ
end
theorem ZdV:∀ {vs:List V},vs.all Zbm=true->deqs (vs.map DT.f) (vs.map DT.f)=true
 | [],_=>by unfold deqs;rfl
 | v::vs,h=>by
  rw[YDc,YAU]at h
  rw[YAj]
  unfold deqs
  rw[ZdV h.2]
  unfold deq
  rw[Zg5 h.1]
  rfl
theorem ownL {K:Frag}{H:Hp}{a:Addr}{vs:List V}(h:SqL K H a vs)(hf:vs.all Zbm=true):Own K H (.l (vs.map DT.f)) (.ref a):=⟨datL h hf,by unfold deq;exact ZdV hf,by unfold dep;rw[ZfO];decide⟩
theorem ownT {K:Frag}{H:Hp}{a:Addr}{vs:List V}(h:SqT K H a vs)(hf:vs.all Zbm=true):Own K H (.t (vs.map DT.f)) (.ref a):=⟨datT h hf,by unfold deq;exact ZdV hf,by unfold dep;rw[ZfO];decide⟩
end L2
namespace L2
open PySem PySem.Spec PyProof.Rows
theorem Znj {t:SetTable}{n:Nat}:(t.orStandIn n).led=t.led/\((t.orStandIn n).plain=true->t.plain=true):=by
 unfold SetTable.orStandIn
 split
 .exact⟨rfl,id⟩
 .exact⟨rfl,fun h=>by cases h⟩
theorem ZlM {t:SetTable}{es:Array (Int×Value)}{h:Int}{x:Value}:(layNew t es h x).2.1.led=t.led/\((layNew t es h x).2.1.plain=true->t.plain=true):=by
 unfold layNew
 split
 .rename_i slot wd _
  exact Znj (t:=(t.put slot).1)
 .exact⟨rfl,fun h=>by cases h⟩
theorem Zkw {mask finger moves:Nat}{led plain:Bool}{hs:Array Int}{t':SetTable}{order:Array Nat}(e:SetTable.laid mask finger moves led plain hs=some (t',order)):t'.led=led/\t'.plain=plain:=by
 unfold SetTable.laid at e
 cases hq:SetTable.layClean mask hs with
 | none=>rw[hq]at e;cases e
 | some ow=>
  rw[hq]at e
  have e':=Option.some.inj e
  obtain⟨z,_⟩:=Prod.mk.inj e'
  subst z
  exact⟨rfl,rfl⟩
theorem Zje {t:SetTable}{es:Array (Int×Value)}{n:Nat}:(relayAll t es n).2.1.led=t.led/\((relayAll t es n).2.1.plain=true->t.plain=true):=by
 unfold relayAll
 split
 .rename_i t' order q
  obtain⟨h1,h2⟩:=Zkw q
  dsimp only
  split
  .exact⟨h1,fun h=>by rw[<-h2];exact h⟩
  .exact⟨rfl,fun h=>by cases h⟩
 .exact⟨rfl,fun h=>by cases h⟩
def TxSet (P:Program)(w:World)(h:Heap)(a:Addr)(ls:Q22)(led:Bool):Prop:=
 ∃(o:Obj) (es:Array (Int×Value)) (ep:Nat) (t:SetTable) (ms:Q22),h.get? a=some o/\o.ExactSet/\o.data=.set es ep t/\ElemsOf (Zax P w) es.toList/\t.fits es.size=true /\
  t.led=led/\(t.plain=true->es.size=0)/\ms.Perm ls/\Vals (ms.map tx) (es.toList.map (·.2))/\es.size<scanBound
theorem TxSet.keep {P:Program}{w:World}{h h':Heap}{a:Addr}{ls:Q22}{led:Bool}(x:TxSet P w h a ls led)(k:∀o,h.get? a=some o->h'.get? a=some o):TxSet P w h' a ls led:=by
 obtain⟨o,es,ep,t,ms,h1,r⟩:=x
 exact⟨o,es,ep,t,ms,k o h1,r⟩
theorem TxSet.typ {P:Program}{w:World}{s:Shared}{a:Addr}{ls:Q22}{led:Bool}(x:TxSet P w s.heap a ls led):s.TypeIs (.ref a) "set":=by
 obtain⟨o,es,ep,t,ms,h1,h2,_⟩:=x
 exact⟨o,h1,h2.1⟩
def addT (ls:Q22)(l:Q11):Q22:=if l∈ls then ls else ls++[l]
theorem Zo6 {l:Q11}{v:V}{u:Value}(r:RelV v u)(hv:∃m,v=tx m):ZeK (Sum.inr (⟨l.toArray⟩:Str):Key) u=decide (v=tx l):=by
 obtain⟨m,rfl⟩:=hv
 obtain⟨t,rfl⟩:=r
 rw[ZfP]
 simp only[ZeK,Value.isStrOf]
 by_cases h:m=l
 .subst h;simp
 .have:¬(⟨m.toArray⟩:Str)=⟨l.toArray⟩:=fun e=>h (Zc2.mp (congrArg V.str e))
  rw[decide_eq_false h]
  simp[this]
theorem ZgJ {l:Q11}:∀ {ms:Q22} {es:List (Int×Value)},Vals (ms.map tx) (es.map (·.2))->((∃e∈es,ZeK (Sum.inr (⟨l.toArray⟩:Str):Key) e.2=true)↔l∈ms)
 | [],[],_=>by simp
 | [],_::_,r=>by cases r
 | _::_,[],r=>by cases r
 | m::ms,e::es,r=>by
  cases r with
  | cons r1 r2=>
   have ih:=ZgJ (l:=l) r2
   have q:=Zo6 (l:=l) r1 ⟨m,rfl⟩
   rw[ZfP]at q
   constructor
   .rintro⟨x,hx,hk⟩
    rcases YAY.mp hx with z | z
    .subst z
     rw[q]at hk
     exact YAY.mpr (.inl (of_decide_eq_true hk).symm)
    .exact YAY.mpr (.inr (ih.mp ⟨x,z,hk⟩))
   .intro h
    rcases YAY.mp h with z | z
    .exact⟨e,YAa,by rw[q];exact decide_eq_true z.symm⟩
    .obtain⟨x,hx,hk⟩:=ih.mpr z
     exact⟨x,YAV _ hx,hk⟩
theorem Zdp {us us':List Value}(p:us'.Perm us):∀ {ms:Q22},Vals (ms.map tx) us->∃ms':Q22,ms'.Perm ms/\Vals (ms'.map tx) us':=by
 induction p with
 | nil=>intro ms r;exact⟨ms,.refl _,r⟩
 | cons x _ ih=>
  intro ms r
  cases ms with
  | nil=>cases r
  | cons m ms=>
   cases r with
   | cons r1 r2=>
    obtain⟨ms',p',r'⟩:=ih r2
    exact⟨m::ms',p'.cons _,.cons r1 r'⟩
 | swap x y l=>
  intro ms r
  match ms,r with
  | m1::m2::ms,.cons r1 (.cons r2 r3)=>exact⟨m2::m1::ms,.swap _ _ _,.cons r2 (.cons r1 r3)⟩
 | trans _ _ ih1 ih2=>
  intro ms r
  obtain⟨m1,p1,r1⟩:=ih2 r
  obtain⟨m2,p2,r2⟩:=ih1 r1
  exact⟨m2,p2.trans p1,r2⟩
section
variable {prog:Program}{w:World}{A:Around}{E:Q33}{s:Shared}
theorem ZgN {g:Bool->Sem Unit}(hg:∀(b:Bool) (s₁:Shared) (Q':Unit->Shared->Prop),Q' () s₁->wpAny (model prog w) A (g b) Q' E s₁){a:Addr}{o:Obj}{es:Array (Int×Value)}{ep:Nat}{t:SetTable}
  (ho:s.heap.get? a=some o) (hd:o.data=.set es ep t) {e1:Array (Int×Value)} {t2:SetTable} (hb:e1.size<scanBound) (hf:t2.fits e1.size=true) {wd:Bool} {R:Option Bool->Shared->Prop}
  (h:∀h' e2 t3 ep',Heap.SameBut a s.heap h'->h'.get? a=some { o with data:=.set e2 ep' t3 }->e2.toList.Perm e1.toList->t3.fits e2.size=true->t3.led=t2.led->(t3.plain=true->t2.plain=true)->R (some true) { s with heap:=h' }):
  wpAny (model prog w) A (do
   storeSet a e1 t2
   if (!wd&&t2.tooFull)=true then do
    g (relayAll t2 e1 (SetTable.grown e1.size)).2.2;storeSet a (relayAll t2 e1 (SetTable.grown e1.size)).1 (relayAll t2 e1 (SetTable.grown e1.size)).2.1;pure (some true)
   else pure (some true)) R E s:=by
 have put:∀ {h:Heap} {ob:Obj} {xs ys:Array (Int×Value)} {n:Nat} {t t':SetTable},h.get? a=some ob->ob.data=.set xs n t->(h.update a (Obj.putSet ys t')).get? a=some { ob with data:=.set ys (n+1) t' }:=fun {h ob xs ys n t t'} h1 h2=>by
  have q:=YBd (Obj.putSet ys t') h1 (by rw[putSet_of ys t' h2];rfl)
  rwa [putSet_of ys t' h2]at q
 have hs1:=YAk s.heap a (Obj.putSet e1 t2)
 have g1:=put (ys:=e1) (t':=t2) ho hd
 refine YAA (wpAny_storeSet_of ho hd ?_ (fits_of_scanBound hb))
 split
 .have p:=relayAll_perm t2 e1 (SetTable.grown e1.size)
  have f:=relayAll_fits t2 e1 (SetTable.grown e1.size)
  have tm:=Zje (t:=t2) (es:=e1) (n:=SetTable.grown e1.size)
  have z:(relayAll t2 e1 (SetTable.grown e1.size)).1.size=e1.size:=by rw[<-YAm,p.length_eq,YAm]
  refine YAA (hg _ _ _ (YAA (wpAny_storeSet_of g1 rfl (YAH ?_) (fits_of_scanBound (by rw[z];exact hb)))))
  exact h _ _ _ _ (hs1.trans (YAk _ a _)) (put (ob:={ o with data:=.set e1 (ep+1) t2 }) g1 rfl) p f tm.1 tm.2
 .exact YAH (h _ _ _ _ hs1 g1 (.refl _) hf rfl id)
theorem ZkK {a:Addr}{ls:Q22}{led:Bool}{l:Q11}{tk:Tok}{Q:Bool->Shared->Prop}(hS:TxSet prog w s.heap a ls led)(hn:ls.length+1<scanBound)
  (h:∀h' b,Heap.SameBut a s.heap h'->TxSet prog w h' a (addT ls l) led->Q b { s with heap:=h' }):
  wpAny (model prog w) A (setAddHashed a (.str ⟨l.toArray⟩ tk) (keyH w (Sum.inr ⟨l.toArray⟩))) Q E s:=by
 obtain⟨o,es,ep,t,ms,ho,hex,hd,hel,hf,hled,hpl,hp,hv,hb⟩:=hS
 have hkey:(Zax prog w).is (Sum.inr (⟨l.toArray⟩:Str)) (.str ⟨l.toArray⟩ tk)=true:=by
  exact ZdG prog w _ _
 have hsc:(Value.str ⟨l.toArray⟩ tk).scannable=true:=rfl
 have hlen:es.size=ls.length:=by
  have q:=hv.length
  rw[YAB,YAB]at q
  rw[<-YAm,<-q,hp.length_eq]
 have mem:=ZgJ (l:=l) hv
 have hl:l∈ms↔l∈ls:=hp.mem_iff
 unfold setAddHashed setAddHashedIn
 refine YBL (YAA (YCR ho hd hf ?_))
 dsimp only
 rw[byScan_of hsc hb hel,YAW rfl]
 unfold setAddByScan
 refine YAA (YAA (YCr (YAA (wpAny_setScan_of (knd:=Zax prog w) (k:=Sum.inr (⟨l.toArray⟩:Str)) hkey ho hd hf hel ?_))))
 cases hr:List.findIdx? (fun e=>(Zax prog w).is (Sum.inr (⟨l.toArray⟩:Str)) e.2) es.toList with
 | some j=>
  dsimp only
  obtain⟨hj,hpj,_⟩:=List.findIdx?_eq_some_iff_getElem.mp hr
  have hin:l∈ls:=hl.mp (mem.mp ⟨es.toList[j],YBM hj,hpj⟩)
  refine YAH (YAH ?_)
  have q:=h s.heap false (Heap.SameBut.refl a s.heap) (by
   unfold addT
   rw[YAW hin]
   exact⟨o,es,ep,t,ms,ho,hex,hd,hel,hf,hled,hpl,hp,hv,hb⟩)
  exact q
 | none=>
  dsimp only
  have hnin:l∉ls:=fun z=>by
   obtain⟨e,he,hk⟩:=mem.mpr (hl.mpr z)
   have q:=List.findIdx?_eq_none_iff.mp hr e he
   rw[show (Zax prog w).is (Sum.inr (⟨l.toArray⟩:Str)) e.2=true from hk]at q
   cases q
  have lp:=layNew_perm t es (keyH w (Sum.inr ⟨l.toArray⟩)) (.str ⟨l.toArray⟩ tk)
  have lf:=layNew_fits t es (keyH w (Sum.inr ⟨l.toArray⟩)) (.str ⟨l.toArray⟩ tk)
  have lt:=ZlM (t:=t) (es:=es) (h:=keyH w (Sum.inr ⟨l.toArray⟩)) (x:=.str ⟨l.toArray⟩ tk)
  show wpAny _ A (match layNew t es (keyH w (Sum.inr ⟨l.toArray⟩)) (.str ⟨l.toArray⟩ tk) with | (es,t,wasDummy,gave)=>_) _ _ _
  generalize hL:layNew t es (keyH w (Sum.inr ⟨l.toArray⟩)) (.str ⟨l.toArray⟩ tk)=L at lp lf lt ⊢
  obtain⟨e1,t1,wd,gave⟩:=L
  dsimp only at lp lf lt ⊢
  rw[Array.toList_push]at lp
  have sz1:e1.size=ls.length+1:=by rw[<-YAm,lp.length_eq,YAI,YAm,hlen];rfl
  have gw:∀(b:Bool) (s₁:Shared) (Q':Unit->Shared->Prop),Q' () s₁->wpAny (model prog w) A (match b with | true=>rule "set.scan.the-table-gave-way" | false=>pure ()) Q' E s₁:=
   fun b s₁ Q' hq=>by cases b<;>first | exact YAH hq | exact YCr hq
  refine YAA (gw _ _ _ ?_)
  have fin:∀(t2:SetTable),t2.fits e1.size=true->t2.led=t1.led->t2.plain=false->∀h' e2 t3 ep',Heap.SameBut a s.heap h'->h'.get? a=some { o with data:=.set e2 ep' t3 }->e2.toList.Perm e1.toList->t3.fits e2.size=true->t3.led=t2.led->(t3.plain=true->t2.plain=true)->Q true { s with heap:=h' }:=by
   intro t2 f2 l2 p2 h' e2 t3 ep' sb hg pm f3 l3 p3
   refine h h' true sb ?_
   have pall:=pm.trans lp
   obtain⟨ms',pm',hv'⟩:=Zdp (us:=(es.toList++[(keyH w (Sum.inr ⟨l.toArray⟩),Value.str ⟨l.toArray⟩ tk)]).map (·.2)) (us':=e2.toList.map (·.2)) (pall.map _) (ms:=ms++[l]) (by
    rw[YAq,YAq]
    exact hv.append (.cons ⟨tk,rfl⟩ .nil))
   unfold addT
   rw[YAX hnin]
   refine⟨_,e2,ep',t3,ms',hg,hex,rfl,((hel.push (knd:=Zax prog w) hkey hsc).perm pall),f3,l3.trans (l2.trans (lt.1.trans hled)),fun z=>by rw[p2]at p3;exact absurd (p3 z) YAF,pm'.trans (hp.append_right [l]),hv',?_⟩
   rw[<-YAm,pm.length_eq,YAm,sz1]
   exact hn
  split
  .refine YAA ?_
   rw[hashByValue_scannable 8 hsc]
   refine YAH ?_
   refine ZgN gw ho hd (by rw[sz1];exact hn) ?_ fun h' e2 t3 ep' q1 q2 q3 q4 q5 q6=>?_
   .exact SetTable.fits_plain_off lf
   .exact YAH (fin _ (SetTable.fits_plain_off lf) rfl rfl h' e2 t3 ep' q1 q2 q3 q4 q5 q6)
  .rename_i hnp
   have hnp':t1.plain=false:=by simpa using hnp
   refine YAA (YAH ?_)
   rw[YAW rfl]
   refine ZgN gw ho hd (by rw[sz1];exact hn) lf fun h' e2 t3 ep' q1 q2 q3 q4 q5 q6=>YAH (fin _ lf rfl hnp' h' e2 t3 ep' q1 q2 q3 q4 q5 q6)
end
def dd (val:Nat->Q11)(i:Nat):Q22:=((List.range i).map val).foldl addT []
theorem Zgz {val:Nat->Q11}{i:Nat}:dd val (i+1)=addT (dd val i) (val i):=by
 unfold dd
 rw[YBx,YAq,List.foldl_append]
 rfl
theorem ZjY {ls:Q22}{l:Q11}:(addT ls l).length<=ls.length+1:=by
 unfold addT
 split
 .omega
 .simp
theorem Zkm {val:Nat->Q11}:∀i,(dd val i).length<=i
 | 0=>YAJ _
 | i+1=>by
  rw[Zgz]
  have h1:=Zkm (val:=val) i
  have h2:=ZjY (ls:=dd val i) (l:=val i)
  omega
theorem ZeW {val:Nat->Q11}:∀i,(dd val i).Nodup
 | 0=>by simp[dd]
 | i+1=>by
  rw[Zgz]
  unfold addT
  split
  .exact ZeW i
  .rename_i h
   rw[YCD]
   refine⟨ZeW i,by simp,?_⟩
   intro a ha b hb e
   have:b=val i:=by simpa using hb
   subst e this
   exact h ha
section
variable {prog:Program}{w:World}{A:Around}{R:Result->Shared->Prop}{I:Addr}{fp wr:List Addr}{G:Array GenState->Array GenState->Prop}{n:Nat}{Pi:Nat->Value->Prop}{St:Nat->Shared->Prop}
theorem Zjh (W:WalksS prog w A.in1 I fp wr G n Pi St)(S:Addr)(hSf:S∉fp)(val:Nat->Q11)(hval:∀i v,Pi i v->∃t,v=.str ⟨(val i).toArray⟩ t)(hb:n+1<scanBound){led:Bool}:
  ∀(k i:Nat) (s:Shared),n-i=k->i<=n->St i s->TxSet prog w s.heap S (dd val i) led->(∀s',Moved (S::wr) G s s'->TxSet prog w s'.heap S (dd val n) led->R (.ok (.ret .none)) s') ->
   codeAny (model prog w) A (.builtin "set.update.loop" ⟨[.ref S,.ref I],[]⟩) R s:=by
 have nw:S∉wr:=fun h=>hSf (W.sub _ h)
 have up:∀b∈wr,b∈S::wr:=fun b hb=>YAV _ hb
 intro k
 induction k with
 | zero=>
  intro i s hk hi st hS hR
  have e:i=n:=by omega
  subst e
  refine codeAny_builtin F.entry_set_update_loop ?_
  rw[YBG YDd _]
  show wpAny _ A.in1 (pyNext (.ref I) >>= fun r=>_) _ _ s
  refine YAA (W.done s _ _ st fun s' hm=>?_)
  exact YAH (hR s' (hm.mono up) (hS.keep fun o e=>hm.heap S o nw e))
 | succ k ih=>
  intro i s hk hi st hS hR
  have hlt:i<n:=by omega
  refine codeAny_builtin F.entry_set_update_loop ?_
  rw[YBG YDd _]
  show wpAny _ A.in1 (pyNext (.ref I) >>= fun r=>_) _ _ s
  refine YAA (W.item i s _ _ hlt st fun v s1 hP st1 hm=>?_)
  obtain⟨tk,rfl⟩:=hval i v hP
  have hS1:TxSet prog w s1.heap S (dd val i) led:=hS.keep fun o e=>hm.heap S o nw e
  show wpAny _ A.in1 (holding [Value.str ⟨(val i).toArray⟩ tk] (setAdd S (.str ⟨(val i).toArray⟩ tk)) >>= fun _=>_) _ _ s1
  refine YAA (YBL ?_)
  unfold setAdd
  refine YBL (YAA (wpAny_pyHash_str ?_))
  refine ZkK (s:={ s1 with toks:=s1.toks+1 }) (l:=val i) hS1 (by have:=Zkm (val:=val) i;omega) fun h' b sb hS2=>?_
  rw[<-Zgz]at hS2
  refine YAH ⟨plainId_quiet YDd _,ih (i+1) _ (by omega) hlt (W.frame _ s1 _ _ st1 (YCO _) fun b hb o e=>(sb.2 b fun z=>hSf (z▸hb)).trans e) hS2 fun s2 hm2 hS3=>?_⟩
  exact hR s2 (Moved.trans W.gtrans ((hm.mono up).then_heap (YCO _) fun b o hb e=>(sb.2 b fun z=>hb (z▸YAa)).trans e) hm2) hS3
end
theorem Zdr {i:Nat}{u:Value}:∀ {vs:List V} {us:List Value} ,Vals vs us->us[i]?=some u->∃v,vs[i]?=some v/\RelV v u:=by
 induction i with
 | zero=>
  intro vs us r e
  cases r with
  | nil=>cases e
  | cons r1 _=>cases e;exact⟨_,rfl,r1⟩
 | succ i ih=>
  intro vs us r e
  cases r with
  | nil=>cases e
  | cons _ r2=>exact ih r2 e
structure Walked (prog:Program)(w:World)(x:Value)(s:Shared)(T:String)(n:Nat)(val:Nat->Q11):Prop where
 ty:∀s1:Shared,(∀b o,s.heap.get? b=some o->s1.heap.get? b=some o)->s1.TypeIs x T
 go:∀(A:Around) (s1:Shared) (Q:Q33) (E:Q33),A.handled=none->(∀b o,s.heap.get? b=some o->s1.heap.get? b=some o) ->
  (∀(h2:Heap) (I:Addr) (fp wr:List Addr) (Pi:Nat->Value->Prop) (St:Nat->Heap->Prop),(∀A':Around,A'.handled=none->Walks prog w A' I fp wr n Pi St)->St 0 h2 ->
   (∀b∈fp,b<s.heap.objs.size\/s1.heap.objs.size<=b)->(∀b∈wr,s1.heap.objs.size<=b)->(∀b o,s1.heap.get? b=some o->h2.get? b=some o)->(∀i v,Pi i v->∃t,v=.str ⟨(val i).toArray⟩ t)->Q (.ref I) { s1 with heap:=h2 }) ->
  wpAny (model prog w) A (pyIter x) Q E s1
theorem Zf6 {prog:Program}{w:World}{s:Shared}{l:Addr}{us:List Value}{ls:Q22}(hl:s.heap.IsList l us.toArray)(r:Vals (ls.map tx) us):Walked prog w (.ref l) s "list" ls.length (fun i=>ls.getD i []) where
 ty:=fun s1 k=>by
  obtain⟨o,ho,hc,_⟩:=hl
  exact⟨o,k _ _ ho,hc⟩
 go:=fun A s1 Q E hh k h=>by
  obtain⟨o,ho,hc,hr⟩:=id hl
  have hl1:s1.heap.IsList l us.toArray:=⟨o,k _ _ ho,hc,hr⟩
  have hlt:=YAL ho
  have hlt1:=YAL (k _ _ ho)
  have hlen:us.toArray.size=ls.length:=by rw[YAP,<-r.length,YAB]
  refine YCC hl1 ?_
  have W:∀A':Around,A'.handled=none->Walks prog w A' s1.heap.objs.size [s1.heap.objs.size,l] [s1.heap.objs.size] ls.length (fun i v=>us.toArray[i]?=some v) (fun i h=>h.IsListIter s1.heap.objs.size l i/\h.IsList l us.toArray):=fun A' hA=>by
   have q:=Walks.list (prog:=prog) (w:=w) hA s1.heap.objs.size l (YAi hlt1) us.toArray
   rwa [hlen]at q
  refine h _ _ _ _ _ _ W ⟨⟨_,YAQ _ rfl,rfl,rfl⟩,hl1.push _⟩ (fun b hb=>?_) (fun b hb=>?_) (fun b o e=>YAC _ e) (fun i v e=>?_)
  .rcases YAY.mp hb with z | z
   .exact .inr (YBv z.symm)
   .have z:b=l:=by simpa using z
    rw[z];exact .inl hlt
  .have z:b=s1.heap.objs.size:=by simpa using hb
   exact YBv z.symm
  .have e':us[i]?=some v:=by simpa using e
   obtain⟨v',hv',rv⟩:=Zdr r e'
   rw[YAZ]at hv'
   cases q:ls[i]? with
   | none=>rw[q]at hv';cases hv'
   | some m=>
    rw[q]at hv'
    cases hv'
    obtain⟨t,rfl⟩:=rv
    exact⟨t,by rw[YAG,q];rfl⟩
theorem Zf5 {prog:Program}{w:World}{s:Shared}{l:Q11}{t:Tok}:Walked prog w (.str ⟨l.toArray⟩ t) s "str" l.length (fun i=>[l.getD i 0]) where
 ty:=fun s1 _=>typeIs_str s1 _ _
 go:=fun A s1 Q E hh k h=>by
  have hlen:(⟨l.toArray⟩:Str).cps.size=l.length:=by show l.toArray.size=_;simp
  have item:∀(i:Nat) (v:Value),(∃c u,(⟨l.toArray⟩:Str).cps[i]?=some c/\v=.str ⟨#[c]⟩ u)->∃t,v=.str ⟨[l.getD i 0].toArray⟩ t:=by
   rintro i v ⟨c,u,e,rfl⟩
   have e':l[i]?=some c:=by simpa using e
   exact⟨u,by rw[YAG,e'];rfl⟩
  refine wpAny_pyIter_str fun o St W st=>?_
  rw[hlen]at W
  refine h _ _ _ _ _ _ W st (fun b hb=>.inr ?_) (fun b hb=>?_) (fun b o e=>YAC _ e) (fun i v ⟨c,u,e,e2⟩=>item i v ⟨c,u,e,e2⟩)
  .have z:b=s1.heap.objs.size:=by simpa using hb
   exact YBv z.symm
  .have z:b=s1.heap.objs.size:=by simpa using hb
   exact YBv z.symm
section
variable {prog:Program}{w:World}{A:Around}{E:Q33}{s:Shared}
abbrev Zfs (led:Bool):Obj:={ cls:=.type "set",dict:=none,data:=.set #[] 0 (.fresh 0 0 led) }
theorem Zh0 {h:Heap}{a:Addr}{led:Bool}(ho:h.get? a=some (Zfs led)):TxSet prog w h a [] led:=
 ⟨_,#[],0,_,[],ho,⟨rfl,rfl,rfl⟩,rfl,fun e he=>by simp at he,rfl,rfl,fun _=>rfl,.refl _,.nil,by show 0<4096;decide⟩
def Zbd (w:World):Bool:=w.params.followText "set-order"
theorem ZkI (a:Value){Q₁:Q33}(h:Q₁ (.ref s.heap.objs.size) { s with heap:=s.heap.push (Zfs (!Zbd w)) }):
  codeAny (model prog w) A (.call (.builtin "set.__new__") ⟨[.type "set",a],[]⟩) (wants Q₁ E) s:=by
 refine codeAny_of_tree ?_
 show wpAny _ A.in1 (checkBuiltinCall "set.__new__" ⟨[.type "set",a],[]⟩ >>= fun _=>again (.builtin "set.__new__" ⟨[.type "set",a],[]⟩)) _ _ s
 refine YAA (wpAny_of_eq (F.newCall_set_1 a) (YAH ⟨plainId_quiet F.plain_set_new _,codeAny_builtin F.entry_set_new ?_⟩))
 rw[YBG F.plain_set_new _]
 unfold Builtin.«set.__new__» Builtin.Frozenset.newClass
 have hsub:=sub_set_self
 obtain⟨hp,g,d,tk,os⟩:=s
 dsimp only
 wp_walk
 refine YCa (YAH ?_)
 dsimp only
 simp only[newObj]
 exact YAA (wpAny_alloc (YAH (YAH h)))
set_option maxHeartbeats 3200000 in
theorem ZgO {x:Value} {T:String} {n:Nat} {val:Nat->Q11} {Q:Q33} (hh:A.handled=none) (W:Walked prog w x s T n val) (t1:isSubtype (.type T) (.type "set")=pure false) (t2:isSubtype (.type T) (.type "frozenset")=pure false)
  (t3:(Value.type T == Value.type "dict")=false) (hb:n+1<scanBound)
  (h:∀(h':Heap) (tk:Nat),TxSet prog w h' s.heap.objs.size (dd val n) (!Zbd w)->(∀b o,s.heap.get? b=some o->h'.get? b=some o)->s.toks<=tk->Q (.ref s.heap.objs.size) { s with heap:=h',toks:=tk }):
  wpAny (model prog w) A (call (.type "set") [x]) Q E s:=by
 obtain⟨c,tl,hmro⟩:=F.called_set.mro
 have hmade:=F.called_set.made
 have hsub:=F.called_set.sub
 refine YCS (codeAny_of_tree ?_)
 show wpAny _ _ (callAny (.type "set") _) _ _ _
 refine YAH ⟨Code.quiet_builtin _ (by decide +kernel),codeAny_builtin F.entry_type_call ?_⟩
 rw[Around.under_plain (weight_type_call_type "set" [x] []) rfl]
 have h1:=F.called_set.notType
 have h2:=F.called_set.canCreate
 have hct:=F.typeCall_set_1 x
 repeat (any_goals (first | assumption | wp_step))
 refine codeAny_mono (ZkI x (E:=E) (Q₁:=fun ob s₁=>ob=.ref s.heap.objs.size/\s₁={ s with heap:=s.heap.push (Zfs (!Zbd w)) }) ⟨rfl,rfl⟩) fun r s₁ hr=>?_
 cases r with
 | error e=>exact hr
 | ok fl=>
  cases fl with
  | ret ob=>
   obtain⟨rfl,rfl⟩:=hr
   have hS:(s.heap.push (Zfs (!Zbd w))).get? s.heap.objs.size=some (Zfs (!Zbd w)):=YAQ _ rfl
   have hT:Shared.TypeIs { s with heap:=s.heap.push (Zfs (!Zbd w)) } (.ref s.heap.objs.size) "set":=⟨_,hS,rfl⟩
   have hli:=F.called_set.init.lookup
   have hbi:=F.called_set.init.bind (.ref s.heap.objs.size)
   have keep1:∀b o,s.heap.get? b=some o->(s.heap.push (Zfs (!Zbd w))).get? b=some o:=fun b o e=>YAC _ e
   repeat (any_goals (first | assumption | wp_step))
   refine codeAny_mono (codeAny_call_builtin (R:=wants (fun r s₂=>r=.none/\∃h' tk,s₂={ s with heap:=h',toks:=tk }/\TxSet prog w h' s.heap.objs.size (dd val n) (!Zbd w)/\(∀b o,s.heap.get? b=some o->h'.get? b=some o)/\s.toks<=tk) E)
    F.called_set.init.plain F.entry_set_init (check_set_init_1 hT ?_)) fun r₂ s₂ hr₂=>?_
   .have hTx:=W.ty { s with heap:=s.heap.push (Zfs (!Zbd w)) } keep1
    unfold Builtin.«set.__init__» noKeywords Builtin.Frozenset.updateFrom
    generalize hPI:pyIter=PI
    wp_walk
    subst hPI
    refine W.go _ _ _ _ (by simp[hh]) keep1 fun h2 I fp wr Pi St Wk st f1 f2 k2 hval=>?_
    refine YAA (wpAny_runValue ?_)
    have hSf:s.heap.objs.size∉fp:=fun z=>by
     rcases f1 _ z with q | q
     .exact YAo _ q
     .rw[YBg]at q;exact absurd q (Nat.not_succ_le_self _)
    refine Zjh ((Wk A.in1.in1.in1 (by simp[hh])).toS) s.heap.objs.size hSf val hval hb (n-0) 0 _ (by omega) (YAg _) st (Zh0 (k2 _ _ hS)) fun s' hm hS'=>?_
    obtain⟨h',g',d',tk',os'⟩:=s'
    have eg:g'=s.gens:=hm.gens
    have ed:d'=s.drawn:=hm.drawn
    have eo:os'=s.os:=hm.os
    have et:s.toks<=tk':=hm.toks
    subst eg ed eo
    refine YAH ?_
    refine YAH ⟨rfl,h',tk',rfl,hS',fun b o e=>?_,et⟩
    have hlt:=YAL e
    refine hm.heap b o (fun z=>?_) (k2 b o (keep1 b o e))
    rcases YAY.mp z with q | q
    .rw[q]at hlt;exact YAo _ hlt
    .have q2:=f2 b q
     rw[YBg]at q2
     exact absurd (YAT hlt (Nat.le_of_succ_le q2)) (YAo _)
   .cases r₂ with
    | error e=>exact hr₂
    | ok fl₂=>
     cases fl₂ with
     | ret r=>
      obtain⟨rfl,h',tk,rfl,hS',hk',htk⟩:=hr₂
      repeat (any_goals (first | assumption | wp_step))
      exact h _ _ hS' hk' htk
     | _=>exact hr₂.elim
  | _=>exact hr.elim
end
theorem ZcX {α:Type}:∀(xs:List α) (i:Nat) (h:i<xs.length),(xs[i]::xs.eraseIdx i).Perm xs
 | x::xs,0,_=>.refl _
 | x::xs,i+1,h=>by
  have hi:i<xs.length:=by simpa using h
  have ih:=ZcX xs i hi
  show (xs[i]::x::xs.eraseIdx i).Perm (x::xs)
  exact(List.Perm.swap _ _ _).trans (ih.cons x)
section
variable {M:Model}{A:Around}{E:Q33}{s:Shared}
theorem wp_choose' {src:Source}{n:Nat}{Q:Nat->Shared->Prop}(hn:n≠0)(h:∀i d,i<n->Q i { s with drawn:=d }):wpAny M A (choose src n) Q E s:=fun Γ p hΓ=>by
 unfold choose
 rw[Sem.wp_choose]
 exact⟨hn,h _ _ (Nat.mod_lt _ (Nat.pos_of_ne_zero hn))⟩
theorem Zc1 {α:Type}:∀(n:Nat) (xs:List α) (s:Shared) (Q:List α->Shared->Prop),xs.length=n->(∀ys d,ys.Perm xs->Q ys { s with drawn:=d })->wpAny M A (drawOrder n xs) Q E s
 | 0,xs,s,Q,hl,h=>by
  have e:xs=[]:=YDC hl
  subst e
  unfold drawOrder
  exact YAH (h [] s.drawn (.refl _))
 | n+1,[],s,Q,hl,h=>by cases hl
 | n+1,x::xs,s,Q,hl,h=>by
  unfold drawOrder
  refine YAA (wp_choose' (by simp) fun i d hi=>?_)
  have e:(x::xs)[i]?=some (x::xs)[i]:=YAE hi
  rw[e]
  dsimp only
  refine YAA (Zc1 n ((x::xs).eraseIdx i) _ _ ?_ fun ys d' p=>YAH ?_)
  .rw[YDM hi,hl];rfl
  .refine h _ d' ((List.Perm.cons _ p).trans ?_)
   exact ZcX _ _ hi
end
theorem Zea:entryFor table "set.__iter__"=some Builtin.«frozenset.__iter__»:=entryFor_alias (id':="frozenset.__iter__") (by kernel_rfl) rfl (by decide +kernel) (by kernel_rfl)
theorem ZaD:Slot "set_iterator" "__next__" "set_iterator.__next__":=
 .of (owner:="set_iterator") (n:="__next__") (by rw[typeLookup_type,builtinLookup_eq_fast];kernel_rfl) (by decide +kernel) (by decide +kernel) (by decide +kernel)
  (by first | exact .inl (by decide +kernel) | exact .inr (by decide +kernel)) (by rw[isSubtype_type];kernel_rfl)
theorem ZbA:entryFor table "set_iterator.__next__"=some Builtin.«set_iterator.__next__»:=entryFor_of_fast (by kernel_rfl)
theorem ZbJ (a:Value):argsOk "set_iterator.__next__" ⟨[a],[]⟩:=by unfold argsOk;kernel_rfl
section
variable {prog:Program}{w:World}{A:Around}{E:Q33}{s:Shared}
def SetIt (h:Heap)(I S:Addr)(first:Value)(i n ep:Nat):Prop:=∃o,h.get? I=some o/\o.cls=.type "set_iterator"/\o.data=.fields #[first,.int i 0,.ref S,.int n 0,.int ep 0]
theorem Zlu {t:SetTable}{n:Nat}(hf:t.fits n=true):(t.place.size != n || decide (t.fill>t.mask))=false:=by
 simp only[SetTable.fits,YAU,beq_iff_eq,decide_eq_true_eq]at hf
 simp[hf.1,YDV.mpr hf.2]
theorem ZjI {S:Addr}{o:Obj}{es:Array (Int×Value)}{ep:Nat}{t:SetTable}{Q:Q33}(ho:s.heap.get? S=some o)(hex:o.ExactSet)(hd:o.data=.set es ep t)(hf:t.fits es.size=true)(hz:es.size<=sizeLine)
  (h0:(Zbd w=true\/(t.plain=true\/es.size<=1))->Q (.ref s.heap.objs.size) { s with heap:=s.heap.push { cls:=.type "set_iterator",data:=.fields #[.int 0 0,.int 0 0,.ref S,.int es.size 0,.int ep 0] } })
  (h1:∀(ps:Q11) (d:Drawn),ps.Perm (List.range es.size)->Q (.ref (s.heap.objs.size+1)) { s with drawn:=d,heap:=(Heap.push s.heap { cls:=.type "tuple",data:=.seq (ps.map (fun i=>Value.int ((i:Nat):Int) 0)).toArray }).push { cls:=.type "set_iterator",data:=.fields #[.ref s.heap.objs.size,.int 0 0,.ref S,.int es.size 0,.int ep 0] } }):wpAny (model prog w) A (pyIter (.ref S)) Q E s:=by
 have hT:s.TypeIs (.ref S) "set":=⟨o,ho,hex.1⟩
 refine wpAny_pyIter_slot hT F.slot_set_iter (YDA F.slot_set_iter hT Zea ?_ (F.args_set_iter_1 _))
 unfold Builtin.«frozenset.__iter__» Builtin.Frozenset.sizeOf setDrawn setsByText
 wp_walk
 rw[hd]
 dsimp only
 rw[Zlu hf]
 rw[YAX YAF]
 refine YAH (YAH (YAH ?_))
 refine YAA (YAA (YCR ho hd hf ?_))
 dsimp only
 refine YAA (YAA (YCa (YAH (YAH ?_))))
 show wpAny _ _ (if (!Zbd w&&(!t.plain&&decide (es.size>1)))=true then _ else _) _ _ _
 split
 .refine YAA (Zc1 es.size (List.range es.size) _ _ (by simp) fun ps d p=>?_)
  refine YAA ?_
  simp only[newTuple]
  refine YBk ?_ (by show (List.map _ ps).toArray.size<=sizeLine;rw[YAP,YAB,p.length_eq,YBJ];exact hz)
  refine YAA (wpAny_setEpoch_of (YAC _ ho) hd hf (YAA (YBk (YAH ⟨_,rfl,"set_iterator",_,⟨_,YAQ _ rfl,rfl⟩,ZaD.lookup,?_⟩))))
  have q:=h1 ps d p
  rw[YBg]
  exact q
 .rename_i hb
  refine YAA (YAH ?_)
  refine YAA (wpAny_setEpoch_of ho hd hf (YAA (YBk (YAH ⟨_,rfl,"set_iterator",_,⟨_,YAQ _ rfl,rfl⟩,ZaD.lookup,h0 ?_⟩))))
  cases h:Zbd w with
  | true=>exact .inl rfl
  | false=>
   refine .inr ?_
   cases h':t.plain with
   | true=>exact .inl rfl
   | false=>
    rw[h,h']at hb
    simp at hb
    exact .inr hb
end
section
variable {prog:Program}{w:World}{A:Around}{E:Q33}{s:Shared}{I S:Addr}{o:Obj}{es:Array (Int×Value)}{ep i n:Nat}{t:SetTable}
theorem SetIt.typ {first:Value}(h:SetIt s.heap I S first i n ep):s.TypeIs (.ref I) "set_iterator":=let ⟨o,h1,h2,_⟩:=h;⟨o,h1,h2⟩
abbrev Zm9 (I S:Addr)(slot i ep:Nat):Sem PySem.Fin:=do
 match <-setNext S slot i ep with
 | some (x,next)=>do
  setField (.ref I) 0 (rawInt (next:Nat))
  setField (.ref I) 1 (rawInt ((i:Int)+1))
  ret x
 | none=>do
  setField (.ref I) 2 Value.none
  raiseNew (<-newExc (Value.type "StopIteration") [])
abbrev ZlB (I S:Addr)(first:Value)(i ep:Nat):Sem PySem.Fin:=do
 match <-seqItems? first with
 | some places=>match places[i]? with
  | some (.int place _)=>do
   let x <-setNextDrawn S place.toNat ep
   setField (.ref I) 1 (rawInt ((i:Int)+1))
   ret x
  | some _=>unsupported "internal:set_iterator"
  | none=>do
   setField (.ref I) 0 (rawInt 0)
   setField (.ref I) 2 Value.none
   raiseNew (<-newExc (Value.type "StopIteration") [])
 | _=>unsupported "internal:set_iterator"
abbrev NxQ (prog:Program)(w:World)(A:Around)(Q:Option Value->Shared->Prop)(E:Q33)(fin:PySem.Fin)(s':Shared):Prop:=∃v,fin=Fin.done (Flow.ret v)/\Q (some v) s'
abbrev NxE (prog:Program)(w:World)(A:Around)(Q:Option Value->Shared->Prop)(E:Q33)(e:Value)(s':Shared):Prop:=
 wpAny (model prog w) A (do let b <-isInstance e (Value.type "StopIteration");if b=true then pure none else throw e) Q E s'
theorem ZcI {slot:Nat}{Q:Option Value->Shared->Prop}(hi:SetIt s.heap I S (.int (slot:Nat) 0) i es.size ep)(ho:s.heap.get? S=some o)(hd:o.data=.set es ep t)(hf:t.fits es.size=true)
  (h:wpAny (model prog w) A.in1 (Zm9 I S slot i ep) (NxQ prog w A Q E) (NxE prog w A Q E) s):wpAny (model prog w) A (pyNext (.ref I)) Q E s:=by
 obtain⟨oi,hoi,hci,hdi⟩:=id hi
 unfold pyNext
 refine YAA (YCg (wpAny_callSpecial?_slot (name:=Str.ofString "__next__") hi.typ ZaD (YDA ZaD hi.typ ZbA ?_ (ZbJ _))))
 unfold Builtin.«set_iterator.__next__»
 wp_walk
 rw[hdi]
 dsimp only
 refine YAH ?_
 dsimp only
 refine YAA (wpAny_setEntries_of ho hd hf ?_)
 (try dsimp only)
 rw[YAX (by simp)]
 refine YBN h (fun fin s' q=>?_) fun e s' q=>q
 obtain⟨v,rfl,q⟩:=q
 exact⟨v,rfl,YAH q⟩
theorem Zef {tp:Addr}{Q:Option Value->Shared->Prop}(hi:SetIt s.heap I S (.ref tp) i es.size ep)(ho:s.heap.get? S=some o)(hd:o.data=.set es ep t)(hf:t.fits es.size=true)
  (h:wpAny (model prog w) A.in1 (ZlB I S (.ref tp) i ep) (NxQ prog w A Q E) (NxE prog w A Q E) s):wpAny (model prog w) A (pyNext (.ref I)) Q E s:=by
 obtain⟨oi,hoi,hci,hdi⟩:=id hi
 unfold pyNext
 refine YAA (YCg (wpAny_callSpecial?_slot (name:=Str.ofString "__next__") hi.typ ZaD (YDA ZaD hi.typ ZbA ?_ (ZbJ _))))
 unfold Builtin.«set_iterator.__next__»
 wp_walk
 rw[hdi]
 dsimp only
 refine YAH ?_
 dsimp only
 refine YAA (wpAny_setEntries_of ho hd hf ?_)
 (try dsimp only)
 rw[YAX (by simp)]
 refine YBN h (fun fin s' q=>?_) fun e s' q=>q
 obtain⟨v,rfl,q⟩:=q
 exact⟨v,rfl,YAH q⟩
theorem Zf9 {Q:Option Value->Shared->Prop}(hh:A.handled=none)(hQ:∀h',(∀b o,s.heap.get? b=some o->h'.get? b=some o)->Q none { s with heap:=h' }):
  wpAny (model prog w) A.in1 (do raiseNew (<-newExc (Value.type "StopIteration") [])) (NxQ prog w A Q E) (NxE prog w A Q E) s:=by
 refine YAA ?_
 simp only[newExc,newTuple]
 refine YAA (YBk ?_ (by size_fits))
 refine YAA (m:=firstArgMember _ _) (wpAny_of_eq (a:=Value.none) (by first | rfl | (simp only[firstArgMember];rfl)) ?_)
 refine YBk ?_ (by size_fits)
 simp only[raiseNew]
 refine YAA (wpAny_handled ?_)
 rw[show A.in1.handled=none from hh]
 refine YAA (YAH (wpAny_throw ?_))
 refine YAA (wpAny_isInstance (T:="StopIteration") (b:=true) ⟨_,YAQ _ rfl,rfl⟩ isSubtype_stop ?_)
 exact YAH (hQ _ fun b o e=>YAC _ (YAC _ e))
theorem Zej {h:Heap} {v:Value} {k:Nat} {oi:Obj} {vs:Array Value} (hoi:h.get? I=some oi) (hci:oi.cls=.type "set_iterator") (hdi:oi.data=.fields vs):
  ∃o',(h.update I (Obj.mapFields (·.setIfInBounds k v))).get? I=some o'/\o'.cls=.type "set_iterator"/\o'.data=.fields (vs.setIfInBounds k v):=
 ⟨_,YBd _ hoi (Obj.isFreed_of_fields (YCi hdi _)),(Obj.cls_mapFields ..).trans hci,YCi hdi _⟩
theorem Zdu {slot:Nat}{Q:Option (Value×Nat)->Shared->Prop}(ho:s.heap.get? S=some o)(hd:o.data=.set es ep t)(hf:t.fits es.size=true)(hb:Zbd w=true)
  (h:Q (((pickOrder (w.params.setOrder S ep) es)[i]?).map fun e=>(e.2,slot)) s):wpAny (model prog w) A (setNext S slot i ep) Q E s:=by
 unfold setNext
 refine YAA (YCR ho hd hf ?_)
 dsimp only
 unfold setsByText
 refine YAA (YAA (YCa (YAH ?_)))
 show wpAny _ _ (if Zbd w=true then _ else _) _ _ _
 rw[hb,YAW rfl,YAX (by simp)]
 unfold setWalk
 refine YAA (YAA (YCR ho hd hf ?_))
 dsimp only
 unfold setsByText
 refine YAA (YAA (YCa (YAH ?_)))
 show wpAny _ _ (if Zbd w=true then _ else _) _ _ _
 rw[hb,YAW rfl]
 exact YAA (YCa (YAH (YAH h)))
theorem Zdv {slot:Nat}{Q:Option (Value×Nat)->Shared->Prop}(ho:s.heap.get? S=some o)(hd:o.data=.set es ep t)(hf:t.fits es.size=true)(hb:Zbd w=false)(hl:t.led=true)(h1:es.size<=1)
  (h:Q (match es[SetTable.below t.place slot]?,t.place[SetTable.below t.place slot]? with | some (_,x),some j=>some (x,j+1) | _,_=>none) s):wpAny (model prog w) A (setNext S slot i ep) Q E s:=by
 unfold setNext
 refine YAA (YCR ho hd hf ?_)
 dsimp only
 unfold setsByText
 refine YAA (YAA (YCa (YAH ?_)))
 show wpAny _ _ (if Zbd w=true then _ else (if (!t.plain&&decide (es.size>1))=true then _ else _)) _ _ _
 have hn:¬es.size>1:=by omega
 rw[hb,YAX YAF,decide_eq_false hn,YCI,YAX YAF]
 show wpAny _ _ ((if (!t.led&&!es.isEmpty)=true then (do let _ <-(unsupported "set:maker-not-led":Sem Unit);pure ()) else pure ()) >>= fun _=>_) _ _ _
 rw[hl,YDe,YBw,YAX YAF]
 exact YAA (YAH (YAH h))
end
theorem Zfi {α:Type}{next:Nat->Nat}:∀(fuel k:Nat) (left:List α) (out:Array α),left.length=fuel->(pickOrder.go next fuel k left out).toList.Perm (out.toList++left)
 | 0,k,left,out,h=>by
  have e:left=[]:=YDC h
  subst e
  unfold pickOrder.go
  simp
 | fuel+1,k,left,out,h=>by
  have hlt:next k % left.length<left.length:=Nat.mod_lt _ (by omega)
  unfold pickOrder.go
  rw[YAE hlt]
  dsimp only
  refine(Zfi fuel (k+1) _ _ (by rw[YDM hlt,h];rfl)).trans ?_
  rw[Array.toList_push,YBm]
  exact(ZcX left _ hlt).append_left _
theorem ZbD {α:Type}{next:Nat->Nat}{xs:Array α}:(pickOrder next xs).toList.Perm xs.toList:=by
 unfold pickOrder
 have:=Zfi (next:=next) xs.size 0 xs.toList #[] (by simp)
 simpa using this
theorem ZbG:Slot "set_iterator" "__iter__" "set_iterator.__iter__":=
 .of (owner:="set_iterator") (n:="__iter__") (by rw[typeLookup_type,builtinLookup_eq_fast];kernel_rfl) (by decide +kernel) (by decide +kernel) (by decide +kernel) (by first | exact .inl (by decide +kernel) | exact .inr (by decide +kernel)) (by rw[isSubtype_type];kernel_rfl)
theorem ZcN:entryFor table "set_iterator.__iter__"=some Builtin.«dict_keyiterator.__iter__»:=entryFor_alias (id':="dict_keyiterator.__iter__") (by kernel_rfl) rfl (by decide +kernel) (by kernel_rfl)
theorem ZcZ (a:Value):argsOk "set_iterator.__iter__" ⟨[a],[]⟩:=by unfold argsOk;kernel_rfl
section
variable {prog:Program}{w:World}{A:Around}{E:Q33}{s:Shared}{I S:Addr}{o:Obj}{es:Array (Int×Value)}{ep i n:Nat}{t:SetTable}
theorem ZdO {first:Value}{Q:Q33}(hi:SetIt s.heap I S first i n ep)(h:Q (.ref I) s):wpAny (model prog w) A (pyIter (.ref I)) Q E s:=by
 refine wpAny_pyIter_slot hi.typ ZbG (YDA ZbG hi.typ ZcN ?_ (ZcZ _))
 show wpAny _ _ (ret (.ref I)) _ _ s
 exact YAH ⟨_,rfl,"set_iterator",_,hi.typ,ZaD.lookup,h⟩
theorem Zcl {h h':Heap}{o:Obj}(sb:Heap.SameBut I h h')(hne:S≠I)(ho:h.get? S=some o):h'.get? S=some o:=(sb.2 S hne).trans ho
theorem ZhV (hh:A.handled=none)(hne:S≠I)(hd:o.data=.set es ep t)(hf:t.fits es.size=true)(hb:Zbd w=true):
  Walks prog w A I [I,S] [I] es.size (fun i v=>(((pickOrder (w.params.setOrder S ep) es).toList).map (·.2))[i]?=some v) (fun i h=>SetIt h I S (.int ((0:Nat):Int) 0) i es.size ep/\h.get? S=some o) where
 sub:=fun b hb=>by simp at hb;simp[hb]
 frame:=fun i h h' ⟨⟨oi,h1,r⟩,h2⟩ hk=>⟨⟨oi,hk I (by simp) _ h1,r⟩,hk S (by simp) _ h2⟩
 item:=fun i s Q E hi ⟨st,ho⟩ hQ=>by
  have hl:(pickOrder (w.params.setOrder S ep) es).size=es.size:=by rw[<-YAm,ZbD.length_eq,YAm]
  have he:(pickOrder (w.params.setOrder S ep) es)[i]?=some (pickOrder (w.params.setOrder S ep) es)[i]:=by simp[hl,hi]
  refine ZcI st ho hd hf (YAA (Zdu ho hd hf hb ?_))
  rw[he]
  dsimp only[Option.map_some]
  obtain⟨oi,g1,g2,g3⟩:=id st
  refine YAA (YBe g1 g3 (by simp) ?_)
  obtain⟨o1,k1,k2,k3⟩:=Zej (v:=rawInt ((0:Nat):Int)) (k:=0) g1 g2 g3
  refine YAA (YBe k1 k3 (by simp) ?_)
  obtain⟨o2,m1,m2,m3⟩:=Zej (v:=rawInt ((i:Int)+1)) (k:=1) k1 k2 k3
  have sb:=(YAk s.heap I (Obj.mapFields (·.setIfInBounds 0 (rawInt ((0:Nat):Int))))).trans (YAk _ I (Obj.mapFields (·.setIfInBounds 1 (rawInt ((i:Int)+1)))))
  refine YAH ⟨_,rfl,hQ _ _ s.toks ?_ ⟨⟨o2,m1,m2,?_⟩,Zcl sb hne ho⟩ fun b o hb e=>(sb.2 b (by simpa using hb)).trans e⟩
  .rw[YAZ,YCQ,he];rfl
  .rw[m3];simp[rawInt]
 done:=fun s Q E ⟨st,ho⟩ hQ=>by
  have hl:(pickOrder (w.params.setOrder S ep) es).size=es.size:=by rw[<-YAm,ZbD.length_eq,YAm]
  have he:(pickOrder (w.params.setOrder S ep) es)[es.size]?=none:=by simp[hl]
  refine ZcI st ho hd hf (YAA (Zdu ho hd hf hb ?_))
  rw[he]
  dsimp only[Option.map_none]
  obtain⟨oi,g1,g2,g3⟩:=id st
  refine YAA (YBe g1 g3 (by simp) ?_)
  have sb:=YAk s.heap I (Obj.mapFields (·.setIfInBounds 2 Value.none))
  exact Zf9 (A:=A) hh fun h' k=>hQ h' s.toks fun b o hb e=>k b o ((sb.2 b (by simpa using hb)).trans e)
 self:=fun i s Q E ⟨st,_⟩ hQ=>ZdO st hQ
def ZcU (t:SetTable)(i:Nat):Nat:=if i=0 then 0 else t.place.getD 0 0+1
theorem ZhP {xs:Array Nat}:SetTable.below xs 0=0:=by
 unfold SetTable.below
 have all:∀fuel hi,SetTable.below.go xs 0 fuel 0 hi=0:=by
  intro fuel
  induction fuel with
  | zero=>intro hi;unfold SetTable.below.go;rfl
  | succ f ih=>
   intro hi
   unfold SetTable.below.go
   split
   .rw[YAX (Nat.not_lt_zero _)];exact ih _
   .rfl
 exact all _ _
theorem Zi7 {j:Nat}:SetTable.below #[j] (j+1)=1:=by
 unfold SetTable.below
 show SetTable.below.go #[j] (j+1) 1 0 1=1
 unfold SetTable.below.go
 simp[SetTable.below.go]
theorem ZmA {xs:Array Nat}(h:xs.size=1):∃j,xs=#[j]:=by
 obtain⟨l⟩:=xs
 match l,h with
 | [j],_=>exact⟨j,rfl⟩
theorem ZhW (hh:A.handled=none)(hne:S≠I)(hd:o.data=.set es ep t)(hf:t.fits es.size=true)(hb:Zbd w=false)(hl:t.led=true)(h1:es.size<=1):
  Walks prog w A I [I,S] [I] es.size (fun i v=>(es.toList.map (·.2))[i]?=some v) (fun i h=>SetIt h I S (.int ((ZcU t i:Nat):Int) 0) i es.size ep/\h.get? S=some o) where
 sub:=fun b hb=>by simp at hb;simp[hb]
 frame:=fun i h h' ⟨⟨oi,h1,r⟩,h2⟩ hk=>⟨⟨oi,hk I (by simp) _ h1,r⟩,hk S (by simp) _ h2⟩
 item:=fun i s Q E hi ⟨st,ho⟩ hQ=>by
  have i0:i=0:=by omega
  subst i0
  have ps:t.place.size=es.size:=by
   have:=hf
   simp only[SetTable.fits,YAU,beq_iff_eq]at this
   exact this.1
  have he:es[0]?=some es[0]:=by simp[hi]
  have hp:t.place[0]?=some (t.place.getD 0 0):=by
   have:0<t.place.size:=by omega
   simp[this]
  refine ZcI st ho hd hf (YAA (Zdv ho hd hf hb hl h1 ?_))
  rw[show ZcU t 0=0 from rfl,ZhP,he,hp]
  dsimp only
  obtain⟨oi,g1,g2,g3⟩:=id st
  refine YAA (YBe g1 g3 (by simp) ?_)
  obtain⟨o1,k1,k2,k3⟩:=Zej (v:=rawInt ((t.place.getD 0 0+1:Nat):Int)) (k:=0) g1 g2 g3
  refine YAA (YBe k1 k3 (by simp) ?_)
  obtain⟨o2,m1,m2,m3⟩:=Zej (v:=rawInt (((0:Nat):Int)+1)) (k:=1) k1 k2 k3
  have sb:=(YAk s.heap I (Obj.mapFields (·.setIfInBounds 0 (rawInt ((t.place.getD 0 0+1:Nat):Int))))).trans (YAk _ I (Obj.mapFields (·.setIfInBounds 1 (rawInt (((0:Nat):Int)+1)))))
  refine YAH ⟨_,rfl,hQ _ _ s.toks ?_ ⟨⟨o2,m1,m2,?_⟩,Zcl sb hne ho⟩ fun b o hb e=>(sb.2 b (by simpa using hb)).trans e⟩
  .rw[YAZ,YCQ,he];rfl
  .rw[m3];simp[rawInt,ZcU]
 done:=fun s Q E ⟨st,ho⟩ hQ=>by
  have ps:t.place.size=es.size:=by
   have:=hf
   simp only[SetTable.fits,YAU,beq_iff_eq]at this
   exact this.1
  have hn:es[SetTable.below t.place (ZcU t es.size)]?=none:=by
   have hz:es.size=0\/es.size=1:=by omega
   rcases hz with z | z
   .simp[z]
   .have e1:∃j,t.place=#[j]:=by
     have:t.place.size=1:=by omega
     exact ZmA this
    obtain⟨j,ej⟩:=e1
    have:ZcU t es.size=j+1:=by unfold ZcU;rw[YAX (by omega),ej];rfl
    rw[this,ej,Zi7]
    simp[z]
  refine ZcI st ho hd hf (YAA (Zdv ho hd hf hb hl h1 ?_))
  rw[hn]
  dsimp only
  obtain⟨oi,g1,g2,g3⟩:=id st
  refine YAA (YBe g1 g3 (by simp) ?_)
  have sb:=YAk s.heap I (Obj.mapFields (·.setIfInBounds 2 Value.none))
  exact Zf9 (A:=A) hh fun h' k=>hQ h' s.toks fun b o hb e=>k b o ((sb.2 b (by simpa using hb)).trans e)
 self:=fun i s Q E ⟨st,_⟩ hQ=>ZdO st hQ
theorem Zhz {p:Nat}{e:Int×Value}{Q:Q33}(ho:s.heap.get? S=some o)(hd:o.data=.set es ep t)(hf:t.fits es.size=true)(he:es[p]?=some e)(h:Q e.2 s):wpAny (model prog w) A (setNextDrawn S p ep) Q E s:=by
 unfold setNextDrawn
 refine YAA (YCR ho hd hf ?_)
 dsimp only
 rw[YAX (by simp),he]
 exact YAH h
theorem Zf4 {tp:Addr}{ps:Q11}(hh:A.handled=none)(hne:S≠I)(hnt:tp≠I)(hd:o.data=.set es ep t)(hf:t.fits es.size=true)(hp:ps.Perm (List.range es.size)):
  Walks prog w A I [I,S,tp] [I] es.size (fun i v=>(ps.map fun p=>(es.getD p (0,.none)).2)[i]?=some v) (fun i h=>SetIt h I S (.ref tp) i es.size ep/\h.get? S=some o/\h.get? tp=some { cls:=.type "tuple",data:=.seq (ps.map (fun i=>Value.int ((i:Nat):Int) 0)).toArray }) where
 sub:=fun b hb=>by simp at hb;simp[hb]
 frame:=fun i h h' ⟨⟨oi,h1,r⟩,h2,h3⟩ hk=>⟨⟨oi,hk I (by simp) _ h1,r⟩,hk S (by simp) _ h2,hk tp (by simp) _ h3⟩
 item:=fun i s Q E hi ⟨st,ho,ht⟩ hQ=>by
  have hl:ps.length=es.size:=by rw[hp.length_eq,YBJ]
  have hi':i<ps.length:=by omega
  have hpi:ps[i]?=some ps[i]:=YAE hi'
  have hlt:ps[i]<es.size:=YAu.mp (hp.mem_iff.mp (YBM hi'))
  have he:es[ps[i]]?=some es[ps[i]]:=by simp[hlt]
  refine Zef st ho hd hf (YAA (YCw ht rfl ?_))
  dsimp only
  have hx:((ps.map (fun i=>Value.int ((i:Nat):Int) 0)).toArray)[i]?=some (Value.int ((ps[i]:Nat):Int) 0):=by simp[hpi]
  rw[hx]
  dsimp only
  refine YAA (Zhz ho hd hf he ?_)
  obtain⟨oi,g1,g2,g3⟩:=id st
  refine YAA (YBe g1 g3 (by simp) ?_)
  obtain⟨o2,m1,m2,m3⟩:=Zej (v:=rawInt ((i:Int)+1)) (k:=1) g1 g2 g3
  have sb:=YAk s.heap I (Obj.mapFields (·.setIfInBounds 1 (rawInt ((i:Int)+1))))
  refine YAH ⟨_,rfl,hQ _ _ s.toks ?_ ⟨⟨o2,m1,m2,?_⟩,Zcl sb hne ho,Zcl sb hnt ht⟩ fun b o hb e=>(sb.2 b (by simpa using hb)).trans e⟩
  .rw[YAZ,hpi];simp[hlt]
  .rw[m3];simp[rawInt]
 done:=fun s Q E ⟨st,ho,ht⟩ hQ=>by
  have hl:ps.length=es.size:=by rw[hp.length_eq,YBJ]
  refine Zef st ho hd hf (YAA (YCw ht rfl ?_))
  dsimp only
  have hx:((ps.map (fun i=>Value.int ((i:Nat):Int) 0)).toArray)[es.size]?=none:=by simp[hl]
  rw[hx]
  dsimp only
  obtain⟨oi,g1,g2,g3⟩:=id st
  refine YAA (YBe g1 g3 (by simp) ?_)
  obtain⟨o1,k1,k2,k3⟩:=Zej (v:=rawInt 0) (k:=0) g1 g2 g3
  refine YAA (YBe k1 k3 (by simp) ?_)
  have sb:=(YAk s.heap I (Obj.mapFields (·.setIfInBounds 0 (rawInt 0)))).trans (YAk _ I (Obj.mapFields (·.setIfInBounds 2 Value.none)))
  exact Zf9 (A:=A) hh fun h' k=>hQ h' s.toks fun b o hb e=>k b o ((sb.2 b (by simpa using hb)).trans e)
 self:=fun i s Q E ⟨st,_⟩ hQ=>ZdO st hQ
end
theorem ZfE:typeLookup (.type "set") "__len__"=pure (some (.builtin "set.__len__")):=by rw[typeLookup_type,builtinLookup_eq_fast];kernel_rfl
section
variable {prog:Program}{w:World}{A:Around}{E:Q33}{s:Shared}
theorem Zhh {es:Array (Int×Value)}{ps:Q11}(hp:ps.Perm (List.range es.size)):(ps.map fun p=>(es.getD p (0,.none)).2).Perm (es.toList.map (·.2)):=by
 have q:=hp.map (fun p=>(es.getD p (0,.none)).2)
 refine q.trans (.of_eq ?_)
 apply YBR
 .simp
 .intro n h1 h2
  have hn:n<es.size:=by simpa using h2
  simp[hn]
theorem ZhD {S:Addr}{ls:Q22}{Q:Q33}(hS:TxSet prog w s.heap S ls (!Zbd w))
  (h:∀(h2:Heap) (d:Drawn) (I:Addr) (fp:List Addr) (vs:List Value) (ms:Q22) (St:Nat->Heap->Prop),(∀A':Around,A'.handled=none->Walks prog w A' I fp [I] ls.length (fun i v=>vs[i]?=some v) St)->St 0 h2 ->
   (∀b∈fp,b=S\/s.heap.objs.size<=b)->s.heap.objs.size<=I->(∀b o,s.heap.get? b=some o->h2.get? b=some o)->ms.Perm ls->Vals (ms.map tx) vs->Q (.ref I) { s with heap:=h2,drawn:=d }):
  wpAny (model prog w) A (pyIter (.ref S)) Q E s:=by
 obtain⟨o,es,ep,t,ms,ho,hex,hd,hel,hf,hled,hpl,hp,hv,hb⟩:=hS
 have hlen:es.size=ls.length:=by
  have q:=hv.length
  rw[YAB,YAB]at q
  rw[<-YAm,<-q,hp.length_eq]
 have hlt:=YAL ho
 refine ZjI ho hex hd hf (fits_of_scanBound hb) (fun hc=>?_) fun ps d pp=>?_
 .have nI:S≠s.heap.objs.size:=YAi hlt
  have st:(s.heap.push ({ cls:=.type "set_iterator",data:=.fields #[.int 0 0,.int 0 0,.ref S,.int es.size 0,.int ep 0] }:Obj)).get? s.heap.objs.size=some { cls:=.type "set_iterator",data:=.fields #[.int 0 0,.int 0 0,.ref S,.int es.size 0,.int ep 0] }:=YAQ _ rfl
  have fp:∀b∈[s.heap.objs.size,S],b=S\/s.heap.objs.size<=b:=fun b hb=>by
   rcases YAY.mp hb with z | z
   .exact .inr (YBv z.symm)
   .exact .inl (by simpa using z)
  cases hby:Zbd w with
  | true=>
   obtain⟨ms',p',r'⟩:=Zdp ((ZbD (next:=w.params.setOrder S ep) (xs:=es)).map (·.2)) hv
   have W:∀A':Around,A'.handled=none->_:=fun A' hA=>ZhV (prog:=prog) (w:=w) (A:=A') (I:=s.heap.objs.size) (S:=S) (o:=o) hA nI hd hf hby
   rw[hlen]at W
   exact h _ s.drawn _ _ _ ms' _ W ⟨⟨_,st,rfl,by rw[hlen];rfl⟩,YAC _ ho⟩ fp (YAJ _) (fun b o e=>YAC _ e) (p'.trans hp) r'
  | false=>
   have h1:es.size<=1:=by
    rcases hc with z | z | z
    .rw[hby]at z;cases z
    .rw[hpl z];exact YAg _
    .exact z
   have hl:t.led=true:=by rw[hled,hby];rfl
   have W:∀A':Around,A'.handled=none->_:=fun A' hA=>ZhW (prog:=prog) (w:=w) (A:=A') (I:=s.heap.objs.size) (S:=S) (o:=o) hA nI hd hf hby hl h1
   rw[hlen]at W
   exact h _ s.drawn _ _ _ ms _ W ⟨⟨_,st,rfl,by rw[hlen];rfl⟩,YAC _ ho⟩ fp (YAJ _) (fun b o e=>YAC _ e) hp hv
 .have nI:S≠s.heap.objs.size+1:=YAi (YCs hlt)
  have nT:s.heap.objs.size≠s.heap.objs.size+1:=YAi (YDf _)
  obtain⟨ms',p',r'⟩:=Zdp (Zhh pp) hv
  have W:∀A':Around,A'.handled=none->_:=fun A' hA=>Zf4 (prog:=prog) (w:=w) (A:=A') (I:=s.heap.objs.size+1) (S:=S) (o:=o) (tp:=s.heap.objs.size) hA nI nT hd hf pp
  rw[hlen]at W
  refine h _ d _ _ _ ms' _ W ⟨⟨{ cls:=.type "set_iterator",data:=.fields #[.ref s.heap.objs.size,.int 0 0,.ref S,.int es.size 0,.int ep 0] },?_,rfl,by rw[hlen];rfl⟩,YAC _ (YAC _ ho),YAC _ (YAQ _ rfl)⟩ ?_ (YCO _) (fun b o e=>YAC _ (YAC _ e)) (p'.trans hp) r'
  .rw[<-YBg];exact YAQ _ rfl
  .intro b hb
   rcases YAY.mp hb with z | z
   .exact .inr (by rw[z];exact YCO _)
   .rcases YAY.mp z with z | z
    .exact .inl z
    .have z:b=s.heap.objs.size:=by simpa using z
     exact .inr (YBv z.symm)
theorem ZgB {S:Addr}{ls:Q22}{Q:List Value->Shared->Prop}(hh:A.handled=none)(hS:TxSet prog w s.heap S ls (!Zbd w))(hn:ls.length<=sizeLine)
  (hQ:∀(s':Shared) (vs:List Value) (ms:Q22),(∀b o,s.heap.get? b=some o->s'.heap.get? b=some o)->s'.gens=s.gens->s'.os=s.os->ms.Perm ls->Vals (ms.map tx) vs->Q vs s'):wpAny (model prog w) A (collect (.ref S)) Q E s:=by
 unfold collect
 refine YAA (wpAny_runValue (codeAny_builtin F.entry_proto_collect ?_))
 rw[YBG F.plain_proto_collect _]
 show wpAny _ A.in1 (newList [] >>= fun l=>again (.builtin "list.__iadd__" ⟨[l,.ref S],[]⟩)) _ _ s
 refine YAA (YBk (YAH ⟨plainId_quiet F.plain_list_iadd _,codeAny_builtin F.entry_list_iadd ?_⟩))
 rw[YBG F.plain_list_iadd _]
 generalize hH:s.heap.push { cls:=.type "list",data:=.seq ([]:List Value).toArray }=H
 have hHs:H.objs.size=s.heap.objs.size+1:=by rw[<-hH,YBg]
 have hL:H.get? s.heap.objs.size=some { cls:=.type "list",data:=.seq ([]:List Value).toArray }:=hH▸YAQ _ rfl
 have k1:∀b o,s.heap.get? b=some o->H.get? b=some o:=fun b o e=>hH▸YAC _ e
 have hS1:TxSet prog w H S ls (!Zbd w):=hS.keep fun o e=>k1 S o e
 have hT:Shared.TypeIs { s with heap:=H } (.ref S) "set":=hS1.typ (s:={ s with heap:=H })
 have nS:S≠s.heap.objs.size:=by
  obtain⟨o,_,_,_,_,ho,_⟩:=hS
  exact YAi (YAL ho)
 show wpAny _ A.in1 (Builtin.List.listExtendWith (.ref s.heap.objs.size) (.ref S) (.ref s.heap.objs.size)) _ _ { s with heap:=H }
 unfold Builtin.List.listExtendWith
 refine YAA (wpAny_typeOf hT ?_)
 have h1:Builtin.List.listSameRef (.ref s.heap.objs.size) (.ref S)=false:=by simp[Builtin.List.listSameRef,YAS nS]
 have h2:(Value.type "set" == Value.type "list")=false:=by decide
 have h3:(Value.type "set" == Value.type "tuple")=false:=by decide
 simp only[h1,h2,h3,Bool.or_false,YCA,if_false]
 refine YAA (ZhD (s:={ s with heap:=H }) hS1 fun h2' d I fp vs ms St W st hfp hI k2 hp hv=>?_)
 have hT2:Shared.TypeIs { s with heap:=h2',drawn:=d } (.ref S) "set":=(hS1.keep fun o e=>k2 S o e).typ (s:={ s with heap:=h2',drawn:=d })
 refine YAA (YBL ?_)
 unfold Builtin.List.listLengthHint
 refine YAA (wpAny_specialOf hT2 ZfE ?_)
 wp_delta
 refine YAA (wpAny_isInstance (T:="set") (v:=.ref S) (b:=true) hT2 (by rw[isSubtype_type];kernel_rfl) ?_)
 show wpAny _ A.in1 (typeOf (Value.ref S) >>= fun r=>_) _ _ _
 refine YAA (wpAny_typeOf hT2 ?_)
 refine YAH ?_
 rw[YAW (by decide)]
 refine YAA (YCr ?_)
 have hL2:h2'.get? s.heap.objs.size=some { cls:=.type "list",data:=.seq ([]:List Value).toArray }:=k2 _ _ hL
 refine YAA ?_
 show wpAny _ A.in1 (updateSeq s.heap.objs.size (·.push .none) >>= fun _=>updateSeq s.heap.objs.size (·.pop)) _ _ _
 refine YAA (YDG hL2 rfl ?_)
 have hL3:=YBd (Obj.mapSeq (·.push Value.none)) hL2 rfl
 refine YDG hL3 rfl ?_
 have hL4:=YBd (Obj.mapSeq (·.pop)) hL3 rfl
 have oth:∀b o,b≠s.heap.objs.size->h2'.get? b=some o->((h2'.update s.heap.objs.size (Obj.mapSeq (·.push Value.none))).update s.heap.objs.size (Obj.mapSeq (·.pop))).get? b=some o:=
  fun b o hb e=>(YBD _ _ (YAS hb)).trans ((YBD _ _ (YAS hb)).trans e)
 have hle:s.heap.objs.size+1<=I:=by rw[<-hHs];exact hI
 have hSf:s.heap.objs.size∉fp:=fun z=>by
  rcases hfp _ z with q | q
  .exact nS q.symm
  .have q':H.objs.size<=s.heap.objs.size:=q
   rw[hHs]at q';exact absurd q' (Nat.not_succ_le_self _)
 refine YAH ⟨plainId_quiet F.plain_extend_loop _,codeAny_extend_loopS (W A.in1 hh).toS hn _ hSf _ ls.length 0 _ _ _ rfl (YAg _) ((W A.in1 hh).frame 0 h2' _ st fun b hb o e=>oth b o (fun z=>hSf (z▸hb)) e) hL4 (ItemsOf.nil _) fun s' acc' c' hm hS' hacc=>?_⟩
 show wpAny _ A (load s.heap.objs.size >>= fun r=>_) _ _ s'
 refine YAA (wpAny_load hS' ?_)
 have hvs:acc'.toList=vs:=by
  have hl:vs.length=ls.length:=by rw[<-hv.length,YAB,hp.length_eq]
  apply YCu
  intro j
  rw[YCQ]
  by_cases hj:j<ls.length
  .have hj':j<acc'.size:=by rw[hacc.1];exact hj
   have e:acc'[j]?=some acc'[j]:=by simp[hj']
   rw[e,hacc.2 j _ e]
  .rw[Array.getElem?_eq_none (by rw[hacc.1];omega),YBc (by omega)]
 have done:=hQ s' vs ms (fun b o e=>by
  have hlt:=YAL e
  refine hm.heap b o (fun z=>?_) (oth b o (YAi hlt) (k2 b o (k1 b o e)))
  rcases YAY.mp z with q | q
  .rw[q]at hlt;exact YAo _ hlt
  .have q:b=I:=by simpa using q
   rw[q]at hlt
   exact absurd hlt (YDV.mpr (Nat.le_of_succ_le hle))) hm.gens hm.os hp hv
 rw[<-hvs]at done
 exact YAH done
end
def leT (a b:Q11):Bool:=!decide (b<a)
def ZbT (ls:Q22):Q22:=ls.mergeSort leT
theorem ZbE {a b:Q11}:leT a b=true↔a<=b:=by
 unfold leT
 rw[Bool.not_eq_true',decide_eq_false_iff_not]
 exact List.not_lt
theorem Za8 (ls:Q22):(ZbT ls).Perm ls:=List.mergeSort_perm _ _
theorem ZbV (ls:Q22):(ZbT ls).Pairwise (fun a b=>leT a b=true):=
 List.pairwise_mergeSort (le:=leT) (fun a b c h1 h2=>ZbE.mpr (List.le_trans (ZbE.mp h1) (ZbE.mp h2))) (fun a b=>Bool.or_eq_true_iff.mpr ((List.le_total a b).imp ZbE.mpr ZbE.mpr)) ls
theorem ZcS {ms ls:Q22}(p:ms.Perm ls)(h:ms.Pairwise (fun a b=>leT a b=true)):ms=ZbT ls:=
 List.Perm.eq_of_pairwise (fun a b _ _ h1 h2=>List.le_antisymm (ZbE.mp h1) (ZbE.mp h2)) h (ZbV ls) (p.trans (Za8 ls).symm)
theorem Zds {ms ls:Q22}(p:ms.Perm ls):ZbT ms=ZbT ls:=ZcS ((Za8 ms).trans p) (ZbV ms)
theorem Zh7:∀ {us:List Value} {ss:List Str},StrsAre us ss->Vals ((ss.map fun x=>x.cps.toList).map tx) us
 | _,_,.nil=>.nil
 | _,_,.cons x t h=>.cons ⟨t,rfl⟩ (Zh7 h)
theorem Zex:∀ {ss:List Str},sortedS ss=true->(ss.map fun x=>x.cps.toList).Pairwise (fun a b=>leT a b=true):=by
 have ris:∀(p:Str) (l:List Str),risingS p l=true->((p::l).map fun x=>x.cps.toList).Pairwise (fun a b=>leT a b=true):=by
  intro p l
  induction l generalizing p with
  | nil=>intro _;simp
  | cons x r ih=>
   intro h
   have h':(!ltCps x.cps.toList p.cps.toList&&risingS x r)=true:=h
   rw[YAU,ltCps_eq]at h'
   have q:=ih x h'.2
   rw[YAj,YCk]
   refine⟨fun b hb=>?_,q⟩
   have hx:leT p.cps.toList x.cps.toList=true:=h'.1
   rw[YAj]at hb q
   rcases YAY.mp hb with z | z
   .rw[z];exact hx
   .exact ZbE.mpr (List.le_trans (ZbE.mp hx) (ZbE.mp ((YCk.mp q).1 b z)))
 intro ss h
 cases ss with
 | nil=>simp
 | cons x r=>exact ris x r h
theorem Zh8 {us:List Value}{ls:Q22}(r:Vals (ls.map tx) us):StrsAre us (ls.map fun l=>(⟨l.toArray⟩:Str)):=Zec r
theorem ZjX (ls:Q22):(ls.map fun l=>(⟨l.toArray⟩:Str)).map (fun x=>x.cps.toList)=ls:=by
 rw[YBB]
 conv=>rhs;rw[<-List.map_id ls]
 apply List.map_congr_left
 intro l _
 simp
section
variable {prog:Program}{w:World}{A:Around}{E:Q33}{s:Shared}
theorem Zfc {vs:List Value}{ms:Q22}{Q:Q33}(hv:Vals (ms.map tx) vs)(h64:ms.length<64)
  (h:∀(h':Heap) (us:List Value) (e:Nat),(∀b o,s.heap.get? b=some o->h'.get? b=some o)->h'.get? s.heap.objs.size=some { cls:=.type "list",data:=.seq us.toArray e }->Vals ((ZbT ms).map tx) us->Q (.ref s.heap.objs.size) { s with heap:=h' }):
  wpAny (model prog w) A (do let l <-newList vs;let _ <-holding [l] (call (.builtin "list.sort") [l] []);ret l) (fun fin s'=>∃v,fin=Fin.done (Flow.ret v)/\Q v s') E s:=by
 have hS:=Zh8 hv
 have hlen:vs.length<64:=by rw[<-hv.length,YAB];exact h64
 refine YAA (wpAny_newList ?_ ?_)
 .have hoL:(s.heap.push (seqObj "list" vs.toArray 0)).get? s.heap.objs.size=some (seqObj "list" vs.toArray 0):=YAQ _ rfl
  refine YAA (YBL (YDA slot_list_sort ⟨_,hoL,rfl⟩ entry_list_sort (list_sort_treeK strKind_oneLt hoL hS.keysOf (fun v₁ v₂ rest e=>keyKind_strs (by rw[<-e];exact hS)) hlen fun st' a1 a2=>⟨_,rfl,?_⟩) (args_list_sort _)))
  obtain⟨ss',b1,b2,b3⟩:=sorted_out_str hS a1 a2
  obtain⟨e,he⟩:=sortedHeap_at (out:=(arrOf st').map (·.2)) hoL
  refine YAH ⟨_,rfl,h _ ((arrOf st').map (·.2)).toList e (fun b o q=>?_) ?_ ?_⟩
  .have hlt:=YAL q
   have hlt':b<(s.heap.push (seqObj "list" vs.toArray 0)).objs.size:=by rw[YBg];exact YCs hlt
   exact(sortedHeap_old (YAi hlt) hlt').trans (YAC _ q)
  .have q:((arrOf st').map (·.2)).toList.toArray=(arrOf st').map (·.2):=Array.toArray_toList
   rw[q];exact he
  .have p1:(ss'.map fun x=>x.cps.toList).Perm ms:=by
    have:=b2.map (fun x:Str=>x.cps.toList)
    rwa [ZjX]at this
   have e1:=ZcS p1 (Zex b3)
   rw[<-e1]
   exact Zh7 b1
 .exact YAK (YCE hlen) (by rw[sizeLine_eq];decide)
theorem Zhk {S:Addr}{ls:Q22}{Q:Q33}(hh:A.handled=none)(hS:TxSet prog w s.heap S ls (!Zbd w))(h64:ls.length<64)
  (h:∀(s':Shared) (a:Addr) (us:List Value) (e:Nat),s.heap.get? a=none->(∀b o,s.heap.get? b=some o->s'.heap.get? b=some o)->s'.gens=s.gens->s'.os=s.os->s'.heap.get? a=some { cls:=.type "list",data:=.seq us.toArray e }->Vals ((ZbT ls).map tx) us->Q (.ref a) s'):
  wpAny (model prog w) A (call (.builtin "sorted") [.ref S]) Q E s:=by
 refine Calls.call_function_entry kind_sorted plain_sorted entry_sorted (args_sorted1 _) ?_
 unfold Builtin.«sorted»
 refine YAA (m:=checkCount "sorted" 1 1 _) (YAH ?_)
 refine YAA (ZgB (by first | exact hh | simpa using hh) hS (YAK (YCE h64) (by rw[sizeLine_eq];decide)) fun s' vs ms k1 hg ho hp hv=>?_)
 have hl:ms.length<64:=by rw[hp.length_eq];exact h64
 refine Zfc hv hl fun h' us e k2 he r=>?_
 rw[Zds hp]at r
 exact h _ _ us e (by
  cases q:s.heap.get? s'.heap.objs.size with
  | none=>rfl
  | some o=>exact absurd (YAL (k1 _ _ q)) (YAo _)) (fun b o q=>k2 b o (k1 b o q)) hg ho he r
end
structure Fly (B:Heap)(l:List Env)(e:Addr)(C:Value)(d:Option Addr)(fl:Value)(h:Heap):Prop where
 st:B.StaysIn h
 ne:B.get? e=none
 fr:h.FunFrames B l
 tr:∃oe vs T oT ts,h.get? e=some oe/\oe.cls=C/\oe.dict=d/\oe.data=.fields vs/\vs[1]?=some (.ref T)/\B.get? T=none/\T≠e/\h.get? T=some oT/\oT.data=.fields ts/\ts[3]?=some fl
theorem ZjR (o:Obj)(f:Array Value->Array Value):(o.mapFields f).dict=o.dict:=by
 obtain⟨c,d,dt,sl⟩:=o
 cases dt<;>rfl
section
variable {M:Model}{A:Around}{E:Q33}{s:Shared}{B:Heap}{env:Env}{outer:List Env}{L e:Addr}{C:Value}{d:Option Addr}{Q:Unit->Shared->Prop}
theorem Zfq {oe:Obj}{vs:Array Value}{head:Value}{hadNext:Bool}(hfr:A.frames=some (env::outer))(hl:s.heap.FunFrames B (env::outer))(hf:env.frame=some L)(he:s.heap.get? e=some oe)(hkb:B.StaysIn s.heap)(hen:B.get? e=none)
  (hc:oe.cls=C) (hdd:oe.dict=d) (hd:oe.data=.fields vs) (hsz:1<vs.size) (h:∀h',Fly B (env::outer) e C d (rawInt L) h'->s.heap.UpToSlots h'->Q () { s with heap:=h' }):
  wpAny M A (do let a <-frameOf env;let pl <-entryPlaceOf L hadNext;let b <-EntryCells.newEntry head a .none (rawInt L) .none pl;setField (.ref e) 1 b) Q E s:=by
 have hene:e∉(env::outer).filterMap (·.frame):=fun hm=>by
  obtain⟨_,o,ho,hnf⟩:=hl.mem hm
  rw[he]at ho
  cases ho
  exact hnf vs hd
 refine YAA (wpAny_frameOf_fun hfr hl hf fun h1 hs=>YAA (wpAny_entryPlaceOf fun pl hpl=>?_))
 unfold EntryCells.newEntry newFields
 refine YAA (YBk ?_ (hpl.sizeOk5 _ _ _ _ _))
 have e1:h1.get? e=some oe:=(hs.2.1 e hene).trans he
 have k1:B.StaysIn h1:=fun b o hbo=>(hs.2.1 b fun hm=>by rw[(hl.mem hm).1]at hbo;cases hbo).trans (hkb b o hbo)
 generalize eT:({ cls:=.type "traceback",dict:=none,data:=.fields ([head,.ref L,.none,rawInt L,.none]++(if pl.isEmpty then List.replicate 6 Value.none else pl)).toArray }:Obj)=oT
 have e2:(h1.push oT).get? e=some oe:=YAC _ e1
 refine YBe e2 hd hsz ?_
 have nT:h1.objs.size≠e:=Nat.ne_of_gt (YAL e1)
 have d3:=YCi hd (·.setIfInBounds 1 (Value.ref h1.objs.size))
 have e3:=YBd (Obj.mapFields (·.setIfInBounds 1 (Value.ref h1.objs.size))) e2 (Obj.isFreed_of_fields d3)
 have t3:((h1.push oT).update e (Obj.mapFields (·.setIfInBounds 1 (Value.ref h1.objs.size)))).get? h1.objs.size=some oT:=by
  rw[YBD _ _ (YAS nT)]
  refine YAQ _ ?_
  rw[<-eT];rfl
 have keep:∀b o,b≠e->h1.get? b=some o->((h1.push oT).update e (Obj.mapFields (·.setIfInBounds 1 (Value.ref h1.objs.size)))).get? b=some o:=fun b o hb q=>by
  rw[YBD _ _ (YAS hb)]
  exact YAC _ q
 have nrec:∀b o,s.heap.get? b=some o->(∀vs,o.data≠.fields vs)->b≠e:=fun b o q n z=>by
  rw[z,he]at q
  cases q
  exact n vs hd
 have dT:oT.data=.fields ([head,.ref L,.none,rawInt L,.none]++(if pl.isEmpty then List.replicate 6 Value.none else pl)).toArray:=by rw[<-eT]
 refine h _ ⟨fun b o q=>keep b o (fun z=>by rw[z,hen]at q;cases q) (k1 b o q),hen,hl.of_keeps fun b o q n=>?_,_,_,h1.objs.size,oT,_,e3,(Obj.cls_mapFields _ _).trans hc,(ZjR _ _).trans hdd,d3,?_,k1.fresh,nT,t3,dT,?_⟩ fun b o q n=>?_
 .obtain⟨sl,q2⟩:=hs.2.2 b o q
  exact⟨_,keep b _ (nrec b o q n) q2,rfl⟩
 .simp[hsz]
 .simp
 .obtain⟨sl,q2⟩:=hs.2.2 b o q
  exact⟨sl,keep b _ (nrec b o q n) q2⟩
theorem Zhy {oe:Obj}{vs:Array Value}(hfr:A.frames=some (env::outer))(hl:s.heap.FunFrames B (env::outer))(hf:env.frame=some L)(he:s.heap.get? e=some oe)(hkb:B.StaysIn s.heap)(hen:B.get? e=none)
  (hc:oe.cls=C) (hdd:oe.dict=d) (hd:oe.data=.fields vs) (h1:vs[1]?=some .none) (h:∀h',Fly B (env::outer) e C d (rawInt L) h'->s.heap.UpToSlots h'->Q () { s with heap:=h' }):wpAny M A (noteFrame (.ref e) env) Q E s:=by
 unfold noteFrame
 simp only[hf]
 refine YAA (wpAny_field he hd h1 ?_)
 rw[YAX (by decide)]
 exact Zfq hfr hl hf he hkb hen hc hdd hd (YCW.mp h1).1 h
theorem Zfp (hfr:A.frames=some (env::outer))(hf:env.frame=some L)(x:Fly B (env::outer) e C d .none s.heap)(h:∀h',Fly B (env::outer) e C d (rawInt L) h'->s.heap.UpToSlots h'->Q () { s with heap:=h' }):
  wpAny M A (noteFrame (.ref e) env) Q E s:=by
 obtain⟨hkb,hen,hl,oe,vs,T,oT,ts,he,hc,hdd,hd,h1,hnT,hTe,hT,hdT,h3⟩:=x
 unfold noteFrame
 simp only[hf]
 refine YAA (wpAny_field he hd h1 ?_)
 rw[YAW (show (Value.ref T != Value.none)=true from by simp)]
 refine YAA (wpAny_field hT hdT h3 ?_)
 rw[YAX (show ¬((Value.none == rawInt L)=true) from by simp[rawInt])]
 refine YAA (YBe hT hdT (YCW.mp h3).1 ?_)
 have oth:∀b,b≠T->(s.heap.update T (Obj.mapFields (·.setIfInBounds 3 Value.none))).get? b=s.heap.get? b:=fun b hb=>YBD _ _ (YAS hb)
 have nrec:∀b o,s.heap.get? b=some o->(∀vs,o.data≠.fields vs)->b≠T:=fun b o q n z=>by
  rw[z,hT]at q
  cases q
  exact n ts hdT
 refine Zfq (s:={ s with heap:=s.heap.update T (Obj.mapFields (·.setIfInBounds 3 Value.none)) }) hfr (hl.of_keeps fun b o q n=>⟨o,(oth b (nrec b o q n)).trans q,rfl⟩) hf ((oth e (YAS hTe)).trans he)
  (fun b o q=>(oth b fun z=>by rw[z,hnT]at q;cases q).trans (hkb b o q)) hen hc hdd hd (YCW.mp h1).1 fun h' y u=>h h' y fun b o q n=>u b o ((oth b (nrec b o q n)).trans q) n
theorem ZbP {l:List Env}{fl:Value}(x:Fly B l e C d fl s.heap)(h:∀h',Fly B l e C d .none h'->s.heap.UpToSlots h'->Q () { s with heap:=h' }):wpAny M A (setFlight (.ref e) none) Q E s:=by
 obtain⟨hkb,hen,hl,oe,vs,T,oT,ts,he,hc,hdd,hd,h1,hnT,hTe,hT,hdT,h3⟩:=x
 have hz:3<ts.size:=(YCW.mp h3).1
 have oth:∀b,b≠T->(s.heap.update T (Obj.mapFields (·.setIfInBounds 3 ((none:Option Addr).elim Value.none fun f=>rawInt f)))).get? b=s.heap.get? b:=fun b hb=>YBD _ _ (YAS hb)
 have nrec:∀b o,s.heap.get? b=some o->(∀vs,o.data≠.fields vs)->b≠T:=fun b o q n z=>by
  rw[z,hT]at q
  cases q
  exact n ts hdT
 unfold setFlight
 refine YAA (wpAny_field he hd h1 ?_)
 rw[YAW (show (Value.ref T != Value.none)=true from by simp)]
 refine YBe hT hdT hz (h _ ⟨fun b o q=>(oth b fun z=>by rw[z,hnT]at q;cases q).trans (hkb b o q),hen,hl.of_keeps fun b o q n=>⟨o,(oth b (nrec b o q n)).trans q,rfl⟩,oe,vs,T,_,_,(oth e (YAS hTe)).trans he,hc,hdd,hd,h1,hnT,hTe,
  YBd _ hT (Obj.isFreed_of_fields (YCi hdT _)),YCi hdT _,by simp[hz]⟩ fun b o q n=>⟨o.slots,(oth b (nrec b o q n)).trans q⟩)
theorem Fly.pop {h:Heap}{fl:Value}(x:Fly B (env::outer) e C d fl h):Fly B outer e C d fl h:=⟨x.st,x.ne,x.fr.2.2,x.tr⟩
theorem Zgn {oe:Obj}{vs:Array Value}(hfr:A.frames=some (env::outer))(hl:s.heap.FunFrames B (env::outer))(hf:env.frame=some L)(he:s.heap.get? e=some oe)(hkb:B.StaysIn s.heap)(hen:B.get? e=none)
  (hc:oe.cls=C) (hdd:oe.dict=d) (hd:oe.data=.fields vs) (h1:vs[1]?=some .none) (h:∀h',Fly B outer e C d .none h'->s.heap.UpToSlots h'->Q () { s with heap:=h' }):wpAny M A (leaving env (.ref e)) Q E s:=by
 unfold leaving
 refine YAA (Zhy hfr hl hf he hkb hen hc hdd hd h1 fun h1 x1 u1=>ZbP (s:={ s with heap:=h1 }) x1 fun h2 x2 u2=>h h2 x2.pop (u1.trans u2))
theorem ZhC (hfr:A.frames=some (env::outer))(hf:env.frame=some L)(x:Fly B (env::outer) e C d .none s.heap)(h:∀h',Fly B outer e C d .none h'->s.heap.UpToSlots h'->Q () { s with heap:=h' }):wpAny M A (leaving env (.ref e)) Q E s:=by
 unfold leaving
 refine YAA (Zfp hfr hf x fun h1 x1 u1=>ZbP (s:={ s with heap:=h1 }) x1 fun h2 x2 u2=>h h2 x2.pop (u1.trans u2))
end
end L2
namespace L2
open PySem PySem.Spec PyProof.Rows
open PySem.W (Frag findIn typeIn mroIn clsIn InstAt Looks)
def xr (a C:Addr)(d:Option Addr):HO:=.ext fun h=>∃(o:Obj) (vs:Array Value),h.get? a=some o/\o.cls=.ref C/\o.dict=d/\o.data=.fields vs
theorem ZlH {P:Program}{w:World}{H:Hp}{h:Heap}{e C:Addr}{d:Option Addr}{o:Obj}{vs:Array Value}(h1:h.get? e=some o)(h2:o.cls=.ref C)(h3:o.dict=d)(h4:o.data=.fields vs):ObjOk P w H h e (xr e C d):=
 ⟨⟨o,vs,h1,h2,h3,h4⟩,⟨o,h1⟩,fun g1 g2 ⟨o',vs',q1,q⟩ k=>⟨o',vs',k _ q1,q⟩⟩
inductive XAny (H:Hp) (e C:Addr):List (Str×V)->Prop where
 | un {fs:List (Str×V)}:XAt H e C fs->XAny H e C fs
 | bare:H e=some (xr e C none)->XAny H e C []
 | full {d:Addr} {fs:List (Str×V)}:H e=some (xr e C (some d))->H d=some (xdO d fs)->d≠e->XAny H e C fs
section
variable {M:Model}{A:Around}{E:Q33}{s:Shared}{env:Env}
theorem Zil {x:Sem Value}{Q:Flow->Shared->Prop}(hh:A.handled=none)
  (h:wpAny M A x (fun v s₁=>∃(e t:Addr) (od:Option Addr) (sl:Array (Option Value)) (C:Addr) (nm q:Str) (N:Addr) (bs bm:List Value) (hdct:Bool) (sn:List Str) (sub:List Value) (ab:Bool) (col:Option Bool) (dd:Option Addr) (k0 k1 k2 k3 k5:Option Value) (newId:String),v=.ref e/\bm.contains (.type "BaseException")=true /\
   s₁.heap.get? C=some (excClassObj nm q C N bs bm hdct sn sub ab col dd k0 k1 k2 k3 k5 newId)/\s₁.heap.get? e=some { cls:=.ref C,dict:=od,data:=.fields #[.ref t,.none,.none,.none,.bool false,.none],slots:=sl }/\E (.ref e) s₁) E s):wpAny M A (raiseStmt env (some x) none) Q E s:=by
 unfold raiseStmt
 refine YAA (YBN h (fun v s₁ h₁=>?_) fun _ _ x=>x)
 obtain⟨e,t,od,sl,C,nm,q,N,bs,bm,hdct,sn,sub,ab,col,dd,k0,k1,k2,k3,k5,newId,rfl,hbase,hC,he,hE⟩:=h₁
 have hcB:(Value.ref C::bm).contains (.type "BaseException")=true:=by rw[YAl,hbase,Bool.or_true]
 obtain⟨hp,g,d,tk,os⟩:=s₁
 repeat (first | with_reducible refine YBT he ?_ | with_reducible refine YBT hC ?_ | (with_reducible refine YCc hC ?_;rw[hcB]) | wp_step)
 exact wpAny_raiseNew_none hh hE
end
def CXr (P:Program)(w:World):CXT:=fun outer H s E ev s'=>∃(e C:Addr) (d:Option Addr) (H':Hp) (h1 B:Heap),ev=.ref e/\s'.os=s.os/\AllBare s'.gens/\Un (frs outer) [] H H' s.heap h1/\HOk P w H' h1/\H' e=some (xr e C d) /\
 (∀b o,h1.get? b=some o->b≠e->((∃u,H' b=some u)\/((∃o',s.heap.get? b=some o')/\b∉frs outer))->B.get? b=some o)/\Fly B outer e (.ref C) d .none s'.heap/\h1.UpToSlots s'.heap/\E (.ref C) (some e) H'
def Raises (X:Cx)(Ex:XK):Prop:=∀(pins:List (Addr×Obj)) (σ:St) (H:Hp) (s:Shared) (e C:Addr) (d:Option Addr),Inv X pins σ H s->H e=some (xo e C d)->Ex (.ref C) (some e) (upd H e (xr e C d))->X.xe (.ref e) s
theorem Inv.raised {X:Cx}{pins:List (Addr×Obj)}{σ:St}{H:Hp}{s:Shared}{e C:Addr}{d:Option Addr}(I:Inv X pins σ H s)(h:H e=some (xo e C d)):Inv X pins σ (upd H e (xr e C d)) s:=by
 obtain⟨o,t,h1,h2,h3,h4⟩:=Zc0 I h
 exact I.write (x:=e) (e:=e) (o:=xr e C d) (h':=s.heap) (t':=s.toks) (by rw[h];exact trivial) (.inl rfl) (fun b u _ q=>q) ⟨o,h1⟩ (ZlH h1 h2 h3 h4)
theorem Zln {h:Heap}{as:List Addr}{b:Addr}{o:Obj}(e:(PySem.W.hideAll h as).get? b=some o):h.get? b=some o:=PySem.W.of_hideAll _ e
theorem ZcO {P:Program}{w:World}{K:Frag}{mg:Str->Option Value}{base:Heap}{N:List Str}{qual:Str}{scope:Scope}{f:Addr}{cd:Value}{A:Around}{outer:List Env}{s0:Shared}{H0:Hp}{E:XK}:
  Raises (cxOf (CXr P w) P w K mg base N qual scope f cd A outer s0 H0 E) E:=by
 intro pins σ H s e C d I he hE
 obtain⟨o,t,h1,h2,h3,h4⟩:=Zc0 I he
 have J:=I.raised he
 generalize hX:cxOf (CXr P w) P w K mg base N qual scope f cd A outer s0 H0 E=X at I J ⊢
 have eA:X.A=A.deeper (envOfC qual scope s0.heap.objs.size f cd):=by rw[<-hX];rfl
 have eS:X.stack=envOfC qual scope s0.heap.objs.size f cd::outer:=by rw[<-hX];rfl
 have eF:X.fs=frs outer:=by rw[<-hX];rfl
 have e0:X.s₀=s0:=by rw[<-hX];rfl
 have eH:X.H₀=H0:=by rw[<-hX];rfl
 have eX:X.ex=[]:=by rw[<-hX];rfl
 have eL:X.env=envOfC qual scope s0.heap.objs.size f cd:=by rw[<-hX];rfl
 have ePr:X.prog=P:=by rw[<-hX];rfl
 have eW:X.w=w:=by rw[<-hX];rfl
 have hxe:∀ev s',wpAny (model P w) (A.deeper (envOfC qual scope s0.heap.objs.size f cd)) (leaving (envOfC qual scope s0.heap.objs.size f cd) ev) (fun _ s''=>CXr P w outer H0 s0 E ev s'') (fun e' s''=>CXr P w outer H0 s0 E e' s'') s'->X.xe ev s':=by
  intro ev s' z;rw[<-hX];exact z
 refine hxe _ _ ?_
 have hfr:(A.deeper (envOfC qual scope s0.heap.objs.size f cd)).frames=some (envOfC qual scope s0.heap.objs.size f cd::outer):=by rw[<-eA,<-eS];exact I.ok.frames
 have stk:s.heap.FunFrames X.base X.stack:=I.stack
 have hin:∀env∈X.stack,∀a,env.frame=some a->a∈frs X.stack++[e]:=fun env henv a ha=>YBu _ (List.mem_filterMap.mpr ⟨env,henv,ha⟩)
 have ff:=PySem.W.funFrames_hide (as:=frs X.stack++[e]) stk hin
 rw[eS]at ff
 have stays:(PySem.W.hideAll s.heap (frs (envOfC qual scope s0.heap.objs.size f cd::outer)++[e])).StaysIn s.heap:=fun b o q=>Zln q
 refine Zgn (B:=PySem.W.hideAll s.heap (frs (envOfC qual scope s0.heap.objs.size f cd::outer)++[e])) (L:=s0.heap.objs.size) hfr ff rfl h1 stays (PySem.W.hideAll_none _ (by simp)) h2 h3 h4 (by simp) fun h' fl up=>?_
 have os:s.os=s0.os:=by rw[<-e0];exact I.os
 have un:Un (frs outer) [] H0 (upd H e (xr e C d)) s0.heap s.heap:=by
  have:=J.base
  rwa [eF,eX,eH,e0]at this
 have ok:HOk P w (upd H e (xr e C d)) s.heap:=by
  have:=J.hok
  rwa [ePr,eW]at this
 refine⟨e,C,d,upd H e (xr e C d),s.heap,_,rfl,os,I.bare,un,ok,Zad,fun b o hb hne hc=>?_,fl,up,hE⟩
 refine PySem.W.hideAll_get _ hb fun z=>?_
 rcases YAe.mp z with z | z
 .have z':b∈frs X.stack:=by rw[eS];exact z
  rcases hc with⟨u,hu⟩|⟨⟨o',ho'⟩,hn⟩
  .rw[J.stkFree b z']at hu;cases hu
  .rcases YAY.mp (I.stkSub b z') with q | q
   .rw[q,eL]at ho'
    exact absurd (YAL ho') (YAo _)
   .rw[eF]at q;exact hn q
 .exact hne (by simpa using z)
def Zj4 (K:Frag)(Ex:XK)(te:TE):TS:=fun _ σ H=>te σ H fun v H1=>∃e C d,v=.ref e/\H1 e=some (xo e C d)/\Xm K C/\Ex (.ref C) (some e) (upd H1 e (xr e C d))
theorem Zde {X:Cx}{Ex:XK}{e:Expr}{te:TE}{pos:Pos}(hR:Raises X Ex)(hc:X.calm=true)(he:PE X e te):PS X (.Raise (some e) none pos) (Zj4 X.K Ex te):=by
 intro pins s σ H D I h
 rw[arm_exec_Raise]
 show wpAny _ X.A (do standAt pos;raiseStmt X.env (some (do let v <-eval e X.env;standAt pos;pure v)) none) _ _ s
 refine YAA (YDa ?_)
 refine Zil (I.ok.hd hc) (YAA (thn (he pins s σ H _ I h) fun v s1 ⟨x,H1,I1,r1,a,C,d,ex,hx,m,q⟩=>YAA (YDa (YAH ?_))))
 subst ex
 obtain rfl:v=Value.ref a:=r1
 obtain⟨o,t,h1,h2,h3,h4⟩:=Zc0 I1 hx
 obtain⟨nm,q',N,bs,bm,hdct,sn,sub,ab,col,dd,k0,k1,k2,k3,k5,hl,hxm⟩:=m.parts
 obtain⟨oc,odi,oda,osl⟩:=o
 dsimp only at h2 h3 h4
 subst h2 h3 h4
 have hb:(Value.ref C::bm).contains (.type "BaseException")=true:=Zca (by decide +kernel) hxm
 rw[YAl]at hb
 refine⟨a,t,_,_,C,nm,q',N,bs,bm,hdct,sn,sub,ab,col,dd,k0,k1,k2,k3,k5,_,rfl,?_,I1.kIn _ _ hl,h1,hR pins σ H1 s1 a C _ I1 hx q⟩
 have z:(Value.type "BaseException" == Value.ref C)=false:=rfl
 rw[z,Bool.false_or]at hb
 exact hb
section
variable {P:Program}{w:World}{K:Frag}{mg:Str->Option Value}{base:Heap}
theorem Fun.okX {x qual:Str}{st:Stmt}{f:Addr}{fd:FuncData}{N ps:List Str}{k:Nat}{sp:Sp}(F:Fun K x qual st f fd)(S:FnScope N ps (Zaj st))(len:∀vs H Q E,sp vs H Q E->vs.length=ps.length)
  (hbody:∀(cdv:Value) (A:Around) (outer:List Env) (s:Shared) (H:Hp) (vs:List V) (Q:VK) (E:XK),Room k (A.deeper (envOfC qual (Zaj st) s.heap.objs.size f cdv))->sp vs H Q E ->
   ∃t,PSs (cxOf (CXr P w) P w K mg base N qual (Zaj st) f cdv A outer s H E) (Zbx st) t/\t { nx:=fun _ H'=>Q .non H',rt:=Q } (start N vs) H):FnOk P w K mg base (CXr P w) (k+1) f fd ps sp:=by
 obtain⟨oc,od,kV,doc,pm,an,cdv,ct,osl,rfl,lk,hcd⟩:=F.ex
 exact Zlt lk hcd S len fun A outer s H vs Q E hr hsp=>hbody cdv A outer s H vs Q E hr hsp
end
abbrev TX:=St->Hp->VK->XK->Prop
def PEx (X:Cx)(e:Expr)(t:TX):Prop:=∀(pins:List (Addr×Obj)) (s:Shared) (σ:St) (H:Hp) (Q:VK) (E:XK),Inv X pins σ H s->t σ H Q E ->
 wpAny (model X.prog X.w) X.A (eval e X.env) (EP X pins σ Q) (fun ev s'=>∃H2 s2,Inv X pins σ H2 s2/\CXr X.prog X.w X.stack H2 s2 E ev s') s
abbrev TSx:=Ends->(St->XK)->St->Hp->Prop
def XH (X:Cx)(pins:List (Addr×Obj))(Ex:St->XK)(ev:Value)(s':Shared):Prop:=∃σ' H2 s2,Inv X pins σ' H2 s2/\CXr X.prog X.w X.stack H2 s2 (Ex σ') ev s'
def PSx (X:Cx)(st:Stmt)(t:TSx):Prop:=∀(pins:List (Addr×Obj)) (s:Shared) (σ:St) (H:Hp) (D:Ends) (Ex:St->XK),Inv X pins σ H s->t D Ex σ H->wpAny (model X.prog X.w) X.A (exec st X.env) (SP X pins D) (XH X pins Ex) s
def PSsx (X:Cx)(st:List Stmt)(t:TSx):Prop:=∀(pins:List (Addr×Obj)) (s:Shared) (σ:St) (H:Hp) (D:Ends) (Ex:St->XK),Inv X pins σ H s->t D Ex σ H->wpAny (model X.prog X.w) X.A (execs st X.env) (SP X pins D) (XH X pins Ex) s
section
variable {X:Cx}{CX:CXT}{k:Nat}{f C:Addr}{fd:FuncData}{ps:List Str}{sp:Sp}{dvs:List V}{ds:List Value}{x m:Str}{p pos apos:Pos}{e o:Expr}{es:List Expr}{ta:TE}{t:TA}
theorem ZkU {pins:List (Addr×Obj)}{σ:St}{H:Hp}{s:Shared}{Q:VK}{E:XK}{us:List Value}{vs:List V}(F:FnOk X.prog X.w X.K X.mg X.base (CXr X.prog X.w) k f fd ps sp)(hr:Room k X.A)(hb:Binds X.K fd ps ds)(hd:Vals dvs ds)
  (I:Inv X pins σ H s) (r:Vals vs us) (h:sp (vs++dvs) H Q E):wpAny (model X.prog X.w) X.A (call (.ref f) us) (EP X pins σ Q) (fun ev s'=>∃H2 s2,Inv X pins σ H2 s2/\CXr X.prog X.w X.stack H2 s2 E ev s') s:=by
 have r2:Vals (vs++dvs) (us++ds):=r.append hd
 have hl:(us++ds).length=ps.length:=by rw[<-r2.length];exact F.len _ _ _ _ h
 refine YCS (codeAny_mono (F.run X.A X.stack s H ⟨us,[]⟩ (us++ds) (vs++dvs) Q E hr I.env0 (hb s us I.kIn hl) r2 h) fun r s' hq=>?_)
 cases r with
 | error e=>exact⟨H,s,I,hq⟩
 | ok fl=>
  cases fl with
  | ret u=>exact I.after hq
  | next=>exact False.elim hq
  | brk=>exact False.elim hq
  | cont=>exact False.elim hq
def Zj6 (sp:Sp)(dvs:List V)(t:TA):TX:=fun σ H Q E=>t σ H fun vs H1=>sp (vs++dvs) H1 Q E
theorem Zjr (F:FnOk X.prog X.w X.K X.mg X.base (CXr X.prog X.w) k f fd ps sp)(hr:Room k X.A)(hg:Gl X x)(hm:X.mg x=some (.ref f))(hk:PySem.W.keepIn X.K (.ref f)=true)(hb:Binds X.K fd ps ds)(hd:Vals dvs ds)
  (ha:PA X.nox (e::es) t) (hdb:(x == ("__debug__":Str))=false:=by decide) (he:starEach (e::es) X.env=(false,eval e X.env)::starEach es X.env:=by rfl) (hpl:(backTo pos (starEach es X.env)).any (·.1)=false:=by rfl):
  PEx X (.Call (.Name x p) (e::es) [] pos) (Zj6 sp dvs t):=by
 intro pins s σ H Q E I h
 refine YBo (Zb1 I hg hm ?_ hdb)
 refine YCK (h₀:=X.base) I.ok.mod.kin hk (YBN (ha pos pins s σ H _ (I.wish _) h) (fun us s1 ⟨vs,H1,I1,r,q⟩=>⟨I1.kIn,?_⟩) fun _ _ z=>False.elim z) he hpl
 exact ZkU F hr hb hd I1.unwish r q
def Zmb (i:Nat)(te:TX):TSx:=fun D Ex σ H=>te σ H (fun y H1=>D.nx (σ.set i (some y)) H1) (Ex σ)
theorem ZkW {i:Nat}{te:TX}{pos':Pos}(hN:X.N.Nodup)(hi:X.N[i]?=some x)(hx:Loc X.env.scope x)(he:PEx X e te)(hs:swapsWith e (some (.Name x pos')) pos.line X.env=pure false:=by rfl)(hf:X.fn x=true\/X.env.scope.names.lookup x=some .local:=by first | exact .inl rfl | exact .inr rfl | assumption):
  PSx X (.Assign [.Name x pos'] e pos) (Zmb i te):=by
 intro pins s σ H D Ex I h
 refine wpAny_Assign_Name (YBN (he pins s σ H _ _ I h) (fun v s1 ⟨y,H1,I1,r1,q1⟩=>?_) fun ev s' ⟨H2,s2,I2,q⟩=>⟨σ,H2,s2,I2,q⟩) hs
 exact ZcA I1 hN hi hx r1 (fun s2 I2=>⟨_,H1,I2,q1⟩) hf
def Zmc (te:TX):TSx:=fun D Ex σ H=>te σ H (fun _ H1=>D.nx σ H1) (Ex σ)
theorem Zjp {st:Stmt}{t:TSx}(h1:PSx X st t):PSsx X [st] t:=by
 intro pins s σ H D Ex I h
 refine wpAny_execs_cons (thn (h1 pins s σ H D Ex I h) fun f s1 q=>?_)
 cases f with
 | next=>exact YCf q
 | ret v=>exact q
 | brk=>exact q
 | cont=>exact q
def sIfx (c:TT)(t u:TSx):TSx:=fun D Ex σ H=>c σ H fun b H1=>if b=true then t D Ex σ H1 else u D Ex σ H1
end
section
variable {X:Cx}{pins:List (Addr×Obj)}{σ:St}{H H':Hp}{s s1:Shared}{e C:Addr}{d:Option Addr}{h1 h5 B:Heap}
theorem ZhM (I:Inv X pins σ H s)(os:s1.os=s.os)(bare:AllBare s1.gens)(un:Un (frs X.stack) [] H H' s.heap h1)(ok:HOk X.prog X.w H' h1)(he:H' e=some (xr e C d))
  (kept:∀b o,h1.get? b=some o->b≠e->((∃u,H' b=some u)\/((∃o',s.heap.get? b=some o')/\b∉frs X.stack))->B.get? b=some o) (fl:Fly B X.stack e (.ref C) d .none h5) (up:h1.UpToSlots h5):
  Inv X pins σ H' { s1 with heap:=h5 }:=by
 have ne:∀b o,s.heap.get? b=some o->H b=none->b≠e:=fun b o q n z=>by
  have:=un.free b o q n (by simp)
  rw[z,he]at this
  cases this
 have keep:∀b o,s.heap.get? b=some o->H b=none->b∉frs X.stack->h5.get? b=some o:=fun b o q n nf=>
  fl.st b o (kept b o (un.keep b o q n nf (by simp)) (ne b o q n) (.inr ⟨⟨o,q⟩,nf⟩))
 have slot:∀b o,s.heap.get? b=some o->H b=none->b∈frs X.stack->∃sl,h5.get? b=some { o with slots:=sl }:=fun b o q n hf=>by
  obtain⟨sl,q1⟩:=un.slot b o q n hf (by simp)
  obtain⟨_,o',ho',hnf⟩:=I.stack.mem hf
  rw[q]at ho'
  cases ho'
  obtain⟨sl2,q2⟩:=up b _ q1 hnf
  exact⟨sl2,q2⟩
 have trk:∀c u,(∃v,H' c=some v)->h1.get? c=some u->c≠e->h5.get? c=some u:=fun c u hv q n=>fl.st c u (kept c u q n (.inl hv))
 refine I.call' (s':={ s1 with heap:=h5 }) (ch:=[]) os ⟨fun b o q n nf _=>keep b o q n nf,fun b o q n hf _=>slot b o q n hf,fun b o q n _=>un.free b o q n (by simp),fun b o q _=>?_,un.tups,un.frzs,un.tbls⟩ (fun b ob hb=>?_) bare (fun b hb=>by cases hb)
 .by_cases hbe:b=e
  .obtain⟨oe,vs,T,oT,ts,h1,_⟩:=fl.tr
   exact⟨oe,by rw[hbe];exact h1⟩
  .cases hH:H b with
   | none=>
    by_cases hf:b∈frs X.stack
    .obtain⟨sl,q2⟩:=slot b o q hH hf
     exact⟨_,q2⟩
    .exact⟨o,keep b o q hH hf⟩
   | some u=>
    obtain⟨o',q1⟩:=un.there b o q (by simp)
    by_cases hf:b∈frs X.stack
    .rw[I.stkFree b hf]at hH;cases hH
    .exact⟨o',fl.st b o' (kept b o' q1 hbe (.inr ⟨⟨o,q⟩,hf⟩))⟩
 .by_cases hbe:b=e
  .subst hbe
   rw[he]at hb
   cases hb
   obtain⟨oe,vs,T,oT,ts,g1,g2,g3,g4,_⟩:=fl.tr
   exact ZlH g1 g2 g3 g4
  .refine(ok b ob hb).stay (fun c u hc q=>trk c u ?_ q ?_) (fun _ q=>q) fun _ _ q=>q
   .rcases hc with z | z
    .exact⟨ob,z▸hb⟩
    .exact⟨_,z⟩
   .rintro rfl
    rcases hc with z | z
    .exact hbe z.symm
    .rw[he]at z;cases z
end
def sux (X:Cx)(e:Addr):Cx:={ X with A:=X.A.mark (some (.ref e)),calm:=false,xe:=fun _ _=>False }
section
variable {X:Cx}{pins:List (Addr×Obj)}{σ:St}{H:Hp}{s:Shared}{e:Addr}
theorem Inv.sux (I:Inv X pins σ H s)(e:Addr):Inv (L2.sux X e) pins σ H s:=
 ⟨⟨I.ok.mod,I.ok.kind,I.ok.glob,I.ok.blt,I.ok.above,I.ok.inj,I.ok.has,I.ok.cab,(fun z=>by cases z),I.ok.frames,I.ok.stk,I.ok.exf,I.ok.bs,I.ok.bsz,I.ok.noex,I.ok.exfs,I.ok.funs,I.ok.frf⟩,I.os,I.bare,I.base,I.loc,I.cell,I.free,I.freeC,I.pin,I.hok,I.len⟩
theorem Inv.unsux (hh:X.calm=true->X.A.handled=none)(I:Inv (L2.sux X e) pins σ H s):Inv X pins σ H s:=
 ⟨⟨I.ok.mod,I.ok.kind,I.ok.glob,I.ok.blt,I.ok.above,I.ok.inj,I.ok.has,I.ok.cab,hh,I.ok.frames,I.ok.stk,I.ok.exf,I.ok.bs,I.ok.bsz,I.ok.noex,I.ok.exfs,I.ok.funs,I.ok.frf⟩,I.os,I.bare,I.base,I.loc,I.cell,I.free,I.freeC,I.pin,I.hok,I.len⟩
theorem Inv.unbind {i:Nat}{x:Str}{v:Option Value}{m:Str->Option Value}{h':Heap}{t':Nat}(I:Inv X pins σ H s)(hN:X.N.Nodup)(hi:X.N[i]?=some x)(hm:∀(i:Nat) (x:Str) (v:V),X.N[i]?=some x->σ[i]?=some (some v)->Vis X.env.scope x->∃u,RelV v u/\Look X.env s.heap m x u)
  (hn':h'.Ns X.env.locals (fun y=>if y=x then v else m y)) (hs:Heap.SameBut X.env.locals s.heap h'):Inv X pins (σ.set i none) H { s with heap:=h',toks:=t' }:=by
 obtain⟨m0,hn,_⟩:=id I.loc
 obtain⟨oL,_,_,hoL,_⟩:=id hn
 have ab:∀b o,X.s₀.heap.get? b=some o->b≠X.env.locals:=fun b o e=>YAi (YAT (YAL e) I.ok.above)
 refine⟨I.ok,I.os,I.bare,⟨fun b o e n hb hx=>(hs.2 b (ab b o e)).trans (I.base.keep b o e n hb hx),fun b o e n hb hx=>?_,I.base.free,fun b o e hx=>?_,I.base.tups,I.base.frzs,I.base.tbls⟩,⟨_,hn',fun j y v' e1 e2 e3=>?_⟩,fun y c e=>?_,I.free,I.freeC,fun p hp=>?_,fun b ob e=>?_,by simpa using I.len⟩
 .obtain⟨sl,e1⟩:=I.base.slot b o e n hb hx
  exact⟨sl,(hs.2 b (ab b o e)).trans e1⟩
 .obtain⟨o',e1⟩:=I.base.there b o e hx
  exact⟨o',(hs.2 b (ab b o e)).trans e1⟩
 .have hj:j≠i:=by
   rintro rfl
   by_cases hl:j<σ.length
   .rw[List.getElem?_set_self hl]at e2;cases e2
   .rw[List.set_eq_of_length_le (YDg hl),YBc (YDg hl)]at e2;cases e2
  rw[List.getElem?_set_ne (YAS hj)]at e2
  obtain⟨u',r',q⟩:=hm j y v' e1 e2 e3
  refine⟨u',r',?_⟩
  rcases q with⟨k,e⟩|⟨k,c,e,z⟩
  .refine .inl ⟨k,?_⟩
   have:y≠x:=fun e=>hj (ZeE hN e1 (e▸hi))
   simp[this,e]
  .exact .inr ⟨k,c,e,z.sameBut hs (I.cne y c e)⟩
 .obtain⟨w',z⟩:=I.cell y c e
  exact⟨w',z.sameBut hs (I.cne y c e)⟩
 .obtain⟨e,n,ne,nf,d⟩:=I.pin p hp
  exact⟨(hs.2 p.1 ne).trans e,n,ne,nf,d⟩
 .refine(I.hok b ob e).stay (fun c w' hc q=>(hs.2 c ?_).trans q) (fun _ q=>q) fun _ _ q=>q
  rintro rfl
  rcases hc with z | hc
  .rw[<-z,I.free]at e;cases e
  .rw[I.free]at hc;cases hc
end
abbrev TH:=Addr->Addr->Ends->St->Hp->Prop
def PHs (X:Cx)(hs:List ExceptHandler)(th:TH):Prop:=∀(pins:List (Addr×Obj)) (s:Shared) (σ:St) (H:Hp) (D:Ends) (e C:Addr) (d:Option Addr) (B:Heap),(∀h5,Fly B X.stack e (.ref C) d .none h5->s.heap.UpToSlots h5->Inv X pins σ H { s with heap:=h5 })->H e=some (xr e C d)->Fly B X.stack e (.ref C) d .none s.heap->th e C D σ H ->
 wpAny (model X.prog X.w) X.A (handleBy (.ref e) X.env hs) (SP X pins D) X.xe s
def unE (i:Nat)(D:Ends):Ends:={ nx:=fun σ H=>D.nx (σ.set i none) H,rt:=D.rt,bk:=fun σ H=>D.bk (σ.set i none) H,ct:=fun σ H=>D.ct (σ.set i none) H }
def hAs (K:Frag)(C0:Addr)(i:Nat)(ts:TS)(tr:TH):TH:=fun e C D σ H=>∃b,PySem.W.exmOne K (.ref C) (.ref C0)=some b/\if b=true then ts (unE i D) (σ.set i (some (.ref e))) H else tr e C D σ H
def hNone:TH:=fun _ _ _ _ _=>False
theorem Zmn {X:Cx}:PHs X [] hNone:=fun _ _ _ _ _ _ _ _ _ _ _ _ h=>h.elim
theorem ZiC {M:Model}{h:Heap}{e C:Addr}{o:Obj}(h1:h.get? e=some o)(h2:o.cls=.ref C):Looks M h (typeOf (.ref e)) (.ref C):=by
 intro A Q E s k q
 have h1':=k _ _ h1
 obtain⟨hp,g,d,tk,os⟩:=s
 unfold typeOf
 repeat (first | (with_reducible refine YBT h1' ?_;rw[h2]) | wp_step)
 exact q
section
variable {X:Cx}{x n:Str}{np pos:Pos}{b₀:Stmt}{suite:List Stmt}{rest:List ExceptHandler}{ts:TS}{tr:TH}{C0:Addr}{i:Nat}
theorem Zov (hc:X.calm=true->X.A.handled=none)(hg:Gl X x)(hm:X.mg x=some (.ref C0))(hN:X.N.Nodup)(hi:X.N[i]?=some n)(hl:X.env.scope.names.lookup n=some .local)(hs:∀e,PSs (sux X e) (b₀::suite) ts)(hr:PHs X rest tr)
  (hdb:(x == ("__debug__":Str))=false:=by decide):PHs X (.ExceptHandler (some (.Name x np)) (some n) (b₀::suite) pos::rest) (hAs X.K C0 i ts tr):=by
 intro pins s σ H D e C d B cv he fl h
 obtain⟨b,hb,h⟩:=h
 have I:Inv X pins σ H s:=cv s.heap fl (Heap.UpToSlots.refl _)
 have J:=I.sux e
 refine wpAny_handleBy_cons (codeAny_handlers_test (Zb1 (X:=sux X e) J hg hm ?_ hdb)) (by intro q;cases q)
 obtain⟨oe,vs,T,oT,tt,g1,g2,_⟩:=id fl.tr
 refine(PySem.W.exm_one (M:=model X.prog X.w) I.kIn (ZiC g1 g2) hb).here ?_
 have hp:(X.env.scope.kind == .class || (X.env.scope.kind == .module&&X.env.locals != X.env.globals))=false:=by rw[I.ok.kind];rfl
 cases b with
 | false=>exact hr pins s σ H D e C d B cv he fl h
 | true=>
  refine codeAny_handlers_suite_as (ZbP fl fun h6 fl6 up6=>?_)
  have J6:=(cv h6 fl6 up6).sux e
  refine ZcA (X:=sux X e) (i:=i) J6 hN hi (.inl hl) (v:=.ref e) rfl (fun s7 I7=>?_) (.inr hl)
  refine YBN (hs e pins s7 _ H (unE i D) I7 h) (fun f s8 q=>?_) fun _ _ z=>False.elim z
  have goes:∀ {σ8:St} {H8:Hp} {Q:Unit->Shared->Prop} (I8:Inv (sux X e) pins σ8 H8 s8),(∀s9,Inv X pins (σ8.set i none) H8 s9->Q () s9)->wpAny (model X.prog X.w) X.A (do bindName X.env n .none;unbindBehindTheSuite X.env n pos) Q X.xe s8:=fun {σ8 H8 Q} I8 k=>by
   have I9:=I8.unsux hc
   obtain⟨m,hn,hm'⟩:=I9.loc
   exact wpAny_nameGoes_keeps hl hn hp fun h' v hn' sb=>k _ (I9.unbind hN hi hm' hn' sb)
  cases f with
  | next=>
   obtain⟨σ8,H8,I8,q8⟩:=q
   exact goes I8 fun s9 I9=>⟨_,H8,I9,q8⟩
  | brk=>
   obtain⟨σ8,H8,I8,q8⟩:=q
   exact goes I8 fun s9 I9=>⟨_,H8,I9,q8⟩
  | cont=>
   obtain⟨σ8,H8,I8,q8⟩:=q
   exact goes I8 fun s9 I9=>⟨_,H8,I9,q8⟩
  | ret u=>
   obtain⟨v,σ8,H8,I8,r8,q8⟩:=q
   exact goes I8 fun s9 I9=>⟨v,_,H8,I9,r8,q8⟩
def Zm1 (K:Frag)(C0:Addr)(ts:TS)(tr:TH):TH:=fun e C D σ H=>∃b,PySem.W.exmOne K (.ref C) (.ref C0)=some b/\if b=true then ts D σ H else tr e C D σ H
def tTry (tb:TSx)(th:TH):TS:=fun D σ H=>tb D (fun σ' cls oe H'=>∃e C,cls=.ref C/\oe=some e/\th e C D σ' H') σ H
theorem Zml {body:List Stmt}{h₀:ExceptHandler}{hs:List ExceptHandler}{tb:TSx}{th:TH}(hst:X.stack=X.env::X.outer)(hfr:X.env.frame=some X.env.locals)(hb:PSsx X body tb)(hh:PHs X (h₀::hs) th):
  PS X (.Try body (h₀::hs) [] [] pos) (tTry tb th):=by
 intro pins s σ H D I h
 refine wpAny_Try_except (YBN (hb pins s σ H D _ I h) (fun f s1 q=>?_) fun ev s1 q=>?_)
 .cases f with
  | next=>exact YCf q
  | ret v=>exact q
  | brk=>exact q
  | cont=>exact q
 .obtain⟨σ',H2,s2,I2,e,C,d,H',h1,B,rfl,os,bare,un,ok,he,kept,fl,up,e',C',ec,ee,hth⟩:=q
  cases ec
  cases ee
  have fr:X.A.frames=some (X.env::X.outer):=by rw[<-hst];exact I.ok.frames
  rw[hst]at fl
  refine Zfp fr hfr fl fun h4 fl4 up4=>ZbP (s:={ s1 with heap:=h4 }) fl4 fun h5 fl5 up5=>?_
  rw[<-hst]at fl5
  exact hh pins { s1 with heap:=h5 } σ' H' D e C d B (fun h6 fl6 up6=>ZhM (s1:=s1) I2 os bare un ok he kept fl6 (up.trans (up4.trans (up5.trans up6)))) he fl5 hth
end
end L2
namespace L2
open PySem PySem.Spec PyProof.Rows
open PySem.W (Frag findIn specialIn typeIn mroIn clsIn subIn kitOne kitCls InstAt Looks)
section
variable {X:Cx}{pins:List (Addr×Obj)}{σ:St}{H:Hp}{s:Shared}{e C:Addr}{fs:List (Str×V)}{f:Str}{v:V}{A:Around}{E:Q33}
theorem ZjZ {d:Option Addr}(I:Inv X pins σ H s)(h:H e=some (xr e C d)):∃(o:Obj) (vs:Array Value),s.heap.get? e=some o/\o.cls=.ref C/\o.dict=d/\o.data=.fields vs:=(I.hok e _ h).1
theorem XAny.inst (I:Inv X pins σ H s)(x:XAny H e C fs):∃(ox:Obj) (od:Option Obj),InstAt s.heap e ox C od/\∀name,∃r,(match od with | some o=>PySem.W.lookIn name o | none=>some none)=some r/\RelO (fs.lookup name) r:=by
 cases x with
 | un h=>exact h.inst I
 | bare h=>
  obtain⟨o,vs,h1,h2,h3,h4⟩:=ZjZ I h
  exact⟨o,none,⟨h1,h2,by unfold PySem.W.notCls;rw[h4],by rw[h3];trivial⟩,fun name=>⟨none,rfl,by trivial⟩⟩
 | @full d _ h h' hne=>
  obtain⟨o,vs,h1,h2,h3,h4⟩:=ZjZ I h
  obtain⟨⟨_,mA,hn,hr,_⟩,_⟩:=I.hok d _ h'
  obtain⟨od,hod,hl⟩:=ZdJ hn
  exact⟨o,some od,⟨h1,h2,by unfold PySem.W.notCls;rw[h4],by rw[h3];exact hod⟩,fun name=>⟨mA name,hl name,hr name⟩⟩
theorem Zng {b:Bool}{Q:Q33}(I:Inv X pins σ H s)(x:XAny H e C fs)(c:Xc X.K C)(n:NoAttr X.K C f)(l:fs.lookup f=some v)(h:∀u s',Inv X pins σ H s'->RelV v u->Q u s'):wpAny (model X.prog X.w) A (getAttr (.ref e) f b) Q E s:=by
 obtain⟨ox,od,J,hr⟩:=x.inst I
 obtain⟨r,hl,ro⟩:=hr f
 rw[l]at ro
 obtain⟨u,rfl,ru⟩:=RelO.some_of ro
 refine Zhf I.kIn J c ?_ (ZfG ru) (h u _ (I.tok _) ru)
 cases od with
 | none=>cases hl
 | some o=>exact PySem.W.findObj_own c.hd n rfl hl
end
def Zj3 (K:Frag)(ta:TE)(f:Str):TE:=fun σ H Q=>ta σ H fun x H1=>∃e C fs v,x=.ref e/\XAny H1 e C fs/\Xc K C/\NoAttr K C f/\fs.lookup f=some v/\Q v H1
theorem ZbM {X:Cx}{K:Frag}{e:Expr}{f:Str}{pos:Pos}{ta:TE}(hK:X.K=K)(he:PE X e ta)(hb:attributeBase e f X.env (eval e X.env)=eval e X.env):PE X (.Attribute e f pos) (Zj3 K ta f):=by
 subst hK
 intro pins s σ H Q I h
 refine Zi9 hb (thn (he pins s σ H _ I h) fun u s1 ⟨x,H1,I1,rx,a,C,fs,v,ex,xa,c,n,l,q⟩=>?_)
 subst ex
 obtain rfl:u=Value.ref a:=rx
 exact Zng I1 xa c n l fun u' s2 I2 ru=>⟨v,H1,I2,ru,q⟩
inductive TyR (K:Frag) (H:Hp):V->Value->Prop where
 | ty {x:V} {t:Value} (h:TyX K H x t):TyR K H x t
 | exc {e C:Addr} {fs:List (Str×V)} (x:XAny H e C fs) (i:Xi K C):TyR K H (.ref e) (.ref C)
theorem ZaW {X:Cx}{K:Frag}(hK:X.K=K):ZbR X (.builtin "isinstance") (fun xs H Q=>∃x c t k b,xs=[x,c]/\clsV c=some k/\TyR K H x t/\kitOne K t k=some b/\Q (.bl b) H):=by
 subst hK
 rintro pins s σ H xs us Q I r ⟨x,c,t,k,b,rfl,hk,ty,e,q⟩
 cases ty with
 | ty h=>exact ZgD pins s σ H _ us Q I r ⟨x,c,t,k,b,rfl,hk,h,e,q⟩
 | exc xa i=>
  obtain⟨u,v,rfl,ru,rv⟩:=r.two
  have hv:v=k:=by
   cases c with
   | ref a=>cases hk;exact rv
   | ty n=>cases hk;exact rv
   | _=>cases hk
  subst hv
  cases ru
  obtain⟨ox,od,J,_⟩:=xa.inst I
  exact YBI (Zg1 i) I.kIn J e (fun z=>nomatch z) fun tk=>⟨.bl b,H,I.tok _,rfl,q⟩
theorem ZeP {K:Frag} {C D:Addr} {m1 m2:List Value} {b:Bool} (c:ClsOk K C m1) (d:ClsOk K D m2) (hb:m2.contains (.type "BaseException")=true) (h:m1.contains (.ref D)=b):PySem.W.exmOne K (.ref C) (.ref D)=some b:=by
 obtain⟨cd,e1,e2⟩:=c.cd
 obtain⟨cd',e3,e4⟩:=d.cd
 have hs:PySem.W.subIn K (.ref D) (.type "BaseException")=some true:=by
  unfold PySem.W.subIn PySem.W.mroIn
  dsimp only
  rw[e3,YBr,e4,d.ne,hb]
  rfl
 unfold PySem.W.exmOne
 rw[YAW (by rw[hs];rfl)]
 unfold PySem.W.kitCls
 dsimp only
 rw[e3,d.ty]
 simp only[YDP,YCV,beq_self_eq_true,if_true]
 unfold PySem.W.subIn PySem.W.mroIn
 dsimp only
 rw[e1,YBr,e2,c.ne,h]
 rfl
end L2
namespace L2
open PySem PySem.Spec PyProof.Rows
open PySem.W (Frag)
theorem ObjOk.there {P:Program}{w:World}{H:Hp}{h:Heap}{a:Addr}:∀ {o:HO},ObjOk P w H h a o->∃u,h.get? a=some u
 | .lst _,x=>by obtain⟨_,_,_,_,e⟩:=x;exact⟨_,e⟩
 | .tup _,x=>by obtain⟨_,_,_,ob,e,_⟩:=x;exact⟨_,e⟩
 | .dK _,x=>by obtain⟨_,_,_,_,ob,_,_,e,_⟩:=x;exact⟨_,e⟩
 | .dT _,x=>by obtain⟨_,_,_,_,ob,_,_,e,_⟩:=x;exact⟨_,e⟩
 | .set _ _,x=>by obtain⟨ob,_,_,_,e,_⟩:=x;exact⟨_,e⟩
 | .ins _ _ _,x=>by obtain⟨_,_,_,e,_⟩:=x;exact⟨_,e⟩
 | .own _,x=>x
 | .xd _,x=>by obtain⟨_,⟨ob,_,_,e,_⟩,_⟩:=x;exact⟨_,e⟩
 | .met _ _,x=>⟨_,x⟩
 | .rng _ _,x=>by obtain⟨_,_,_,e⟩:=x;exact⟨_,e⟩
 | .frz _ _,x=>⟨_,x.1⟩
 | .tbl _,x=>⟨_,x⟩
 | .ext _,x=>x.2.1
theorem HOk.none_of {P:Program}{w:World}{H:Hp}{h:Heap}{a:Addr}(ok:HOk P w H h)(n:h.get? a=none):H a=none:=by
 cases q:H a with
 | none=>rfl
 | some o=>
  obtain⟨u,hu⟩:=(ok a o q).there
  rw[n]at hu
  cases hu
theorem Inv.laid2 {X:Cx}{pins:List (Addr×Obj)}{σ:St}{H:Hp}{s s':Shared}{a:Addr}{o:HO}(I:Inv X pins σ H s)(os:s'.os=s.os)(hg:s'.gens=s.gens)(k:∀b u,s.heap.get? b=some u->s'.heap.get? b=some u)(nw:s.heap.get? a=none)
  (new:ObjOk X.prog X.w (upd H a o) s'.heap a o):Inv X pins σ (upd H a o) s':=by
 have hn:=I.hok.none_of nw
 have ne:∀b u,s.heap.get? b=some u->b≠a:=fun b u q z=>by rw[z,nw]at q;cases q
 have neH:∀b u,H b=some u->b≠a:=fun b u q=>Zai q hn
 refine I.call' (ch:=[]) os ⟨fun b u q _ _ _=>k b u q,fun b u q _ _ _=>⟨u.slots,k b u q⟩,fun b u q n _=>by rw[Zaf (ne b u q)];exact n,fun b u q _=>⟨u,k b u q⟩,fun b xs q=>by rw[Zaf (neH b _ q)];exact q,fun b u v q=>by rw[Zaf (neH b _ q)];exact q,fun b ps q=>⟨#[],by rw[Zaf (neH b _ q),Array.append_empty];exact q⟩⟩
  (fun b u q=>?_) (by rw[hg];exact I.bare) (fun b hb=>by cases hb)
 by_cases hb:b=a
 .subst hb
  rw[Zad]at q
  cases q
  exact new
 .rw[Zaf hb]at q
  exact(I.hok b u q).stay (fun c w' _ q=>k c w' q) (fun c q=>by rw[Zaf (neH c _ q)];exact q) fun c xs q=>by rw[Zaf (neH c _ q)];exact q
section
variable {X:Cx}
def signs (l:Q11):Q22:=l.map fun c=>[c]
theorem Zgs {l:Q11}{acc:Array Value}(h:ItemsOf (SignAt ⟨l.toArray⟩) acc (⟨l.toArray⟩:Str).cps.size):Vals ((signs l).map tx) acc.toList:=by
 obtain⟨h1,h2⟩:=h
 have hl:(⟨l.toArray⟩:Str).cps.size=l.length:=by show l.toArray.size=_;simp
 rw[hl]at h1
 have gen:∀(l:Q11) (us:List Value),us.length=l.length->(∀(j:Nat) (v:Value),us[j]?=some v->∃(c:Nat) (u:Tok),l[j]?=some c/\v=Value.str ⟨#[c]⟩ u)->Vals ((signs l).map tx) us:=by
  intro l
  induction l with
  | nil=>
   intro us hl _
   have:us=[]:=YDC hl
   subst this
   exact .nil
  | cons c l ih=>
   intro us hl h
   cases us with
   | nil=>cases hl
   | cons u us=>
    obtain⟨c',t,e,rfl⟩:=h 0 u rfl
    cases e
    refine .cons ⟨t,rfl⟩ (ih us (by simpa using hl) fun j v e=>h (j+1) v e)
 refine gen l acc.toList (by rw[YAm,h1]) fun j v e=>?_
 rw[YCQ]at e
 obtain⟨c,u,e1,e2⟩:=h2 j v e
 exact⟨c,u,by simpa using e1,e2⟩
theorem ZfV (hc:X.calm=true):ZbR X (.type "list") (fun xs H Q=>∃l,xs=[tx l]/\l.length<=1000/\NewL ((signs l).map tx) H Q):=by
 rintro pins s σ H xs us Q I r ⟨l,rfl,hz,q⟩
 obtain⟨u,rfl,t,rfl⟩:=r.one
 have hl:(⟨l.toArray⟩:Str).cps.size=l.length:=by show l.toArray.size=_;simp
 refine call_list_str (I.ok.hd hc) _ t (fun h' tk acc c k e it=>?_) (by rw[hl];exact YCE (Zdt hz))
 refine⟨.ref s.heap.objs.size,_,I.laid (t':=tk) k (YAJ _) ?_,rfl,q _ I.fresh⟩
 exact⟨by unfold signs;rw[YAB,YAB];exact YCE (Zdt hz),acc.toList,c,Zgs it,by rw[Array.toArray_toList];exact e⟩
theorem Zi3 (hc:X.calm=true):ZbR X (.builtin "all") (fun xs H Q=>∃(a:Addr) (bs:List Bool),xs=[.ref a]/\H a=some (.lst (bs.map V.bl))/\Q (.bl (bs.all id)) H):=by
 rintro pins s σ H xs us Q I r ⟨a,bs,rfl,ha,q⟩
 obtain⟨u,rfl,ru⟩:=r.one
 cases ru
 obtain⟨_,its,n,r',hlen,e⟩:=I.lstM ha
 have hl:s.heap.IsList a its.toArray:=YCb e
 have hne:a≠s.heap.objs.size:=YAi (YAL e)
 refine call_all_walkS (YCC hl ?_)
 have hL:its.toArray.size=bs.length:=by rw[YAP,<-r'.length,YAB]
 have W:=(Walks.list (prog:=X.prog) (w:=X.w) (A:=X.A.in1) (by simpa using I.ok.hd hc) s.heap.objs.size a hne its.toArray).toS
 refine⟨s.heap.objs.size,_,_,_,_,_,_,fun i=>bs.getD i true,rfl,W,⟨⟨_,YAQ _ rfl,rfl,rfl⟩,hl.push _⟩,?_,fun s' hm=>?_⟩
 .intro i v s Q E hv hQ
  have e':its[i]?=some v:=by simpa using hv
  obtain⟨x,hx,rx⟩:=Zdr r' e'
  rw[YAZ]at hx
  cases hb:bs[i]? with
  | none=>rw[hb]at hx;cases hx
  | some b=>
   rw[hb]at hx
   cases hx
   obtain rfl:v=Value.bool b:=rx
   have:bs.getD i true=b:=by rw[YAG,hb];rfl
   have hQ':Q (bs.getD i true) s:=hQ
   rw[this]at hQ'
   exact YBS hQ'
 .have ea:(List.range its.toArray.size).all (fun i=>bs.getD i true)=bs.all id:=by
   rw[hL]
   rw[YAv,YAs,YAs]
   constructor
   .intro h b hb
    obtain⟨i,hi,rfl⟩:=YAh hb
    have:=h i (YAu.mpr hi)
    rw[YAG,YAE hi]at this
    exact this
   .intro h i hi
    have hi:=YAu.mp hi
    rw[YAG,YAE hi]
    exact h _ (YBM hi)
  rw[ea]
  have I2:Inv X pins σ H s':=I.call' (ch:=[]) hm.os (Un.kept fun b o q=>hm.heap b o (fun z=>?_) (YAC _ q)) (I.hok.kept fun b o q=>hm.heap b o (fun z=>?_) (YAC _ q)) (by rw[show s'.gens=s.gens from hm.gens];exact I.bare) (fun b hb=>by cases hb)
  .exact⟨.bl _,H,I2,rfl,q⟩
  .have z:b=s.heap.objs.size:=by simpa using z
   rw[z]at q;exact absurd (YAL q) (YAo _)
  .have z:b=s.heap.objs.size:=by simpa using z
   rw[z]at q;exact absurd (YAL q) (YAo _)
def tset (P:Program)(w:World)(a:Addr)(ls:Q22):HO:=.ext fun h=>TxSet P w h a ls (!Zbd w)
theorem Zkv {P:Program}{w:World}{H:Hp}{h:Heap}{a:Addr}{ls:Q22}(x:TxSet P w h a ls (!Zbd w)):ObjOk P w H h a (tset P w a ls):=by
 obtain⟨o,es,ep,t,ms,h1,r⟩:=id x
 exact⟨x,⟨o,h1⟩,fun g1 g2 y k=>y.keep k⟩
def ddl (ls:Q22):Q22:=ls.foldl addT []
theorem ZiX {ls:Q22}:dd (fun i=>ls.getD i []) ls.length=ddl ls:=by
 unfold dd ddl
 congr 1
 apply YBR
 .simp
 .intro n h1 h2
  simp[h2]
theorem Zd0 (hc:X.calm=true):ZbR X (.type "set") (fun xs H Q=>∃ls:Q22,ls.length<=1000/\((∃l,xs=[tx l]/\ls=signs l)\/∃a,xs=[.ref a]/\SqL X.K H a (ls.map tx))/\∀p,H p=none->Q (.ref p) (upd H p (tset X.prog X.w p (ddl ls)))):=by
 rintro pins s σ H xs us Q I r ⟨ls,hz,hx,q⟩
 have hb:ls.length+1<scanBound:=by show _<4096;omega
 have fin:∀(h':Heap) (tk:Nat),TxSet X.prog X.w h' s.heap.objs.size (ddl ls) (!Zbd X.w)->(∀b o,s.heap.get? b=some o->h'.get? b=some o)->EP X pins σ Q (.ref s.heap.objs.size) { s with heap:=h',toks:=tk }:=fun h' tk hS k=>
  ⟨.ref s.heap.objs.size,_,I.laid (t':=tk) k (YAJ _) (Zkv hS),rfl,q _ I.fresh⟩
 rcases hx with⟨l,rfl,rfl⟩|⟨a,rfl,hq⟩
 .obtain⟨u,rfl,t,rfl⟩:=r.one
  have hl:(signs l).length=l.length:=by unfold signs;rw[YAB]
  have e0:dd (fun i=>[l.getD i 0]) l.length=ddl (signs l):=by
   unfold dd ddl signs
   congr 1
   apply YBR
   .simp
   .intro n h1 h2
    have:n<l.length:=by simpa using h2
    simp[this]
  refine ZgO (I.ok.hd hc) (Zf5 (prog:=X.prog) (w:=X.w) (s:=s) (l:=l) (t:=t)) F.sub_str_set F.sub_str_frozenset (by decide) (by rw[<-hl];exact hb) fun h' tk hS k _=>?_
  rw[e0]at hS
  exact fin h' tk hS k
 .obtain⟨u,rfl,ru⟩:=r.one
  cases ru
  obtain⟨its,rv,p,_⟩:=I.list hq
  refine ZgO (I.ok.hd hc) (Zf6 (prog:=X.prog) (w:=X.w) (s:=s) p.isList rv) F.sub_list_set F.sub_list_frozenset (by decide) hb fun h' tk hS k _=>?_
  rw[ZiX]at hS
  exact fin h' tk hS k
theorem Zb5 (hc:X.calm=true):ZbR X (.builtin "sorted") (fun xs H Q=>∃a ls,xs=[.ref a]/\H a=some (tset X.prog X.w a ls)/\ls.length<64/\NewL ((ZbT ls).map tx) H Q):=by
 rintro pins s σ H xs us Q I r ⟨a,ls,rfl,ha,h64,q⟩
 obtain⟨u,rfl,ru⟩:=r.one
 cases ru
 have hS:TxSet X.prog X.w s.heap a ls (!Zbd X.w):=(I.hok a _ ha).1
 refine Zhk (I.ok.hd hc) hS h64 fun s' b us e nw k hg ho hb rv=>?_
 have hl:(ZbT ls).length<=sizeLine:=by rw[(Za8 ls).length_eq];exact YAK (YCE h64) (by rw[sizeLine_eq];decide)
 exact⟨.ref b,_,I.laid2 (o:=.lst ((ZbT ls).map tx)) ho hg k nw ⟨by rw[YAB];exact hl,us,e,rv,hb⟩,rfl,q b (I.hok.none_of nw)⟩
end
theorem Zay {X:Cx}{x:Str}{l:Q11}{j:Nat}{pos:Pos}(h:x=⟨l.toArray⟩):PE X (.Constant (.str x) j pos) (tC (tx l)):=by subst h;exact Zmq
theorem Zjs {X:Cx} {x y:Str} {pos:Pos} (hg:Gl X x) (hm:∃t,X.mg x=some (.str y t)) (hd:(x == ("__debug__":Str))=false:=by decide):PE X (.Name x pos) (tC (.str y)):=by
 obtain⟨t,h⟩:=hm
 exact ZcT hg h ⟨t,rfl⟩ hd
theorem Zcd {X:Cx} {x:Str} {y:Int} {pos:Pos} (hg:Gl X x) (hm:∃t,X.mg x=some (.int y t)) (hd:(x == ("__debug__":Str))=false:=by decide):PE X (.Name x pos) (tC (.int y)):=by
 obtain⟨t,h⟩:=hm
 exact ZcT hg h ⟨t,rfl⟩ hd
section
variable {CX:CXT}{P:Program}{w:World}{K:Q44}{mg:Str->Option Value}{base:Heap}{N:List Str}{qual:Str}{scope:Scope}{f:Addr}{cd:Value}{A:Around}{outer:List Env}{s:Shared}{H:Hp}{E:XK}{X:Cx}{e:Addr}
theorem cxPr:(cxOf CX P w K mg base N qual scope f cd A outer s H E).prog=P:=rfl
theorem cxWo:(cxOf CX P w K mg base N qual scope f cd A outer s H E).w=w:=rfl
theorem suxK:(sux X e).K=X.K:=rfl
theorem Znn:(sux X e).prog=X.prog:=rfl
theorem Znm:(sux X e).w=X.w:=rfl
end
end L2
namespace L2
open PySem PySem.Spec PyProof.Rows
open PySem.W (Frag KeqHits)
section
variable {X:Cx}{K:Frag}
end
end L2
namespace L2
open PySem PySem.Spec PyProof.Rows
open PySem.W (Frag)
theorem Zgg {P:Program}{w:World}{K:Frag}{mg:Str->Option Value}{base:Heap}{N:List Str}{qual:Str}{scope:Scope}{f:Addr}{cd:Value}{A:Around}{outer:List Env}{s0:Shared}{H0:Hp}{E:XK}:
  Zb8 (CXr P w) (cxOf (CXr P w) P w K mg base N qual scope f cd A outer s0 H0 E) E:=by
 intro pins σ H s ev s' I hx
 generalize hX:cxOf (CXr P w) P w K mg base N qual scope f cd A outer s0 H0 E=X at I hx ⊢
 have eA:X.A=A.deeper (envOfC qual scope s0.heap.objs.size f cd):=by rw[<-hX];rfl
 have eS:X.stack=envOfC qual scope s0.heap.objs.size f cd::outer:=by rw[<-hX];rfl
 have eF:X.fs=frs outer:=by rw[<-hX];rfl
 have e0:X.s₀=s0:=by rw[<-hX];rfl
 have eH:X.H₀=H0:=by rw[<-hX];rfl
 have eX:X.ex=[]:=by rw[<-hX];rfl
 have ePr:X.prog=P:=by rw[<-hX];rfl
 have eW:X.w=w:=by rw[<-hX];rfl
 have hxe:∀ev s',wpAny (model P w) (A.deeper (envOfC qual scope s0.heap.objs.size f cd)) (leaving (envOfC qual scope s0.heap.objs.size f cd) ev) (fun _ s''=>CXr P w outer H0 s0 E ev s'') (fun e' s''=>CXr P w outer H0 s0 E e' s'') s'->X.xe ev s':=by
  intro ev s' z;rw[<-hX];exact z
 obtain⟨e,C,d,H',h1,B,rfl,hos,hbare,un,ok,he,kept,fl,up,hE⟩:=hx
 refine hxe _ _ ?_
 have hfr:(A.deeper (envOfC qual scope s0.heap.objs.size f cd)).frames=some (envOfC qual scope s0.heap.objs.size f cd::outer):=by rw[<-eA,<-eS];exact I.ok.frames
 have J:Inv X pins σ H' { s' with heap:=h1 }:=I.call' (s':={ s' with heap:=h1 }) (ch:=[]) hos un (by rw[ePr,eW];exact ok) hbare (fun b hb=>by cases hb)
 rw[eS]at fl
 refine ZhC hfr rfl fl fun h' fl' up'=>?_
 have os:s'.os=s0.os:=by rw[hos,<-e0];exact I.os
 have un':Un (frs outer) [] H0 H' s0.heap h1:=by
  have:=J.base
  rwa [eF,eX,eH,e0]at this
 refine⟨e,C,d,H',h1,B,rfl,os,hbare,un',ok,he,fun b o hb hne hc=>?_,fl',up.trans up',hE⟩
 rcases hc with hu | ⟨⟨o',ho'⟩,hn⟩
 .exact kept b o hb hne (.inl hu)
 .refine kept b o hb hne (.inr ⟨?_,fun z=>?_⟩)
  .have:=I.base
   rw[eF,eX,eH,e0]at this
   exact this.there b o' ho' (by simp)
  .rw[eS]at z
   have z':b=s0.heap.objs.size\/b∈frs outer:=by
    have:=z
    unfold frs at this
    rw[YDK]at this
    simpa [envOfC,frs] using this
   rcases z' with z' | z'
   .rw[z']at ho';exact absurd (YAL ho') (YAo _)
   .exact hn z'
end L2
namespace L2
open PySem PySem.Spec PyProof.Rows
section
variable {prog:Program}{w:World}{A:Around}{E:Q33}{s:Shared}
variable {z TI TO i1 i2:Addr}{f1 f2:List Addr}{n i:Nat}{P1 P2:Nat->Value->Prop}{S1 S2:Nat->Heap->Prop}{a b:Value}
end
section
variable {prog:Program}{w:World}{A:Around}{E:Q33}{s:Shared}{z TI TO i1 i2:Addr}{f1 f2:List Addr}{n i:Nat}{P1 P2:Nat->Value->Prop}{S1 S2:Nat->Heap->Prop}{a b:Value}
end
def Itz (K:Q44)(a b:Addr):It:=
  ⟨fun i H=>∃xs ys x y,SqT K H a xs/\SqT K H b ys/\xs.length=ys.length/\xs[i]?=some x/\ys[i]?=some y,
   fun i H v H'=>∃p x y,H p=none/\v=.ref p/\H'=upd H p (.tup [x,y])/\(∀xs,SqT K H a xs->xs[i]?=some x)/\∀ys,SqT K H b ys->ys[i]?=some y,
   fun i H=>∃xs ys,SqT K H a xs/\SqT K H b ys/\xs.length=ys.length/\xs.length=i⟩
section
variable {X:Cx}{es:List Expr}{x1:Nat}{tp:Pos}
def iZip (K:Q44)(ta:TA):TI:=fun σ H R=>ta σ H fun vs H1=>∃a b,vs=[.ref a,.ref b]/\(∃xs,SqT K H1 a xs)/\(∃ys,SqT K H1 b ys)/\R (Itz K a b) H1
end
section
variable {prog:Program}{w:World}{A:Around}{E:Q33}{s:Shared}{l I S:Addr}{ls:Q22}{vs:List Value}{R:Result->Shared->Prop}{Q:Q33}
end
section
variable {X:Cx}{e:Expr}{ta:TA}{p p2 pos kpos:Pos}
def Zm5 (l m:Q11):Bool:=decide (m.length<=l.length)&&decide (l.drop (l.length-m.length)=m)
theorem Zb6 (hc:X.calm=true):ZbR X (.builtin "sorted") (fun xs H Q=>∃a ls,xs=[.ref a]/\H a=some (.lst (ls.map tx))/\ls.length<64/\NewL ((ZbT ls).map tx) H Q):=by
 rintro pins s σ H xs us Q I r ⟨a,ls,rfl,ha,h64,q⟩
 obtain⟨u,rfl,ru⟩:=r.one
 cases ru
 obtain⟨_,its,n,r2,hlen,eo⟩:=I.lstM ha
 have hl:(ZbT ls).length<=sizeLine:=by rw[(Za8 ls).length_eq];exact YAK (YCE h64) (by rw[sizeLine_eq];decide)
 have li:its.length=ls.length:=by rw[<-r2.length,YAB]
 refine Calls.call_function_entry kind_sorted plain_sorted entry_sorted (args_sorted1 _) ?_
 unfold Builtin.«sorted»
 refine YAA (m:=checkCount "sorted" 1 1 _) (YAH ?_)
 refine YAA (collect_list (YCb eo) ?_ (by rw[li];exact YAK (YCE h64) (by rw[sizeLine_eq];decide)))
 have sb:=YAk (s.heap.push (seqObj "list" #[] 0)) s.heap.objs.size (Obj.mapSeq (·++its.toArray))
 have k1:∀b o,s.heap.get? b=some o->((s.heap.push (seqObj "list" #[] 0)).update s.heap.objs.size (Obj.mapSeq (·++its.toArray))).get? b=some o:=fun b o e=>(sb.2 b (YAi (YAL e))).trans (YAC _ e)
 refine Zfc (s:={ s with heap:=(s.heap.push (seqObj "list" #[] 0)).update s.heap.objs.size (Obj.mapSeq (·++its.toArray)) }) r2 h64 fun h' us e k2 he rr=>?_
 generalize ((s.heap.push (seqObj "list" #[] 0)).update s.heap.objs.size (Obj.mapSeq (·++its.toArray)))=g at k1 k2 he ⊢
 have nw:s.heap.get? g.objs.size=none:=by
  cases z:s.heap.get? g.objs.size with
  | none=>rfl
  | some o=>exact absurd (YAL (k1 _ _ z)) (YAo _)
 exact⟨.ref g.objs.size,_,I.laid2 (s':={ s with heap:=h' }) (o:=.lst ((ZbT ls).map tx)) rfl rfl (fun b o z=>k2 b o (k1 b o z)) nw ⟨by rw[YAB];exact hl,us,e,rr,he⟩,rfl,q _ (I.hok.none_of nw)⟩
end
end L2
namespace L2
open PySem PySem.Spec PyProof.Rows
open PySem.W (Frag)
def Zkk (w:Q11)(e z:Nat):Q11:=(w.drop (e-z)).take z
theorem Zg6 {w m:Q11}{e:Nat}(he:e<=w.length):Zm5 (w.take e) m=true↔m.length<=e/\Zkk w e m.length=m:=by
 unfold Zm5 Zkk
 have hl:(w.take e).length=e:=by rw[YAd];omega
 rw[YAU,decide_eq_true_iff,decide_eq_true_iff,hl]
 constructor
 .rintro⟨h1,h2⟩
  refine⟨h1,?_⟩
  rw[YDS]at h2
  have:e-(e-m.length)=m.length:=by omega
  rw[this]at h2
  exact h2
 .rintro⟨h1,h2⟩
  refine⟨h1,?_⟩
  rw[YDS]
  have:e-(e-m.length)=m.length:=by omega
  rw[this]
  exact h2
def sNo:TS:=fun _ _ _=>False
theorem Zjq {X:Cx}{st:Stmt}:PS X st sNo:=fun _ _ _ _ _ _ h=>h.elim
section
variable {X:Cx}{CX:CXT}{k:Nat}{L f:Addr}{fd:FuncData}{ps:List Str}{sp:Sp}{E:XK}{x:Str}{pos apos np:Pos}{e:Expr}{es:List Expr}{t:TA}{ds:List Value}{dvs:List V}
theorem Zju {pl:Sem Bool} (hg:Gl X x) (hm:X.mg x=some (.ref L)) (cr:ClsRead X.K L "__init__" (.ref f)) (F:FnOk X.prog X.w X.K X.mg X.base CX k f fd ps sp) (hr:Room k X.A) (hk:PySem.W.keepIn X.K (.ref f)=true) (hb:Binds X.K fd ps ds) (hd:Vals dvs ds) (hx:Zb8 CX X E)
  (ha:PA X (e::es) t) (hdb:(x == ("__debug__":Str))=false:=by decide) (hst:starEach (e::es) X.env=(false,eval e X.env)::starEach es X.env:=by rfl) (hpl:(backTo pos (starEach es X.env)).any (·.1)=false:=by rfl)
  (ht:eval (.Call (.Attribute (.Name x np) "__init__" apos) (e::es) [] pos) X.env=(do
   let ov <-eval (.Name x np) X.env
   standAt apos.atName
   let (f,first) <-holding [ov] (getMethod ov "__init__" pl)
   callWith pos f first (backTo pos (starEach (e::es) X.env)) (backToKw pos (keywordEach [] X.env))):=by rfl):PE X (.Call (.Attribute (.Name x np) "__init__" apos) (e::es) [] pos) (ZkC sp dvs E t):=by
 intro pins s σ H Q I h
 refine YCM (pl:=pl) (Zb1 I hg hm ?_ hdb) ht
 refine PySem.W.method_cls I.kIn cr.sp (PySem.W.cls_value I.kIn cr.rd cr.fd cr.hn ?_)
 refine YCK (first:=[]) (h₀:=X.base) I.ok.mod.kin hk (thn (ha pos pins _ σ H _ (I.tok _) h) fun us s1 ⟨vs,H1,I1,r,q⟩=>⟨I1.kIn,?_⟩) hst hpl
 exact ZgP F hr hb hd hx I1 r q
end
def WhileRun (c:TT)(tb:TS)(D:Ends)(σ:St)(H:Hp):Prop:=Zh4 c tb D σ H
theorem ZkV {c:TT}{tb:TS}{D:Ends}{σ:St}{H:Hp}:Zh4 c tb D σ H=WhileRun c tb D σ H:=rfl
theorem WhileRun.by {c:TT}{tb:TS}{D:Ends}{σ:St}{H:Hp}(Pv:St->Hp->Prop)(μ:St->Hp->Nat)(h0:Pv σ H)
  (hs:∀σ H,Pv σ H->∃b:Bool,(∀Q:Bool->Hp->Prop,(∀H1,Same H H1->Q b H1)->c σ H Q)/\∀H1,Same H H1->if b=true then tb { D with nx:=fun σ' H'=>Pv σ' H'/\μ σ' H'<μ σ H,ct:=fun σ' H'=>Pv σ' H'/\μ σ' H'<μ σ H,bk:=D.nx } σ H1 else D.nx σ H1):WhileRun c tb D σ H:=by
 refine⟨fun m σ H=>m=μ σ H/\Pv σ H,⟨_,rfl,h0⟩,?_⟩
 rintro m σ H ⟨rfl,p⟩
 obtain⟨b,hc,hb⟩:=hs σ H p
 refine hc _ fun H1 s1=>?_
 have q:=hb H1 s1
 cases b with
 | true=>exact⟨_,fun σ' H' ⟨p',l⟩=>⟨_,l,rfl,p'⟩,q⟩
 | false=>exact q
end L2
namespace L2
open PySem PySem.Spec PyProof.Rows
section
variable {M:Model}{A:Around}{E:Q33}{s:Shared}{bey:Nat->StateT SortSt Sem (Option Bool)}{B:Nat->Bool}{n h:Nat}{st:SortSt}{Q:Option Nat->SortSt->Prop}
end
structure Cmp (D:Keyed->Prop)(L:Keyed->Keyed->Bool):Prop where
 asym:∀x y,D x->D y->L x y=true->L y x=false
 tr:∀x y z,D x->D y->D z->L y x=false->L z y=false->L z x=false
abbrev Le (L:Keyed->Keyed->Bool)(x y:Keyed):Prop:=L y x=false
section
variable {D:Keyed->Prop}{L:Keyed->Keyed->Bool}{T o x y p:List Keyed}
end
section
variable {M:Model}{A:Around}{E:Q33}{s:Shared}{D:Keyed->Prop}{L:Keyed->Keyed->Bool}{kd:SortKind}
noncomputable def PureC (M:Model) (A:Around) (E:Q33) (s:Shared) (D:Keyed->Prop) (L:Keyed->Keyed->Bool) (kd:SortKind):Prop:=
 ∀(st:SortSt) (x y:Keyed) (Q:Option Bool->SortSt->Prop),kindOf st=kd->D x->D y->Q (some (L x y)) st->wpS M A E s (lt' x y) Q st
theorem Zj0 {ar:Array Keyed}{i:Nat}{x:Keyed}{Q:Keyed->SortSt->Prop}{st:SortSt}(h:ar[i]?=some x)(q:Q x st):wpS M A E s (elem' ar i) Q st:=by
 rw[elem'_eq,h];exact YBn q
end
section
variable {M:Model}{A:Around}{E:Q33}{s:Shared}{D:Keyed->Prop}{L:Keyed->Keyed->Bool}{kd:SortKind}{p q:Array Keyed}{T:List Keyed}{st:SortSt}
theorem at? {p:Array Keyed}{i:Nat}(h:i<p.size):∃e,p[i]?=some e/\e∈p.toList:=⟨p[i],getElem?_pos p i h,by simp⟩
structure LoH (D:Keyed->Prop)(L:Keyed->Keyed->Bool)(p q:Array Keyed):Prop where
 dp:∀u∈p.toList,D u
 dq:∀u∈q.toList,D u
 sp:p.toList.Pairwise (Le L)
 sq:q.toList.Pairwise (Le L)
 last:∀u∈q.toList,∀v∈p.toList.drop (p.size-1),L u v=true
end
section
variable {M:Model}{A:Around}{E:Q33}{s:Shared}{D:Keyed->Prop}{L:Keyed->Keyed->Bool}{kd:SortKind}{p q:Array Keyed}{T:List Keyed}{st:SortSt}
structure HiH (D:Keyed->Prop)(L:Keyed->Keyed->Bool)(p q:Array Keyed):Prop where
 dp:∀u∈p.toList,D u
 dq:∀u∈q.toList,D u
 sp:p.toList.Pairwise (Le L)
 sq:q.toList.Pairwise (Le L)
 first:∀u∈q.toList.take 1,∀v∈p.toList,L u v=true
theorem le_refl' (hC:Cmp D L){v:Keyed}(h:D v):Le L v v:=by
 cases hx:L v v with
 | false=>exact hx
 | true=>exact hC.asym v v h h hx
end
section
variable {M:Model}{A:Around}{E:Q33}{s:Shared}{D:Keyed->Prop}{L:Keyed->Keyed->Bool}{kd:SortKind}{st:SortSt}
theorem slice {a:Array Keyed}{x y z:List Keyed}{b n:Nat}(h:a.toList=x++y++z)(hb:b=x.length)(hn:n=y.length):(a.toList.drop b).take n=y:=by
 rw[h,hb,hn,YBm,List.drop_left,List.take_left]
end
abbrev CmpT (L:Keyed->Keyed->Bool):Prop:=Cmp (fun _=>True) L
theorem CmpT.rf {L:Keyed->Keyed->Bool}(h:CmpT L)(x:Keyed):Le L x x:=le_refl' h trivial
theorem CmpT.le {L:Keyed->Keyed->Bool}(h:CmpT L){x y:Keyed}(e:L x y=true):Le L x y:=h.asym x y trivial trivial e
theorem CmpT.t {L:Keyed->Keyed->Bool}(h:CmpT L){x y z:Keyed}(e:Le L x y)(f:Le L y z):Le L x z:=h.tr x y z trivial trivial trivial e f
theorem CmpT.lt_le {L:Keyed->Keyed->Bool}(h:CmpT L){x y z:Keyed}(e:L x y=true)(f:Le L y z):L x z=true:=by
 cases hx:L x z with
 | true=>rfl
 | false=>rw[h.tr y z x trivial trivial trivial f hx]at e;cases e
noncomputable def at0 (a:Array Keyed) (i:Nat):Keyed:=(a[i]?).getD (.none,.none)
theorem Zd1 {a b:Array Keyed}{i j:Nat}(h:a[i]?=b[j]?):at0 a i=at0 b j:=by unfold at0;rw[h]
noncomputable def SegU (L:Keyed->Keyed->Bool) (a:Array Keyed) (l h:Nat):Prop:=∀i j,l<=i->i<=j->j<h->Le L (at0 a i) (at0 a j)
noncomputable def SegD (L:Keyed->Keyed->Bool) (a:Array Keyed) (l h:Nat):Prop:=∀i j,l<=i->i<=j->j<h->Le L (at0 a j) (at0 a i)
structure Kept (lo:Nat)(a b:Array Keyed):Prop where
 perm:b.Perm a
 pre:∀k,k<lo->b[k]?=a[k]?
theorem Kept.rf (lo:Nat)(a:Array Keyed):Kept lo a a:=⟨Array.Perm.refl _,fun _ _=>rfl⟩
theorem Kept.tr {lo:Nat}{a b c:Array Keyed}(h:Kept lo a b)(k:Kept lo b c):Kept lo a c:=⟨k.perm.trans h.perm,fun i hi=>(k.pre i hi).trans (h.pre i hi)⟩
theorem Kept.sz {lo:Nat}{a b:Array Keyed}(h:Kept lo a b):b.size=a.size:=h.perm.size_eq
theorem Kept.d {lo:Nat}{a b:Array Keyed}{D:Keyed->Prop}(h:Kept lo a b)(hd:∀u∈a.toList,D u):∀u∈b.toList,D u:=fun u hu=>hd u ((YDN.mp h.perm).mem_iff.mp hu)
theorem Zjb {xs:Array Keyed}{src d:Nat}(hs:src<xs.size)(hd:d<=src)(k:Nat):
  at0 (bubble xs src d) k=if k=src-d then at0 xs src else if src-d<k/\k<=src then at0 xs (k-1) else at0 xs k:=by
 have e:=getElem?_bubble hs d hd k
 repeat' split
 all_goals (refine Zd1 (e.trans ?_);first | rw[YAW (by assumption)] | (rw[YAX (by assumption)];first | rw[YAW (by assumption)] | rw[YAX (by assumption)]))
theorem ZgH {xs:Array Keyed}{i j:Nat}(hj:j<=xs.size)(k:Nat):
  at0 (mirror xs i j ((j-i)/2)) k=if i<=k/\k<j then at0 xs (i+j-1-k) else at0 xs k:=by
 have e:=getElem?_mirror_all (i:=i) hj k
 split
 .exact Zd1 (e.trans (YAW (by assumption)))
 .exact Zd1 (e.trans (YAX (by assumption)))
theorem Kept.bub {lo src d:Nat}{a:Array Keyed}(hs:src<a.size)(hd:lo+d<=src):Kept lo a (bubble a src d):=
 ⟨bubble_perm _ _ _,fun k hk=>by rw[getElem?_bubble hs d (by omega),YAX (by omega),YAX (by omega)]⟩
theorem Kept.mir {lo i j:Nat}{a:Array Keyed}(hj:j<=a.size)(hl:lo<=i):Kept lo a (mirror a i j ((j-i)/2)):=
 ⟨mirror_perm _ _ _ _,fun k hk=>by rw[getElem?_mirror_all hj,YAX (by omega)]⟩
section
variable {M:Model}{A:Around}{E:Q33}{s:Shared}{D:Keyed->Prop}{L:Keyed->Keyed->Bool}{kd:SortKind}{st:SortSt}
theorem Zfx {a:Array Keyed}{i j:Nat}{Q:Option Bool->SortSt->Prop}(hP:PureC M A E s D L kd)(hk:kindOf st=kd)(hd:∀u∈a.toList,D u)(hi:i<a.size)(hj:j<a.size)
  (q:Q (some (L (at0 a i) (at0 a j))) (setArr st a)):wpS M A E s (ltAt' i j) Q (setArr st a):=by
 obtain⟨x,hx,hxm⟩:=at? hi
 obtain⟨y,hy,hym⟩:=at? hj
 have ex:at0 a i=x:=by unfold at0;rw[hx];rfl
 have ey:at0 a j=y:=by unfold at0;rw[hy];rfl
 rw[ex,ey]at q
 rw[ltAt'_eq]
 refine YBE (wpS_get ?_)
 exact YBE (Zj0 hx (YBE (Zj0 hy (hP _ _ _ _ hk (hd x hxm) (hd y hym) q))))
theorem ZlC {a:Array Keyed}{lo n ok:Nat}{Q:Bool->SortSt->Prop}(hC:CmpT L)(hP:PureC M A E s D L kd)(hk:kindOf st=kd)(hd:∀u∈a.toList,D u)(hn:lo+n<=a.size)(hok:ok<=n)
  (hs:SegU L a lo (lo+ok)) (h:∀b,Kept lo a b->SegU L b lo (lo+n)->Q true (setArr st b)):wpS M A E s (binarySort' lo n ok) Q (setArr st a):=by
 rw[binarySort'_eq]
 refine YBE (wpS_mono (YDO (I:=fun k c st'=>c=(none,())/\∃b,st'=setArr st b/\Kept lo a b/\SegU L b lo (lo+min k n))
  (Q:=fun c st'=>c=(none,())/\∃b,st'=setArr st b/\Kept lo a b/\SegU L b lo (lo+n)) ?step ?fin ?init) ?post)
 case post=>
  rintro c st' ⟨rfl,b,rfl,hb,hs'⟩
  exact YBn (h b hb hs')
 case init=>
  refine⟨rfl,a,rfl,Kept.rf _ _,fun i j hl hij hj=>?_⟩
  by_cases h1:ok=0
  .have:i=j:=by omega
   subst this;exact hC.rf _
  .exact hs i j hl hij (by omega)
 case fin=>
  rintro c st' ⟨hc,b,hst,hb,hs'⟩
  refine⟨hc,b,hst,hb,?_⟩
  rwa [show min (max (max ok 1) n) n=n by omega]at hs'
 case step=>
  rintro k c st' hak hkn ⟨rfl,b,rfl,hb,hs'⟩
  rw[show min k n=k by omega]at hs'
  have hsz:=hb.sz
  have hdb:=hb.d hd
  refine YBE (wpS_mono (YDO (I:=fun x c st''=>st''=setArr st b/\∃l r,c=(none,l,r)/\l<=r/\r<=k/\r-l<=k-x /\
    (∀i,lo<=i->i<lo+l->Le L (at0 b i) (at0 b (lo+k)))/\(∀i,lo+r<=i->i<lo+k->L (at0 b (lo+k)) (at0 b i)=true))
   (Q:=fun c st''=>st''=setArr st b/\∃l r,c=(none,l,r)/\l<=k /\
    (∀i,lo<=i->i<lo+l->Le L (at0 b i) (at0 b (lo+k)))/\(∀i,lo+l<=i->i<lo+k->L (at0 b (lo+k)) (at0 b i)=true)) ?istep ?ifin ?iinit) ?ipost)
  case iinit=>exact⟨rfl,0,k,rfl,by omega,by omega,by omega,fun i h1 hi=>by omega,fun i h1 h2=>by omega⟩
  case ifin=>
   rintro c st'' ⟨rfl,l,r,rfl,hlr,hrk,hm,hlo,hhi⟩
   have:l=r:=by omega
   subst this
   exact⟨rfl,l,l,rfl,hrk,hlo,hhi⟩
  case istep=>
   rintro x c st'' _ hxk ⟨rfl,l,r,rfl,hlr,hrk,hm,hlo,hhi⟩
   dsimp only
   by_cases hge:l>=r
   .rw[YAW hge]
    have:l=r:=by omega
    subst this
    exact YBn ⟨rfl,l,l,rfl,hrk,hlo,hhi⟩
   .rw[YAX hge]
    refine YBE (Zfx hP hk hdb (by omega) (by omega) ?_)
    cases hless:L (at0 b (lo+k)) (at0 b (lo+(l+r)/2)) with
    | true=>exact YBn ⟨rfl,l,(l+r)/2,rfl,by omega,by omega,by omega,hlo,fun i h1 h2=>hC.lt_le hless (hs' _ _ (by omega) h1 h2)⟩
    | false=>exact YBn ⟨rfl,(l+r)/2+1,r,rfl,by omega,by omega,by omega,fun i h0 h1=>hC.t (hs' i (lo+(l+r)/2) h0 (by omega) (by omega)) hless,hhi⟩
  case ipost=>
   rintro c st'' ⟨rfl,l,r,rfl,hlk,hlo,hhi⟩
   show wpS _ _ _ _ (do moveDown' (lo+k) (lo+l);pure (ForInStep.yield (none,()))) _ _
   rw[moveDown'_eq]
   have hks:lo+k<b.size:=by omega
   refine YBE (wpS_modify (YBn ⟨rfl,bubble b (lo+k) (lo+k-(lo+l)),rfl,hb.tr (Kept.bub hks (by omega)),?_⟩))
   rw[show min (k+1) n=k+1 by omega]
   intro i j hl hij hj
   rw[Zjb hks (by omega),Zjb hks (by omega),show lo+k-(lo+k-(lo+l))=lo+l by omega]
   repeat' split
   all_goals first
    | (exfalso;omega)
    | exact hC.rf _
    | exact hlo _ (by omega) (by omega)
    | exact hC.le (hhi _ (by omega) (by omega))
    | exact hs' _ _ (by omega) (by omega) (by omega)
end
noncomputable def ascO (lo a nr:Nat):StateT SortSt Sem AscSt:=
 forIn [a:nr] ((none,a):AscSt) fun _ c=>do
  let x <-ltAt' (lo+c.snd) (lo+c.snd-1)
  match x with
  | some sm=>if sm=true then pure (ForInStep.done (none,c.snd)) else pure (ForInStep.yield (none,c.snd+1))
  | _=>pure (ForInStep.done (some none,c.snd))
noncomputable def tailO (lo n nr:Nat):StateT SortSt Sem (Option Nat):=do
 reverseSlice' lo (lo+n)
 let c <-ascO lo n nr
 match c.fst with
 | some r=>pure r
 | none=>pure (some c.snd)
noncomputable def descO (lo n nr:Nat):StateT SortSt Sem DescSt:=
 forIn [n:nr] ((none,n,0):DescSt) fun _ c=>do
  let x <-ltAt' (lo+c.snd.fst) (lo+c.snd.fst-1)
  match x with
  | some sm=>
   if sm=true then
    if c.snd.snd>0 then do
     reverseSlice' (lo+c.snd.fst-(c.snd.snd+1)) (lo+c.snd.fst)
     pure (ForInStep.yield (none,c.snd.fst+1,0))
    else pure (ForInStep.yield (none,c.snd.fst+1,0))
   else do
    let y <-ltAt' (lo+c.snd.fst-1) (lo+c.snd.fst)
    match y with
    | some lg=>
     if lg=true then pure (ForInStep.done (none,c.snd.fst,c.snd.snd))
     else pure (ForInStep.yield (none,c.snd.fst+1,c.snd.snd+1))
    | _=>pure (ForInStep.done (some none,c.snd.fst,c.snd.snd))
  | _=>pure (ForInStep.done (some none,c.snd.fst,c.snd.snd))
section
variable {M:Model}{A:Around}{E:Q33}{s:Shared}{D:Keyed->Prop}{L:Keyed->Keyed->Bool}{kd:SortKind}{st:SortSt}
noncomputable def Eqv (L:Keyed->Keyed->Bool) (x y:Keyed):Prop:=Le L x y/\Le L y x
theorem Zdy {a:Array Keyed}{i j:Nat}{Q:Unit->SortSt->Prop}(q:Q () (setArr st (mirror a i j ((j-i)/2)))):wpS M A E s (reverseSlice' i j) Q (setArr st a):=by
 rw[reverseSlice'_eq];exact wpS_modify q
theorem Zjc {a:Array Keyed}{lo n0 nr:Nat}{Q:AscSt->SortSt->Prop}(hC:CmpT L)(hP:PureC M A E s D L kd)(hk:kindOf st=kd)(hd:∀u∈a.toList,D u)(hn:lo+nr<=a.size)(h1:1<=n0)(hnn:n0<=nr)
  (hs:SegU L a lo (lo+n0)) (h:∀n,n0<=n->n<=nr->SegU L a lo (lo+n)->(n=nr\/L (at0 a (lo+n)) (at0 a (lo+n-1))=true)->Q (none,n) (setArr st a)):wpS M A E s (ascO lo n0 nr) Q (setArr st a):=by
 unfold ascO
 refine YDO (I:=fun x c st'=>st'=setArr st a/\c=(none,x)/\SegU L a lo (lo+x)) ?step ?fin ⟨rfl,rfl,hs⟩
 case fin=>
  rintro c st' ⟨rfl,rfl,hs'⟩
  rw[show max n0 nr=nr by omega]at hs' ⊢
  exact h nr hnn (YAJ _) hs' (.inl rfl)
 case step=>
  rintro x c st' hax hxn ⟨rfl,rfl,hs'⟩
  dsimp only
  refine YBE (Zfx hP hk hd (by omega) (by omega) ?_)
  cases hl:L (at0 a (lo+x)) (at0 a (lo+x-1)) with
  | true=>exact YBn (h x hax (by omega) hs' (.inr hl))
  | false=>
   refine YBn ⟨rfl,rfl,fun i j hli hij hj=>?_⟩
   by_cases hjx:j<lo+x
   .exact hs' i j hli hij hjx
   .have hj':j=lo+x:=by omega
    subst hj'
    by_cases hi':i=lo+x
    .subst hi';exact hC.rf _
    .exact hC.t (hs' i (lo+x-1) hli (by omega) (by omega)) hl
theorem Zda {a:Array Keyed}{lo n nr:Nat}{Q:Option Nat->SortSt->Prop}(hC:CmpT L)(hP:PureC M A E s D L kd)(hk:kindOf st=kd)(hd:∀u∈a.toList,D u)(hn:lo+nr<=a.size)(h1:1<=n)(hnn:n<=nr)
  (hs:SegD L a lo (lo+n)) (h:∀b m,Kept lo a b->1<=m->m<=nr->SegU L b lo (lo+m)->Q (some m) (setArr st b)):wpS M A E s (tailO lo n nr) Q (setArr st a):=by
 unfold tailO
 refine YBE (Zdy ?_)
 have hK:Kept lo a (mirror a lo (lo+n) ((lo+n-lo)/2)):=Kept.mir (by omega) (YAJ _)
 refine YBE (Zjc hC hP hk (hK.d hd) (by rw[hK.sz];exact hn) h1 hnn ?_ fun m hm1 hm2 hsm _=>YBn (h _ m hK (by omega) hm2 hsm))
 intro i j hli hij hj
 rw[ZgH (by omega),ZgH (by omega),YAW (by omega),YAW (by omega)]
 exact hs _ _ (by omega) (by omega) (by omega)
theorem ZeG {a:Array Keyed}{i j:Nat}(hC:CmpT L)(hj:j<=a.size)(he:∀k,i<=k->k<j->Eqv L (at0 a k) (at0 a (j-1)))(k:Nat):Eqv L (at0 (mirror a i j ((j-i)/2)) k) (at0 a k):=by
 rw[ZgH hj]
 split
 .have e1:=he (i+j-1-k) (by omega) (by omega)
  have e2:=he k (by omega) (by omega)
  exact⟨hC.t e1.1 e2.2,hC.t e2.1 e1.2⟩
 .exact⟨hC.rf _,hC.rf _⟩
theorem SegD.eqv {a b:Array Keyed}{l h:Nat}(hC:CmpT L)(hs:SegD L a l h)(he:∀k,Eqv L (at0 b k) (at0 a k)):SegD L b l h:=
 fun i j h1 h2 h3=>hC.t (he j).1 (hC.t (hs i j h1 h2 h3) (he i).2)
theorem SegD.more {a:Array Keyed}{l x:Nat}(hC:CmpT L)(hs:SegD L a l x)(hle:l<x->Le L (at0 a x) (at0 a (x-1))):SegD L a l (x+1):=by
 intro i j hli hij hj
 by_cases hjx:j<x
 .exact hs i j hli hij hjx
 .have hj':j=x:=by omega
  subst hj'
  by_cases hi':i=j
  .subst hi';exact hC.rf _
  .exact hC.t (hle (by omega)) (hs i (j-1) hli (by omega) (by omega))
theorem Zg8 {a:Array Keyed}{lo n nr:Nat}{Q:DescSt->SortSt->Prop}(hC:CmpT L)(hP:PureC M A E s D L kd)(hk:kindOf st=kd)(hd:∀u∈a.toList,D u)(hn:lo+nr<=a.size)(h1:1<=n)(hnn:n<=nr)
  (hs:SegD L a lo (lo+n))
  (h:∀b m nq,Kept lo a b->n<=m->m<=nr->SegD L b lo (lo+m)->nq+1<=m->(∀i,lo+m-(nq+1)<=i->i<lo+m->Eqv L (at0 b i) (at0 b (lo+m-1)))->Q (none,m,nq) (setArr st b)):
  wpS M A E s (descO lo n nr) Q (setArr st a):=by
 unfold descO
 refine YDO (I:=fun x c st'=>∃b nq,st'=setArr st b/\c=(none,x,nq)/\Kept lo a b/\SegD L b lo (lo+x)/\nq+1<=x /\
   (∀i,lo+x-(nq+1)<=i->i<lo+x->Eqv L (at0 b i) (at0 b (lo+x-1)))) ?step ?fin ⟨a,0,rfl,rfl,Kept.rf _ _,hs,by omega,fun i h1 h2=>by rw[show i=lo+n-1 by omega];exact⟨hC.rf _,hC.rf _⟩⟩
 case fin=>
  rintro c st' ⟨b,nq,rfl,rfl,hK,hs',hq,he⟩
  rw[show max n nr=nr by omega]at hs' hq he ⊢
  exact h b nr nq hK hnn (YAJ _) hs' hq he
 case step=>
  rintro x c st' hax hxn ⟨b,nq,rfl,rfl,hK,hs',hq,he⟩
  have hbs:=hK.sz
  have hdb:=hK.d hd
  dsimp only
  refine YBE (Zfx hP hk hdb (by omega) (by omega) ?_)
  cases hl:L (at0 b (lo+x)) (at0 b (lo+x-1)) with
  | true=>
   have hmore:SegD L b lo (lo+x+1):=hs'.more hC fun _=>hC.le hl
   dsimp only
   by_cases hq0:nq>0
   .rw[YAW rfl,YAW hq0]
    refine YBE (Zdy (YBn ⟨_,0,rfl,rfl,hK.tr (Kept.mir (by omega) (by omega)),hmore.eqv hC (ZeG hC (by omega) he),by omega,fun i h1 h2=>?_⟩))
    rw[show i=lo+(x+1)-1 by omega];exact⟨hC.rf _,hC.rf _⟩
   .rw[YAW rfl,YAX hq0]
    refine YBn ⟨b,0,rfl,rfl,hK,hmore,by omega,fun i h1 h2=>?_⟩
    rw[show i=lo+(x+1)-1 by omega];exact⟨hC.rf _,hC.rf _⟩
  | false=>
   dsimp only
   rw[YAX YAF]
   refine YBE (Zfx hP hk hdb (by omega) (by omega) ?_)
   cases hg:L (at0 b (lo+x-1)) (at0 b (lo+x)) with
   | true=>exact YBn (h b x nq hK hax (by omega) hs' hq he)
   | false=>
    refine YBn ⟨b,nq+1,rfl,rfl,hK,hs'.more hC fun _=>hg,by omega,fun i h1 h2=>?_⟩
    rw[show lo+(x+1)-1=lo+x by omega]
    by_cases hix:i=lo+x
    .subst hix;exact⟨hC.rf _,hC.rf _⟩
    .have e:=he i (by omega) (by omega)
     exact⟨hC.t e.1 hl,hC.t hg e.2⟩
theorem ZlA {a:Array Keyed}{lo nr:Nat}{Q:Option Nat->SortSt->Prop}(hC:CmpT L)(hP:PureC M A E s D L kd)(hk:kindOf st=kd)(hd:∀u∈a.toList,D u)(hn:lo+nr<=a.size)(h1:1<=nr)
  (h:∀b m,Kept lo a b->1<=m->m<=nr->SegU L b lo (lo+m)->Q (some m) (setArr st b)):wpS M A E s (countRun' lo nr) Q (setArr st a):=by
 rw[countRun'_eq]
 refine YBE (wpS_mono (Zjc (Q:=fun c st'=>∃n,c=(none,n)/\st'=setArr st a/\1<=n/\n<=nr/\SegU L a lo (lo+n)/\(n=nr\/L (at0 a (lo+n)) (at0 a (lo+n-1))=true)) hC hP hk hd hn (YAJ 1) h1 (fun i j hl hij hj=>by have:i=j:=(by omega);subst this;exact hC.rf _) fun n a1 a2 a3 a4=>⟨n,rfl,rfl,a1,a2,a3,a4⟩) ?_)
 rintro c st' ⟨n,rfl,rfl,hn1,hn2,hsn,hor⟩
 dsimp only
 by_cases hnn:n=nr
 .rw[YAW (by simpa using hnn)]
  exact YBn (h a n (Kept.rf _ _) hn1 hn2 hsn)
 .rw[YAX (by simpa using hnn)]
  have hlt:=hor.resolve_left hnn
  by_cases hgt:n>1
  .rw[YAW hgt]
   refine YBE (Zfx hP hk hd (by omega) (by omega) ?_)
   cases hrose:L (at0 a lo) (at0 a (lo+n-1)) with
   | true=>
    dsimp only
    rw[YAW rfl]
    exact YBn (h a n (Kept.rf _ _) hn1 hn2 hsn)
   | false=>
    dsimp only
    rw[YAX YAF]
    have hall:∀k,lo<=k->k<lo+n->Eqv L (at0 a k) (at0 a (lo+n-1)):=by
     intro k hk1 hk2
     have a1:=hsn lo k (by omega) hk1 hk2
     have a2:=hsn k (lo+n-1) hk1 (by omega) (by omega)
     exact⟨a2,hC.t hrose a1⟩
    have hsd:SegD L a lo (lo+(n+1)):=by
     refine SegD.more hC (fun i j h1 h2 h3=>?_) fun _=>hC.le hlt
     replace h3:j<lo+n:=h3
     exact hC.t (hall j (by omega) h3).1 (hall i h1 (by omega)).2
    have hK:Kept lo a (mirror a lo (lo+n) ((lo+n-lo)/2)):=Kept.mir (by omega) (YAJ _)
    refine YBE (Zdy ?_)
    obtain⟨b,hb,hKb,hsb⟩:∃b,b=mirror a lo (lo+n) ((lo+n-lo)/2)/\Kept lo a b/\SegD L b lo (lo+(n+1)):=⟨_,rfl,hK,hsd.eqv hC (ZeG hC (by omega) hall)⟩
    rw[<-hb]
    have hbs:=Kept.sz hKb
    refine YBE (wpS_lift (YCr ⟨rfl,?_⟩))
    refine YBE (Zg8 hC hP hk (Kept.d hKb hd) (by omega) (by omega) (by omega) hsb fun c m nq hK hm1 hm2 hs' hq he=>?_)
    have hcs:=hK.sz
    have hdc:=hK.d (Kept.d hKb hd)
    dsimp only
    by_cases hq0:nq>0
    .rw[YAW hq0]
     have hK2:Kept lo c (mirror c (lo+m-(nq+1)) (lo+m) ((lo+m-(lo+m-(nq+1)))/2)):=Kept.mir (by omega) (by omega)
     refine YBE (Zdy ?_)
     refine Eq.mp ?_ (Zda (Q:=Q) hC hP hk (hK2.d hdc) (by rw[hK2.sz];omega) (by omega) hm2 (hs'.eqv hC (ZeG hC (by omega) he)) fun d k hc=>h d k (Kept.tr hKb (hK.tr (hK2.tr hc))))
     refine congrArg (fun m=>wpS _ _ _ _ m _ _) ?_
     unfold tailO ascO
     refine congrArg _ (funext fun _=>congrArg _ (funext fun c=>?_))
     obtain⟨r3,n3⟩:=c
     cases r3<;>rfl
    .rw[YAX hq0]
     refine Eq.mp ?_ (Zda (Q:=Q) hC hP hk hdc (by omega) (by omega) hm2 hs' fun d k hc=>h d k (Kept.tr hKb (hK.tr hc)))
     refine congrArg (fun m=>wpS _ _ _ _ m _ _) ?_
     unfold tailO ascO
     refine congrArg _ (funext fun _=>congrArg _ (funext fun c=>?_))
     obtain⟨r3,n3⟩:=c
     cases r3<;>rfl
  .rw[YAX hgt]
   obtain⟨b,hb,hKb,hsb⟩:∃b,b=a/\Kept lo a b/\SegD L b lo (lo+(n+1)):=⟨_,rfl,Kept.rf _ _,SegD.more hC (fun i j h1 h2 h3=>by
    replace h3:j<lo+n:=h3
    rw[show i=j by omega];exact hC.rf _) fun _=>hC.le hlt⟩
   rw[<-hb]
   have hbs:=Kept.sz hKb
   refine YBE (wpS_lift (YCr ⟨rfl,?_⟩))
   refine YBE (Zg8 hC hP hk (Kept.d hKb hd) (by omega) (by omega) (by omega) hsb fun c m nq hK hm1 hm2 hs' hq he=>?_)
   have hcs:=hK.sz
   have hdc:=hK.d (Kept.d hKb hd)
   dsimp only
   by_cases hq0:nq>0
   .rw[YAW hq0]
    have hK2:Kept lo c (mirror c (lo+m-(nq+1)) (lo+m) ((lo+m-(lo+m-(nq+1)))/2)):=Kept.mir (by omega) (by omega)
    refine YBE (Zdy ?_)
    refine Eq.mp ?_ (Zda (Q:=Q) hC hP hk (hK2.d hdc) (by rw[hK2.sz];omega) (by omega) hm2 (hs'.eqv hC (ZeG hC (by omega) he)) fun d k hc=>h d k (Kept.tr hKb (hK.tr (hK2.tr hc))))
    refine congrArg (fun m=>wpS _ _ _ _ m _ _) ?_
    unfold tailO ascO
    refine congrArg _ (funext fun _=>congrArg _ (funext fun c=>?_))
    obtain⟨r3,n3⟩:=c
    cases r3<;>rfl
   .rw[YAX hq0]
    refine Eq.mp ?_ (Zda (Q:=Q) hC hP hk hdc (by omega) (by omega) hm2 hs' fun d k hc=>h d k (Kept.tr hKb (hK.tr hc)))
    refine congrArg (fun m=>wpS _ _ _ _ m _ _) ?_
    unfold tailO ascO
    refine congrArg _ (funext fun _=>congrArg _ (funext fun c=>?_))
    obtain⟨r3,n3⟩:=c
    cases r3<;>rfl
end
noncomputable def Pd (L:Keyed->Keyed->Bool):Nat->List (Nat×Nat×Nat)->List (List Keyed)->Prop
 | _,[],[]=>True
 | o,t::ps,r::rs=>t.1=o/\t.2.1=r.length/\r≠[]/\r.Pairwise (Le L)/\Pd L (o+r.length) ps rs
 | _,_,_=>False
section
variable {M:Model}{A:Around}{E:Q33}{s:Shared}{D:Keyed->Prop}{L:Keyed->Keyed->Bool}{kd:SortKind}{st:SortSt}
structure SI (L:Keyed->Keyed->Bool)(kd:SortKind)(a0:List Keyed)(n:Nat)(Z:List Keyed)(st:SortSt):Prop where
 kind:kindOf st=kd
 fail:failedOf st=none
 perm:(arrOf st).toList.Perm a0
 runs:∃rs:List (List Keyed),(arrOf st).toList=rs.flatten++Z/\rs.flatten.length=n/\Pd L 0 (pendingOf st).toList rs
end
section
variable {M:Model}{A:Around}{E:Q33}{s:Shared}{D:Keyed->Prop}{L:Keyed->Keyed->Bool}{kd:SortKind}{st:SortSt}
end
section
variable {prog:Program}{w:World}{A:Around}{E:Q33}{s:Shared}{κ:KeyKind}
end
section
variable {prog:Program}{w:World}{A:Around}{E:Q33}{s:Shared}{κ:KeyKind}
end
section
variable {prog:Program}{w:World}{A:Around}{E:Q33}{s:Shared}
end
section
variable {X:Cx}{e:Expr}{ta:TA}{p p2 pos kpos:Pos}
end
theorem ZfC (b:Bool)(x y:Value):keyLt' (tuples' b) x y=(do
  let xs <-Builtin.List.listItems x
  let ys <-Builtin.List.listItems y
  for ((p,r),i) in (xs.toList.zip ys.toList).zipIdx do
   if !(<-eqBool p r) then return <-oneLt' (b&&i == 0) p r
  return xs.size<ys.size):=rfl
noncomputable def keyT (h:Heap):Value->Int×Q11
 | .ref a=>match h.get? a with
  | some o=>match o.data with
   | .seq xs _=>match xs.toList with
    | [.int n _,.str w _]=>(n,w.cps.toList)
    | _=>(0,[])
   | _=>(0,[])
  | none=>(0,[])
 | _=>(0,[])
noncomputable def ltP (a b:Int×Q11):Bool:=decide (a.1<b.1) || (a.1 == b.1&&decide (a.2<b.2))
noncomputable def ltT (h:Heap) (x y:Keyed):Bool:=ltP (keyT h x.1) (keyT h y.1)
theorem Zgl {a b:Int×Q11}:ltP a b=true↔a.1<b.1\/(a.1=b.1/\a.2<b.2):=by
 unfold ltP;simp
theorem ZiB {a b:Int×Q11}:ltP b a=false↔a.1<b.1\/(a.1=b.1/\¬b.2<a.2):=by
 rw[<-Bool.not_eq_true,Zgl]
 constructor
 .intro h
  by_cases e:a.1=b.1
  .exact .inr ⟨e,fun k=>h (.inr ⟨e.symm,k⟩)⟩
  .exact .inl (by
    have:¬b.1<a.1:=fun k=>h (.inl k)
    omega)
 .rintro (h | ⟨h,k⟩) (l | ⟨l,m⟩)
  .omega
  .omega
  .omega
  .exact k m
theorem Zla (h:Heap):CmpT (ltT h):=by
 refine⟨fun x y _ _ e=>?_,fun x y z _ _ _ e f=>?_⟩
 .unfold ltT at e ⊢
  rw[Zgl]at e
  rw[ZiB]
  rcases e with e | ⟨e,f⟩
  .exact .inl e
  .exact .inr ⟨e,List.lt_asymm f⟩
 .unfold ltT at e f ⊢
  rw[ZiB]at e f ⊢
  rcases e with e | ⟨e,e2⟩<;>rcases f with f | ⟨f,f2⟩
  .exact .inl (by omega)
  .exact .inl (by omega)
  .exact .inl (by omega)
  .exact .inr ⟨by omega,List.not_lt.mpr (List.le_trans (List.not_lt.mp e2) (List.not_lt.mp f2))⟩
noncomputable def IsT (h:Heap) (v:Value) (n:Int) (c:Q11):Prop:=∃a t w u e,v=.ref a/\h.get? a=some (seqObj "tuple" #[.int n t,.str w u] e)/\w.cps.toList=c
theorem IsT.key {h:Heap}{v:Value}{n:Int}{c:Q11}(k:IsT h v n c):keyT h v=(n,c):=by
 obtain⟨a,t,w,u,e,rfl,ho,rfl⟩:=k
 unfold keyT;dsimp only;rw[ho]
section
variable {prog:Program}{w:World}{A:Around}{E:Q33}{s:Shared}
theorem Zhv {a b:Str}{t u:Tok}{Q:Bool->Shared->Prop}(h:Q (decide (a.cps.toList<b.cps.toList)) s):wpAny (model prog w) A (oneLt' false (.str a t) (.str b u)) Q E s:=by
 rw[oneLt'_eq]
 simp only[YCA,if_false]
 refine YAA (wpAny_richCompare_same (typeIs_str s a t) (typeIs_str s b u) slot_str_lt (call_str_lt ⟨(fun z=>nomatch z),?_⟩))
 exact YBS h
theorem ZjE:PureC (model prog w) A E s (fun p=>∃n c,IsT s.heap p.1 n c) (ltT s.heap) (tuples' true):=by
 rintro st ⟨x,p⟩ ⟨y,r⟩ Q hk ⟨n,c,hx⟩ ⟨m,d,hy⟩ q
 have e:ltT s.heap (x,p) (y,r)=ltP (n,c) (m,d):=by unfold ltT;rw[hx.key,hy.key]
 rw[e]at q
 obtain⟨a,t,v,u,ep,rfl,ho,rfl⟩:=hx
 obtain⟨b,t2,v2,u2,ep2,rfl,ho2,rfl⟩:=hy
 rw[lt'_eq]
 refine YBE (wpS_get ?_)
 rw[hk,ZfC]
 refine YBE (wpS_lift (YCg (YAA (listItems_at ho rfl (YAA (listItems_at ho2 rfl ?_))))))
 show wpAny _ _ (forIn [((Value.int n t,Value.int m t2),0),((Value.str v u,Value.str v2 u2),1)] _ _ >>= _) _ _ _
 rw[List.forIn_cons]
 refine YAA (YAA (YAA (wpAny_eqBool_int ?_)))
 by_cases hnm:n=m
 .subst hnm
  rw[YAX (by simp)]
  refine YAH ?_
  dsimp only
  rw[List.forIn_cons]
  refine YAA (YAA (eqBool_str ?_))
  by_cases hv:v=v2
  .subst hv
   rw[YAX (by simp)]
   refine YAH ?_
   dsimp only
   rw[List.forIn_nil]
   refine YAH ?_
   dsimp only
   refine YAH ⟨rfl,YBn ?_⟩
   have:ltP (n,v.cps.toList) (n,v.cps.toList)=false:=by unfold ltP;simp[List.lt_irrefl]
   rw[this]at q
   simpa using q
  .rw[YAW (by simpa using hv)]
   refine YAA (Zhv (YAH (YAH ?_)))
   dsimp only
   refine YAH ⟨rfl,YBn ?_⟩
   have:ltP (n,v.cps.toList) (n,v2.cps.toList)=decide (v.cps.toList<v2.cps.toList):=by unfold ltP;simp
   rw[this]at q
   exact q
 .rw[YAW (by simpa using hnm)]
  refine YAA (oneLt_int (YAH (YAH ?_)))
  dsimp only
  refine YAH ⟨rfl,YBn ?_⟩
  have:ltP (n,v.cps.toList) (m,v2.cps.toList)=decide (n<m):=by unfold ltP;simp[hnm]
  rw[this]at q
  exact q
end
section
variable {prog:Program}{w:World}{A:Around}{E:Q33}{s:Shared}
theorem Zco:∀ {vs:List Value} {Q:List (Option Value)->Shared->Prop},(∀v∈vs,∃n c,IsT s.heap v n c) ->
  (∀us:List Value,us.length=vs.length->(∀u∈us,∃n t,u=.int n t)->Q (us.map some) s)->wpAny (model prog w) A (vs.mapM firstOfTuple') Q E s
 | [],Q,_,q=>by rw[List.mapM_nil];exact YAH (q [] rfl (by simp))
 | v::vs,Q,h,q=>by
  obtain⟨n,c,a,t,x,u,e,rfl,ho,rfl⟩:=h v (by simp)
  rw[List.mapM_cons]
  refine YAA ?_
  show wpAny _ _ (do
   if (<-typeOf (.ref a)) != .type "tuple" then return none
   return (<-Builtin.List.listItems (.ref a))[0]?) _ _ _
  refine YAA (wpAny_typeOf_ref ho ?_)
  rw[YAX (show ¬((Value.type "tuple" != Value.type "tuple")=true) by decide)]
  refine YAA (listItems_at ho rfl (YAH ?_))
  refine YAA (Zco (fun v hv=>h v (by simp[hv])) fun us hl hu=>YAH ?_)
  refine q (.int n t::us) (by simp[hl]) fun u hu'=>?_
  rcases YAY.mp hu' with rfl | hu'
  .exact⟨n,t,rfl⟩
  .exact hu u hu'
theorem Zgq {vs:List Value}{Q:SortKind->Shared->Prop}(hv:∀v∈vs,∃n c,IsT s.heap v n c)(hne:vs≠[])(q:Q (tuples' true) s):wpAny (model prog w) A (keyKind' vs.toArray) Q E s:=by
 rw[keyKind'_eq,List.mapM_toArray,map_eq_pure_bind,bind_assoc]
 refine YAA (Zco hv fun us hl hu=>?_)
 rw[pure_bind,YAW (by simp)]
 refine YAA (YCr ?_)
 have hI:IntsAre us (us.map numOf):=intsAre_map us hu
 have e1:((us.map some).toArray.filterMap id)=us.toArray:=by simp
 rw[e1,oneTypeOnly'_eq,List.mapM_toArray,mapM_typeOf_ints hI]
 cases us with
 | nil=>
  cases vs with
  | nil=>exact absurd rfl hne
  | cons v vs=>simp at hl
 | cons u us=>
  simp only[map_pure,pure_bind]
  have h0:(List.map (fun _=>Value.type "int") (u::us)).toArray[0]?=some (Value.type "int"):=by simp
  have hall:((List.map (fun _=>Value.type "int") (u::us)).toArray.all fun z=>z == Value.type "int")=true:=by
   rw[List.all_toArray,List.all_map,YAs]
   exact fun _ _=>rfl
  rw[h0]
  simp only[hall,if_true,pure_bind]
  exact YAH q
end
theorem Zhl (a g:Addr):Builtin.«list.sort» ⟨[.ref a],[(Str.ofString "key",.ref g)]⟩=(do
  let its <-Builtin.List.listItems (.ref a)
  Builtin.List.listUpdate (.ref a) fun _=>#[]
  let be <-seqEpoch a
  let hd <-newTuple its.toList
  let ks <-newList []
  holding [hd,ks] do
   rule "list.sort.key"
   for x in its do
    match <-(call (.ref g) [x]).attempt with
    | .ok k=>Builtin.List.listUpdate ks (·.push k)
    | .error e=>
     rule "list.sort.key-raised"
     let md <-Builtin.List.listItems ks
     Builtin.List.listUpdate ks fun _=>#[]
     letGo md.toList.reverse [e]
     Builtin.List.listUpdate (.ref a) fun _=>its
     throw e
   let kys <-Builtin.List.listItems ks
   let kind <-if its.size<2 then pure general' else keyKind' kys
   let ((),v) <-(if its.size<2 then pure () else sortRuns').run (SortSt.mk' kind (kys.zip its) #[] 7 none)
   Builtin.List.listUpdate ks fun _=>#[]
   letGo ((arrOf v).map (·.1)).toList (failedOf v).toList
   let tch:=(<-seqEpoch a) != be
   Builtin.List.listUpdate (.ref a) fun _=>(arrOf v).map (·.2)
   if let some e:=failedOf v then rule "list.sort.comparison-raised";throw e
   if tch then rule "list.sort.modified";raiseError "ValueError" "list modified during sort"
   ret .none):=rfl
noncomputable def Kp (h g:Heap):Prop:=∀b o,h.get? b=some o->g.get? b=some o
noncomputable def KeyCall (M:Model) (A:Around) (g:Addr) (vs:List Value) (kf:Value->Int×Q11) (s:Shared):Prop:=
 ∀(E:Q33) (s':Shared) (v:Value) (Q:Q33),v∈vs->Kp s.heap s'.heap->s'.gens=s.gens->s'.os=s.os ->
  (∀(s2:Shared) (k:Value),Kp s'.heap s2.heap->s2.gens=s'.gens->s2.os=s'.os->IsT s2.heap k (kf v).1 (kf v).2->Q k s2)->wpAny M A (call (.ref g) [v]) Q E s'
theorem IsT.kp {h g:Heap}{v:Value}{n:Int}{c:Q11}(k:IsT h v n c)(q:Kp h g):IsT g v n c:=by
 obtain⟨a,t,w,u,e,h1,h2,h3⟩:=k
 exact⟨a,t,w,u,e,h1,q _ _ h2,h3⟩
theorem IsT.up {h:Heap} {v:Value} {n:Int} {c:Q11} {K:Addr} {xs:Array Value} {m:Nat} {f:Obj->Obj} (k:IsT h v n c) (hK:h.get? K=some (seqObj "list" xs m)):IsT (h.update K f) v n c:=by
 obtain⟨a,t,w,u,e,h1,h2,h3⟩:=k
 refine⟨a,t,w,u,e,h1,?_,h3⟩
 rw[(YAk h K f).2 a ?_]
 .exact h2
 .rintro rfl
  rw[h2]at hK
  have:=congrArg Obj.cls (Option.some.inj hK)
  exact absurd (show Value.type "tuple"=Value.type "list" from this) (by decide)
noncomputable def KeysAre (h:Heap) (kf:Value->Int×Q11) (ks vs:List Value):Prop:=ks.length=vs.length/\∀(i:Nat) (k v:Value),ks[i]?=some k->vs[i]?=some v->IsT h k (kf v).1 (kf v).2
section
variable {prog:Program}{w:World}{A:Around}{E:Q33}{s:Shared}
theorem ZiJ {g K a:Addr}{vs:List Value}{kf:Value->Int×Q11}{oa:Obj}{Q:PUnit->Shared->Prop}{er:Value->Sem (ForInStep PUnit)}(hc:KeyCall (model prog w) A g vs kf s)(hK0:s.heap.get? K=none)(ha0:a≠K)(hN:vs.length<=sizeLine)
  (q:∀(s2:Shared) ks n,Kp s.heap s2.heap->s2.gens=s.gens->s2.os=s.os->s2.heap.get? K=some (seqObj "list" ks.toArray n)->KeysAre s2.heap kf ks vs->s2.heap.get? a=some oa->Q ⟨⟩ s2):
  ∀(l dn ks:List Value) (s':Shared) (n:Nat),vs=dn++l->Kp s.heap s'.heap->s'.gens=s.gens->s'.os=s.os->s'.heap.get? K=some (seqObj "list" ks.toArray n)->KeysAre s'.heap kf ks dn->s'.heap.get? a=some oa ->
   wpAny (model prog w) A (forIn l PUnit.unit fun x _=>do
    match <-(call (.ref g) [x]).attempt with
    | .ok k=>do
     Builtin.List.listUpdate (.ref K) (·.push k)
     pure (ForInStep.yield PUnit.unit)
    | .error e=>er e) Q E s'
 | [],dn,ks,s',n,hv,h1,h2,h3,h4,h5,h6=>by
  rw[YBC]at hv
  subst hv
  rw[List.forIn_nil]
  exact YAH (q s' ks n h1 h2 h3 h4 h5 h6)
 | x::l,dn,ks,s',n,hv,h1,h2,h3,h4,h5,h6=>by
  rw[List.forIn_cons]
  refine YAA (YAA (YCg (hc _ s' x _ (by rw[hv];simp) h1 h2 h3 fun s2 k k1 k2 k3 k4=>?_)))
  have hlen:ks.length<vs.length:=by rw[h5.1,hv];simp
  have hK2:=k1 _ _ h4
  refine YAA (listUpdate_at hK2 rfl (YAH ?_) (hsz:=by rw[YAP];omega) (hsz2:=by rw[Array.size_push,YAP];omega))
  dsimp only
  have sb:=YAk s2.heap K (Obj.mapSeq fun z=>z.push k)
  refine ZiJ hc hK0 ha0 hN q l (dn++[x]) (ks++[k]) _ _ (by rw[hv];simp) ?_ (k2.trans h2) (k3.trans h3) (by
   have:=get?_update_seq hK2 (fun z=>z.push k)
   rw[List.push_toArray]at this
   exact this) ?_ ?_
  .intro b o hb
   refine(sb.2 b ?_).trans (k1 b o (h1 b o hb))
   rintro rfl
   rw[hK0]at hb;cases hb
  .refine⟨by simp[h5.1],fun i k' v' e1 e2=>?_⟩
   by_cases hi:i<ks.length
   .rw[YAx hi]at e1
    rw[YAx (by rw[<-h5.1];exact hi)]at e2
    exact((h5.2 i k' v' e1 e2).kp k1).up hK2
   .have hi2:i=ks.length:=by
     have:=(YAD.mp e1).1
     simp at this;omega
    subst hi2
    rw[YAz (YAJ _),YCe]at e1
    rw[h5.1,YAz (YAJ _),YCe]at e2
    cases e1;cases e2
    exact k4.up hK2
  .exact(sb.2 a ha0).trans (k1 a oa h6)
end
section
variable {prog:Program}{w:World}{A:Around}{E:Q33}{s s0:Shared}
theorem Zf2 {h:Heap}{kf:Value->Int×Q11}{ks vs:List Value}(hk:KeysAre h kf ks vs){p:Keyed}(hp:p∈ks.zip vs):keyT h p.1=kf p.2/\∃n c,IsT h p.1 n c:=by
 obtain⟨i,hi,rfl⟩:=YAh hp
 rw[List.length_zip]at hi
 have h1:i<ks.length:=by omega
 have h2:i<vs.length:=by omega
 have:=hk.2 i ks[i] vs[i] (YAE h1) (YAE h2)
 rw[List.getElem_zip]
 exact⟨this.key,_,_,this⟩
end
section
variable {X:Cx}{k:Nat}{f C:Addr}{fd:FuncData}{ps:List Str}{sp:Sp}{dvs:List V}{ds:List Value}{x m:Str}{p pos apos:Pos}{e o:Expr}{es:List Expr}{ta:TE}{t:TA}
def ZlR (C:Addr)(m:Str)(sp:Sp)(dvs:List V)(ta:TE)(t:TA):TX:=fun σ H Q E=>ta σ H fun x H1=>∃a dx fs,x=.ref a/\H1 a=some (.ins C dx fs)/\fs.lookup m=none/\t σ H1 fun vs H2=>sp (x::(vs++dvs)) H2 Q E
def ZlS (C:Addr)(sp:Sp)(dvs:List V)(t:TA):TX:=fun σ H Q E=>t σ H fun vs H1=>∀x dx,H1 x=none->H1 dx=none->dx≠x->sp (.ref x::(vs++dvs)) (upd (upd H1 dx (.own x)) x (.ins C dx [])) (fun v H2=>v=.non/\Q (.ref x) H2) E
end
section
variable {X:Cx}
def Zmf (t u:TSx):TSx:=fun D Ex σ H=>t { D with nx:=fun σ1 H1=>u D Ex σ1 H1 } Ex σ H
end
section
variable {X:Cx}{pins:List (Addr×Obj)}{σ:St}{H:Hp}{s:Shared}
def ZlF:HO->Prop
 | .tup _=>False
 | .tbl _=>False
 | .own _=>False
 | _=>True
theorem Inv.shift {a:Addr}{u u':HO}(I:Inv X pins σ H s)(ha:H a=some u)(hu:ZlF u)(hf:∀o v,X.H₀ a≠some (.frz o v))(new:ObjOk X.prog X.w (upd H a u') s.heap a u'):Inv X pins σ (upd H a u') s:=by
 have nn:∀b,H b=none->b≠a:=fun b n z=>by rw[z,ha]at n;cases n
 refine⟨I.ok,I.os,I.bare,⟨I.base.keep,I.base.slot,fun b o e n hx=>?_,I.base.there,fun b xs e=>?_,fun b o v e=>?_,fun b ps e=>?_⟩,I.loc,I.cell,?_,fun x c e=>?_,fun p hp=>?_,fun b ob e=>?_,I.len⟩
 .have:=I.base.free b o e n hx
  rw[Zaf (nn b this)];exact this
 .have:=I.base.tups b xs e
  have ne:b≠a:=fun z=>by rw[z,ha]at this;cases this;exact hu
  rw[Zaf ne];exact this
 .have ne:b≠a:=fun z=>hf o v (by rw[<-z];exact e)
  rw[Zaf ne];exact I.base.frzs b o v e
 .obtain⟨m,q⟩:=I.base.tbls b ps e
  have ne:b≠a:=fun z=>by rw[z,ha]at q;cases q;exact hu
  exact⟨m,by rw[Zaf ne];exact q⟩
 .rw[Zaf (nn _ I.free)];exact I.free
 .rw[Zaf (nn _ (I.freeC x c e))];exact I.freeC x c e
 .obtain⟨e,n,r⟩:=I.pin p hp
  exact⟨e,by rw[Zaf (nn _ n)];exact n,r⟩
 .by_cases hb:b=a
  .subst hb
   rw[Zad]at e
   cases e
   exact new
  .rw[Zaf hb]at e
   refine(I.hok b ob e).stay (fun _ _ _ q=>q) (fun c q=>?_) fun c xs q=>?_
   .have ne:c≠a:=fun z=>by rw[z,ha]at q;cases q;exact hu
    rw[Zaf ne];exact q
   .have ne:c≠a:=fun z=>by rw[z,ha]at q;cases q;exact hu
    rw[Zaf ne];exact q
theorem Inv.notFrz {a:Addr}{u:HO}(I:Inv X pins σ H s)(ha:H a=some u)(hu:∀o v,u≠.frz o v):∀o v,X.H₀ a≠some (.frz o v):=fun o v e=>by
 have:=I.base.frzs a o v e
 rw[ha]at this
 exact hu o v (Option.some.inj this)
theorem Inv.freezeD {a:Addr}{kvs:List (Key×V)}(I:Inv X pins σ H s)(ha:H a=some (.dK kvs)):∃o es ep,o.data=.dict es ep/\s.heap.get? a=some o/\Inv X pins σ (upd H a (.frz o (.dK kvs))) s:=by
 obtain⟨z,y,vs,r,ob,es,ep,e,c⟩:=I.hok a _ ha
 refine⟨ob,es,ep,c.2.1,e,I.shift ha trivial (I.notFrz ha fun o v q=>by cases q) ⟨e,z,y,vs,r,ob,es,ep,e,c⟩⟩
theorem Inv.thawD {a:Addr}{o:Obj}{kvs:List (Key×V)}(I:Inv X pins σ H s)(ha:H a=some (.frz o (.dK kvs)))(hf:∀o v,X.H₀ a≠some (.frz o v)):Inv X pins σ (upd H a (.dK kvs)) s:=by
 obtain⟨e,z,y,vs,r,c⟩:=I.hok a _ ha
 exact I.shift ha trivial hf ⟨z,y,vs,r,c⟩
end
theorem Zo7 {P:Program}{w:World}{k:Key}{u:Value}(h:(Zax P w).is k u=true):RelV (kV k) u:=by
 cases k with
 | inl i=>
  have h':(intKind P w).is i u=true:=h
  cases u<;>first | (exact absurd h' YAF) | skip
  rename_i j t
  have e:(i == j)=true\/(j == i)=true:=by first | exact .inl h' | exact .inr h'
  rcases e with e | e
  .exact⟨t,by rw[beq_iff_eq.mp e]⟩
  .exact⟨t,by rw[beq_iff_eq.mp e]⟩
 | inr x=>
  have h':(strKind P w).is x u=true:=h
  cases u<;>first | (exact absurd h' YAF) | skip
  rename_i j t
  have e:(x == j)=true\/(j == x)=true:=by first | exact .inl h' | exact .inr h'
  rcases e with e | e
  .exact⟨t,by rw[beq_iff_eq.mp e]⟩
  .exact⟨t,by rw[beq_iff_eq.mp e]⟩
def Itd (o:Obj)(kvs:List (Key×V))(a:Addr):It:=
 ⟨fun i H=>H a=some (.frz o (.dK kvs))/\i<kvs.length,fun i H x H'=>H'=H/\∃p,kvs[i]?=some p/\x=kV p.1,fun i H=>H a=some (.frz o (.dK kvs))/\kvs.length<=i⟩
theorem KV.getK {kvs:List (Key×V)}{vs:List (Key×Value)}(r:KV kvs vs):∀ {i:Nat} {p:Key×V},kvs[i]?=some p->∃v,vs[i]?=some (p.1,v):=by
 intro i p h
 have hk:=r.keys
 have hl:=r.length
 have hi:i<vs.length:=by rw[<-hl];exact(YAD.mp h).1
 have e1:(kvs.map (·.1))[i]?=some p.1:=by rw[YAZ,h];rfl
 rw[hk,YAZ,YAE hi]at e1
 refine⟨vs[i].2,?_⟩
 rw[YAE hi]
 have:vs[i].1=p.1:=Option.some.inj e1
 rw[<-this]
theorem Zh3 {P:Program}{w:World}{K:Q44}{tg:Expr}{o:Obj}{es:Array DictEntry}{ep:Nat}{kvs:List (Key×V)}(a it:Addr)(hd:o.data=.dict es ep):Turn P w K tg (Itd o kvs a) [it] it (fun i h=>h.IsKeyIter it a i kvs.length ep) where
 mem:=by simp
 obj:=fun i h st b hb=>by
  have e:b=it:=by simpa using hb
  subst e
  obtain⟨o,e,c,d⟩:=st
  exact⟨o,e,fun v z=>by rw[d]at z;cases z⟩
 keep:=fun i h h' st k=>let ⟨o,ho,r⟩:=st;⟨o,k it (by simp) o ho,r⟩
 item:=by
  intro X hP hw hK hc i pins s σ H E I hf st hg
  subst hP hw hK
  obtain⟨ha,hi⟩:=hg
  obtain⟨e,z,y,vs,r,o',es',ep',e',c1,c2,c3⟩:=I.hok a _ ha
  rw[e]at e'
  cases e'
  rw[hd]at c2
  cases c2
  obtain⟨v,hv⟩:=r.getK (YAE hi)
  obtain⟨f0,f1,f2,f3,f4,f5⟩:=hf it (by simp)
  rw[r.length]at st
  refine wpAny_pyNext_dict_item st ⟨o,es,e,c1,hd,c3⟩ hv fun key h' hk st' sb=>?_
  have I1:Inv X pins σ H { s with heap:=h' }:=I.turned (t':=s.toks) (fun b o hb e=>(sb.2 b hb).trans e) f0 f1 f3 f4 f5
  obtain⟨oi,ei,ci,di⟩:=id st'
  rw[<-r.length]at st'
  exact⟨key,rfl,ZiR (s:={ s with heap:=h' }) ei ci di (by decide) ⟨kV kvs[i].1,H,I1,Zo7 hk,⟨rfl,_,YAE hi,rfl⟩,st',fun b hb=>(hf b hb).1⟩⟩
 done:=by
  intro X hP hw hK hc i pins s σ H E I hf st hg
  subst hP hw hK
  obtain⟨ha,hi⟩:=hg
  obtain⟨e,z,y,vs,r,o',es',ep',e',c1,c2,c3⟩:=I.hok a _ ha
  rw[e]at e'
  cases e'
  rw[hd]at c2
  cases c2
  obtain⟨f0,f1,f2,f3,f4,f5⟩:=hf it (by simp)
  rw[r.length]at st hi
  exact wpAny_pyNext_dict_end (I.ok.hd hc) st ⟨o,es,e,c1,hd,c3⟩ (YBc hi) fun h' eb=>⟨rfl,I.turned (t':=s.toks) (fun b o hb e=>eb b o hb e) f0 f1 f3 f4 f5⟩
 self:=fun _ _ _ _ _ st h=>wpAny_pyIter_keyiter st h
section
variable {X:Cx}{tg:Expr}
def Zm0 (td:TE):TI:=fun σ H R=>td σ H fun x H1=>∃a kvs,x=.ref a/\H1 a=some (.dK kvs)/\∀o,R (Itd o kvs a) (upd H1 a (.frz o (.dK kvs)))
theorem Zct {l:Expr}{tl:TE}(hl:PE X l tl):PI X tg l (Zm0 tl):=by
 intro pins s σ H R I h
 refine thn (hl pins s σ H _ I h) fun v s1 ⟨x,H1,I1,r1,q1⟩=>?_
 obtain⟨a,kvs,e,hq,q⟩:=q1
 subst e
 cases r1
 obtain⟨z,y,vs,r,_⟩:=id (I1.hok a _ hq)
 obtain⟨o,es,ep,hd,ho,I2⟩:=I1.freezeD hq
 obtain⟨_,z2,y2,vs2,r2,o',es',ep',e',c1,c2,c3⟩:=I2.hok a _ Zad
 rw[ho]at e'
 cases e'
 rw[hd]at c2
 cases c2
 refine wpAny_pyIter_dict y2 ⟨o,es,ho,c1,hd,c3⟩ ?_
 refine⟨s1.heap.objs.size,[s1.heap.objs.size],_,_,_,rfl,I2.kept (t':=s1.toks) fun b o e=>YAC _ e,Zh3 (kvs:=kvs) a _ hd,⟨_,YAQ _ rfl,rfl,by rw[r2.length];rfl⟩,fun b hb=>?_,q o⟩
 have e:b=s1.heap.objs.size:=by simpa using hb
 subst e
 exact I2.fpOk (YAJ _) (I2.hok.fresh (YAJ _))
def Thw (a:Addr)(P:Hp->Prop)(H':Hp):Prop:=∃o kvs,H' a=some (.frz o (.dK kvs))/\P (upd H' a (.dK kvs))
def thD (a:Addr)(D:Ends):Ends:={ nx:=fun σ H=>Thw a (D.nx σ) H,rt:=fun v H=>Thw a (D.rt v) H,bk:=fun σ H=>Thw a (D.bk σ) H,ct:=fun σ H=>Thw a (D.ct σ) H }
def Zma (ts:TS):TS:=fun D σ H=>∃a kvs,H a=some (.dK kvs)/\ts (thD a D) σ H
def ZlN (t:TE):TE:=fun σ H Q=>∃a kvs,H a=some (.dK kvs)/\t σ H fun v H'=>Thw a (Q v) H'
theorem Zcs {st:Stmt}{ts:TS}(h:PS X st ts):PS X st (Zma ts):=by
 intro pins s σ H D I ⟨a,kvs,ha,hh⟩
 have nf:=I.notFrz ha fun o v q=>by cases q
 refine YBN (h pins s σ H _ I hh) (fun f s1 q=>?_) fun _ _ z=>z
 cases f with
 | next=>obtain⟨σ1,H1,I1,o,k1,e1,q1⟩:=q;exact⟨σ1,_,I1.thawD e1 nf,q1⟩
 | brk=>obtain⟨σ1,H1,I1,o,k1,e1,q1⟩:=q;exact⟨σ1,_,I1.thawD e1 nf,q1⟩
 | cont=>obtain⟨σ1,H1,I1,o,k1,e1,q1⟩:=q;exact⟨σ1,_,I1.thawD e1 nf,q1⟩
 | ret u=>obtain⟨v,σ1,H1,I1,r,o,k1,e1,q1⟩:=q;exact⟨v,σ1,_,I1.thawD e1 nf,r,q1⟩
theorem Zk0 {e:Expr}{t:TE}(h:PE X e t):PE X e (ZlN t):=by
 intro pins s σ H Q I ⟨a,kvs,ha,hh⟩
 have nf:=I.notFrz ha fun o v q=>by cases q
 refine YBN (h pins s σ H _ I hh) (fun u s1 ⟨v,H1,I1,r,o,k1,e1,q1⟩=>⟨v,_,I1.thawD e1 nf,r,q1⟩) fun _ _ z=>z
end
section
variable {g:TG}{tb:TS}{D:Ends}{σ:St}{H:Hp}{o:Obj}{kvs:List (Key×V)}{a:Addr}
theorem ForRun.dict (Pv:Nat->St->Hp->Prop)(h0:Pv 0 σ H)(hl:∀i σ H,Pv i σ H->H a=some (.frz o (.dK kvs)))
  (hs:∀i p σ H,kvs[i]?=some p->Pv i σ H->g (kV p.1) σ H fun σ2 H2=>tb { D with nx:=Pv (i+1),ct:=Pv (i+1),bk:=D.nx } σ2 H2) (hd:∀σ H,Pv kvs.length σ H->D.nx σ H):ForRun (Itd o kvs a) g tb D σ H:=by
 refine⟨fun i m σ H=>m=kvs.length-i/\i<=kvs.length/\Pv i σ H,⟨kvs.length,by simp,YAg _,h0⟩,?_⟩
 rintro i m σ H ⟨rfl,hi,p⟩
 have q:=hl i σ H p
 by_cases hlt:i<kvs.length
 .refine .inr ⟨⟨q,hlt⟩,Pv (i+1),fun σ' H' p'=>⟨kvs.length-(i+1),by omega,rfl,hlt,p'⟩,fun x H' y=>?_⟩
  obtain⟨e,p2,e2,e3⟩:=y
  subst e e3
  exact hs i p2 σ _ e2 p
 .have e:i=kvs.length:=by omega
  subst e
  exact .inl ⟨⟨q,YAJ _⟩,hd σ H p⟩
end
theorem Same.thaw {H H1 H2:Hp}{a:Addr}{o:Obj}{kvs:List (Key×V)}(ha:H a=some (.dK kvs))(s:Same (upd H a (.frz o (.dK kvs))) H2):Same H (upd H2 a (.dK kvs)):=fun b u hb=>by
 by_cases e:b=a
 .rw[e]at hb ⊢;rw[Zad,<-hb,ha]
 .rw[Zaf e];exact s b u (by rw[Zaf e];exact hb)
section
variable {prog:Program}{w:World}{A:Around}{E:Q33}{s:Shared}
end
def kTx (l:Q11):Key:=.inr ⟨l.toArray⟩
theorem ZeL (l:Q11):kV (kTx l)=tx l:=rfl
section
variable {X:Cx}
end
def wordsOf (l:Q11)(n:Nat):Q22:=ZbT (ddl ((List.range (l.length+1-n)).map fun i=>(l.drop i).take n))
theorem Zcn {x:Q11}:∀(ls acc:Q22),x∈ls.foldl addT acc↔x∈acc\/x∈ls
 | [],acc=>by simp
 | y::ls,acc=>by
  rw[YCm,Zcn ls]
  have h:x∈addT acc y↔x∈acc\/x=y:=by
   unfold addT
   split
   .rename_i h
    constructor
    .exact .inl
    .rintro (q | q)
     .exact q
     .rw[q];exact h
   .rw[YAe,YAO]
  rw[h,YAY,or_assoc]
theorem Zk9 {x:Q11}{ls:Q22}:x∈ddl ls↔x∈ls:=by
 unfold ddl
 rw[Zcn]
 simp
end L2
namespace L2
open PySem PySem.Spec PyProof.Rows
open PySem.W (Frag)
def AtW (l w:Q11)(i:Nat):Prop:=i+w.length<=l.length/\(l.drop i).take w.length=w
def Inf (w l:Q11):Prop:=∃i,AtW l w i
theorem Ze8 (l w:Q11)(i:Nat):StrLaws.At ⟨l.toArray⟩ ⟨w.toArray⟩ (⟨l.toArray⟩:Str).length i↔AtW l w i:=by
 have e1:(⟨l.toArray⟩:Str).length=l.length:=Zf7 l
 have e2:(⟨w.toArray⟩:Str).length=w.length:=Zf7 w
 unfold StrLaws.At AtW Builtin.Str.subAt
 rw[e1,e2]
 refine and_congr_right fun h=>?_
 have e3:l.toArray.extract i (i+w.length)=((l.drop i).take w.length).toArray:=by
  apply Array.ext'
  simp only[List.extract_toArray,List.extract_eq_take_drop]
  have:i+w.length-i=w.length:=by omega
  rw[this]
 show (l.toArray.extract i (i+w.length) == w.toArray)=true↔_
 rw[e3,beq_iff_eq]
 exact⟨fun z=>by simpa using congrArg Array.toList z,fun z=>by rw[z]⟩
theorem AtW.nil (l:Q11):AtW l [] 0:=⟨by simp,by simp⟩
theorem Inf.nil (l:Q11):Inf [] l:=⟨0,AtW.nil l⟩
theorem Inf.len {w l:Q11}(h:Inf w l):w.length<=l.length:=by obtain⟨i,h,_⟩:=h;omega
theorem Inf.mem {w l:Q11}(h:Inf w l){c:Nat}(hc:c∈w):c∈l:=by
 obtain⟨i,_,h⟩:=h
 rw[<-h]at hc
 exact YCX (YBF hc)
theorem Inf.refl (l:Q11):Inf l l:=⟨0,by simp,by simp⟩
theorem AtW.trans {u v w:Q11}{i j:Nat}(h1:AtW v u i)(h2:AtW w v j):AtW w u (j+i):=by
 obtain⟨a1,b1⟩:=h1
 obtain⟨a2,b2⟩:=h2
 refine⟨by omega,?_⟩
 have e:(w.drop (j+i)).take u.length=((((w.drop j).take v.length).drop i).take u.length):=by
  rw[YDS,YCZ,List.take_take]
  congr 1
  omega
 rw[e,b2,b1]
theorem Inf.trans {u v w:Q11}(h1:Inf u v)(h2:Inf v w):Inf u w:=by
 obtain⟨i,h1⟩:=h1
 obtain⟨j,h2⟩:=h2
 exact⟨_,h1.trans h2⟩
theorem ZjJ (w:Q11):Inf w.tail w:=by
 cases w with
 | nil=>exact Inf.nil _
 | cons c w=>exact⟨1,by simp;omega,by simp⟩
theorem ZjK (w:Q11):Inf w.dropLast w:=⟨0,by simp,by rw[YCx,YBV,List.dropLast_eq_take]⟩
theorem Zlk {v w:Q11}(h:Inf v w)(hl:v.length<w.length):Inf v w.dropLast\/Inf v w.tail:=by
 obtain⟨i,h1,h2⟩:=h
 cases i with
 | zero=>
  refine .inl ⟨0,by rw[YBV];omega,?_⟩
  rw[YCx]at h2 ⊢
  rw[List.dropLast_eq_take,List.take_take]
  have:min v.length (w.length-1)=v.length:=by omega
  rw[this];exact h2
 | succ i=>
  refine .inr ⟨i,by rw[YDh];omega,?_⟩
  rw[List.drop_tail];exact h2
theorem ZmU {v w:Q11}(h:Inf v w)(hl:w.length<=v.length):v=w:=by
 obtain⟨i,h1,h2⟩:=h
 have hi:i=0:=by omega
 subst hi
 rw[YCx,YCJ hl]at h2
 exact h2.symm
theorem Zbh {l x:Q11}{n:Nat}(hn:n<=l.length+1):x∈wordsOf l n↔x.length=n/\Inf x l:=by
 unfold wordsOf
 rw[(Za8 _).mem_iff,Zk9,YAc]
 constructor
 .rintro⟨i,hi,rfl⟩
  have hi:=YAu.mp hi
  have hl:((l.drop i).take n).length=n:=by rw[YAd,YAn];omega
  exact⟨hl,i,by omega,by rw[hl]⟩
 .rintro⟨rfl,i,h1,h2⟩
  exact⟨i,YAu.mpr (by omega),h2⟩
theorem Zdo (l:Q11)(n:Nat):(wordsOf l n).length<=l.length+1:=by
 unfold wordsOf
 rw[(Za8 _).length_eq]
 have:∀(ls acc:Q22),(ls.foldl addT acc).length<=acc.length+ls.length:=by
  intro ls
  induction ls with
  | nil=>intro acc;simp
  | cons x ls ih=>
   intro acc
   rw[YCm]
   refine YAK (ih _) ?_
   unfold addT
   split<;>simp<;>omega
 have h:=this ((List.range (l.length+1-n)).map fun i=>(l.drop i).take n) []
 rw[YAB,YBJ]at h
 unfold ddl
 simp only[YCl]at h
 omega
def ZcL (sh st:Q22)(h:Q11)(c:Nat):Bool:=decide ((h++[c]).tail∈sh)&&!decide (h++[c]∈st)
def Zgp (sh st:Q22)(m h:Q11):Q22:=(m.filter (ZcL sh st h)).map fun c=>h++[c]
def ZfB (sh st:Q22)(m:Q11):Q22:=sh.flatMap (Zgp sh st m)
def Zc5 (l m:Q11)(i:Nat):Q22:=(List.range i).flatMap fun k=>ZfB (wordsOf l k) (wordsOf l (k+1)) m
def Zbf (l m:Q11):Q22:=Zc5 l m (l.length+1)
theorem ZdM (l m:Q11)(i:Nat):Zc5 l m (i+1)=Zc5 l m i++ZfB (wordsOf l i) (wordsOf l (i+1)) m:=by
 unfold Zc5
 rw[YBx,YDJ,List.flatMap_singleton]
theorem ZfA (sh st:Q22)(m h:Q11):(Zgp sh st m h).length<=m.length:=by unfold Zgp;rw[YAB];exact YAt _ _
theorem Zbi {α β:Type}{f:α->List β}{b:Nat}(h:∀x,(f x).length<=b):∀l:List α,(l.flatMap f).length<=l.length*b
 | []=>by simp
 | x::l=>by
  rw[YDZ,YAI,YAf,Nat.succ_mul]
  have:=h x
  have:=Zbi h l
  omega
theorem ZiI (sh st:Q22)(m:Q11):(ZfB sh st m).length<=sh.length*m.length:=Zbi (ZfA sh st m) sh
theorem Zfw {sh st:Q22}{m w:Q11}:w∈ZfB sh st m↔∃h c,h∈sh/\c∈m/\w=h++[c]/\w.tail∈sh/\w∉st:=by
 unfold ZfB Zgp ZcL
 simp only[YCH,YAc,YBA,YAU,Bool.not_eq_true',decide_eq_true_iff,decide_eq_false_iff_not]
 constructor
 .rintro⟨h,hh,c,⟨hc,h1,h2⟩,rfl⟩;exact⟨h,c,hh,hc,rfl,h1,h2⟩
 .rintro⟨h,c,hh,hc,rfl,h1,h2⟩;exact⟨h,hh,c,⟨hc,h1,h2⟩,rfl⟩
structure Miss (l w:Q11):Prop where
 ne:w≠[]
 init:Inf w.dropLast l
 tail:Inf w.tail l
 no:¬Inf w l
theorem ZbI {l m w:Q11}:w∈Zbf l m↔Miss l w/\∃c∈m,w.getLast?=some c:=by
 unfold Zbf Zc5
 rw[YCH]
 constructor
 .rintro⟨k,hk,hw⟩
  have hk:=YAu.mp hk
  obtain⟨h,c,h1,hc,rfl,h3,h4⟩:=Zfw.mp hw
  rw[Zbh (by omega)]at h1 h3
  refine⟨⟨by simp,by simpa using h1.2,h3.2,fun z=>h4 ((Zbh (by omega)).mpr ⟨by simp[h1.1],z⟩)⟩,c,hc,by simp⟩
 .rintro⟨⟨ne,hi,ht,hn⟩,c,hc,hl⟩
  have e:w.dropLast++[c]=w:=by
   rw[YDB ne]at hl
   have h:=YDF ne
   rw[Option.some.inj hl]at h
   exact h
  have hlen:w.dropLast.length=w.length-1:=YBV
  have h1:1<=w.length:=YCd.mpr ne
  refine⟨w.length-1,YAu.mpr (by have:=hi.len;omega),Zfw.mpr ⟨w.dropLast,c,?_,hc,e.symm,?_,?_⟩⟩
  .rw[Zbh (by have:=hi.len;omega)];exact⟨hlen,hi⟩
  .rw[Zbh (by have:=hi.len;omega)];exact⟨YDh,ht⟩
  .rw[Zbh (by have:=hi.len;omega)];exact fun z=>hn z.2
theorem ZeJ {l m:Q11}:∀(n:Nat) (w:Q11),w.length=n->(∀c∈w,c∈m)->¬Inf w l->∃v,v∈Zbf l m/\Inf v w:=by
 intro n
 induction n with
 | zero=>
  intro w hw _ hn
  have:w=[]:=YAw.mp hw
  rw[this]at hn
  exact absurd (Inf.nil l) hn
 | succ n ih=>
  intro w hw hm hn
  have ne:w≠[]:=fun e=>by rw[e]at hw;simp at hw
  by_cases hi:Inf w.dropLast l
  .by_cases ht:Inf w.tail l
   .refine⟨w,ZbI.mpr ⟨⟨ne,hi,ht,hn⟩,w.getLast ne,hm _ (List.getLast_mem ne),YDB ne⟩,Inf.refl w⟩
   .obtain⟨v,h1,h2⟩:=ih w.tail (by rw[YDh];omega) (fun c hc=>hm c (List.mem_of_mem_tail hc)) ht
    exact⟨v,h1,h2.trans (ZjJ w)⟩
  .obtain⟨v,h1,h2⟩:=ih w.dropLast (by rw[YBV];omega) (fun c hc=>hm c (YBF (by rw[<-List.dropLast_eq_take];exact hc))) hi
   exact⟨v,h1,h2.trans (ZjK w)⟩
theorem same_upd3' {H H2:Hp}{e:Addr}{o':HO}(h:H e=none)(s:Same H H2):Same H (upd H2 e o'):=fun b u hb=>by
 have:b≠e:=fun z=>by rw[z,h]at hb;cases hb
 rw[Zaf this];exact s _ _ hb
section
variable {tt:TT}{te:TE}{Q:VK}{τ0:St}{H:Hp}{K:Frag}{a:Addr}{xs:List V}
theorem CompRun.listL (b:Nat->Bool)(f:Nat->V)(hz:xs.length<=100000)(hx:SqL K H a xs)
  (ht:∀i H' Q' (h:i<xs.length),Same H H'->(∀H'',Same H' H''->Q' (b i) H'')->tt (τ0.set 0 (some (xs.getD i .non))) H' Q')
  (he:∀i H' Q' (h:i<xs.length),b i=true->Same H H'->(∀H'',Same H' H''->Q' (f i) H'')->te (τ0.set 0 (some (xs.getD i .non))) H' Q')
  (hQ:∀p H',Same H H'->H p=none->H' p=some (.lst (((List.range xs.length).filter b).map f))->Q (.ref p) H'):CompRun (Itl K a) τ0 (Zcx 0) tt te H Q:=by
 intro acc ha
 refine⟨fun i m τ H2=>i<=xs.length/\m=xs.length-i/\(∀w:Option V,τ.set 0 w=τ0.set 0 w)/\Same H H2/\H2 acc=some (.lst (((List.range i).filter b).map f)),⟨xs.length,YAg _,rfl,fun _=>rfl,Zao ha,Zad⟩,?_⟩
 rintro i m τ H2 ⟨hi,rfl,hτ,hs,hacc⟩
 by_cases hlt:i<xs.length
 .refine .inr ⟨⟨xs,xs[i],hs.seq hx,by simp[hlt]⟩,fun τ' H'=>(∀w:Option V,τ'.set 0 w=τ0.set 0 w)/\Same H H'/\H' acc=some (.lst (((List.range (i+1)).filter b).map f)),fun τ' H' q=>⟨xs.length-(i+1),by omega,hlt,rfl,q⟩,fun x H3 y=>?_⟩
  obtain⟨rfl,y⟩:=y
  have ex:x=xs.getD i .non:=by rw[YAG,y xs (hs.seq hx)];rfl
  subst ex
  show tt (τ.set 0 (some (xs.getD i .non))) _ _
  rw[hτ]
  have hτ':∀w:Option V,(τ0.set 0 (some (xs.getD i .non))).set 0 w=τ0.set 0 w:=fun w=>by rw[List.set_set]
  refine ht i _ _ hlt hs fun H4 s4=>?_
  cases hb:b i with
  | false=>
   rw[YAX YAF]
   refine⟨hτ',hs.trans s4,?_⟩
   rw[s4 _ _ hacc,YBx,YBO]
   simp[hb]
  | true=>
   rw[YAW rfl]
   refine he i _ _ hlt hb (hs.trans s4) fun H5 s5=>⟨_,s5 _ _ (s4 _ _ hacc),?_,hτ',same_upd3' ha ((hs.trans s4).trans s5),?_⟩
   .rw[YAB]
    have:=YAt b (List.range i)
    rw[YBJ]at this
    rw[sizeLine_eq];omega
   .rw[Zad,YBx,YBO]
    simp[hb]
 .have e:i=xs.length:=by omega
  subst e
  exact .inl ⟨⟨xs,hs.seq hx,YAJ _⟩,hQ acc H2 hs ha hacc⟩
theorem CompRun.tups (P:Nat->List V->Prop)(hz:xs.length<=100000)(hx:SqL K H a xs)
  (he:∀i H' Q' (h:i<xs.length),Same H H'->(∀p vs H'',Same H' H''->H'' p=some (.tup vs)->P i vs->Q' (.ref p) H'')->te (τ0.set 0 (some (xs.getD i .non))) H' Q')
  (hQ:∀p ys H',Same H H'->H p=none->H' p=some (.lst ys)->ys.length=xs.length->(∀i y,ys[i]?=some y->∃t vs,y=.ref t/\H' t=some (.tup vs)/\P i vs)->Q (.ref p) H'):CompRun (Itl K a) τ0 (Zcx 0) tAll te H Q:=by
 intro acc ha
 refine⟨fun i m τ H2=>i<=xs.length/\m=xs.length-i/\(∀w:Option V,τ.set 0 w=τ0.set 0 w)/\Same H H2/\∃ys,H2 acc=some (.lst ys)/\ys.length=i/\∀i y,ys[i]?=some y->∃t vs,y=.ref t/\H2 t=some (.tup vs)/\P i vs,
  ⟨xs.length,YAg _,rfl,fun _=>rfl,Zao ha,[],Zad,rfl,fun i y h=>by simp at h⟩,?_⟩
 rintro i m τ H2 ⟨hi,rfl,hτ,hs,ys,hacc,hlen,hall⟩
 by_cases hlt:i<xs.length
 .refine .inr ⟨⟨xs,xs[i],hs.seq hx,by simp[hlt]⟩,fun τ' H'=>(∀w:Option V,τ'.set 0 w=τ0.set 0 w)/\Same H H'/\∃ys,H' acc=some (.lst ys)/\ys.length=i+1/\∀i y,ys[i]?=some y->∃t vs,y=.ref t/\H' t=some (.tup vs)/\P i vs,fun τ' H' q=>⟨xs.length-(i+1),by omega,hlt,rfl,q⟩,fun x H3 y=>?_⟩
  obtain⟨rfl,y⟩:=y
  have ex:x=xs.getD i .non:=by rw[YAG,y xs (hs.seq hx)];rfl
  subst ex
  unfold Zcx tAll
  dsimp only
  rw[YAW rfl,hτ]
  have hτ':∀w:Option V,(τ0.set 0 (some (xs.getD i .non))).set 0 w=τ0.set 0 w:=fun w=>by rw[List.set_set]
  refine he i _ _ hlt hs fun p vs H5 s5 hp hP=>⟨ys,s5 _ _ hacc,by rw[hlen,sizeLine_eq];omega,hτ',same_upd3' ha (hs.trans s5),ys++[.ref p],Zad,by simp[hlen],fun j z hz'=>?_⟩
  have ne:∀ {t:Addr} {us:List V},H5 t=some (.tup us)->t≠acc:=fun h e=>by rw[e,s5 _ _ hacc]at h;cases h
  by_cases hj:j<ys.length
  .rw[YAx hj]at hz'
   obtain⟨t,us,rfl,h1,h2⟩:=hall j z hz'
   have h1':=s5 _ _ h1
   exact⟨t,us,rfl,by rw[Zaf (ne h1')];exact h1',h2⟩
  .rw[YAz (by omega)]at hz'
   have hj':j-ys.length=0:=by
    rcases Nat.eq_zero_or_pos (j-ys.length) with h | h
    .exact h
    .rw[YBc (by simp;omega)]at hz';cases hz'
   rw[hj']at hz'
   cases hz'
   have:j=i:=by omega
   exact⟨p,vs,rfl,by rw[Zaf (ne hp)];exact hp,by rw[this];exact hP⟩
 .have e:i=xs.length:=by omega
  subst e
  exact .inl ⟨⟨xs,hs.seq hx,YAJ _⟩,hQ acc ys H2 hs ha hacc hlen hall⟩
end
def infB (w l:Q11):Bool:=(List.range (l.length+1)).any fun i=>decide (i+w.length<=l.length)&&decide ((l.drop i).take w.length=w)
theorem Za3 {w l:Q11}:infB w l=true↔Inf w l:=by
 unfold infB Inf AtW
 rw[YBa]
 constructor
 .rintro⟨i,_,h⟩
  rw[YAU,decide_eq_true_eq,decide_eq_true_eq]at h
  exact⟨i,h⟩
 .rintro⟨i,h1,h2⟩
  refine⟨i,YAu.mpr (by omega),?_⟩
  rw[YAU,decide_eq_true_eq,decide_eq_true_eq]
  exact⟨h1,h2⟩
theorem ZjL {w l:Q11}:infB w l=false↔¬Inf w l:=by rw[<-Za3,Bool.not_eq_true]
theorem ZjN (w l:Q11):(!(Builtin.Str.occurrences ⟨l.toArray⟩ ⟨w.toArray⟩ 0 (⟨l.toArray⟩:Str).length 1).isEmpty)=infB w l:=by
 rw[YAv,StrLaws.found_iff,Za3]
 exact⟨fun ⟨i,h⟩=>⟨i,(Ze8 l w i).mp h⟩,fun ⟨i,h⟩=>⟨i,(Ze8 l w i).mpr h⟩⟩
section
variable {X:Cx}
theorem ZgX:OpR X (compareOp .In) (fun x y H Q=>∃w l,x=tx w/\y=tx l/\Q (.bl (infB w l)) H):=by
 rintro pins s σ H x y v u Q I rx ry ⟨w,l,rfl,rfl,q⟩
 refine Zfm pins s σ H _ _ v u Q I rx ry ⟨_,_,rfl,rfl,?_⟩
 rw[ZjN];exact q
end
end L2
namespace L2
open PySem PySem.Spec PyProof.Rows
section
variable {X:Cx}
theorem Zi2 (hc:X.calm=true):ZbR X (.builtin "any") (fun xs H Q=>∃(a:Addr) (bs:List Bool),xs=[.ref a]/\H a=some (.lst (bs.map V.bl))/\Q (.bl (bs.any id)) H):=by
 rintro pins s σ H xs us Q I r ⟨a,bs,rfl,ha,q⟩
 obtain⟨u,rfl,ru⟩:=r.one
 cases ru
 obtain⟨_,its,n,r',hlen,e⟩:=I.lstM ha
 have hl:s.heap.IsList a its.toArray:=YCb e
 have hne:a≠s.heap.objs.size:=YAi (YAL e)
 refine call_any_walkS (YCC hl ?_)
 have hL:its.toArray.size=bs.length:=by rw[YAP,<-r'.length,YAB]
 have W:=(Walks.list (prog:=X.prog) (w:=X.w) (A:=X.A.in1) (by simpa using I.ok.hd hc) s.heap.objs.size a hne its.toArray).toS
 refine⟨s.heap.objs.size,_,_,_,_,_,_,fun i=>bs.getD i true,rfl,W,⟨⟨_,YAQ _ rfl,rfl,rfl⟩,hl.push _⟩,?_,fun s' hm=>?_⟩
 .intro i v s Q E hv hQ
  have e':its[i]?=some v:=by simpa using hv
  obtain⟨x,hx,rx⟩:=Zdr r' e'
  rw[YAZ]at hx
  cases hb:bs[i]? with
  | none=>rw[hb]at hx;cases hx
  | some b=>
   rw[hb]at hx
   cases hx
   obtain rfl:v=Value.bool b:=rx
   have:bs.getD i true=b:=by rw[YAG,hb];rfl
   have hQ':Q (bs.getD i true) s:=hQ
   rw[this]at hQ'
   exact YBS hQ'
 .have ea:(List.range its.toArray.size).any (fun i=>bs.getD i true)=bs.any id:=by
   rw[hL]
   rw[YAv,YBa,YBa]
   constructor
   .rintro⟨i,hi,h⟩
    have hi:=YAu.mp hi
    rw[YAG,YAE hi]at h
    exact⟨_,YBM hi,h⟩
   .rintro⟨b,hb,h⟩
    obtain⟨i,hi,rfl⟩:=YAh hb
    refine⟨i,YAu.mpr hi,?_⟩
    rw[YAG,YAE hi]
    exact h
  rw[ea]
  have I2:Inv X pins σ H s':=I.call' (ch:=[]) hm.os (Un.kept fun b o q=>hm.heap b o (fun z=>?_) (YAC _ q)) (I.hok.kept fun b o q=>hm.heap b o (fun z=>?_) (YAC _ q)) (by rw[show s'.gens=s.gens from hm.gens];exact I.bare) (fun b hb=>by cases hb)
  .exact⟨.bl _,H,I2,rfl,q⟩
  .have z:b=s.heap.objs.size:=by simpa using z
   rw[z]at q;exact absurd (YAL q) (YAo _)
  .have z:b=s.heap.objs.size:=by simpa using z
   rw[z]at q;exact absurd (YAL q) (YAo _)
end
section
variable {X:Cx}{pins:List (Addr×Obj)}{σ:St}{H:Hp}{s:Shared}{a b:Addr}{kvs more:List (Key×V)}{A:Around}{E:Q33}
theorem ZjU {Q:Q33}(I:Inv X pins σ H s)(e:H a=some (.dK kvs))(e2:H b=some (.dK more))(ne:a≠b)(hz:kvs.length+more.length<=sizeLine)(h:∀s',Inv X pins σ (upd H a (.dK (Zaz kvs more))) s'->Q .none s'):
  wpAny (model X.prog X.w) A (call (.builtin "dict.update") [.ref a,.ref b]) Q E s:=by
 obtain⟨z,hd,vs,rel,dd⟩:=ZfM I.hok e
 obtain⟨z2,hd2,vs2,rel2,dd2⟩:=ZfM I.hok e2
 have l1:=rel.length
 have l2:=rel2.length
 refine call_meetsIn PySem.F.slot_dict_update dd.typeIs PySem.F.entry_dict_update (PySem.F.args_dict_update_2 _ _) (meets_dict_update (Zax X.prog X.w) a b ne hd2) ⟨vs,vs2,dd,dd2,by omega,fun h' dd' dd2' hs=>h _ ?_⟩
 have he:∃q,h'.get? a=some q:=let ⟨q,_,_,hq,_⟩:=dd';⟨q,hq⟩
 exact ZdW (t':=s.toks) I (by rw[e];exact True.intro) hs he (ZfN (YAK (ZaQ more kvs) hz) hd (rel2.merge rel) dd')
def ZlX (td ty:TE):TE:=fun σ H Q=>td σ H fun x H1=>∃a,x=.ref a/\IsD H1 a/\ty σ H1 fun y H2=>∃b kvs more,y=.ref b/\H2 a=some (.dK kvs)/\H2 b=some (.dK more)/\a≠b/\kvs.length+more.length<=sizeLine/\Q .non (upd H2 a (.dK (Zaz kvs more)))
theorem Zhs {o e:Expr} {td ty:TE} {apos cpos:Pos} (ho:PE X o td) (he:PE X e ty) (m:M1 X o "update" apos e cpos):PE X (.Call (.Attribute o "update" apos) [e] [] cpos) (ZlX td ty):=by
 intro pins s σ H Q I h
 refine YDT m.base m.few m.line YCh PySem.F.slot_dict_update PySem.F.type_dict_update (thn (ho pins s σ H _ I h) fun u s1 ⟨x,H1,I1,rx,a,ex,d,q1⟩=>?_)
 subst ex
 obtain rfl:u=Value.ref a:=rx
 obtain⟨t1,t2,_⟩:=ZiO I1 d
 refine⟨t1,t2,?_⟩
 rw[m.trees]
 refine YCq rfl (YDE (YBi (thn (he pins s1 σ H1 _ I1 q1) fun iv s2 ⟨y,H2,I2,ry,b,kvs,more,ey,ea,eb,ne,hz,q2⟩=>YCU ?_)))
 subst ey
 obtain rfl:iv=Value.ref b:=ry
 exact ZjU I2 ea eb ne hz fun s3 I3=>⟨.non,_,I3,rfl,q2⟩
end
section
variable {prog:Program}{w:World}{A:Around}{E:Q33}{s:Shared}{l I S:Addr}{ns:List Int}{vs:List Value}{R:Result->Shared->Prop}{Q:Q33}{d:Value}
def Most (ns:List Int)(i n:Nat):Prop:=∀j,j<n->ns.getD j 0<=ns.getD i 0
theorem ZeN {i:Nat}{v:Value}(rv:Vals (ns.map V.int) vs)(e:vs[i]?=some v):∃t,v=.int (ns.getD i 0) t:=by
 obtain⟨x,hx,rx⟩:=Zdr rv e
 rw[YAZ]at hx
 cases hm:ns[i]? with
 | none=>rw[hm]at hx;cases hx
 | some m=>
  rw[hm]at hx
  cases hx
  obtain⟨t,rfl⟩:=rx
  exact⟨t,by rw[YAG,hm];rfl⟩
end
section
variable {X:Cx}{e:Expr}{ta:TA}{p p2 pos kpos:Pos}
def Zoo (n:Int):List V->Hp->VK->Prop:=fun xs H Q=>∃a ns,xs=[.ref a]/\H a=some (.lst (ns.map V.int))/\∀r,(ns=[]->r=n)->(ns≠[]->r∈ns)->(∀x∈ns,x<=r)->Q (.int r) H
end
def kfT:Value->Int×Q11
 | .str x _=>((x.length:Nat),x.cps.toList)
 | _=>(0,[])
abbrev ZdL (x:Str)(p1 p2 p3 p4 p5:Pos)(k:Nat):Expr:=.Tuple [.Call (.Name "len" p1) [.Name x p2] [] p3,.Name x p4] k p5
structure LamSc (scope:Scope)(x:Str):Prop where
 kind:scope.kind=.function
 co:scope.isCoroutine=false
 gen:scope.isGenerator=false
 loc:scope.names.lookup x=some .local
 glb:scope.names.lookup ("len":Str)=some .globalImplicit
 nodbg:(x == ("__debug__":Str))=false
section
variable {prog:Program}{w:World}{A:Around}{s:Shared}
theorem Zi6 (f:Str->Option NameKind){x:Str}{v:Value}(h:f x=some .local):bindL f [(x,v)] (fun _=>none) x=some v:=by
 unfold bindL bindL
 rw[YAW h,YAW rfl]
theorem Zlf {g:Addr}{o:Obj}{name qual x:Str}{params:Arguments}{scope:Scope}{pm cv ctv:Value}{mg mb:Str->Option Value}{vs:List Value}{p1 p2 p3 p4 p5:Pos}{k:Nat}
  (ho:s.heap.get? g=some o) (hod:o.data=.func (PySem.W.kla_fn name qual params (ZdL x p1 p2 p3 p4 p5 k) scope [] pm cv ctv)) (hcd:s.heap.CodeRec cv qual) (S:LamSc scope x)
  (hb:∀(s:Shared) (u:Value),BindsTo s (PySem.W.kla_fn name qual params (ZdL x p1 p2 p3 p4 p5 k) scope [] pm cv ctv) ⟨[u],[]⟩ [(x,u)]) (hroom:A.depth<recursionLimit) (hlim:s.heap.NoLimit)
  (hg:s.heap.Ns mainGlobals mg) (hgl:mg "len"=none) (hbn:s.heap.Ns builtinsNs mb) (hbb:mb "len"=bootBuiltins "len") (hv:∀v∈vs,∃y t,v=.str y t/\y.length<=sizeLine):KeyCall (model prog w) A g vs kfT s:=by
 intro E s' v Q hvm hk hgen hos q
 obtain⟨y,t,rfl,hy⟩:=hv v hvm
 have hs:sizeLine=16777216:=sizeLine_eq
 refine YCS (PySem.W.kla_callFunE hroom (hk _ _ ho) hod S.co S.gen rfl (let ⟨c,oc,ws,tq,e1,e2,r⟩:=hcd;⟨c,oc,ws,tq,e1,hk _ _ e2,r⟩) (hb _ _ _ _ _ _ ?_))
 refine wpAny_newFunctionEnv_cells S.kind (fun z hz=>.inl (by rw[YAO.mp hz];exact S.loc)) fun env he s1 X=>?_
 refine⟨(hlim.keeps hk).keeps X.toInCall.keep,PySem.W.kla_codeExpr ?_⟩
 subst he
 obtain⟨h1,tk1,e1⟩:=X.toInCall.same
 have kp1:Kp s'.heap s1.heap:=X.toInCall.keep
 have lnm:∀(pp:Pos) (B:Around) (E2:Q33) (s2:Shared) (Q2:Q33),Kp s1.heap s2.heap->Q2 (.str y t) s2->wpAny (model prog w) B (eval (.Name x pp) (newEnv scope s'.heap.objs.size mainGlobals (cellsFrom (s'.heap.objs.size+1) scope.names []) (qual++".<locals>.") (some g) cv none builtinsNs)) Q2 E2 s2:=fun pp B E2 s2 Q2 k2 q2=>
  wpAny_Name (wpAny_loadName_local S.kind S.loc (X.toInCall.ns.keeps k2) (by
   exact Zi6 _ S.loc) q2) S.nodbg
 refine wpAny_Tuple_spliced ?_
 show wpAny _ _ (spliced ((false,eval (.Call (.Name "len" p1) [.Name x p2] [] p3) _)::backTo p5 (starEach [.Name x p4] _))) _ _ s1
 refine YBi ?_
 refine YBo (Calls.Name_function_global S.kind S.glb (Calls.loadGlobal_builtin (v:=.builtin "len") (show s1.heap.Ns mainGlobals mg from(hg.keeps hk).keeps kp1) hgl (show s1.heap.Ns builtinsNs mb from(hbn.keeps hk).keeps kp1) (hbb.trans rfl) ?_) (by decide))
 refine YCy ?_ rfl rfl
 show wpAny _ _ (spliced ((false,eval (.Name x p2) _)::backTo p3 (starEach [] _))) _ _ s1
 refine YBi (lnm p2 _ _ _ _ (fun _ _ e=>e) (YCU ?_))
 refine len_str (by omega) ?_
 show wpAny _ _ (spliced ((false,eval (.Name x p4) _)::backTo p5 (starEach [] _))) _ _ _
 refine YBi (lnm p4 _ _ _ _ (fun _ _ e=>e) (YCU ?_))
 refine⟨by rw[hs];show 2<=16777216;decide,?_⟩
 rw[e1]
 refine q _ _ (fun b o e=>YAC _ (by have:=kp1 b o e;rw[e1]at this;exact this)) rfl rfl ⟨_,_,_,_,_,rfl,YAQ _ rfl,rfl⟩
end
theorem Zd2 (a v:Value):argsOk "sorted" ⟨[a],[(Str.ofString "key",v)]⟩:=by unfold argsOk;kernel_rfl
theorem ZcP (a v:Value):argsOk "list.sort" ⟨[a],[(Str.ofString "key",v)]⟩:=by unfold argsOk;kernel_rfl
section
variable {prog:Program}{w:World}{A:Around}{E:Q33}{s:Shared}
end
def BefW (a b:Q11):Prop:=a.length<b.length\/(a.length=b.length/\a<b)
theorem ZiA:∀(a b:Q11),a<b\/a=b\/b<a
 | [],[]=>.inr (.inl rfl)
 | [],_::_=>.inl .nil
 | _::_,[]=>.inr (.inr .nil)
 | c::a,d::b=>by
  rcases YCT c d with h | h | h
  .exact .inl (List.Lex.rel h)
  .subst h
   rcases ZiA a b with h | h | h
   .exact .inl (List.Lex.cons h)
   .exact .inr (.inl (by rw[h]))
   .exact .inr (.inr (List.Lex.cons h))
  .exact .inr (.inr (List.Lex.rel h))
theorem Zhc {a:Q11}:¬BefW a a:=fun h=>h.elim (fun h=>YAo _ h) fun h=>List.lt_irrefl _ h.2
theorem ZcH {α:Type}[DecidableEq α]:∀(l m:List α),l.Nodup->(∀x∈l,x∈m)->l.length<=m.length
 | [],m,_,_=>YAg _
 | x::l,m,nd,h=>by
  have hx:=h x YAa
  have nd':=YBP.mp nd
  have:=ZcH l (m.erase x) nd'.2 fun y hy=>(List.mem_erase_of_ne (fun e=>by rw[e]at hy;exact nd'.1 hy)).mpr (h y (YAV _ hy))
  rw[List.length_erase_of_mem hx]at this
  have pos:0<m.length:=List.length_pos_of_mem hx
  rw[YAf]
  omega
theorem ZhJ {l u v:Q11}{i j:Nat}(hu:AtW l u i)(hv:AtW l v j)(e:i+u.length=j+v.length)(hl:v.length<=u.length):v=u.drop (u.length-v.length):=by
 obtain⟨a1,a2⟩:=hu
 obtain⟨b1,b2⟩:=hv
 have hj:j=i+(u.length-v.length):=by omega
 rw[<-a2,YAd,YAn,Nat.min_eq_left (by omega),YDS,YCZ,<-hj]
 rw[show u.length-(u.length-v.length)=v.length by omega]
 exact b2.symm
theorem Zdm {u l:Q11}(h:Inf u l)(k:Nat):Inf (u.drop k) l:=by
 obtain⟨i,h1,h2⟩:=h
 by_cases hk:k<=u.length
 .refine⟨i+k,by rw[YAn];omega,?_⟩
  rw[YAn]
  have:(l.drop (i+k)).take (u.length-k)=((l.drop i).take u.length).drop k:=by rw[YDS,YCZ]
  rw[this,h2]
 .rw[YBy (by omega)];exact Inf.nil l
theorem Zck {w:Q11}{c:Nat}(h:w.getLast?=some c):w=w.dropLast++[c]:=by
 have ne:w≠[]:=fun e=>by rw[e]at h;cases h
 rw[YDB ne]at h
 have h2:=YDF ne
 rw[Option.some.inj h]at h2
 exact h2.symm
def endOf (l w:Q11):Nat:=((List.range (l.length+1)).find? fun e=>(List.range (l.length+1)).any fun i=>decide (i+w.dropLast.length=e)&&decide (i+w.dropLast.length<=l.length)&&decide ((l.drop i).take w.dropLast.length=w.dropLast)).getD 0
theorem ZeT {l w:Q11}(h:Inf w.dropLast l):∃i,AtW l w.dropLast i/\endOf l w=i+w.dropLast.length:=by
 unfold endOf
 cases f:(List.range (l.length+1)).find? fun e=>(List.range (l.length+1)).any fun i=>decide (i+w.dropLast.length=e)&&decide (i+w.dropLast.length<=l.length)&&decide ((l.drop i).take w.dropLast.length=w.dropLast) with
 | none=>
  obtain⟨i,h1,h2⟩:=h
  have:=List.find?_eq_none.mp f (i+w.dropLast.length) (YAu.mpr (by omega))
  exfalso
  apply this
  rw[YBa]
  exact⟨i,YAu.mpr (by omega),by rw[decide_eq_true rfl,decide_eq_true h1,decide_eq_true h2];rfl⟩
 | some e=>
  have:=List.find?_some f
  rw[YBa]at this
  obtain⟨i,_,hi⟩:=this
  simp only[YAU,decide_eq_true_iff]at hi
  exact⟨i,⟨hi.1.2,hi.2⟩,hi.1.1.symm⟩
theorem Zbv {α β:Type}{f:α->β}:∀ {l:List α},l.Nodup->(∀x∈l,∀y∈l,f x=f y->x=y)->(l.map f).Nodup
 | [],_,_=>by simp
 | x::l,nd,h=>by
  have nd':=YBP.mp nd
  rw[YAj,YBP]
  refine⟨fun z=>?_,Zbv nd'.2 fun a ha b hb=>h a (YAV _ ha) b (YAV _ hb)⟩
  obtain⟨y,hy,e⟩:=YAc.mp z
  have:=h y (YAV _ hy) x YAa e
  rw[this]at hy
  exact nd'.1 hy
end L2
namespace L2
open PySem PySem.Spec PyProof.Rows PySem.W
def Zo8:HO->Bool
 | .tbl _=>true
 | _=>false
def SameL (H H':Hp):Prop:=∀b o,H b=some o->Zo8 o=false->H' b=some o
theorem SameL.refl (H:Hp):SameL H H:=fun _ _ e _=>e
theorem SameL.trans {H H1 H2:Hp}(a:SameL H H1)(b:SameL H1 H2):SameL H H2:=fun c o e n=>b c o (a c o e n) n
theorem Same.l {H H':Hp}(s:Same H H'):SameL H H':=fun b o e _=>s b o e
def ZgI (c:Addr)(q:Str):HO:=.ext fun h=>h.CodeRec (.ref c) q
theorem ZjV {P:Program}{w:World}{H:Hp}{h:Heap}{c:Addr}{q:Str}(x:h.CodeRec (.ref c) q):ObjOk P w H h c (ZgI c q):=by
 obtain⟨c',o,vs,t,e,e1,r⟩:=id x
 cases e
 refine⟨x,⟨o,e1⟩,fun h1 h2 x1 k=>?_⟩
 obtain⟨c',o,vs,t,e,e1,r⟩:=x1
 cases e
 exact⟨c,o,vs,t,rfl,k _ e1,r⟩
def TblOk (H:Hp)(P:Addr)(pos:Pos)(q:Str):Prop:=∃ps,H P=some (.tbl ps)/\TriplesOk ps.toList/\(codeAmong pos ps.toList=none\/∃c,codeAmong pos ps.toList=some (.ref c)/\H c=some (ZgI c q))
theorem TblOk.same {H H':Hp}{P:Addr}{pos:Pos}{q:Str}(t:TblOk H P pos q)(s:Same H H'):TblOk H' P pos q:=by
 obtain⟨ps,e,tr,h⟩:=t
 exact⟨ps,s _ _ e,tr,h.imp id fun ⟨c,e1,e2⟩=>⟨c,e1,s _ _ e2⟩⟩
theorem tbl_new {P:Addr}{pos:Pos}{q:Str}{H:Hp}(h:H P=some (.tbl #[])):TblOk H P pos q:=⟨#[],h,trivial,.inl rfl⟩
theorem ZdZ {pos pos':Pos}{c:Value}(hne:pos'.line≠pos.line\/pos'.col≠pos.col)(l:List Value)(h:TriplesOk l):codeAmong pos' (l++[rawInt pos.line,rawInt pos.col,c])=codeAmong pos' l:=by
 fun_induction TriplesOk l with
 | case1=>
  simp only[YBX,codeAmong,rawInt]
  rw[YAX]
  intro z
  simp only[YAU,beq_iff_eq]at z
  rcases hne with n | n
  .exact n (by have:=z.1;omega)
  .exact n (by have:=z.2;omega)
 | case2 a t b u x rest ih=>
  simp only[List.cons_append,codeAmong]
  rw[ih h]
 | case3 l h1 h2=>exact h.elim
def SameT (pos:Pos)(H H':Hp):Prop:=SameL H H'/\∀(P':Addr) (pos':Pos) (q':Str),(pos'.line≠pos.line\/pos'.col≠pos.col)->TblOk H P' pos' q'->TblOk H' P' pos' q'
theorem SameT.then {pos:Pos}{H H1 H2:Hp}(s:SameT pos H H1)(t:Same H1 H2):SameT pos H H2:=⟨s.1.trans t.l,fun P' p' q' n T=>(s.2 P' p' q' n T).same t⟩
structure LamEnv (base:Heap)(mg:Str->Option Value)(c P:Addr):Prop where
 hd:CodeHd base c P
 bm:base.BuiltinsAt mg P
section
variable {X:Cx}{pins:List (Addr×Obj)}{σ:St}{H:Hp}{s:Shared}
theorem Inv.table {P c':Addr}{ps more:Array Value}{q:Str}{h':Heap}{t':Nat}(I:Inv X pins σ H s)(hP:H P=some (.tbl ps))(hx:Heap.ExtBut P s.heap h')(hc:s.heap.objs.size<=c')(hr:h'.CodeRec (.ref c') q)(ht:h'.get? P=some (tabObj (ps++more))):
  Inv X pins σ (upd (upd H P (.tbl (ps++more))) c' (ZgI c' q)) { s with heap:=h',toks:=t' }:=by
 have fc:H c'=none:=I.hok.fresh hc
 have nPc:P≠c':=Zai hP fc
 have nt:∀ {b u},H b=some u->(∀ps,u≠.tbl ps)->b≠P:=fun e n z=>by rw[z,hP]at e;exact n _ (Option.some.inj e).symm
 have nc:∀ {b u},H b=some u->b≠c':=fun e=>Zai e fc
 have hz:∀ {b o},s.heap.get? b=some o->b≠c':=fun e z=>absurd (YAL e) (by rw[z];exact YDV.mpr hc)
 have nn:∀ {b},H b=none->b≠P:=fun e z=>by rw[z,hP]at e;cases e
 refine I.call' (s':={ s with heap:=h',toks:=t' }) (ch:=[]) rfl ⟨fun b o e n _ _=>hx b o (nn n) e,fun b o e n _ _=>⟨o.slots,hx b o (nn n) e⟩,fun b o e n _=>?_,fun b o e _=>?_,fun b xs e=>?_,fun b o u e=>?_,fun b qs e=>?_⟩ (fun b u e=>?_) I.bare (fun b z=>by cases z)
 .rw[Zaf (hz e),Zaf (nn n)];exact n
 .by_cases z:b=P
  .exact⟨_,by rw[z];exact ht⟩
  .exact⟨o,hx b o z e⟩
 .rw[Zaf (nc e),Zaf (nt e fun _ z=>by cases z)];exact e
 .rw[Zaf (nc e),Zaf (nt e fun _ z=>by cases z)];exact e
 .by_cases z:b=P
  .subst z
   rw[hP]at e;cases e
   exact⟨more,by rw[Zaf nPc,Zad]⟩
  .exact⟨#[],by rw[Zaf (nc e),Zaf z,e];simp⟩
 .by_cases z1:b=c'
  .subst z1
   rw[Zad]at e;cases e
   exact ZjV hr
  .rw[Zaf z1]at e
   by_cases z2:b=P
   .subst z2
    rw[Zad]at e;cases e
    exact ht
   .rw[Zaf z2]at e
    refine(I.hok b u e).stay (fun d v hd k=>?_) (fun d k=>?_) fun d xs k=>?_
    .refine hx d v ?_ k
     rcases hd with rfl | hd
     .exact z2
     .exact nt hd fun _ z=>by cases z
    .rw[Zaf (nc k),Zaf (nt k fun _ z=>by cases z)];exact k
    .rw[Zaf (nc k),Zaf (nt k fun _ z=>by cases z)];exact k
theorem ZiG {Q:Q33}{E:Q33}{c P:Addr}{pos:Pos}{params:Arguments}{body:Expr}{scope:Scope}{q:Str}{clos:List (Str×Addr)}(I:Inv X pins σ H s)(L:LamEnv X.base X.mg c P)(hcode:X.env.code=.ref c)(hcl:closureFor scope X.env=pure clos)(hdef:defaultsOf params X.env=([],[]))
  (hq:X.env.qual++"<lambda>"=q) (T:TblOk H P pos q)
  (h:∀(H1:Hp) (h':Heap) (tk:Nat) (c':Addr) (ctv:Value),SameT pos H H1->TblOk H1 P pos q->(∀b,H1 b=none->H b=none)->Inv X pins σ H1 { s with heap:=h',toks:=tk }->h'.CodeRec (.ref c') q->H1 c'=some (ZgI c' q)->Q (.ref h'.objs.size) { s with heap:=h'.push (kla_obj "<lambda>" q params body scope clos ((X.mg "__name__").getD .none) c' ctv),toks:=tk }):
  wpAny (model X.prog X.w) X.A (eval (.Lambda params body scope pos) X.env) Q E s:=by
 obtain⟨ps,hP,tr,hc⟩:=T
 have gP:s.heap.get? P=some (tabObj ps):=I.hok P _ hP
 have C:CodeHd s.heap c P:=L.hd.keeps I.bk
 have hg:s.heap.Ns mainGlobals X.mg:=I.mod.glob.keeps I.bk
 have hgP:mainGlobals≠P:=fun z=>by
  obtain⟨o,es,ep,e,hd,_⟩:=hg
  rw[z,gP]at e;cases e;cases hd
 have hbm:s.heap.BuiltinsAt X.mg P:=let ⟨bm,o,a1,a2,a3,a4,a5,r⟩:=L.bm;⟨bm,o,a1,a2,a3,a4,I.bk _ _ a5,r⟩
 refine kla_eval hdef ?_
 rw[hq]
 rcases hc with hn | ⟨c',hf,hc'⟩
 .refine kla_makeFunction hcl I.ok.glob hg hcode C gP tr hn hgP hbm fun c' ctv h' tk hx hge hlt hrec htab=>?_
  have fc:H c'=none:=I.hok.fresh hge
  have J:=I.table (t':=tk) hP hx hge hrec htab
  have nPc:P≠c':=Zai hP fc
  have el:(ps++#[rawInt pos.line,rawInt pos.col,Value.ref c']).toList=ps.toList++[rawInt pos.line,rawInt pos.col,.ref c']:=by simp
  refine h _ _ _ c' ctv ⟨fun b o e n=>?_,fun P' pos' q' hne T'=>?_⟩ ⟨_,by rw[Zaf nPc,Zad],by rw[el];exact TriplesOk_snoc _ _ _ _ tr,.inr ⟨c',by rw[el];exact codeAmong_snoc _ tr hn,Zad⟩⟩ (fun b e=>?_) J hrec Zad
  .rw[Zaf (Zai e fc),Zaf (fun z=>by rw[z,hP]at e;cases e;cases n)];exact e
  .obtain⟨ps',e1,t1,h1⟩:=T'
   have keep:∀d,H d=some (ZgI d q')->upd (upd H P (.tbl (ps++#[rawInt pos.line,rawInt pos.col,Value.ref c']))) c' (ZgI c' q) d=some (ZgI d q'):=fun d e=>by
    rw[Zaf (Zai e fc),Zaf (fun z=>by rw[z,hP]at e;cases e)];exact e
   by_cases z:P'=P
   .subst z
    rw[hP]at e1;cases e1
    refine⟨_,by rw[Zaf nPc,Zad],by rw[el];exact TriplesOk_snoc _ _ _ _ tr,?_⟩
    rw[el,ZdZ hne _ tr]
    exact h1.imp id fun ⟨d,f1,f2⟩=>⟨d,f1,keep d f2⟩
   .exact⟨ps',by rw[Zaf (Zai e1 fc),Zaf z];exact e1,t1,h1.imp id fun ⟨d,f1,f2⟩=>⟨d,f1,keep d f2⟩⟩
  .by_cases z1:b=c'
   .rw[z1];exact fc
   .rw[Zaf z1]at e
    by_cases z2:b=P
    .rw[z2,Zad]at e;cases e
    .rw[Zaf z2]at e;exact e
 .refine kla_makeFunctionHit hcl I.ok.glob hg hcode C gP tr hf hbm fun ctv h' tk hk hsz=>?_
  have hrec:s.heap.CodeRec (.ref c') q:=(I.hok c' _ hc').1
  exact h H _ _ c' ctv ⟨SameL.refl _,fun _ _ _ _ T=>T⟩ ⟨ps,hP,tr,.inr ⟨c',hf,hc'⟩⟩ (fun b e=>e) (I.kept (t':=tk) hk) (hrec.keeps hk) hc'
theorem ZiH {Q:Q33}{E:Q33}{c P:Addr}{pos:Pos}{params:Arguments}{body:Expr}{scope:Scope}{q:Str}(I:Inv X pins σ H s)(L:LamEnv X.base X.mg c P)(hcode:X.env.code=.ref c)(hcl:closureFor scope X.env=pure [])(hdef:defaultsOf params X.env=([],[]))
  (hq:X.env.qual++"<lambda>"=q) (T:TblOk H P pos q)
  (h:∀(g:Addr) (H1:Hp) (s1:Shared) (cv ctv pm:Value),SameT pos H H1->TblOk H1 P pos q->(∀b,H1 b=none->H b=none)->Inv X pins σ H1 s1->s1.heap.get? g=some { cls:=.type "function",data:=.func (kla_fn "<lambda>" q params body scope [] pm cv ctv) }->s1.heap.CodeRec cv q->Q (.ref g) s1):
  wpAny (model X.prog X.w) X.A (eval (.Lambda params body scope pos) X.env) Q E s:=
 ZiG I L hcode hcl hdef hq T fun H1 h' tk c' ctv st t1 fr J hrec _=>h _ H1 _ (.ref c') ctv _ st t1 fr (J.kept (t':=tk) fun b o e=>YAC _ e) (YAQ _ rfl) (hrec.push _)
end
theorem ZhO:bootBuiltins "sorted"=some (.builtin "sorted"):=rfl
def txV:Value->Q11
 | .str x _=>x.cps.toList
 | _=>[]
theorem ZhX:∀ {ws:Q22} {us:List Value},Vals (ws.map tx) us->ws=us.map txV/\(∀v∈us,∃y t,v=.str y t/\y.length=(txV v).length)
 | [],_,.nil=>⟨rfl,fun v hv=>by cases hv⟩
 | w::ws,_,.cons ⟨t,e⟩ r=>by
  obtain⟨h1,h2⟩:=ZhX (ws:=ws) r
  subst e
  refine⟨by rw[YAj,<-h1];simp[txV],fun v hv=>?_⟩
  rcases YAY.mp hv with rfl | hv
  .exact⟨_,t,rfl,by simp[txV,Str.length]⟩
  .exact h2 v hv
theorem Zeb:∀(us:List Value),(∀v∈us,∃y t,v=.str y t)->Vals ((us.map txV).map tx) us
 | [],_=>.nil
 | v::us,h=>by
  obtain⟨y,t,rfl⟩:=h v YAa
  exact .cons ⟨t,by simp[txV]⟩ (Zeb us fun u hu=>h u (YAV _ hu))
theorem Zlb {a b:Q11}:ltP ((b.length:Nat),b) ((a.length:Nat),a)=false↔¬BefW b a:=by
 rw[YAr,Ne,Zgl]
 unfold BefW
 dsimp only
 have e1:((b.length:Int)<(a.length:Int))↔b.length<a.length:=by omega
 have e2:((b.length:Int)=(a.length:Int))↔b.length=a.length:=by omega
 rw[e1,e2]
section
variable {X:Cx}{e:Expr}{ta:TA}{p pos kpos lpos p1 p2 p3 p4 p5:Pos}{k kk:Nat}{c P:Addr}{params:Arguments}{scope:Scope}{x q:Str}
end
end L2
namespace L2
open PySem PySem.Spec PyProof.Rows
theorem Zft:∀N,N<64->minRun' N N 0=N:=by decide
theorem SegU.all {L:Keyed->Keyed->Bool}{b:Array Keyed}{m:Nat}(h:SegU L b 0 m)(hm:b.size=m):b.toList.Pairwise (Le L):=by
 rw[YCB]
 intro i j hi hj hij
 rw[YAm]at hi hj
 have e:∀k (hk:k<b.toList.length),at0 b k=b.toList[k]:=by
  intro k hk
  rw[YAm]at hk
  unfold at0
  rw[getElem?_pos b k hk]
  simp
 rw[<-e i (by simpa using hi),<-e j (by simpa using hj)]
 exact h _ _ (by omega) (by omega) (by omega)
section
variable {M:Model}{A:Around}{E:Q33}{s:Shared}{D:Keyed->Prop}{L:Keyed->Keyed->Bool}{kd:SortKind}{st:SortSt}
theorem Zjm {a0:List Keyed}{Q:Unit->SortSt->Prop}(h64:a0.length<64)(hC:CmpT L)(hP:PureC M A E s D L kd)(hd:∀u∈a0,D u)(hk:kindOf st=kd)(hf:failedOf st=none)(hpe:pendingOf st=#[])(ha:(arrOf st).toList=a0)
  (q:∀st',(arrOf st').toList.Perm a0->(arrOf st').toList.Pairwise (Le L)->failedOf st'=none->Q () st'):wpS M A E s sortRuns' Q st:=by
 rw[sortRuns'_eq]
 refine YBE (wpS_get ?_)
 dsimp only
 obtain⟨N,hN⟩:∃N,N=(arrOf st).size:=⟨_,rfl⟩
 have hN':a0.length=N:=by rw[hN,<-ha,YAm]
 rw[<-hN]
 refine YBE (wpS_mono (YDO (a:=0) (b:=N) (I:=fun x c st'=>(x=0/\c=(none,0)/\st'=st)\/(c=(none,N)/\(arrOf st').toList.Perm a0/\(arrOf st').toList.Pairwise (Le L)/\failedOf st'=none/\(pendingOf st').size<=1))
  (Q:=fun c st'=>c=(none,N)/\(arrOf st').toList.Perm a0/\(arrOf st').toList.Pairwise (Le L)/\failedOf st'=none/\(pendingOf st').size<=1) ?step ?fin (.inl ⟨rfl,rfl,rfl⟩)) ?post)
 case fin=>
  rintro c st' (⟨e,rfl,rfl⟩ | h)
  .have e0:a0=[]:=YAw.mp (by omega)
   exact⟨by rw[show N=0 by omega],by rw[ha],by rw[ha,e0];exact .nil,hf,by rw[hpe];exact YAg _⟩
  .exact h
 case post=>
  rintro c st' ⟨rfl,h1,h2,h3,h4⟩
  dsimp only
  refine YBE (wpS_mono (YDO (a:=0) (b:=N) (I:=fun x c st2=>c=(none,())/\st2=st') (Q:=fun c st2=>c=(none,())/\st2=st') ?s2 (fun _ _ h=>h) ⟨rfl,rfl⟩) ?p2)
  case p2=>
   rintro c st2 ⟨rfl,rfl⟩
   exact YBn (q _ h1 h2 h3)
  case s2=>
   rintro x c st2 _ hx ⟨rfl,rfl⟩
   refine YBE (wpS_get ?_)
   rw[YAW h4]
   exact YBn ⟨rfl,rfl⟩
 case step=>
  rintro x c st' _ hx (⟨rfl,rfl,rfl⟩|⟨rfl,h⟩)
  .dsimp only
   rw[YAX (by omega)]
   have hda:∀u∈(arrOf st').toList,D u:=fun u hu=>hd u (by rw[<-ha];exact hu)
   refine YBE (Eq.mp (congrArg (fun v=>wpS M A E s (countRun' 0 (N-0)) _ v) (show setArr st' (arrOf st')=st' from rfl)) (ZlA hC hP hk hda (by omega) (by omega) fun b m hK hm1 hm2 hsm=>?_))
   dsimp only
   have hbz:=hK.sz
   rw[Zft N (by omega)]
   by_cases hmr:m<N
   .rw[YAW hmr]
    obtain⟨n,hn⟩:∃n,n=min (N-0) N:=⟨_,rfl⟩
    rw[<-hn]
    refine YBE (wpS_lift (YCr ⟨rfl,?_⟩))
    refine YBE (ZlC hC hP hk (hK.d hda) (by omega) (by omega) hsm fun b2 hK2 hs2=>?_)
    rw[YAX (by simp)]
    have hKb:=hK.tr hK2
    have hbz2:=Kept.sz hKb
    refine YBE (wpS_get ?_)
    rw[show (pendingOf (setArr st' b2)).back?=none by show (pendingOf st').back?=none;rw[hpe];rfl]
    dsimp only
    have e1:0+n=N:=by omega
    rw[e1]at hs2 ⊢
    refine YBE (wpS_modify (YBn (.inr ⟨rfl,by rw[<-ha];exact YDN.mp (Kept.perm hKb),SegU.all (b:=b2) hs2 (by omega),hf,?_⟩)))
    show ((pendingOf st').push _).size<=1
    rw[hpe];exact YAJ _
   .rw[YAX hmr]
    refine YBE (wpS_get ?_)
    rw[show (pendingOf (setArr st' b)).back?=none by show (pendingOf st').back?=none;rw[hpe];rfl]
    dsimp only
    have e1:0+m=N:=by omega
    rw[e1]at hsm ⊢
    refine YBE (wpS_modify (YBn (.inr ⟨rfl,by rw[<-ha];exact YDN.mp (Kept.perm hK),SegU.all (b:=b) hsm (by omega),hf,?_⟩)))
    show ((pendingOf st').push _).size<=1
    rw[hpe];exact YAJ _
  .dsimp only
   rw[YAW (YAJ N)]
   exact YBn ⟨rfl,h⟩
end
section
variable {prog:Program}{w:World}{A:Around}{E:Q33}{s s0:Shared}
theorem Zgb {a g:Addr}{vs:List Value}{kf:Value->Int×Q11}{n:Nat}{P:Fin->Shared->Prop}(hc:KeyCall (model prog w) A g vs kf s0)(hb:Kp s0.heap s.heap)(hg:s.gens=s0.gens)(hos:s.os=s0.os)(ha0:s0.heap.get? a=none)
  (ho:s.heap.get? a=some (seqObj "list" vs.toArray n)) (hN:vs.length<=sizeLine) (h64:vs.length<64)
  (h:∀(s':Shared) (us:List Value) (e:Nat),Kp s0.heap s'.heap->s'.gens=s0.gens->s'.os=s0.os->s'.heap.get? a=some (seqObj "list" us.toArray e)->us.Perm vs->us.Pairwise (fun x y=>ltP (kf y) (kf x)=false)->P (.done (.ret .none)) s'):
  wpAny (model prog w) A (Builtin.«list.sort» ⟨[.ref a],[(Str.ofString "key",.ref g)]⟩) P E s:=by
 have hlt:a<s.heap.objs.size:=YAL ho
 have up:=get?_update_seq ho (fun _=>#[])
 generalize hep:(if (#[]:Array Value).size == vs.toArray.size then n else n+1)=ep at up
 obtain⟨h1,hh1⟩:∃h1,h1=s.heap.update a (Obj.mapSeq fun _=>#[]):=⟨_,rfl⟩
 have k1:Kp s0.heap h1:=by
  intro b o q
  rw[hh1,(YAk s.heap a _).2 b ?_]
  .exact hb b o q
  .rintro rfl;rw[ha0]at q;cases q
 rw[<-hh1]at up
 obtain⟨K,hK⟩:∃K,K=(h1.push (seqObj "tuple" vs.toArray 0)).objs.size:=⟨_,rfl⟩
 obtain⟨h3,hh3⟩:∃h3,h3=(h1.push (seqObj "tuple" vs.toArray 0)).push (seqObj "list" #[] 0):=⟨_,rfl⟩
 have k3:Kp h1 h3:=fun b o q=>by rw[hh3];exact YAC _ (YAC _ q)
 have oK:h3.get? K=some (seqObj "list" #[] 0):=by rw[hh3,hK];exact YAQ _ rfl
 have nK:s0.heap.get? K=none:=by
  cases z:s0.heap.get? K with
  | none=>rfl
  | some o=>
   have:=YAL (k1 _ _ z)
   rw[hK,size_push']at this
   exact absurd this (YDV.mpr (YCO _))
 have aK:a≠K:=by
  rintro rfl
  have h8:=YAL up
  rw[hK,size_push']at h8
  exact absurd h8 (YDV.mpr (YCO _))
 subst hK
 rw[Zhl]
 refine YAA (listItems_at ho rfl (YAA (listUpdate_at ho rfl ?_ (hsz:=by rw[YAP];exact hN))))
 rw[<-hh1]
 refine YAA (seqEpoch_at up rfl (YAA (wpAny_newTuple (YAA (wpAny_newList (YBL ?_))))))
 refine YAA (YCr ?_)
 rw[List.forIn_toArray]
 show wpAny _ _ _ _ _ { s with heap:=(h1.push (seqObj "tuple" vs.toArray 0)).push (seqObj "list" #[] 0) }
 rw[<-hh3]
 refine YAA (ZiJ hc nK aK hN ?_ vs [] [] { s with heap:=h3 } 0 rfl (fun b o q=>k3 b o (k1 b o q)) hg hos oK ⟨rfl,fun i k v e _=>by simp at e⟩ (k3 a _ up))
 intro s2 ks m j1 j2 j3 j4 j5 j6
 dsimp only
 refine YAA (listItems_at j4 rfl ?_)
 have fin:∀v:SortSt,failedOf v=none->((arrOf v).map (·.2)).toList.Perm vs->((arrOf v).map (·.2)).toList.Pairwise (fun x y=>ltP (kf y) (kf x)=false) ->
   wpAny (model prog w) A (do
    Builtin.List.listUpdate (.ref (h1.push (seqObj "tuple" vs.toArray 0)).objs.size) fun _=>#[]
    letGo ((arrOf v).map (·.1)).toList (failedOf v).toList
    let tch:=(<-seqEpoch a) != ep
    Builtin.List.listUpdate (.ref a) fun _=>(arrOf v).map (·.2)
    if let some e:=failedOf v then rule "list.sort.comparison-raised";throw e
    if tch then rule "list.sort.modified";raiseError "ValueError" "list modified during sort"
    ret .none) P E s2:=by
  intro v f1 f2 f3
  have hl:=j5.1
  refine YAA (listUpdate_at j4 rfl (YAA (wpAny_letGo ?_)) (hsz:=by rw[YAP];omega))
  have sb:=YAk s2.heap (h1.push (seqObj "tuple" vs.toArray 0)).objs.size (Obj.mapSeq fun _=>#[])
  have a1:(s2.heap.update (h1.push (seqObj "tuple" vs.toArray 0)).objs.size (Obj.mapSeq fun _=>#[])).get? a=some (seqObj "list" #[] ep):=(sb.2 a aK).trans j6
  refine YAA (seqEpoch_at a1 rfl (YAA (listUpdate_at a1 rfl ?_ (hsz2:=by
   have:=f2.length_eq
   rw[YAm]at this
   omega))))
  rw[f1,bne_self_eq_false]
  obtain⟨out,hout⟩:∃out,out=(arrOf v).map (·.2):=⟨_,rfl⟩
  rw[<-hout]at f2 f3 ⊢
  have a2:=get?_update_seq a1 (fun _=>out)
  generalize (if out.size == (#[]:Array Value).size then ep else ep+1)=e5 at a2
  have e3:out.toList.toArray=out:=Array.toArray_toList
  refine YAH (h _ out.toList e5 ?_ j2 j3 (by rw[e3];exact a2) f2 f3)
  intro b o q
  refine((YAk _ a _).2 b ?_).trans ((sb.2 b ?_).trans (j1 b o q))
  .rintro rfl;rw[ha0]at q;cases q
  .rintro rfl;rw[nK]at q;cases q
 have zs:(ks.toArray.zip vs.toArray)=(ks.zip vs).toArray:=by simp
 have zm:((ks.zip vs).map (·.2))=vs:=List.map_snd_zip (by rw[j5.1];exact YAJ _)
 by_cases h2:vs.toArray.size<2
 .rw[YAW h2,YAW h2]
  refine YAA (YAH ?_)
  rw[StateT.run_pure]
  refine YAA (YAH ?_)
  refine fin (SortSt.mk' general' (ks.toArray.zip vs.toArray) #[] 7 none) rfl ?_ ?_
  .show ((ks.toArray.zip vs.toArray).map (·.2)).toList.Perm vs
   rw[zs,Array.toList_map,zm]
  .show ((ks.toArray.zip vs.toArray).map (·.2)).toList.Pairwise _
   rw[zs,Array.toList_map,zm]
   match vs,h2 with
   | [],_=>exact List.Pairwise.nil
   | [x],_=>exact List.pairwise_singleton _ _
   | _::_::_,h2=>simp at h2;omega
 .rw[YAX h2,YAX h2]
  have hne:ks≠[]:=by
   intro e
   have:=j5.1
   rw[e]at this
   rw[YAP,<-this]at h2
   simp at h2
  refine YAA (Zgq (fun v hv=>?_) hne ?_)
  .obtain⟨i,hi,rfl⟩:=YAh hv
   have h2:i<vs.length:=by rw[<-j5.1];exact hi
   exact⟨_,_,j5.2 i ks[i] vs[i] (YAE hi) (YAE h2)⟩
  .refine YAA (YBN (Zjm (a0:=ks.zip vs) (st:=SortSt.mk' (tuples' true) (ks.toArray.zip vs.toArray) #[] 7 none) (Q:=fun _ v=>(arrOf v).toList.Perm (ks.zip vs)/\(arrOf v).toList.Pairwise (Le (ltT s2.heap))/\failedOf v=none)
    (by rw[List.length_zip];omega) (Zla _) ZjE (fun u hu=>(Zf2 j5 hu).2) rfl rfl rfl (by show (ks.toArray.zip vs.toArray).toList=_;rw[zs]) fun v p1 p2 p3=>⟨p1,p2,p3⟩) ?_ fun _ _ e=>e)
   rintro⟨⟨⟩,v⟩ s3 ⟨rfl,p1,p2,p3⟩
   refine fin v p3 ?_ ?_
   .rw[Array.toList_map]
    have:=p1.map (fun p:Keyed=>p.2)
    rw[zm]at this
    exact this
   .rw[Array.toList_map,YBb]
    refine p2.imp_of_mem fun {x y} hx hy e=>?_
    have e1:=(Zf2 j5 (p1.mem_iff.mp hx)).1
    have e2:=(Zf2 j5 (p1.mem_iff.mp hy)).1
    have e':ltP (keyT s3.heap y.1) (keyT s3.heap x.1)=false:=e
    rw[e1,e2]at e'
    exact e'
end
section
variable {prog:Program}{w:World}{A:Around}{E:Q33}{s:Shared}
theorem Zfb {a g:Addr} {its:List Value} {n:Nat} {kf:Value->Int×Q11} {Q:Q33} (eo:s.heap.get? a=some (seqObj "list" its.toArray n)) (hc:KeyCall (model prog w) A.in1.in1 g its kf s) (hN:its.length<=sizeLine) (h64:its.length<64)
  (h:∀(s':Shared) (r:Addr) (us:List Value) (e:Nat),s.heap.get? r=none->Kp s.heap s'.heap->s'.gens=s.gens->s'.os=s.os->s'.heap.get? r=some (seqObj "list" us.toArray e)->us.Perm its->us.Pairwise (fun x y=>ltP (kf y) (kf x)=false)->Q (.ref r) s'):
  wpAny (model prog w) A (call (.builtin "sorted") [.ref a] [(Str.ofString "key",.ref g)]) Q E s:=by
 refine call_function_entry_kw kind_sorted plain_sorted entry_sorted (Zd2 _ _) ?_
 unfold Builtin.«sorted»
 refine YAA (m:=checkCount "sorted" 1 1 _) (YAH ?_)
 refine YAA (collect_list (YCb eo) ?_ hN)
 have sb:=YAk (s.heap.push (seqObj "list" #[] 0)) s.heap.objs.size (Obj.mapSeq (·++its.toArray))
 have k1:Kp s.heap ((s.heap.push (seqObj "list" #[] 0)).update s.heap.objs.size (Obj.mapSeq (·++its.toArray))):=fun b o e=>(sb.2 b (YAi (YAL e))).trans (YAC _ e)
 generalize ((s.heap.push (seqObj "list" #[] 0)).update s.heap.objs.size (Obj.mapSeq (·++its.toArray)))=g1 at k1 ⊢
 have nw:s.heap.get? g1.objs.size=none:=by
  cases z:s.heap.get? g1.objs.size with
  | none=>rfl
  | some o=>exact absurd (YAL (k1 _ _ z)) (YAo _)
 refine YAA (wpAny_newList ?_ hN)
 have hoL:(g1.push (seqObj "list" its.toArray 0)).get? g1.objs.size=some (seqObj "list" its.toArray 0):=YAQ _ rfl
 refine YAA (YBL (wpAny_call_entry_kw slot_list_sort ⟨_,hoL,rfl⟩ entry_list_sort (Zgb (s0:=s) hc (fun b o e=>YAC _ (k1 b o e)) rfl rfl nw hoL hN h64 fun s' us e k2 e1 e2 e3 e4 e5=>⟨_,rfl,?_⟩) (ZcP _ _)))
 exact YAH ⟨_,rfl,h s' _ us e nw k2 e1 e2 e3 e4 e5⟩
end
end L2
namespace L2
open PySem PySem.Spec PyProof.Rows PySem.W
def Zh5 (P:Addr)(lpos:Pos)(q:Str)(ta:TA):TE:=fun σ H Q=>ta σ H fun vs H1=>∃(a:Addr) (ws:Q22),vs=[.ref a]/\H1 a=some (.lst (ws.map tx))/\(∀w∈ws,w.length<=sizeLine)/\ws.length<64/\TblOk H1 P lpos q /\
 ∀(ws':Q22) (r:Addr) (H2:Hp),ws'.Perm ws->ws'.Pairwise (fun a b=>¬BefW b a)->SameT lpos H1 H2->TblOk H2 P lpos q->H1 r=none->H2 r=some (.lst (ws'.map tx))->Q (.ref r) H2
section
variable {X:Cx}{e:Expr}{ta:TA}{p pos kpos lpos p1 p2 p3 p4 p5:Pos}{k kk:Nat}{c P:Addr}{params:Arguments}{scope:Scope}{x q:Str}
theorem Zip (hr:Room k X.A) (L:LamEnv X.base X.mg c P) (hcode:X.env.code=.ref c) (hg:Gl X "sorted") (hm:X.mg "sorted"=none) (hlen:X.mg "len"=none) (ha:PA X [e] ta) (hcl:closureFor scope X.env=pure []) (hdef:defaultsOf params X.env=([],[])) (hq:X.env.qual++"<lambda>"=q)
  (S:LamSc scope x) (hb:∀(s:Shared) (u pm cv ctv:Value),BindsTo s (kla_fn "<lambda>" q params (ZdL x p1 p2 p3 p4 p5 kk) scope [] pm cv ctv) ⟨[u],[]⟩ [(x,u)])
  (he:backTo pos (starEach [e] X.env)=(false,eval e X.env)::backTo pos (starEach [] X.env):=by rfl) (hpl:(backTo pos (starEach [e] X.env)).any (·.1)=false:=by rfl):
  PE X (.Call (.Name "sorted" p) [e] [⟨some "key",.Lambda params (ZdL x p1 p2 p3 p4 p5 kk) scope lpos,kpos⟩] pos) (Zh5 P lpos q ta):=by
 intro pins s σ H Q I h
 refine YBo (Zeh I hg hm ZhO ?_)
 refine PyProof.Rows.callWith_kw (thn (ha pos pins s σ H _ I h) fun us s1 ⟨vs,H1,I1,r1,q1⟩=>?_) he hpl
 obtain⟨a,ws,rfl,hH,hw,h64,T,q⟩:=q1
 show wpAny _ _ (evalAll ((do let v <-eval (.Lambda params (ZdL x p1 p2 p3 p4 p5 kk) scope lpos) X.env;standAt pos;pure v)::[])) _ _ s1
 refine wpAny_evalAll_cons (YAA (ZiH I1 L hcode hcl hdef hq T fun g H2 s2 cv ctv pm sl T2 fr I2 ho hcd=>YAA (YDa (YAH (wpAny_evalAll_nil ?_)))))
 obtain⟨u,rfl,ru⟩:=r1.one
 cases ru
 have hH2:=sl.1 _ _ hH rfl
 obtain⟨hz,its,n,r,hlen',eo⟩:=I2.lstM hH2
 obtain⟨ew,hs⟩:=ZhX r
 have hN:its.length<=sizeLine:=by rw[<-r.length];exact hz
 obtain⟨mb,b1,b2⟩:=I2.mod.blt
 have key:=Zlf (prog:=X.prog) (w:=X.w) (A:=X.A.in1.in1) (vs:=its) ho rfl hcd S (fun s u=>hb s u pm cv ctv) (show X.A.depth<recursionLimit by have:=hr.dp;omega) (I2.mod.nolimit.keeps I2.bk) (I2.mod.glob.keeps I2.bk) hlen (b1.keeps I2.bk) (b2 _ (by decide)) (fun v hv=>by
  obtain⟨y,t,e1,e2⟩:=hs v hv
  exact⟨y,t,e1,by rw[e2];exact hw _ (by rw[ew];exact YBQ hv)⟩)
 refine Zfb eo key hN (by rw[<-r.length,YAB];exact h64) fun s' r' us e nr kp g1 o1 er pm2 pw=>?_
 have hs2:∀v∈us,∃y t,v=.str y t/\y.length=(txV v).length:=fun v hv=>hs v (pm2.mem_iff.mp hv)
 have rv:Vals ((us.map txV).map tx) us:=Zeb us fun v hv=>let ⟨y,t,e,_⟩:=hs2 v hv;⟨y,t,e⟩
 have hl2:us.length=its.length:=pm2.length_eq
 have fr':H1 r'=none:=fr _ (I2.hok.none_of nr)
 have J:=I2.laid2 (s':=s') (a:=r') (o:=.lst ((us.map txV).map tx)) o1 g1 kp nr ⟨by rw[YAB,YAB];omega,us,e,rv,er⟩
 have hr2:=I2.hok.none_of nr
 refine⟨.ref r',_,J,rfl,q (us.map txV) r' _ (by rw[ew];exact pm2.map _) ?_ (sl.then (Zao hr2)) (T2.same (Zao hr2)) fr' Zad⟩
 rw[YBb]
 refine pw.imp_of_mem fun {y z} hy hz e=>?_
 rw[<-Zlb]
 obtain⟨y1,t1,e1,e2⟩:=hs2 y hy
 obtain⟨z1,t2,e3,e4⟩:=hs2 z hz
 subst e1 e3
 have f1:kfT (.str y1 t1)=((((txV (.str y1 t1)).length:Nat):Int),txV (.str y1 t1)):=by rw[<-e2];rfl
 have f2:kfT (.str z1 t2)=((((txV (.str z1 t2)).length:Nat):Int),txV (.str z1 t2)):=by rw[<-e4];rfl
 rw[f1,f2]at e
 exact e
end
end L2
namespace L2
open PySem PySem.Spec PyProof.Rows
open PySem.W (Frag)
section
variable {X:Cx}
end
theorem ZjA {K:Frag}{H:Hp}{Q:VK}{a b:Addr}{vs:List V}(h1:SqT K H a vs)(h2:SqT K H b vs)(hf:vs.all Zbm=true)(q:Q (.bl false) H):rEqD K true (.ref a) (.ref b) H Q:=
 .inr ⟨_,_,datT h1 hf,datT h2 hf,fun z=>YAF z.1,(ownT h1 hf).2.2,by rw[(ownT h1 hf).2.1];exact q⟩
theorem ZjQ {K:Frag}{H:Hp}{Q:VK}{a b:Addr}{vs:List V}(h1:SqT K H a vs)(h2:SqT K H b vs)(hf:vs.all Zbm=true)(q:Q (.bl true) H):rEqD K false (.ref a) (.ref b) H Q:=
 .inr ⟨_,_,datT h1 hf,datT h2 hf,fun z=>YAF z.1,(ownT h1 hf).2.2,by rw[(ownT h1 hf).2.1];exact q⟩
end L2
namespace L2
open PySem PySem.Spec PyProof.Rows
theorem Zgj:mroOf (.type "dict")=pure [.type "dict",.type "object"]:=by rw[mroOf_type];kernel_rfl
theorem Zd8:typeLookup (.type "dict") "__new__"=pure (some (.builtin "dict.__new__")):=by rw[typeLookup_type,builtinLookup_eq_fast];kernel_rfl
theorem ZhN:TypeCalled "dict" "dict.__new__" "dict.__init__":=
 ⟨by decide +kernel,by decide +kernel,⟨_,_,Zgj⟩,madeBy_type Zgj Zd8 (by decide +kernel),by decide +kernel,by rw[isSubtype_type];kernel_rfl,F.slot_dict_init⟩
theorem Ze4 (a:Value):checkTypeCall "dict" ⟨[a],[]⟩=pure ():=by kernel_rfl
theorem Zgi (a:Value):checkBuiltinCall "dict.__new__" ⟨[.type "dict",a],[]⟩=pure ():=by kernel_rfl
theorem ZeS:entryFor table "dict.__new__"=some Builtin.«dict.__new__»:=entryFor_of_tree (by kernel_rfl)
theorem ZcE:plainId "dict.__new__"=true:=by decide +kernel
theorem Zcp:entryFor table "dict.update.loop"=some Builtin.«dict.update.loop»:=entryFor_of_tree (by kernel_rfl)
theorem Zbj:plainId "dict.update.loop"=true:=by decide +kernel
theorem Ze7:isSubtype (.type "dict") (.type "dict")=pure true:=by rw[isSubtype_type];kernel_rfl
theorem Zix:typeLookup (.type "list") "keys"=pure none:=by rw[typeLookup_type,builtinLookup_eq_fast];kernel_rfl
abbrev noDct:Obj:={ cls:=.type "dict",data:=.dict #[] }
section
variable {prog:Program}{w:World}{A:Around}{E:Q33}{s:Shared}
theorem Zlx (a:Value){Q₁:Q33}(h:Q₁ (.ref s.heap.objs.size) { s with heap:=s.heap.push noDct }):
  codeAny (model prog w) A (.call (.builtin "dict.__new__") ⟨[.type "dict",a],[]⟩) (wants Q₁ E) s:=by
 refine codeAny_of_tree ?_
 show wpAny _ A.in1 (checkBuiltinCall "dict.__new__" ⟨[.type "dict",a],[]⟩ >>= fun _=>again (.builtin "dict.__new__" ⟨[.type "dict",a],[]⟩)) _ _ s
 refine YAA (wpAny_of_eq (Zgi a) (YAH ⟨plainId_quiet ZcE _,codeAny_builtin ZeS ?_⟩))
 rw[YBG ZcE _]
 unfold Builtin.«dict.__new__»
 have hsub:=Ze7
 have hmro:=Zgj
 obtain⟨hp,g,d,tk,os⟩:=s
 dsimp only
 wp_walk
 exact h
theorem Ziy {a:Addr} {o:Obj} {xs:Array Value} {k:Nat} {Q:Option Value->Shared->Prop} (hx:s.heap.get? a=some o) (hc:o.cls=.type "list") (hdat:o.data=.seq xs k) (hd:o.dict=none) (hA:A.handled=none)
  (h:∀h' tk,(∀b ob,s.heap.get? b=some ob->h'.get? b=some ob)->Q none { s with heap:=h',toks:=tk }):
  wpAny (model prog w) A (getAttr? (.ref a) "keys") Q E s:=by
 obtain⟨c,dct,dat,sl⟩:=o
 simp only at hc hdat hd
 subst hc hdat hd
 obtain⟨hp,g,d,tk,os⟩:=s
 have hT:∀tk',(⟨hp,g,d,tk',os⟩:Shared).TypeIs (.ref a) "list":=fun _=>⟨_,hx,rfl⟩
 have f1:=sub_AttributeError
 have f3:=F.slot_list_getattribute.lookup
 have f4:=F.slot_list_getattribute.bind (.ref a)
 have f5:=am_list_getattr_none
 unfold getAttr? getAttrBy? getAttrBy
 repeat (any_goals (first | assumption | exact hT _ | ((with_reducible show wpAny _ _ (call (Value.builtin "list.__getattribute__") _ _) _ _ _);refine call_meets F.slot_list_getattribute (hT _) am_entry_list_getattribute (F.args_list_getattribute_2 _ _) (meets_getattribute_miss_list a xs k sl "keys" _ Zix (by decide +kernel)) ⟨hx,hA,fun h' tk' e hx'=>?_⟩) | wp_step))
 obtain⟨t',u',he⟩:=hx'.there
 show wpAny _ _ (getattributeRaised _ _ _ _ _ _ _) _ _ _
 unfold getattributeRaised
 repeat (any_goals (first | assumption | wp_step))
 exact h _ _ hx'.keeps
def PairAt (P:Program)(w:World)(h:Heap)(u:Value)(x:Key×Value):Prop:=∃b kv,u=.ref b/\h.IsTuple b #[kv,x.2]/\(Zax P w).is x.1 kv=true
theorem PairAt.keep {h h':Heap}{u:Value}{x:Key×Value}{d It l:Addr}{i:Nat}{kvs:List (Key×Value)}(p:PairAt prog w h u x)(hd:h.DictOf (Zax prog w) d kvs)(hi:h.IsListIter It l i)(k:∀b o,b≠d->b≠It->h.get? b=some o->h'.get? b=some o):PairAt prog w h' u x:=by
 obtain⟨b,kv,rfl,⟨o,ho,hc,r⟩,hk⟩:=p
 obtain⟨od,_,_,hod,hcd,_⟩:=hd
 obtain⟨oi,hoi,hci,_⟩:=hi
 refine⟨b,kv,rfl,⟨o,k b o (fun z=>?_) (fun z=>?_) ho,hc,r⟩,hk⟩
 .subst z
  rw[ho]at hod
  cases hod
  have:=hcd.1
  rw[hc]at this
  exact absurd this (by decide)
 .subst z
  rw[ho]at hoi
  cases hoi
  rw[hc]at hci
  exact absurd hci (by decide)
theorem ZeI (kvs:List (Key×Value))(k:Key)(v:Value):(stored kvs k v).length<=kvs.length+1:=by
 unfold stored
 split<;>simp
theorem ZjS {R:Result->Shared->Prop}{l It d:Addr}{us:List Value}(hh:A.handled=none)(n1:It≠d)(n2:l≠d)(n3:l≠It):∀(xs:List (Key×Value)) (i:Nat) (n:Int) (tk:Tok) (s:Shared) (kvs:List (Key×Value)),i+xs.length=us.length ->
  (∀j x,xs[j]?=some x->∃u,us[i+j]?=some u/\PairAt prog w s.heap u x)->s.heap.IsListIter It l i->s.heap.IsList l us.toArray->s.heap.DictOf (Zax prog w) d kvs->kvs.length+xs.length<=sizeLine ->
  (∀h' tk',(∀b o,b≠d->b≠It->s.heap.get? b=some o->h'.get? b=some o)->h'.DictOf (Zax prog w) d (xs.foldl (fun a x=>stored a x.1 x.2) kvs)->R (.ok (.ret .none)) { s with heap:=h',toks:=tk' }) ->
  codeAny (model prog w) A (.builtin "dict.update.loop" ⟨[.ref d,.ref It,.int n tk,.none],[]⟩) R s:=by
 intro xs
 induction xs with
 | nil=>
  intro i n tk s kvs hl hx hi hL hD hz hR
  refine codeAny_builtin Zcp ?_
  rw[YBG Zbj _]
  show wpAny _ A.in1 (pyNext (.ref It) >>= fun r=>_) _ _ s
  refine YAA (wpAny_pyNext_list_end (by simp[hh]) hi hL (by simp at hl;simp[hl]) fun h' eb=>?_)
  dsimp only
  unfold Builtin.Dict.addKeywords
  wp_walk
  exact hR h' _ (fun b o hb hi e=>eb b o hi e) (hD.extBut eb (YAS n1))
 | cons x xs ih=>
  intro i n tk s kvs hl hx hi hL hD hz hR
  refine codeAny_builtin Zcp ?_
  rw[YBG Zbj _]
  show wpAny _ A.in1 (pyNext (.ref It) >>= fun r=>_) _ _ s
  obtain⟨u,hu,pu⟩:=hx 0 x rfl
  refine YAA (YCo hi hL (x:=u) (by simpa using hu) fun h1 hi1 sb1=>?_)
  have pu1:=pu.keep hD hi (h':=h1) (fun b o _ hb e=>(sb1.2 b hb).trans e)
  obtain⟨b,kv,rfl,hb,hk⟩:=pu1
  have hT:Shared.TypeIs { s with heap:=h1 } (.ref b) "tuple":=hb.typeIs
  have hD1:h1.DictOf (Zax prog w) d kvs:=hD.sameBut sb1 (YAS n1)
  have hL1:h1.IsList l us.toArray:=(let ⟨o,ho,r⟩:=hL;⟨o,(sb1.2 l n3).trans ho,r⟩)
  dsimp only
  refine YAA (YBL (YAA (YDR ?_)))
  unfold Builtin.Dict.pairItems
  refine YAA (wpAny_typeOf hT ?_)
  rw[YAW (by decide)]
  obtain⟨o,ho,hc,nn,hd⟩:=hb
  refine YAA (YCw ho hd (YAH ?_))
  show wpAny _ _ (holding [kv,x.2] (dictSet d kv x.2)) _ _ _
  have hz':kvs.length+(xs.length+1)<=sizeLine:=hz
  refine YBL (wpAny_dictSet_pairs hk hD1 (fun h2 hD2 sb2=>?_) (hsz:=by omega))
  have k2:∀b o,b≠d->b≠It->s.heap.get? b=some o->h2.get? b=some o:=fun b o z1 z2 e=>(sb2.2 b z1).trans ((sb1.2 b z2).trans e)
  refine YAH ⟨plainId_quiet Zbj _,ih (i+1) _ _ _ _ (by have:i+(xs.length+1)=us.length:=hl;omega) (fun j y hy=>?_) ?_ ?_ hD2 ?_ (fun h' tk' kp hD'=>hR h' tk' (fun b o z1 z2 e=>kp b o z1 z2 (k2 b o z1 z2 e)) hD')⟩
  .obtain⟨u2,hu2,p2⟩:=hx (j+1) y hy
   exact⟨u2,by rw[<-hu2];congr 1;omega,p2.keep hD hi k2⟩
  .obtain⟨oi,hoi,r⟩:=hi1
   exact⟨oi,(sb2.2 It n1).trans hoi,r⟩
  .obtain⟨ol,hol,r⟩:=hL1
   exact⟨ol,(sb2.2 l n2).trans hol,r⟩
  .have:=ZeI kvs x.1 x.2
   omega
theorem ZjT {a:Addr} {us:List Value} {o:Obj} {nn:Nat} {xs:List (Key×Value)} {Q:Q33} (hh:A.handled=none) (ho:s.heap.get? a=some o) (hc:o.cls=.type "list") (hdat:o.data=.seq us.toArray nn) (hd:o.dict=none) (hl:us.length=xs.length)
  (hx:∀(j:Nat) (x:Key×Value),xs[j]?=some x->∃u,us[j]?=some u/\PairAt prog w s.heap u x) (hz:xs.length<=sizeLine)
  (h:∀h' tk',(∀b o,s.heap.get? b=some o->h'.get? b=some o)->h'.DictOf (Zax prog w) s.heap.objs.size (xs.foldl (fun a x=>stored a x.1 x.2) [])->Q (.ref s.heap.objs.size) { s with heap:=h',toks:=tk' }):
  wpAny (model prog w) A (call (.type "dict") [.ref a]) Q E s:=by
 refine callType_codes (Q₁:=fun obj s₁=>obj=.ref s.heap.objs.size/\s₁={ s with heap:=s.heap.push noDct }) ZhN (Ze4 _) F.entry_dict_init (Zlx _ ⟨rfl,rfl⟩) fun obj s₁ h₁=>?_
 obtain⟨rfl,rfl⟩:=h₁
 have lt:=YAL ho
 have hS:(s.heap.push noDct).get? s.heap.objs.size=some noDct:=YAQ _ rfl
 have hT:Shared.TypeIs { s with heap:=s.heap.push noDct } (.ref s.heap.objs.size) "dict":=⟨_,hS,rfl⟩
 refine⟨hT,F.args_dict_init_2 _ _,?_⟩
 unfold Builtin.«dict.__init__» Builtin.Dict.selfAndRest
 refine YAA (YAA (wpAny_notOrdered_dict hT ?_))
 show wpAny _ _ (pure (s.heap.objs.size,[Value.ref a])) _ _ _
 refine YAH ?_
 show wpAny _ _ (Builtin.Dict.updateFrom "dict.__init__" s.heap.objs.size (.ref a) [] .none) _ _ _
 unfold Builtin.Dict.updateFrom
 have ho1:(s.heap.push noDct).get? a=some o:=YAC _ ho
 have hTl:Shared.TypeIs { s with heap:=s.heap.push noDct } (.ref a) "list":=⟨_,ho1,hc⟩
 refine YAA (wpAny_typeOf hTl ?_)
 rw[YAW (by decide)]
 refine YAA (Ziy ho1 hc hdat hd (by simp[hh]) fun h2 tk2 k2=>?_)
 rw[YAW (show (none:Option Value).isNone=true from rfl)]
 refine YAA (YCr ?_)
 have hL2:h2.IsList a us.toArray:=⟨o,k2 _ _ ho1,hc,nn,hdat⟩
 have lt2:s.heap.objs.size<h2.objs.size:=YAL (k2 _ _ hS)
 have la2:a<h2.objs.size:=YAL (k2 _ _ ho1)
 show wpAny _ _ (pyIter (.ref a) >>= fun it=>again (.builtin "dict.update.loop" ⟨[.ref s.heap.objs.size,it,rawInt 0,.none],[]⟩)) _ _ _
 refine YAA (YCC hL2 ?_)
 have k3:∀b o,s.heap.get? b=some o->(h2.push { cls:=.type "list_iterator",data:=.fields #[.ref a,.int 0 0] }).get? b=some o:=fun b o e=>YAC _ (k2 b o (YAC _ e))
 have hD3:(h2.push { cls:=.type "list_iterator",data:=.fields #[.ref a,.int 0 0] }).DictOf (Zax prog w) s.heap.objs.size []:=by
  obtain⟨od,es,ep,hod,r⟩:=Heap.DictOf.new (knd:=Zax prog w) s.heap
  exact⟨od,es,ep,YAC _ (k2 _ _ hod),r⟩
 refine YAH ⟨plainId_quiet Zbj _,ZjS (by simp[hh]) (Nat.ne_of_gt lt2) (YAi lt) (YAi la2) xs 0 _ _ _ [] (by rw[hl];simp) (fun j x hj=>?_) ⟨_,YAQ _ rfl,rfl,rfl⟩ (hL2.push _) hD3 (by simpa using hz) fun h' tk' kp hD'=>?_⟩
 .obtain⟨u,hu,b,kv,rfl,⟨ob,hob,r⟩,hk⟩:=hx j x hj
  exact⟨_,by simpa using hu,b,kv,rfl,⟨ob,k3 _ _ hob,r⟩,hk⟩
 .refine⟨rfl,h h' tk' (fun b o e=>kp b o (YAi (YAL e)) (fun z=>?_) (k3 b o e)) hD'⟩
  have z1:=YAL e
  rw[z]at z1
  exact absurd (Nat.lt_trans z1 lt2) (YAo _)
end
section
variable {X:Cx}
def Zks (H:Hp)(ys:List V)(xs:List (Key×V)):Prop:=ys.length=xs.length/\∀(i:Nat) (y:V),ys[i]?=some y->∃(x:Key×V) (b:Addr),xs[i]?=some x/\y=.ref b/\H b=some (.tup [kV x.1,x.2])
def rDct:List V->Hp->VK->Prop:=fun vs H Q=>∃p ys xs,vs=[.ref p]/\H p=some (.lst ys)/\Zks H ys xs/\∀d,H d=none->Q (.ref d) (upd H d (.dK (Zaz [] xs)))
theorem ZgV {pins:List (Addr×Obj)}{σ:St}{H:Hp}{s:Shared}(I:Inv X pins σ H s):∀(xs:List (Key×V)) (ys:List V) (its:List Value),Vals ys its->Zks H ys xs->∃vs:List (Key×Value),KV xs vs/\∀(j:Nat) (x:Key×Value),vs[j]?=some x->∃u,its[j]?=some u/\PairAt X.prog X.w s.heap u x
 | [],ys,its,r,⟨hl,hx⟩=>⟨[],.nil,fun j x h=>by simp at h⟩
 | x::xs,ys,its,r,⟨hl,hx⟩=>by
  cases r with
  | nil=>simp at hl
  | @cons y u ys its ry r=>
   obtain⟨x',b,e1,rfl,hb⟩:=hx 0 y rfl
   cases e1
   obtain rfl:u=Value.ref b:=ry
   obtain⟨its2,r2,hT,_⟩:=I.tuple (a:=b) (xs:=[kV x.1,x.2]) (.inl (.inl hb))
   obtain⟨k',v',rfl,rk,rv⟩:∃k' v',its2=[k',v']/\RelV (kV x.1) k'/\RelV x.2 v':=by
    cases r2 with
    | cons p q=>
     cases q with
     | cons p' q'=>cases q';exact⟨_,_,rfl,p,p'⟩
   obtain⟨vs,hv,hp⟩:=ZgV I xs ys its r ⟨by simpa using hl,fun i z hz=>by
    obtain⟨x2,b2,h1,h2⟩:=hx (i+1) z hz
    exact⟨x2,b2,h1,h2⟩⟩
   refine⟨(x.1,v')::vs,.cons ⟨rfl,rv⟩ hv,fun j z hz=>?_⟩
   cases j with
   | zero=>
    cases hz
    exact⟨_,rfl,b,k',rfl,hT,Zd9 rk⟩
   | succ j=>exact hp j z hz
theorem Zhb (hc:X.calm=true):ZbR X (.type "dict") rDct:=by
 rintro pins s σ H vs us Q I r ⟨p,ys,xs,rfl,hp,hx,q⟩
 obtain⟨u,rfl,ru⟩:=r.one
 cases ru
 obtain⟨its,rv,⟨o,n,ho,hcl,hd,hs⟩,hz⟩:=I.list (a:=p) (xs:=ys) (.inl (.inl hp))
 obtain⟨vs,hv,hP⟩:=ZgV I xs ys its rv hx
 have l1:=rv.length
 have l2:=hv.length
 have l3:=hx.1
 refine ZjT (I.ok.hd hc) ho hcl hs hd (by omega) hP (by omega) fun h' tk' kp hD=>?_
 refine⟨.ref s.heap.objs.size,_,I.laid (t':=tk') kp (YAJ _) (ZfN (kvs:=Zaz [] xs) ?_ ?_ (KV.merge hv .nil) hD),rfl,q _ I.fresh⟩
 .have:=ZaQ xs []
  simp only[YCl]at this
  omega
 .exact beq_eq_false_iff_ne.mpr (YAS (YAi I.big))
end
end L2
namespace L2
open PySem PySem.Spec PyProof.Rows PySem.W
theorem ZdB (ns:List Int):∀j,j<=ns.length->preSum (fun i=>ns.getD i 0) j=(ns.take j).sum
 | 0,_=>by simp[preSum]
 | j+1,h=>by
  have e:ns.take (j+1)=ns.take j++[ns[j]]:=by rw[List.take_succ,YAE (by omega)];rfl
  rw[preSum,ZdB ns j (by omega),e,List.sum_append,YAG,YAE (by omega)]
  simp
section
variable {X:Cx}{o:Expr}{td:TE}{p pos ap cp:Pos}
end
end L2
namespace L2
open PySem PySem.Spec PyProof.Rows
section
variable {X:Cx}{es:List Expr}{x1:Nat}{tp:Pos}
end
end L2
namespace L2
open PySem PySem.Spec PyProof.Rows PySem.W
theorem KV.getV {kvs:List (Key×V)}{vs:List (Key×Value)}(r:KV kvs vs):∀ {i:Nat} {p:Key×V},kvs[i]?=some p->∃v,vs[i]?=some (p.1,v)/\RelV p.2 v:=by
 induction r with
 | nil=>intro i p h;simp at h
 | cons hd _ ih=>
  intro i p h
  cases i with
  | zero=>
   rename_i p0 q0 _ _ _
   have h:p0=p:=by simpa using h
   subst h
   exact⟨q0.2,by show some q0=some (p0.1,q0.2);rw[hd.1],hd.2⟩
  | succ i=>
   obtain⟨v,h1,h2⟩:=ih (by simpa using h)
   exact⟨v,by simpa using h1,h2⟩
def Itv (o:Obj)(kvs:List (Key×V))(a:Addr):It:=
 ⟨fun i H=>H a=some (.frz o (.dK kvs))/\i<kvs.length,fun i H x H'=>H'=H/\∃p,kvs[i]?=some p/\x=p.2,fun i H=>H a=some (.frz o (.dK kvs))/\kvs.length<=i⟩
theorem Zf8 {P:Program}{w:World}{K:Q44}{tg:Expr}{o:Obj}{es:Array DictEntry}{ep:Nat}{kvs:List (Key×V)}(a it:Addr)(hd:o.data=.dict es ep):Turn P w K tg (Itv o kvs a) [it] it (fun i h=>h.IsValIter it a i kvs.length ep) where
 mem:=by simp
 obj:=fun i h st b hb=>by
  have e:b=it:=by simpa using hb
  subst e
  obtain⟨o,e,c,d⟩:=st
  exact⟨o,e,fun v z=>by rw[d]at z;cases z⟩
 keep:=fun i h h' st k=>let ⟨o,ho,r⟩:=st;⟨o,k it (by simp) o ho,r⟩
 item:=by
  intro X hP hw hK hc i pins s σ H E I hf st hg
  subst hP hw hK
  obtain⟨ha,hi⟩:=hg
  obtain⟨e,z,y,vs,r,o',es',ep',e',c1,c2,c3⟩:=I.hok a _ ha
  rw[e]at e'
  cases e'
  rw[hd]at c2
  cases c2
  obtain⟨v,hv,rv⟩:=KV.getV r (YAE hi)
  obtain⟨f0,f1,f2,f3,f4,f5⟩:=hf it (by simp)
  rw[r.length]at st
  refine wpAny_pyNext_values_item st ⟨o,es,e,c1,hd,c3⟩ hv fun h' st' sb=>?_
  have I1:Inv X pins σ H { s with heap:=h' }:=I.turned (t':=s.toks) (fun b o hb e=>(sb.2 b hb).trans e) f0 f1 f3 f4 f5
  obtain⟨oi,ei,ci,di⟩:=id st'
  rw[<-r.length]at st'
  exact⟨v,rfl,ZiR (s:={ s with heap:=h' }) ei ci di (by decide) ⟨kvs[i].2,H,I1,rv,⟨rfl,_,YAE hi,rfl⟩,st',fun b hb=>(hf b hb).1⟩⟩
 done:=by
  intro X hP hw hK hc i pins s σ H E I hf st hg
  subst hP hw hK
  obtain⟨ha,hi⟩:=hg
  obtain⟨e,z,y,vs,r,o',es',ep',e',c1,c2,c3⟩:=I.hok a _ ha
  rw[e]at e'
  cases e'
  rw[hd]at c2
  cases c2
  obtain⟨f0,f1,f2,f3,f4,f5⟩:=hf it (by simp)
  rw[r.length]at st hi
  exact wpAny_pyNext_values_end (I.ok.hd hc) st ⟨o,es,e,c1,hd,c3⟩ (YBc hi) fun h' eb=>⟨rfl,I.turned (t':=s.toks) (fun b o hb e=>eb b o hb e) f0 f1 f3 f4 f5⟩
 self:=fun _ _ _ _ _ st h=>wpAny_pyIter_valiter st h
section
variable {X:Cx}{tg:Expr}{o:Expr}{td:TE}{ap cp:Pos}
def ZmW (td:TE):TI:=fun σ H R=>td σ H fun x H1=>∃a kvs,x=.ref a/\H1 a=some (.dK kvs)/\∀o,R (Itv o kvs a) (upd H1 a (.frz o (.dK kvs)))
theorem Zio (ho:PE X o td) (hbase:attributeBase o "values" X.env (eval o X.env)=eval o X.env:=by rfl) (hline:(ap.endLine == cp.line)=true:=by rfl):PI X tg (.Call (.Attribute o "values" ap) [] [] cp) (ZmW td):=by
 intro pins s σ H R I h
 refine YDT (T:="dict") (id:="dict.values") hbase rfl hline YCh PySem.F.slot_dict_values PySem.F.type_dict_values (thn (ho pins s σ H _ I h) fun u s1 ⟨x,H1,I1,rx,a,kvs,ex,ha,q⟩=>?_)
 subst ex
 obtain rfl:u=Value.ref a:=rx
 obtain⟨hz,hd,vs,r,dd⟩:=ZfM I1.hok ha
 obtain⟨ob,es,ep,e1,e2,e3,e4⟩:=id dd
 refine⟨dd.typeIs,fun b z=>?_,?_⟩
 .cases z
  exact⟨ob,e1,e2.2.1⟩
 refine method_meetsIn PySem.F.slot_dict_values PySem.F.entry_dict_values rfl (PySem.evalArgs_none ⟨rfl,dd.typeIs,PySem.F.args_dict_values_1 _,_,meets_dict_values _ a hd,⟨vs,dd⟩,?_⟩)
 obtain⟨o2,es2,ep2,hd2,ho2,I2⟩:=I1.freezeD ha
 rw[e1]at ho2
 cases ho2
 rw[e3]at hd2
 cases hd2
 generalize hg2:s1.heap.push { cls:=.type "dict_values",data:=.fields #[.ref a] }=g2
 have k2:∀b o,s1.heap.get? b=some o->g2.get? b=some o:=fun b o e=>by rw[<-hg2];exact YAC _ e
 have vw:g2.IsValuesView s1.heap.objs.size a:=⟨_,by rw[<-hg2];exact YAQ _ rfl,rfl,rfl⟩
 have I3:Inv X pins σ (upd H1 a (.frz ob (.dK kvs))) { s1 with heap:=g2 }:=I2.kept (t':=s1.toks) k2
 refine wpAny_pyIter_values (s:={ s1 with heap:=g2 }) vw (show g2.DictAt (Zax X.prog X.w) a vs ep from⟨ob,es,k2 _ _ e1,e2,e3,e4⟩) ?_
 refine⟨g2.objs.size,[g2.objs.size],_,_,_,rfl,I3.kept (t':=s1.toks) fun b o e=>YAC _ e,Zf8 (kvs:=kvs) a _ e3,⟨_,YAQ _ rfl,rfl,by rw[r.length];rfl⟩,fun b hb=>?_,q ob⟩
 have e:b=g2.objs.size:=by simpa using hb
 subst e
 exact I3.fpOk (YAJ _) (I3.hok.fresh (YAJ _))
variable {els:List Expr}{x1:Nat}{tp:Pos}
end
section
variable {g:TG}{tb:TS}{D:Ends}{σ:St}{H:Hp}{o:Obj}{kvs:List (Key×V)}{a:Addr}
end
section
variable {Q:VK}{τ0:St}{H:Hp}{o:Obj}{kvs:List (Key×V)}{a:Addr}{te:TE}
end
theorem ZfU {X:Cx}(hc:X.calm=true):ZbR X (.builtin "sum") (fun xs H Q=>∃(a:Addr) (ns:List Int),xs=[.ref a]/\H a=some (.lst (ns.map V.int))/\Q (.int ns.sum) H):=by
 rintro pins s σ H xs us Q I r ⟨a,ns,rfl,ha,q⟩
 obtain⟨u,rfl,ru⟩:=r.one
 cases ru
 obtain⟨_,its,n,r2,hlen,eo⟩:=I.lstM ha
 have hl:its.length=ns.length:=by rw[<-r2.length,YAB]
 have hI:s.heap.IsList a its.toArray:=YCb eo
 have lt:a<s.heap.objs.size:=YAL eo
 have hh:X.A.in1.handled=none:=by simpa using I.ok.hd hc
 refine call_sum_walkAnyS (YCC hI ?_)
 refine⟨s.heap.objs.size,_,_,_,its.toArray.size,_,_,fun i=>ns.getD i 0,rfl,(Walks.list (prog:=X.prog) (w:=X.w) (A:=X.A.in1) hh s.heap.objs.size a (YAi lt) its.toArray).toS,⟨⟨_,YAQ _ rfl,rfl,rfl⟩,hI.push _⟩,fun b hb=>?_,fun i v hv=>?_,fun s' t' hm=>?_⟩
 .show b<(s.heap.push _).objs.size
  rw[size_push']
  rcases YAY.mp hb with e | hb
  .rw[e];exact YDf _
  .rw[YAO.mp hb];exact YCs lt
 .have hv:its[i]?=some v:=by simpa using hv
  have hi:=(YAD.mp hv).1
  obtain⟨x,hx,rx⟩:=Zdr r2 hv
  rw[YAZ,YAE (by omega)]at hx
  have hx:V.int ns[i]=x:=Option.some.inj hx
  subst hx
  obtain⟨t,rfl⟩:=rx
  exact⟨t,by show Value.int ns[i] t=Value.int (ns.getD i 0) t;rw[YAG,YAE (by omega)];rfl⟩
 .have hk:∀b o,s.heap.get? b=some o->s'.heap.get? b=some o:=fun b o e=>
   hm.heap b o (fun hI=>absurd (YAL e) (by rw[YAO.mp hI];exact YAo _)) (YAC _ e)
  rw[Moved.eq_with hm,YAP,hl,ZdB ns _ (YAJ _),YBH]
  exact⟨.int ns.sum,H,I.kept (t':=s'.toks) hk,⟨t',rfl⟩,q⟩
def rEqE:R2:=fun x y H Q=>∃a b kvs,x=.ref a/\y=.ref b/\H a=some (.dK kvs)/\H b=some (.dK [])/\Q (.bl (kvs.length == 0)) H
theorem Zmy {X:Cx}(hu:X.A.units+64<cLine):OpR X (compareOp .Eq) rEqE:=by
 intro pins s σ H x y v u Q I rx ry h
 obtain⟨a,b,kvs,rfl,rfl,ea,eb,q⟩:=h
 cases rx;cases ry
 obtain⟨_,hm,vs,r,d⟩:=ZfM I.hok ea
 obtain⟨_,hm2,vs2,r2,d2⟩:=ZfM I.hok eb
 cases r2
 have hl:=KV.length r
 exact PySem.W.keq_eq hm hm2 d d2 (by omega) (r:=true) (fun e=>by
  cases vs with
  | nil=>exact .nil
  | cons p vs=>simp at e) ⟨.bl (kvs.length == 0),H,I,by rw[hl,Bool.and_true];rfl,q⟩
section
variable {prog:Program}{w:World}{A:Around}{E:Q33}{s:Shared}{l I S:Addr}{ns:List Int}{vs:List Value}{R:Result->Shared->Prop}{Q:Q33}
theorem Ziz (hh:A.handled=none)(rv:Vals (ns.map V.int) vs)(hl:s.heap.IsList l vs.toArray)(lI:l≠I)(lS:l≠S)(SI:S≠I)
  (hR:∀i v h' k,vs[i]?=some v->Most ns i vs.length->(∀b o,b≠I->b≠S->s.heap.get? b=some o->h'.get? b=some o)->R (.ok (.ret v)) { s with heap:=h',toks:=k }):
  ∀(r j i:Nat) (h:Heap) (tk:Nat) (vb:Value) (c:Nat),vs.length-(j+1)=r->j+1<=vs.length->(∀b o,b≠I->b≠S->s.heap.get? b=some o->h.get? b=some o) ->
   h.get? S=some (seqObj "list" #[vb,vb] c)->h.IsListIter I l (j+1)->vs[i]?=some vb->i<=j->Most ns i (j+1) ->
   codeAny (model prog w) A (.builtin "max.loop" ⟨[.ref I,.none,.ref S],[]⟩) R { s with heap:=h,toks:=tk }:=by
 have nm:(toString "max"++toString ".loop":String)="max.loop":=by decide
 have hh1:A.in1.handled=none:=by simpa using hh
 have hla:∀h:Heap,(∀b o,b≠I->b≠S->s.heap.get? b=some o->h.get? b=some o)->h.IsList l vs.toArray:=fun h k=>hl.at fun o e=>k l o lI lS e
 intro r
 induction r with
 | zero=>
  intro j i h tk vb c hr hj kp oS it hvb hij hb
  refine codeAny_builtin PySem.F.entry_max_loop ?_
  rw[YBG YBj _]
  show wpAny _ A.in1 (seqItems? (.ref S) >>= _) _ _ _
  refine YAA (YCw oS rfl ?_)
  show wpAny _ A.in1 (tryCatch (pyNext (.ref I)) _ >>= _) _ _ _
  refine YAA (YDR (wpAny_pyNext_list_end hh1 it (hla h kp) (by simp;omega) fun h' k'=>?_))
  show wpAny _ A.in1 (updateSeq S (fun _=>#[]) >>= _) _ _ _
  refine YAA (YDG (k' S _ SI oS) rfl (YAA (wpAny_letGo (YAH ?_))))
  refine hR i vb _ _ hvb (fun j' hj'=>hb j' (by omega)) fun b o n1 n2 e=>?_
  exact((YAk h' S _).2 b n2).trans (k' b o n1 (kp b o n1 n2 e))
 | succ r ih=>
  intro j i h tk vb c hr hj kp oS it hvb hij hb
  have hlt:j+1<vs.length:=by omega
  refine codeAny_builtin PySem.F.entry_max_loop ?_
  rw[YBG YBj _]
  show wpAny _ A.in1 (seqItems? (.ref S) >>= _) _ _ _
  refine YAA (YCw oS rfl ?_)
  show wpAny _ A.in1 (tryCatch (pyNext (.ref I)) _ >>= _) _ _ _
  have hv:vs[j+1]?=some vs[j+1]:=YAE hlt
  generalize vs[j+1]=v at hv
  refine YAA (YDR (YCo it (hla h kp) (x:=v) (by simpa using hv) fun h' it' k'=>?_))
  show wpAny _ A.in1 (tryCatch (holding [v,v] (richCompare .Gt v vb >>= _)) _ >>= _) _ _ _
  refine YAA (YDR (YBL (YAA (CmpOf.ints_gt (prog:=prog) (w:=w) (A:=A.in1) (P:=fun i v=>∃t,v=.int (ns.getD i 0) t) (fun i=>ns.getD i 0) (fun i v h=>h) (j+1) i _ _ _ _ _ (ZeN rv hv) (ZeN rv hvb) ?_))))
  refine YAA (YBL (YBS (YAA (wpAny_letGo (YAH ?_)))))
  have oS':h'.get? S=some (seqObj "list" #[vb,vb] c):=(k'.2 S SI).trans oS
  have kp':∀b o,b≠I->b≠S->s.heap.get? b=some o->h'.get? b=some o:=fun b o n1 n2 e=>(k'.2 b n1).trans (kp b o n1 n2 e)
  by_cases lt:ns.getD i 0<ns.getD (j+1) 0
  .rw[YAW (by simpa using lt)]
   refine YAA (YDG oS' rfl (YAA (wpAny_letGo ?_)))
   rw[nm]
   have sb:=YAk h' S (Obj.mapSeq fun _=>#[v,v])
   refine YAH ⟨plainId_quiet YBj _,ih (j+1) (j+1) _ _ v _ (by omega) hlt (fun b o n1 n2 e=>(sb.2 b n2).trans (kp' b o n1 n2 e)) (get?_update_seq oS' fun _=>#[v,v]) (it'.at fun o e=>(sb.2 I SI.symm).trans e) hv (YAJ _) fun j' hj'=>?_⟩
   by_cases e:j'=j+1
   .subst e;exact Int.le_refl _
   .have:=hb j' (by omega)
    omega
  .rw[YAX (by simpa using lt)]
   refine YAA (wpAny_letGo ?_)
   rw[nm]
   refine YAH ⟨plainId_quiet YBj _,ih (j+1) i _ _ vb c (by omega) hlt kp' oS' it' hvb (by omega) fun j' hj'=>?_⟩
   by_cases e:j'=j+1
   .subst e;omega
   .exact hb j' (by omega)
theorem ZhQ (a:Value):argsOk "max" ⟨[a],[]⟩:=by unfold argsOk;kernel_rfl
theorem maxL (hh:A.handled=none)(rv:Vals (ns.map V.int) vs)(hl:s.heap.IsList l vs.toArray)
  (hQ:∀i v h' k,vs[i]?=some v->Most ns i vs.length->(∀b o,s.heap.get? b=some o->h'.get? b=some o)->Q v { s with heap:=h',toks:=k }) (hne:0<vs.length):
  wpAny (model prog w) A (call (.builtin "max") [.ref l] []) Q E s:=by
 have nm:(toString "max"++toString ".loop":String)="max.loop":=by decide
 have hh1:A.in1.handled=none:=by simpa using hh
 obtain⟨ol,hol,_⟩:=id hl
 have ll:l<s.heap.objs.size:=YAL hol
 refine kmb_tree PySem.F.kind_max PySem.F.plain_max PySem.F.entry_max (ZhQ _) ?_
 show wpAny _ A.in1 (Builtin.Builtins.bindParams "max" ["key","default"] 0 ⟨[],[]⟩ >>= _) _ _ s
 refine YAA (wpAny_of_eq (show Builtin.Builtins.bindParams "max" ["key","default"] 0 ⟨[],[]⟩=pure [none,none] from rfl) (YAA (YAH (YAA (YCC hl (YAA (YBk ?_)))))))
 rw[nm]
 refine YAH ⟨plainId_quiet YBj _,?_⟩
 generalize gI:(s.heap.push { cls:=.type "list_iterator",data:=.fields #[.ref l,.int 0 0] })=h1
 have z1:h1.objs.size=s.heap.objs.size+1:=by rw[<-gI];exact size_push' ..
 have k0:∀b o,s.heap.get? b=some o->(h1.push (seqObj "list" #[] 0)).get? b=some o:=fun b o e=>YAC _ (by rw[<-gI];exact YAC _ e)
 have oI:(h1.push (seqObj "list" #[] 0)).IsListIter s.heap.objs.size l 0:=⟨_,YAC _ (by rw[<-gI];exact YAQ _ rfl),rfl,rfl⟩
 have oS:(h1.push (seqObj "list" #[] 0)).get? h1.objs.size=some (seqObj "list" #[] 0):=YAQ _ rfl
 have SI:h1.objs.size≠s.heap.objs.size:=by omega
 refine codeAny_builtin PySem.F.entry_max_loop ?_
 rw[YBG YBj _]
 show wpAny _ A.in1 (seqItems? (.ref h1.objs.size) >>= _) _ _ _
 refine YAA (YCw oS rfl ?_)
 show wpAny _ A.in1 (tryCatch (pyNext (.ref s.heap.objs.size)) _ >>= _) _ _ _
 have hv:vs[0]?=some vs[0]:=YAE hne
 generalize vs[0]=v at hv
 refine YAA (YDR (YCo oI (hl.at fun o e=>k0 l o e) (x:=v) (by simpa using hv) fun h' it' k'=>?_))
 have oS':h'.get? h1.objs.size=some (seqObj "list" #[] 0):=(k'.2 _ SI).trans oS
 show wpAny _ A.in1 (updateSeq h1.objs.size (fun _=>#[v,v]) >>= _) _ _ _
 refine YAA (YDG oS' rfl ?_)
 rw[nm]
 have sb:=YAk h' h1.objs.size (Obj.mapSeq fun _=>#[v,v])
 refine YAH ⟨plainId_quiet YBj _,Ziz hh rv hl (YAi ll) (YAi (by rw[z1];exact YCs ll)) SI (fun i v h'' k e b kp=>hQ i v h'' k e b fun c o q=>kp c o (fun z=>?_) (fun z=>?_) q) _ 0 0 _ _ v _ rfl hne (fun b o n1 n2 e=>?_) (get?_update_seq oS' fun _=>#[v,v]) (it'.at fun o e=>(sb.2 _ SI.symm).trans e) hv (YAJ _) fun j' hj'=>?_⟩
 .rw[z]at q;exact absurd (YAL q) (YAo _)
 .have y:=YAL q
  rw[z,z1]at y
  exact absurd y (YDV.mpr (YCO _))
 .exact(sb.2 b n2).trans ((k'.2 b n1).trans (k0 b o e))
 .have e:j'=0:=by omega
  subst e;exact Int.le_refl _
end
theorem ZiZ {X:Cx}(hc:X.calm=true):ZbR X (.builtin "max") (fun xs H Q=>∃(a:Addr) (ns:List Int),xs=[.ref a]/\H a=some (.lst (ns.map V.int))/\ns≠[]/\∀r,r∈ns->(∀x∈ns,x<=r)->Q (.int r) H):=by
 rintro pins s σ H xs us Q I r ⟨a,ns,rfl,hH,hne,q⟩
 obtain⟨u,rfl,ru⟩:=r.one
 cases ru
 obtain⟨_,its,k,r,hlen,eo⟩:=I.lstM hH
 have hn:its.length=ns.length:=by rw[<-r.length,YAB]
 have np:0<ns.length:=YCd.mpr hne
 refine maxL (I.ok.hd hc) r (YCb eo) (fun i v h' k ev lb kp=>?_) (by omega)
 obtain⟨t2,rfl⟩:=ZeN r ev
 have hi:i<ns.length:=by rw[<-hn];exact(YAD.mp ev).1
 refine⟨.int (ns.getD i 0),_,I.kept (t':=k) kp,⟨t2,rfl⟩,q _ ?_ fun x hx=>?_⟩
 .rw[YAG,YAE hi];exact YBM hi
 .obtain⟨j,hj,rfl⟩:=List.mem_iff_getElem.mp hx
  have:=lb j (by rw[hn];exact hj)
  rwa [YAG,YAE hj]at this
end L2
namespace L2
open PySem PySem.Spec PyProof.Rows
structure Lin {α:Type}(lt:α->α->Bool):Prop where
 asym:∀a b,lt a b=true->lt b a=false
 trans:∀a b c,lt a b=true->lt b c=true->lt a c=true
 tri:∀a b,lt a b=false->lt b a=false->a=b
section
variable {prog:Program}{w:World}{A:Around}{E:Q33}{s:Shared}
end
section
variable {prog:Program}{w:World}{A:Around}{E:Q33}{s:Shared}
end
section
variable {X:Cx}
end
theorem Zi8 {a b:Q11}(h1:BefW a b)(h2:BefW b a):False:=by
 rcases h1 with h1 | ⟨h1,k1⟩<;>rcases h2 with h2 | ⟨h2,k2⟩
 .omega
 .omega
 .omega
 .exact List.lt_asymm k1 k2
theorem ZcR:∀ {a b:Q22},a.Pairwise BefW->b.Pairwise BefW->(∀x,x∈a↔x∈b)->a=b
 | [],[],_,_,_=>rfl
 | [],y::b,_,_,h=>by have:=(h y).mpr YAa;cases this
 | x::a,[],_,_,h=>by have:=(h x).mp YAa;cases this
 | x::a,y::b,ha,hb,h=>by
  have pa:=YCk.mp ha
  have pb:=YCk.mp hb
  have e:x=y:=by
   rcases YAY.mp ((h x).mp YAa) with z | z
   .exact z
   .rcases YAY.mp ((h y).mpr YAa) with z2 | z2
    .exact z2.symm
    .exact(Zi8 (pb.1 x z) (pa.1 y z2)).elim
  subst e
  congr 1
  refine ZcR pa.2 pb.2 fun z=>?_
  constructor
  .intro hz
   rcases YAY.mp ((h z).mp (YAV _ hz)) with e | e
   .rw[e]at hz;exact(Zhc (pa.1 x hz)).elim
   .exact e
  .intro hz
   rcases YAY.mp ((h z).mpr (YAV _ hz)) with e | e
   .rw[e]at hz;exact(Zhc (pb.1 x hz)).elim
   .exact e
theorem ZaG {x y:Q11}(e:kTx x=kTx y):x=y:=by unfold kTx at e;injection e with e;injection e with e;injection e
theorem Zg3 (l:Q11)(k:Nat):Inf (l.take k) l:=⟨0,by rw[YAd];omega,by rw[YCx,List.take_eq_take_iff,YAd];omega⟩
instance (w l:Q11):Decidable (Inf w l):=decidable_of_iff (∃i,i<l.length+1/\i+w.length<=l.length/\(l.drop i).take w.length=w) ⟨fun ⟨i,_,h⟩=>⟨i,h⟩,fun ⟨i,h⟩=>⟨i,by have:=h.1;omega,h⟩⟩
theorem ZgF {ws ws':Q22}(pm:ws'.Perm ws)(pw:ws'.Pairwise fun a b=>¬BefW b a)(nd:ws.Nodup):ws'.Pairwise BefW:=by
 refine(pw.and (pm.nodup_iff.mpr nd)).imp ?_
 rintro a b ⟨h1,h2⟩
 rcases YCT a.length b.length with z | z | z
 .exact .inl z
 .rcases ZiA a b with k | k | k
  .exact .inr ⟨z,k⟩
  .exact absurd k h2
  .exact absurd (.inr ⟨z.symm,k⟩) h1
 .exact absurd (.inl z) h1
def Av (W:Q22)(w:Q11):Prop:=∀v∈W,¬Inf v w
def Stem (W:Q22)(u:Q11):Prop:=u=[]\/∃v∈W,∃k,k<v.length/\u=v.take k
def Zb9 (W:Q22)(u e:Q11):Prop:=∃d,d<=u.length/\e=u.drop d/\Stem W e/\∀j,j<d->¬Stem W (u.drop j)
theorem Av.inf {W:Q22}{u w:Q11}(h:Av W w)(hu:Inf u w):Av W u:=fun v hv hi=>h v hv (hi.trans hu)
theorem Zcm (a b:Q11):Inf a (a++b):=⟨0,by rw[YAI];omega,by rw[YCx,List.take_left]⟩
theorem Zkq {W:Q22}{u e:Q11}(hu:Av W u)(he:Zb9 W u e)(x:Q11):Av W (u++x)↔Av W (e++x):=by
 obtain⟨d,hd,rfl,hs,hm⟩:=he
 have ed:(u++x).drop d=u.drop d++x:=YBs hd
 constructor
 .intro h
  refine h.inf ?_
  rw[<-ed]
  by_cases z:d<=(u++x).length
  .exact⟨d,by rw[YAn];omega,by rw[YBH]⟩
  .rw[YBy (by omega)];exact Inf.nil _
 .rintro h v hv ⟨i,h1,h2⟩
  rw[YAI]at h1
  by_cases c1:i+v.length<=u.length
  .refine hu v hv ⟨i,c1,?_⟩
   rw[YBs (by omega),YBY (by rw[YAn];omega)]at h2
   exact h2
  .by_cases c2:d<=i
   .refine h v hv ⟨i-d,?_,?_⟩
    .rw[YAI,YAn];omega
    .rw[<-ed,YCZ]
     have:d+(i-d)=i:=by omega
     rw[this];exact h2
   .refine hm i (by omega) (.inr ⟨v,hv,u.length-i,by omega,?_⟩)
    rw[<-h2,List.take_take]
    have e1:min (u.length-i) v.length=u.length-i:=by omega
    rw[e1,YBs (by omega),YBY (by rw[YAn];exact YAJ _),YCJ (by rw[YAn];exact YAJ _)]
def Anti (W:Q22):Prop:=∀v∈W,∀w∈W,Inf v w->v=w
theorem Zga {W:Q22}(ha:Anti W)(hn:∀v∈W,v≠[]){u:Q11}(h:Stem W u):Av W u:=by
 rintro v hv hi
 rcases h with rfl | ⟨w,hw,k,hk,rfl⟩
 .have:=hi.len
  exact hn v hv (YAw.mp (by simpa using this))
 .have hl:=hi.len
  rw[YAd]at hl
  have e:=ha v hv w hw (hi.trans (Zg3 w k))
  rw[e]at hl
  omega
theorem ZeM (W:Q22)(u:Q11):∃e,Zb9 W u e:=by
 classical
 have:∃d,Stem W (u.drop d):=⟨u.length,.inl (YBy (YAJ _))⟩
 obtain⟨d,hd,hm⟩:∃d,Stem W (u.drop d)/\∀j,j<d->¬Stem W (u.drop j):=by
  obtain⟨d,hd⟩:=this
  induction d using Nat.strongRecOn with
  | _ d ih=>
   by_cases c:∃j,j<d/\Stem W (u.drop j)
   .obtain⟨j,hj,hs⟩:=c
    exact ih j hj hs
   .exact⟨d,hd,fun j hj hs=>c ⟨j,hj,hs⟩⟩
 refine⟨u.drop d,d,?_,rfl,hd,hm⟩
 by_cases z:d<=u.length
 .exact z
 .exact absurd (.inl (YBy (YAJ _))) (hm u.length (by omega))
theorem ZdQ {W:Q22}{u e f:Q11}(h1:Zb9 W u e)(h2:Zb9 W u f):e=f:=by
 obtain⟨d,_,rfl,hs,hm⟩:=h1
 obtain⟨d2,_,rfl,hs2,hm2⟩:=h2
 have:d=d2:=by
  rcases YCT d d2 with z | z | z
  .exact absurd hs (hm2 d z)
  .exact z
  .exact absurd hs2 (hm d2 z)
 rw[this]
theorem Zcy {W:Q22}{u e x:Q11}{c:Nat}(he:Zb9 W (u++[c]) e):Av W (u++c::x)↔Av W (u++[c])/\Av W (e++x):=by
 have e1:u++c::x=(u++[c])++x:=by simp
 constructor
 .intro h
  have h1:Av W (u++[c]):=h.inf (by rw[e1];exact Zcm _ _)
  exact⟨h1,(Zkq h1 he x).mp (by rw[<-e1];exact h)⟩
 .rintro⟨h1,h2⟩
  rw[e1]
  exact(Zkq h1 he x).mpr h2
abbrev Wd:=Q11
def cnt (o:Wd->List Wd)(P:List Wd)(s:Wd):Nat:=((o s).filter fun t=>decide (t∉P)).length
theorem Zg9 {o:Wd->List Wd}{P:List Wd}{s:Wd}:cnt o P s=0↔∀t∈o s,t∈P:=by
 unfold cnt
 rw[YAw,YCp]
 simp
theorem cnt_nil {o:Wd->List Wd}{s:Wd}:cnt o [] s=(o s).length:=by unfold cnt;simp
theorem ZeY {o:Wd->List Wd}{P:List Wd}{r s:Wd}(h:r∉P):cnt o (P++[r]) s+(o s).count r=cnt o P s:=by
 unfold cnt
 induction o s with
 | nil=>simp
 | cons t ts ih=>
  rw[List.count_cons,YBz,YBz]
  by_cases e:t=r
  .subst e
   have h1:decide (t∉P++[t])=false:=by simp
   have h2:decide (t∉P)=true:=by simpa using h
   rw[h1,h2]
   simp only[YCA,if_false,if_true,beq_self_eq_true,YAf]
   omega
  .have h3:decide (t∉P++[r])=decide (t∉P):=by simp[e]
   rw[h3,YAX (show ¬(t == r)=true by simpa using e)]
   split<;>(try simp only[YAf])<;>omega
structure KI (N:List Wd)(o:Wd->List Wd)(n:Nat)(es:List Wd)(f:Wd->Nat):Prop where
 le:n<=es.length
 nd:es.Nodup
 sub:∀s∈es,s∈N
 left:∀s∈N,f s=cnt o (es.take n) s
 zero:∀s∈N,s∈es↔f s=0
 ord:∀(k:Nat) (s:Wd),es[k]?=some s->∀t∈o s,t∈es.take k
structure KJ (N:List Wd)(o:Wd->List Wd)(n:Nat)(r:Wd)(S:List Wd)(j:Nat)(es:List Wd)(f:Wd->Nat):Prop where
 at_:es[n]?=some r
 src:∀s∈N,S.count s=(o s).count r
 nd:es.Nodup
 sub:∀s∈es,s∈N
 left:∀s∈N,f s+(S.take j).count s=cnt o (es.take n) s
 zero:∀s∈N,s∈es↔f s=0
 ord:∀(k:Nat) (s:Wd),es[k]?=some s->∀t∈o s,t∈es.take k
theorem KI.start {N:List Wd}{o:Wd->List Wd}{f:Wd->Nat}(nd:N.Nodup)(hf:∀s∈N,f s=(o s).length):KI N o 0 (N.filter fun s=>decide (f s=0)) f where
 le:=YAg _
 nd:=nd.filter _
 sub:=fun s h=>(YBA.mp h).1
 left:=fun s h=>by rw[YBf,cnt_nil];exact hf s h
 zero:=fun s h=>by simp[YBA,h]
 ord:=fun k s h t ht=>by
  have hm:=YBA.mp (YAM h)
  have z:f s=0:=by simpa using hm.2
  rw[hf s hm.1,YAw]at z
  rw[z]at ht
  cases ht
theorem Zcg {es:List Wd}{n:Nat}{r:Wd}(nd:es.Nodup)(h:es[n]?=some r):r∉es.take n:=by
 intro hm
 obtain⟨k,hk,e⟩:=YAh hm
 rw[YAd]at hk
 rw[YDX]at e
 obtain⟨hn,e2⟩:=YAD.mp h
 have:=(YDL.mp nd)
 rw[YCB]at this
 exact this k n (by omega) hn (by omega) (by rw[e,e2])
theorem KI.enter {N:List Wd}{o:Wd->List Wd}{n:Nat}{es S:List Wd}{f:Wd->Nat}{r:Wd}(h:KI N o n es f)(hr:es[n]?=some r)(hS:∀s∈N,S.count s=(o s).count r):KJ N o n r S 0 es f:=
 ⟨hr,hS,h.nd,h.sub,fun s hs=>by rw[YBf,List.count_nil,Nat.add_zero];exact h.left s hs,h.zero,h.ord⟩
theorem ZaL {es:List Wd}{n:Nat}{r:Wd}(h:es[n]?=some r):es.take (n+1)=es.take n++[r]:=by
 rw[YCt,h];rfl
theorem KJ.leave {N:List Wd}{o:Wd->List Wd}{n:Nat}{es S:List Wd}{f:Wd->Nat}{r:Wd}(h:KJ N o n r S S.length es f):KI N o (n+1) es f where
 le:=(YAD.mp h.at_).1
 nd:=h.nd
 sub:=h.sub
 left:=fun s hs=>by
  have h1:=h.left s hs
  have h2:=ZeY (o:=o) (s:=s) (Zcg h.nd h.at_)
  rw[YBH,h.src s hs]at h1
  rw[ZaL h.at_]
  omega
 zero:=h.zero
 ord:=h.ord
theorem Zb4 {S:List Wd}{j:Nat}{s t:Wd}(h:S[j]?=some s):(S.take (j+1)).count t=(S.take j).count t+if t=s then 1 else 0:=by
 rw[ZaL h,List.count_append,List.count_singleton]
 by_cases e:t=s
 .subst e;simp
 .have:(s == t)=false:=by simpa using fun z=>e z.symm
  rw[this,YAX e];rfl
theorem KJ.pos {N:List Wd}{o:Wd->List Wd}{n j:Nat}{es S:List Wd}{f:Wd->Nat}{r s:Wd}(h:KJ N o n r S j es f)(hs:S[j]?=some s)(hN:s∈N):1<=f s:=by
 have h1:=h.left s hN
 have h2:=ZeY (o:=o) (s:=s) (Zcg h.nd h.at_)
 have h3:(S.take (j+1)).count s<=S.count s:=(YDW _ _).count_le _
 rw[Zb4 hs,YAW rfl,h.src s hN]at h3
 omega
theorem KJ.next {N:List Wd}{o:Wd->List Wd}{n j:Nat}{es S:List Wd}{f:Wd->Nat}{r s:Wd}(h:KJ N o n r S j es f)(hs:S[j]?=some s)(hN:s∈N)(g:Wd->Nat)(hg:∀t,g t=if t=s then f s-1 else f t):
  (g s=0->KJ N o n r S (j+1) (es++[s]) g)/\(g s≠0->KJ N o n r S (j+1) es g):=by
 have p:=h.pos hs hN
 have gs:g s=f s-1:=by rw[hg,YAW rfl]
 have left:∀t∈N,g t+(S.take (j+1)).count t=cnt o (es.take n) t:=fun t ht=>by
  have h1:=h.left t ht
  rw[Zb4 hs,hg]
  by_cases e:t=s
  .subst e;rw[YAW rfl,YAW rfl];omega
  .rw[YAX e,YAX e];omega
 have hn:=(YAD.mp h.at_).1
 have ns:s∉es:=fun z=>by have:=(h.zero s hN).mp z;omega
 constructor
 .intro z
  have tk:(es++[s]).take n=es.take n:=YBY (by omega)
  refine⟨by rw[YAx hn];exact h.at_,h.src,?_,?_,?_,?_,?_⟩
  .rw[YCD]
   refine⟨h.nd,by simp,fun a ha b hb=>?_⟩
   rw[YAO.mp hb]
   exact fun e=>ns (e▸ha)
  .intro t ht
   rcases YAe.mp ht with ht | ht
   .exact h.sub t ht
   .rw[YAO.mp ht];exact hN
  .intro t ht
   rw[tk]
   exact left t ht
  .intro t ht
   rw[YAe,YAO]
   by_cases e:t=s
   .subst e;simp[z]
   .rw[hg,YAX e]
    constructor
    .rintro (k | k)
     .exact(h.zero t ht).mp k
     .exact absurd k e
    .intro k;exact .inl ((h.zero t ht).mpr k)
  .intro k t hk u hu
   by_cases c:k<es.length
   .rw[YAx c]at hk
    rw[YBY (by omega)]
    exact h.ord k t hk u hu
   .have kl:=(YAD.mp hk).1
    rw[YAI,YAN]at kl
    have ke:k=es.length:=by omega
    subst ke
    rw[YAz (YAJ _),YCe]at hk
    cases hk
    rw[List.take_left]
    have l:=left s hN
    have c1:=ZeY (o:=o) (s:=s) (Zcg h.nd h.at_)
    have c2:(S.take (j+1)).count s<=S.count s:=(YDW _ _).count_le _
    rw[h.src s hN]at c2
    have c3:cnt o (es.take n++[r]) s=0:=by omega
    rw[<-ZaL h.at_]at c3
    exact YBF (Zg9.mp c3 u hu)
 .intro z
  refine⟨h.at_,h.src,h.nd,h.sub,left,fun t ht=>?_,h.ord⟩
  by_cases e:t=s
  .subst e
   exact⟨fun k=>absurd k ns,fun k=>absurd k z⟩
  .rw[hg,YAX e];exact h.zero t ht
structure RunTo (W:List Wd)(g s:Wd):Prop where
 av:Av W g
 iff:∀x,Av W (g++x)↔Av W (s++x)
theorem RunTo.start {W:List Wd}(h:Av W []):RunTo W [] []:=⟨h,fun x=>Iff.rfl⟩
theorem RunTo.step {W:List Wd}{g s e:Wd}{c:Nat}(h:RunTo W g s)(ha:Av W (s++[c]))(he:Zb9 W (s++[c]) e):RunTo W (g++[c]) e:=by
 refine⟨(h.iff [c]).mpr ha,fun x=>?_⟩
 have e1:g++[c]++x=g++c::x:=by simp
 rw[e1,h.iff,Zcy he]
 exact⟨fun k=>k.2,fun k=>⟨ha,k⟩⟩
def rpt (y:Wd):Nat->Wd
 | 0=>[]
 | n+1=>y++rpt y n
theorem Zgo {W:List Wd}{head lap s:Wd}(h1:RunTo W head s)(h2:RunTo W (head++lap) s):∀n,Av W (head++rpt lap n)
 | 0=>by
  show Av W (head++[])
  rw[YBC];exact h1.av
 | n+1=>by
  show Av W (head++(lap++rpt lap n))
  rw[<-YBm,h2.iff,<-h1.iff]
  exact Zgo h1 h2 n
theorem KI.stay {N:List Wd}{o:Wd->List Wd}{es:List Wd}{f:Wd->Nat}(h:KI N o es.length es f){s:Wd}(hN:s∈N)(hs:s∉es):∃t∈o s,t∉es:=by
 have:=mt (h.zero s hN).mpr hs
 rw[h.left s hN,YBH,Zg9]at this
 simpa using this
theorem ZeV {W:List Wd}{m:Wd}{es:List Wd}{o:Wd->List Wd}(hout:∀(s:Wd) (c:Nat),c∈m->Av W (s++[c])->∃e∈o s,Zb9 W (s++[c]) e)(ord:∀(k:Nat) (s:Wd),es[k]?=some s->∀t∈o s,t∈es.take k):
  ∀(k:Nat) (s:Wd),es[k]?=some s->∀x:Wd,(∀c∈x,c∈m)->Av W (s++x)->x.length<=k:=by
 intro k
 induction k using Nat.strongRecOn with
 | _ k ih=>
  intro s hs x hx ha
  cases x with
  | nil=>exact YAg _
  | cons c x=>
   have a1:Av W (s++[c]):=ha.inf (by
    have:s++c::x=(s++[c])++x:=by simp
    rw[this];exact Zcm _ _)
   obtain⟨e,he,hE⟩:=hout s c (hx c YAa) a1
   obtain⟨j,hj,ej⟩:=YAh (ord k s hs e he)
   rw[YAd]at hj
   rw[YDX]at ej
   have:=ih j (by omega) e (YAD.mpr ⟨by omega,ej⟩) x (fun d hd=>hx d (YAV _ hd)) ((Zcy hE).mp ha).2
   rw[YAf]
   omega
theorem ZiD {W:List Wd}{m:Wd}{es N:List Wd}{o:Wd->List Wd}(hin:∀s t,t∈o s->t∈N/\∃c∈m,Av W (s++[c])/\Zb9 W (s++[c]) t)(hav:∀s∈N,Av W s)(stay:∀s∈N,s∉es->∃t∈o s,t∉es):
  ∀(n:Nat) (s:Wd),s∈N->s∉es->∃x:Wd,x.length=n/\(∀c∈x,c∈m)/\Av W (s++x)
 | 0,s,hN,_=>⟨[],rfl,fun c hc=>(by cases hc),by rw[YBC];exact hav s hN⟩
 | n+1,s,hN,hs=>by
  obtain⟨t,ht,nt⟩:=stay s hN hs
  obtain⟨tN,c,hc,ha,he⟩:=hin s t ht
  obtain⟨x,hl,hx,hax⟩:=ZiD hin hav stay n t tN nt
  refine⟨c::x,by rw[YAf,hl],fun d hd=>?_,(Zcy he).mpr ⟨ha,hax⟩⟩
  rcases YAY.mp hd with z | z
  .rw[z];exact hc
  .exact hx d z
structure LF (W:List Wd)(m s x:Wd):Prop where
 mem:∀c∈x,c∈m
 av:Av W (s++x)
 max:∀y:Wd,(∀c∈y,c∈m)->Av W (s++y)->y.length<=x.length
 fst:∀y:Wd,(∀c∈y,c∈m)->Av W (s++y)->y.length=x.length->¬y<x
theorem LF.one {W:List Wd}{m s x y:Wd}(hx:LF W m s x)(hy:LF W m s y):x=y:=by
 have e:x.length=y.length:=Nat.le_antisymm (hy.max x hx.mem hx.av) (hx.max y hy.mem hy.av)
 rcases ZiA x y with z | z | z
 .exact absurd z (hy.fst x hx.mem hx.av e)
 .exact z
 .exact absurd z (hx.fst y hy.mem hy.av e.symm)
structure PF (W:List Wd)(m s:Wd)(cs:Q11)(x:Wd):Prop where
 mem:∀c∈x,c∈m
 av:Av W (s++x)
 max:∀(c:Nat) (y:Wd),c∈cs->(∀c∈y,c∈m)->Av W (s++c::y)->y.length+1<=x.length
 fst:∀(c:Nat) (y:Wd),c∈cs->(∀c∈y,c∈m)->Av W (s++c::y)->y.length+1=x.length->¬(c::y)<x
 hd:∀(b:Nat) (x':Wd),x=b::x'->b∈cs
theorem PF.start {W:List Wd}{m s:Wd}(h:Av W s):PF W m s [] []:=
 ⟨fun c hc=>(by cases hc),(by rw[YBC];exact h),fun c y hc=>(by cases hc),fun c y hc=>(by cases hc),fun b x' e=>(by cases e)⟩
theorem PF.done {W:List Wd}{m s x:Wd}{cs:Q11}(h:PF W m s cs x)(hc:∀c∈m,Av W (s++[c])->c∈cs):LF W m s x:=by
 have one:∀(c:Nat) (y:Wd),Av W (s++c::y)->Av W (s++[c]):=fun c y ha=>ha.inf (by
  have:s++c::y=(s++[c])++y:=by simp
  rw[this];exact Zcm _ _)
 refine⟨h.mem,h.av,fun y hy ha=>?_,fun y hy ha e=>?_⟩
 .cases y with
  | nil=>exact YAg _
  | cons c y=>exact h.max c y (hc c (hy c YAa) (one c y ha)) (fun d hd=>hy d (YAV _ hd)) ha
 .cases y with
  | nil=>
   have:x=[]:=YAw.mp e.symm
   rw[this];exact List.lt_irrefl _
  | cons c y=>exact h.fst c y (hc c (hy c YAa) (one c y ha)) (fun d hd=>hy d (YAV _ hd)) ha e
theorem PF.next {W:List Wd}{m s x z e:Wd}{c:Nat}{cs:Q11}(h:PF W m s cs x)(hlt:∀d∈cs,d<c)(hcm:c∈m)(ha:Av W (s++[c]))(he:Zb9 W (s++[c]) e)(hz:LF W m e z):
  (x.length<(c::z).length->PF W m s (cs++[c]) (c::z))/\(¬x.length<(c::z).length->PF W m s (cs++[c]) x):=by
 have lc:(c::z).length=z.length+1:=YAf
 constructor
 .intro lt
  refine⟨fun d hd=>?_,(Zcy he).mpr ⟨ha,hz.av⟩,fun d y hd hy hax=>?_,fun d y hd hy hax el=>?_,fun b x' e=>?_⟩
  .rcases YAY.mp hd with q | q
   .rw[q];exact hcm
   .exact hz.mem d q
  .rcases YAe.mp hd with q | q
   .have:=h.max d y q hy hax
    omega
   .rw[YAO.mp q]at hax
    have:=hz.max y hy ((Zcy he).mp hax).2
    omega
  .rcases YAe.mp hd with q | q
   .have:=h.max d y q hy hax
    omega
   .have ed:=YAO.mp q
    subst ed
    intro hl
    have:y<z:=by
     cases hl with
     | rel k=>exact absurd k (YAo _)
     | cons k=>exact k
    exact hz.fst y hy ((Zcy he).mp hax).2 (by omega) this
  .cases e
   simp
 .intro lt
  refine⟨h.mem,h.av,fun d y hd hy hax=>?_,fun d y hd hy hax el=>?_,fun b x' e=>YBu _ (h.hd b x' e)⟩
  .rcases YAe.mp hd with q | q
   .exact h.max d y q hy hax
   .rw[YAO.mp q]at hax
    have:=hz.max y hy ((Zcy he).mp hax).2
    omega
  .rcases YAe.mp hd with q | q
   .exact h.fst d y q hy hax el
   .have ed:=YAO.mp q
    subst ed
    intro hl
    cases hx:x with
    | nil=>rw[hx]at el;simp at el
    | cons b x'=>
     have bc:=hlt b (h.hd b x' hx)
     rw[hx]at hl
     cases hl with
     | rel k=>exact absurd (Nat.lt_trans k bc) (YAo _)
     | cons k=>exact absurd bc (YAo _)
theorem LF.whole {W:List Wd}{m x:Wd}(h:LF W m [] x){c:Nat}(hc:c∈m):¬Av W (c::x)/\¬Av W (x++[c]):=by
 constructor
 .intro ha
  have:=h.max (c::x) (fun d hd=>by
   rcases YAY.mp hd with z | z
   .rw[z];exact hc
   .exact h.mem d z) (by rw[YBX];exact ha)
  rw[YAf]at this
  omega
 .intro ha
  have:=h.max (x++[c]) (fun d hd=>by
   rcases YAe.mp hd with z | z
   .exact h.mem d z
   .rw[YAO.mp z];exact hc) (by rw[YBX];exact ha)
  rw[YAI,YAN]at this
  omega
theorem Zlg {W:List Wd}{m x:Wd}(ha:Anti W)(hm:∀v∈W,∀c∈v,c∈m)(hx:Av W x)(hxm:∀c∈x,c∈m)(h:∀w∈Zbf x m,¬Av W w)(w:Wd):w∈Zbf x m↔w∈W:=by
 have sub:∀w∈Zbf x m,w∈W:=fun w hw=>by
  have:=h w hw
  unfold Av at this
  obtain⟨v,hv⟩:=Classical.not_forall.mp this
  have hvW:v∈W:=YAp fun k=>hv fun k'=>absurd k' k
  have hvi:Inf v w:=YAp fun k=>hv fun _=>k
  have ms:=(ZbI.mp hw).1
  by_cases e:v.length<w.length
  .rcases Zlk hvi e with z | z
   .exact absurd (z.trans ms.init) (hx v hvW)
   .exact absurd (z.trans ms.tail) (hx v hvW)
  .rw[<-ZmU hvi (by omega)];exact hvW
 refine⟨sub w,fun hw=>?_⟩
 have hn:¬Inf w x:=hx w hw
 obtain⟨v,hv,hi⟩:=ZeJ (m:=m) w.length w rfl (hm w hw) hn
 rw[<-ha v (sub v hv) w hw hi];exact hv
def KnS (ls:Q22)(u:Q11):Prop:=∃l∈ls,Inf u l
structure MissS (ls:Q22)(m:Q11)(ws:Q22):Prop where
 nd:ws.Nodup
 iff:∀w,w∈ws↔w≠[]/\KnS ls w.dropLast/\KnS ls w.tail/\¬KnS ls w/\∃c∈m,w.getLast?=some c
theorem Zgu {α β:Type}{f:α->List β}{n:Nat}:∀ {l:List α},(∀x∈l,(f x).length<=n)->(l.flatMap f).length<=l.length*n
 | [],_=>by simp
 | x::l,h=>by
  rw[YDZ,YAI,YAf,Nat.succ_mul]
  have:=h x YAa
  have:=Zgu (l:=l) fun y hy=>h y (YAV _ hy)
  omega
theorem ZgZ {l w v:Q11}{c i j:Nat}(nw:w≠[])(nv:v≠[])(cw:w.getLast?=some c)(cv:v.getLast?=some c)(iw:AtW l w.dropLast i)(jv:AtW l v.dropLast j)(e:i+w.dropLast.length=j+v.dropLast.length)(hl:v.length<=w.length):v=w\/∃k,v=w.tail.drop k:=by
 have ew:=Zck cw
 have ev:=Zck cv
 have lw:w.dropLast.length=w.length-1:=YBV
 have lv:v.dropLast.length=v.length-1:=YBV
 have w1:1<=w.length:=YCd.mpr nw
 have v1:1<=v.length:=YCd.mpr nv
 have s:=ZhJ iw jv e (by omega)
 rw[show w.dropLast.length-v.dropLast.length=w.length-v.length by omega]at s
 have h2:(w.dropLast++[c]).drop (w.length-v.length)=w.dropLast.drop (w.length-v.length)++[c]:=YBs (by omega)
 have vs:v=w.drop (w.length-v.length):=by
  have h3:v.dropLast++[c]=w.dropLast.drop (w.length-v.length)++[c]:=congrArg (·++[c]) s
  rw[<-h2,<-ew,<-ev]at h3
  exact h3
 by_cases eq:v.length=w.length
 .left;rw[vs,eq,YCe];rfl
 .right
  refine⟨w.length-v.length-1,?_⟩
  rw[<-List.drop_one,YCZ,show 1+(w.length-v.length-1)=w.length-v.length by omega]
  exact vs
theorem MissS.count {ls ws:Q22}{m:Q11}{n:Nat}(h:MissS ls m ws)(hn:∀l∈ls,l.length<=n):ws.length<=ls.length*(m.length*(n+1)):=by
 classical
 have h1:=ZcH ws (ls.flatMap fun l=>ws.filter fun w=>decide (Inf w.dropLast l)) h.nd fun w hw=>by
  obtain⟨_,⟨l,hl,hi⟩,_⟩:=(h.iff w).mp hw
  exact YCH.mpr ⟨l,hl,YBA.mpr ⟨hw,decide_eq_true hi⟩⟩
 refine YAK h1 (Zgu fun l hl=>?_)
 have nd:(ws.filter fun w=>decide (Inf w.dropLast l)).Nodup:=h.nd.filter _
 have inj:∀x∈ws.filter (fun w=>decide (Inf w.dropLast l)),∀y∈ws.filter (fun w=>decide (Inf w.dropLast l)),(x.getLast?,endOf l x)=(y.getLast?,endOf l y)->x=y:=by
  intro x hx y hy e
  obtain⟨hx1,hx2⟩:=YBA.mp hx
  obtain⟨hy1,hy2⟩:=YBA.mp hy
  obtain⟨nx,_,tx_,ox,c,hc,cx⟩:=(h.iff x).mp hx1
  obtain⟨ny,_,ty_,oy,d,hd,cy⟩:=(h.iff y).mp hy1
  have e1:x.getLast?=y.getLast?:=congrArg Prod.fst e
  have e2:endOf l x=endOf l y:=congrArg Prod.snd e
  obtain⟨i,hi,ei⟩:=ZeT (of_decide_eq_true hx2)
  obtain⟨j,hj,ej⟩:=ZeT (of_decide_eq_true hy2)
  have cy':y.getLast?=some c:=by rw[<-e1];exact cx
  rcases Nat.le_total y.length x.length with g | g
  .rcases ZgZ nx ny cx cy' hi hj (by omega) g with z | ⟨k,z⟩
   .exact z.symm
   .obtain⟨l',hl',hi'⟩:=tx_
    exact absurd ⟨l',hl',by rw[z];exact Zdm hi' k⟩ oy
  .rcases ZgZ ny nx cy' cx hj hi (by omega) g with z | ⟨k,z⟩
   .exact z
   .obtain⟨l',hl',hi'⟩:=ty_
    exact absurd ⟨l',hl',by rw[z];exact Zdm hi' k⟩ ox
 have nd2:=Zbv (f:=fun w:Q11=>(w.getLast?,endOf l w)) nd inj
 have h2:=ZcH _ (m.flatMap fun c=>(List.range (n+1)).map fun e=>(some c,e)) nd2 fun p hp=>by
  obtain⟨w,hw,rfl⟩:=YAc.mp hp
  obtain⟨hw1,hw2⟩:=YBA.mp hw
  obtain⟨_,_,_,_,c,hc,cw⟩:=(h.iff w).mp hw1
  obtain⟨i,hi,ei⟩:=ZeT (of_decide_eq_true hw2)
  rw[YCH]
  refine⟨c,hc,YAc.mpr ⟨endOf l w,YAu.mpr (by have:=hi.1;have:=hn l hl;omega),by rw[cw]⟩⟩
 rw[YAB]at h2
 exact YAK h2 (Zgu fun c _=>by rw[YAB,YBJ];exact YAJ _)
theorem MissS.len {ls ws:Q22}{m w:Q11}{n:Nat}(h:MissS ls m ws)(hn:∀l∈ls,l.length<=n)(hw:w∈ws):w.length<=n+1:=by
 obtain⟨nw,⟨l,hl,hi⟩,_⟩:=(h.iff w).mp hw
 have:=hi.len
 have:=hn l hl
 rw[YBV]at *
 omega
theorem MissS.mem {ls ws:Q22}{m w:Q11}(h:MissS ls m ws)(hm:∀l∈ls,∀c∈l,c∈m)(hw:w∈ws):∀c∈w,c∈m:=by
 obtain⟨nw,⟨l,hl,hi⟩,_,_,d,hd,cd⟩:=(h.iff w).mp hw
 intro c hc
 rw[Zck cd]at hc
 rcases YAe.mp hc with z | z
 .exact hm l hl c (hi.mem z)
 .rw[YAO.mp z];exact hd
theorem MissS.lack {x m w:Q11}{ws:Q22}(h:MissS [x] m ws):w∈ws↔w∈Zbf x m:=by
 have k:∀u,KnS [x] u↔Inf u x:=fun u=>⟨fun ⟨l,hl,hi⟩=>by rw[YAO.mp hl]at hi;exact hi,fun hi=>⟨x,by simp,hi⟩⟩
 rw[h.iff,ZbI,k,k,k]
 constructor
 .rintro⟨a,b,c,d,e⟩;exact⟨⟨a,b,c,d⟩,e⟩
 .rintro⟨⟨a,b,c,d⟩,e⟩;exact⟨a,b,c,d,e⟩
theorem Zdb {W ss:List Wd}(nd:ss.Nodup)(h:∀s∈ss,Stem W s):ss.length<=(W.map List.length).sum+1:=by
 have h1:=ZcH ss ([]::W.flatMap fun v=>(List.range v.length).map fun k=>v.take k) nd fun s hs=>by
  rcases h s hs with rfl | ⟨v,hv,k,hk,rfl⟩
  .exact YAa
  .exact YAV _ (YCH.mpr ⟨v,hv,YAc.mpr ⟨k,YAu.mpr hk,rfl⟩⟩)
 have e:∀W:List Wd,(W.flatMap fun v=>(List.range v.length).map fun k=>v.take k).length=(W.map List.length).sum:=fun W=>by
  induction W with
  | nil=>rfl
  | cons v W ih=>rw[YDZ,YAI,ih,YAB,YBJ,YAj,List.sum_cons]
 rw[YAf,e]at h1
 exact h1
inductive Lv (W:List Wd) (m:Wd):Nat->Wd->Prop
 | zero:Lv W m 0 []
 | step {k:Nat} {s e:Wd} {c:Nat}:Lv W m k s->c∈m->Av W (s++[c])->Zb9 W (s++[c]) e->Lv W m (k+1) e
theorem Lv.stem {W:List Wd}{m s:Wd}{k:Nat}(h:Lv W m k s):Stem W s:=by
 cases h with
 | zero=>exact .inl rfl
 | step _ _ _ he=>obtain⟨_,_,_,hs,_⟩:=he;exact hs
theorem Lv.word {W:List Wd}{m s:Wd}{k:Nat}(h0:Av W [])(h:Lv W m k s):∃g:Wd,g.length=k/\(∀c∈g,c∈m)/\RunTo W g s:=by
 induction h with
 | zero=>exact⟨[],rfl,fun c hc=>(by cases hc),RunTo.start h0⟩
 | @step k s e c _ hc ha he ih=>
  obtain⟨g,gl,gm,r⟩:=ih
  refine⟨g++[c],by rw[YAI,gl];rfl,fun d hd=>?_,r.step ha he⟩
  rcases YAe.mp hd with z | z
  .exact gm d z
  .rw[YAO.mp z];exact hc
theorem Lv.of {W:List Wd}{m:Wd}(h0:Av W []):∀(k:Nat) (g:Wd),g.length=k->(∀c∈g,c∈m)->Av W g->∃s,Lv W m k s/\RunTo W g s
 | 0,g,hl,_,_=>by
  have:g=[]:=YAw.mp hl
  subst this
  exact⟨[],.zero,RunTo.start h0⟩
 | k+1,g,hl,hm,ha=>by
  have ne:g≠[]:=fun e=>by rw[e]at hl;cases hl
  have eg:=YDF ne
  have a1:Av W g.dropLast:=ha.inf (by rw[<-eg];rw[List.dropLast_concat];exact Zcm _ _)
  obtain⟨s,lv,r⟩:=Lv.of h0 k g.dropLast (by rw[YBV,hl];rfl) (fun c hc=>hm c (List.dropLast_subset _ hc)) a1
  obtain⟨e,he⟩:=ZeM W (s++[g.getLast ne])
  have a2:Av W (s++[g.getLast ne]):=(r.iff _).mp (by rw[eg];exact ha)
  exact⟨e,.step lv (hm _ (List.getLast_mem ne)) a2 he,by rw[<-eg];exact r.step a2 he⟩
theorem Zlc {W:List Wd}{m x:Wd}(h0:Av W [])(h:LF W m [] x):x.length<=(W.map List.length).sum:=by
 have ax:Av W x:=h.av
 have ex:∀j:Nat,∃s,RunTo W (x.take j) s/\Stem W s:=fun j=>by
  obtain⟨s,lv,r⟩:=Lv.of h0 _ (x.take j) rfl (fun c hc=>h.mem c (YBF hc)) (ax.inf (Zg3 x j))
  exact⟨s,r,lv.stem⟩
 let f:Nat->Wd:=fun j=>Classical.choose (ex j)
 have hf:∀j,RunTo W (x.take j) (f j)/\Stem W (f j):=fun j=>Classical.choose_spec (ex j)
 have lt:∀i j,i<j->j<=x.length->f i≠f j:=fun i j ij jl e=>by
  have r1:=(hf i).1
  have r2:=(hf j).1
  rw[<-e]at r2
  have e2:x.take j=x.take i++(x.drop i).take (j-i):=by
   rw[<-List.take_add,show i+(j-i)=j by omega]
  rw[e2]at r2
  have ll:((x.drop i).take (j-i)).length=j-i:=by rw[YAd,YAn];omega
  have:=Zgo r1 r2 (x.length+1)
  have rl:∀(y:Wd) (n:Nat),(rpt y n).length=n*y.length:=fun y n=>by
   induction n with
   | zero=>simp[rpt]
   | succ n ih=>show (y++rpt y n).length=_;rw[YAI,ih,Nat.succ_mul,Nat.add_comm]
  have rm:∀(y:Wd) (n:Nat),(∀c∈y,c∈m)->∀c∈rpt y n,c∈m:=fun y n hy=>by
   induction n with
   | zero=>intro c hc;cases hc
   | succ n ih=>
    intro c hc
    rcases YAe.mp (show c∈y++rpt y n from hc) with z | z
    .exact hy c z
    .exact ih c z
  have k:=h.max (x.take i++rpt ((x.drop i).take (j-i)) (x.length+1)) (fun c hc=>by
   rcases YAe.mp hc with z | z
   .exact h.mem c (YBF z)
   .exact rm _ _ (fun c hc=>h.mem c (YCX (YBF hc))) c z) (by rw[YBX];exact this)
  rw[YAI,rl,ll]at k
  have:(x.length+1)*1<=(x.length+1)*(j-i):=Nat.mul_le_mul_left _ (by omega)
  omega
 have nd:((List.range (x.length+1)).map f).Nodup:=Zbv List.nodup_range fun i hi j hj e=>by
  rw[YAu]at hi hj
  rcases YCT i j with z | z | z
  .exact absurd e (lt i j z (by omega))
  .exact z
  .exact absurd e.symm (lt j i z (by omega))
 have:=Zdb nd fun s hs=>by
  obtain⟨j,_,rfl⟩:=YAc.mp hs
  exact(hf j).2
 rw[YAB,YBJ]at this
 omega
def Stops (W:List Wd)(t v:Wd):Prop:=∃d,d<=t.length/\v=t.drop d/\(Stem W v\/v∈W)/\∀j,j<d->¬Stem W (t.drop j)/\t.drop j∉W
theorem Zjf {W:List Wd}{s v:Wd}{c:Nat}(an:Anti W)(ne:∀v∈W,v≠[])(hs:Stem W s)(h:Stops W (s++[c]) v):(v∈W->¬Av W (s++[c]))/\(v∉W->Av W (s++[c])/\Zb9 W (s++[c]) v):=by
 obtain⟨d,hd,rfl,hv,hj⟩:=h
 constructor
 .intro hw ha
  exact ha _ hw (Zdm (Inf.refl _) d)
 .intro hn
  have st:Stem W ((s++[c]).drop d):=hv.resolve_right hn
  refine⟨?_,d,hd,rfl,st,fun j k=>(hj j k).1⟩
  rintro w hw ⟨i,h1,h2⟩
  have as:=Zga an ne hs
  rw[YAI,YAN]at h1
  by_cases c1:i+w.length<=s.length
  .refine as w hw ⟨i,c1,?_⟩
   rw[YBs (by omega),YBY (by rw[YAn];omega)]at h2
   exact h2
  .have e:w=(s++[c]).drop i:=by
    rw[YCJ (by rw[YAn,YAI,YAN];omega)]at h2
    exact h2.symm
   by_cases c2:i<d
   .exact(hj i c2).2 (e▸hw)
   .refine Zga an ne st w hw ?_
    have:w=((s++[c]).drop d).drop (i-d):=by
     rw[YCZ,show d+(i-d)=i by omega];exact e
    rw[this];exact Zdm (Inf.refl _) _
theorem Zgt {W:List Wd}:∀ {a:Nat},(∀w∈W,w.length<=a)->(W.map List.length).sum<=W.length*a:=by
 intro a h
 induction W with
 | nil=>simp
 | cons w W ih=>
  rw[YAj,List.sum_cons,YAf,Nat.succ_mul]
  have:=h w YAa
  have:=ih fun v hv=>h v (YAV _ hv)
  omega
end L2
namespace L2
open PySem PySem.Spec PyProof.Rows PySem.W
def ZmS (o:Obj):Bool:=match o.cls,o.data with
 | .none,.fields _=>true
 | _,_=>false
def Zjz (K:Frag):Bool:=K.all fun p=>!ZmS p.2
theorem Zfr {K:Frag}(h:Zjz K=true){b:Addr}{o:Obj}(e:K.lookup b=some o):ZmS o=false:=by
 unfold Zjz at h
 rw[YAs]at h
 have:∀(l:List (Addr×Obj)),l.lookup b=some o->(b,o)∈l:=fun l=>by
  induction l with
  | nil=>intro e;cases e
  | cons q r ih=>
   intro e
   obtain⟨b',o'⟩:=q
   rw[YBZ]at e
   by_cases z:b=b'
   .subst z
    simp at e
    subst e
    exact YAa
   .have z':(b == b')=false:=by simpa using z
    rw[z']at e
    exact YAV _ (ih e)
 have:=h _ (this K e)
 simpa using this
structure TabOf (mg:Str->Option Value)(h:Heap)(n:Str)(c P:Addr):Prop where
 fn:∃a o fd,mg n=some (.ref a)/\h.get? a=some o/\o.data=.func fd/\fd.code=.ref c
 code:h.IsCode c P #[]
 tab:h.TableAt c P #[]
theorem TabOf.codeEq {mg:Str->Option Value}{h:Heap}{n:Str}{c P a:Addr}{o:Obj}{fd:FuncData}(t:TabOf mg h n c P)(e1:mg n=some (.ref a))(e2:h.get? a=some o)(e3:o.data=.func fd):fd.code=.ref c:=by
 obtain⟨a',o',fd',f1,f2,f3,f4⟩:=t.fn
 rw[e1]at f1;cases f1
 rw[e2]at f2;cases f2
 rw[e3]at f3;cases f3
 exact f4
theorem ZiF {P:Program}{w:World}{K:Q44}{mg mb:Str->Option Value}{CX:CXT}{k:Nat}{fa a:Addr}{fd:FuncData}{x:Str}{sp:Sp}{s₁:Shared}{vs:List Value}{ns:List Int}{nms:List Str}{tb:Str->Addr×Addr}
  (KX:K.In s₁.heap) (hns:s₁.heap.Ns mainGlobals mg) (hb:s₁.heap.Ns builtinsNs mb) (hbb:∀x:Str,x≠"__name__"->mb x=bootBuiltins x) (hlim:s₁.heap.NoLimit) (hg:s₁.gens=#[])
  (ha:s₁.heap.get? a=some { cls:=.type "list",data:=.seq vs.toArray }) (hi:IntsAre vs ns) (hl:ns.length<=sizeLine) (hr:Room k callerA)
  (hT:∀n∈nms,TabOf mg s₁.heap n (tb n).1 (tb n).2) (hKt:Zjz K=true) (hbm:∃bm ob,mg "__builtins__"=some (.ref bm)/\bm≠builtinsNs/\s₁.heap.get? bm=some ob/\ob.cls=.type "module"/\ob.dict=some builtinsNs/\ob.data=.plain)
  (F:∀base:Heap,K.In base->base.Ns mainGlobals mg->(∀n∈nms,LamEnv base mg (tb n).1 (tb n).2)->FnOk P w K mg base CX k fa fd [x] sp) (hbind:∀(s:Shared) (u:Value),BindsTo s fd ⟨[u],[]⟩ [(x,u)])
  (hsp:∀H:Hp,(∀n∈nms,H (tb n).2=some (.tbl #[]))->SqL K H a (ns.map V.int)->sp [.ref a] H (fun v _=>v=.bl true) fun _ _ _=>False)
  (hCX:∀H e s',CX [] H s₁ (fun _ _ _=>False) e s'->False):
  codeAny (model P w) callerA (.call (.ref fa) ⟨[.ref a],[]⟩) (fun r s'=>r=.ok (.ret (.bool true))/\OldK s₁.heap s'.heap/\s'.os=s₁.os/\AllBare s'.gens) s₁:=by
 have rv:=Zdq hi
 have lenV:=hi.length
 have hta:∀n∈nms,s₁.heap.get? (tb n).2=some (tabObj #[]):=fun n hn=>(hT n hn).tab.2
 have aP:∀n∈nms,(tb n).2≠a:=fun n hn z=>by
  have e:=hta n hn
  rw[z,ha]at e
  have:=congrArg Obj.cls (Option.some.inj e)
  exact absurd (show Value.type "list"=Value.none from this) (by simp)
 let isP:Addr->Prop:=fun b=>∃n∈nms,(tb n).2=b
 have core:∀H:Hp,SqL K H a (ns.map V.int)->HOk P w H s₁.heap->(∀b,H b≠none->(b=a/\∃o xs,H b=some (.frz o (.lst xs)))\/(isP b/\H b=some (.tbl #[])))->(∀b,isP b->H b=some (.tbl #[]))->(H a≠none->K.lookup a=none) ->
   codeAny (model P w) callerA (.call (.ref fa) ⟨[.ref a],[]⟩) (fun r s'=>r=.ok (.ret (.bool true))/\OldK s₁.heap s'.heap/\s'.os=s₁.os/\AllBare s'.gens) s₁:=by
  intro H hS hok hA hPt hK
  have base_of:∀ {b:Addr} {o:Obj},s₁.heap.get? b=some o->H b=none->(hidT s₁.heap H).get? b=some o:=fun e n=>Zg4 e n
  have noT:∀ {b:Addr} {o:Obj},s₁.heap.get? b=some o->o≠tabObj #[]->o.cls≠.type "list"->H b=none:=fun {b o} e n1 n2=>by
   cases q:H b with
   | none=>rfl
   | some u=>
    rcases hA b (by rw[q];simp) with⟨e',_⟩|⟨⟨n,hn,e'⟩,_⟩
    .subst e'
     rw[ha]at e;cases e
     exact absurd rfl n2
    .subst e'
     rw[hta n hn]at e;cases e
     exact absurd rfl n1
  have noA:∀ {b:Addr} {o:Obj} {es:Array DictEntry} {ep:Nat},s₁.heap.get? b=some o->o.data=.dict es ep->H b=none:=fun {b o es ep} e d=>by
   cases q:H b with
   | none=>rfl
   | some u=>
    rcases hA b (by rw[q];simp) with⟨e',_⟩|⟨⟨n,hn,e'⟩,_⟩
    .subst e'
     rw[ha]at e;cases e
     have d':Data.seq vs.toArray _=Data.dict es ep:=d
     cases d'
    .subst e'
     rw[hta n hn]at e;cases e
     cases d
  have nsK:∀ {b:Addr} {m:Str->Option Value},s₁.heap.Ns b m->(hidT s₁.heap H).Ns b m:=fun {b m} ⟨o,es,ep,e,d,r⟩=>⟨o,es,ep,base_of e (noA e d),d,r⟩
  have hKb:K.In (hidT s₁.heap H):=fun b o e=>base_of (KX b o e) (by
   cases q:H b with
   | none=>rfl
   | some u=>
    rcases hA b (by rw[q];simp) with⟨e',_⟩|⟨⟨n,hn,e'⟩,_⟩
    .subst e'
     rw[hK (by rw[q];simp)]at e;cases e
    .subst e'
     have e1:=KX _ _ e
     rw[hta n hn]at e1
     have e2:=Zfr hKt e
     rw[<-Option.some.inj e1]at e2
     cases e2)
  have hM:Mod K mg (hidT s₁.heap H):=⟨hKb,nsK hns,⟨mb,nsK hb,hbb⟩,let ⟨mc,h1,h2⟩:=hlim;⟨mc,nsK h1,h2⟩⟩
  have e0:Env0 P w K mg (hidT s₁.heap H) callerA [] s₁ H:=⟨rfl,hM,fun b o e=>Ziu e,YBv (ZfF _ _),trivial,fun b hb=>absurd (show b∈([]:List Addr) from hb) (by simp),hok,.of_eq hg⟩
  have hL:∀n∈nms,LamEnv (hidT s₁.heap H) mg (tb n).1 (tb n).2:=fun n hn=>by
   obtain⟨bm,ob,b1,b2,b3,b4,b5,b6⟩:=hbm
   obtain⟨oc,vc,file,tf,flags,tg,inF,text,tt,c1,c2,c3,r⟩:=CodeHd.of (hT n hn).code (hT n hn).tab
   refine⟨⟨oc,vc,file,tf,flags,tg,inF,text,tt,base_of c1 (noT c1 (fun z=>by rw[z]at c2;cases c2) (fun z=>by rw[c2]at z;exact absurd z (by decide))),c2,c3,r⟩,bm,ob,b1,b2,fun z=>?_,fun z=>?_,base_of b3 (noT b3 (fun z=>by rw[z]at b4;cases b4) (fun z=>by rw[b4]at z;exact absurd z (by decide))),b4,b5,b6⟩
   .obtain⟨o,es,ep,e,d,_⟩:=hns
    rw[<-z,b3]at e;cases e
    rw[b6]at d;cases d
   .rw[z,hta n hn]at b3;cases b3
    cases b4
  refine codeAny_mono ((F _ hKb (nsK hns) hL).run callerA [] s₁ H ⟨[.ref a],[]⟩ [.ref a] [.ref a] _ _ hr e0 (hbind s₁ (.ref a)) (.cons rfl .nil) (hsp H (fun n hn=>hPt _ ⟨n,hn,rfl⟩) hS)) fun r s' h=>?_
  cases r with
  | error e=>exact(hCX H e s' h).elim
  | ok fl=>
   cases fl with
   | next=>exact False.elim h
   | brk=>exact False.elim h
   | cont=>exact False.elim h
   | ret u=>
    obtain⟨v,H',os,bare,un,hok',r',q⟩:=h
    have q':v=.bl true:=q
    subst q'
    obtain rfl:u=Value.bool true:=r'
    refine⟨rfl,⟨fun b o e=>?_,fun b o e=>un.there b o e (by simp)⟩,os,bare⟩
    cases q:H b with
    | none=>exact .inl (un.keep b o e q (by intro z;exact absurd (show b∈([]:List Addr) from z) (by simp)) (by simp))
    | some u=>
     rcases hA b (by rw[q];simp) with⟨_,ob,xs,z⟩|⟨⟨n,hn,e'⟩,z⟩
     .have z2:=un.frzs b ob _ z
      obtain⟨e1,_⟩:=hok b _ z
      obtain⟨e2,_⟩:=hok' b _ z2
      rw[e]at e1;cases e1
      exact .inl e2
     .obtain⟨more,z2⟩:=un.tbls b _ z
      have e1:s₁.heap.get? b=some (tabObj #[]):=hok b _ z
      have e2:s'.heap.get? b=some (tabObj (#[]++more)):=hok' b _ z2
      rw[e]at e1;cases e1
      exact .inr (.inl ⟨by rw[<-e'];exact(hT n hn).tab.isCodeTable,rfl,#[],more,rfl,e2⟩)
 cases hk:K.lookup a with
 | some o=>
  have e:=KX a o hk
  rw[ha]at e
  cases e
  haveI:DecidablePred isP:=fun _=>Classical.propDecidable _
  refine core (fun b=>if isP b then some (.tbl #[]) else none) (.inr ⟨_,vs.toArray,_,hk,rfl,rfl,rfl,by rw[YAP,lenV];exact hl,by simpa using rv⟩) (fun b u z=>?_) (fun b z=>?_) (fun b hb=>YAW hb) fun z=>?_
  .by_cases hb:isP b
   .have z':=(YAW hb).symm.trans z
    cases z'
    obtain⟨n,hn,rfl⟩:=hb
    exact hta n hn
   .have z':=(YAX hb).symm.trans z
    cases z'
  .by_cases hb:isP b
   .exact .inr ⟨hb,YAW hb⟩
   .exact absurd (YAX hb) z
  .have:¬isP a:=fun ⟨n,hn,e⟩=>aP n hn e
   exact absurd (YAX this) z
 | none=>
  haveI:DecidablePred isP:=fun _=>Classical.propDecidable _
  refine core (fun b=>if b=a then some (.frz { cls:=.type "list",data:=.seq vs.toArray } (.lst (ns.map V.int))) else if isP b then some (.tbl #[]) else none) (.inl (.inr ⟨{ cls:=.type "list",data:=.seq vs.toArray },YAW rfl⟩)) (fun b u z=>?_) (fun b z=>?_) (fun b hb=>?_) fun _=>hk
  .by_cases hb:b=a
   .have z':=(YAW hb).symm.trans z
    cases z'
    subst hb
    exact⟨ha,by rw[YAB];exact hl,vs,_,rv,ha⟩
   .have z':=(YAX hb).symm.trans z
    by_cases hp:isP b
    .have z2:=(YAW hp).symm.trans z'
     cases z2
     obtain⟨n,hn,rfl⟩:=hp
     exact hta n hn
    .have z2:=(YAX hp).symm.trans z'
     cases z2
  .by_cases hb:b=a
   .exact .inl ⟨hb,_,_,YAW hb⟩
   .by_cases hp:isP b
    .exact .inr ⟨hp,by rw[YAX hb,YAW hp]⟩
    .exact absurd (by rw[YAX hb,YAX hp]) z
  .have nb:b≠a:=by obtain⟨n,hn,rfl⟩:=hb;exact aP n hn
   rw[YAX nb,YAW hb]
theorem walk_ofT {l:PySem.W.OpenLaw}{n k:Nat}{q:Program}{loose:List Str}{XP:(Str->Option Value)->Heap->Prop}{YP:World->Heap->Prop}{d:DefRec}{K:Params->Q44}{CX:CXT}{sp:Q44->(Str->Addr×Addr)->Sp}{x:Str}(nms:List Str)
  (hn:l.most=some n) (hn2:n<=sizeLine) (hdf:d.params.defaults=[]) (hr:Room k callerA)
  (hY:∀(w:World) (h:Heap),YP w h->(K w.params).In h) (hKt:∀P:Params,Zjz (K P)=true) (hnm:(nms.all fun n=>(recsOf q).any fun e=>e.name == n)=true)
  (F:∀(w:World) (mg:Str->Option Value) (fa:Addr) (h:Heap) (tb:Str->Addr×Addr),(K w.params).In h->h.Ns mainGlobals mg->mg d.name=some (.ref fa)->(∀n∈nms,TabOf mg h n (tb n).1 (tb n).2) ->
   ∃fd:FuncData,(∀(s:Shared) (u:Value),BindsTo s fd ⟨[u],[]⟩ [(x,u)]) /\
    ∀base:Heap,(K w.params).In base->base.Ns mainGlobals mg->(∀n∈nms,LamEnv base mg (tb n).1 (tb n).2)->FnOk l.prog w (K w.params) mg base CX k fa fd [x] (sp (K w.params) tb))
  (hsp:∀(K:Q44) (tb:Str->Addr×Addr) (H:Hp) (a:Addr) (ns:List Int),ns.length<=n->(∀n∈nms,H (tb n).2=some (.tbl #[]))->SqL K H a (ns.map V.int)->sp K tb [.ref a] H (fun v _=>v=.bl true) fun _ _ _=>False)
  (hCX:∀(H:Hp) (s:Shared) (e:Value) (s':Shared),CX [] H s (fun _ _ _=>False) e s'->False):
  PySem.W.WalkO q loose XP YP l.row.toRowW d [] (fun f vs=>PySem.call f vs):=by
 refine Att.attach_call hn hdf fun w s₀ s₁ mg mb fa o pm cd doc a vs ns G Y ho hd hcd hmg hobj hints hlen hg=>?_
 have KX:=hY w _ Y
 have ex:∀n:Str,∃cp:Addr×Addr,n∈nms->TabOf mg s₁.heap n cp.1 cp.2:=fun n=>by
  by_cases h:n∈nms
  .rw[YAs]at hnm
   have:=hnm n h
   rw[YBa]at this
   obtain⟨e,he,en⟩:=this
   have en:e.name=n:=by simpa using en
   obtain⟨a',o',fd',c,P,h1,h2,h3,h4,h5,h6⟩:=G.T.tab e he
   exact⟨(c,P),fun _=>⟨⟨a',o',fd',by rw[<-en];exact h1,h2,h3,h4⟩,h5,h6⟩⟩
  .exact⟨(0,0),fun z=>absurd z h⟩
 obtain⟨tb,htb⟩:=Classical.skolem.mp ex
 obtain⟨fd,hb,hF⟩:=F w mg fa _ tb KX G.T.g hmg htb
 exact ZiF KX G.T.g G.T.b G.T.builtins G.T.nolimit hg hobj hints (YAK hlen hn2) hr htb (hKt _) G.T.bmain hF hb (fun H hP hS=>hsp (K w.params) tb H a ns hlen hP hS) fun H e s'=>hCX H s₁ e s'
section
variable {P:Program}{w:World}{K:Q44}{mg:Str->Option Value}{base:Heap}
theorem Fun.okC {x qual:Str}{st:Stmt}{f:Addr}{fd:FuncData}{N ps:List Str}{k:Nat}{sp:Sp}{c:Value}(F:Fun K x qual st f fd)(hc:fd.code=c)(S:FnScope N ps (Zaj st))(len:∀vs H Q E,sp vs H Q E->vs.length=ps.length)
  (body:∀(A:Around) (outer:List Env) (s:Shared) (H:Hp) (vs:List V) (Q:VK) (E:XK),Room k (A.deeper (envOfC qual (Zaj st) s.heap.objs.size f c))->sp vs H Q E ->
   ∃t,PSs (cxOf CX0 P w K mg base N qual (Zaj st) f c A outer s H E).nox (Zbx st) t/\t { nx:=fun _ H'=>Q .non H',rt:=Q } (start N vs) H):FnOk P w K mg base CX0 (k+1) f fd ps sp:=by
 obtain⟨⟨oc,od,kV,doc,pm,an,cdv,ct,osl,rfl,l,cc⟩,_⟩:=F
 obtain rfl:cdv=c:=hc
 refine Zlt l cc S len fun A outer s H vs Q E hr hsp=>?_
 obtain⟨t,h,q⟩:=body A outer s H vs Q E hr hsp
 exact⟨t,h.nox,q⟩
theorem Fun.at {x qual:Str}{st:Stmt}{f:Addr}{fd:FuncData}{h:Heap}(F:Fun K x qual st f fd)(KX:K.In h):∃o,h.get? f=some o/\o.data=.func fd:=by
 obtain⟨⟨oc,od,kV,doc,pm,an,cdv,ct,osl,rfl,l,cc⟩,_⟩:=F
 exact⟨_,KX _ _ l,rfl⟩
end
end L2
namespace L2
open PySem PySem.Spec PyProof.Rows
open PySem.W (Frag)
section
variable {τ0:St}{tt:TT}{te:TE}{H:Hp}{Q:VK}
end
section
variable {X:Cx}{pos:Pos}
def ZkA (tk tv:TE):TE:=fun σ H Q=>∀p,H p=none->tk σ (upd H p (.dT [])) fun x H1=>tv σ H1 fun y H2=>∃b ks,x=.ref b/\H2 b=some (.tup (ks.map kV))/\H2 p=some (.dT [])/\Q (.ref p) (upd H2 p (.dT [(ks,y)]))
end
end L2
namespace L2
open PySem PySem.Spec PyProof.Rows PySem.Builtin.Str
section
variable {X:Cx}
end
end L2
namespace L2
open PySem PySem.Spec PyProof.Rows
section
variable {X:Cx}{tg:Expr}
end
section
variable {X:Cx}{pins:List (Addr×Obj)}{σ:St}{H:Hp}{s:Shared}{a:Addr}{kvs:List (Key×V)}{k:Key}{v:V}{u w:Value}{A:Around}{E:Q33}
theorem ZfQ {Q:Q33}(I:Inv X pins σ H s)(e:H a=some (.dK kvs))(ry:RelV (kV k) u)(rv:RelV v w)(hz:kvs.length<sizeLine)
  (h1:∀x w' s',valV kvs k=some x->RelV x w'->Inv X pins σ H s'->Q w' s') (h2:valV kvs k=none->∀s',Inv X pins σ (upd H a (.dK (putK kvs k v))) s'->Q w s'):
  wpAny (model X.prog X.w) A (call (.builtin "dict.setdefault") [.ref a,u,w]) Q E s:=by
 obtain⟨z,hd,vs,rel,dd⟩:=ZfM I.hok e
 refine call_meetsIn PySem.F.slot_dict_setdefault dd.typeIs PySem.F.entry_dict_setdefault (PySem.F.args_dict_setdefault_3 _ _ _) (kt_meets_setdefault (Zax X.prog X.w) a (Zd9 ry) hd w) ⟨vs,dd,by rw[<-rel.length];exact z,fun x hx=>?_,fun hn h' dd' hs=>?_⟩
 .have r:=rel.val k
  rw[hx]at r
  cases hv:valV kvs k with
  | none=>rw[hv]at r;exact(by cases r)
  | some y=>rw[hv]at r;exact h1 y x _ hv (by first | exact r | cases r;assumption) (I.tok _)
 .have r:=rel.val k
  rw[hn]at r
  have hv:valV kvs k=none:=by
   cases hv:valV kvs k with
   | none=>rfl
   | some y=>rw[hv]at r;exact(by cases r)
  have he:∃q,h'.get? a=some q:=let ⟨q,_,_,hq,_⟩:=dd';⟨q,hq⟩
  have hl:(putK kvs k v).length<=sizeLine:=by have:=ZaE kvs k v;omega
  exact h2 hv _ (ZdW I (by rw[e];exact True.intro) hs he (ZfN hl hd (rel.put k rv) dd'))
def ZlY (td ty tx:TE):TE:=fun σ H Q=>td σ H fun x H1=>∃a,x=.ref a/\IsD H1 a/\ty σ H1 fun y H2=>tx σ H2 fun z H3=>∃kvs k,H3 a=some (.dK kvs)/\y=kV k/\kvs.length<sizeLine /\
 (∀v,valV kvs k=some v->Q v H3)/\(valV kvs k=none->Q z (upd H3 a (.dK (putK kvs k z))))
theorem Zd6 {o e f:Expr} {td ty tx:TE} {apos cpos:Pos} (ho:PE X o td) (he:PE X e ty) (hf:PE X f tx) (m:M2 X o "setdefault" apos e f cpos):PE X (.Call (.Attribute o "setdefault" apos) [e,f] [] cpos) (ZlY td ty tx):=by
 intro pins s σ H Q I h
 refine YDT m.base m.few m.line YCh PySem.F.slot_dict_setdefault PySem.F.type_dict_setdefault (thn (ho pins s σ H _ I h) fun u s1 ⟨x,H1,I1,rx,a,ex,d,q1⟩=>?_)
 subst ex
 obtain rfl:u=Value.ref a:=rx
 obtain⟨t1,t2,_⟩:=ZiO I1 d
 refine⟨t1,t2,?_⟩
 rw[m.trees]
 refine YCq rfl (YDE (YBi (thn (he pins s1 σ H1 _ I1 q1) fun iv s2 ⟨y,H2,I2,ry,q2⟩=>
  YBi (thn (hf pins s2 σ H2 _ I2 q2) fun fv s3 ⟨z,H3,I3,rz,kvs,k,ea,ey,hz,q3,q4⟩=>YCU ?_))))
 subst ey
 exact ZfQ I3 ea ry rz hz (fun x w' s' hv r I4=>⟨x,H3,I4,r,q3 x hv⟩) fun hn s' I4=>⟨z,_,I4,rz,q4 hn⟩
end
end L2
namespace PySem
section
variable {prog:Program}{w:World}{K:Type}[DecidableEq K]{knd:HeapKind prog w K}{A:Around}{E:Q33}{s:Shared}
end
end PySem
namespace L2
open PySem PySem.Spec PyProof.Rows
section
variable {X:Cx}{pins:List (Addr×Obj)}{σ:St}{H:Hp}{s:Shared}{a b:Addr}{kvs:List (List Key×V)}{k:List Key}{v:V}{w:Value}{A:Around}{E:Q33}
noncomputable def tDSetT (td ty tx:TE):TE:=fun σ H Q=>td σ H fun x H1=>∃a,x=.ref a/\IsD H1 a/\ty σ H1 fun y H2=>tx σ H2 fun z H3=>∃kvs k b,H3 a=some (.dT kvs)/\y=.ref b/\H3 b=some (.tup (k.map kV))/\kvs.length<sizeLine /\
 (∀v,valV kvs k=some v->Q v H3)/\(valV kvs k=none->Q z (upd H3 a (.dT (putK kvs k z))))
end
end L2
namespace L2
open PySem PySem.Spec PyProof.Rows PySem.W
section
variable {prog:Program}{w:World}{A:Around}{E:Q33}{s:Shared}
end
def Zky (P:Addr)(lpos:Pos)(q:Str)(ta:TA):TE:=fun σ H Q=>ta σ H fun vs H1=>∃(a:Addr) (kvs:List (Key×V)) (ws:Q22),vs=[.ref a]/\H1 a=some (.dK kvs)/\kvs.map (·.1)=ws.map kTx/\(∀w∈ws,w.length<=sizeLine)/\TblOk H1 P lpos q /\
 ∀(ws':Q22) (r:Addr) (H2:Hp),ws'.Perm ws->ws'.Pairwise (fun a b=>¬BefW b a)->SameT lpos H1 H2->TblOk H2 P lpos q->H1 r=none->H2 r=some (.lst (ws'.map tx))->Q (.ref r) H2
section
variable {X:Cx}{e:Expr}{ta:TA}{p pos kpos lpos p1 p2 p3 p4 p5:Pos}{k kk:Nat}{c P:Addr}{params:Arguments}{scope:Scope}{x q:Str}
end
end L2
namespace PySem
noncomputable def RawD (h:Heap) (d:Addr) (es:Array DictEntry) (ep:Nat):Prop:=∃o,h.get? d=some o/\o.ExactDict/\o.data=.dict es ep
section
variable {prog:Program}{w:World}{A:Around}{E:Q33}{s:Shared}{d v it i ep:Nat}{es:Array DictEntry}
theorem RawD.at {h h':Heap}(x:RawD h d es ep)(e:∀o,h.get? d=some o->h'.get? d=some o):RawD h' d es ep:=let ⟨o,ho,r⟩:=x;⟨o,e _ ho,r⟩
end
end PySem
namespace L2
open PySem PySem.Spec PyProof.Rows PySem.W
noncomputable def tListVT (td:TE):TE:=fun σ H Q=>td σ H fun x H1=>∃(a:Addr) (kvs:List (List Key×V)),x=.ref a/\H1 a=some (.dT kvs)/\NewL (kvs.map (·.2)) H1 Q
theorem KT.at {H:Hp}{kvs:List (List Key×V)}{xs:List (List Key×Addr×Value)}(r:KT H kvs xs):∀(i:Nat) (x:List Key×V) (u:List Key×Addr×Value),kvs[i]?=some x->xs[i]?=some u->RelV x.2 u.2.2:=by
 induction r with
 | nil=>intro i x u h;simp at h
 | cons hd _ ih=>
  intro i x u h1 h2
  cases i with
  | zero=>
   have e1:=Option.some.inj h1
   have e2:=Option.some.inj h2
   rw[<-e1,<-e2]
   exact hd.2.2
  | succ i=>exact ih i x u (by simpa using h1) (by simpa using h2)
section
variable {X:Cx}{o:Expr}{td:TE}{p pos ap cp:Pos}
end
end L2
namespace L2
open PySem PySem.Spec PyProof.Rows
section
variable {tt:TT}{te:TE}{Q:VK}{τ0:St}{H:Hp}{o:Obj}{kvs:List (Key×V)}{a:Addr}
theorem CompRun.keys (b:Nat->Bool)(f:Nat->V)(hz:kvs.length<=100000)(hx:H a=some (.frz o (.dK kvs)))
  (ht:∀i p H' Q',kvs[i]?=some p->Same H H'->(∀H'',Same H' H''->Q' (b i) H'')->tt (τ0.set 0 (some (kV p.1))) H' Q')
  (he:∀i p H' Q',kvs[i]?=some p->b i=true->Same H H'->(∀H'',Same H' H''->Q' (f i) H'')->te (τ0.set 0 (some (kV p.1))) H' Q')
  (hQ:∀p H',Same H H'->H p=none->H' p=some (.lst (((List.range kvs.length).filter b).map f))->Q (.ref p) H'):CompRun (Itd o kvs a) τ0 (Zcx 0) tt te H Q:=by
 intro acc ha
 refine⟨fun i m τ H2=>i<=kvs.length/\m=kvs.length-i/\(∀w:Option V,τ.set 0 w=τ0.set 0 w)/\Same H H2/\H2 acc=some (.lst (((List.range i).filter b).map f)),⟨kvs.length,YAg _,rfl,fun _=>rfl,Zao ha,Zad⟩,?_⟩
 rintro i m τ H2 ⟨hi,rfl,hτ,hs,hacc⟩
 by_cases hlt:i<kvs.length
 .refine .inr ⟨⟨hs _ _ hx,hlt⟩,fun τ' H'=>(∀w:Option V,τ'.set 0 w=τ0.set 0 w)/\Same H H'/\H' acc=some (.lst (((List.range (i+1)).filter b).map f)),fun τ' H' q=>⟨kvs.length-(i+1),by omega,hlt,rfl,q⟩,fun x H3 y=>?_⟩
  obtain⟨rfl,p,hp,rfl⟩:=y
  show tt (τ.set 0 (some (kV p.1))) _ _
  rw[hτ]
  have hτ':∀w:Option V,(τ0.set 0 (some (kV p.1))).set 0 w=τ0.set 0 w:=fun w=>by rw[List.set_set]
  refine ht i p _ _ hp hs fun H4 s4=>?_
  cases hb:b i with
  | false=>
   rw[YAX YAF]
   refine⟨hτ',hs.trans s4,?_⟩
   rw[s4 _ _ hacc,YBx,YBO]
   simp[hb]
  | true=>
   rw[YAW rfl]
   refine he i p _ _ hp hb (hs.trans s4) fun H5 s5=>⟨_,s5 _ _ (s4 _ _ hacc),?_,hτ',same_upd3' ha ((hs.trans s4).trans s5),?_⟩
   .rw[YAB]
    have:=YAt b (List.range i)
    rw[YBJ]at this
    rw[sizeLine_eq];omega
   .rw[Zad,YBx,YBO]
    simp[hb]
 .have e:i=kvs.length:=by omega
  subst e
  exact .inl ⟨⟨hs _ _ hx,YAJ _⟩,hQ acc H2 hs ha hacc⟩
end
section
variable {te:TE}{Q:VK}{τ0:St}{H:Hp}
end
end L2
namespace L2
open PySem PySem.W
def DG (K:Frag)(x:Str)(s:Stmt)(f:Addr)(e:FuncData):Prop:=nsIn K mainGlobals x=some (some (.ref f))/\Fun K x x s f e
def MG (K:Frag)(x q:Str)(s:Stmt)(f:Addr)(e:FuncData):Prop:=Fun K x q s f e/\PySem.W.isFn K (.ref f)=true
structure XG (K:Frag)(x:Str)(C:Addr)(L:List Value):Prop where
 a:nsIn K mainGlobals x=some (some (.ref C))
 m:Xm K C
 i:Xi K C
 k:ClsOk K C L
theorem xg_mk {K:Frag} {x:Str} {C:Addr} {L:List Value} {cd:ClassData} {nm qn:Str} {N:Addr} {bs bm:List Value} {hdct:Bool} {sn:List Str} {sub:List Value} {ab:Bool} {col:Option Bool} {dd:Option Addr} {k0 k1 k2 k3 k5:Option Value} (a:nsIn K mainGlobals x=some (some (.ref C))) (q:clsIn K C=some cd) (r:cd.mro=L) (ty:typeIn K (.ref C)=some (.type "type"))
  (ga:findIn K (.ref C) "__getattribute__"=some (some (.builtin "BaseException.__getattribute__"))) (gr:findIn K (.ref C) "__getattr__"=some none) (sa:findIn K (.ref C) "__setattr__"=some (some (.builtin "object.__setattr__"))) (hd:PySem.W.hasDictIn K C=true)
  (ob:K.lookup C=some (excClassObj nm qn C N bs bm hdct sn sub ab col dd k0 k1 k2 k3 k5 "ValueError.__new__")) (kp:PySem.W.keepIn K (.ref C)=true) (ha:findIn K (.ref C) "__class__"=some (some (.builtin "object.__class__")))
  (hn:specialIn K (.builtin "object.__class__") "__get__"=some (some (.builtin "getset_descriptor.__get__"))) (tk:PySem.W.takesIn K (.builtin "object.__class__")=some true) (x1:xmro L=true) (x2:L.isEmpty=false):XG K x C L:=
 have c:Xc K C:=⟨ga,gr,sa,hd,by rw[q];show xmro cd.mro=true;rw[r];exact x1⟩
 ⟨a,⟨c,⟨_,_,_,_,_,_,_,_,_,_,_,_,_,_,_,_,ob⟩,kp⟩,⟨c,ha,hn,tk⟩,⟨⟨_,q,r⟩,ty,x2⟩⟩
theorem dg_mk {K:Frag}{x:Str}{st:Stmt}{f:Addr}{oc:Value}{od an:Option Addr}{osl:Array (Option Value)}{kV doc pm cdv ct:Value}(a:nsIn K mainGlobals x=some (some (.ref f)))(l:K.lookup f=some ⟨oc,od,.func (PySem.W.fnOf x x (Zb3 st) (Zbx st) (Zaj st) .none kV doc pm an cdv ct),osl⟩)
  (c:PySem.W.codeIn K cdv x=true) (k:PySem.W.keepIn K (.ref f)=true):DG K x st f (PySem.W.fnOf x x (Zb3 st) (Zbx st) (Zaj st) .none kV doc pm an cdv ct):=⟨a,Zkf l c k⟩
theorem mg_mk {K:Frag}{x q:Str}{st:Stmt}{f:Addr}{oc:Value}{od an:Option Addr}{osl:Array (Option Value)}{kV doc pm cdv ct:Value}(l:K.lookup f=some ⟨oc,od,.func (PySem.W.fnOf x q (Zb3 st) (Zbx st) (Zaj st) .none kV doc pm an cdv ct),osl⟩)
  (c:PySem.W.codeIn K cdv q=true) (k:PySem.W.keepIn K (.ref f)=true) (n:PySem.W.isFn K (.ref f)=true):MG K x q st f (PySem.W.fnOf x q (Zb3 st) (Zbx st) (Zaj st) .none kV doc pm an cdv ct):=⟨Zkf l c k,n⟩
end L2
namespace L2
open PySem PySem.Spec PyProof.Rows
structure PAz (X:Cx)(es:List Expr)(t:TA):Prop where
 h:PA X es t
instance (l w:Q11) (i:Nat):Decidable (AtW l w i):=by unfold AtW;infer_instance
def Zkg (l:Q11):Q11:=(List.range (l.length+1)).filter fun i=>decide (∀j,j<i->¬AtW l (l.drop i) j)
def ZkG (l w:Q11):Q11:=((Zkg l).filter fun i=>decide (AtW l w i)).map (· + w.length)
theorem Zbz {α:Type}[DecidableEq α]:∀(l m:List α),l.Nodup->(∀x∈l,x∈m)->l.length<=m.length
 | [],m,_,_=>YAg _
 | x::l,m,nd,h=>by
  have hx:=h x YAa
  have nd':=YBP.mp nd
  have:=Zbz l (m.erase x) nd'.2 fun y hy=>(List.mem_erase_of_ne (fun e=>by rw[e]at hy;exact nd'.1 hy)).mpr (h y (YAV _ hy))
  rw[List.length_erase_of_mem hx]at this
  have pos:0<m.length:=List.length_pos_of_mem hx
  rw[YAf]
  omega
theorem Rd.same {H H':Hp}{a:Addr}{u:HO}(h:Rd H a u)(s:Same H H'):Rd H' a u:=h.elim (fun h=>.inl (s _ _ h)) fun ⟨o,h⟩=>.inr ⟨o,s _ _ h⟩
section
variable {prog:Program}{w:World}{A:Around}{E:Q33}{s:Shared}
end
section
variable {prog:Program}{w:World}{A:Around}{E:Q33}{s:Shared}
end
section
variable {X:Cx}
end
end L2
namespace L2
open PySem PySem.Spec PyProof.Rows PySem.W
section
variable {te:TE}{Q:VK}{τ0:St}{H:Hp}{K:Frag}{a:Addr}{xs:List V}
end
end L2
namespace L2
open PySem PySem.Spec PyProof.Rows
open PySem.W (Frag)
section
variable {X:Cx}{es:List Expr}{x1:Nat}{tp:Pos}
end
end L2
namespace L2
open PySem PySem.Spec PyProof.Rows
def Zbc (t:TS):TS:=t
theorem Zah {X:Cx}{st:List Stmt}{t:TS}(h:PSs X st t):PSs X st (Zbc t):=h
theorem Zag {t:TS}{D:Ends}{σ:St}{H:Hp}(h:t D σ H):Zbc t D σ H:=h
section
variable {X:Cx}
def ZlU (t:TX):TX:=fun σ H Q E=>t σ H (fun x H1=>1<=sizeLine/\NewL [x] H1 Q) E
end
end L2
set_option maxHeartbeats 400000000
namespace Pk64
open PySem L2
def top (i:Nat):Stmt:=PySem.Challenge.pw_lackword_k64_lists_of_no_strip.main.body.getD i (.Pass ⟨0,0,0,0⟩)
abbrev s_KR:Stmt:=top 14
abbrev s_KT:Stmt:=top 15
abbrev s_K1:Stmt:=top 16
abbrev s_KK:Stmt:=top 17
abbrev s_KO:Stmt:=top 18
abbrev s_KS:Stmt:=top 21
abbrev s_LE:Stmt:=top 22
abbrev s_LH:Stmt:=top 24
abbrev s_KN:Stmt:=top 30
abbrev s_K9:Stmt:=top 31
abbrev s_KW:Stmt:=top 33
abbrev s_LR:Stmt:=top 34
abbrev s_LB:Stmt:=top 35
abbrev s_LV:Stmt:=top 36
abbrev s_LJ:Stmt:=top 37
abbrev s_KP:Stmt:=top 38
abbrev s_K4:Stmt:=top 39
abbrev s_K7:Stmt:=top 40
abbrev s_KX:Stmt:=top 41
abbrev s_LL:Stmt:=top 43
abbrev s_LP:Stmt:=top 44
abbrev s_LC:Stmt:=top 45
abbrev s_LI:Stmt:=top 46
abbrev s_KQ:Stmt:=top 47
abbrev s_K6:Stmt:=top 48
abbrev s_KV:Stmt:=top 49
abbrev s_K5:Stmt:=top 50
abbrev s_K2:Stmt:=top 51
abbrev s_LU:Stmt:=top 52
abbrev s_LT:Stmt:=top 53
abbrev s_LK:Stmt:=top 54
abbrev s_LM:Stmt:=top 55
abbrev s_LO:Stmt:=top 56
abbrev s_K3:Stmt:=top 57
abbrev s_LA:Stmt:=top 58
abbrev s_KU:Stmt:=top 59
abbrev s_LD:Stmt:=top 60
abbrev s_LQ:Stmt:=top 61
abbrev s_K0:Stmt:=top 62
abbrev s_LN:Stmt:=top 63
abbrev ZkT:Stmt:=top 64
abbrev ZbB:Stmt:=inClass (top 4) 0
abbrev ZbL:Stmt:=inClass (top 5) 0
abbrev ZbW:Stmt:=inClass (top 6) 0
abbrev ZbC:Stmt:=inClass (top 7) 0
abbrev s_KL:Stmt:=inClass (top 25) 0
abbrev s_KA:Stmt:=inClass (top 25) 3
abbrev s_KG:Stmt:=inClass (top 25) 4
abbrev s_KF:Stmt:=inClass (top 25) 7
abbrev s_KD:Stmt:=inClass (top 25) 8
abbrev s_KJ:Stmt:=inClass (top 26) 0
set_option genInjectivity false
set_option genSizeOf false
structure Ad where
 c_KM:Addr
 c_KZ:Addr
 c_K8:Addr
 c_LG:Addr
 c_KY:Addr
 c_LS:Addr
 c_LF:Addr
 g_TooLong_init:Addr
 e_TooLong_init:FuncData
 g_Inside_init:Addr
 e_Inside_init:FuncData
 g_Split_init:Addr
 e_Split_init:FuncData
 g_Endless_init:Addr
 e_Endless_init:FuncData
 g_KL:Addr
 e_KL:FuncData
 g_KA:Addr
 e_KA:FuncData
 g_KG:Addr
 e_KG:FuncData
 g_KF:Addr
 e_KF:FuncData
 g_KD:Addr
 e_KD:FuncData
 g_KJ:Addr
 e_KJ:FuncData
 f_KR:Addr
 d_KR:FuncData
 f_KT:Addr
 d_KT:FuncData
 f_K1:Addr
 d_K1:FuncData
 f_KK:Addr
 d_KK:FuncData
 f_KO:Addr
 d_KO:FuncData
 f_KS:Addr
 d_KS:FuncData
 f_LE:Addr
 d_LE:FuncData
 f_LH:Addr
 d_LH:FuncData
 f_KN:Addr
 d_KN:FuncData
 f_K9:Addr
 d_K9:FuncData
 f_KW:Addr
 d_KW:FuncData
 f_LR:Addr
 d_LR:FuncData
 f_LB:Addr
 d_LB:FuncData
 f_LV:Addr
 d_LV:FuncData
 f_LJ:Addr
 d_LJ:FuncData
 f_KP:Addr
 d_KP:FuncData
 f_K4:Addr
 d_K4:FuncData
 f_K7:Addr
 d_K7:FuncData
 f_KX:Addr
 d_KX:FuncData
 f_LL:Addr
 d_LL:FuncData
 f_LP:Addr
 d_LP:FuncData
 f_LC:Addr
 d_LC:FuncData
 f_LI:Addr
 d_LI:FuncData
 f_KQ:Addr
 d_KQ:FuncData
 f_K6:Addr
 d_K6:FuncData
 f_KV:Addr
 d_KV:FuncData
 f_K5:Addr
 d_K5:FuncData
 f_K2:Addr
 d_K2:FuncData
 f_LU:Addr
 d_LU:FuncData
 f_LT:Addr
 d_LT:FuncData
 f_LK:Addr
 d_LK:FuncData
 f_LM:Addr
 d_LM:FuncData
 f_LO:Addr
 d_LO:FuncData
 f_K3:Addr
 d_K3:FuncData
 f_LA:Addr
 d_LA:FuncData
 f_KU:Addr
 d_KU:FuncData
 f_LD:Addr
 d_LD:FuncData
 f_LQ:Addr
 d_LQ:FuncData
 f_K0:Addr
 d_K0:FuncData
 f_LN:Addr
 d_LN:FuncData
 f_law:Addr
 d_law:FuncData
 t_KS:Addr
 k_KS:Addr
structure Txt (K:Q44)(mg:Str->Option Value)(a:Ad):Prop where
 m_KR:mg "has_only"=some (.ref a.f_KR)
 f_KR:Fun K "has_only" "has_only" s_KR a.f_KR a.d_KR
 b_KR:Binds K a.d_KR ["text","letters"] []
 m_KT:mg "is_kinds"=some (.ref a.f_KT)
 f_KT:Fun K "is_kinds" "is_kinds" s_KT a.f_KT a.d_KT
 b_KT:Binds K a.d_KT ["thing"] []
 m_K1:mg "is_word"=some (.ref a.f_K1)
 f_K1:Fun K "is_word" "is_word" s_K1 a.f_K1 a.d_K1
 b_K1:Binds K a.d_K1 ["thing","kinds","most"] []
 m_KK:mg "need_kinds"=some (.ref a.f_KK)
 f_KK:Fun K "need_kinds" "need_kinds" s_KK a.f_KK a.d_KK
 b_KK:Binds K a.d_KK ["thing"] []
 m_KO:mg "need_word"=some (.ref a.f_KO)
 f_KO:Fun K "need_word" "need_word" s_KO a.f_KO a.d_KO
 b_KO:Binds K a.d_KO ["thing","kinds","most"] []
 m_KS:mg "in_order"=some (.ref a.f_KS)
 f_KS:Fun K "in_order" "in_order" s_KS a.f_KS a.d_KS
 b_KS:Binds K a.d_KS ["words"] []
 m_LE:mg "pieces"=some (.ref a.f_LE)
 f_LE:Fun K "pieces" "pieces" s_LE a.f_LE a.d_LE
 b_LE:Binds K a.d_LE ["text","length"] []
 m_LH:mg "lacking_among"=some (.ref a.f_LH)
 f_LH:Fun K "lacking_among" "lacking_among" s_LH a.f_LH a.d_LH
 b_LH:Binds K a.d_LH ["shorter","standing","kinds"] []
 m_KN:mg "need_list"=some (.ref a.f_KN)
 f_KN:Fun K "need_list" "need_list" s_KN a.f_KN a.d_KN
 b_KN:Binds K a.d_KN ["words","kinds"] []
 m_K9:mg "avoids"=some (.ref a.f_K9)
 f_K9:Fun K "avoids" "avoids" s_K9 a.f_K9 a.d_K9
 b_K9:Binds K a.d_K9 ["words","word"] []
 m_KW:mg "refuse_inside"=some (.ref a.f_KW)
 f_KW:Fun K "refuse_inside" "refuse_inside" s_KW a.f_KW a.d_KW
 b_KW:Binds K a.d_KW ["words"] []
 m_LR:mg "stems_of"=some (.ref a.f_LR)
 f_LR:Fun K "stems_of" "stems_of" s_LR a.f_LR a.d_LR
 b_LR:Binds K a.d_LR ["words"] []
 m_LB:mg "ending_stem"=some (.ref a.f_LB)
 f_LB:Fun K "ending_stem" "ending_stem" s_LB a.f_LB a.d_LB
 b_LB:Binds K a.d_LB ["stems","text"] []
 m_LV:mg "ways_between"=some (.ref a.f_LV)
 f_LV:Fun K "ways_between" "ways_between" s_LV a.f_LV a.d_LV
 b_LV:Binds K a.d_LV ["words","kinds"] []
 m_LJ:mg "stems_that_end"=some (.ref a.f_LJ)
 f_LJ:Fun K "stems_that_end" "stems_that_end" s_LJ a.f_LJ a.d_LJ
 b_LJ:Binds K a.d_LJ ["ways"] []
 m_KP:mg "refuse_endless"=some (.ref a.f_KP)
 f_KP:Fun K "refuse_endless" "refuse_endless" s_KP a.f_KP a.d_KP
 b_KP:Binds K a.d_KP ["ways","ended"] []
 m_K4:mg "longest_word"=some (.ref a.f_K4)
 f_K4:Fun K "longest_word" "longest_word" s_K4 a.f_K4 a.d_K4
 b_K4:Binds K a.d_K4 ["ways","ended"] []
 m_K7:mg "refuse_split"=some (.ref a.f_K7)
 f_K7:Fun K "refuse_split" "refuse_split" s_K7 a.f_K7 a.d_K7
 b_K7:Binds K a.d_K7 ["words","kinds","text"] []
 m_KX:mg "strip_of"=some (.ref a.f_KX)
 f_KX:Fun K "strip_of" "strip_of" s_KX a.f_KX a.d_KX
 b_KX:Binds K a.d_KX ["words","kinds"] []
 m_LL:mg "_law_cell_at"=some (.ref a.f_LL)
 f_LL:Fun K "_law_cell_at" "_law_cell_at" s_LL a.f_LL a.d_LL
 b_LL:Binds K a.d_LL ["_law_script","_law_k"] []
 m_LP:mg "_law_mixed"=some (.ref a.f_LP)
 f_LP:Fun K "_law_mixed" "_law_mixed" s_LP a.f_LP a.d_LP
 b_LP:Binds K a.d_LP ["_law_cell","_law_k"] []
 m_LC:mg "_law_kinds"=some (.ref a.f_LC)
 f_LC:Fun K "_law_kinds" "_law_kinds" s_LC a.f_LC a.d_LC
 b_LC:Binds K a.d_LC ["_law_cell"] []
 m_LI:mg "_law_drawn"=some (.ref a.f_LI)
 f_LI:Fun K "_law_drawn" "_law_drawn" s_LI a.f_LI a.d_LI
 b_LI:Binds K a.d_LI ["_law_cell","_law_by_digits","_law_kinds_here","_law_many"] []
 m_KQ:mg "_law_stretches"=some (.ref a.f_KQ)
 f_KQ:Fun K "_law_stretches" "_law_stretches" s_KQ a.f_KQ a.d_KQ
 b_KQ:Binds K a.d_KQ ["_law_text"] []
 m_K6:mg "_law_missing"=some (.ref a.f_K6)
 f_K6:Fun K "_law_missing" "_law_missing" s_K6 a.f_K6 a.d_K6
 b_K6:Binds K a.d_K6 ["_law_texts","_law_kinds_here"] []
 m_KV:mg "_law_mixed_up"=some (.ref a.f_KV)
 f_KV:Fun K "_law_mixed_up" "_law_mixed_up" s_KV a.f_KV a.d_KV
 b_KV:Binds K a.d_KV ["_law_words","_law_cell"] []
 m_K5:mg "_law_stands"=some (.ref a.f_K5)
 f_K5:Fun K "_law_stands" "_law_stands" s_K5 a.f_K5 a.d_K5
 b_K5:Binds K a.d_K5 ["_law_one","_law_word"] []
 m_K2:mg "_law_avoids"=some (.ref a.f_K2)
 f_K2:Fun K "_law_avoids" "_law_avoids" s_K2 a.f_K2 a.d_K2
 b_K2:Binds K a.d_K2 ["_law_words","_law_word"] []
 m_LU:mg "_law_good"=some (.ref a.f_LU)
 f_LU:Fun K "_law_good" "_law_good" s_LU a.f_LU a.d_LU
 b_LU:Binds K a.d_LU ["_law_kinds_here","_law_text"] []
 m_LT:mg "_law_forbidden"=some (.ref a.f_LT)
 f_LT:Fun K "_law_forbidden" "_law_forbidden" s_LT a.f_LT a.d_LT
 b_LT:Binds K a.d_LT ["_law_words"] []
 m_LK:mg "_law_heads"=some (.ref a.f_LK)
 f_LK:Fun K "_law_heads" "_law_heads" s_LK a.f_LK a.d_LK
 b_LK:Binds K a.d_LK ["_law_words"] []
 m_LM:mg "_law_level"=some (.ref a.f_LM)
 f_LM:Fun K "_law_level" "_law_level" s_LM a.f_LM a.d_LM
 b_LM:Binds K a.d_LM ["_law_forbidden_here","_law_heads_here","_law_kinds_here","_law_level_here"] []
 m_LO:mg "_law_longest"=some (.ref a.f_LO)
 f_LO:Fun K "_law_longest" "_law_longest" s_LO a.f_LO a.d_LO
 b_LO:Binds K a.d_LO ["_law_words","_law_kinds_here","_law_most"] []
 m_K3:mg "_law_inside"=some (.ref a.f_K3)
 f_K3:Fun K "_law_inside" "_law_inside" s_K3 a.f_K3 a.d_K3
 b_K3:Binds K a.d_K3 ["_law_words"] []
 m_LA:mg "_law_caught"=some (.ref a.f_LA)
 f_LA:Fun K "_law_caught" "_law_caught" s_LA a.f_LA a.d_LA
 b_LA:Binds K a.d_LA ["_law_words","_law_kinds_here"] []
 m_KU:mg "_law_endless"=some (.ref a.f_KU)
 f_KU:Fun K "_law_endless" "_law_endless" s_KU a.f_KU a.d_KU
 b_KU:Binds K a.d_KU ["_law_words","_law_kinds_here","_law_head","_law_lap"] []
 m_LD:mg "_law_split"=some (.ref a.f_LD)
 f_LD:Fun K "_law_split" "_law_split" s_LD a.f_LD a.d_LD
 b_LD:Binds K a.d_LD ["_law_words","_law_kinds_here","_law_one","_law_other"] []
 m_LQ:mg "_law_shown"=some (.ref a.f_LQ)
 f_LQ:Fun K "_law_shown" "_law_shown" s_LQ a.f_LQ a.d_LQ
 b_LQ:Binds K a.d_LQ ["_law_words","_law_kinds_here","_law_found"] []
 m_K0:mg "_law_changed"=some (.ref a.f_K0)
 f_K0:Fun K "_law_changed" "_law_changed" s_K0 a.f_K0 a.d_K0
 b_K0:Binds K a.d_K0 ["_law_words","_law_kinds_here","_law_cell"] []
 m_LN:mg "_law_list"=some (.ref a.f_LN)
 f_LN:Fun K "_law_list" "_law_list" s_LN a.f_LN a.d_LN
 b_LN:Binds K a.d_LN ["_law_script","_law_kinds_here"] []
 m_law:mg "law"=some (.ref a.f_law)
 f_law:Fun K "law" "law" ZkT a.f_law a.d_law
 b_law:Binds K a.d_law ["_law_script"] []
 m_KM:mg "LackError"=some (.ref a.c_KM)
 x_KM:Xm K a.c_KM
 xi_KM:Xi K a.c_KM
 k_KM:ClsOk K a.c_KM [.ref a.c_KM,.type "ValueError",.type "Exception",.type "BaseException",.type "object"]
 i_KM:PySem.W.findIn K (.ref a.c_KM) "__init__"=some (some (.builtin "ValueError.__init__"))
 r_KM:ClsRead K a.c_KM "__init__" (.builtin "ValueError.__init__")
 m_KZ:mg "TooLong"=some (.ref a.c_KZ)
 x_KZ:Xm K a.c_KZ
 xi_KZ:Xi K a.c_KZ
 k_KZ:ClsOk K a.c_KZ [.ref a.c_KZ,.ref a.c_KM,.type "ValueError",.type "Exception",.type "BaseException",.type "object"]
 i_KZ:PySem.W.findIn K (.ref a.c_KZ) "__init__"=some (some (.ref a.g_TooLong_init))
 fn_KZ:PySem.W.isFn K (.ref a.g_TooLong_init)=true
 n_TooLong_word:NoAttr K a.c_KZ "word"
 fi_KZ:Fun K "__init__" "TooLong.__init__" ZbB a.g_TooLong_init a.e_TooLong_init
 b_KZ:Binds K a.e_TooLong_init ["self","word"] []
 m_K8:mg "Inside"=some (.ref a.c_K8)
 x_K8:Xm K a.c_K8
 xi_K8:Xi K a.c_K8
 k_K8:ClsOk K a.c_K8 [.ref a.c_K8,.ref a.c_KM,.type "ValueError",.type "Exception",.type "BaseException",.type "object"]
 i_K8:PySem.W.findIn K (.ref a.c_K8) "__init__"=some (some (.ref a.g_Inside_init))
 fn_K8:PySem.W.isFn K (.ref a.g_Inside_init)=true
 n_Inside_one:NoAttr K a.c_K8 "one"
 n_Inside_other:NoAttr K a.c_K8 "other"
 fi_K8:Fun K "__init__" "Inside.__init__" ZbL a.g_Inside_init a.e_Inside_init
 b_K8:Binds K a.e_Inside_init ["self","one","other"] []
 m_LG:mg "Split"=some (.ref a.c_LG)
 x_LG:Xm K a.c_LG
 xi_LG:Xi K a.c_LG
 k_LG:ClsOk K a.c_LG [.ref a.c_LG,.ref a.c_KM,.type "ValueError",.type "Exception",.type "BaseException",.type "object"]
 i_LG:PySem.W.findIn K (.ref a.c_LG) "__init__"=some (some (.ref a.g_Split_init))
 fn_LG:PySem.W.isFn K (.ref a.g_Split_init)=true
 n_Split_one:NoAttr K a.c_LG "one"
 n_Split_other:NoAttr K a.c_LG "other"
 fi_LG:Fun K "__init__" "Split.__init__" ZbW a.g_Split_init a.e_Split_init
 b_LG:Binds K a.e_Split_init ["self","one","other"] []
 m_KY:mg "Endless"=some (.ref a.c_KY)
 x_KY:Xm K a.c_KY
 xi_KY:Xi K a.c_KY
 k_KY:ClsOk K a.c_KY [.ref a.c_KY,.ref a.c_KM,.type "ValueError",.type "Exception",.type "BaseException",.type "object"]
 i_KY:PySem.W.findIn K (.ref a.c_KY) "__init__"=some (some (.ref a.g_Endless_init))
 fn_KY:PySem.W.isFn K (.ref a.g_Endless_init)=true
 n_Endless_head:NoAttr K a.c_KY "head"
 n_Endless_lap:NoAttr K a.c_KY "lap"
 fi_KY:Fun K "__init__" "Endless.__init__" ZbC a.g_Endless_init a.e_Endless_init
 b_KY:Binds K a.e_Endless_init ["self","head","lap"] []
 m_LS:mg "Band"=some (.ref a.c_LS)
 cr_LS:ClsRead K a.c_LS "__init__" (.ref a.g_KL)
 cl_LS:Cls K a.c_LS
 m_LF:mg "Plain"=some (.ref a.c_LF)
 cr_LF:ClsRead K a.c_LF "__init__" (.ref a.g_KJ)
 cl_LF:Cls K a.c_LF
 mk_LF:Mk K a.c_LF a.g_KJ
 me_Plain_words:Meth K a.c_LF "words" a.g_KG
 me_Plain_laid_out:Meth K a.c_LF "laid_out" a.g_KA
 me_Plain_reach:Meth K a.c_LF "reach" a.g_KF
 me_Plain_lacking:Meth K a.c_LF "lacking" a.g_KD
 n_Plain_own_text:NoAttr K a.c_LF "own_text"
 n_Plain_own_kinds:NoAttr K a.c_LF "own_kinds"
 ty_LF:∀ {H:Hp} {x dx:Addr} {fs:List (Str×V)},H x=some (.ins a.c_LF dx fs)->TyOf K H (.ref x) (.ref a.c_LF)
 fm_KL:Fun K "__init__" "Band.__init__" s_KL a.g_KL a.e_KL
 kp_KL:PySem.W.keepIn K (.ref a.g_KL)=true
 b_KL:Binds K a.e_KL ["self","text","kinds"] []
 fm_KA:Fun K "laid_out" "Band.laid_out" s_KA a.g_KA a.e_KA
 kp_KA:PySem.W.keepIn K (.ref a.g_KA)=true
 b_KA:Binds K a.e_KA ["self","length"] []
 fm_KG:Fun K "words" "Band.words" s_KG a.g_KG a.e_KG
 kp_KG:PySem.W.keepIn K (.ref a.g_KG)=true
 b_KG:Binds K a.e_KG ["self","length"] []
 fm_KF:Fun K "reach" "Band.reach" s_KF a.g_KF a.e_KF
 kp_KF:PySem.W.keepIn K (.ref a.g_KF)=true
 b_KF:Binds K a.e_KF ["self"] []
 fm_KD:Fun K "lacking" "Band.lacking" s_KD a.g_KD a.e_KD
 kp_KD:PySem.W.keepIn K (.ref a.g_KD)=true
 b_KD:Binds K a.e_KD ["self"] []
 fm_KJ:Fun K "__init__" "Plain.__init__" s_KJ a.g_KJ a.e_KJ
 kp_KJ:PySem.W.keepIn K (.ref a.g_KJ)=true
 b_KJ:Binds K a.e_KJ ["self","text","kinds"] []
 nd:[a.c_KM,a.c_KZ,a.c_K8,a.c_LG,a.c_KY].Nodup
 z_len:mg "len"=none
 z_range:mg "range"=none
 z_isinstance:mg "isinstance"=none
 z_all:mg "all"=none
 z_max:mg "max"=none
 z_list:mg "list"=none
 z_set:mg "set"=none
 z_sorted:mg "sorted"=none
 z_str:mg "str"=none
 z_int:mg "int"=none
 z_dict:mg "dict"=none
 z_sum:mg "sum"=none
 z_any:mg "any"=none
 z_ValueError:mg "ValueError"=none
 c_KC:∃t,mg "SMALL_LETTERS"=some (.str (Str.ofString "abcdefghijklmnopqrstuvwxyz") t)
 c_KH:∃t,mg "MOST_KINDS"=some (.int 4 t)
 c_KB:∃t,mg "MOST_IN_STRIP"=some (.int 40 t)
 c_KI:∃t,mg "MOST_WORDS"=some (.int 200 t)
 c_KE:∃t,mg "MOST_IN_LIST"=some (.int 41 t)
 bl:∀(s:Shared) (u:Value),BindsTo s a.d_law ⟨[u],[]⟩ [("_law_script",u)]
structure TL (K:Q44)(mg:Str->Option Value)(base:Heap)(a:Ad)(tb:Str->Addr×Addr):Prop extends Txt K mg a where
 L_in_order:LamEnv base mg a.k_KS a.t_KS
 cd_KS:a.d_KS.code=.ref a.k_KS
 e_KS:a.t_KS=(tb "in_order").2
theorem lenA {P:List Value->Prop}(h:∀a,P [a]):∀us:List Value,us.length=1->P us
 | [a],_=>h a
local macro_rules | `(tactic| walk_at "b1") => `(tactic| (intro _ _ _ _ _ _; refine lenA ?_; intros; rfl))
theorem lenB {P:List Value->Prop}(h:∀a b,P [a,b]):∀us:List Value,us.length=2->P us
 | [a,b],_=>h a b
local macro_rules | `(tactic| walk_at "b2") => `(tactic| (intro _ _ _ _ _ _; refine lenB ?_; intros; rfl))
theorem lenC {P:List Value->Prop}(h:∀a b c,P [a,b,c]):∀us:List Value,us.length=3->P us
 | [a,b,c],_=>h a b c
local macro_rules | `(tactic| walk_at "b3") => `(tactic| (intro _ _ _ _ _ _; refine lenC ?_; intros; rfl))
theorem lenD {P:List Value->Prop}(h:∀a b c d,P [a,b,c,d]):∀us:List Value,us.length=4->P us
 | [a,b,c,d],_=>h a b c d
local macro_rules | `(tactic| walk_at "b4") => `(tactic| (intro _ _ _ _ _ _; refine lenD ?_; intros; rfl))
theorem txt_mk {K:Q44}{h:Heap}{mg:Str->Option Value}(X:K.In h)(G:h.Ns mainGlobals mg){c_KM:Addr}{c_KZ:Addr}{g_TooLong_init:Addr}{e_TooLong_init:FuncData}{c_K8:Addr}{g_Inside_init:Addr}{e_Inside_init:FuncData}{c_LG:Addr}{g_Split_init:Addr}{e_Split_init:FuncData}{c_KY:Addr}{g_Endless_init:Addr}{e_Endless_init:FuncData}{g_KL:Addr}{e_KL:FuncData}{g_KA:Addr}{e_KA:FuncData}{g_KG:Addr}{e_KG:FuncData}{g_KF:Addr}{e_KF:FuncData}{g_KD:Addr}{e_KD:FuncData}{g_KJ:Addr}{e_KJ:FuncData}{c_LS:Addr}{c_LF:Addr}{f_KR:Addr}{d_KR:FuncData}{f_KT:Addr}{d_KT:FuncData}{f_K1:Addr}{d_K1:FuncData}{f_KK:Addr}{d_KK:FuncData}{f_KO:Addr}{d_KO:FuncData}{f_KS:Addr}{d_KS:FuncData}{f_LE:Addr}{d_LE:FuncData}{f_LH:Addr}{d_LH:FuncData}{f_KN:Addr}{d_KN:FuncData}{f_K9:Addr}{d_K9:FuncData}{f_KW:Addr}{d_KW:FuncData}{f_LR:Addr}{d_LR:FuncData}{f_LB:Addr}{d_LB:FuncData}{f_LV:Addr}{d_LV:FuncData}{f_LJ:Addr}{d_LJ:FuncData}{f_KP:Addr}{d_KP:FuncData}{f_K4:Addr}{d_K4:FuncData}{f_K7:Addr}{d_K7:FuncData}{f_KX:Addr}{d_KX:FuncData}{f_LL:Addr}{d_LL:FuncData}{f_LP:Addr}{d_LP:FuncData}{f_LC:Addr}{d_LC:FuncData}{f_LI:Addr}{d_LI:FuncData}{f_KQ:Addr}{d_KQ:FuncData}{f_K6:Addr}{d_K6:FuncData}{f_KV:Addr}{d_KV:FuncData}{f_K5:Addr}{d_K5:FuncData}{f_K2:Addr}{d_K2:FuncData}{f_LU:Addr}{d_LU:FuncData}{f_LT:Addr}{d_LT:FuncData}{f_LK:Addr}{d_LK:FuncData}{f_LM:Addr}{d_LM:FuncData}{f_LO:Addr}{d_LO:FuncData}{f_K3:Addr}{d_K3:FuncData}{f_LA:Addr}{d_LA:FuncData}{f_KU:Addr}{d_KU:FuncData}{f_LD:Addr}{d_LD:FuncData}{f_LQ:Addr}{d_LQ:FuncData}{f_K0:Addr}{d_K0:FuncData}{f_LN:Addr}{d_LN:FuncData}{f_law:Addr}{d_law:FuncData}{tk_KC:Tok}{tk_KH:Tok}{tk_KB:Tok}{tk_KI:Tok}{tk_KE:Tok}{t_KS k_KS:Addr}
  (X_LackError:XG K "LackError" c_KM [.ref c_KM,.type "ValueError",.type "Exception",.type "BaseException",.type "object"])
  (i_KM:PySem.W.findIn K (.ref c_KM) "__init__"=some (some (.builtin "ValueError.__init__")))
  (rs_KM:PySem.W.specialIn K (.ref c_KM) "__getattribute__"=some (some (.builtin "type.__getattribute__")))
  (rr_KM:PySem.W.readsIn K c_KM (.type "type")=true)
  (rf_KM:PySem.W.findCls K (.ref c_KM) (.type "type") "__init__"=some (.val (.builtin "ValueError.__init__")))
  (X_TooLong:XG K "TooLong" c_KZ [.ref c_KZ,.ref c_KM,.type "ValueError",.type "Exception",.type "BaseException",.type "object"])
  (i_KZ:PySem.W.findIn K (.ref c_KZ) "__init__"=some (some (.ref g_TooLong_init)))
  (F_ITooLong:MG K "__init__" "TooLong.__init__" ZbB g_TooLong_init e_TooLong_init)
  (n_TooLong_word:PySem.W.findIn K (.ref c_KZ) "word"=some none)
  (X_Inside:XG K "Inside" c_K8 [.ref c_K8,.ref c_KM,.type "ValueError",.type "Exception",.type "BaseException",.type "object"])
  (i_K8:PySem.W.findIn K (.ref c_K8) "__init__"=some (some (.ref g_Inside_init)))
  (F_IInside:MG K "__init__" "Inside.__init__" ZbL g_Inside_init e_Inside_init)
  (n_Inside_one:PySem.W.findIn K (.ref c_K8) "one"=some none)
  (n_Inside_other:PySem.W.findIn K (.ref c_K8) "other"=some none)
  (X_Split:XG K "Split" c_LG [.ref c_LG,.ref c_KM,.type "ValueError",.type "Exception",.type "BaseException",.type "object"])
  (i_LG:PySem.W.findIn K (.ref c_LG) "__init__"=some (some (.ref g_Split_init)))
  (F_ISplit:MG K "__init__" "Split.__init__" ZbW g_Split_init e_Split_init)
  (n_Split_one:PySem.W.findIn K (.ref c_LG) "one"=some none)
  (n_Split_other:PySem.W.findIn K (.ref c_LG) "other"=some none)
  (X_Endless:XG K "Endless" c_KY [.ref c_KY,.ref c_KM,.type "ValueError",.type "Exception",.type "BaseException",.type "object"])
  (i_KY:PySem.W.findIn K (.ref c_KY) "__init__"=some (some (.ref g_Endless_init)))
  (F_IEndless:MG K "__init__" "Endless.__init__" ZbC g_Endless_init e_Endless_init)
  (n_Endless_head:PySem.W.findIn K (.ref c_KY) "head"=some none)
  (n_Endless_lap:PySem.W.findIn K (.ref c_KY) "lap"=some none)
  (ow_hn:PySem.W.specialIn K (.builtin "object.__class__") "__get__"=some (some (.builtin "getset_descriptor.__get__")))
  (ow_tk:PySem.W.takesIn K (.builtin "object.__class__")=some true)
  (a_LS:PySem.W.nsIn K mainGlobals "Band"=some (some (.ref c_LS)))
  (pg_LS:PySem.W.plainGet K c_LS Str.empty=true)
  (hd_LS:PySem.W.hasDictIn K c_LS=true)
  (po_LS:PySem.W.plainOver K c_LS=true)
  (sa_LS:PySem.W.findIn K (.ref c_LS) "__setattr__"=some (some (.builtin "object.__setattr__")))
  (rs_LS:PySem.W.specialIn K (.ref c_LS) "__getattribute__"=some (some (.builtin "type.__getattribute__")))
  (rr_LS:PySem.W.readsIn K c_LS (.type "type")=true)
  (rf_LS:PySem.W.findCls K (.ref c_LS) (.type "type") "__init__"=some (.val (.ref g_KL)))
  (a_LF:PySem.W.nsIn K mainGlobals "Plain"=some (some (.ref c_LF)))
  (pg_LF:PySem.W.plainGet K c_LF Str.empty=true)
  (hd_LF:PySem.W.hasDictIn K c_LF=true)
  (po_LF:PySem.W.plainOver K c_LF=true)
  (sa_LF:PySem.W.findIn K (.ref c_LF) "__setattr__"=some (some (.builtin "object.__setattr__")))
  (rs_LF:PySem.W.specialIn K (.ref c_LF) "__getattribute__"=some (some (.builtin "type.__getattribute__")))
  (rr_LF:PySem.W.readsIn K c_LF (.type "type")=true)
  (rf_LF:PySem.W.findCls K (.ref c_LF) (.type "type") "__init__"=some (.val (.ref g_KJ)))
  (mk_LF:PySem.W.makesIn K c_LF=true)
  (in_LF:PySem.W.findIn K (.ref c_LF) "__init__"=some (some (.ref g_KJ)))
  (kc_LF:PySem.W.keepIn K (.ref c_LF)=true)
  (ha_LF:PySem.W.findIn K (.ref c_LF) "__class__"=some (some (.builtin "object.__class__")))
  (mo_LF:PySem.W.mroIn K c_LF (.type "object")=some true)
  (me_Plain_words:PySem.W.findIn K (.ref c_LF) "words"=some (some (.ref g_KG)))
  (me_Plain_laid_out:PySem.W.findIn K (.ref c_LF) "laid_out"=some (some (.ref g_KA)))
  (me_Plain_reach:PySem.W.findIn K (.ref c_LF) "reach"=some (some (.ref g_KF)))
  (me_Plain_lacking:PySem.W.findIn K (.ref c_LF) "lacking"=some (some (.ref g_KD)))
  (n_Plain_own_text:PySem.W.findIn K (.ref c_LF) "own_text"=some none)
  (n_Plain_own_kinds:PySem.W.findIn K (.ref c_LF) "own_kinds"=some none)
  (F_Band_init:MG K "__init__" "Band.__init__" s_KL g_KL e_KL)
  (F_Band_laid_out:MG K "laid_out" "Band.laid_out" s_KA g_KA e_KA)
  (F_Band_words:MG K "words" "Band.words" s_KG g_KG e_KG)
  (F_Band_reach:MG K "reach" "Band.reach" s_KF g_KF e_KF)
  (F_Band_lacking:MG K "lacking" "Band.lacking" s_KD g_KD e_KD)
  (F_Plain_init:MG K "__init__" "Plain.__init__" s_KJ g_KJ e_KJ)
  (nd:[c_KM,c_KZ,c_K8,c_LG,c_KY].Nodup)
  (D_has_only:DG K "has_only" s_KR f_KR d_KR)
  (D_is_kinds:DG K "is_kinds" s_KT f_KT d_KT)
  (D_is_word:DG K "is_word" s_K1 f_K1 d_K1)
  (D_need_kinds:DG K "need_kinds" s_KK f_KK d_KK)
  (D_need_word:DG K "need_word" s_KO f_KO d_KO)
  (D_in_order:DG K "in_order" s_KS f_KS d_KS)
  (D_pieces:DG K "pieces" s_LE f_LE d_LE)
  (D_among:DG K "lacking_among" s_LH f_LH d_LH)
  (D_need_list:DG K "need_list" s_KN f_KN d_KN)
  (D_avoids:DG K "avoids" s_K9 f_K9 d_K9)
  (D_r_inside:DG K "refuse_inside" s_KW f_KW d_KW)
  (D_stems:DG K "stems_of" s_LR f_LR d_LR)
  (D_ending:DG K "ending_stem" s_LB f_LB d_LB)
  (D_ways:DG K "ways_between" s_LV f_LV d_LV)
  (D_ended:DG K "stems_that_end" s_LJ f_LJ d_LJ)
  (D_r_endless:DG K "refuse_endless" s_KP f_KP d_KP)
  (D_longest:DG K "longest_word" s_K4 f_K4 d_K4)
  (D_r_split:DG K "refuse_split" s_K7 f_K7 d_K7)
  (D_strip_of:DG K "strip_of" s_KX f_KX d_KX)
  (D_lcell:DG K "_law_cell_at" s_LL f_LL d_LL)
  (D_mixed:DG K "_law_mixed" s_LP f_LP d_LP)
  (D_lkinds:DG K "_law_kinds" s_LC f_LC d_LC)
  (D_drawn:DG K "_law_drawn" s_LI f_LI d_LI)
  (D_stretches:DG K "_law_stretches" s_KQ f_KQ d_KQ)
  (D_missing:DG K "_law_missing" s_K6 f_K6 d_K6)
  (D_mixed_up:DG K "_law_mixed_up" s_KV f_KV d_KV)
  (D_lstands:DG K "_law_stands" s_K5 f_K5 d_K5)
  (D_lavoids:DG K "_law_avoids" s_K2 f_K2 d_K2)
  (D_good:DG K "_law_good" s_LU f_LU d_LU)
  (D_forb:DG K "_law_forbidden" s_LT f_LT d_LT)
  (D_heads:DG K "_law_heads" s_LK f_LK d_LK)
  (D_level:DG K "_law_level" s_LM f_LM d_LM)
  (D_llong:DG K "_law_longest" s_LO f_LO d_LO)
  (D_linside:DG K "_law_inside" s_K3 f_K3 d_K3)
  (D_caught:DG K "_law_caught" s_LA f_LA d_LA)
  (D_lendless:DG K "_law_endless" s_KU f_KU d_KU)
  (D_lsplit:DG K "_law_split" s_LD f_LD d_LD)
  (D_shown:DG K "_law_shown" s_LQ f_LQ d_LQ)
  (D_changed:DG K "_law_changed" s_K0 f_K0 d_K0)
  (D_llist:DG K "_law_list" s_LN f_LN d_LN)
  (D_law:DG K "law" ZkT f_law d_law)
  (z_len:PySem.W.nsIn K mainGlobals "len"=some none)
  (z_range:PySem.W.nsIn K mainGlobals "range"=some none)
  (z_isinstance:PySem.W.nsIn K mainGlobals "isinstance"=some none)
  (z_all:PySem.W.nsIn K mainGlobals "all"=some none)
  (z_max:PySem.W.nsIn K mainGlobals "max"=some none)
  (z_list:PySem.W.nsIn K mainGlobals "list"=some none)
  (z_set:PySem.W.nsIn K mainGlobals "set"=some none)
  (z_sorted:PySem.W.nsIn K mainGlobals "sorted"=some none)
  (z_str:PySem.W.nsIn K mainGlobals "str"=some none)
  (z_int:PySem.W.nsIn K mainGlobals "int"=some none)
  (z_dict:PySem.W.nsIn K mainGlobals "dict"=some none)
  (z_sum:PySem.W.nsIn K mainGlobals "sum"=some none)
  (z_any:PySem.W.nsIn K mainGlobals "any"=some none)
  (z_ValueError:PySem.W.nsIn K mainGlobals "ValueError"=some none)
  (c_KC:PySem.W.nsIn K mainGlobals "SMALL_LETTERS"=some (some (.str (Str.ofString "abcdefghijklmnopqrstuvwxyz") tk_KC)))
  (c_KH:PySem.W.nsIn K mainGlobals "MOST_KINDS"=some (some (.int 4 tk_KH)))
  (c_KB:PySem.W.nsIn K mainGlobals "MOST_IN_STRIP"=some (some (.int 40 tk_KB)))
  (c_KI:PySem.W.nsIn K mainGlobals "MOST_WORDS"=some (some (.int 200 tk_KI)))
  (c_KE:PySem.W.nsIn K mainGlobals "MOST_IN_LIST"=some (some (.int 41 tk_KE))):∃a,Txt K mg a/\a.t_KS=t_KS/\a.k_KS=k_KS:=by
 obtain⟨_,_,_,_,_,_,_,_,_,rfl,_⟩:=id D_law.2.ex
 refine⟨{ c_KM,g_TooLong_init,e_TooLong_init,c_KZ,g_Inside_init,e_Inside_init,c_K8,g_Split_init,e_Split_init,c_LG,g_Endless_init,e_Endless_init,c_KY,c_LS,c_LF,g_KL,e_KL,g_KA,e_KA,g_KG,e_KG,g_KF,e_KF,g_KD,e_KD,g_KJ,e_KJ,f_KR,d_KR,f_KT,d_KT,f_K1,d_K1,f_KK,d_KK,f_KO,d_KO,f_KS,d_KS,f_LE,d_LE,f_LH,d_LH,f_KN,d_KN,f_K9,d_K9,f_KW,d_KW,f_LR,d_LR,f_LB,d_LB,f_LV,d_LV,f_LJ,d_LJ,f_KP,d_KP,f_K4,d_K4,f_K7,d_K7,f_KX,d_KX,f_LL,d_LL,f_LP,d_LP,f_LC,d_LC,f_LI,d_LI,f_KQ,d_KQ,f_K6,d_K6,f_KV,d_KV,f_K5,d_K5,f_K2,d_K2,f_LU,d_LU,f_LT,d_LT,f_LK,d_LK,f_LM,d_LM,f_LO,d_LO,f_K3,d_K3,f_LA,d_LA,f_KU,d_KU,f_LD,d_LD,f_LQ,d_LQ,f_K0,d_K0,f_LN,d_LN,f_law,t_KS,k_KS,d_law:=_ },{ m_KR:=YAR X G D_has_only.1,f_KR:=D_has_only.2,b_KR:=D_has_only.2.binds (by walk_at "b2"),m_KT:=YAR X G D_is_kinds.1,f_KT:=D_is_kinds.2,b_KT:=D_is_kinds.2.binds (by walk_at "b1"),m_K1:=YAR X G D_is_word.1,f_K1:=D_is_word.2,b_K1:=D_is_word.2.binds (by walk_at "b3"),m_KK:=YAR X G D_need_kinds.1,f_KK:=D_need_kinds.2,b_KK:=D_need_kinds.2.binds (by walk_at "b1"),m_KO:=YAR X G D_need_word.1,f_KO:=D_need_word.2,b_KO:=D_need_word.2.binds (by walk_at "b3"),m_KS:=YAR X G D_in_order.1,f_KS:=D_in_order.2,b_KS:=D_in_order.2.binds (by walk_at "b1"),m_LE:=YAR X G D_pieces.1,f_LE:=D_pieces.2,b_LE:=D_pieces.2.binds (by walk_at "b2"),m_LH:=YAR X G D_among.1,f_LH:=D_among.2,b_LH:=D_among.2.binds (by walk_at "b3"),m_KN:=YAR X G D_need_list.1,f_KN:=D_need_list.2,b_KN:=D_need_list.2.binds (by walk_at "b2"),m_K9:=YAR X G D_avoids.1,f_K9:=D_avoids.2,b_K9:=D_avoids.2.binds (by walk_at "b2"),m_KW:=YAR X G D_r_inside.1,f_KW:=D_r_inside.2,b_KW:=D_r_inside.2.binds (by walk_at "b1"),m_LR:=YAR X G D_stems.1,f_LR:=D_stems.2,b_LR:=D_stems.2.binds (by walk_at "b1"),m_LB:=YAR X G D_ending.1,f_LB:=D_ending.2,b_LB:=D_ending.2.binds (by walk_at "b2"),m_LV:=YAR X G D_ways.1,f_LV:=D_ways.2,b_LV:=D_ways.2.binds (by walk_at "b2"),m_LJ:=YAR X G D_ended.1,f_LJ:=D_ended.2,b_LJ:=D_ended.2.binds (by walk_at "b1"),m_KP:=YAR X G D_r_endless.1,f_KP:=D_r_endless.2,b_KP:=D_r_endless.2.binds (by walk_at "b2"),m_K4:=YAR X G D_longest.1,f_K4:=D_longest.2,b_K4:=D_longest.2.binds (by walk_at "b2"),m_K7:=YAR X G D_r_split.1,f_K7:=D_r_split.2,b_K7:=D_r_split.2.binds (by walk_at "b3"),m_KX:=YAR X G D_strip_of.1,f_KX:=D_strip_of.2,b_KX:=D_strip_of.2.binds (by walk_at "b2"),m_LL:=YAR X G D_lcell.1,f_LL:=D_lcell.2,b_LL:=D_lcell.2.binds (by walk_at "b2"),m_LP:=YAR X G D_mixed.1,f_LP:=D_mixed.2,b_LP:=D_mixed.2.binds (by walk_at "b2"),m_LC:=YAR X G D_lkinds.1,f_LC:=D_lkinds.2,b_LC:=D_lkinds.2.binds (by walk_at "b1"),m_LI:=YAR X G D_drawn.1,f_LI:=D_drawn.2,b_LI:=D_drawn.2.binds (by walk_at "b4"),m_KQ:=YAR X G D_stretches.1,f_KQ:=D_stretches.2,b_KQ:=D_stretches.2.binds (by walk_at "b1"),m_K6:=YAR X G D_missing.1,f_K6:=D_missing.2,b_K6:=D_missing.2.binds (by walk_at "b2"),m_KV:=YAR X G D_mixed_up.1,f_KV:=D_mixed_up.2,b_KV:=D_mixed_up.2.binds (by walk_at "b2"),m_K5:=YAR X G D_lstands.1,f_K5:=D_lstands.2,b_K5:=D_lstands.2.binds (by walk_at "b2"),m_K2:=YAR X G D_lavoids.1,f_K2:=D_lavoids.2,b_K2:=D_lavoids.2.binds (by walk_at "b2"),m_LU:=YAR X G D_good.1,f_LU:=D_good.2,b_LU:=D_good.2.binds (by walk_at "b2"),m_LT:=YAR X G D_forb.1,f_LT:=D_forb.2,b_LT:=D_forb.2.binds (by walk_at "b1"),m_LK:=YAR X G D_heads.1,f_LK:=D_heads.2,b_LK:=D_heads.2.binds (by walk_at "b1"),m_LM:=YAR X G D_level.1,f_LM:=D_level.2,b_LM:=D_level.2.binds (by walk_at "b4"),m_LO:=YAR X G D_llong.1,f_LO:=D_llong.2,b_LO:=D_llong.2.binds (by walk_at "b3"),m_K3:=YAR X G D_linside.1,f_K3:=D_linside.2,b_K3:=D_linside.2.binds (by walk_at "b1"),m_LA:=YAR X G D_caught.1,f_LA:=D_caught.2,b_LA:=D_caught.2.binds (by walk_at "b2"),m_KU:=YAR X G D_lendless.1,f_KU:=D_lendless.2,b_KU:=D_lendless.2.binds (by walk_at "b4"),m_LD:=YAR X G D_lsplit.1,f_LD:=D_lsplit.2,b_LD:=D_lsplit.2.binds (by walk_at "b4"),m_LQ:=YAR X G D_shown.1,f_LQ:=D_shown.2,b_LQ:=D_shown.2.binds (by walk_at "b3"),m_K0:=YAR X G D_changed.1,f_K0:=D_changed.2,b_K0:=D_changed.2.binds (by walk_at "b3"),m_LN:=YAR X G D_llist.1,f_LN:=D_llist.2,b_LN:=D_llist.2.binds (by walk_at "b2"),m_law:=YAR X G D_law.1,f_law:=D_law.2,b_law:=D_law.2.binds (by walk_at "b1"),m_KM:=YAR X G X_LackError.a,x_KM:=X_LackError.m,xi_KM:=X_LackError.i,k_KM:=X_LackError.k,i_KM,r_KM:=⟨rs_KM,rr_KM,rf_KM,rfl⟩,m_KZ:=YAR X G X_TooLong.a,x_KZ:=X_TooLong.m,xi_KZ:=X_TooLong.i,k_KZ:=X_TooLong.k,i_KZ,fn_KZ:=F_ITooLong.2,n_TooLong_word,fi_KZ:=F_ITooLong.1,b_KZ:=F_ITooLong.1.binds (by walk_at "b2"),m_K8:=YAR X G X_Inside.a,x_K8:=X_Inside.m,xi_K8:=X_Inside.i,k_K8:=X_Inside.k,i_K8,fn_K8:=F_IInside.2,n_Inside_one,n_Inside_other,fi_K8:=F_IInside.1,b_K8:=F_IInside.1.binds (by walk_at "b3"),m_LG:=YAR X G X_Split.a,x_LG:=X_Split.m,xi_LG:=X_Split.i,k_LG:=X_Split.k,i_LG,fn_LG:=F_ISplit.2,n_Split_one,n_Split_other,fi_LG:=F_ISplit.1,b_LG:=F_ISplit.1.binds (by walk_at "b3"),m_KY:=YAR X G X_Endless.a,x_KY:=X_Endless.m,xi_KY:=X_Endless.i,k_KY:=X_Endless.k,i_KY,fn_KY:=F_IEndless.2,n_Endless_head,n_Endless_lap,fi_KY:=F_IEndless.1,b_KY:=F_IEndless.1.binds (by walk_at "b3"),m_LS:=YAR X G a_LS,cr_LS:=⟨rs_LS,rr_LS,rf_LS,rfl⟩,cl_LS:=⟨pg_LS,hd_LS,po_LS,sa_LS⟩,m_LF:=YAR X G a_LF,cr_LF:=⟨rs_LF,rr_LF,rf_LF,rfl⟩,cl_LF:=⟨pg_LF,hd_LF,po_LF,sa_LF⟩,mk_LF:=⟨mk_LF,in_LF,F_Plain_init.2,kc_LF⟩,me_Plain_words:=⟨me_Plain_words,F_Band_words.2,F_Band_words.1.kp⟩,me_Plain_laid_out:=⟨me_Plain_laid_out,F_Band_laid_out.2,F_Band_laid_out.1.kp⟩,me_Plain_reach:=⟨me_Plain_reach,F_Band_reach.2,F_Band_reach.1.kp⟩,me_Plain_lacking:=⟨me_Plain_lacking,F_Band_lacking.2,F_Band_lacking.1.kp⟩,n_Plain_own_text,n_Plain_own_kinds,ty_LF:=fun e=>.ins e ⟨pg_LF,hd_LF,po_LF,sa_LF⟩ ha_LF ow_hn ow_tk mo_LF,fm_KL:=F_Band_init.1,kp_KL:=F_Band_init.1.kp,b_KL:=F_Band_init.1.binds (by walk_at "b3"),fm_KA:=F_Band_laid_out.1,kp_KA:=F_Band_laid_out.1.kp,b_KA:=F_Band_laid_out.1.binds (by walk_at "b2"),fm_KG:=F_Band_words.1,kp_KG:=F_Band_words.1.kp,b_KG:=F_Band_words.1.binds (by walk_at "b2"),fm_KF:=F_Band_reach.1,kp_KF:=F_Band_reach.1.kp,b_KF:=F_Band_reach.1.binds (by walk_at "b1"),fm_KD:=F_Band_lacking.1,kp_KD:=F_Band_lacking.1.kp,b_KD:=F_Band_lacking.1.binds (by walk_at "b1"),fm_KJ:=F_Plain_init.1,kp_KJ:=F_Plain_init.1.kp,b_KJ:=F_Plain_init.1.binds (by walk_at "b3"),nd,z_len:=YAy X G z_len,z_range:=YAy X G z_range,z_isinstance:=YAy X G z_isinstance,z_all:=YAy X G z_all,z_max:=YAy X G z_max,z_list:=YAy X G z_list,z_set:=YAy X G z_set,z_sorted:=YAy X G z_sorted,z_str:=YAy X G z_str,z_int:=YAy X G z_int,z_dict:=YAy X G z_dict,z_sum:=YAy X G z_sum,z_any:=YAy X G z_any,z_ValueError:=YAy X G z_ValueError,c_KC:=⟨_,YAR X G c_KC⟩,c_KH:=⟨_,YAR X G c_KH⟩,c_KB:=⟨_,YAR X G c_KB⟩,c_KI:=⟨_,YAR X G c_KI⟩,c_KE:=⟨_,YAR X G c_KE⟩,bl:=fun s u=>.of_eq rfl },rfl,rfl⟩
end Pk64
namespace Pk64
open PySem L2
def lpos:Pos:=⟨65,29,65,59⟩
def lq:Str:="in_order.<locals>.<lambda>"
def LET:Q11:=[97,98,99,100,101,102,103,104,105,106,107,108,109,110,111,112,113,114,115,116,117,118,119,120,121,122]
def isk (l:Q11):Bool:=decide (1<=l.length)&&decide (l.length<=4)&&(l.all fun c=>LET.contains c)&&decide (signs l=ZbT (ddl (signs l)))
def isw (l m:Q11)(most:Int):Bool:=decide ((l.length:Int)<=most)&&l.all fun c=>m.contains c
def Zes:Q11->Q11->Bool
 | _,[]=>true
 | last,c::r=>decide (c∈LET)&&decide (last < [c])&&Zes [c] r
def Ze5 (l:Q11):Bool:=decide (1<=l.length)&&decide (l.length<=4)&&Zes [] l
theorem Zir {a b:Nat}:([a] < [b])↔a<b:=by
 constructor
 .intro h;cases h with
  | rel h=>exact h
  | cons h=>cases h
 .exact fun h=>List.Lex.rel h
theorem ZgL:∀(l:Q11) (d:Nat),Zes [d] l=true↔(∀c∈l,c∈LET)/\(d::l).Pairwise (· < ·)
 | [],d=>by simp[Zes]
 | c::r,d=>by
  rw[Zes,YAU,YAU,decide_eq_true_iff,decide_eq_true_iff,Zir,ZgL r c]
  simp only[YCk,YAY,forall_eq_or_imp]
  constructor
  .rintro⟨⟨h1,h2⟩,h3,h4,h5⟩
   exact⟨⟨h1,h3⟩,⟨h2,fun x hx=>Nat.lt_trans h2 (h4 x hx)⟩,h4,h5⟩
  .rintro⟨⟨h1,h3⟩,⟨h2,_⟩,h4,h5⟩
   exact⟨⟨h1,h2⟩,h3,h4,h5⟩
theorem Zcz (l:Q11):Zes [] l=true↔(∀c∈l,c∈LET)/\l.Pairwise (· < ·):=by
 cases l with
 | nil=>simp[Zes]
 | cons c r=>
  rw[Zes,YAU,YAU,decide_eq_true_iff,decide_eq_true_iff,ZgL r c]
  simp only[YAY,forall_eq_or_imp]
  constructor
  .rintro⟨⟨h1,_⟩,h3,h4⟩;exact⟨⟨h1,h3⟩,h4⟩
  .rintro⟨⟨h1,h3⟩,h4⟩;exact⟨⟨h1,by simp⟩,h3,h4⟩
theorem Zel:∀(ls acc:Q22),(acc++ls).Nodup->ls.foldl addT acc=acc++ls
 | [],acc,_=>by simp
 | x::ls,acc,h=>by
  have hx:¬x∈acc:=by
   rw[YCD]at h
   exact fun hm=>h.2.2 x hm x YAa rfl
  rw[YCm,addT,YAX hx,Zel ls (acc++[x]) (by simpa using h)]
  simp
theorem Zgc {l:Q11}(h:l.Pairwise (· < ·)):(signs l).Nodup:=by
 unfold signs List.Nodup
 rw[YBb]
 exact h.imp fun hab e=>by injection e with e;omega
theorem ZiW (ls:Q22):(ddl ls).Nodup:=by rw[<-ZiX];exact ZeW _
theorem Zed (l:Q11):signs l=ZbT (ddl (signs l))↔l.Pairwise (· < ·):=by
 constructor
 .intro e
  have h1:(signs l).Pairwise (fun a b=>leT a b=true):=by rw[e];exact ZbV _
  have h2:(signs l).Nodup:=by rw[e];exact(Za8 _).nodup_iff.mpr (ZiW _)
  unfold signs at h1
  unfold signs List.Nodup at h2
  rw[YBb]at h1 h2
  refine(h1.and h2).imp ?_
  rintro a b ⟨x,y⟩
  have y':a≠b:=fun e=>y (by rw[e])
  have x':¬([b] < [a]):=by simpa [leT] using x
  rw[Zir]at x'
  omega
 .intro h
  have e:ddl (signs l)=signs l:=by unfold ddl;rw[Zel _ _ (by simpa using Zgc h)];simp
  rw[e]
  refine ZcS (List.Perm.refl _) ?_
  unfold signs
  rw[YBb]
  refine h.imp fun {a b} hab=>?_
  have:¬([b] < [a]):=by rw[Zir];omega
  simpa [leT] using this
theorem ZdP (l:Q11):isk l=Ze5 l:=by
 have h1:(l.all fun c=>LET.contains c)=decide (∀c∈l,c∈LET):=by
  rw[YAv,YAs,decide_eq_true_iff]
  simp
 have h2:decide (signs l=ZbT (ddl (signs l)))=decide (l.Pairwise (· < ·)):=by rw[YAv,decide_eq_true_iff,decide_eq_true_iff,Zed]
 have h3:Zes [] l=(decide (∀c∈l,c∈LET)&&decide (l.Pairwise (· < ·))):=by rw[YAv,YAU,decide_eq_true_iff,decide_eq_true_iff,Zcz]
 unfold isk Ze5
 rw[h1,h2,h3,Bool.and_assoc]
theorem all_range (l m:Q11):((List.range l.length).map (fun i=>decide (l.getD i 0∈m))).all id=l.all fun c=>m.contains c:=by
 rw[YAv,YAs,YAs]
 constructor
 .intro h c hc
  obtain⟨i,hi,rfl⟩:=List.mem_iff_getElem.mp hc
  have:=h _ (YBQ (YAu.mpr hi))
  simpa [YAG,YAE hi] using this
 .intro h b hb
  obtain⟨i,hi,rfl⟩:=YAc.mp hb
  have hi:=YAu.mp hi
  have:=h _ (YBM hi)
  simpa [YAG,YAE hi] using this
def cell (ns:List Int)(k:Int):Int:=ns.getD k.toNat 0
theorem ZlD {ns:List Int}{k:Int}(h0:0<=k)(h1:k<ns.length):atI (ns.map V.int) k=some (.int (cell ns k)):=by
 have hk:k.toNat<ns.length:=by omega
 unfold atI ixN cell
 rw[YAB,YAW h0,YAW h1,YBr,YAZ,YAG,YAE hk]
 rfl
theorem ZdK {K:Q44}{H:Hp}{l:Q11}(h:l.length<=1000):LenV K (tx l) H l.length:=by
 have e:(⟨l.toArray⟩:Str).length=l.length:=by simp[Str.length]
 have:l.length<=sizeLine:=YAK h (by rw[sizeLine_eq];decide)
 exact⟨by rw[e];exact this,e.symm⟩
theorem cm {x y m:Int}(h:0<m)(h2:m<=2 ^ 64):CMul (x % m) y:=.inl ⟨by have:=YBh x (show m≠0 by omega);omega,by have:=YBW x h;omega⟩
theorem Zg2 {K:Q44}{t:Value}:PySem.W.kitOne K t t=some true:=by unfold PySem.W.kitOne;simp
theorem Zkr {α:Type}{xs:List α}{i:Int}(h0:0<=i)(h1:i<xs.length):∃v,atI xs i=some v/\v∈xs:=by
 have hi:i.toNat<xs.length:=by omega
 refine⟨xs[i.toNat],?_,YBM hi⟩
 unfold atI ixN
 rw[YAW h0,YAW h1,YBr,YAE hi]
theorem Za4 (xs:Q22):(xs.map tx).all Zbm=true:=by
 rw[YAs]
 intro v hv
 obtain⟨x,_,rfl⟩:=YAc.mp hv
 rfl
theorem same_upd3 {H H2:Hp}{e:Addr}{o':HO}(s:Same H H2)(h:H e=none):Same H (upd H2 e o'):=fun b u hb=>by
 have:b≠e:=fun z=>by rw[z,h]at hb;cases hb
 rw[Zaf this];exact s _ _ hb
theorem ZhH {α:Type}(p:α->Bool)(d:α)(ls:List α):((List.range ls.length).filter fun i=>p (ls.getD i d)).map (fun i=>ls.getD i d)=ls.filter p:=by
 have e:(List.range ls.length).map (fun i=>ls.getD i d)=ls:=by
  apply YBR
  .simp
  .intro i h1 h2
   simp[h2]
 have h:=List.filter_map (p:=p) (f:=fun i=>ls.getD i d) (l:=List.range ls.length)
 rw[e]at h
 rw[h]
 rfl
theorem ZbO {ls:Q22}{k:Nat}(h:k<ls.length):(ls.map tx).getD k V.non=tx (ls.getD k []):=by
 rw[YAG,YAZ,YAG,YAE h]
 rfl
theorem Zc6 {x:Q11}{ls:Q22}:inV (tx x) (ls.map tx)=decide (x∈ls):=by
 unfold inV
 rw[YAv,YBa,decide_eq_true_iff]
 constructor
 .rintro⟨y,hy,e⟩
  obtain⟨l,hl,rfl⟩:=YAc.mp hy
  rw[Zkh,decide_eq_true_iff,Zc2]at e
  rw[<-e];exact hl
 .intro h
  exact⟨tx x,YBQ h,by rw[Zkh];exact decide_eq_true rfl⟩
theorem Zgx:∀(xs ys:Q22),deqs ((xs.map tx).map DT.f) ((ys.map tx).map DT.f)=decide (xs=ys)
 | [],[]=>by unfold deqs;rfl
 | [],y::ys=>by simp only[YAj,YCz];unfold deqs;rfl
 | x::xs,[]=>by simp only[YAj,YCz];unfold deqs;rfl
 | x::xs,y::ys=>by
  simp only[YAj]
  unfold deqs
  rw[Zgx xs ys]
  have e:deq (DT.f (tx x)) (DT.f (tx y))=decide (x=y):=by
   unfold deq
   rw[<-ZfP]
   show ((⟨x.toArray⟩:Str) == ⟨y.toArray⟩)=_
   rw[YAv,beq_iff_eq,decide_eq_true_iff]
   exact⟨fun h=>by unfold tx;rw[h],fun h=>by unfold tx at h;injection h⟩
  rw[e,YAv,YAU,decide_eq_true_iff,decide_eq_true_iff,decide_eq_true_iff,List.cons.injEq]
theorem ZmJ {K:Q44}{H:Hp}{Q:VK}{a b:Addr}{xs:Q22}(h1:SqL K H a (xs.map tx))(h2:SqL K H b (xs.map tx))(q:Q (.bl false) H):rEqD K true (.ref a) (.ref b) H Q:=
 .inr ⟨_,_,datL h1 (Za4 _),datL h2 (Za4 _),fun z=>YAF z.1,(ownL h1 (Za4 _)).2.2,by
  unfold deq
  rw[Zgx,decide_eq_true rfl]
  exact q⟩
theorem ZdY {ns:List Int}{lo hi:Option Int}{v:V}(h:v∈cutV (ns.map V.int) lo hi):∃c,v=.int c:=by
 have h2:v∈ns.map V.int:=YCX (YBF h)
 obtain⟨c,_,rfl⟩:=YAc.mp h2
 exact⟨c,rfl⟩
theorem Zem {K:Q44}{H:Hp}{Q:VK}{a b:Addr}{xs ys:Q22}(h1:SqL K H a (xs.map tx))(h2:SqL K H b (ys.map tx))(q:Q (.bl (decide (xs=ys))) H):rEqD K false (.ref a) (.ref b) H Q:=
 .inr ⟨_,_,datL h1 (Za4 _),datL h2 (Za4 _),fun z=>YAF z.1,(ownL h1 (Za4 _)).2.2,by
  unfold deq
  rw[Zgx]
  exact q⟩
theorem Zld:V.str (Str.ofString "abcdefghijklmnopqrstuvwxyz")=tx LET:=congrArg V.str (by decide +kernel)
theorem Zlw (l:Q11):(ddl (signs l)).length<=l.length:=by
 have:∀(ls acc:Q22),(ls.foldl addT acc).length<=acc.length+ls.length:=by
  intro ls
  induction ls with
  | nil=>intro acc;simp
  | cons x ls ih=>
   intro acc
   rw[YCm]
   refine YAK (ih _) ?_
   unfold addT
   split<;>simp<;>omega
 have h:=this (signs l) []
 unfold ddl
 unfold signs at h ⊢
 simpa using h
theorem signs_length (l:Q11):(signs l).length=l.length:=by unfold signs;rw[YAB]
def flds (l m:Q11):List (Str×V):=putF "own_kinds" (tx m) (putF "own_text" (tx l) [])
theorem kt:¬(("own_text":Str)="own_kinds"):=by decide +kernel
theorem ZfH {l m:Q11}:(flds l m).lookup ("own_text":Str)=some (tx l):=by unfold flds;rw[ZaF,YAX kt,ZaF,YAW rfl]
theorem ZhG {l m:Q11}:(flds l m).lookup ("own_kinds":Str)=some (tx m):=by unfold flds;rw[ZaF,YAW rfl]
theorem ZdS {l m:Q11} {x:Str} (h1:¬x="own_text") (h2:¬x="own_kinds"):(flds l m).lookup x=none:=by
 unfold flds
 rw[ZaF,YAX h2,ZaF,YAX h1]
 rfl
def Zeq (C:Addr)(H:Hp)(p:Addr)(l m:Q11):Prop:=∃dx,H p=some (.ins C dx (flds l m))
structure StripOk (l m:Q11):Prop where
 k:isk m=true
 m1:1<=m.length
 m4:m.length<=4
 l40:l.length<=40
 mem:∀x∈l,x∈m
theorem Zpb (ls:Q22):(ddl ls).length<=ls.length:=by
 have:∀(ls acc:Q22),(ls.foldl addT acc).length<=acc.length+ls.length:=by
  intro ls
  induction ls with
  | nil=>intro acc;simp
  | cons x ls ih=>
   intro acc
   rw[YCm]
   refine YAK (ih _) ?_
   unfold addT
   split<;>simp<;>omega
 simpa [ddl] using this ls []
theorem ZmQ {l m:Q11}(h:StripOk l m):isw l m 40=true:=by
 have h2:=h.l40
 unfold isw
 rw[YAU,decide_eq_true_iff,YAs]
 exact⟨by omega,fun x hx=>by simpa using h.mem x hx⟩
theorem Zkc {m:Q11}(h1:1<=m.length)(h4:m.length<=4)(hm:∀c∈m,c∈LET)(hp:m.Pairwise (· < ·)):isk m=true:=by
 rw[ZdP]
 unfold Ze5
 rw[(Zcz m).mpr ⟨hm,hp⟩]
 simp[h1,h4]
theorem iteT' {p q:Prop}[Decidable True](h:p):if True then p else q:=by rw[YAW True.intro];exact h
theorem ZhI {K:Q44}{H:Hp}{Q:VK}{x:Q11}(h:Q (.bl true) H):rEqD K false (tx x) (tx x) H Q:=.inl ⟨rfl,by rw[YAX YAF,decide_eq_true rfl];exact h⟩
theorem eq_int {K:Q44}{H:Hp}{Q:VK}{x:Int}(h:Q (.bl true) H):rEqD K false (.int x) (.int x) H Q:=.inl ⟨rfl,by rw[YAX YAF,decide_eq_true rfl];exact h⟩
theorem Zlz (w:Q11):cut w (some 1) none=w.tail:=by
 have:=Zbo w 1
 rw[List.drop_one]at this
 exact this
theorem ZdI {α β:Type}(f:α->β):∀(l:List α) (k:Nat),(l.map f).eraseIdx k=(l.eraseIdx k).map f
 | [],k=>by simp
 | x::l,0=>by simp
 | x::l,k+1=>by simp[ZdI f l k]
theorem Zei {l m:Q11}{i:Nat}(hm:m.length<=4)(hl:l.length<=40)(hi:i<=41):(Zc5 l m i).length<=6724:=by
 have h1:∀k,(ZfB (wordsOf l k) (wordsOf l (k+1)) m).length<=164:=fun k=>YAK (ZiI _ _ _) (YAK (Nat.mul_le_mul (Zdo l k) hm) (by omega))
 have h2:=Zbi (f:=fun k=>ZfB (wordsOf l k) (wordsOf l (k+1)) m) h1 (List.range i)
 rw[YBJ]at h2
 have:i*164<=41*164:=Nat.mul_le_mul_right _ hi
 unfold Zc5
 omega
theorem Ze6 {α:Type}{l:List α}{i:Nat}{x:α}(h:l[i]?=some x):l.take (i+1)=l.take i++[x]:=by rw[List.take_succ,h];rfl
def fs1 (f:Str):List V->List (Str×V):=fun r=>putF f (r.getD 0 .non) []
theorem Zlr {f:Str}{vs:List V}:(fs1 f vs).lookup f=some (vs.getD 0 .non):=by unfold fs1;rw[ZaF,YAW rfl]
structure KOk (m:Q11):Prop where
 k:isk m=true
 m1:1<=m.length
 m4:m.length<=4
theorem KOk.lets {m:Q11}(h:KOk m):∀c∈m,97<=c/\c<=122:=by
 have h1:=h.k
 rw[ZdP]at h1
 unfold Ze5 at h1
 rw[YAU]at h1
 intro c hc
 have:=((Zcz m).mp h1.2).1 c hc
 revert this
 unfold LET
 simp only[YAY,List.not_mem_nil,or_false]
 omega
theorem ZmR {l:Q11}(h:isk l=true):1<=l.length/\l.length<=4/\l.Pairwise (· < ·):=by
 rw[ZdP]at h
 unfold Ze5 at h
 rw[YAU,YAU,decide_eq_true_eq,decide_eq_true_eq]at h
 exact⟨h.1.1,h.1.2,((Zcz l).mp h.2).2⟩
theorem Zlj {l m:Q11}{most:Int}(h:(l.length:Int)<=most)(hm:∀x∈l,x∈m):isw l m most=true:=by
 unfold isw
 rw[YAU,decide_eq_true_iff,YAs]
 exact⟨h,fun x hx=>by simpa using hm x hx⟩
theorem ZcB {H:Hp}{e:Addr}{o o':HO}(h:H e=none):Same H (upd (upd H e o) e o'):=fun b u hb=>by
 have:b≠e:=fun z=>by rw[z,h]at hb;cases hb
 rw[Zaf this,Zaf this];exact hb
theorem ZcC {H:Hp}{e C:Addr}{fs:List (Str×V)}(x:XAt H e C fs):∃d,H e=some (xo e C d)/\XAny (upd H e (xr e C d)) e C fs:=by
 cases x with
 | bare h=>exact⟨none,h,.bare Zad⟩
 | @full d _ h1 h2 h3=>exact⟨some d,h1,.full Zad (by rw[Zaf h3];exact h2) h3⟩
theorem atI0 {α:Type}{x:α}{xs:List α}:atI (x::xs) 0=some x:=by
 unfold atI ixN
 rw[YAW (Int.le_refl _),YAW (by rw[YAf];omega)]
 rfl
theorem ZiE:∀k<26,LET.getD k 0=97+k:=by decide
theorem ZjF {x:Nat}(h1:97<=x)(h2:x<=122):x∈LET:=by
 unfold LET
 simp only[YAY,List.not_mem_nil,or_false]
 omega
theorem Zhd {m:Q11}{i:Int}(h0:0<=i)(h1:i<m.length):atI m i=some (m.getD i.toNat 0):=by
 have h:i.toNat<m.length:=by omega
 unfold atI ixN
 rw[YAW h0,YAW h1,YBr,YAG,YAE h]
 rfl
def avB (ws:Q22)(w:Q11):Bool:=!(ws.any fun p=>infB p w)
theorem Zhg {G:Prop}{T C:Int->Prop}(h1:(∀n,C n->T n)->G)(h2:∀n,C n->T n):G:=h1 h2
theorem Zk6 {K:Q44}{H:Hp}{Q:VK}{a b:Addr}{L:Q22}(h1:SqL K H a (L.map tx))(h2:SqL K H b [])(q:Q (.bl (!L.isEmpty)) H):rEqD K true (.ref a) (.ref b) H Q:=
 .inr ⟨_,_,datL h1 (Za4 L),datL h2 rfl,fun z=>YAF z.1,(ownL h1 (Za4 L)).2.2,by
  cases L with
  | nil=>exact q
  | cons x y=>exact q⟩
def Znf (l:Q11)(kvs:List (Key×V)):Prop:=(∀kv∈kvs,∃x:Q11,kv.1=kTx x/\Inf x l)/\∀x:Q11,(valV kvs (kTx x)).isSome=infB x l
def keyT (s:Q11):List Key:=s.map fun (i:Nat)=>(Sum.inl ((i:Nat):Int):Key)
def numK (sp:Q22):List (List Key×V):=sp.zipIdx.map fun p=>(keyT p.1,V.int ((p.2:Nat):Int))
structure RInv (H:Hp)(ps pw pn:Addr)(l:Q11)(sp ws:Q22)(ts:List Addr):Prop where
 hs:H ps=some (.lst (ts.map V.ref))
 hw:H pw=some (.lst (ws.map tx))
 hn:H pn=some (.dT (numK sp))
 tl:ts.length=sp.length
 tt:∀(i:Nat) (t:Addr) (s:Q11),ts[i]?=some t->sp[i]?=some s->H t=some (.tup (s.map fun (i:Nat)=>V.int i))
 wl:ws.length=sp.length
 wt:∀(i:Nat) (w s:Q11),ws[i]?=some w->sp[i]?=some s->s=ZkG l w/\Inf w l
 nd:sp.Nodup
 f0:sp[0]?=some (Zkg l)
theorem Zle:∀k<8,([97,98,99,100,101,102,103,104]:Q11).getD k 0=97+k:=by decide
theorem Zll {l:Q11}{s e:Nat}(h:s<=e)(he:e<=l.length):Inf ((l.drop s).take (e-s)) l:=by
 refine⟨s,?_,?_⟩
 .rw[YAd,YAn];omega
 .rw[YAd,YAn,Nat.min_eq_left (by omega)]
theorem ZmT {l x:Q11}(h:Inf x l):∃s e,s<=e/\e<=l.length/\x=(l.drop s).take (e-s):=by
 obtain⟨i,h1,h2⟩:=h
 exact⟨i,i+x.length,by omega,h1,by rw[show i+x.length-i=x.length by omega];exact h2.symm⟩
theorem ZaG {x y:Q11}(e:kTx x=kTx y):x=y:=by unfold kTx at e;injection e with e;injection e with e;injection e
def Sound (l:Q11)(kvs:List (Key×V)):Prop:=∀kv∈kvs,∃x:Q11,kv.1=kTx x/\Inf x l
theorem Sound.put {l x:Q11}{kvs:List (Key×V)}{v:V}(h:Sound l kvs)(hx:Inf x l):Sound l (putK kvs (kTx x) v):=by
 intro kv hkv
 unfold putK at hkv
 split at hkv
 .obtain⟨k0,h0,rfl⟩:=YAc.mp hkv
  obtain⟨y,e,hy⟩:=h k0 h0
  refine⟨y,?_,hy⟩
  show (if k0.1=kTx x then (k0.1,v) else k0).1=kTx y
  split<;>exact e
 .rcases YAe.mp hkv with h1 | h1
  .exact h kv h1
  .rw[YAO.mp h1];exact⟨x,rfl,hx⟩
theorem Za6 {kvs:List (Key×V)}{k k':Key}{v:V}(h:(valV kvs k').isSome=true\/k'=k):(valV (putK kvs k v) k').isSome=true:=by
 rw[ZaS]
 split
 .rfl
 .rcases h with h | h
  .exact h
  .exact absurd h (by assumption)
theorem ZjH {l:Q11}{kvs:List (Key×V)}(h1:Sound l kvs)(h0:(valV kvs (kTx [])).isSome=true)(h2:∀s e,s<l.length->s<=e->e<=l.length->(valV kvs (kTx ((l.drop s).take (e-s)))).isSome=true):Znf l kvs:=by
 refine⟨h1,fun x=>?_⟩
 rw[YAv,Za3]
 constructor
 .intro h
  obtain⟨v,hv⟩:=YDU.mp h
  obtain⟨kv,hk,ek⟩:=YAc.mp (ZhZ hv)
  obtain⟨y,ey,hy⟩:=h1 kv hk
  rw[<-ZaG (ek.symm.trans ey)]at hy
  exact hy
 .intro h
  obtain⟨s,e,a,b,rfl⟩:=ZmT h
  by_cases c:s<l.length
  .exact h2 s e c a b
  .have:(l.drop s).take (e-s)=[]:=by rw[YBy (by omega)];simp
   rw[this];exact h0
theorem ZcM {m:Q11}(h:isk m=true):m.Pairwise (· < ·):=by
 unfold isk at h
 simp only[YAU,decide_eq_true_iff]at h
 exact(Zed m).mp h.2
theorem Zch {kvs:List (Key×V)}{k:Key}(v:V)(hn:(kvs.map (·.1)).Nodup):((putK kvs k v).map (·.1)).Nodup:=by
 cases h:valV kvs k with
 | none=>exact Zk7 v hn h
 | some x=>
  have e:(putK kvs k v).map (·.1)=kvs.map (·.1):=by
   unfold putK
   rw[YAW (by obtain⟨kv,hk,ek⟩:=YAc.mp (ZhZ h);exact YBa.mpr ⟨kv,hk,decide_eq_true ek⟩),YBB]
   refine List.map_congr_left fun p _=>?_
   show (if p.1=k then (p.1,v) else p).1=p.1
   split<;>rfl
  rw[e];exact hn
def Zkt (l:Q11)(kvs:List (Key×V)):Prop:=Znf l kvs/\(kvs.map (·.1)).Nodup/\kvs.length<=3000
def SoundD (l:Q11)(kvs:List (Key×V)):Prop:=Sound l kvs/\(kvs.map (·.1)).Nodup
theorem SoundD.put {l x:Q11}{kvs:List (Key×V)}{v:V}(h:SoundD l kvs)(hx:Inf x l):SoundD l (putK kvs (kTx x) v):=⟨h.1.put hx,Zch v h.2⟩
theorem Zne {ls:Q22}{i:Nat}{w:Q11}(h:ls[i]?=some w):atI (ls.map tx) ((i:Nat):Int)=some (tx w):=by
 have hi:=(YAD.mp h).1
 unfold atI ixN
 rw[YAW (by omega),YAW (by rw[YAB];omega),YBr,Int.toNat_natCast,YAZ,h]
 rfl
theorem ZgW {CX:CXT}{P:Program}{w:World}{K:Q44}{mg:Str->Option Value}{base:Heap}{N:List Str}{qual:Str}{scope:Scope}{f:Addr}{cd:Value}{A:Around}{outer:List Env}{s:Shared}{H:Hp}{E:XK}:
  PassesOwn (model (cxOf CX P w K mg base N qual scope f cd A outer s H E).prog (cxOf CX P w K mg base N qual scope f cd A outer s H E).w) (cxOf CX P w K mg base N qual scope f cd A outer s H E).A (cxOf CX P w K mg base N qual scope f cd A outer s H E).env (cxOf CX P w K mg base N qual scope f cd A outer s H E).xe:=PassesOwn.leaving
def fs2 (f g:Str):List V->List (Str×V):=fun r=>putF g (r.getD 1 .non) (putF f (r.getD 0 .non) [])
theorem Zlq {f g:Str}{vs:List V}(h:¬f=g):(fs2 f g vs).lookup f=some (vs.getD 0 .non):=by unfold fs2;rw[ZaF,YAX h,ZaF,YAW rfl]
theorem Zlp {f g:Str}{vs:List V}:(fs2 f g vs).lookup g=some (vs.getD 1 .non):=by unfold fs2;rw[ZaF,YAW rfl]
theorem ZbN {K:Q44}{H:Hp}{l:Q11}(h:l.length<=9000):LenV K (tx l) H l.length:=by
 have e:(⟨l.toArray⟩:Str).length=l.length:=by simp[Str.length]
 have:l.length<=sizeLine:=YAK h (by rw[sizeLine_eq];decide)
 exact⟨by rw[e];exact this,e.symm⟩
structure GL (m:Q11)(ws:Q22):Prop where
 nd:ws.Nodup
 len:ws.length<=63
 ne:∀w∈ws,w≠[]
 w41:∀w∈ws,w.length<=41
 wm:∀w∈ws,∀c∈w,c∈m
theorem GL.perm {m:Q11}{ws vs:Q22}(h:GL m ws)(p:vs.Perm ws):GL m vs:=
 ⟨p.nodup_iff.mpr h.nd,by rw[p.length_eq];exact h.len,fun w hw=>h.ne w (p.mem_iff.mp hw),fun w hw=>h.w41 w (p.mem_iff.mp hw),fun w hw=>h.wm w (p.mem_iff.mp hw)⟩
theorem GL.stem41 {m:Q11}{ws:Q22}(h:GL m ws){u:Q11}(hu:Stem ws u):u.length<=41:=by
 rcases hu with rfl | ⟨v,hv,k,_,rfl⟩
 .exact YAg _
 .have:=h.w41 v hv
  rw[YAd];omega
theorem GL.stemAv {m:Q11}{ws:Q22}(h:GL m ws)(ha:Anti ws){u:Q11}(hu:Stem ws u):Av ws u:=Zga ha h.ne hu
structure KO (m:Q11):Prop where
 k:isk m=true
 m1:1<=m.length
 m4:m.length<=4
theorem ZbQ {ws:Q22}{w:Q11}:avB ws w=true↔Av ws w:=by
 unfold avB Av
 rw[Bool.not_eq_true',List.any_eq_false]
 exact⟨fun a v hv hi=>a v hv (Za3.mpr hi),fun a v hv hi=>a v hv (Za3.mp hi)⟩
structure StemD (ws:Q22)(kvs:List (Key×V)):Prop where
 key:∀kv∈kvs,∃u:Q11,kv.1=kTx u/\Stem ws u
 has:∀u,Stem ws u->(valV kvs (kTx u)).isSome=true
 nd:(kvs.map (·.1)).Nodup
 len:kvs.length<=8201
theorem Zby {kvs:List (Key×V)}{k:Key}(h:(valV kvs k).isSome=true):∃kv∈kvs,kv.1=k:=by
 unfold valV at h
 cases e:kvs.find? fun kv=>decide (kv.1=k) with
 | none=>rw[e]at h;cases h
 | some kv=>exact⟨kv,List.mem_of_find?_eq_some e,by simpa using List.find?_some e⟩
theorem StemD.iff {ws:Q22}{kvs:List (Key×V)}(h:StemD ws kvs)(u:Q11):(valV kvs (kTx u)).isSome=true↔Stem ws u:=by
 constructor
 .intro z
  obtain⟨kv,hm,e⟩:=Zby z
  obtain⟨v,ev,hv⟩:=h.key kv hm
  rw[ZaG (e.symm.trans ev)];exact hv
 .exact h.has u
noncomputable def estOf (ws:Q22) (u:Q11):Q11:=Classical.choose (ZeM ws u)
theorem Zba (ws:Q22)(u:Q11):Zb9 ws u (estOf ws u):=Classical.choose_spec (ZeM ws u)
def onwC (ws:Q22)(m u:Q11):Q11:=m.filter fun c=>avB ws (u++[c])
noncomputable def onw (ws:Q22) (m u:Q11):List (Nat×Q11):=(onwC ws m u).map fun c=>(c,estOf ws (u++[c]))
noncomputable def outS (ws:Q22) (m u:Q11):Q22:=(onw ws m u).map (·.2)
def wayK (x:Nat×Q11):Key×V:=(kTx [x.1],tx x.2)
def WaysL (H:Hp)(p:Addr)(kw:List (Key×V))(ws:Q22)(m:Q11)(ss:Q22):Prop:=kw.length=ss.length/\∀(i:Nat) (u:Q11),ss[i]?=some u->∃a,kw[i]?=some (kTx u,.ref a)/\a≠p/\H a=some (.dK ((onw ws m u).map wayK))
structure StemsL (ws ss:Q22):Prop where
 nd:ss.Nodup
 iff:∀u,u∈ss↔Stem ws u
 len:ss.length<=8201
structure EndsG (ws:Q22)(m:Q11)(ss es:Q22):Prop where
 nd:es.Nodup
 sub:∀s∈es,s∈ss
 stay:∀s∈ss,s∉es->∃t∈outS ws m s,t∉es
 ord:∀(k:Nat) (s:Q11),es[k]?=some s->∀t∈outS ws m s,t∈es.take k
theorem WaysL.chg {H H':Hp}{p:Addr}{kw:List (Key×V)}{ws ss:Q22}{m:Q11}(h:WaysL H p kw ws m ss)(s:∀b o,b≠p->H b=some o->H' b=some o):WaysL H' p kw ws m ss:=⟨h.1,fun i u hu=>by
 obtain⟨a,e,n,ha⟩:=h.2 i u hu
 exact⟨a,e,n,s _ _ n ha⟩⟩
theorem WaysL.same {H H':Hp}{p:Addr}{kw:List (Key×V)}{ws ss:Q22}{m:Q11}(h:WaysL H p kw ws m ss)(s:Same H H'):WaysL H' p kw ws m ss:=h.chg fun b o _ e=>s b o e
theorem WaysL.snoc {H:Hp}{p:Addr}{kw:List (Key×V)}{ws ss:Q22}{m u:Q11}{a:Addr}(h:WaysL H p kw ws m ss)(n:a≠p)(ha:H a=some (.dK ((onw ws m u).map wayK))):WaysL H p (kw++[(kTx u,.ref a)]) ws m (ss++[u]):=by
 refine⟨by rw[YAI,YAI,h.1,YAN,YAN],fun i v hv=>?_⟩
 by_cases c:i<ss.length
 .rw[YAx c]at hv
  rw[YAx (by rw[h.1];exact c)]
  exact h.2 i v hv
 .have il:=(YAD.mp hv).1
  rw[YAI,YAN]at il
  have e:i=ss.length:=by omega
  subst e
  rw[YAz (YAJ _),YCe]at hv
  cases hv
  refine⟨a,?_,n,ha⟩
  rw[<-h.1,YAz (YAJ _),YCe]
  rfl
theorem WaysL.keys {H:Hp}{p:Addr}{kw:List (Key×V)}{ws ss:Q22}{m:Q11}(h:WaysL H p kw ws m ss):kw.map (·.1)=ss.map kTx:=by
 apply YCu
 intro i
 rw[YAZ,YAZ]
 cases e:ss[i]? with
 | none=>
  have:kw[i]?=none:=by
   rw[List.getElem?_eq_none_iff]at e ⊢
   rw[h.1];exact e
  rw[this];rfl
 | some u=>
  obtain⟨a,e1,_⟩:=h.2 i u e
  rw[e1];rfl
theorem ZmI {α:Type}{es:List α}{n:Nat}{r:α}(nd:es.Nodup)(h:es[n]?=some r):r∉es.take n:=by
 intro hm
 obtain⟨k,hk,e⟩:=YAh hm
 rw[YAd]at hk
 rw[YDX]at e
 obtain⟨hn,e2⟩:=YAD.mp h
 have:=(YDL.mp nd)
 rw[YCB]at this
 exact this k n (by omega) hn (by omega) (by rw[e,e2])
theorem ZhY {kvs:List (Key×V)}{k:Key}(h:k∉kvs.map (·.1)):valV kvs k=none:=by
 cases e:valV kvs k with
 | none=>rfl
 | some v=>
  obtain⟨kv,hm,he⟩:=Zby (kvs:=kvs) (k:=k) (by rw[e];rfl)
  exact absurd (YAc.mpr ⟨kv,hm,he⟩) h
theorem ZeH:∀(xs acc:List (Key×V)),((acc++xs).map (·.1)).Nodup->Zaz acc xs=acc++xs
 | [],acc,_=>by rw[YBC];rfl
 | x::xs,acc,h=>by
  have e:acc++x::xs=(acc++[x])++xs:=by simp
  have hx:x.1∉acc.map (·.1):=by
   rw[YAq,YCD]at h
   exact fun hm=>h.2.2 x.1 hm x.1 (by simp) rfl
  have r:=ZeH xs (acc++[x]) (by rw[<-e];exact h)
  rw[e,<-r]
  show Zaz (putK acc x.1 x.2) xs=_
  rw[Zdd _ (ZhY hx)]
theorem Zgh {ws:Q22}{m u:Q11}(hm:m.Pairwise (· < ·)):(((onw ws m u).map wayK).map (·.1)).Nodup:=by
 unfold onw onwC
 rw[YBB,YBB]
 have:(m.filter fun c=>avB ws (u++[c])).Nodup:=(hm.imp fun h=>YAi h).filter _
 refine Zbv this ?_
 intro x _ y _ e
 have e':kTx [x]=kTx [y]:=e
 have:=ZaG e'
 simpa using this
theorem ZfJ {α:Type}(P:Nat->Bool)(g:Nat->α)(l:Q11):((List.range l.length).filter fun i=>P (l.getD i 0)).map (fun i=>g (l.getD i 0))=(l.filter P).map g:=by
 have e:l=(List.range l.length).map fun i=>l.getD i 0:=by
  apply YBR (by simp)
  intro i h1 h2
  simp[YAG,h1]
 conv=>rhs;rw[e]
 rw[List.filter_map,YBB]
 rfl
theorem ZbS {ws:Q22}{i:Nat}{x:V}(h:(ws.map tx)[i]?=some x):∃y,ws[i]?=some y/\x=tx y:=by
 rw[YAZ]at h
 cases e:ws[i]? with
 | none=>rw[e]at h;cases h
 | some y=>rw[e]at h;cases h;exact⟨y,rfl,rfl⟩
structure StemP (ws:Q22)(i j:Nat)(kvs:List (Key×V)):Prop where
 key:∀kv∈kvs,∃u:Q11,kv.1=kTx u/\Stem ws u
 nil:(valV kvs (kTx [])).isSome=true
 has:∀(a:Nat) (w:Q11),ws[a]?=some w->∀k,k<w.length->(a<i\/(a=i/\k<j))->(valV kvs (kTx (w.take k))).isSome=true
 nd:(kvs.map (·.1)).Nodup
theorem Zci {kvs:List (Key×V)}{k:Key}{v:V}{kv:Key×V}(h:kv∈putK kvs k v):kv.1=k\/∃p∈kvs,p.1=kv.1:=by
 unfold putK at h
 split at h
 .obtain⟨p,hp,e⟩:=YAc.mp h
  split at e
  .exact .inr ⟨p,hp,by rw[<-e]⟩
  .exact .inr ⟨p,hp,by rw[<-e]⟩
 .rcases YAe.mp h with z | z
  .exact .inr ⟨kv,z,rfl⟩
  .rw[YAO.mp z];exact .inl rfl
theorem StemP.start (ws:Q22):StemP ws 0 0 (Zaz [] [(kTx [],.bl true)]) where
 key:=fun kv h=>by
  rcases Zci (kvs:=[]) h with z | ⟨p,hp,_⟩
  .exact⟨[],z,.inl rfl⟩
  .cases hp
 nil:=Za6 (kvs:=[]) (.inr rfl)
 has:=fun a w _ k _ h=>by rcases h with z | ⟨_,z⟩<;>omega
 nd:=Zch (kvs:=[]) (.bl true) YCY
theorem StemP.put {ws:Q22}{i j:Nat}{kvs:List (Key×V)}{w:Q11}(h:StemP ws i j kvs)(hw:ws[i]?=some w)(hj:j<w.length):StemP ws i (j+1) (putK kvs (kTx (w.take j)) (.bl true)) where
 key:=fun kv hm=>by
  rcases Zci hm with z | ⟨p,hp,e⟩
  .exact⟨w.take j,z,.inr ⟨w,YAM hw,j,hj,rfl⟩⟩
  .obtain⟨u,e2,hu⟩:=h.key p hp
   exact⟨u,e▸e2,hu⟩
 nil:=Za6 (.inl h.nil)
 has:=fun a v hv k hk z=>by
  by_cases c:a<i\/(a=i/\k<j)
  .exact Za6 (.inl (h.has a v hv k hk c))
  .have ea:a=i:=by omega
   have ek:k=j:=by omega
   subst ea ek
   rw[hw]at hv
   cases hv
   exact Za6 (.inr rfl)
 nd:=Zch _ h.nd
theorem StemP.one {ws:Q22}{i:Nat}{kvs:List (Key×V)}{w:Q11}(h:StemP ws i 0 kvs)(hw:ws[i]?=some w):StemP ws i (1+0) kvs:=
 ⟨h.key,h.nil,fun a v hv k hk z=>by
  by_cases c:a<i
  .exact h.has a v hv k hk (.inl c)
  .have ek:k=0:=by omega
   subst ek
   rw[YBf];exact h.nil,h.nd⟩
theorem StemP.next {ws:Q22}{i j:Nat}{kvs:List (Key×V)}{w:Q11}(h:StemP ws i j kvs)(hw:ws[i]?=some w)(hj:w.length<=j):StemP ws (i+1) 0 kvs:=
 ⟨h.key,h.nil,fun a v hv k hk z=>by
  refine h.has a v hv k hk ?_
  by_cases c:a<i
  .exact .inl c
  .have ea:a=i:=by omega
   subst ea
   rw[hw]at hv
   cases hv
   exact .inr ⟨rfl,by omega⟩,h.nd⟩
theorem StemP.done {ws:Q22}{kvs:List (Key×V)}(h:StemP ws ws.length 0 kvs)(hl:kvs.length<=8201):StemD ws kvs:=
 ⟨h.key,fun u hu=>by
  rcases hu with rfl | ⟨v,hv,k,hk,rfl⟩
  .exact h.nil
  .obtain⟨a,ha,e⟩:=YAh hv
   exact h.has a v (YAD.mpr ⟨ha,e⟩) k hk (.inl ha),h.nd,hl⟩
theorem Zgv {α:Type}{l:List α}{k:Nat}(h:k<l.length):(l[k]::l.eraseIdx k).Perm l:=by
 rw[List.eraseIdx_eq_take_drop_succ]
 refine List.perm_middle.symm.trans ?_
 rw[<-List.drop_eq_getElem_cons h,YCP]
def SameX (p:Addr)(H H':Hp):Prop:=∀b o,b≠p->H b=some o->H' b=some o
theorem Zjl {p:Addr}{H H':Hp}(s:Same H H'):SameX p H H':=fun b o _ e=>s b o e
theorem SameX.trans {p:Addr}{H H1 H2:Hp}(s:SameX p H H1)(t:SameX p H1 H2):SameX p H H2:=fun b o n e=>t b o n (s b o n e)
theorem SameX.updX {p:Addr}{H H':Hp}{o:HO}(s:SameX p H H'):SameX p H (upd H' p o):=fun b u n e=>by rw[Zaf n];exact s b u n e
theorem SameX.updN {p a:Addr}{H H':Hp}{o:HO}(s:SameX p H H')(h:H a=none):SameX p H (upd H' a o):=fun b u n e=>by rw[Zaf (Zai e h)];exact s b u n e
theorem SameX.same {p:Addr}{H H':Hp}{o:HO}(s:SameX p H H')(h:H p=some o)(h':H' p=some o):Same H H':=fun b u e=>by
 by_cases c:b=p
 .subst c;rw[h]at e;cases e;exact h'
 .exact s b u c e
noncomputable def edges (ws:Q22) (m:Q11) (ss:Q22):List (Q11×Q11):=ss.flatMap fun s=>(outS ws m s).map fun r=>(r,s)
def srcOf (E:List (Q11×Q11))(r:Q11):Q22:=(E.filter fun e=>decide (e.1=r)).map (·.2)
structure SrcAt (H H':Hp)(pS pL:Addr)(kS:List (Key×V))(E:List (Q11×Q11)):Prop where
 no:∀r,valV kS (kTx r)=none->srcOf E r=[]
 yes:∀r v,valV kS (kTx r)=some v->∃a,v=.ref a/\H a=none/\a≠pS/\a≠pL/\H' a=some (.lst ((srcOf E r).map tx))
 inj:∀r r' a,valV kS (kTx r)=some (.ref a)->valV kS (kTx r')=some (.ref a)->r=r'
 len:kS.length<=E.length
def Zf1 (kL:List (Key×V))(ss:Q22)(f:Q11->Nat):Prop:=∀s∈ss,valV kL (kTx s)=some (.int (f s:Nat))
theorem Zls {g:TG}{tb:TS}{D:Ends}{σ:St}{H:Hp}{o:Obj}{kvs:List (Key×V)}{a:Addr}(Pv:Nat->St->Hp->Prop)(h0:Pv 0 σ H)(hl:∀i σ H,Pv i σ H->H a=some (.frz o (.dK kvs)))
  (hs:∀i p σ H,kvs[i]?=some p->Pv i σ H->g p.2 σ H fun σ2 H2=>tb { D with nx:=Pv (i+1),ct:=Pv (i+1),bk:=D.nx } σ2 H2) (hd:∀σ H,Pv kvs.length σ H->D.nx σ H):ForRun (Itv o kvs a) g tb D σ H:=by
 refine⟨fun i m σ H=>m=kvs.length-i/\i<=kvs.length/\Pv i σ H,⟨kvs.length,by simp,YAg _,h0⟩,?_⟩
 rintro i m σ H ⟨rfl,hi,p⟩
 have q:=hl i σ H p
 by_cases hlt:i<kvs.length
 .refine .inr ⟨⟨q,hlt⟩,Pv (i+1),fun σ' H' p'=>⟨kvs.length-(i+1),by omega,rfl,hlt,p'⟩,fun x H' y=>?_⟩
  obtain⟨e,p2,e2,e3⟩:=y
  subst e e3
  exact hs i p2 σ _ e2 p
 .have e:i=kvs.length:=by omega
  subst e
  exact .inl ⟨⟨q,YAJ _⟩,hd σ H p⟩
theorem ZbU:∀ {kvs:List (Key×V)} {i:Nat} {k:Key} {v:V},(kvs.map (·.1)).Nodup->kvs[i]?=some (k,v)->valV kvs k=some v
 | [],i,k,v,_,h=>by simp at h
 | p::kvs,0,k,v,_,h=>by
  cases h
  exact ZaX rfl
 | p::kvs,i+1,k,v,nd,h=>by
  rw[YAj,YBP]at nd
  have h':kvs[i]?=some (k,v):=h
  have:p.1≠k:=fun e=>nd.1 (by rw[e];exact YAc.mpr ⟨_,YAM h',rfl⟩)
  rw[Za0 this]
  exact ZbU nd.2 h'
theorem WaysL.val {H:Hp}{p:Addr}{kw:List (Key×V)}{ws ss:Q22}{m u:Q11}(h:WaysL H p kw ws m ss)(nd:ss.Nodup)(hu:u∈ss):∃a,valV kw (kTx u)=some (.ref a)/\a≠p/\H a=some (.dK ((onw ws m u).map wayK)):=by
 obtain⟨i,hi,e⟩:=YAh hu
 obtain⟨a,h1,h2,h3⟩:=h.2 i u (YAD.mpr ⟨hi,e⟩)
 refine⟨a,ZbU ?_ h1,h2,h3⟩
 rw[h.keys]
 exact Zbv nd fun x _ y _ e=>ZaG e
theorem Zbp (E:List (Q11×Q11))(r s x:Q11):srcOf (E++[(r,s)]) x=if r=x then srcOf E x++[s] else srcOf E x:=by
 unfold srcOf
 rw[YBO,YAq]
 by_cases e:r=x
 .simp[e]
 .simp[e]
theorem SrcAt.keep {H H' H'':Hp}{pS pL:Addr}{kS:List (Key×V)}{E:List (Q11×Q11)}(h:SrcAt H H' pS pL kS E)(k:∀a xs,H' a=some (.lst xs)->H'' a=some (.lst xs)):SrcAt H H'' pS pL kS E:=
 ⟨h.no,fun r v hv=>let ⟨a,e,n,n1,n2,ha⟩:=h.yes r v hv;⟨a,e,n,n1,n2,k _ _ ha⟩,h.inj,h.len⟩
theorem SrcAt.old {H H':Hp}{pS pL a:Addr}{kS:List (Key×V)}{E:List (Q11×Q11)}{r s:Q11}(h:SrcAt H H' pS pL kS E)(hv:valV kS (kTx r)=some (.ref a)):SrcAt H (upd H' a (.lst ((srcOf E r).map tx++[tx s]))) pS pL kS (E++[(r,s)]) where
 no:=fun x hx=>by
  have:r≠x:=fun e=>by rw[e,hx]at hv;cases hv
  rw[Zbp,YAX this];exact h.no x hx
 yes:=fun x v hx=>by
  obtain⟨a',e,n,n1,n2,ha⟩:=h.yes x v hx
  refine⟨a',e,n,n1,n2,?_⟩
  by_cases c:r=x
  .subst c
   rw[hv]at hx
   cases hx
   cases e
   rw[Zad,Zbp,YAW rfl,YAq];rfl
  .have:a'≠a:=fun z=>c (h.inj r x a hv (by rw[hx,e,z]))
   rw[Zaf this,Zbp,YAX c];exact ha
 inj:=h.inj
 len:=YAK h.len (by rw[YAI];omega)
theorem SrcAt.new {H H' H'':Hp}{pS pL z:Addr}{kS:List (Key×V)}{E:List (Q11×Q11)}{r s:Q11}(h:SrcAt H H' pS pL kS E)(hv:valV kS (kTx r)=none)(nz:H z=none)(nz':H' z=none)(n1:z≠pS)(n2:z≠pL)
  (k:∀a xs,a≠z->H' a=some (.lst xs)->H'' a=some (.lst xs)) (hz:H'' z=some (.lst [tx s])):SrcAt H H'' pS pL (putK kS (kTx r) (.ref z)) (E++[(r,s)]) where
 no:=fun x hx=>by
  rw[ZaS]at hx
  split at hx
  .cases hx
  .rename_i c
   have:r≠x:=fun e=>c (by rw[e])
   rw[Zbp,YAX this];exact h.no x hx
 yes:=fun x v hx=>by
  rw[ZaS]at hx
  by_cases c:x=r
  .subst c
   rw[YAW rfl]at hx
   cases hx
   refine⟨z,rfl,nz,n1,n2,?_⟩
   rw[hz,Zbp,YAW rfl,h.no x hv];rfl
  .rw[YAX (fun e=>c (ZaG e))]at hx
   obtain⟨a',e,n,m1,m2,ha⟩:=h.yes x v hx
   refine⟨a',e,n,m1,m2,?_⟩
   rw[Zbp,YAX (fun e=>c e.symm)]
   exact k _ _ (fun e=>by rw[e,nz']at ha;cases ha) ha
 inj:=fun x y a hx hy=>by
  have look:∀x a,valV (putK kS (kTx r) (.ref z)) (kTx x)=some (.ref a)->(x=r/\a=z)\/(x≠r/\valV kS (kTx x)=some (.ref a)/\a≠z):=fun x a hx=>by
   rw[ZaS]at hx
   by_cases c:x=r
   .rw[YAW (by rw[c])]at hx
    cases hx
    exact .inl ⟨c,rfl⟩
   .rw[YAX (fun e=>c (ZaG e))]at hx
    obtain⟨a',e,n,m1,m2,ha⟩:=h.yes x _ hx
    cases e
    exact .inr ⟨c,hx,fun e=>by rw[e,nz']at ha;cases ha⟩
  rcases look x a hx with⟨e1,e2⟩|⟨e1,e2,e3⟩
  .rcases look y a hy with⟨f1,f2⟩|⟨f1,f2,f3⟩
   .rw[e1,f1]
   .exact absurd e2 f3
  .rcases look y a hy with⟨f1,f2⟩|⟨f1,f2,f3⟩
   .exact absurd f2 e3
   .exact h.inj x y a e2 f2
 len:=by
  have:=ZaE kS (kTx r) (.ref z)
  have:=h.len
  rw[YAI,YAN]
  omega
theorem ZkE (os:Q22)(s r:Q11):srcOf (os.map fun t=>(t,s)) r=List.replicate (os.count r) s:=by
 unfold srcOf
 induction os with
 | nil=>rfl
 | cons t os ih=>
  rw[YAj,YBz,List.count_cons]
  by_cases e:t=r
  .subst e
   simp only[decide_true,if_true,beq_self_eq_true,YAj,ih,YCF]
  .have e':(t == r)=false:=by simpa using e
   simp only[decide_eq_false e,YCA,if_false,e',ih,Nat.add_zero]
theorem ZkF (E F:List (Q11×Q11))(r:Q11):srcOf (E++F) r=srcOf E r++srcOf F r:=by unfold srcOf;rw[YBO,YAq]
theorem Zia {ws:Q22}{m r s:Q11}{ss:Q22}(h:s∈srcOf (edges ws m ss) r):s∈ss:=by
 unfold srcOf edges at h
 obtain⟨e,he,rfl⟩:=YAc.mp h
 obtain⟨u,hu,ht⟩:=YCH.mp (YBA.mp he).1
 obtain⟨t,_,rfl⟩:=YAc.mp ht
 exact hu
theorem Zfa {ws:Q22}{m r s:Q11}:∀ {ss:Q22},ss.Nodup->s∈ss->(srcOf (edges ws m ss) r).count s=(outS ws m s).count r
 | [],_,h=>by cases h
 | u::ss,nd,h=>by
  have e:srcOf (edges ws m (u::ss)) r=List.replicate ((outS ws m u).count r) u++srcOf (edges ws m ss) r:=by
   unfold edges
   rw[YDZ,ZkF,ZkE]
  have nd':=YBP.mp nd
  rw[e,List.count_append,List.count_replicate]
  by_cases c:u=s
  .subst c
   have z:(srcOf (edges ws m ss) r).count u=0:=List.count_eq_zero.mpr fun z=>nd'.1 (Zia z)
   rw[z,YAW (by simp)];rfl
  .have hs:s∈ss:=by
    rcases YAY.mp h with z | z
    .exact absurd z.symm c
    .exact z
   rw[YAX (by simpa using c),Nat.zero_add]
   exact Zfa nd'.2 hs
theorem Zib {ws:Q22}{m r:Q11}{ss:Q22}(m4:m.length<=4)(hl:ss.length<=8201):(edges ws m ss).length<=32804:=by
 have:(edges ws m ss).length<=ss.length*4:=Zbi (fun s=>by
  unfold outS onw onwC
  rw[YAB,YAB,YAB]
  exact YAK (YAt _ _) m4) ss
 omega
theorem Zic (E:List (Q11×Q11))(r:Q11):(srcOf E r).length<=E.length:=by unfold srcOf;rw[YAB];exact YAt _ _
def Dead (ws:Q22)(m:Q11)(k:Nat)(s:Q11):Prop:=∀x:Q11,(∀c∈x,c∈m)->Av ws (s++x)->x.length<k
theorem Zk2 {ws:Q22}{m s t:Q11}(h:t∈outS ws m s):∃c∈m,Av ws (s++[c])/\Zb9 ws (s++[c]) t:=by
 unfold outS onw onwC at h
 obtain⟨x,hx,rfl⟩:=YAc.mp h
 obtain⟨c,hc,rfl⟩:=YAc.mp hx
 have:=YBA.mp hc
 exact⟨c,this.1,ZbQ.mp this.2,Zba _ _⟩
theorem Zdl {ws:Q22}{u e:Q11}(h:Zb9 ws u e):Stem ws e:=let ⟨_,_,_,hs,_⟩:=h;hs
theorem ZhK (ws:Q22)(m:Q11)(ss:Q22)(u:Q11):edges ws m (ss++[u])=edges ws m ss++(outS ws m u).map fun r=>(r,u):=by
 unfold edges
 rw[YDJ]
 simp
theorem Zm3 {K:Q44}{H:Hp}{Q:VK}{n:Nat}(h:Q (.bl (decide (n=0))) H):rEqD K false (.int (n:Int)) (.int 0) H Q:=.inl ⟨rfl,by
 rw[YAX YAF]
 have:decide (V.int (n:Int)=V.int 0)=decide (n=0):=by
  rw[decide_eq_decide]
  constructor
  .intro e;injection e with e;omega
  .intro e;rw[e];rfl
 rw[this];exact h⟩
theorem ZfI {α β:Type}(d:α)(P:α->Bool)(g:α->β)(l:List α):((List.range l.length).filter fun i=>P (l.getD i d)).map (fun i=>g (l.getD i d))=(l.filter P).map g:=by
 have e:l=(List.range l.length).map fun i=>l.getD i d:=by
  apply YBR (by simp)
  intro i h1 h2
  simp[YAG,h1]
 conv=>rhs;rw[e]
 rw[List.filter_map,YBB]
 rfl
theorem ZgS {kvs:List (Key×V)}{k:Key}{v w:V}(h:valV kvs k=some w):(putK kvs k v).length=kvs.length:=by
 unfold putK
 split
 .rw[YAB]
 .rename_i c
  obtain⟨kv,hm,e⟩:=Zby (kvs:=kvs) (k:=k) (by rw[h];rfl)
  exact absurd (YBa.mpr ⟨kv,hm,by simpa using e⟩) c
theorem Zcf {ws:Q22}{m s:Q11}{c:Nat}:c∈onwC ws m s↔c∈m/\Av ws (s++[c]):=by
 unfold onwC
 rw[YBA,ZbQ]
def Zcv (kvs:List (Key×V))(w:Q11)(c:Nat):Bool:=!(valV kvs (kTx (w++[c]))).isSome&&(valV kvs (kTx ((w++[c]).drop 1))).isSome
def ZdH (kvs:List (Key×V))(m w:Q11):Q22:=(m.filter (Zcv kvs w)).map fun c=>w++[c]
theorem Zdj:∀ {kvs:List (Key×V)},(∀kv∈kvs,∃x:Q11,kv.1=kTx x)->∃ss:Q22,ss.map kTx=kvs.map (·.1)
 | [],_=>⟨[],rfl⟩
 | kv::kvs,h=>by
  obtain⟨ss,e⟩:=Zdj (kvs:=kvs) fun p hp=>h p (YAV _ hp)
  obtain⟨x,ex⟩:=h kv YAa
  exact⟨x::ss,by rw[YAj,YAj,e,ex]⟩
theorem Zl5 {K:Q44}{H H':Hp}{a:Addr}{xs:List V}(h:SqL K H a xs)(s:SameL H H'):SqL K H' a xs:=by
 rcases h with h | h
 .rcases h with h | ⟨o,h⟩
  .exact .inl (.inl (s _ _ h rfl))
  .exact .inl (.inr ⟨o,s _ _ h rfl⟩)
 .exact .inr h
theorem Zlv {m:Q11}{ws ss es:Q22}{f:Q11->Nat}(h:KI ss (outS ws m) es.length es f):EndsG ws m ss es:=⟨h.nd,h.sub,fun s hs n=>h.stay hs n,h.ord⟩
def X2 (C:Addr)(f g:Str)(E:XK)(H:Hp)(x y:Q11):Prop:=∀e H2,Same H H2->XAny H2 e C (fs2 f g [tx x,tx y])->E (.ref C) (some e) H2
def FirstP (ws:Q22)(x y:Q11):Prop:=∃i j:Nat,ws[i]?=some y/\ws[j]?=some x/\x≠y/\Inf x y/\∀(i' j':Nat) (x' y':Q11),ws[i']?=some y'->ws[j']?=some x'->x'≠y'->Inf x' y'->i<i'\/(i=i'/\j<=j')
def FirstA (ws ls:Q22)(w:Q11):Prop:=∃i:Nat,ls[i]?=some w/\Av ws w/\∀(j:Nat) (v:Q11),j<i->ls[j]?=some v->¬Av ws v
theorem FirstP.one {ws:Q22}{x y x' y':Q11}(h:FirstP ws x y)(h':FirstP ws x' y'):x=x'/\y=y':=by
 obtain⟨i,j,hi,hj,ne,inf,mn⟩:=h
 obtain⟨i',j',hi',hj',ne',inf',mn'⟩:=h'
 have a:=mn i' j' x' y' hi' hj' ne' inf'
 have b:=mn' i j x y hi hj ne inf
 have e1:i=i':=by omega
 have e2:j=j':=by omega
 subst e1 e2
 rw[hi]at hi'
 rw[hj]at hj'
 cases hi'
 cases hj'
 exact⟨rfl,rfl⟩
theorem FirstA.one {ws ls:Q22}{w v:Q11}(h:FirstA ws ls w)(h':FirstA ws ls v):w=v:=by
 obtain⟨i,hi,ha,mn⟩:=h
 obtain⟨j,hj,hb,mn'⟩:=h'
 have e:i=j:=by
  rcases YCT i j with z | z | z
  .exact absurd ha (mn' i w z hi)
  .exact z
  .exact absurd hb (mn j v z hj)
 subst e
 rw[hi]at hj
 cases hj
 rfl
theorem ZeF {K:Q44}{H:Hp}{Q:VK}{x y:Q11}(h:∀b:Bool,(b=true↔x≠y)->Q (.bl b) H):rEqD K true (tx x) (tx y) H Q:=.inl ⟨rfl,by
 rw[YAW rfl]
 refine h _ ?_
 rw[Bool.not_eq_true',decide_eq_false_iff_not,Zc2]⟩
def FirstC (ws:Q22)(m:Q11)(D:Q11->Prop)(s:Q11)(c:Nat):Prop:=∃i:Nat,(onwC ws m s)[i]?=some c/\¬D (estOf ws (s++[c]))/\∀(j d:Nat),j<i->(onwC ws m s)[j]?=some d->D (estOf ws (s++[d]))
inductive Pth (ws:Q22) (m:Q11) (D:Q11->Prop):Q22->Q11->Q11->Prop
 | nil:Pth ws m D [] [] []
 | step {met:Q22} {s g:Q11} {c:Nat}:Pth ws m D met s g->s∉met->FirstC ws m D s c->Pth ws m D (met++[s]) (estOf ws (s++[c])) (g++[c])
def EndP (ws:Q22)(m:Q11)(D:Q11->Prop)(x y:Q11):Prop:=∃(met:Q22) (s g:Q11) (j:Nat),Pth ws m D met s g/\met[j]?=some s/\x=g.take j/\y=g.drop j
theorem Pth.len {ws:Q22}{m:Q11}{D:Q11->Prop}{met:Q22}{s g:Q11}(h:Pth ws m D met s g):g.length=met.length:=by
 induction h with
 | nil=>rfl
 | step _ _ _ ih=>rw[YAI,YAI,ih];rfl
theorem Pth.nd {ws:Q22}{m:Q11}{D:Q11->Prop}{met:Q22}{s g:Q11}(h:Pth ws m D met s g):met.Nodup:=by
 induction h with
 | nil=>exact YCY
 | step _ n _ ih=>
  rw[YCD]
  refine⟨ih,by simp,fun a ha b hb e=>?_⟩
  rw[YAO.mp hb]at e
  exact n (e▸ha)
theorem Pth.stem {ws:Q22}{m:Q11}{D:Q11->Prop}{met:Q22}{s g:Q11}(h:Pth ws m D met s g):Stem ws s/\∀t∈met,Stem ws t:=by
 induction h with
 | nil=>exact⟨.inl rfl,fun t ht=>by cases ht⟩
 | step _ _ _ ih=>
  refine⟨Zdl (Zba _ _),fun t ht=>?_⟩
  rcases YAe.mp ht with z | z
  .exact ih.2 t z
  .rw[YAO.mp z];exact ih.1
theorem Pth.out {ws:Q22}{m:Q11}{D:Q11->Prop}{met:Q22}{s g:Q11}(h:Pth ws m D met s g)(h0:¬D []):¬D s:=by
 cases h with
 | nil=>exact h0
 | step _ _ f=>
  obtain⟨i,_,n,_⟩:=f
  exact n
theorem Pth.run {ws:Q22}{m:Q11}{D:Q11->Prop}{met:Q22}{s g:Q11}(h:Pth ws m D met s g)(h0:Av ws []):RunTo ws g s/\∀(j:Nat) (t:Q11),met[j]?=some t->RunTo ws (g.take j) t:=by
 induction h with
 | nil=>exact⟨RunTo.start h0,fun j t ht=>by simp at ht⟩
 | @step met s g c hp _ f ih=>
  obtain⟨i,hc,_,_⟩:=f
  have ha:=(Zcf.mp (YAM hc)).2
  refine⟨ih.1.step ha (Zba _ _),fun j t ht=>?_⟩
  have gl:=hp.len
  by_cases k:j<met.length
  .rw[YAx k]at ht
   rw[YBY (by omega)]
   exact ih.2 j t ht
  .have jl:=(YAD.mp ht).1
   rw[YAI,YAN]at jl
   have e:j=met.length:=by omega
   subst e
   rw[YAz (YAJ _),YCe]at ht
   cases ht
   rw[<-gl,List.take_left]
   exact ih.1
theorem Zhj {es:Q22}{s:Q11}:(valV (es.map fun s=>(kTx s,V.bl true)) (kTx s)).isSome=decide (s∈es):=by
 induction es with
 | nil=>rfl
 | cons u es ih=>
  rw[YAj]
  by_cases e:u=s
  .subst e
   rw[ZaX rfl];simp
  .rw[Za0 (fun z=>e (ZaG z)),ih]
   have:¬s=u:=fun z=>e z.symm
   simp[this]
structure MetD (kM:List (Key×V))(met:Q22):Prop where
 at_:∀(j:Nat) (s:Q11),met[j]?=some s->valV kM (kTx s)=some (.int (j:Nat))
 mem:∀s,(valV kM (kTx s)).isSome=true->s∈met
 len:kM.length<=met.length
theorem MetD.some {kM:List (Key×V)}{met:Q22}(h:MetD kM met)(s:Q11):(valV kM (kTx s)).isSome=decide (s∈met):=by
 rw[YAv,decide_eq_true_iff]
 refine⟨h.mem s,fun hs=>?_⟩
 obtain⟨j,hj,e⟩:=YAh hs
 rw[h.at_ j s (YAD.mpr ⟨hj,e⟩)]
 rfl
theorem MetD.put {kM:List (Key×V)}{met:Q22}{s:Q11}(h:MetD kM met)(n:s∉met):MetD (putK kM (kTx s) (.int (met.length:Nat))) (met++[s]) where
 at_:=fun j u hu=>by
  rw[ZaS]
  by_cases c:j<met.length
  .rw[YAx c]at hu
   have:u≠s:=fun z=>n (z▸YAM hu)
   rw[YAX (fun z=>this (ZaG z))];exact h.at_ j u hu
  .have jl:=(YAD.mp hu).1
   rw[YAI,YAN]at jl
   have e:j=met.length:=by omega
   subst e
   rw[YAz (YAJ _),YCe]at hu
   cases hu
   rw[YAW rfl]
 mem:=fun u hu=>by
  rw[ZaS]at hu
  by_cases c:u=s
  .rw[c];simp
  .rw[YAX (fun z=>c (ZaG z))]at hu
   exact YBu _ (h.mem u hu)
 len:=by
  have:=ZaE kM (kTx s) (.int (met.length:Nat))
  have:=h.len
  rw[YAI,YAN]
  omega
theorem Zc7 {P:Nat->Bool}{c:Nat}:∀ {l:Q11},(l.filter P)[0]?=some c->∃i:Nat,l[i]?=some c/\P c=true/\∀(j d:Nat),j<i->l[j]?=some d->P d=false
 | [],h=>by simp at h
 | x::l,h=>by
  rw[YBz]at h
  by_cases e:P x=true
  .rw[YAW e]at h
   cases h
   exact⟨0,rfl,e,fun j d hj=>by omega⟩
  .rw[YAX e]at h
   obtain⟨i,h1,h2,h3⟩:=Zc7 h
   refine⟨i+1,h1,h2,fun j d hj hd=>?_⟩
   cases j with
   | zero=>cases hd;exact YAr.mpr e
   | succ j=>exact h3 j d (by omega) hd
def Endd (ws:Q22)(m s:Q11):Prop:=∃k,Dead ws m k s
theorem Pth.congr {ws:Q22}{m:Q11}{D D':Q11->Prop}(hD:∀s,Stem ws s->(D s↔D' s)){met:Q22}{s g:Q11}(h:Pth ws m D met s g):Pth ws m D' met s g:=by
 induction h with
 | nil=>exact .nil
 | step _ n f ih=>
  obtain⟨i,hc,nd,mn⟩:=f
  exact .step ih n ⟨i,hc,fun k=>nd ((hD _ (Zdl (Zba _ _))).mpr k),fun j d hj hd=>(hD _ (Zdl (Zba _ _))).mp (mn j d hj hd)⟩
theorem EndP.congr {ws:Q22}{m:Q11}{D D':Q11->Prop}(hD:∀s,Stem ws s->(D s↔D' s)){x y:Q11}(h:EndP ws m D x y):EndP ws m D' x y:=by
 obtain⟨met,s,g,j,hp,r⟩:=h
 exact⟨met,s,g,j,hp.congr hD,r⟩
theorem Zka {ws:Q22}{m s:Q11}{c:Nat}(hc:c∈m)(ha:Av ws (s++[c])):∃e∈outS ws m s,Zb9 ws (s++[c]) e:=
 ⟨estOf ws (s++[c]),by unfold outS onw;exact YAc.mpr ⟨_,YAc.mpr ⟨c,Zcf.mpr ⟨hc,ha⟩,rfl⟩,rfl⟩,Zba _ _⟩
theorem Zg6 {ws ss es:Q22}{m:Q11}(lk:GL m ws)(an:Anti ws)(sl:StemsL ws ss)(en:EndsG ws m ss es){s:Q11}(hs:Stem ws s):s∈es↔Endd ws m s:=by
 constructor
 .intro h
  obtain⟨k,hk,e⟩:=YAh h
  exact⟨k+1,fun x hx ha=>Nat.lt_succ_of_le (ZeV (fun s c hc ha=>Zka hc ha) en.ord k s (YAD.mpr ⟨hk,e⟩) x hx ha)⟩
 .rintro⟨k,hd⟩
  refine YAp fun n=>?_
  obtain⟨x,hl,hx,ha⟩:=ZiD (W:=ws) (m:=m) (es:=es) (N:=ss) (o:=outS ws m) (fun s t ht=>by
   obtain⟨c,hc,ha,he⟩:=Zk2 ht
   exact⟨(sl.iff t).mpr (Zdl he),c,hc,ha,he⟩) (fun s hs=>lk.stemAv an ((sl.iff s).mp hs)) en.stay k s ((sl.iff s).mpr hs) n
  have:=hd x hx ha
  omega
inductive Answ (ws:Q22) (m:Q11):Nat->Q11->Q11->Prop
 | inside {x y:Q11}:FirstP ws x y->Answ ws m 0 x y
 | endless {x y:Q11}:Anti ws->¬Endd ws m []->EndP ws m (Endd ws m) x y->Answ ws m 1 x y
 | long {x:Q11}:Anti ws->Endd ws m []->LF ws m [] x->40<x.length->Answ ws m 2 (x.take 41) []
 | split {x y:Q11}:Anti ws->Endd ws m []->LF ws m [] x->x.length<=40->FirstA ws (Zbf x m) y->Answ ws m 3 x y
 | strip {x:Q11}:Anti ws->Endd ws m []->LF ws m [] x->x.length<=40->(∀w∈Zbf x m,¬Av ws w)->Answ ws m 4 x []
def XL2 (a:Ad)(C:Addr)(f g:Str)(E:XK)(H:Hp)(x y:Q11):Prop:=∀e H2,SameL H H2->TblOk H2 a.t_KS lpos lq->XAny H2 e C (fs2 f g [tx x,tx y])->E (.ref C) (some e) H2
def XL1 (a:Ad)(C:Addr)(f:Str)(E:XK)(H:Hp)(x:Q11):Prop:=∀e H2,SameL H H2->TblOk H2 a.t_KS lpos lq->XAny H2 e C (fs1 f [tx x])->E (.ref C) (some e) H2
theorem FirstC.one {ws:Q22}{m s:Q11}{D:Q11->Prop}{c d:Nat}(h:FirstC ws m D s c)(h':FirstC ws m D s d):c=d:=by
 obtain⟨i,hi,n,mn⟩:=h
 obtain⟨j,hj,n',mn'⟩:=h'
 have e:i=j:=by
  rcases YCT i j with z | z | z
  .exact absurd (mn' i c z hi) n
  .exact z
  .exact absurd (mn j d z hj) n'
 subst e
 rw[hi]at hj
 cases hj
 rfl
theorem Pth.ahead {ws:Q22}{m:Q11}{D:Q11->Prop}{met:Q22}{s g:Q11}(h:Pth ws m D met s g):∀ {met':Q22} {s' g':Q11},Pth ws m D met' s' g'->met.length<=met'.length ->
  (met=met'/\s=s'/\g=g')\/(met.length<met'.length/\∃r,met'=met++s::r):=by
 induction h with
 | nil=>
  intro met' s' g' h' _
  induction h' with
  | nil=>exact .inl ⟨rfl,rfl,rfl⟩
  | @step me se ge ce hp _ _ ih=>
   refine .inr ⟨by rw[YAI,YAN];exact Nat.succ_pos _,?_⟩
   rcases ih (YAg _) with⟨e1,e2,_⟩|⟨_,r,e⟩
   .exact⟨[],by rw[<-e1,<-e2]⟩
   .exact⟨r++[se],by rw[e];simp⟩
 | @step met s g c hp n f ih=>
  intro met' s' g' h' hl
  rw[YAI,YAN]at hl
  induction h' with
  | nil=>simp at hl
  | @step me se ge ce hp' n' f' ih'=>
   rw[YAI,YAN]at hl
   rcases ih hp' (by omega) with⟨e1,e2,e3⟩|⟨lt,r,e⟩
   .subst e1 e2 e3
    have:=f.one f'
    subst this
    exact .inl ⟨rfl,rfl,rfl⟩
   .rcases ih' (by omega) with⟨e1,e2,e3⟩|⟨lt',r',e'⟩
    .refine .inr ⟨by rw[<-e1,YAI,YAI];simp,[],?_⟩
     rw[<-e1,e2]
    .refine .inr ⟨by rw[e'];simp,r'++[se],?_⟩
     rw[e'];simp
theorem EndP.one {ws:Q22}{m:Q11}{D:Q11->Prop}{x y x' y':Q11}(h:EndP ws m D x y)(h':EndP ws m D x' y'):x=x'/\y=y':=by
 obtain⟨met,s,g,j,hp,hj,rfl,rfl⟩:=h
 obtain⟨met',s',g',j',hp',hj',rfl,rfl⟩:=h'
 have key:∀ {met met':Q22} {s s' g g':Q11} {j j':Nat},Pth ws m D met s g->Pth ws m D met' s' g'->met[j]?=some s->met'[j']?=some s'->met.length<=met'.length->g.take j=g'.take j'/\g.drop j=g'.drop j':=fun {met met' s s' g g' j j'} hp hp' hj hj' hl=>by
  rcases hp.ahead hp' hl with⟨e1,e2,e3⟩|⟨_,r,e⟩
  .subst e1 e2 e3
   have jl:=(YAD.mp hj).1
   have:j=j':=by
    have nd:=hp.nd
    refine YAp fun ne=>?_
    obtain⟨a1,a2⟩:=YAD.mp hj
    obtain⟨b1,b2⟩:=YAD.mp hj'
    have pw:=YCB.mp (YDL.mp nd)
    rcases Nat.lt_or_gt_of_ne ne with z | z
    .exact pw j j' a1 b1 z (a2.trans b2.symm)
    .exact pw j' j b1 a1 z (b2.trans a2.symm)
   subst this
   exact⟨rfl,rfl⟩
  .have nd:=hp'.nd
   rw[e,YCD]at nd
   exact absurd rfl (nd.2.2 s (YAM hj) s YAa)
 rcases Nat.le_total met.length met'.length with z | z
 .exact key hp hp' hj hj' z
 .obtain⟨a,b⟩:=key hp' hp hj' hj z
  exact⟨a.symm,b.symm⟩
theorem FirstP.anti {ws:Q22}{x y:Q11}(h:FirstP ws x y):¬Anti ws:=fun an=>by
 obtain⟨i,j,hi,hj,ne,inf,_⟩:=h
 exact ne (an x (YAM hj) y (YAM hi) inf)
theorem FirstA.yes {ws ls:Q22}{w:Q11}(h:FirstA ws ls w):∃w∈ls,Av ws w:=by
 obtain⟨i,hi,ha,_⟩:=h
 exact⟨w,YAM hi,ha⟩
theorem Answ.one {ws:Q22}{m x y x' y':Q11}{t t':Nat}(h:Answ ws m t x y)(h':Answ ws m t' x' y'):t=t'/\x=x'/\y=y':=by
 cases h with
 | inside f=>
  cases h' with
  | inside f'=>exact⟨rfl,f.one f'⟩
  | endless an=>exact absurd an f.anti
  | long an=>exact absurd an f.anti
  | split an=>exact absurd an f.anti
  | strip an=>exact absurd an f.anti
 | endless an n e=>
  cases h' with
  | inside f'=>exact absurd an f'.anti
  | endless _ _ e'=>exact⟨rfl,e.one e'⟩
  | long _ k=>exact absurd k n
  | split _ k=>exact absurd k n
  | strip _ k=>exact absurd k n
 | long an k lf lt=>
  cases h' with
  | inside f'=>exact absurd an f'.anti
  | endless _ n=>exact absurd k n
  | long _ _ lf'=>exact⟨rfl,by rw[lf.one lf'],rfl⟩
  | split _ _ lf' le=>have:=lf.one lf';subst this;omega
  | strip _ _ lf' le=>have:=lf.one lf';subst this;omega
 | split an k lf le fa=>
  cases h' with
  | inside f'=>exact absurd an f'.anti
  | endless _ n=>exact absurd k n
  | long _ _ lf' lt=>have:=lf.one lf';subst this;omega
  | split _ _ lf' _ fa'=>
   have:=lf.one lf'
   subst this
   exact⟨rfl,rfl,fa.one fa'⟩
  | strip _ _ lf' _ no=>
   have:=lf.one lf'
   subst this
   obtain⟨w,hw,ha⟩:=fa.yes
   exact absurd ha (no w hw)
 | strip an k lf le no=>
  cases h' with
  | inside f'=>exact absurd an f'.anti
  | endless _ n=>exact absurd k n
  | long _ _ lf' lt=>have:=lf.one lf';subst this;omega
  | split _ _ lf' _ fa'=>
   have:=lf.one lf'
   subst this
   obtain⟨w,hw,ha⟩:=fa'.yes
   exact absurd ha (no w hw)
  | strip _ _ lf'=>exact⟨rfl,lf.one lf',rfl⟩
theorem ZdT {K:Q44}{H:Hp}{Q:VK}{x y:Q11}(h:∀b:Bool,(b=true↔x=y)->Q (.bl b) H):rEqD K false (tx x) (tx y) H Q:=.inl ⟨rfl,by
 rw[YAX YAF]
 refine h _ ?_
 rw[decide_eq_true_iff,Zc2]⟩
theorem ZgQ (y:Q11):∀n,rpt y n++y=rpt y (n+1)
 | 0=>by show []++y=y++[];rw[YBC,YBX]
 | n+1=>by
  show (y++rpt y n)++y=y++rpt y (n+1)
  rw[YBm,ZgQ y n]
theorem Zet:∀(ws:Q22),(ws.map fun w=>((w.length:Nat):Int)).sum=(((ws.map List.length).sum:Nat):Int)
 | []=>rfl
 | w::ws=>by
  rw[YAj,YAj,List.sum_cons,List.sum_cons,Zet ws]
  omega
def tagT (k:Nat):Q11:=match k with
 | 0=>[105,110,115,105,100,101]
 | 1=>[101,110,100,108,101,115,115]
 | 2=>[108,111,110,103]
 | 3=>[115,112,108,105,116]
 | _=>[115,116,114,105,112]
theorem Zdi {K:Q44}{D:Addr}{m2:List Value}(d:ClsOk K D m2):PySem.W.kitOne K (.type "NoneType") (.ref D)=some false:=by
 obtain⟨cd',e3,e4⟩:=d.cd
 unfold PySem.W.kitOne
 split
 .rename_i z
  have z':Value.type "NoneType"=Value.ref D:=by simpa using z
  cases z'
 .unfold PySem.W.kitCls
  dsimp only
  rw[e3,d.ty]
  simp only[YDP,YCV,beq_self_eq_true,if_true]
  rfl
structure KnD (ls:Q22)(kvs:List (Key×V)):Prop where
 key:∀kv∈kvs,∃u:Q11,kv.1=kTx u
 iff:∀u,(valV kvs (kTx u)).isSome=true↔KnS ls u
 nd:(kvs.map (·.1)).Nodup
theorem Zeg:∀(more kvs:List (Key×V)) (k:Key),(valV (Zaz kvs more) k).isSome=((valV kvs k).isSome || (valV more k).isSome)
 | [],kvs,k=>by show (valV kvs k).isSome=_;rw[show (valV ([]:List (Key×V)) k).isSome=false from rfl,Bool.or_false]
 | p::more,kvs,k=>by
  show (valV (Zaz (putK kvs p.1 p.2) more) k).isSome=_
  rw[Zeg more,ZaS]
  by_cases e:p.1=k
  .rw[ZaX e,YAW e.symm];simp
  .rw[Za0 e,YAX (fun z=>e z.symm)]
theorem Zfu:∀(more kvs:List (Key×V)),(kvs.map (·.1)).Nodup->((Zaz kvs more).map (·.1)).Nodup
 | [],kvs,h=>h
 | p::more,kvs,h=>Zfu more (putK kvs p.1 p.2) (Zch p.2 h)
theorem Zfv:∀(more kvs:List (Key×V)),(∀kv∈kvs,∃u:Q11,kv.1=kTx u)->(∀kv∈more,∃u:Q11,kv.1=kTx u)->∀kv∈Zaz kvs more,∃u:Q11,kv.1=kTx u
 | [],kvs,h,_=>h
 | p::more,kvs,h,h2=>Zfv more (putK kvs p.1 p.2) (fun kv hk=>by
   rcases Zci hk with z | ⟨q,hq,e⟩
   .rw[z];exact h2 p YAa
   .rw[<-e];exact h q hq) (fun kv hk=>h2 kv (YAV _ hk))
theorem KnD.more {ls:Q22}{l:Q11}{kvs more:List (Key×V)}(h:KnD ls kvs)(k:Zkt l more):KnD (ls++[l]) (Zaz kvs more) where
 key:=Zfv more kvs h.key fun kv hk=>let ⟨x,e,_⟩:=k.1.1 kv hk;⟨x,e⟩
 iff:=fun u=>by
  rw[Zeg,Bool.or_eq_true,h.iff,k.1.2,Za3]
  unfold KnS
  constructor
  .rintro (⟨x,hx,hi⟩ | hi)
   .exact⟨x,YBu _ hx,hi⟩
   .exact⟨l,by simp,hi⟩
  .rintro⟨x,hx,hi⟩
   rcases YAe.mp hx with z | z
   .exact .inl ⟨x,z,hi⟩
   .rw[YAO.mp z]at hi;exact .inr hi
 nd:=Zfu more kvs h.nd
theorem ZjC {ls:Q22}{m:Q11}{kvs:List (Key×V)}(ok:KO m)(kn:KnD ls kvs){ss:Q22}(hs:ss.map kTx=kvs.map (·.1)):MissS ls m (ss.flatMap (ZdH kvs m)):=by
 have nds:ss.Nodup:=by
  have:=kn.nd
  rw[<-hs]at this
  exact YCv (fun h e=>h (by rw[e])) (YBb.mp this)
 have hm:m.Pairwise (· < ·):=ZcM ok.k
 have mem:∀u,u∈ss↔KnS ls u:=fun u=>by
  rw[<-kn.iff]
  constructor
  .intro h
   have:kTx u∈kvs.map (·.1):=by rw[<-hs];exact YBQ h
   cases e:valV kvs (kTx u) with
   | some v=>rfl
   | none=>
    obtain⟨kv,hk,ek⟩:=YAc.mp this
    obtain⟨i,hi,ei⟩:=YAh hk
    have:=ZbU (k:=kTx u) (v:=kv.2) (i:=i) kn.nd (YAD.mpr ⟨hi,by rw[ei,<-ek]⟩)
    rw[this]at e;cases e
  .intro h
   obtain⟨kv,hk,ek⟩:=Zby h
   have:kTx u∈ss.map kTx:=by rw[hs,<-ek];exact YBQ hk
   obtain⟨x,hx,ex⟩:=YAc.mp this
   rw[<-ZaG ex];exact hx
 refine⟨?_,fun w=>?_⟩
 .unfold List.Nodup
  rw[List.pairwise_flatMap]
  refine⟨fun u _=>?_,nds.imp fun {u v} huv x hx y hy e=>?_⟩
  .unfold ZdH
   rw[YBb]
   exact YCv (fun {a b} (h:a<b) (e:u++[a]=u++[b])=>YAi h (by simpa using e)) (hm.filter (Zcv kvs u))
  .unfold ZdH at hx hy
   obtain⟨c,_,rfl⟩:=YAc.mp hx
   obtain⟨d,_,rfl⟩:=YAc.mp hy
   exact huv (List.append_inj_left' e rfl)
 .rw[YCH]
  constructor
  .rintro⟨u,hu,hw⟩
   unfold ZdH at hw
   obtain⟨c,hc,rfl⟩:=YAc.mp hw
   obtain⟨hcm,hb⟩:=YBA.mp hc
   unfold Zcv at hb
   rw[YAU,Bool.not_eq_true',List.drop_one]at hb
   refine⟨by simp,by rw[List.dropLast_concat];exact(mem u).mp hu,(kn.iff _).mp hb.2,fun k=>?_,c,hcm,by simp⟩
   rw[(kn.iff _).mpr k]at hb
   exact absurd hb.1 (by decide)
  .rintro⟨_,hi,ht,hn,c,hc,hl⟩
   obtain⟨u,rfl⟩:=List.getLast?_eq_some_iff.mp hl
   rw[List.dropLast_concat]at hi
   refine⟨u,(mem u).mpr hi,?_⟩
   unfold ZdH Zcv
   refine YAc.mpr ⟨c,YBA.mpr ⟨hc,?_⟩,rfl⟩
   rw[YAU,Bool.not_eq_true',List.drop_one]
   exact⟨YAr.mpr fun k=>hn ((kn.iff _).mp k),(kn.iff _).mpr ht⟩
structure LvD (ws:Q22)(m:Q11)(k:Nat)(kvs:List (Key×V)):Prop where
 key:∀kv∈kvs,∃u:Q11,kv.1=kTx u
 iff:∀u,(valV kvs (kTx u)).isSome=true↔Lv ws m k u
 nd:(kvs.map (·.1)).Nodup
structure LvP (ws:Q22)(m:Q11)(k:Nat)(ss:Q22)(i j:Nat)(kvs:List (Key×V)):Prop where
 key:∀kv∈kvs,∃u:Q11,kv.1=kTx u/\Lv ws m (k+1) u
 has:∀(a:Nat) (s:Q11),ss[a]?=some s->∀(b c:Nat),m[b]?=some c->(a<i\/(a=i/\b<j))->Av ws (s++[c])->(valV kvs (kTx (estOf ws (s++[c])))).isSome=true
 nd:(kvs.map (·.1)).Nodup
theorem LvP.start {ws:Q22}{m:Q11}{k:Nat}{ss:Q22}:LvP ws m k ss 0 0 []:=
 ⟨fun kv h=>(by cases h),fun a s _ b c _ h=>(by rcases h with z | ⟨_,z⟩<;>omega),YCY⟩
theorem LvP.put {ws:Q22}{m:Q11}{k:Nat}{ss:Q22}{i j c:Nat}{s v:Q11}{kvs:List (Key×V)}(h:LvP ws m k ss i j kvs)(hs:ss[i]?=some s)(lv:Lv ws m k s)(hc:m[j]?=some c)(ha:Av ws (s++[c]))(he:Zb9 ws (s++[c]) v):LvP ws m k ss i (j+1) (putK kvs (kTx v) (.bl true)) where
 key:=fun kv hm=>by
  rcases Zci hm with z | ⟨p,hp,e⟩
  .exact⟨v,z,.step lv (YAM hc) ha he⟩
  .obtain⟨u,e2,hu⟩:=h.key p hp
   exact⟨u,e▸e2,hu⟩
 has:=fun a t ht b d hd z had=>by
  by_cases q:a<i\/(a=i/\b<j)
  .exact Za6 (.inl (h.has a t ht b d hd q had))
  .have ea:a=i:=by omega
   have eb:b=j:=by omega
   subst ea eb
   rw[hs]at ht
   cases ht
   rw[hc]at hd
   cases hd
   rw[ZdQ (Zba ws (s++[c])) he]
   exact Za6 (.inr rfl)
 nd:=Zch _ h.nd
theorem LvP.pass {ws:Q22}{m:Q11}{k:Nat}{ss:Q22}{i j c:Nat}{s:Q11}{kvs:List (Key×V)}(h:LvP ws m k ss i j kvs)(hs:ss[i]?=some s)(hc:m[j]?=some c)(ha:¬Av ws (s++[c])):LvP ws m k ss i (j+1) kvs:=
 ⟨h.key,fun a t ht b d hd z had=>by
  refine h.has a t ht b d hd ?_ had
  refine YAp fun q=>?_
  have ea:a=i:=by omega
  have eb:b=j:=by omega
  subst ea eb
  rw[hs]at ht
  cases ht
  rw[hc]at hd
  cases hd
  exact ha had,h.nd⟩
theorem LvP.next {ws:Q22}{m:Q11}{k:Nat}{ss:Q22}{i:Nat}{kvs:List (Key×V)}(h:LvP ws m k ss i m.length kvs):LvP ws m k ss (i+1) 0 kvs:=
 ⟨h.key,fun a t ht b d hd z had=>by
  refine h.has a t ht b d hd ?_ had
  have:=(YAD.mp hd).1
  omega,h.nd⟩
theorem LvP.done {ws:Q22}{m:Q11}{k:Nat}{ss:Q22}{kvs:List (Key×V)}(h:LvP ws m k ss ss.length 0 kvs)(hss:∀s,Lv ws m k s->s∈ss):LvD ws m (k+1) kvs where
 key:=fun kv hk=>let ⟨u,e,_⟩:=h.key kv hk;⟨u,e⟩
 iff:=fun u=>by
  constructor
  .intro z
   obtain⟨kv,hk,ek⟩:=Zby z
   obtain⟨v,e,hv⟩:=h.key kv hk
   rw[ZaG (ek.symm.trans e)];exact hv
  .intro lv
   cases lv with
   | @step _ s _ c l hc ha he=>
    obtain⟨a,hal,ea⟩:=YAh (hss s l)
    obtain⟨b,hb,eb⟩:=YAh hc
    have:=h.has a s (YAD.mpr ⟨hal,ea⟩) b c (YAD.mpr ⟨hb,eb⟩) (.inl hal) ha
    rw[ZdQ he (Zba _ _)];exact this
 nd:=h.nd
theorem LvD.len {ws:Q22}{m:Q11}{k:Nat}{kvs:List (Key×V)}{ss:Q22}(h:LvD ws m k kvs)(lk:GL m ws)(hs:ss.map kTx=kvs.map (·.1)):(∀s,s∈ss↔Lv ws m k s)/\ss.Nodup/\ss.length<=8201:=by
 have nds:ss.Nodup:=by
  have:=h.nd
  rw[<-hs]at this
  exact YCv (fun h e=>h (by rw[e])) (YBb.mp this)
 have mem:∀u,u∈ss↔Lv ws m k u:=fun u=>by
  rw[<-h.iff]
  constructor
  .intro hu
   have:kTx u∈kvs.map (·.1):=by rw[<-hs];exact YBQ hu
   obtain⟨kv,hk,ek⟩:=YAc.mp this
   obtain⟨i,hi,ei⟩:=YAh hk
   have:=ZbU (k:=kTx u) (v:=kv.2) (i:=i) h.nd (YAD.mpr ⟨hi,by rw[ei,<-ek]⟩)
   rw[this];rfl
  .intro hu
   obtain⟨kv,hk,ek⟩:=Zby hu
   have:kTx u∈ss.map kTx:=by rw[hs,<-ek];exact YBQ hk
   obtain⟨x,hx,ex⟩:=YAc.mp this
   rw[<-ZaG ex];exact hx
 refine⟨mem,nds,?_⟩
 have:=Zdb nds fun s hs=>((mem s).mp hs).stem
 have k2:=Zgt lk.w41
 have:=lk.len
 omega
theorem LvP.len {ws:Q22}{m:Q11}{k i j:Nat}{ss:Q22}{kvs:List (Key×V)}(h:LvP ws m k ss i j kvs)(lk:GL m ws):kvs.length<=8201:=by
 obtain⟨us,hu⟩:∃us:Q22,us.map kTx=kvs.map (·.1):=Zdj fun kv hk=>let ⟨u,e,_⟩:=h.key kv hk;⟨u,e⟩
 have ul:us.length=kvs.length:=by have:=congrArg List.length hu;simpa using this
 have nds:us.Nodup:=by
  have:=h.nd
  rw[<-hu]at this
  exact YCv (fun h e=>h (by rw[e])) (YBb.mp this)
 have:=Zdb (W:=ws) nds fun s hs=>by
  have:kTx s∈kvs.map (·.1):=by rw[<-hu];exact YBQ hs
  obtain⟨kv,hk,ek⟩:=YAc.mp this
  obtain⟨v,e,hv⟩:=h.key kv hk
  rw[ZaG (ek.symm.trans e)];exact hv.stem
 have k2:=Zgt lk.w41
 have:=lk.len
 omega
theorem LvD.start (ws:Q22)(m:Q11):LvD ws m 0 (Zaz [] [(kTx [],.bl true)]) where
 key:=fun kv h=>by
  rcases Zci (kvs:=[]) h with z | ⟨p,hp,_⟩
  .exact⟨[],z⟩
  .cases hp
 iff:=fun u=>by
  constructor
  .intro z
   obtain⟨kv,hk,ek⟩:=Zby z
   rcases Zci (kvs:=[]) hk with y | ⟨p,hp,_⟩
   .rw[ZaG (ek.symm.trans y)];exact .zero
   .cases hp
  .intro lv
   cases lv
   exact Za6 (kvs:=[]) (.inr rfl)
 nd:=Zch (kvs:=[]) (.bl true) YCY
inductive ShS (ws:Q22) (m:Q11):Nat->Q11->Q11->Prop
 | inside {x y:Q11}:x≠y->x∈ws->y∈ws->Inf x y->ShS ws m 0 x y
 | endless {x y:Q11}:Anti ws->(∀c∈x,c∈m)->(∀c∈y,c∈m)->y≠[]->x.length+y.length<=(ws.map List.length).sum+1->(∀n,Av ws (x++rpt y n))->ShS ws m 1 x y
 | long {x:Q11}:Anti ws->LF ws m [] x->40<x.length->ShS ws m 2 (x.take 41) []
 | split {x y:Q11}:Anti ws->LF ws m [] x->x.length<=40->y∈Zbf x m->Av ws y->ShS ws m 3 x y
 | strip {x:Q11}:Anti ws->LF ws m [] x->x.length<=40->(∀w∈Zbf x m,¬Av ws w)->ShS ws m 4 x []
theorem Pth.mem {ws:Q22}{m:Q11}{D:Q11->Prop}{met:Q22}{s g:Q11}(h:Pth ws m D met s g):∀c∈g,c∈m:=by
 induction h with
 | nil=>intro c hc;cases hc
 | step _ _ f ih=>
  intro d hd
  rcases YAe.mp hd with z | z
  .exact ih d z
  .obtain⟨i,hc,_,_⟩:=f
   rw[YAO.mp z]
   exact(Zcf.mp (YAM hc)).1
theorem ZcY {ws vs:Q22}(p:vs.Perm ws)(w:Q11):Av vs w↔Av ws w:=⟨fun h v hv=>h v (p.mem_iff.mpr hv),fun h v hv=>h v (p.mem_iff.mp hv)⟩
theorem ZcQ {ws vs:Q22}(p:vs.Perm ws)(h:Anti vs):Anti ws:=fun v hv w hw=>h v (p.mem_iff.mpr hv) w (p.mem_iff.mpr hw)
theorem Zgm {ws vs:Q22}{m s x:Q11}(p:vs.Perm ws)(h:LF vs m s x):LF ws m s x:=
 ⟨h.mem,(ZcY p _).mp h.av,fun y hy ha=>h.max y hy ((ZcY p _).mpr ha),fun y hy ha=>h.fst y hy ((ZcY p _).mpr ha)⟩
theorem Answ.sh {ws vs:Q22}{m x y:Q11}{k:Nat}(h:Answ vs m k x y)(p:vs.Perm ws)(lk:GL m ws):ShS ws m k x y:=by
 cases h with
 | inside f=>
  obtain⟨i,j,hi,hj,ne,inf,_⟩:=f
  exact .inside ne (p.mem_iff.mp (YAM hj)) (p.mem_iff.mp (YAM hi)) inf
 | endless an _ e=>
  obtain⟨met,s,g,j,hp,hj,rfl,rfl⟩:=e
  have lk':=lk.perm p
  have a0:Av vs []:=fun v hv hi=>lk'.ne v hv (YAw.mp (by simpa using hi.len))
  have gl:=hp.len
  have jl:=(YAD.mp hj).1
  have r:=hp.run a0
  have r1:=r.2 j s hj
  refine .endless (ZcQ p an) (fun c hc=>hp.mem c (YBF hc)) (fun c hc=>hp.mem c (YCX hc)) (fun z=>?_) ?_ (fun n=>(ZcY p _).mp (Zgo r1 (by rw[YCP];exact r.1) n))
  .have:=congrArg List.length z
   rw[YAn,YCl]at this
   omega
  .have h1:=Zdb hp.nd hp.stem.2
   have h2:(vs.map List.length).sum=(ws.map List.length).sum:=(p.map _).sum_nat
   rw[h2]at h1
   have:(g.take j).length+(g.drop j).length=g.length:=by rw[<-YAI,YCP]
   omega
 | long an _ lf lt=>exact .long (ZcQ p an) (Zgm p lf) lt
 | split an _ lf le fa=>
  obtain⟨i,hi,ha,_⟩:=fa
  exact .split (ZcQ p an) (Zgm p lf) le (YAM hi) ((ZcY p _).mp ha)
 | strip an _ lf le no=>exact .strip (ZcQ p an) (Zgm p lf) le fun w hw ha=>no w hw ((ZcY p _).mpr ha)
theorem ShS.cut {ws:Q22}{m x y:Q11}{k:Nat}(h:ShS ws m k x y):(k=0/\x≠y/\x∈ws/\y∈ws/\Inf x y)\/(k=1/\Anti ws/\(∀c∈x,c∈m)/\(∀c∈y,c∈m)/\y≠[]/\x.length+y.length<=(ws.map List.length).sum+1/\∀n,Av ws (x++rpt y n)) \/
  ∃z,Anti ws/\LF ws m [] z/\tagT k≠tagT 1/\((k=2/\40<z.length/\x=z.take 41)\/(z=x/\x.length<=40/\((k=3/\y∈Zbf x m/\Av ws y)\/(k=4/\∀w∈Zbf x m,¬Av ws w)))):=by
 cases h with
 | inside a b c d=>exact .inl ⟨rfl,a,b,c,d⟩
 | endless a b c d e f=>exact .inr (.inl ⟨rfl,a,b,c,d,e,f⟩)
 | @long z a b c=>exact .inr (.inr ⟨z,a,b,by decide,.inl ⟨rfl,c,rfl⟩⟩)
 | @split a b c d e f g=>exact .inr (.inr ⟨_,c,d,by decide,.inr ⟨rfl,e,.inl ⟨rfl,f,g⟩⟩⟩)
 | @strip a b c d e=>exact .inr (.inr ⟨_,b,c,by decide,.inr ⟨rfl,d,.inr ⟨rfl,e⟩⟩⟩)
structure LB (m:Q11)(ws:Q22):Prop where
 gl:GL m ws
 n61:ws.length<=61
 w12:∀w∈ws,w.length<=12
theorem LB.perm {m:Q11}{ws vs:Q22}(h:LB m ws)(p:vs.Perm ws):LB m vs:=⟨h.gl.perm p,by rw[p.length_eq];exact h.n61,fun w hw=>h.w12 w (p.mem_iff.mp hw)⟩
theorem LB.sub {m:Q11}{ws vs:Q22}(h:LB m ws)(s:vs.Sublist ws):LB m vs:=
 ⟨⟨h.gl.nd.sublist s,YAK s.length_le h.gl.len,fun w hw=>h.gl.ne w (s.mem hw),fun w hw=>h.gl.w41 w (s.mem hw),fun w hw=>h.gl.wm w (s.mem hw)⟩,YAK s.length_le h.n61,fun w hw=>h.w12 w (s.mem hw)⟩
theorem LB.nil {m:Q11}:LB m []:=⟨⟨YCY,YAg _,fun w h=>(by cases h),fun w h=>(by cases h),fun w h=>(by cases h)⟩,YAg _,fun w h=>(by cases h)⟩
theorem LB.snoc {m v:Q11}{ws:Q22}(h:LB m ws)(hn:ws.length<=60)(nv:v∉ws)(ne:v≠[])(v12:v.length<=12)(vm:∀c∈v,c∈m):LB m (ws++[v]):=by
 have hl:(ws++[v]).length=ws.length+1:=by rw[YAI];rfl
 have k:∀(P:Q11->Prop),(∀w∈ws,P w)->P v->∀w∈ws++[v],P w:=fun P a b w hw=>by
  rcases YAe.mp hw with z | z
  .exact a w z
  .rw[YAO.mp z];exact b
 refine⟨⟨?_,by omega,k _ h.gl.ne ne,k _ h.gl.w41 (by omega),k _ h.gl.wm vm⟩,by omega,k _ h.w12 v12⟩
 rw[YCD]
 refine⟨h.gl.nd,by simp,fun a ha b hb e=>?_⟩
 rw[YAO.mp hb]at e
 exact nv (e▸ha)
theorem Zdn {xs:List V}{lo hi:Option Int}:cutV xs lo hi=cut xs lo hi:=rfl
theorem Zbb {K:Q44}{H:Hp}{Q:VK}{x y:Int}(h:∀b:Bool,(b=true↔x=y)->Q (.bl b) H):rEqD K false (.int x) (.int y) H Q:=.inl ⟨rfl,by
 rw[YAX YAF]
 refine h _ ?_
 rw[decide_eq_true_iff]
 exact⟨fun e=>by injection e,fun e=>by rw[e]⟩⟩
theorem Zmt {K:Q44}{H:Hp}{p:Bool}{x y:Int}{B C:Hp->Prop}(hB:B H)(hC:p=false->x≠y->C H):if p=true then (if True then B H else C H) else rEqD K false (.int x) (.int y) H fun v H'=>∃k,v=.bl k/\if k=true then B H' else C H':=by
 cases p with
 | true=>rw[YAW rfl,YAW trivial];exact hB
 | false=>
  rw[YAX YAF]
  refine Zbb fun k hk=>⟨k,rfl,?_⟩
  cases k with
  | true=>rw[YAW rfl];exact hB
  | false=>rw[YAX YAF];exact hC rfl fun e=>YAF (hk.mpr e)
theorem ZcV {K:Q44}{H:Hp}{Q:VK}{T:Hp->Prop}{way:Int}{p:Addr}{v:Q11}{rs:Q22}(hp:SqL K H p (rs.map tx))(hr:Q (.ref p) H)(ht:v≠[]->v∉rs->T H):
  rEqD K false (.int way) (.int 0) H fun x H'=>∃k,x=.bl k/\if k=true then (if True then Q (.ref p) H' else T H') else rEqD K false (tx v) (tx []) H' fun x H'=>∃k,x=.bl k/\if k=true then (if True then Q (.ref p) H' else T H') else rIn K false (tx v) (.ref p) H' fun x H'=>∃k,x=.bl k/\if k=true then Q (.ref p) H' else T H':=by
 refine Zbb fun k _=>⟨k,rfl,?_⟩
 cases k with
 | true=>rw[YAW rfl,YAW trivial];exact hr
 | false=>
  rw[YAX YAF]
  refine ZdT fun k2 hk2=>⟨k2,rfl,?_⟩
  cases k2 with
  | true=>rw[YAW rfl,YAW trivial];exact hr
  | false=>
   rw[YAX YAF]
   refine⟨p,_,rfl,.inl hp,rfl,Za4 _,?_⟩
   rw[YAX YAF,Zc6]
   refine⟨_,rfl,?_⟩
   by_cases e:v∈rs
   .rw[YAW (decide_eq_true e)];exact hr
   .rw[YAX (fun z=>e (of_decide_eq_true z))]
    exact ht (fun z=>YAF (hk2.mpr z)) e
theorem Zg0 {ls ws:Q22}{m:Q11}(h:MissS ls m ws)(m3:m.length<=3)(l2:ls.length<=2)(hl:∀l∈ls,l.length<=9)(hm:∀l∈ls,∀c∈l,c∈m):LB m ws:=by
 have c:=h.count hl
 have c60:ws.length<=60:=YAK c (YAK (Nat.mul_le_mul l2 (Nat.mul_le_mul_right _ m3)) (by decide))
 exact⟨⟨h.nd,by omega,fun w hw=>((h.iff w).mp hw).1,fun w hw=>by have:=h.len hl hw;omega,fun w hw=>h.mem hm hw⟩,by omega,fun w hw=>by have:=h.len hl hw;omega⟩
theorem KO.three {m:Q11}(h:KO m):KO (m.take 3):=by
 have p:=ZmR h.k
 have h1:=h.m1
 have h4:=h.m4
 have le:∀c∈m,c∈LET:=fun c hc=>by
  have hk:=h.k
  unfold isk at hk
  simp only[YAU]at hk
  have:=YAs.mp hk.1.2 c hc
  simpa using this
 have l3:(m.take 3).length=min 3 m.length:=YAd
 exact⟨Zkc (by omega) (by omega) (fun c hc=>le c (YBF hc)) (p.2.2.sublist (YDW 3 m)),by omega,by omega⟩
def ZnN (K:Q44)(a:Ad):Sp:=fun vs H Q _=>∃l m,vs=[tx l,tx m]/\l.length<=1000/\∀H2,Same H H2->Q (.bl (l.all fun c=>m.contains c)) H2
def ZnL (K:Q44)(a:Ad):Sp:=fun vs H Q _=>∃l,vs=[tx l]/\l.length<=1000/\∀H2,Same H H2->Q (.bl (isk l)) H2
def Zn6 (K:Q44)(a:Ad):Sp:=fun vs H Q _=>∃l m most,vs=[tx l,tx m,.int most]/\l.length<=1000/\∀H2,Same H H2->Q (.bl (isw l m most)) H2
def ZnT (K:Q44)(a:Ad):Sp:=fun vs H Q _=>∃l,vs=[tx l]/\l.length<=1000/\isk l=true/\∀H2,Same H H2->Q .non H2
def ZnQ (K:Q44)(a:Ad):Sp:=fun vs H Q _=>∃l m most,vs=[tx l,tx m,.int most]/\l.length<=1000/\isw l m most=true/\∀H2,Same H H2->Q .non H2
def ZnC (K:Q44)(a:Ad):Sp:=fun vs H Q _=>∃(l:Q11) (n:Nat),vs=[tx l,.int n]/\l.length<=200/\n<=l.length+1/\l.length<n+63/\∀p H2,Same H H2->H p=none->H2 p=some (.lst ((wordsOf l n).map tx))->Q (.ref p) H2
def ZnB (K:Q44)(a:Ad):Sp:=fun vs H Q _=>∃(b1 b2:Addr) (sh st:Q22) (m:Q11),vs=[.ref b1,.ref b2,tx m]/\H b1=some (.lst (sh.map tx))/\H b2=some (.lst (st.map tx))/\sh.length<=100/\m.length<=4/\(∀w∈sh,w.length<=100)/\∀p H2,Same H H2->H p=none->H2 p=some (.lst ((ZfB sh st m).map tx))->Q (.ref p) H2
def ZnS (K:Q44)(a:Ad):Sp:=fun vs H Q _=>∃(p dx:Addr) (l m:Q11),vs=[.ref p,tx l,tx m]/\H p=some (.ins a.c_LF dx [])/\∀H2,Zeq a.c_LF H2 p l m->(∀b o,H b=some o->b≠p->H2 b=some o)->Q .non H2
def ZnU (K:Q44)(a:Ad):Sp:=fun vs H Q _=>∃(p dx:Addr) (l m:Q11),vs=[.ref p,tx l,tx m]/\H p=some (.ins a.c_LF dx [])/\StripOk l m/\∀H2,Zeq a.c_LF H2 p l m->(∀b o,H b=some o->b≠p->H2 b=some o)->Q .non H2
def ZnY (K:Q44)(a:Ad):Sp:=fun vs H Q _=>∃(p:Addr) (l m:Q11) (n:Nat),vs=[.ref p,.int n]/\Zeq a.c_LF H p l m/\Q (tx l) H
def ZnV (K:Q44)(a:Ad):Sp:=fun vs H Q _=>∃(p:Addr) (l m:Q11) (n:Nat),vs=[.ref p,.int n]/\Zeq a.c_LF H p l m/\StripOk l m/\n<=l.length+1/\∀q H2,Same H H2->H q=none->H2 q=some (.lst ((wordsOf l n).map tx))->Q (.ref q) H2
def ZnW (K:Q44)(a:Ad):Sp:=fun vs H Q _=>∃(p:Addr) (l m:Q11),vs=[.ref p]/\Zeq a.c_LF H p l m/\StripOk l m/\Q (.int ((l.length:Nat)+1)) H
def ZnX (K:Q44)(a:Ad):Sp:=fun vs H Q _=>∃(p:Addr) (l m:Q11),vs=[.ref p]/\Zeq a.c_LF H p l m/\StripOk l m/\∀q H2,Same H H2->H2 q=some (.lst ((Zbf l m).map tx))->Q (.ref q) H2
def Znt (K:Q44)(a:Ad):Sp:=fun vs H Q _=>∃c k,vs=[.int c,.int k]/\∀r:Int,0<=r->Q (.int r) H
def Znx (K:Q44)(a:Ad):Sp:=fun vs H Q _=>∃(b:Addr) (ns:List Int) (k:Int),vs=[.ref b,.int k]/\SqL K H b (ns.map V.int)/\0<=k/\∀r:Int,Q (.int r) H
def ZnE (K:Q44)(a:Ad):Sp:=fun vs H Q _=>∃c:Int,vs=[.int c]/\∀m:Q11,isk m=true->1<=m.length->m.length<=4->Q (tx m) H
def ZnM (K:Q44)(a:Ad):Sp:=fun vs H Q _=>∃(p:Addr) (ws:Q22),vs=[.ref p]/\H p=some (.lst (ws.map tx))/\(∀w∈ws,w.length<=1000)/\ws.length<64/\TblOk H a.t_KS lpos lq/\∀(ws':Q22) (r:Addr) (H2:Hp),ws'.Perm ws->ws'.Pairwise (fun a b=>¬BefW b a)->SameL H H2->TblOk H2 a.t_KS lpos lq->H r=none->H2 r=some (.lst (ws'.map tx))->Q (.ref r) H2
def ZnZ (K:Q44)(a:Ad):Sp:=fun vs H Q _=>∃(b:Addr) (ws:Q22) (w:Q11),vs=[.ref b,tx w]/\H b=some (.lst (ws.map tx))/\ws.length<=1000/\w.length<=1000/\∀H2,Same H H2->Q (.bl (avB ws w)) H2
def Znr (K:Q44)(a:Ad):Sp:=fun vs H Q _=>∃(b:Addr) (ws:Q22),vs=[.ref b]/\H b=some (.lst (ws.map tx))/\ws.length<=200/\(∀w∈ws,w.length<=41)/\∀(p:Addr) (kvs:List (Key×V)) (H2:Hp),Same H H2->H p=none->H2 p=some (.dK kvs)->StemD ws kvs->Q (.ref p) H2
def ZnF (K:Q44)(a:Ad):Sp:=fun vs H Q _=>∃(p:Addr) (kvs:List (Key×V)) (ws:Q22) (u:Q11),vs=[.ref p,tx u]/\Rd H p (.dK kvs)/\StemD ws kvs/\u.length<=1000/\∀e H2,Same H H2->Zb9 ws u e->Q (tx e) H2
def ZnJ (K:Q44)(a:Ad):Sp:=fun vs H Q _=>∃(b:Addr) (ws:Q22) (c:Int),vs=[.ref b,.int c]/\H b=some (.lst (ws.map tx))/\ws.length<64/\∀(q:Addr) (ls:Q22) (H2:Hp),Same H H2->H q=none->H2 q=some (.lst (ls.map tx))->ls.Perm ws->Q (.ref q) H2
def ZnA (K:Q44)(a:Ad):Sp:=fun vs H Q _=>∃(c:Int) (d:Bool) (m:Q11) (n:Int),vs=[.int c,.bl d,tx m,.int n]/\1<=m.length/\m.length<=4/\0<=n/\n<=60/\∀l:Q11,l.length=n.toNat->(∀x∈l,x∈m)->Q (tx l) H
def ZnO (K:Q44)(a:Ad):Sp:=fun vs H Q _=>∃(l:Q11),vs=[tx l]/\l.length<=40/\∀(p:Addr) (kvs:List (Key×V)) (H2:Hp),Same H H2->H p=none->H2 p=some (.dK kvs)->Zkt l kvs->Q (.ref p) H2
def ZnR (K:Q44)(a:Ad):Sp:=fun vs H Q _=>∃(b:Addr) (ws:Q22) (m:Q11),vs=[.ref b,tx m]/\H b=some (.lst (ws.map tx))/\KO m/\GL m ws/\∀H2,Same H H2->Q .non H2
def Zno (K:Q44)(a:Ad):Sp:=fun vs H Q _=>∃(b:Addr) (ws:Q22) (m:Q11),vs=[.ref b,tx m]/\H b=some (.lst (ws.map tx))/\KO m/\GL m ws/\∀(p:Addr) (kw:List (Key×V)) (ss:Q22) (H2:Hp),Same H H2->H p=none->H2 p=some (.dK kw)->WaysL H2 p kw ws m ss->StemsL ws ss->Q (.ref p) H2
def Znz (K:Q44)(a:Ad):Sp:=fun vs H Q _=>∃(p:Addr) (kw:List (Key×V)) (ws ss:Q22) (m:Q11),vs=[.ref p]/\H p=some (.dK kw)/\WaysL H p kw ws m ss/\StemsL ws ss/\KO m/\GL m ws/\∀(q:Addr) (es:Q22) (H2:Hp),Same H H2->H q=none->H2 q=some (.lst (es.map tx))->EndsG ws m ss es->Q (.ref q) H2
def Zn3 (K:Q44)(a:Ad):Sp:=fun vs H Q _=>∃(p q:Addr) (kw:List (Key×V)) (ws ss es:Q22) (m:Q11),vs=[.ref p,.ref q]/\H p=some (.dK kw)/\WaysL H p kw ws m ss/\StemsL ws ss/\KO m/\GL m ws/\Anti ws/\H q=some (.lst (es.map tx))/\EndsG ws m ss es/\[]∈es/\∀x H2,Same H H2->LF ws m [] x->Q (tx x) H2
def ZnI (K:Q44)(a:Ad):Sp:=fun vs H Q E=>∃(b:Addr) (ws:Q22) (m:Q11),vs=[.ref b]/\H b=some (.lst (ws.map tx))/\GL m ws/\(Anti ws->∀H2,Same H H2->Q .non H2)/\∀x y,FirstP ws x y->X2 a.c_K8 "one" "other" E H x y
def Zn0 (K:Q44)(a:Ad):Sp:=fun vs H Q E=>∃(b:Addr) (ws:Q22) (m:Q11) (x:Q11),vs=[.ref b,tx m,tx x]/\H b=some (.lst (ws.map tx))/\GL m ws/\StripOk x m/\((∀w∈Zbf x m,¬Av ws w)->∀H2,Same H H2->Q .non H2)/\∀w,FirstA ws (Zbf x m) w->X2 a.c_LG "one" "other" E H x w
def ZnP (K:Q44)(a:Ad):Sp:=fun vs H Q E=>∃(p q:Addr) (kw:List (Key×V)) (ws ss es:Q22) (m:Q11),vs=[.ref p,.ref q]/\H p=some (.dK kw)/\WaysL H p kw ws m ss/\StemsL ws ss/\KO m/\GL m ws/\Anti ws/\H q=some (.lst (es.map tx))/\EndsG ws m ss es/\[]∉es/\∀x y,EndP ws m (fun s=>s∈es) x y->X2 a.c_KY "head" "lap" E H x y
def ZnH (K:Q44)(a:Ad):Sp:=fun vs H Q E=>∃(b:Addr) (ws:Q22) (m:Q11),vs=[.ref b,tx m]/\H b=some (.lst (ws.map tx))/\KO m/\GL m ws/\TblOk H a.t_KS lpos lq/\∀ws',ws'.Perm ws->ws'.Pairwise BefW->(∀x,Answ ws' m 4 x []->∀H2,SameL H H2->TblOk H2 a.t_KS lpos lq->Q (tx x) H2)/\(∀x y,Answ ws' m 0 x y->XL2 a a.c_K8 "one" "other" E H x y)/\(∀x y,Answ ws' m 1 x y->XL2 a a.c_KY "head" "lap" E H x y)/\(∀x,Answ ws' m 2 x []->XL1 a a.c_KZ "word" E H x)/\∀x y,Answ ws' m 3 x y->XL2 a a.c_LG "one" "other" E H x y
def Zn2 (K:Q44)(a:Ad):Sp:=fun vs H Q _=>∃(x y:Q11),vs=[tx x,tx y]/\x.length<=9000/\y.length<=9000/\Q (.bl (infB x y)) H
def Zn5 (K:Q44)(a:Ad):Sp:=fun vs H Q _=>∃(b:Addr) (ws:Q22) (w:Q11),vs=[.ref b,tx w]/\H b=some (.lst (ws.map tx))/\ws.length<=1000/\(∀p∈ws,p.length<=9000)/\w.length<=9000/\∀H2,Same H H2->Q (.bl (avB ws w)) H2
def Znp (K:Q44)(a:Ad):Sp:=fun vs H Q _=>∃(m w:Q11),vs=[tx m,tx w]/\w.length<=1000/\∀H2,Same H H2->Q (.bl (w.all fun c=>m.contains c)) H2
def Zn4 (K:Q44)(a:Ad):Sp:=fun vs H Q _=>∃(b:Addr) (ws:Q22),vs=[.ref b]/\H b=some (.lst (ws.map tx))/\ws.length<=1000/\(∀p∈ws,p.length<=9000)/\∀z H2,Same H H2->(z=true↔¬Anti ws)->Q (.bl z) H2
def Znq (K:Q44)(a:Ad):Sp:=fun vs H Q _=>∃(b:Addr) (ws:Q22),vs=[.ref b]/\H b=some (.lst (ws.map tx))/\ws.length<=1000/\∀(p:Addr) (kvs:List (Key×V)) (H2:Hp),Same H H2->H p=none->H2 p=some (.dK kvs)->(∀u,(valV kvs (kTx u)).isSome=true↔u∈ws)->Q (.ref p) H2
def Zny (K:Q44)(a:Ad):Sp:=fun vs H Q _=>∃(b:Addr) (ws:Q22),vs=[.ref b]/\H b=some (.lst (ws.map tx))/\ws.length<=200/\(∀w∈ws,w.length<=41)/\∀(p:Addr) (kvs:List (Key×V)) (H2:Hp),Same H H2->H p=none->H2 p=some (.dK kvs)->StemD ws kvs->Q (.ref p) H2
def ZnK (K:Q44)(a:Ad):Sp:=fun vs H Q _=>∃(b:Addr) (ws:Q22) (m x y:Q11),vs=[.ref b,tx m,tx x,tx y]/\H b=some (.lst (ws.map tx))/\GL m ws/\x.length<=900/\y.length<=900/\(∀c∈x,c∈m)/\(∀c∈y,c∈m)/\y≠[]/\x.length+y.length<=(ws.map List.length).sum+1/\(∀n,Av ws (x++rpt y n))/\∀H2,Same H H2->Q (.bl true) H2
def ZnD (K:Q44)(a:Ad):Sp:=fun vs H Q _=>∃(b:Addr) (ws:Q22) (m x y:Q11),vs=[.ref b,tx m,tx x,tx y]/\H b=some (.lst (ws.map tx))/\GL m ws/\KO m/\x.length<=100/\y.length<=100/\(∀c∈x,c∈m)/\(∀c∈y,c∈m)/\¬Inf y x/\Av ws x/\Av ws y/\(∀c∈m,¬Av ws (c::x)/\¬Av ws (x++[c]))/\∀H2,Same H H2->Q (.bl true) H2
def ZnG (K:Q44)(a:Ad):Sp:=fun vs H Q _=>∃(b:Addr) (ws:Q22) (m:Q11),vs=[.ref b,tx m]/\H b=some (.lst (ws.map tx))/\KO m/\GL m ws/\TblOk H a.t_KS lpos lq/\∀(k:Nat) (x y:Q11) (ws':Q22) (t:Addr) (H2:Hp),ws'.Perm ws->ws'.Pairwise BefW->Answ ws' m k x y->SameL H H2->TblOk H2 a.t_KS lpos lq->H2 t=some (.tup [tx (tagT k),tx x,tx y])->Q (.ref t) H2
def Zn1 (K:Q44)(a:Ad):Sp:=fun vs H Q _=>∃(b:Addr) (ls:Q22) (m:Q11),vs=[.ref b,tx m]/\H b=some (.lst (ls.map tx))/\KO m/\ls.length<=2/\(∀l∈ls,l.length<=40)/\∀(q:Addr) (ws:Q22) (H2:Hp),Same H H2->H q=none->H2 q=some (.lst (ws.map tx))->MissS ls m ws->Q (.ref q) H2
def Znw (K:Q44)(a:Ad):Sp:=fun vs H Q _=>∃(pf ph pl:Addr) (kf kh kl:List (Key×V)) (ws:Q22) (m:Q11) (k:Nat),vs=[.ref pf,.ref ph,tx m,.ref pl]/\H pf=some (.dK kf)/\H ph=some (.dK kh)/\H pl=some (.dK kl)/\pf≠pl/\ph≠pl/\(∀u,(valV kf (kTx u)).isSome=true↔u∈ws)/\StemD ws kh/\LvD ws m k kl/\KO m/\GL m ws/\Anti ws/\∀(p:Addr) (kvs:List (Key×V)) (H2:Hp),Same H H2->H p=none->H2 p=some (.dK kvs)->LvD ws m (k+1) kvs->Q (.ref p) H2
def Znu (K:Q44)(a:Ad):Sp:=fun vs H Q _=>∃(b:Addr) (ws:Q22) (m x:Q11) (most:Nat),vs=[.ref b,tx m,.int (most:Nat)]/\H b=some (.lst (ws.map tx))/\KO m/\GL m ws/\Anti ws/\LF ws m [] x/\x.length<=most/\most<=8300/\∀H2,Same H H2->Q (.int (x.length:Nat)) H2
def Zns (K:Q44)(a:Ad):Sp:=fun vs H Q _=>∃(b t:Addr) (ws:Q22) (m:Q11) (k:Nat) (x y:Q11),vs=[.ref b,tx m,.ref t]/\H b=some (.lst (ws.map tx))/\KO m/\GL m ws/\(ws.map List.length).sum<=800/\ShS ws m k x y/\H t=some (.tup [tx (tagT k),tx x,tx y])/\∀H2,Same H H2->Q (.bl true) H2
def Zn7 (K:Q44)(a:Ad):Sp:=fun vs H Q _=>∃(b:Addr) (ws:Q22) (m:Q11) (c:Int),vs=[.ref b,tx m,.int c]/\H b=some (.lst (ws.map tx))/\KO m/\LB m ws/\∀(q:Addr) (ws':Q22) (H2:Hp),Same H H2->H2 q=some (.lst (ws'.map tx))->LB m ws'->Q (.ref q) H2
def Znv (K:Q44)(a:Ad):Sp:=fun vs H Q _=>∃(b:Addr) (ns:List Int) (m:Q11),vs=[.ref b,tx m]/\SqL K H b (ns.map V.int)/\ns.length<=63/\KO m/\m.length<=3/\∀(q:Addr) (ws:Q22) (H2:Hp),Same H H2->H q=none->H2 q=some (.lst (ws.map tx))->LB m ws->Q (.ref q) H2
def spLaw (K:Q44)(tb:Str->Addr×Addr):Sp:=fun vs H Q _=>∃(b:Addr) (ns:List Int),vs=[.ref b]/\SqL K H b (ns.map V.int)/\ns.length<=63/\TblOk H (tb "in_order").2 lpos lq/\∀H2,Q (.bl true) H2
section
variable {P:Program}{w:World}{K:Q44}{mg:Str->Option Value}{base:Heap}{a:Ad}{tb:Str->Addr×Addr}
local macro_rules | `(tactic| walk_at "r0") => `(tactic| simp only [tSeq, tAsg, tPar, tOp, tUn, tVar, tC, Zcx, gNil, Zm2, tRet, Znl, tIfS, ZlO, tB, tNot, tAnd, tOr, Zl4, tOrV, ZlQ, tIf, ZlV, tNil, Zl2, Zos, Zop, Zor, Zoq, Zou, ZkC, tCB, Znk, Zl9, Zj2, tBM, tBM0, tSl, ZlP, tNoPart, tNext, L2.start, cxK, bxK, cxPr, cxWo, suxK, Znn, Znm, Zj4, tTry, Zj6, Zmb, Zmc, sIfx, hAs, Zm1, hNone, unE, Zj3, ZlW, ZgM, Zot, Zmk, ZmZ, ZmY, Zlm, iTup, Zo9, ZmX, gTup, pick, Option.bind_some, Option.bind_none, Option.join_some, Option.join_none, List.map_cons, List.map_nil, List.length_cons, List.length_nil, Nat.zero_add, Nat.reduceAdd, Nat.reduceSub, List.replicate_succ, List.replicate_zero, List.cons_append, List.nil_append, List.append_nil, List.getElem?_cons_zero, List.getElem?_cons_succ, List.set_cons_zero, List.set_cons_succ, q_I, q_I0, q_U, q_T, q_b, q_var, q_var', iZip, ZkV, ZlT, Zkz, tFld, sFld, sNo, tAug, Zl3, Zmf, ZlR, ZlS, tDNewK, Zmd, tDIn, Zh6, ZlX, Zoo, Zma, Zm0, ZkA, Zl1, Zl0, ipI, Zky, tListVT, tDSetT, ZlZ, ZlU, Zme, ZlY, Zj5, rDct, ZmW, ZlN, Zh5])
local macro_rules | `(tactic| walk_at "r1") => do
 let some t <-Lean.Macro.expandMacro? (<-`(tactic| walk_at "r0")) | Lean.Macro.throwUnsupported
 match (⟨t⟩:Lean.TSyntax `tactic) with
 | `(tactic| simp only[$l,*])=>let d:=⟨l.elemsAndSeps⟩;`(tactic| dsimp only[$d,*])
 | _=>Lean.Macro.throwUnsupported
local macro_rules | `(tactic| walk_at "rd") => `(tactic| first | (walk_at "r1"; try walk_at "r0") | walk_at "r0")
local macro_rules | `(tactic| walk_at "sc") => `(tactic| exact ⟨rfl, rfl, rfl, by decide +kernel, rfl, by decide +kernel, by decide +kernel⟩)
local macro_rules | `(tactic| walk_at "rd?") => `(tactic| (try walk_at "rd"))
theorem Zod:FnScope ["text","letters"] ["text","letters"] (Zaj s_KR):=by walk_at "sc"
theorem ZmC (T:TL K mg base a tb):FnOk P w K mg base CX0 1 a.f_KR a.d_KR ["text","letters"] (ZnN K a):=by
 refine T.f_KR.ok Zod (fun vs H Q E h=>?_) (fun cdv A outer s H vs Q E hr h=>?_)
 .obtain⟨_,_,rfl,_⟩:=h;rfl
 .have hu64:=hr.units
  have hu1:=ZaH hr
  obtain⟨l,m,rfl,hl,q⟩:=h
  refine⟨_,(Zae (Zar (Zam (Zi3 rfl) rfl T.z_all Znd (Zaa (Za9 (N:=["sign","letters"]) (ix:=[none,some 1]) rfl (ZaT rfl) rfl (ZbZ (pv 0)) (fun _ _ _ _=>(Zaq (i:=0) (show (["sign","letters"]:List Str).Nodup from by decide +kernel) rfl (Or.inl rfl) (Or.inr rfl))) (fun _ _ _ _=>Zbk) (fun _ _ _ _=>(ZaV Zht (pv 0) (pv 1) rfl))) Zac)))),?_⟩
  walk_at "rd"
  refine⟨l,rfl,CompRun.text (fun _=>true) (fun i=>.bl (decide (l.getD i 0∈m))) hl ?_ ?_ ?_⟩
  .intro i H1 Q1 hi s1 q1;exact q1 H1 (Same.refl _)
  .intro i H1 Q1 hi _ s1 q1
   walk_at "rd"
   exact⟨_,m,rfl,rfl,q1 H1 (Same.refl _)⟩
  .intro p H1 s1 n1 l1
   refine⟨p,(List.range l.length).map (fun i=>decide (l.getD i 0∈m)),rfl,?_,?_⟩
   .rw[l1,filter_all,YBB];rfl
   .rw[all_range];exact q H1 s1
theorem Zoc:FnScope ["words"] ["words"] (Zaj s_KS):=by walk_at "sc"
theorem ZoS (T:TL K mg base a tb):FnOk P w K mg base CX0 1 a.f_KS a.d_KS ["words"] (ZnM K a):=by
 refine T.f_KS.okC T.cd_KS Zoc (fun vs H Q E h=>?_) (fun A outer s H vs Q E hr h=>?_)
 .obtain⟨_,_,rfl,_⟩:=h;rfl
 .have hu64:=hr.units
  have hu1:=ZaH hr
  obtain⟨p,ws,rfl,hp,hw,h64,tk,q⟩:=h
  refine⟨_,(Zae (Zar (Zip (q:="in_order.<locals>.<lambda>") hr T.L_in_order rfl rfl T.z_sorted T.z_len (Zaa (pv 0) Zac) rfl rfl (by kernel_rfl) ⟨rfl,rfl,rfl,rfl,rfl,rfl⟩ (fun _ _ _ _ _=>.of_eq rfl)))),?_⟩
  have sz:∀k:Nat,k<=1000->k<=sizeLine:=fun k h=>YAK h (by rw[sizeLine_eq];decide)
  walk_at "rd"
  exact⟨p,ws,rfl,hp,fun w h=>sz _ (hw w h),h64,tk,fun ws' r H2 a b c=>q ws' r H2 a b c.1⟩
theorem Zoa:FnScope ["text","length"] ["text","length"] (Zaj s_LE):=by walk_at "sc"
theorem ZoK (T:TL K mg base a tb):FnOk P w K mg base CX0 1 a.f_LE a.d_LE ["text","length"] (ZnC K a):=by
 refine T.f_LE.ok Zoa (fun vs H Q E h=>?_) (fun cdv A outer s H vs Q E hr h=>?_)
 .obtain⟨_,_,rfl,_⟩:=h;rfl
 .have hu64:=hr.units
  have hu1:=ZaH hr
  obtain⟨l,n,rfl,hl,hn,h63,q⟩:=h
  refine⟨_,(Zae (Zar (Zam (Zb5 rfl) rfl T.z_sorted Zb7 (Zaa (Zbs (Zd0 rfl) rfl T.z_set Zkp (Zaa (Za9 (N:=["start","length","text"]) (ix:=[none,some 1,some 0]) rfl (ZaT rfl) rfl (Zbr rfl T.z_range (Zaa (Zav ZaO (Zav Zkb (Zam (Zap (K:=K) rfl) rfl T.z_len ZaB (Zaa (pv 0) Zac)) (pv 1)) Zal) Zac)) (fun _ _ _ _=>(Zaq (i:=0) (show (["start","length","text"]:List Str).Nodup from by decide +kernel) rfl (Or.inl rfl) (Or.inr rfl))) (fun _ _ _ _=>Zbk) (fun _ _ _ _=>(ZaK Zcq (pv 2) (ZaM (pv 0)) (ZaM (Zav ZaO (pv 0) (pv 1)))))) Zac)) Zac)))),?_⟩
  walk_at "rd"
  have sz:l.length<=sizeLine:=YAK hl (by rw[sizeLine_eq];decide)
  have ec:((l.length:Int)-(n:Nat)+1).toNat=l.length+1-n:=by omega
  refine⟨_,_,rfl,ZdK (by omega),_,rfl,by omega,by omega,?_⟩
  rw[ec]
  refine CompRun.rangeA (fun i=>tx ((l.drop i).take n)) (by omega) ?_ ?_
  .intro i H1 Q1 hi s1 q1
   walk_at "rd"
   refine⟨_,rfl,_,rfl,l,rfl,sz,?_⟩
   have e1:(0+(i:Int))=((i:Nat):Int):=by omega
   have e2:((i:Nat):Int)+(n:Nat)=((i+n:Nat):Int):=by omega
   rw[e1,e2,ZiY]
   have e3:i+n-i=n:=by omega
   rw[e3]
   exact q1 H1 (Same.refl _)
  .intro p H1 s1 n1 l1
   refine⟨(List.range (l.length+1-n)).map (fun i=>(l.drop i).take n),by simp;omega,.inr ⟨p,rfl,.mk (by rw[l1,YBB];rfl)⟩,fun p2 n2=>⟨p2,_,rfl,Zad,?_,NewL.of fun p3 H3 s3 n3 l3=>q p3 H3 (s1.trans ((Zao n2).trans s3)) ((s1.trans (Zao n2)).free n3) l3⟩⟩
   refine YCj (Zpb _) ?_
   rw[YAB,YBJ]
   omega
theorem Zig:FnScope ["shorter","standing","kinds","found","head","letter","word"] ["shorter","standing","kinds"] (Zaj s_LH):=by walk_at "sc"
theorem ZoJ (T:TL K mg base a tb):FnOk P w K mg base CX0 1 a.f_LH a.d_LH ["shorter","standing","kinds"] (ZnB K a):=by
 refine T.f_LH.ok Zig (fun vs H Q E h=>?_) (fun cdv A outer s H vs Q E hr h=>?_)
 .obtain⟨_,_,_,_,_,rfl,_⟩:=h;rfl
 .have hu64:=hr.units
  have hu1:=ZaH hr
  obtain⟨b1,b2,sh,st,m,rfl,hb1,hb2,hsh,hm,hw,q⟩:=h
  refine⟨_,(Zab (Zan (i:=3) Zig.nd rfl (Or.inl rfl) (Zbe Zac))
   (Zab (ZaI YAb rfl (ZaC (K:=K) rfl (pv 0)) (Zaq (i:=4) Zig.nd rfl (Or.inl rfl))
   (Zae (ZaI YAb rfl (ZbZ (pv 2)) (Zaq (i:=5) Zig.nd rfl (Or.inl rfl))
   (Zab (Zan (i:=6) Zig.nd rfl (Or.inl rfl) (Zav ZaN (pv 4) (pv 5)))
   (Zae (ZaP (PW.pt (Zfg (Zat (Zce (K:=K) rfl) (ZaK Zcq (pv 6) (ZaM Zal) Za7) (pv 0) rfl) (ZdA (Zat (Zbn (K:=K) rfl) (pv 6) (pv 1) rfl)))) (Zae (ZaU (Zfj YBU YBq YBp Zbw (pv 3) (Zaa (pv 6) Zac)))) Zau))))))
   (Zae (Zar (pv 3))))),?_⟩
  walk_at "rd"
  refine⟨YAg _,NewL.of fun pf H1 s1 nf lf=>⟨b1,rfl,⟨_,.mk (s1 _ _ hb1)⟩,ForRun.list (xs:=sh.map tx) (fun i σ H'=>∃v4 v5 v6,σ=[some (.ref b1),some (.ref b2),some (tx m),some (.ref pf),v4,v5,v6]/\Same H H'/\H' pf=some (.lst (((sh.take i).flatMap (Zgp sh st m)).map tx))) ⟨_,_,_,rfl,s1,lf⟩ (fun i σ H' _ ⟨_,_,_,_,s',_⟩=>.mk (s' _ _ hb1)) ?_ ?_⟩⟩
  .rintro i x σ H2 hx ⟨v4,v5,v6,rfl,s2,l2⟩
   obtain⟨h,hh,rfl⟩:∃h,sh[i]?=some h/\x=tx h:=by
    rw[YAZ]at hx
    cases e:sh[i]? with
    | none=>rw[e]at hx;cases hx
    | some h=>rw[e]at hx;exact⟨h,rfl,(Option.some.inj hx).symm⟩
   have hw1:=hw h (YAM hh)
   have fl:=Zbi (f:=Zgp sh st m) (b:=4) (fun x=>YAK (ZfA _ _ _ _) hm) (sh.take i)
   have tl:(sh.take i).length<=100:=by rw[YAd];omega
   walk_at "rd"
   refine⟨m,rfl,ForRun.text (fun j σ H'=>∃v5 v6,σ=[some (.ref b1),some (.ref b2),some (tx m),some (.ref pf),some (tx h),v5,v6]/\Same H H'/\H' pf=some (.lst (((sh.take i).flatMap (Zgp sh st m)++((m.take j).filter (ZcL sh st h)).map (fun c=>h++[c])).map tx))) ⟨_,_,rfl,s2,by simpa using l2⟩ ?_ ?_⟩
   .rintro j c σ H3 hc ⟨v5,v6,rfl,s3,l3⟩
    have fj:=YAt (ZcL sh st h) (m.take j)
    rw[YAd]at fj
    have fe:(m.take (j+1)).filter (ZcL sh st h)=(m.take j).filter (ZcL sh st h)++if ZcL sh st h c=true then [c] else []:=by
     rw[Ze6 hc,YBO]
     congr 1
     by_cases z:ZcL sh st h c=true
     .rw[YAW z,List.filter_cons_of_pos z];rfl
     .rw[YAX z,List.filter_cons_of_neg z];rfl
    rw[fe]
    walk_at "rd"
    refine⟨by rw[sizeLine_eq];omega,_,rfl,_,rfl,by rw[YAI,YAN,sizeLine_eq];omega,?_⟩
    rw[Zlz]
    refine⟨b1,_,rfl,.inl (.mk (s3 _ _ hb1)),rfl,Za4 _,_,rfl,?_⟩
    rw[YAX YAF,Zc6]
    by_cases t1:(h++[c]).tail∈sh
    .rw[decide_eq_true t1]
     refine iteT ⟨b2,_,rfl,.inl (.mk (s3 _ _ hb2)),rfl,Za4 _,_,rfl,?_⟩
     rw[YAW rfl,Zc6]
     by_cases t2:h++[c]∈st
     .have e:¬ZcL sh st h c=true:=by unfold ZcL;rw[decide_eq_true t2];simp
      rw[decide_eq_true t2,YDe,YAX e,YBC]
      exact iteF ⟨_,_,rfl,s3,l3⟩
     .have e:ZcL sh st h c=true:=by unfold ZcL;rw[decide_eq_true t1,decide_eq_false t2];rfl
      rw[decide_eq_false t2,Bool.not_false,YAW e]
      refine iteT ⟨.inl ⟨rfl,_,.mk l3⟩,pf,_,_,rfl,rfl,l3,by rw[YAB,YAI,YAB,sizeLine_eq];omega,_,_,rfl,same_upd3 s3 nf,?_⟩
      rw[Zad]
      simp
    .have e:¬ZcL sh st h c=true:=by unfold ZcL;rw[decide_eq_false t1];simp
     rw[decide_eq_false t1,YAX e,YBC]
     exact iteF (iteF ⟨_,_,rfl,s3,l3⟩)
   .rintro σ H3 ⟨v5,v6,rfl,s3,l3⟩
    refine⟨_,_,_,rfl,s3,?_⟩
    rw[l3,Ze6 hh,YDJ,List.flatMap_singleton,YBH]
    rfl
  .rintro σ H2 ⟨v4,v5,v6,rfl,s2,l2⟩
   walk_at "rd"
   rw[YAB,YBH]at l2
   exact q pf H2 s2 nf l2
theorem Zol:FnScope ["words","word"] ["words","word"] (Zaj s_K9):=by walk_at "sc"
theorem ZmF (T:TL K mg base a tb):FnOk P w K mg base CX0 1 a.f_K9 a.d_K9 ["words","word"] (ZnZ K a):=by
 refine T.f_K9.ok Zol (fun vs H Q E h=>?_) (fun cdv A outer s H vs Q E hr h=>?_)
 .obtain⟨_,_,_,rfl,_⟩:=h;rfl
 .have hu64:=hr.units
  have hu1:=ZaH hr
  obtain⟨b,ws,w_,rfl,hb,hn,hw,q⟩:=h
  refine⟨_,(Zae (Zar (Zmr (Zam (Zi2 rfl) rfl T.z_any Znc (Zaa (Za9 (N:=["piece","word"]) (ix:=[none,some 1]) rfl (ZaT rfl) rfl (ZaC (K:=K) rfl (pv 0)) (fun _ _ _ _=>(Zaq (i:=0) (show (["piece","word"]:List Str).Nodup from by decide +kernel) rfl (Or.inl rfl) (Or.inr rfl))) (fun _ _ _ _=>Zbk) (fun _ _ _ _=>(ZaV ZgX (pv 0) (pv 1) rfl))) Zac))))),?_⟩
  walk_at "rd"
  refine⟨b,rfl,⟨_,.mk hb⟩,CompRun.listL (xs:=ws.map tx) (fun _=>true) (fun i=>.bl (infB (ws.getD i []) w_)) (by rw[YAB];omega) (.mk hb) (fun i H' Q' _ _ q=>q H' (Same.refl _)) ?_ ?_⟩
  .intro i H1 Q1 hi _ s1 q1
   rw[YAB]at hi
   rw[ZbO hi]
   walk_at "rd"
   exact⟨_,w_,rfl,rfl,q1 H1 (Same.refl _)⟩
  .intro p H1 s1 n1 l1
   rw[filter_all,YAB]at l1
   refine⟨p,ws.map fun p=>infB p w_,rfl,?_,?_⟩
   .rw[l1,YBB]
    congr 2
    apply YBR (by simp)
    intro i h1 h2
    have hi:i<ws.length:=by simpa using h2
    simp[YAG,YAE hi]
   .have e:(ws.map fun p=>infB p w_).any id=ws.any fun p=>infB p w_:=by rw[List.any_map];rfl
    rw[e]
    exact q H1 s1
theorem Zd5:FnScope ["self","one","other"] ["self","one","other"] (Zaj ZbL):=by walk_at "sc"
theorem Zd7 (T:TL K mg base a tb):FnOk P w K mg base CX0 1 a.g_Inside_init a.e_Inside_init ["self","one","other"] (Zc3 K a.c_K8 2 (fs2 "one" "other")):=by
 refine T.fi_K8.ok Zd5 (fun vs H Q E h=>?_) (fun cdv A outer s H vs Q E hr h=>?_)
 .obtain⟨e,r,rfl,hl,_⟩:=h;simp[hl]
 .have hu64:=hr.units
  have hu1:=ZaH hr
  obtain⟨e,r,rfl,hl,he,q⟩:=h
  obtain⟨x,y,rfl⟩:∃x y,r=[x,y]:=by match r,hl with | [x,y],_=>exact⟨x,y,rfl⟩
  refine⟨_,(Zab (ZaU (Zdh rfl T.m_KM T.r_KM (Zaa (pv 0) (Zaa (Zay (l:=[111,110,101,32,119,111,114,100,32,111,102,32,116,104,101,32,108,105,115,116,32,115,116,97,110,100,115,32,105,110,32,97,110,111,116,104,101,114,32,111,110,101]) (by decide +kernel)) Zac))))
   (Zab (Zcr (pv 0) (pv 1) rfl)
   (Zae (Zcr (pv 0) (pv 2) rfl)))),?_⟩
  walk_at "rd"
  refine⟨e,a.c_K8,none,_,rfl,he,T.x_K8,(by show 1<=1000;decide),e,a.c_K8,[],rfl,.bare he,T.x_K8.c,T.n_Inside_one,(by show 0<1000;decide),fun H1 x1 k1 d1=>?_⟩
  have kk:∀b o,H b=some o->b≠e->H1 b=some o:=fun b o hb hne=>k1 b o hb hne fun d hd=>by rw[he]at hd;exact absurd hd Zf3
  refine⟨e,a.c_K8,_,rfl,x1,T.x_K8.c,T.n_Inside_other,(by show 1<1000;decide),fun H2 x2 k2 _=>?_⟩
  refine q H2 x2 fun b o hb hne=>k2 b o (kk b o hb hne) hne fun d hd z=>?_
  subst z
  obtain⟨d',h1',h2'⟩:=d1
  rw[h1']at hd
  have e1:=ZhR hd
  subst e1
  rcases h2' with z | z
  .rw[he]at z;exact Zf3 z
  .rw[hb]at z;cases z
theorem Zji:FnScope ["words","stems","word","size"] ["words"] (Zaj s_LR):=by walk_at "sc"
theorem ZoC (T:TL K mg base a tb):FnOk P w K mg base CX0 1 a.f_LR a.d_LR ["words"] (Znr K a):=by
 refine T.f_LR.ok Zji (fun vs H Q E h=>?_) (fun cdv A outer s H vs Q E hr h=>?_)
 .obtain⟨_,_,rfl,_⟩:=h;rfl
 .have hu64:=hr.units
  have hu1:=ZaH hr
  obtain⟨b,ws,rfl,hb,hn,h41,q⟩:=h
  refine⟨_,(Zab (Zan (i:=1) Zji.nd rfl (Or.inl rfl) (ZeA (Zdf (Zay (l:=[]) (by decide +kernel)) Zbg Zey) rfl rfl (by simp) (by decide)))
   (Zab (ZaI YAb rfl (ZaC (K:=K) rfl (pv 0)) (Zaq (i:=2) Zji.nd rfl (Or.inl rfl))
   (Zae (ZaI YAb rfl (ZcF rfl T.z_range (Zaa Zal (Zaa (Zam (Zap (K:=K) rfl) rfl T.z_len ZaB (Zaa (pv 2) Zac)) Zac))) (Zaq (i:=3) Zji.nd rfl (Or.inl rfl))
   (Zae (Zbq hu1 (pv 1) (ZaK Zcq (pv 2) Za7 (ZaM (pv 3))) Zbg rfl)))))
   (Zae (Zar (pv 1))))),?_⟩
  have sz:∀k:Nat,k<=9000->k<=sizeLine:=fun k h=>YAK h (by rw[sizeLine_eq];decide)
  walk_at "rd"
  intro p hp
  have s1:Same H (upd (upd H p (.dK [])) p (.dK (Zaz [] [(kTx [],.bl true)]))):=ZcB hp
  have h1:upd (upd H p (.dK [])) p (.dK (Zaz [] [(kTx [],.bl true)])) p=some (.dK (Zaz [] [(kTx [],.bl true)])):=Zad
  refine⟨Zad,[(kTx [],.bl true)],rfl,by show (1:Nat)<=15;decide,b,rfl,⟨_,.mk (s1 _ _ hb)⟩,?_⟩
  have k1:StemP ws 0 0 (Zaz [] [(kTx [],.bl true)]):=StemP.start ws
  have l1:(Zaz [] [(kTx [],.bl true)]).length<=1:=ZaQ _ _
  generalize Zaz [] [(kTx [],.bl true)]=kv0 at s1 h1 k1 l1
  generalize upd (upd H p (.dK [])) p (.dK kv0)=H1 at s1 h1
  refine ForRun.list (xs:=ws.map tx) (fun i σ H'=>∃v2 v3 kvs,σ=[some (.ref b),some (.ref p),v2,v3]/\Same H H'/\H' p=some (.dK kvs)/\StemP ws i 0 kvs/\kvs.length<=1+41*i) ⟨_,_,_,rfl,s1,h1,k1,by omega⟩ (fun i σ H' _ ⟨_,_,_,_,s',_⟩=>.mk (s' _ _ hb)) ?_ ?_
  .rintro i x σ H2 hx ⟨v2,v3,kvs,rfl,s2,h2,k2,n2⟩
   obtain⟨w_,hw,rfl⟩:=ZbS hx
   have w41:=h41 w_ (YAM hw)
   have hi:=(YAD.mp hw).1
   walk_at "rd"
   refine⟨_,_,rfl,ZdK (by omega),_,_,rfl,⟨by omega,by omega,by omega,by omega⟩,?_⟩
   refine ForRun.range (fun j σ H'=>∃v3 kvs,σ=[some (.ref b),some (.ref p),some (tx w_),v3]/\Same H H'/\H' p=some (.dK kvs)/\StemP ws i (1+j) kvs/\kvs.length<=1+41*i+j) ⟨_,_,rfl,s2,h2,k2.one hw,by omega⟩ ?_ ?_
   .rintro j σ H3 hj ⟨v3,kvs,rfl,s3,h3,k3,n3⟩
    have e1:(1+(j:Int))=((1+j:Nat):Int):=by omega
    have j41:j<=41:=by omega
    walk_at "rd"
    refine⟨_,rfl,w_,rfl,sz _ (by omega),?_⟩
    rw[e1,ZdX]
    refine⟨p,_,rfl,DPut.k (k:=kTx (w_.take (1+j))) h3 (YAT (show _<9000 by omega) (sz 9000 (YAJ _))),_,_,rfl,same_upd3 s3 hp,Zad,?_,?_⟩
    .have:=k3.put hw (show 1+j<w_.length by omega)
     rw[show 1+(j+1)=1+j+1 by omega]
     exact this
    .have:=ZaE kvs (kTx (w_.take (1+j))) (.bl true)
     omega
   .rintro σ H3 ⟨v3,kvs,rfl,s3,h3,k3,n3⟩
    exact⟨_,_,_,rfl,s3,h3,k3.next hw (by omega),by omega⟩
  .rintro σ H2 ⟨v2,v3,kvs,rfl,s2,h2,k2,n2⟩
   walk_at "rd"
   rw[YAB]at k2 n2
   exact q p kvs H2 s2 hp h2 (k2.done (by omega))
theorem ZkN:FnScope ["stems","text","start"] ["stems","text"] (Zaj s_LB):=by walk_at "sc"
theorem ZoN (T:TL K mg base a tb):FnOk P w K mg base CX0 1 a.f_LB a.d_LB ["stems","text"] (ZnF K a):=by
 refine T.f_LB.ok ZkN (fun vs H Q E h=>?_) (fun cdv A outer s H vs Q E hr h=>?_)
 .obtain⟨_,_,_,_,rfl,_⟩:=h;rfl
 .have hu64:=hr.units
  have hu1:=ZaH hr
  obtain⟨p,kvs,ws,u,rfl,hp,sd,hu,q⟩:=h
  refine⟨_,(Zab (Zan (i:=2) ZkN.nd rfl (Or.inl rfl) Zal)
   (Zab (Zcb YAb (ZcD (Zbu hu1 (ZaK Zcq (pv 1) (ZaM (pv 2)) Za7) (pv 0)))
   (Zae (Zj8 (i:=2) ZkN.nd rfl (Or.inl rfl) Zal Zke)))
   (Zae (Zar (ZaK Zcq (pv 1) (ZaM (pv 2)) Za7))))),?_⟩
  have sz:∀k:Nat,k<=1000->k<=sizeLine:=fun k h=>YAK h (by rw[sizeLine_eq];decide)
  walk_at "rd"
  refine WhileRun.by (fun σ H'=>∃d:Nat,σ=[some (.ref p),some (tx u),some (.int d)]/\Same H H'/\d<=u.length/\∀j,j<d->¬Stem ws (u.drop j)) (fun σ H'=>match σ with | [_,_,some (.int d)]=>u.length-d.toNat | _=>0) ⟨0,rfl,Same.refl _,YAg _,fun j h=>by omega⟩ ?_
  rintro σ H1 ⟨d,rfl,s1,hd,nd⟩
  refine⟨!(valV kvs (kTx (u.drop d))).isSome,fun Q' hq=>?_,fun H2 s2=>?_⟩
  .walk_at "rd"
   refine⟨_,rfl,u,rfl,sz _ hu,?_⟩
   rw[Zbo]
   exact⟨p,_,rfl,.inl ⟨kvs,kTx (u.drop d),hp.same s1,rfl,rfl⟩,hq H1 (Same.refl _)⟩
  .cases e:(valV kvs (kTx (u.drop d))).isSome with
   | true=>
    refine iteF ?_
    walk_at "rd"
    refine⟨_,rfl,u,rfl,sz _ hu,?_⟩
    rw[Zbo]
    exact q _ H2 (s1.trans s2) ⟨d,hd,rfl,(sd.iff _).mp e,nd⟩
   | false=>
    refine iteT ?_
    have ns:¬Stem ws (u.drop d):=fun z=>by rw[(sd.iff _).mpr z]at e;cases e
    have lt:d<u.length:=by
     by_cases c:d<u.length
     .exact c
     .exact absurd (.inl (YBy (by omega))) ns
    walk_at "rd"
    refine⟨_,_,rfl,rfl,⟨d+1,rfl,s1.trans s2,lt,fun j hj=>?_⟩,?_⟩
    .by_cases c:j=d
     .subst c;exact ns
     .exact nd j (by omega)
    .show u.length-((d:Int)+1).toNat<u.length-(d:Int).toNat
     omega
theorem Zd4:FnScope ["ways","sources","left","stem","reached","ended","at"] ["ways"] (Zaj s_LJ):=by walk_at "sc"
theorem ZoI (T:TL K mg base a tb):FnOk P w K mg base CX0 1 a.f_LJ a.d_LJ ["ways"] (Znz K a):=by
 refine T.f_LJ.ok Zd4 (fun vs H Q E h=>?_) (fun cdv A outer s H vs Q E hr h=>?_)
 .obtain⟨_,_,_,_,_,rfl,_⟩:=h;rfl
 .have hu64:=hr.units
  have hu1:=ZaH hr
  obtain⟨p,kw,ws,ss,m,rfl,hp,wl,sl,ok,lk,q⟩:=h
  refine⟨_,(Zab (Zan (i:=1) Zd4.nd rfl (Or.inl rfl) Zbl)
   (Zah (Zab (Zan (i:=2) Zd4.nd rfl (Or.inr rfl) Zbl)
   (Zab (Zcs (ZaI YAb rfl (Zct (pv 0)) (Zaq (i:=3) Zd4.nd rfl (Or.inl rfl))
   (Zah (Zab (Zbq hu1 (pv 2) (pv 3) (Zam Zi0 rfl T.z_len ZaB (Zaa (Za2 hu1 (pv 0) (pv 3) (fun _ _=>rfl)) Zac)) rfl)
   (Zae (Zcs (ZaI YAb rfl (Zio (Za2 hu1 (pv 0) (pv 3) (fun _ _=>rfl))) (Zaq (i:=4) Zd4.nd rfl (Or.inl rfl))
   (Zah (Zae (ZaU (Zfj YBU YBq YBp Zbw (Zd6 (pv 1) (pv 4) (Zbe Zac) ⟨rfl,rfl,rfl,rfl⟩) (Zaa (pv 3) Zac))))))))))))
   (Zab (Zcs (Zim (i:=5) (N:=["stem","left"]) (ix:=[none,some 2]) rfl Zd4.nd rfl rfl rfl (ZaT rfl) rfl (Zct (pv 0)) (fun _ _ _ _=>(Zaq (i:=0) (show (["stem","left"]:List Str).Nodup from by decide +kernel) rfl (Or.inl rfl) (Or.inr rfl))) (fun _ _ _ _=>(Zcc (Zat (ZaA (K:=K) rfl hu64) (Za2 hu1 (pv 1) (pv 0) (fun _ _=>rfl)) Zal (Zaw _)))) (fun _ _ _ _=>(pv 0))))
   (Zah (Zab (Zan (i:=6) Zd4.nd rfl (Or.inl rfl) Zal)
   (Zah (Zab (Zcb YAb (Zat Zjv (pv 6) (Zam (Zap (K:=K) rfl) rfl T.z_len ZaB (Zaa (pv 5) Zac)) (Zaw _))
   (Zab (Zan (i:=4) Zd4.nd rfl (Or.inl rfl) (Zc9 (Zdk (K:=K) rfl) (pv 5) (pv 6) (fun _ _=>rfl)))
   (Zah (Zab (ZaI YAb rfl (ZaC (K:=K) rfl (Zjt hu1 (pv 1) (pv 4) (Zbe Zac) ⟨rfl,rfl,rfl,rfl⟩)) (Zaq (i:=3) Zd4.nd rfl (Or.inl rfl))
   (Zab (ZkX hu1 (pv 2) (pv 3) Zal ZmV (fun _ _ _=>rfl))
   (Zah (Zae (ZaP (Zat (ZaA (K:=K) rfl hu64) (Za2 hu1 (pv 2) (pv 3) (fun _ _=>rfl)) Zal (Zaw _)) (Zah (Zae (ZaU (Zfj YBU YBq YBp Zbw (pv 5) (Zaa (pv 3) Zac))))) Zau)))))
   (Zah (Zae (Zj8 (i:=6) Zd4.nd rfl (Or.inl rfl) Zal Zke)))))))
   (Zae (Zar (pv 5)))))))))))),?_⟩
  have sz:∀k:Nat,k<=100000->k<=sizeLine:=fun k h=>YAK h (by rw[sizeLine_eq];decide)
  have m4:=ok.m4
  have sl82:=sl.len
  walk_at "rd"
  intro pS nS
  have s1:Same H (upd H pS (.dK [])):=Zao nS
  have l1:upd H pS (.dK []) pS=some (.dK []):=Zad
  generalize upd H pS (.dK [])=H1 at s1 l1
  refine Zag ?_
  walk_at "rd"
  intro pL nL
  have s2:Same H1 (upd H1 pL (.dK [])):=Zao nL
  have l2:upd H1 pL (.dK []) pL=some (.dK []):=Zad
  have nL0:H pL=none:=s1.free nL
  have nSL:pS≠pL:=Zai l1 nL
  generalize upd H1 pL (.dK [])=H2 at s2 l2
  have s02:=s1.trans s2
  have npS:p≠pS:=Zai hp nS
  have npL:p≠pL:=Zai hp nL0
  have hp2:=s02 _ _ hp
  refine⟨p,kw,hp2,p,kw,rfl,hp2,fun o=>ForRun.dict (fun i σ H'=>∃v3 v4 kS kL,σ=[some (.ref p),some (.ref pS),some (.ref pL),v3,v4,none,none]/\SameX p H H'/\H' p=some (.frz o (.dK kw))/\H' pS=some (.dK kS)/\SrcAt H H' pS pL kS (edges ws m (ss.take i))/\H' pL=some (.dK kL)/\Zf1 kL (ss.take i) (fun s=>(outS ws m s).length)/\kL.length<=i) ⟨_,_,[],[],rfl,?_,Zad,?_,?_,?_,?_,?_⟩ (fun i σ H' ⟨_,_,_,_,_,_,h,_⟩=>h) ?_ ?_⟩
  .exact(Zjl s02).updX
  .rw[Zaf (YAS npS)];exact s2 _ _ l1
  .rw[YBf]
   exact⟨fun r _=>rfl,fun r v h=>(by cases h),fun r r' a h=>(by cases h),YAg _⟩
  .rw[Zaf (YAS npL)];exact l2
  .rw[YBf];exact fun s h=>(by cases h)
  .exact YAJ _
  .rintro i kv σ H3 hkv ⟨v3,v4,kS,kL,rfl,s3,f3,h3,sr,hL3,la,nk⟩
   have il:=(YAD.mp hkv).1
   have il2:i<ss.length:=by rw[<-wl.1];exact il
   obtain⟨u,hu⟩:∃u,ss[i]?=some u:=⟨_,YAE (by rw[<-wl.1];exact il)⟩
   obtain⟨au,ekv,na,hau⟩:=wl.2 i u hu
   rw[hkv]at ekv
   cases ekv
   rw[ZeL]
   walk_at "rd"
   refine Zag ?_
   walk_at "rd"
   have mu:u∈ss:=YAM hu
   have v3:valV kw (kTx u)=some (.ref au):=ZbU (by rw[wl.keys];exact Zbv sl.nd fun x _ y _ e=>ZaG e) hkv
   have au3:H3 au=some (.dK ((onw ws m u).map wayK)):=s3 _ _ na hau
   have nauS:au≠pS:=Zai hau nS
   have nauL:au≠pL:=Zai hau nL0
   have tk1:ss.take (i+1)=ss.take i++[u]:=ZaL hu
   have nui:u∉ss.take i:=Zcg sl.nd hu
   refine⟨p,.ref au,rfl,.inl ⟨kw,kTx u,.inr ⟨o,f3⟩,rfl,v3.symm⟩,au,_,rfl,au3,pL,_,rfl,DPut.k (k:=kTx u) hL3 (YAT (show _<100000 by omega) (sz 100000 (YAJ _))),?_⟩
   have lo:((onw ws m u).map wayK).length=(outS ws m u).length:=by unfold outS;rw[YAB,YAB]
   rw[lo]
   have la4:Zf1 (putK kL (kTx u) (.int ((outS ws m u).length:Nat))) (ss.take (i+1)) (fun s=>(outS ws m s).length):=fun s hs=>by
    rw[ZaS]
    by_cases e:s=u
    .rw[YAW (by rw[e]),e]
    .rw[YAX (fun z=>e (ZaG z))]
     rw[tk1]at hs
     rcases YAe.mp hs with z | z
     .exact la s z
     .exact absurd (YAO.mp z) e
   have nk4:(putK kL (kTx u) (.int ((outS ws m u).length:Nat))).length<=i+1:=by
    have:=ZaE kL (kTx u) (.int ((outS ws m u).length:Nat))
    omega
   have s4:SameX p H (upd H3 pL (.dK (putK kL (kTx u) (.int ((outS ws m u).length:Nat))))):=s3.updN nL0
   have p4:upd H3 pL (.dK (putK kL (kTx u) (.int ((outS ws m u).length:Nat)))) p=some (.frz o (.dK kw)):=by rw[Zaf npL];exact f3
   have S4:upd H3 pL (.dK (putK kL (kTx u) (.int ((outS ws m u).length:Nat)))) pS=some (.dK kS):=by rw[Zaf nSL];exact h3
   have L4:upd H3 pL (.dK (putK kL (kTx u) (.int ((outS ws m u).length:Nat)))) pL=some (.dK (putK kL (kTx u) (.int ((outS ws m u).length:Nat)))):=Zad
   have sr4:SrcAt H (upd H3 pL (.dK (putK kL (kTx u) (.int ((outS ws m u).length:Nat))))) pS pL kS (edges ws m (ss.take i)):=sr.keep fun a' xs e=>by
    have n':a'≠pL:=fun z=>by rw[z,hL3]at e;cases e
    rw[Zaf n'];exact e
   have a4:upd H3 pL (.dK (putK kL (kTx u) (.int ((outS ws m u).length:Nat)))) au=some (.dK ((onw ws m u).map wayK)):=by rw[Zaf nauL];exact au3
   generalize upd H3 pL (.dK (putK kL (kTx u) (.int ((outS ws m u).length:Nat))))=H4 at s4 p4 S4 L4 sr4 a4
   generalize putK kL (kTx u) (.int ((outS ws m u).length:Nat))=kL4 at la4 nk4 L4
   refine⟨au,_,a4,p,.ref au,rfl,.inl ⟨kw,kTx u,.inr ⟨o,p4⟩,rfl,v3.symm⟩,au,_,rfl,a4,fun o1=>Zls (fun j σ H'=>∃v4 kS,σ=[some (.ref p),some (.ref pS),some (.ref pL),some (tx u),v4,none,none]/\(∀b x,b≠p->b≠au->H b=some x->H' b=some x)/\H' p=some (.frz o (.dK kw))/\H' au=some (.frz o1 (.dK ((onw ws m u).map wayK)))/\H' pS=some (.dK kS)/\SrcAt H H' pS pL kS (edges ws m (ss.take i)++((outS ws m u).take j).map fun r=>(r,u))/\H' pL=some (.dK kL4)) ⟨_,kS,rfl,?_,?_,Zad,?_,?_,?_⟩ (fun j σ H' ⟨_,_,_,_,_,h,_⟩=>h) ?_ ?_⟩
   .intro b x n1 n2 e
    rw[Zaf n2];exact s4 b x n1 e
   .rw[Zaf (YAS na)];exact p4
   .rw[Zaf (YAS nauS)];exact S4
   .rw[YBf,YCz,YBC]
    exact sr4.keep fun a' xs e=>by
     have n':a'≠au:=fun z=>by rw[z,a4]at e;cases e
     rw[Zaf n'];exact e
   .rw[Zaf (YAS nauL)];exact L4
   .rintro j kv σ H5 hkv2 ⟨v4,kS5,rfl,s5,p5,a5,S5,sr5,L5⟩
    obtain⟨x,hx,rfl⟩:∃x,(onw ws m u)[j]?=some x/\kv=wayK x:=by
     rw[YAZ]at hkv2
     cases e:(onw ws m u)[j]? with
     | none=>rw[e]at hkv2;cases hkv2
     | some x=>rw[e]at hkv2;cases hkv2;exact⟨x,rfl,rfl⟩
    have hr:(outS ws m u)[j]?=some x.2:=by unfold outS;rw[YAZ,hx];rfl
    show Zcx 4 (tx x.2) _ _ _
    generalize x.2=r at hr
    walk_at "rd"
    refine Zag ?_
    walk_at "rd"
    have kl5:kS5.length<100000:=by
     have:=sr5.len
     have e1:=Zib (ws:=ws) (m:=m) (r:=[]) (ss:=ss.take i) m4 (by rw[YAd];omega)
     rw[YAI,YAB,YAd]at this
     have e2:(outS ws m u).length<=4:=by
      unfold outS onw onwC
      rw[YAB,YAB]
      exact YAK (YAt _ _) m4
     omega
    have tj:((outS ws m u).take (j+1)).map (fun r=>(r,u))=((outS ws m u).take j).map (fun r=>(r,u))++[(r,u)]:=by rw[ZaL hr,YAq];rfl
    refine⟨pS,rfl,.inl ⟨kS5,.inl S5⟩,YAg _,NewL.of fun z H6 s6 nz z6=>⟨kS5,kTx r,s6 _ _ S5,rfl,YAT kl5 (sz 100000 (YAJ _)),fun v hv=>?_,fun hv=>?_⟩⟩
    .obtain⟨a',rfl,na0,naS,naL,ha⟩:=sr5.yes r v hv
     have ha6:=s6 _ _ ha
     have sr6:=(sr5.keep (H'':=H6) fun a xs e=>s6 _ _ e).old (s:=u) hv
     refine⟨.inl ⟨rfl,_,.mk ha6⟩,a',_,tx u,rfl,rfl,ha6,?_,_,kS5,rfl,?_,?_,?_,?_,?_,?_⟩
     .rw[YAB]
      have e0:=Zic (edges ws m (ss.take i)++((outS ws m u).take j).map fun r=>(r,u)) r
      have e1:=Zib (ws:=ws) (m:=m) (r:=[]) (ss:=ss.take i) m4 (by rw[YAd];omega)
      have e2:(outS ws m u).length<=4:=by
       unfold outS onw onwC
       rw[YAB,YAB]
       exact YAK (YAt _ _) m4
      rw[YAI,YAB,YAd]at e0
      exact YAT (show _<100000 by omega) (sz 100000 (YAJ _))
     .intro b x n1 n2 e
      rw[Zaf (Zai e na0)];exact s6 _ _ (s5 b x n1 n2 e)
     .rw[Zaf (Zai hp na0)];exact s6 _ _ p5
     .rw[Zaf (Zai hau na0)];exact s6 _ _ a5
     .rw[Zaf (YAS naS)];exact s6 _ _ S5
     .rw[tj,<-YBm];exact sr6
     .rw[Zaf (YAS naL)];exact s6 _ _ L5
    .have nzS:pS≠z:=Zai S5 nz
     have nzL:pL≠z:=Zai L5 nz
     have nzp:p≠z:=Zai p5 nz
     have nza:au≠z:=Zai a5 nz
     have nzH:H z=none:=by
      cases e:H z with
      | none=>rfl
      | some x=>rw[s5 z x (YAS nzp) (YAS nza) e]at nz;cases nz
     have z7:upd H6 pS (.dK (putK kS5 (kTx r) (.ref z))) z=some (.lst []):=by rw[Zaf (YAS nzS)];exact z6
     refine⟨.inl ⟨rfl,_,.mk z7⟩,z,[],tx u,rfl,rfl,z7,sz 1 (by decide),_,putK kS5 (kTx r) (.ref z),rfl,?_,?_,?_,?_,?_,?_⟩
     .intro b x n1 n2 e
      rw[Zaf (Zai e nzH),Zaf (Zai e nS)];exact s6 _ _ (s5 b x n1 n2 e)
     .rw[Zaf nzp,Zaf npS];exact s6 _ _ p5
     .rw[Zaf nza,Zaf nauS];exact s6 _ _ a5
     .rw[Zaf nzS,Zad]
     .rw[tj,<-YBm]
      refine sr5.new hv nzH nz (YAS nzS) (YAS nzL) (fun a xs n e=>?_) Zad
      have e6:=s6 _ _ e
      have nS':a≠pS:=fun z=>by rw[z,S5]at e;cases e
      rw[Zaf n,Zaf nS'];exact e6
     .rw[Zaf nzL,Zaf (YAS nSL)];exact s6 _ _ L5
   .rintro σ H5 ⟨v4,kS5,rfl,s5,p5,a5,S5,sr5,L5⟩
    have lo2:((onw ws m u).map wayK).length=(outS ws m u).length:=lo
    rw[lo2,YBH,<-ZhK,<-tk1]at sr5
    refine⟨o1,_,a5,_,_,kS5,kL4,rfl,?_,?_,?_,?_,?_,la4,nk4⟩
    .intro b x n e
     by_cases c:b=au
     .subst c
      rw[hau]at e
      cases e
      rw[Zad]
     .rw[Zaf c];exact s5 b x n c e
    .rw[Zaf (YAS na)];exact p5
    .rw[Zaf (YAS nauS)];exact S5
    .exact sr5.keep fun a' xs e=>by
      have n':a'≠au:=fun z=>by rw[z,a5]at e;cases e
      rw[Zaf n'];exact e
    .rw[Zaf (YAS nauL)];exact L5
  .rintro σ H3 ⟨v3,v4,kS,kL,rfl,s3,f3,h3,sr,hL3,la,nk⟩
   rw[wl.1,YBH]at sr la
   refine⟨o,kw,f3,?_⟩
   walk_at "rd"
   have s4:Same H (upd H3 p (.dK kw)):=s3.updX.same hp Zad
   have S4:upd H3 p (.dK kw) pS=some (.dK kS):=by rw[Zaf (YAS npS)];exact h3
   have L4:upd H3 p (.dK kw) pL=some (.dK kL):=by rw[Zaf (YAS npL)];exact hL3
   have sr4:SrcAt H (upd H3 p (.dK kw)) pS pL kS (edges ws m ss):=sr.keep fun a' xs e=>by
    have n':a'≠p:=fun z=>by rw[z,f3]at e;cases e
    rw[Zaf n'];exact e
   have p4:upd H3 p (.dK kw) p=some (.dK kw):=Zad
   generalize upd H3 p (.dK kw)=H4 at s4 S4 L4 sr4 p4
   refine⟨p,kw,p4,p,kw,rfl,p4,fun o2=>CompRun.keys (fun i=>decide ((outS ws m (ss.getD i [])).length=0)) (fun i=>tx (ss.getD i [])) (by rw[wl.1];omega) Zad ?_ ?_ ?_⟩
   .intro i kv H5 Q5 hkv s5 q5
    have il:=(YAD.mp hkv).1
    obtain⟨u,hu⟩:∃u,ss[i]?=some u:=⟨_,YAE (by rw[<-wl.1];exact il)⟩
    obtain⟨au,ekv,_⟩:=wl.2 i u hu
    rw[hkv]at ekv
    cases ekv
    have gd:ss.getD i []=u:=by rw[YAG,hu];rfl
    rw[gd]at q5
    have L5:H5 pL=some (.dK kL):=s5 _ _ (by rw[Zaf (YAS npL)];exact L4)
    rw[ZeL]
    walk_at "rd"
    refine⟨pL,_,rfl,.inl ⟨kL,kTx u,.inl L5,rfl,(la u (YAM hu)).symm⟩,Zm3 ⟨_,rfl,q5 H5 (Same.refl _)⟩⟩
   .intro i kv H5 Q5 hkv _ s5 q5
    have il:=(YAD.mp hkv).1
    obtain⟨u,hu⟩:∃u,ss[i]?=some u:=⟨_,YAE (by rw[<-wl.1];exact il)⟩
    obtain⟨au,ekv,_⟩:=wl.2 i u hu
    rw[hkv]at ekv
    cases ekv
    have gd:ss.getD i []=u:=by rw[YAG,hu];rfl
    rw[gd]at q5
    rw[ZeL]
    walk_at "rd"
    exact q5 H5 (Same.refl _)
   .intro pe H5 s5 n5 l5
    rw[wl.1,ZfI [] (fun s=>decide ((outS ws m s).length=0)) tx ss]at l5
    have npe:pe≠p:=fun z=>by rw[z,Zad]at n5;cases n5
    have n4:H4 pe=none:=by rw[Zaf npe]at n5;exact n5
    have nH:H pe=none:=s4.free n4
    have npeS:pS≠pe:=Zai S4 n4
    have npeL:pL≠pe:=Zai L4 n4
    have src_ne:∀r a,valV kS (kTx r)=some (.ref a)->a≠pe:=fun r a hv=>by
     obtain⟨a',e,_,_,_,ha⟩:=sr4.yes r _ hv
     cases e
     exact Zai ha n4
    refine⟨o2,kw,s5 _ _ Zad,?_⟩
    have s46:Same H4 (upd H5 p (.dK kw)):=Same.thaw (H1:=H4) p4 s5
    have pe6:upd H5 p (.dK kw) pe=some (.lst ((ss.filter fun s=>decide ((outS ws m s).length=0)).map tx)):=by rw[Zaf npe];exact l5
    generalize upd H5 p (.dK kw)=H6 at s46 pe6
    walk_at "rd"
    refine Zag ?_
    walk_at "rd"
    refine Zag ?_
    walk_at "rd"
    have k82:kL.length<=8201:=by rw[wl.1]at nk;omega
    refine WhileRun.by (fun σ H'=>∃(v3 v4:Option V) (n:Nat) (es:List Wd) (f:Wd->Nat) (kL:List (Key×V)),σ=[some (.ref p),some (.ref pS),some (.ref pL),v3,v4,some (.ref pe),some (.int n)]/\Same H H'/\H' pS=some (.dK kS)/\SrcAt H H' pS pL kS (edges ws m ss)/\H' pL=some (.dK kL)/\Zf1 kL ss f/\kL.length<=8201/\H' pe=some (.lst (es.map tx))/\KI ss (outS ws m) n es f) (fun σ _=>match σ with | [_,_,_,_,_,_,some (.int n)]=>ss.length-n.toNat | _=>0) ⟨_,_,0,_,fun s=>(outS ws m s).length,kL,rfl,s4.trans s46,s46 _ _ S4,sr4.keep fun a xs e=>s46 _ _ e,s46 _ _ L4,la,k82,pe6,KI.start sl.nd fun s _=>rfl⟩ ?_
    rintro σ H7 ⟨v3,v4,n,es,f,kL,rfl,s7,S7,sr7,L7,la7,kl7,e7,ki⟩
    have esl:es.length<=ss.length:=Zbz es ss ki.nd ki.sub
    refine⟨decide (n<es.length),fun Q' hq=>?_,fun H8 s8=>?_⟩
    .walk_at "rd"
     refine⟨_,_,rfl,.inl ⟨_,.mk e7,rfl⟩,?_⟩
     rw[YAB]
     have e:decide ((n:Int)<((es.length:Nat):Int))=decide (n<es.length):=by rw[decide_eq_decide];omega
     rw[e]
     exact hq H7 (Same.refl _)
    .by_cases c:n<es.length
     .rw[decide_eq_true c]
      refine iteT ?_
      walk_at "rd"
      obtain⟨r,hr⟩:∃r,es[n]?=some r:=⟨_,YAE c⟩
      refine⟨pe,es.map tx,n,tx r,rfl,rfl,.mk (s8 _ _ e7),Zja (by rw[YAZ,hr];rfl),?_⟩
      show Zbc _ _ _ _
      refine Zag ?_
      walk_at "rd"
      have s08:=s7.trans s8
      refine⟨pS,rfl,.inl ⟨kS,.inl (s8 _ _ S7)⟩,YAg _,NewL.of fun z H9 s9 nz z9=>⟨_,.inl ⟨kS,kTx r,.inl (s9 _ _ (s8 _ _ S7)),rfl,rfl⟩,?_⟩⟩
      have s89:=s8.trans s9
      have L9:=s89 _ _ L7
      have e9:=s89 _ _ e7
      have sr9:SrcAt H H9 pS pL kS (edges ws m ss):=sr7.keep fun a xs e=>s89 _ _ e
      obtain⟨al,eal,hal,nalL,nalE⟩:∃al,((valV kS (kTx r)).getD (.ref z))=.ref al/\H9 al=some (.lst ((srcOf (edges ws m ss) r).map tx))/\al≠pL/\al≠pe:=by
       cases hv:valV kS (kTx r) with
       | none=>
        refine⟨z,rfl,?_,YAS (Zai (s8 _ _ L7) nz),YAS (Zai (s8 _ _ e7) nz)⟩
        rw[sr9.no r hv];exact z9
       | some v=>
        obtain⟨a',rfl,h1,h2,h3,h4⟩:=sr9.yes r v hv
        exact⟨a',rfl,h4,h3,src_ne r a' hv⟩
      rw[eal]
      have s09:=s7.trans s89
      have kj:=ki.enter (S:=srcOf (edges ws m ss) r) hr (fun s hs=>Zfa sl.nd hs)
      refine⟨al,rfl,⟨_,.mk hal⟩,ForRun.list (xs:=(srcOf (edges ws m ss) r).map tx) (fun j σ H'=>∃(v3:Option V) (es:List Wd) (f:Wd->Nat) (kL:List (Key×V)),σ=[some (.ref p),some (.ref pS),some (.ref pL),v3,some (tx r),some (.ref pe),some (.int n)]/\Same H H'/\H' al=some (.lst ((srcOf (edges ws m ss) r).map tx))/\H' pS=some (.dK kS)/\SrcAt H H' pS pL kS (edges ws m ss)/\H' pL=some (.dK kL)/\Zf1 kL ss f/\kL.length<=8201/\H' pe=some (.lst (es.map tx))/\KJ ss (outS ws m) n r (srcOf (edges ws m ss) r) j es f) ⟨_,es,f,kL,rfl,s09,hal,s89 _ _ S7,sr9,L9,la7,kl7,e9,kj⟩ (fun j σ H' _ ⟨_,_,_,_,_,_,h,_⟩=>.mk h) ?_ ?_⟩
      .rintro j x σ G1 hx ⟨v3,es,f,kL,rfl,g1,al1,S1,sr1,L1,la1,kl1,e1,kj⟩
       obtain⟨s_,hs,rfl⟩:=ZbS hx
       have ms:s_∈ss:=Zia (YAM hs)
       have fp:=kj.pos hs ms
       have vs:=la1 s_ ms
       walk_at "rd"
       refine⟨pL,_,rfl,.inl ⟨kL,kTx s_,.inl L1,rfl,vs.symm⟩,_,_,rfl,rfl,_,DPut.k (k:=kTx s_) L1 (YAT (show _<100000 by omega) (sz 100000 (YAJ _))),?_⟩
       have fe:((f s_:Nat):Int)-1=((f s_-1:Nat):Int):=by omega
       rw[fe]
       have g2:Same H (upd G1 pL (.dK (putK kL (kTx s_) (.int ((f s_-1:Nat):Int))))):=same_upd3 g1 nL0
       have al2:upd G1 pL (.dK (putK kL (kTx s_) (.int ((f s_-1:Nat):Int)))) al=some (.lst ((srcOf (edges ws m ss) r).map tx)):=by rw[Zaf nalL];exact al1
       have S2:upd G1 pL (.dK (putK kL (kTx s_) (.int ((f s_-1:Nat):Int)))) pS=some (.dK kS):=by rw[Zaf nSL];exact S1
       have sr2:SrcAt H (upd G1 pL (.dK (putK kL (kTx s_) (.int ((f s_-1:Nat):Int))))) pS pL kS (edges ws m ss):=sr1.keep fun a' xs e=>by
        have n':a'≠pL:=fun z=>by rw[z,L1]at e;cases e
        rw[Zaf n'];exact e
       have L2:upd G1 pL (.dK (putK kL (kTx s_) (.int ((f s_-1:Nat):Int)))) pL=some (.dK (putK kL (kTx s_) (.int ((f s_-1:Nat):Int)))):=Zad
       have e2:upd G1 pL (.dK (putK kL (kTx s_) (.int ((f s_-1:Nat):Int)))) pe=some (.lst (es.map tx)):=by rw[Zaf (YAS npeL)];exact e1
       generalize upd G1 pL (.dK (putK kL (kTx s_) (.int ((f s_-1:Nat):Int))))=G2 at g2 al2 S2 sr2 L2 e2
       have kl2:(putK kL (kTx s_) (.int ((f s_-1:Nat):Int))).length<=8201:=by rw[ZgS vs];exact kl1
       obtain⟨k0,k1⟩:=kj.next hs ms (fun t=>if t=s_ then f s_-1 else f t) (fun t=>rfl)
       have gs:(if s_=s_ then f s_-1 else f s_)=f s_-1:=YAW rfl
       have la2:Zf1 (putK kL (kTx s_) (.int ((f s_-1:Nat):Int))) ss (fun t=>if t=s_ then f s_-1 else f t):=fun t ht=>by
        show _=some (V.int ((if t=s_ then f s_-1 else f t:Nat):Int))
        rw[ZaS]
        by_cases e:t=s_
        .rw[YAW (by rw[e]),YAW e]
        .rw[YAX (fun z=>e (ZaG z)),YAX e];exact la1 t ht
       have v2:valV (putK kL (kTx s_) (.int ((f s_-1:Nat):Int))) (kTx s_)=some (.int ((f s_-1:Nat):Int)):=by rw[ZaS,YAW rfl]
       refine Zag ?_
       walk_at "rd"
       refine⟨pL,_,rfl,.inl ⟨_,kTx s_,.inl L2,rfl,v2.symm⟩,Zm3 ⟨_,rfl,ite2 (fun h0=>Zag ?_) (fun h0=>?_)⟩⟩
       .have z0:f s_-1=0:=of_decide_eq_true h0
        have kj2:=k0 (gs.trans z0)
        have esl2:=Zbz es ss kj.nd kj.sub
        walk_at "rd"
        refine⟨.inl ⟨rfl,_,.mk e2⟩,pe,_,_,rfl,rfl,e2,by rw[YAB];exact YAT (show _<100000 by omega) (sz 100000 (YAJ _)),_,es++[s_],_,_,rfl,same_upd3 g2 nH,by rw[Zaf nalE];exact al2,by rw[Zaf npeS];exact S2,?_,by rw[Zaf npeL];exact L2,la2,kl2,by rw[Zad,YAq];rfl,kj2⟩
        refine⟨sr2.no,fun r v hv=>?_,sr2.inj,sr2.len⟩
        obtain⟨a',rfl,h1,h2,h3,h4⟩:=sr2.yes r v hv
        exact⟨a',rfl,h1,h2,h3,by rw[Zaf (src_ne r a' hv)];exact h4⟩
       .have z0:f s_-1≠0:=fun z=>h0 (decide_eq_true z)
        exact⟨_,es,_,_,rfl,g2,al2,S2,sr2,L2,la2,kl2,e2,k1 (by rw[gs];exact z0)⟩
      .rintro σ G1 ⟨v3,es,f,kL,rfl,g1,al1,S1,sr1,L1,la1,kl1,e1,kj⟩
       rw[YAB]at kj
       have ki':=kj.leave
       refine Zag ?_
       walk_at "rd"
       refine⟨_,rfl,_,_,rfl,rfl,⟨_,_,n+1,es,f,kL,rfl,g1,S1,sr1,L1,la1,kl1,e1,ki'⟩,?_⟩
       show ss.length-((n:Int)+1).toNat<ss.length-(n:Int).toNat
       omega
     .rw[decide_eq_false c]
      refine iteF ?_
      walk_at "rd"
      have en:n=es.length:=by have:=ki.le;omega
      subst en
      exact q pe es H8 (s7.trans s8) nH (s8 _ _ e7) (Zlv ki)
theorem Zdx:FnScope ["self","head","lap"] ["self","head","lap"] (Zaj ZbC):=by walk_at "sc"
theorem ZdF (T:TL K mg base a tb):FnOk P w K mg base CX0 1 a.g_Endless_init a.e_Endless_init ["self","head","lap"] (Zc3 K a.c_KY 2 (fs2 "head" "lap")):=by
 refine T.fi_KY.ok Zdx (fun vs H Q E h=>?_) (fun cdv A outer s H vs Q E hr h=>?_)
 .obtain⟨e,r,rfl,hl,_⟩:=h;simp[hl]
 .have hu64:=hr.units
  have hu1:=ZaH hr
  obtain⟨e,r,rfl,hl,he,q⟩:=h
  obtain⟨x,y,rfl⟩:∃x y,r=[x,y]:=by match r,hl with | [x,y],_=>exact⟨x,y,rfl⟩
  refine⟨_,(Zab (ZaU (Zdh rfl T.m_KM T.r_KM (Zaa (pv 0) (Zaa (Zay (l:=[119,111,114,100,115,32,119,105,116,104,111,117,116,32,101,110,100,32,97,118,111,105,100,32,116,104,101,32,108,105,115,116]) (by decide +kernel)) Zac))))
   (Zab (Zcr (pv 0) (pv 1) rfl)
   (Zae (Zcr (pv 0) (pv 2) rfl)))),?_⟩
  walk_at "rd"
  refine⟨e,a.c_KY,none,_,rfl,he,T.x_KY,(by show 1<=1000;decide),e,a.c_KY,[],rfl,.bare he,T.x_KY.c,T.n_Endless_head,(by show 0<1000;decide),fun H1 x1 k1 d1=>?_⟩
  have kk:∀b o,H b=some o->b≠e->H1 b=some o:=fun b o hb hne=>k1 b o hb hne fun d hd=>by rw[he]at hd;exact absurd hd Zf3
  refine⟨e,a.c_KY,_,rfl,x1,T.x_KY.c,T.n_Endless_lap,(by show 1<1000;decide),fun H2 x2 k2 _=>?_⟩
  refine q H2 x2 fun b o hb hne=>k2 b o (kk b o hb hne) hne fun d hd z=>?_
  subst z
  obtain⟨d',h1',h2'⟩:=d1
  rw[h1']at hd
  have e1:=ZhR hd
  subst e1
  rcases h2' with z | z
  .rw[he]at z;exact Zf3 z
  .rw[hb]at z;cases z
theorem Zii:FnScope ["ways","ended","longest","stem","letter","word"] ["ways","ended"] (Zaj s_K4):=by walk_at "sc"
theorem Zo3 (T:TL K mg base a tb):FnOk P w K mg base CX0 1 a.f_K4 a.d_K4 ["ways","ended"] (Zn3 K a):=by
 refine T.f_K4.ok Zii (fun vs H Q E h=>?_) (fun cdv A outer s H vs Q E hr h=>?_)
 .obtain⟨_,_,_,_,_,_,_,rfl,_⟩:=h;rfl
 .have hu64:=hr.units
  have hu1:=ZaH hr
  obtain⟨p,pq,kw,ws,ss,es,m,rfl,hp,wl,sl,ok,lk,an,hq,he,hnil,q⟩:=h
  refine⟨_,(Zab (Zan (i:=2) Zii.nd rfl (Or.inl rfl) Zbl)
   (Zab (ZaI YAb rfl (ZaC (K:=K) rfl (pv 1)) (Zaq (i:=3) Zii.nd rfl (Or.inl rfl))
   (Zah (Zab (Zbq hu1 (pv 2) (pv 3) (Zay (l:=[]) (by decide +kernel)) rfl)
   (Zah (Zae (Zcs (ZaI YAb rfl (Zct (Za2 hu1 (pv 0) (pv 3) (fun _ _=>rfl))) (Zaq (i:=4) Zii.nd rfl (Or.inl rfl))
   (Zah (Zab (Zan (i:=5) Zii.nd rfl (Or.inl rfl) (Zav ZaN (pv 4) (Za2 hu1 (pv 2) (Za2 hu1 (Za2 hu1 (pv 0) (pv 3) (fun _ _=>rfl)) (pv 4) (fun _ _=>rfl)) (fun _ _=>rfl))))
   (Zae (ZaP (Zat Zfn (Zam (Zap (K:=K) rfl) rfl T.z_len ZaB (Zaa (pv 5) Zac)) (Zam (Zap (K:=K) rfl) rfl T.z_len ZaB (Zaa (Za2 hu1 (pv 2) (pv 3) (fun _ _=>rfl)) Zac)) (Zaw _)) (Zah (Zae (Zbq hu1 (pv 2) (pv 3) (pv 5) rfl))) Zau)))))))))))
   (Zah (Zae (Zar (Za2 hu1 (pv 2) (Zay (l:=[]) (by decide +kernel)) (fun _ _=>rfl))))))),?_⟩
  have sz:∀k:Nat,k<=100000->k<=sizeLine:=fun k h=>YAK h (by rw[sizeLine_eq];decide)
  have m4:=ok.m4
  have sl82:=sl.len
  have esl:es.length<=ss.length:=Zbz es ss he.nd he.sub
  walk_at "rd"
  intro pl nl
  have s1:Same H (upd H pl (.dK [])):=Zao nl
  have l1:upd H pl (.dK []) pl=some (.dK []):=Zad
  generalize upd H pl (.dK [])=H1 at s1 l1
  refine⟨pq,rfl,⟨_,.mk (s1 _ _ hq)⟩,ForRun.list (xs:=es.map tx) (fun i σ H'=>∃(v3 v4 v5:Option V) (kO:List (Key×V)),σ=[some (.ref p),some (.ref pq),some (.ref pl),v3,v4,v5]/\Same H H'/\H' pl=some (.dK kO)/\kO.length<=i/\∀s∈es.take i,∃x,valV kO (kTx s)=some (tx x)/\LF ws m s x/\x.length<=8200) ⟨_,_,_,[],rfl,s1,l1,YAJ _,fun s h=>by rw[YBf]at h;cases h⟩ (fun i σ H' _ ⟨_,_,_,_,_,s',_⟩=>.mk (s' _ _ hq)) ?_ ?_⟩
  .rintro i x σ H2 hx ⟨v3,v4,v5,kO,rfl,s2,l2,n2,la⟩
   obtain⟨s_,hs,rfl⟩:=ZbS hx
   have il:=(YAD.mp hs).1
   have ms:s_∈ss:=he.sub s_ (YAM hs)
   have hst:=(sl.iff s_).mp ms
   obtain⟨au,va,na,hau⟩:=wl.val sl.nd ms
   have nal:au≠pl:=Zai hau nl
   have npl:p≠pl:=Zai hp nl
   have ni:s_∉es.take i:=Zcg he.nd hs
   walk_at "rd"
   refine Zag ?_
   walk_at "rd"
   refine⟨pl,_,rfl,DPut.k (k:=kTx s_) l2 (YAT (show _<100000 by omega) (sz 100000 (YAJ _))),Zag ?_⟩
   have s3:Same H (upd H2 pl (.dK (putK kO (kTx s_) (tx [])))):=same_upd3 s2 nl
   have l3:upd H2 pl (.dK (putK kO (kTx s_) (tx []))) pl=some (.dK (putK kO (kTx s_) (tx []))):=Zad
   have n3:(putK kO (kTx s_) (tx [])).length<=i+1:=by
    have:=ZaE kO (kTx s_) (tx [])
    omega
   have la3:∀s∈es.take i,∃x,valV (putK kO (kTx s_) (tx [])) (kTx s)=some (tx x)/\LF ws m s x/\x.length<=8200:=fun s hs'=>by
    have:s≠s_:=fun z=>ni (z▸hs')
    rw[ZaS,YAX (fun z=>this (ZaG z))];exact la s hs'
   have v3':valV (putK kO (kTx s_) (tx [])) (kTx s_)=some (tx []):=by rw[ZaS,YAW rfl]
   generalize upd H2 pl (.dK (putK kO (kTx s_) (tx [])))=H3 at s3 l3
   generalize putK kO (kTx s_) (tx [])=kO3 at l3 n3 la3 v3'
   walk_at "rd"
   refine⟨au,_,s3 _ _ hau,p,.ref au,rfl,.inl ⟨kw,kTx s_,.inl (s3 _ _ hp),rfl,va.symm⟩,au,_,rfl,s3 _ _ hau,fun o=>ForRun.dict (fun j σ H'=>∃(v4 v5:Option V) (kO:List (Key×V)) (x:Q11),σ=[some (.ref p),some (.ref pq),some (.ref pl),some (tx s_),v4,v5]/\(∀b y,b≠au->H b=some y->H' b=some y)/\H' au=some (.frz o (.dK ((onw ws m s_).map wayK)))/\H' pl=some (.dK kO)/\kO.length<=i+1/\(∀s∈es.take i,∃x,valV kO (kTx s)=some (tx x)/\LF ws m s x/\x.length<=8200)/\valV kO (kTx s_)=some (tx x)/\PF ws m s_ ((onwC ws m s_).take j) x/\x.length<=8201) ⟨_,_,kO3,[],rfl,?_,Zad,?_,n3,la3,v3',by rw[YBf];exact PF.start (lk.stemAv an hst),YAg _⟩ (fun j σ H' ⟨_,_,_,_,_,_,h,_⟩=>h) ?_ ?_⟩
   .intro b y n e
    rw[Zaf n];exact s3 _ _ e
   .rw[Zaf (YAS nal)];exact l3
   .rintro j kv σ H4 hkv ⟨v4,v5,kO4,x,rfl,s4,a4,l4,n4,la4,v4',pw,xl⟩
    obtain⟨c,hc,rfl⟩:∃c,(onwC ws m s_)[j]?=some c/\kv=wayK (c,estOf ws (s_++[c])):=by
     unfold onw at hkv
     rw[YBB,YAZ]at hkv
     cases e:(onwC ws m s_)[j]? with
     | none=>rw[e]at hkv;cases hkv
     | some c=>rw[e]at hkv;cases hkv;exact⟨c,rfl,rfl⟩
    have eo:estOf ws (s_++[c])∈outS ws m s_:=by
     unfold outS onw
     exact YAc.mpr ⟨_,YAc.mpr ⟨c,YAM hc,rfl⟩,rfl⟩
    have et:=he.ord i s_ hs _ eo
    obtain⟨z,vz,lz,lz40⟩:=la4 _ et
    have hcm:=Zcf.mp (YAM hc)
    have tk:(onwC ws m s_).take (j+1)=(onwC ws m s_).take j++[c]:=by rw[YCt,hc];rfl
    have rise:∀d∈(onwC ws m s_).take j,d<c:=fun d hd=>by
     obtain⟨k,hk,e⟩:=YAh hd
     rw[YAd]at hk
     rw[YDX]at e
     obtain⟨hj,e2⟩:=YAD.mp hc
     have pw':(onwC ws m s_).Pairwise (· < ·):=(ZcM ok.k).filter _
     rw[<-e,<-e2]
     exact YCB.mp pw' k j (by omega) hj (by omega)
    have vc:valV ((onw ws m s_).map wayK) (kTx [c])=some (tx (estOf ws (s_++[c]))):=ZbU (Zgh (ZcM ok.k)) hkv
    have p4:H4 p=some (.dK kw):=s4 _ _ (YAS na) hp
    obtain⟨w1,w2⟩:=pw.next rise hcm.1 hcm.2 (Zba ws (s_++[c])) lz
    rw[<-tk]at w1 w2
    show Zcx 4 (kV (kTx [c])) _ _ _
    rw[ZeL]
    walk_at "rd"
    refine Zag ?_
    walk_at "rd"
    refine⟨p,.ref au,rfl,.inl ⟨kw,kTx s_,.inl p4,rfl,va.symm⟩,au,_,rfl,.inl ⟨_,kTx [c],.inr ⟨o,a4⟩,rfl,vc.symm⟩,pl,_,rfl,.inl ⟨kO4,kTx (estOf ws (s_++[c])),.inl l4,rfl,vz.symm⟩,[c],z,rfl,rfl,sz _ (by rw[YAN];omega),?_⟩
    refine⟨_,_,rfl,ZbN (by rw[YAI,YAN];omega),pl,_,rfl,.inl ⟨kO4,kTx s_,.inl l4,rfl,v4'.symm⟩,_,_,rfl,ZbN (by omega),ite2 (fun h0=>Zag ?_) (fun h0=>?_)⟩
    .have lt:x.length<(c::z).length:=by
      have:=of_decide_eq_true h0
      rw[YAI,YAN]at this
      rw[YAf];omega
     walk_at "rd"
     refine⟨pl,_,rfl,DPut.k (k:=kTx s_) l4 (YAT (show _<100000 by omega) (sz 100000 (YAJ _))),_,_,putK kO4 (kTx s_) (tx (c::z)),c::z,rfl,?_,by rw[Zaf nal];exact a4,Zad,by rw[ZgS v4'];exact n4,fun s hs'=>?_,by rw[ZaS,YAW rfl],w1 lt,by rw[YAf];omega⟩
     .intro b y n e
      rw[Zaf (Zai e nl)];exact s4 b y n e
     .have:s≠s_:=fun z=>ni (z▸hs')
      rw[ZaS,YAX (fun z=>this (ZaG z))];exact la4 s hs'
    .have lt:¬x.length<(c::z).length:=fun q=>h0 (decide_eq_true (by rw[YAI,YAN];rw[YAf]at q;omega))
     exact⟨_,_,kO4,x,rfl,s4,a4,l4,n4,la4,v4',w2 lt,xl⟩
   .rintro σ H4 ⟨v4,v5,kO4,x,rfl,s4,a4,l4,n4,la4,v4',pw,xl⟩
    have lo:((onw ws m s_).map wayK).length=(onwC ws m s_).length:=by unfold onw;rw[YAB,YAB]
    rw[lo,YBH]at pw
    have lf:=pw.done fun c hc ha=>Zcf.mpr ⟨hc,ha⟩
    have dp:=ZeV (W:=ws) (m:=m) (es:=es) (o:=outS ws m) (fun s c hc ha=>⟨estOf ws (s++[c]),by unfold outS onw;exact YAc.mpr ⟨_,YAc.mpr ⟨c,Zcf.mpr ⟨hc,ha⟩,rfl⟩,rfl⟩,Zba _ _⟩) he.ord i s_ hs x lf.mem lf.av
    refine⟨o,_,a4,_,_,_,kO4,rfl,?_,by rw[Zaf (YAS nal)];exact l4,n4,fun s hs'=>?_⟩
    .intro b y e
     by_cases c:b=au
     .subst c
      rw[hau]at e
      cases e
      rw[Zad]
     .rw[Zaf c];exact s4 b y c e
    .rw[ZaL hs]at hs'
     rcases YAe.mp hs' with z | z
     .exact la4 s z
     .rw[YAO.mp z];exact⟨x,v4',lf,by omega⟩
  .rintro σ H2 ⟨v3,v4,v5,kO,rfl,s2,l2,n2,la⟩
   rw[YAB,YBH]at la
   obtain⟨x,vx,lx,_⟩:=la [] hnil
   walk_at "rd"
   refine Zag ?_
   walk_at "rd"
   exact⟨pl,_,rfl,.inl ⟨kO,kTx [],.inl l2,rfl,vx.symm⟩,q x H2 s2 lx⟩
theorem Zof:FnScope ["self","text","kinds"] ["self","text","kinds"] (Zaj s_KL):=by walk_at "sc"
theorem ZoX (T:TL K mg base a tb):FnOk P w K mg base CX0 1 a.g_KL a.e_KL ["self","text","kinds"] (ZnS K a):=by
 refine T.fm_KL.ok Zof (fun vs H Q E h=>?_) (fun cdv A outer s H vs Q E hr h=>?_)
 .obtain⟨_,_,_,_,rfl,_⟩:=h;rfl
 .have hu64:=hr.units
  have hu1:=ZaH hr
  obtain⟨p,dx,l,m,rfl,hp,q⟩:=h
  refine⟨_,(Zab (Zj7 (pv 0) (pv 1) rfl)
   (Zae (Zj7 (pv 0) (pv 2) rfl))),?_⟩
  walk_at "rd"
  exact⟨p,a.c_LF,dx,[],rfl,hp,T.cl_LF,T.n_Plain_own_text,(by show 0<1000;decide),p,a.c_LF,dx,_,rfl,Zad,T.cl_LF,T.n_Plain_own_kinds,(by show 1<1000;decide),q _ ⟨dx,Zad⟩ (fun b o e ne=>by rw[Zaf ne,Zaf ne];exact e)⟩
theorem Zoj:FnScope ["self"] ["self"] (Zaj s_KF):=by walk_at "sc"
theorem ZoZ (T:TL K mg base a tb):FnOk P w K mg base CX0 1 a.g_KF a.e_KF ["self"] (ZnW K a):=by
 refine T.fm_KF.ok Zoj (fun vs H Q E h=>?_) (fun cdv A outer s H vs Q E hr h=>?_)
 .obtain⟨_,_,_,rfl,_⟩:=h;rfl
 .have hu64:=hr.units
  have hu1:=ZaH hr
  obtain⟨p,l,m,rfl,hp,ok,q⟩:=h
  refine⟨_,(Zae (Zar (Zav ZaO (Zam (Zap (K:=K) rfl) rfl T.z_len ZaB (Zaa (Zgf (K:=K) rfl (pv 0) rfl) Zac)) Zal))),?_⟩
  obtain⟨dx,hp⟩:=hp
  have l40:=ok.l40
  walk_at "rd"
  exact⟨p,_,dx,_,_,rfl,hp,T.cl_LF,T.n_Plain_own_text,ZfH,_,_,rfl,ZdK (by omega),q⟩
theorem Zok:FnScope ["self","length"] ["self","length"] (Zaj s_KA):=by walk_at "sc"
theorem Zo1 (T:TL K mg base a tb):FnOk P w K mg base CX0 1 a.g_KA a.e_KA ["self","length"] (ZnY K a):=by
 refine T.fm_KA.ok Zok (fun vs H Q E h=>?_) (fun cdv A outer s H vs Q E hr h=>?_)
 .obtain⟨_,_,_,_,rfl,_⟩:=h;rfl
 .have hu64:=hr.units
  have hu1:=ZaH hr
  obtain⟨p,l,m,n,rfl,hp,q⟩:=h
  refine⟨_,(Zae (Zar (Zgf (K:=K) rfl (pv 0) rfl))),?_⟩
  obtain⟨dx,hp⟩:=hp
  walk_at "rd"
  exact⟨p,_,dx,_,_,rfl,hp,T.cl_LF,T.n_Plain_own_text,ZfH,q⟩
theorem Zev:FnScope ["self","one","other"] ["self","one","other"] (Zaj ZbW):=by walk_at "sc"
theorem ZeD (T:TL K mg base a tb):FnOk P w K mg base CX0 1 a.g_Split_init a.e_Split_init ["self","one","other"] (Zc3 K a.c_LG 2 (fs2 "one" "other")):=by
 refine T.fi_LG.ok Zev (fun vs H Q E h=>?_) (fun cdv A outer s H vs Q E hr h=>?_)
 .obtain⟨e,r,rfl,hl,_⟩:=h;simp[hl]
 .have hu64:=hr.units
  have hu1:=ZaH hr
  obtain⟨e,r,rfl,hl,he,q⟩:=h
  obtain⟨x,y,rfl⟩:∃x y,r=[x,y]:=by match r,hl with | [x,y],_=>exact⟨x,y,rfl⟩
  refine⟨_,(Zab (ZaU (Zdh rfl T.m_KM T.r_KM (Zaa (pv 0) (Zaa (Zay (l:=[116,119,111,32,119,111,114,100,115,32,97,118,111,105,100,32,116,104,101,32,108,105,115,116,32,97,110,100,32,115,116,97,110,100,32,116,111,103,101,116,104,101,114,32,105,110,32,110,111,32,119,111,114,100,32,116,104,97,116,32,100,111,101,115]) (by decide +kernel)) Zac))))
   (Zab (Zcr (pv 0) (pv 1) rfl)
   (Zae (Zcr (pv 0) (pv 2) rfl)))),?_⟩
  walk_at "rd"
  refine⟨e,a.c_LG,none,_,rfl,he,T.x_LG,(by show 1<=1000;decide),e,a.c_LG,[],rfl,.bare he,T.x_LG.c,T.n_Split_one,(by show 0<1000;decide),fun H1 x1 k1 d1=>?_⟩
  have kk:∀b o,H b=some o->b≠e->H1 b=some o:=fun b o hb hne=>k1 b o hb hne fun d hd=>by rw[he]at hd;exact absurd hd Zf3
  refine⟨e,a.c_LG,_,rfl,x1,T.x_LG.c,T.n_Split_other,(by show 1<1000;decide),fun H2 x2 k2 _=>?_⟩
  refine q H2 x2 fun b o hb hne=>k2 b o (kk b o hb hne) hne fun d hd z=>?_
  subst z
  obtain⟨d',h1',h2'⟩:=d1
  rw[h1']at hd
  have e1:=ZhR hd
  subst e1
  rcases h2' with z | z
  .rw[he]at z;exact Zf3 z
  .rw[hb]at z;cases z
theorem Zdw:FnScope ["self","word"] ["self","word"] (Zaj ZbB):=by walk_at "sc"
theorem ZdE (T:TL K mg base a tb):FnOk P w K mg base CX0 1 a.g_TooLong_init a.e_TooLong_init ["self","word"] (Zc3 K a.c_KZ 1 (fs1 "word")):=by
 refine T.fi_KZ.ok Zdw (fun vs H Q E h=>?_) (fun cdv A outer s H vs Q E hr h=>?_)
 .obtain⟨e,r,rfl,hl,_⟩:=h;simp[hl]
 .have hu64:=hr.units
  have hu1:=ZaH hr
  obtain⟨e,r,rfl,hl,he,q⟩:=h
  obtain⟨x,rfl⟩:∃x,r=[x]:=by match r,hl with | [x],_=>exact⟨x,rfl⟩
  refine⟨_,(Zab (ZaU (Zdh rfl T.m_KM T.r_KM (Zaa (pv 0) (Zaa (Zay (l:=[97,32,119,111,114,100,32,119,105,116,104,32,116,111,111,32,109,97,110,121,32,108,101,116,116,101,114,115,32,97,118,111,105,100,115,32,116,104,101,32,108,105,115,116]) (by decide +kernel)) Zac))))
   (Zae (Zcr (pv 0) (pv 1) rfl))),?_⟩
  walk_at "rd"
  refine⟨e,a.c_KZ,none,_,rfl,he,T.x_KZ,(by show 1<=1000;decide),e,a.c_KZ,[],rfl,.bare he,T.x_KZ.c,T.n_TooLong_word,(by show 0<1000;decide),fun H1 x1 k1 _=>?_⟩
  exact q H1 x1 fun b o hb hne=>k1 b o hb hne fun d hd=>by rw[he]at hd;exact absurd hd Zf3
theorem Zn9:FnScope ["_law_script","_law_k"] ["_law_script","_law_k"] (Zaj s_LL):=by walk_at "sc"
theorem Zhx (T:TL K mg base a tb):FnOk P w K mg base CX0 1 a.f_LL a.d_LL ["_law_script","_law_k"] (Znx K a):=by
 refine T.f_LL.ok Zn9 (fun vs H Q E h=>?_) (fun cdv A outer s H vs Q E hr h=>?_)
 .obtain⟨_,_,_,rfl,_⟩:=h;rfl
 .have hu64:=hr.units
  have hu1:=ZaH hr
  obtain⟨b,ns,k,rfl,hS,hk,q⟩:=h
  refine⟨_,(Zab (ZaP (Zat Zjv (pv 1) (Zam (Zap (K:=K) rfl) rfl T.z_len ZaB (Zaa (pv 0) Zac)) (Zaw _)) (Zae (Zar (Zc9 (Zdk (K:=K) rfl) (pv 0) (pv 1) (fun _ _=>rfl)))) Zau)
   (Zae (Zar Zal))),?_⟩
  walk_at "rd"
  refine⟨_,_,rfl,.inl ⟨_,hS,rfl⟩,?_⟩
  rw[YAB]
  refine ite2 (fun h=>?_) (fun h=>?_)
  .have h':k<ns.length:=of_decide_eq_true h
   exact⟨b,_,k,_,rfl,rfl,hS,ZlD hk h',q _⟩
  .exact q _
theorem ZkM:FnScope ["_law_cell","_law_k","_law_number"] ["_law_cell","_law_k"] (Zaj s_LP):=by walk_at "sc"
theorem Zb0 (T:TL K mg base a tb):FnOk P w K mg base CX0 1 a.f_LP a.d_LP ["_law_cell","_law_k"] (Znt K a):=by
 refine T.f_LP.ok ZkM (fun vs H Q E h=>?_) (fun cdv A outer s H vs Q E hr h=>?_)
 .obtain⟨_,_,rfl,_⟩:=h;rfl
 .have hu64:=hr.units
  have hu1:=ZaH hr
  obtain⟨c,k,rfl,q⟩:=h
  refine⟨_,(Zab (Zan (i:=2) ZkM.nd rfl (Or.inl rfl) (Zav Za5 (Zav ZaO (Zav ZaO (Zav ZdD (Zav Za5 (pv 0) Zal) Zal) (Zav ZdD (pv 1) Zal)) Zal) Zal))
   (Zab (Zan (i:=2) ZkM.nd rfl (Or.inl rfl) (Zav Za5 (Zav ZaO (Zav ZaO (Zav ZdD (Zav Za5 (Zav ZdD (pv 2) (pv 2)) Zal) Zal) (Zav ZdD (pv 1) Zal)) Zal) Zal))
   (Zae (Zar (Zav Za5 (Zav ZdD (pv 2) (pv 2)) Zal))))),?_⟩
  walk_at "rd"
  exact⟨by decide,.inr ⟨by decide,by decide⟩,.inr ⟨by decide,by decide⟩,by decide,cm (by decide) (by decide),by decide,.inr ⟨by decide,by decide⟩,.inr ⟨by decide,by decide⟩,by decide,cm (by decide) (by decide),by decide,q _ (YBh _ (by decide))⟩
theorem Zjk:FnScope ["_law_text","_law_found","_law_start","_law_end"] ["_law_text"] (Zaj s_KQ):=by walk_at "sc"
theorem ZoT (T:TL K mg base a tb):FnOk P w K mg base CX0 1 a.f_KQ a.d_KQ ["_law_text"] (ZnO K a):=by
 refine T.f_KQ.ok Zjk (fun vs H Q E h=>?_) (fun cdv A outer s H vs Q E hr h=>?_)
 .obtain⟨_,rfl,_⟩:=h;rfl
 .have hu64:=hr.units
  have hu1:=ZaH hr
  obtain⟨l,rfl,hl,q⟩:=h
  refine⟨_,(Zab (Zan (i:=1) Zjk.nd rfl (Or.inl rfl) (ZeA (Zdf (Zay (l:=[]) (by decide +kernel)) Zbg Zey) rfl rfl (by simp) (by decide)))
   (Zab (ZaI YAb rfl (Zbr rfl T.z_range (Zaa (Zam (Zap (K:=K) rfl) rfl T.z_len ZaB (Zaa (pv 0) Zac)) Zac)) (Zaq (i:=2) Zjk.nd rfl (Or.inl rfl))
   (Zae (ZaI YAb rfl (ZcF rfl T.z_range (Zaa (Zav ZaO (pv 2) Zal) (Zaa (Zav ZaO (Zam (Zap (K:=K) rfl) rfl T.z_len ZaB (Zaa (pv 0) Zac)) Zal) Zac))) (Zaq (i:=3) Zjk.nd rfl (Or.inl rfl))
   (Zae (Zbq hu1 (pv 1) (ZaK Zcq (pv 0) (ZaM (pv 2)) (ZaM (pv 3))) Zbg rfl)))))
   (Zae (Zar (pv 1))))),?_⟩
  have sz:∀k:Nat,k<=3000->k<=sizeLine:=fun k h=>YAK h (by rw[sizeLine_eq];decide)
  walk_at "rd"
  intro p hp
  refine⟨Zad,[(kTx [],.bl true)],rfl,by show (1:Nat)<=15;decide,_,_,rfl,ZdK (by omega),_,rfl,by omega,by omega,?_⟩
  have s1:Same H (upd (upd H p (.dK [])) p (.dK (Zaz [] [(kTx [],.bl true)]))):=ZcB hp
  have h1:upd (upd H p (.dK [])) p (.dK (Zaz [] [(kTx [],.bl true)])) p=some (.dK (Zaz [] [(kTx [],.bl true)])):=Zad
  have k1:SoundD l (Zaz [] [(kTx [],.bl true)]):=by
   show SoundD l (putK [] (kTx []) (.bl true))
   exact SoundD.put ⟨fun _ h=>(by cases h),YCY⟩ (Inf.nil l)
  have l1:(Zaz [] [(kTx [],.bl true)]).length<=1:=ZaQ _ _
  have z1:(valV (Zaz [] [(kTx [],.bl true)]) (kTx [])).isSome=true:=by
   show (valV (putK [] (kTx []) (.bl true)) (kTx [])).isSome=true
   exact Za6 (.inr rfl)
  generalize Zaz [] [(kTx [],.bl true)]=kv0 at s1 h1 k1 l1 z1
  generalize upd (upd H p (.dK [])) p (.dK kv0)=H1 at s1 h1
  rw[Int.toNat_natCast]
  refine ForRun.range (fun i σ H'=>∃v2 v3 kvs,σ=[some (tx l),some (.ref p),v2,v3]/\Same H H'/\H' p=some (.dK kvs)/\SoundD l kvs/\kvs.length<=1+40*i/\(valV kvs (kTx [])).isSome=true/\∀s e,s<i->s<=e->e<=l.length->(valV kvs (kTx ((l.drop s).take (e-s)))).isSome=true) ⟨_,_,_,rfl,s1,h1,k1,by omega,z1,fun s e h=>by omega⟩ ?_ ?_
  .rintro i σ H2 hi ⟨v2,v3,kvs,rfl,s2,h2,k2,n2,z2,c2⟩
   walk_at "rd"
   refine⟨_,_,rfl,ZdK (by omega),_,_,rfl,⟨by omega,by omega,by omega,by omega⟩,?_⟩
   refine ForRun.range (fun j σ H'=>∃v3 kvs,σ=[some (tx l),some (.ref p),some (.int (0+(i:Int))),v3]/\Same H H'/\H' p=some (.dK kvs)/\SoundD l kvs/\kvs.length<=1+40*i+j/\(valV kvs (kTx [])).isSome=true/\(∀s e,s<i->s<=e->e<=l.length->(valV kvs (kTx ((l.drop s).take (e-s)))).isSome=true)/\∀e,i<e->e<=i+j->(valV kvs (kTx ((l.drop i).take (e-i)))).isSome=true) ⟨_,_,rfl,s2,h2,k2,by omega,z2,c2,fun e a b=>by omega⟩ ?_ ?_
   .rintro j σ H3 hj ⟨v3,kvs,rfl,s3,h3,k3,n3,z3,c3,e3⟩
    have q1:(0+(i:Int))=((i:Nat):Int):=by omega
    have q2:(0+(i:Int)+1+(j:Int))=((i+1+j:Nat):Int):=by omega
    walk_at "rd"
    refine⟨_,rfl,_,rfl,l,rfl,sz _ (by omega),?_⟩
    rw[q2,q1,ZiY]
    refine⟨p,_,rfl,DPut.k (k:=kTx ((l.drop i).take (i+1+j-i))) h3 (YAT (show _<3000 by omega) (sz 3000 (YAJ _))),_,_,rfl,same_upd3 s3 hp,Zad,k3.put (Zll (by omega) (by omega)),?_,Za6 (.inl z3),fun s e a b d=>Za6 (.inl (c3 s e a b d)),fun e a b=>?_⟩
    .have:=ZaE kvs (kTx ((l.drop i).take (i+1+j-i))) (.bl true)
     omega
    .by_cases ee:e=i+1+j
     .rw[ee];exact Za6 (.inr rfl)
     .exact Za6 (.inl (e3 e a (by omega)))
   .rintro σ H3 ⟨v3,kvs,rfl,s3,h3,k3,n3,z3,c3,e3⟩
    refine⟨_,_,_,rfl,s3,h3,k3,by omega,z3,fun s e a b d=>?_⟩
    by_cases hs:s<i
    .exact c3 s e hs b d
    .have hsi:s=i:=by omega
     subst hsi
     by_cases he:e=s
     .rw[he];simpa using z3
     .exact e3 e (by omega) (by omega)
  .rintro σ H2 ⟨v2,v3,kvs,rfl,s2,h2,k2,n2,z2,c2⟩
   walk_at "rd"
   exact q p kvs H2 s2 hp h2 ⟨ZjH k2.1 z2 c2,k2.2,by omega⟩
theorem Zl8:FnScope ["_law_one","_law_word","_law_at"] ["_law_one","_law_word"] (Zaj s_K5):=by walk_at "sc"
theorem Zjx (T:TL K mg base a tb):FnOk P w K mg base CX0 1 a.f_K5 a.d_K5 ["_law_one","_law_word"] (Zn2 K a):=by
 refine T.f_K5.ok Zl8 (fun vs H Q E h=>?_) (fun cdv A outer s H vs Q E hr h=>?_)
 .obtain⟨_,_,rfl,_⟩:=h;rfl
 .have hu64:=hr.units
  have hu1:=ZaH hr
  obtain⟨x,y,rfl,hx,hy,q⟩:=h
  refine⟨_,(Zab (ZaI YAb rfl (Zbr rfl T.z_range (Zaa (Zav ZaO (Zav Zkb (Zam (Zap (K:=K) rfl) rfl T.z_len ZaB (Zaa (pv 1) Zac)) (Zam (Zap (K:=K) rfl) rfl T.z_len ZaB (Zaa (pv 0) Zac))) Zal) Zac)) (Zaq (i:=2) Zl8.nd rfl (Or.inl rfl))
   (Zae (ZaP (Zat (ZaA (K:=K) rfl hu64) (ZaK Zcq (pv 1) (ZaM (pv 2)) (ZaM (Zav ZaO (pv 2) (Zam (Zap (K:=K) rfl) rfl T.z_len ZaB (Zaa (pv 0) Zac))))) (pv 0) (Zaw _)) (Zae (Zar Zbg)) Zau)))
   (Zae (Zar Zbg))),?_⟩
  have sz:∀k:Nat,k<=9000->k<=sizeLine:=fun k h=>YAK h (by rw[sizeLine_eq];decide)
  walk_at "rd"
  refine⟨_,_,rfl,ZbN hy,_,_,rfl,ZbN hx,_,rfl,by omega,by omega,ForRun.range (fun i σ H'=>∃v2,σ=[some (tx x),some (tx y),v2]/\H'=H/\∀j,j<i->¬AtW y x j) ⟨_,rfl,rfl,fun j hj=>by omega⟩ ?_ ?_⟩
  .rintro i σ H1 hi ⟨v2,rfl,rfl,no⟩
   have q1:(0+(i:Int))=((i:Nat):Int):=by omega
   have q2:(0+(i:Int))+((x.length:Nat):Int)=((i+x.length:Nat):Int):=by omega
   walk_at "rd"
   refine⟨_,rfl,_,_,rfl,ZbN hx,_,rfl,y,rfl,sz _ hy,?_⟩
   rw[q2,q1,ZiY,show i+x.length-i=x.length by omega]
   refine ZdT fun k hk=>⟨k,rfl,ite2 (fun h=>?_) (fun h=>⟨_,rfl,rfl,fun j hj ha=>?_⟩)⟩
   .have e:infB x y=true:=Za3.mpr ⟨i,by omega,hk.mp h⟩
    rw[e]at q
    exact q
   .by_cases c:j<i
    .exact no j c ha
    .have e:j=i:=by omega
     subst e
     exact h (hk.mpr ha.2)
  .rintro σ H1 ⟨v2,rfl,rfl,no⟩
   walk_at "rd"
   have e:infB x y=false:=ZjL.mpr fun ⟨i,hi⟩=>no i (by have:=hi.1;omega) hi
   rw[e]at q
   exact q
theorem Zn8:FnScope ["_law_kinds_here","_law_text"] ["_law_kinds_here","_law_text"] (Zaj s_LU):=by walk_at "sc"
theorem Zhw (T:TL K mg base a tb):FnOk P w K mg base CX0 1 a.f_LU a.d_LU ["_law_kinds_here","_law_text"] (Znp K a):=by
 refine T.f_LU.ok Zn8 (fun vs H Q E h=>?_) (fun cdv A outer s H vs Q E hr h=>?_)
 .obtain⟨_,_,rfl,_⟩:=h;rfl
 .have hu64:=hr.units
  have hu1:=ZaH hr
  obtain⟨m,w_,rfl,hw,q⟩:=h
  refine⟨_,(Zae (Zar (Zbt (Zam (ZaW (K:=K) rfl) rfl T.z_isinstance ZaR (Zaa (pv 1) (Zaa (ZeB (v:=.ty "str") rfl T.z_str Zi4 rfl) Zac))) (ZcG (ZaV (ZaA (K:=K) rfl hu64) (Za9 (N:=["_law_letter","_law_kinds_here"]) (ix:=[none,some 0]) rfl (ZaT rfl) rfl (ZbZ (pv 1)) (fun _ _ _ _=>(Zaq (i:=0) (show (["_law_letter","_law_kinds_here"]:List Str).Nodup from by decide +kernel) rfl (Or.inl rfl) (Or.inr rfl))) (fun _ _ _ _=>(Zcc (Zat ZeC (pv 0) (pv 1) rfl))) (fun _ _ _ _=>(pv 0))) (Zbe Zac) (Zaw _)))))),?_⟩
  walk_at "rd"
  refine⟨_,_,_,_,true,rfl,rfl,.ty (.pl (.str _)),Zg2,?_⟩
  refine iteT ?_
  refine⟨w_,rfl,CompRun.text (fun i=>!decide (w_.getD i 0∈m)) (fun i=>tx [w_.getD i 0]) hw ?_ ?_ ?_⟩
  .intro i H1 Q1 hi s1 q1
   walk_at "rd"
   exact⟨_,m,rfl,rfl,q1 H1 (Same.refl _)⟩
  .intro i H1 Q1 hi _ s1 q1
   walk_at "rd"
   exact q1 H1 (Same.refl _)
  .intro p1 H1 s1 n1 l1
   refine⟨YAg _,NewL.of fun p2 H2 s2 n2 l2=>Zem (xs:=((List.range w_.length).filter fun i=>!decide (w_.getD i 0∈m)).map fun i=>[w_.getD i 0]) (ys:=[]) (.mk (by rw[s2 _ _ l1,YBB];rfl)) (.mk l2) ?_⟩
   have e:decide ((((List.range w_.length).filter fun i=>!decide (w_.getD i 0∈m)).map fun i=>[w_.getD i 0])=[])=w_.all fun c=>m.contains c:=by
    rw[YAv,decide_eq_true_iff,List.map_eq_nil_iff,YCp,YAs]
    constructor
    .intro h x hx
     obtain⟨i,hi,rfl⟩:=List.mem_iff_getElem.mp hx
     have:=h i (YAu.mpr hi)
     rw[YAG,YAE hi]at this
     simpa using this
    .intro h i hi
     have hi:=YAu.mp hi
     have:=h _ (YBM hi)
     rw[YAG,YAE hi]
     simpa using this
   rw[e]
   exact q H2 (s1.trans s2)
theorem ZkL:FnScope ["_law_words","_law_found","_law_word"] ["_law_words"] (Zaj s_LT):=by walk_at "sc"
theorem ZoB (T:TL K mg base a tb):FnOk P w K mg base CX0 1 a.f_LT a.d_LT ["_law_words"] (Znq K a):=by
 refine T.f_LT.ok ZkL (fun vs H Q E h=>?_) (fun cdv A outer s H vs Q E hr h=>?_)
 .obtain⟨_,_,rfl,_⟩:=h;rfl
 .have hu64:=hr.units
  have hu1:=ZaH hr
  obtain⟨b,ws,rfl,hb,hn,q⟩:=h
  refine⟨_,(Zab (Zan (i:=1) ZkL.nd rfl (Or.inl rfl) Zbl)
   (Zab (ZaI YAb rfl (ZaC (K:=K) rfl (pv 0)) (Zaq (i:=2) ZkL.nd rfl (Or.inl rfl))
   (Zae (Zbq hu1 (pv 1) (pv 2) Zbg rfl)))
   (Zae (Zar (pv 1))))),?_⟩
  have sz:∀k:Nat,k<=9000->k<=sizeLine:=fun k h=>YAK h (by rw[sizeLine_eq];decide)
  walk_at "rd"
  intro p hp
  have s1:Same H (upd H p (.dK [])):=Zao hp
  have h1:upd H p (.dK []) p=some (.dK []):=Zad
  generalize upd H p (.dK [])=H1 at s1 h1
  refine⟨b,rfl,⟨_,.mk (s1 _ _ hb)⟩,ForRun.list (xs:=ws.map tx) (fun i σ H'=>∃v2 kvs,σ=[some (.ref b),some (.ref p),v2]/\Same H H'/\H' p=some (.dK kvs)/\kvs.length<=i/\∀u,(valV kvs (kTx u)).isSome=true↔u∈ws.take i) ⟨_,[],rfl,s1,h1,YAJ _,fun w=>by rw[YBf];exact Iff.intro (fun z=>Bool.noConfusion z) (fun z=>nomatch z)⟩ (fun i σ H' _ ⟨_,_,_,s',_⟩=>.mk (s' _ _ hb)) ?_ ?_⟩
  .rintro i x σ H2 hx ⟨v2,kvs,rfl,s2,h2,n2,k2⟩
   obtain⟨w_,hw,rfl⟩:=ZbS hx
   have hi:=(YAD.mp hw).1
   walk_at "rd"
   refine⟨p,_,rfl,DPut.k (k:=kTx w_) h2 (YAT (show _<9000 by omega) (sz 9000 (YAJ _))),_,putK kvs (kTx w_) (.bl true),rfl,same_upd3 s2 hp,Zad,?_,fun u=>?_⟩
   .have:=ZaE kvs (kTx w_) (.bl true);omega
   .rw[ZaS,ZaL hw,YAe,YAO]
    by_cases e:u=w_
    .rw[YAW (by rw[e])];exact Iff.intro (fun _=>.inr e) (fun _=>rfl)
    .rw[YAX (fun z=>e (ZaG z)),k2];exact Iff.intro .inl (fun z=>z.elim id (fun z=>absurd z e))
  .rintro σ H2 ⟨v2,kvs,rfl,s2,h2,n2,k2⟩
   walk_at "rd"
   rw[YAB,YBH]at k2
   exact q p kvs H2 s2 hp h2 k2
theorem Zjj:FnScope ["_law_words","_law_found","_law_word","_law_many"] ["_law_words"] (Zaj s_LK):=by walk_at "sc"
theorem ZoH (T:TL K mg base a tb):FnOk P w K mg base CX0 1 a.f_LK a.d_LK ["_law_words"] (Zny K a):=by
 refine T.f_LK.ok Zjj (fun vs H Q E h=>?_) (fun cdv A outer s H vs Q E hr h=>?_)
 .obtain⟨_,_,rfl,_⟩:=h;rfl
 .have hu64:=hr.units
  have hu1:=ZaH hr
  obtain⟨b,ws,rfl,hb,hn,h41,q⟩:=h
  refine⟨_,(Zab (Zan (i:=1) Zjj.nd rfl (Or.inl rfl) (ZeA (Zdf (Zay (l:=[]) (by decide +kernel)) Zbg Zey) rfl rfl (by simp) (by decide)))
   (Zab (ZaI YAb rfl (ZaC (K:=K) rfl (pv 0)) (Zaq (i:=2) Zjj.nd rfl (Or.inl rfl))
   (Zae (ZaI YAb rfl (ZcF rfl T.z_range (Zaa Zal (Zaa (Zam (Zap (K:=K) rfl) rfl T.z_len ZaB (Zaa (pv 2) Zac)) Zac))) (Zaq (i:=3) Zjj.nd rfl (Or.inl rfl))
   (Zae (Zbq hu1 (pv 1) (ZaK Zcq (pv 2) Za7 (ZaM (pv 3))) Zbg rfl)))))
   (Zae (Zar (pv 1))))),?_⟩
  have sz:∀k:Nat,k<=9000->k<=sizeLine:=fun k h=>YAK h (by rw[sizeLine_eq];decide)
  walk_at "rd"
  intro p hp
  have s1:Same H (upd (upd H p (.dK [])) p (.dK (Zaz [] [(kTx [],.bl true)]))):=ZcB hp
  have h1:upd (upd H p (.dK [])) p (.dK (Zaz [] [(kTx [],.bl true)])) p=some (.dK (Zaz [] [(kTx [],.bl true)])):=Zad
  refine⟨Zad,[(kTx [],.bl true)],rfl,by show (1:Nat)<=15;decide,b,rfl,⟨_,.mk (s1 _ _ hb)⟩,?_⟩
  have k1:StemP ws 0 0 (Zaz [] [(kTx [],.bl true)]):=StemP.start ws
  have l1:(Zaz [] [(kTx [],.bl true)]).length<=1:=ZaQ _ _
  generalize Zaz [] [(kTx [],.bl true)]=kv0 at s1 h1 k1 l1
  generalize upd (upd H p (.dK [])) p (.dK kv0)=H1 at s1 h1
  refine ForRun.list (xs:=ws.map tx) (fun i σ H'=>∃v2 v3 kvs,σ=[some (.ref b),some (.ref p),v2,v3]/\Same H H'/\H' p=some (.dK kvs)/\StemP ws i 0 kvs/\kvs.length<=1+41*i) ⟨_,_,_,rfl,s1,h1,k1,by omega⟩ (fun i σ H' _ ⟨_,_,_,_,s',_⟩=>.mk (s' _ _ hb)) ?_ ?_
  .rintro i x σ H2 hx ⟨v2,v3,kvs,rfl,s2,h2,k2,n2⟩
   obtain⟨w_,hw,rfl⟩:=ZbS hx
   have w41:=h41 w_ (YAM hw)
   have hi:=(YAD.mp hw).1
   walk_at "rd"
   refine⟨_,_,rfl,ZdK (by omega),_,_,rfl,⟨by omega,by omega,by omega,by omega⟩,?_⟩
   refine ForRun.range (fun j σ H'=>∃v3 kvs,σ=[some (.ref b),some (.ref p),some (tx w_),v3]/\Same H H'/\H' p=some (.dK kvs)/\StemP ws i (1+j) kvs/\kvs.length<=1+41*i+j) ⟨_,_,rfl,s2,h2,k2.one hw,by omega⟩ ?_ ?_
   .rintro j σ H3 hj ⟨v3,kvs,rfl,s3,h3,k3,n3⟩
    have e1:(1+(j:Int))=((1+j:Nat):Int):=by omega
    have j41:j<=41:=by omega
    walk_at "rd"
    refine⟨_,rfl,w_,rfl,sz _ (by omega),?_⟩
    rw[e1,ZdX]
    refine⟨p,_,rfl,DPut.k (k:=kTx (w_.take (1+j))) h3 (YAT (show _<9000 by omega) (sz 9000 (YAJ _))),_,_,rfl,same_upd3 s3 hp,Zad,?_,?_⟩
    .have:=k3.put hw (show 1+j<w_.length by omega)
     rw[show 1+(j+1)=1+j+1 by omega]
     exact this
    .have:=ZaE kvs (kTx (w_.take (1+j))) (.bl true)
     omega
   .rintro σ H3 ⟨v3,kvs,rfl,s3,h3,k3,n3⟩
    exact⟨_,_,_,rfl,s3,h3,k3.next hw (by omega),by omega⟩
  .rintro σ H2 ⟨v2,v3,kvs,rfl,s2,h2,k2,n2⟩
   walk_at "rd"
   rw[YAB]at k2 n2
   exact q p kvs H2 s2 hp h2 (k2.done (by omega))
theorem Zho:FnScope ["_law_forbidden_here","_law_heads_here","_law_kinds_here","_law_level_here","_law_found","_law_word","_law_letter","_law_text"] ["_law_forbidden_here","_law_heads_here","_law_kinds_here","_law_level_here"] (Zaj s_LM):=by walk_at "sc"
theorem ZoG (T:TL K mg base a tb):FnOk P w K mg base CX0 1 a.f_LM a.d_LM ["_law_forbidden_here","_law_heads_here","_law_kinds_here","_law_level_here"] (Znw K a):=by
 refine T.f_LM.ok Zho (fun vs H Q E h=>?_) (fun cdv A outer s H vs Q E hr h=>?_)
 .obtain⟨_,_,_,_,_,_,_,_,_,rfl,_⟩:=h;rfl
 .have hu64:=hr.units
  have hu1:=ZaH hr
  obtain⟨pf,ph,pl,kf,kh,kl,ws,m,k,rfl,hpf,hph,hpl,nf,nh,kfi,khs,kll,ok,lk,an,q⟩:=h
  refine⟨_,(Zab (Zan (i:=4) Zho.nd rfl (Or.inl rfl) Zbl)
   (Zab (Zcs (ZaI YAb rfl (Zct (pv 3)) (Zaq (i:=5) Zho.nd rfl (Or.inl rfl))
   (Zae (ZaI YAb rfl (ZbZ (pv 2)) (Zaq (i:=6) Zho.nd rfl (Or.inl rfl))
   (Zab (Zan (i:=7) Zho.nd rfl (Or.inl rfl) (Zav ZaN (pv 5) (pv 6)))
   (Zah (Zab (Zcb YAb (PW.pt (Zfg (ZcD (Zbu hu1 (pv 7) (pv 1))) (ZdA (ZcD (Zbu hu1 (pv 7) (pv 0))))))
   (Zae (Zan (i:=7) Zho.nd rfl (Or.inl rfl) (ZaK Zcq (pv 7) (ZaM Zal) Za7))))
   (Zah (Zae (ZaP (ZcD (Zbu hu1 (pv 7) (pv 0))) (Zae (Zbq hu1 (pv 4) (pv 7) Zbg rfl)) Zau))))))))))
   (Zae (Zar (pv 4))))),?_⟩
  have sz:∀k:Nat,k<=100000->k<=sizeLine:=fun k h=>YAK h (by rw[sizeLine_eq];decide)
  have m4:=ok.m4
  obtain⟨ss,hs⟩:∃ss:Q22,ss.map kTx=kl.map (·.1):=Zdj kll.key
  have sl:ss.length=kl.length:=by have:=congrArg List.length hs;simpa using this
  obtain⟨ssm,snd,s82⟩:=kll.len lk hs
  walk_at "rd"
  intro p hp
  have s1:Same H (upd H p (.dK [])):=Zao hp
  have h1:upd H p (.dK []) p=some (.dK []):=Zad
  generalize upd H p (.dK [])=H1 at s1 h1
  have np:pl≠p:=Zai hpl hp
  have npf:pf≠p:=Zai hpf hp
  have nph:ph≠p:=Zai hph hp
  refine⟨pl,kl,s1 _ _ hpl,pl,kl,rfl,s1 _ _ hpl,fun o=>ForRun.dict (fun i σ H'=>∃(v5 v6 v7:Option V) (kvs:List (Key×V)),σ=[some (.ref pf),some (.ref ph),some (tx m),some (.ref pl),some (.ref p),v5,v6,v7]/\SameX pl H H'/\H' pl=some (.frz o (.dK kl))/\H' p=some (.dK kvs)/\LvP ws m k ss i 0 kvs) ⟨_,_,_,[],rfl,(Zjl s1).updX,Zad,by rw[Zaf (YAS np)];exact h1,LvP.start⟩ (fun i σ H' ⟨_,_,_,_,_,_,h,_⟩=>h) ?_ ?_⟩
  .rintro i kv σ H4 hkv ⟨v5,v6,v7,kvs,rfl,s4,h4,f4,L4⟩
   have hi:i<kl.length:=(YAD.mp hkv).1
   obtain⟨x,hx⟩:∃x,ss[i]?=some x:=⟨_,YAE (by omega)⟩
   have ex:kv.1=kTx x:=by
    have:=congrArg (fun l=>l[i]?) hs
    simp only[YAZ,hx,hkv,YCN]at this
    exact(Option.some.inj this).symm
   have lvx:Lv ws m k x:=(ssm x).mp (YAM hx)
   have xst:=lvx.stem
   have x41:=lk.stem41 xst
   rw[ex,ZeL]
   walk_at "rd"
   refine⟨m,rfl,ForRun.text (fun j σ H'=>∃(v6 v7:Option V) (kvs:List (Key×V)),σ=[some (.ref pf),some (.ref ph),some (tx m),some (.ref pl),some (.ref p),some (tx x),v6,v7]/\SameX pl H H'/\H' pl=some (.frz o (.dK kl))/\H' p=some (.dK kvs)/\LvP ws m k ss i j kvs) ⟨_,_,kvs,rfl,s4,h4,f4,L4⟩ ?_ ?_⟩
   .rintro j c σ H5 hc ⟨v6,v7,kvs,rfl,s5,h5,f5,L5⟩
    have hj:j<m.length:=(YAD.mp hc).1
    have xl:(x++[c]).length<=42:=by rw[YAI,YAN];omega
    walk_at "rd"
    refine⟨sz _ (by omega),Zag ?_⟩
    walk_at "rd"
    have hfX:∀ {H'},Same H5 H'->H' pf=some (.dK kf):=fun s=>s _ _ (s5 _ _ nf hpf)
    have hhX:∀ {H'},Same H5 H'->H' ph=some (.dK kh):=fun s=>s _ _ (s5 _ _ nh hph)
    refine WhileRun.by (fun σ H'=>∃(d:Nat),σ=[some (.ref pf),some (.ref ph),some (tx m),some (.ref pl),some (.ref p),some (tx x),some (tx [c]),some (tx ((x++[c]).drop d))]/\Same H5 H'/\d<=(x++[c]).length/\∀j,j<d->¬Stem ws ((x++[c]).drop j)/\(x++[c]).drop j∉ws) (fun σ _=>match σ with | [_,_,_,_,_,_,_,some (.str t)]=>t.length | _=>0) ⟨0,rfl,Same.refl _,YAg _,fun j hj=>by omega⟩ ?_
    rintro σ H6 ⟨d,rfl,s6,dl,dn⟩
    refine⟨!(valV kh (kTx ((x++[c]).drop d))).isSome&&!(valV kf (kTx ((x++[c]).drop d))).isSome,fun Q' hq=>?_,fun H7 s7=>?_⟩
    .walk_at "rd"
     refine⟨ph,_,rfl,.inl ⟨kh,kTx ((x++[c]).drop d),.inl (hhX s6),rfl,rfl⟩,?_⟩
     by_cases b1:(valV kh (kTx ((x++[c]).drop d))).isSome=true
     .rw[b1]at hq ⊢
      exact iteF (hq H6 (Same.refl _))
     .rw[YAr.mpr b1]at hq ⊢
      refine iteT ⟨pf,_,rfl,.inl ⟨kf,kTx ((x++[c]).drop d),.inl (hfX s6),rfl,rfl⟩,?_⟩
      exact hq H6 (Same.refl _)
    .by_cases b:(!(valV kh (kTx ((x++[c]).drop d))).isSome&&!(valV kf (kTx ((x++[c]).drop d))).isSome)=true
     .rw[b]
      refine iteT ?_
      walk_at "rd"
      have b':¬Stem ws ((x++[c]).drop d)/\(x++[c]).drop d∉ws:=by
       rw[YAU,Bool.not_eq_true',Bool.not_eq_true',YAr,YAr]at b
       exact⟨fun z=>b.1 (khs.has _ z),fun z=>b.2 ((kfi _).mpr z)⟩
      have dlt:d<(x++[c]).length:=by
       refine Nat.lt_of_le_of_ne dl fun e=>b'.1 ?_
       rw[e,List.drop_length];exact .inl rfl
      have c1:cut ((x++[c]).drop d) (some 1) none=(x++[c]).drop (d+1):=by rw[<-YCZ];exact Zbo ((x++[c]).drop d) 1
      have dn2:∀j,j<d+1->¬Stem ws ((x++[c]).drop j)/\(x++[c]).drop j∉ws:=fun j hj=>by
       by_cases e:j<d
       .exact dn j e
       .have:j=d:=by omega
        rw[this];exact b'
      have tl:∀l:Q11,(⟨l.toArray⟩:Str).length=l.length:=fun l=>by simp[Str.length]
      refine⟨_,rfl,(x++[c]).drop d,rfl,sz _ (by rw[YAn];omega),?_⟩
      rw[c1]
      refine⟨⟨d+1,rfl,s6.trans s7,dlt,dn2⟩,?_⟩
      rw[tl,tl,YAn,YAn]
      omega
     .rw[YAr.mpr b]
      refine iteF ?_
      walk_at "rd"
      refine Zag ?_
      walk_at "rd"
      have st:Stops ws (x++[c]) ((x++[c]).drop d):=⟨d,dl,rfl,(by
       refine YAp fun z=>b ?_
       rw[YAU,Bool.not_eq_true',Bool.not_eq_true',YAr,YAr]
       exact⟨fun y=>z (.inl ((khs.iff _).mp y)),fun y=>z (.inr ((kfi _).mp y))⟩),dn⟩
      have ok2:=Zjf an lk.ne xst st
      have s57:=s6.trans s7
      refine⟨pf,_,rfl,.inl ⟨kf,kTx ((x++[c]).drop d),.inl (hfX s57),rfl,rfl⟩,ite2 (fun h=>?_) (fun h=>?_)⟩
      .have nw:(x++[c]).drop d∉ws:=fun z=>by rw[(kfi _).mpr z]at h;exact absurd h (by decide)
       obtain⟨av,es⟩:=ok2.2 nw
       refine⟨p,_,rfl,DPut.k (k:=kTx ((x++[c]).drop d)) (s57 _ _ f5) (YCj (L5.len lk) (YAT (show 8201<100000 by decide) (sz _ (YAJ _)))),_,_,_,rfl,(s5.trans (Zjl s57)).updN hp,by rw[Zaf np];exact s57 _ _ h5,Zad,L5.put hx lvx hc av es⟩
      .have nw:(x++[c]).drop d∈ws:=(kfi _).mp (by
        cases e:(valV kf (kTx ((x++[c]).drop d))).isSome with
        | true=>rfl
        | false=>rw[e]at h;exact absurd rfl h)
       exact⟨_,_,kvs,rfl,s5.trans (Zjl s57),s57 _ _ h5,s57 _ _ f5,L5.pass hx hc (ok2.1 nw)⟩
   .rintro σ H5 ⟨v6,v7,kvs,rfl,s5,h5,f5,L5⟩
    exact⟨_,_,_,kvs,rfl,s5,h5,f5,L5.next⟩
  .rintro σ H4 ⟨v5,v6,v7,kvs,rfl,s4,h4,f4,L4⟩
   refine⟨o,kl,h4,?_⟩
   walk_at "rd"
   rw[<-sl]at L4
   exact q p kvs (upd H4 pl (.dK kl)) (SameX.same s4.updX hpl Zad) hp (by rw[Zaf (YAS np)];exact f4) (L4.done fun s h=>(ssm s).mpr h)
theorem Zob:FnScope ["thing"] ["thing"] (Zaj s_KT):=by walk_at "sc"
theorem ZoR (T:TL K mg base a tb):FnOk P w K mg base CX0 2 a.f_KT a.d_KT ["thing"] (ZnL K a):=by
 refine T.f_KT.ok Zob (fun vs H Q E h=>?_) (fun cdv A outer s H vs Q E hr h=>?_)
 .obtain⟨_,rfl,_⟩:=h;rfl
 .have hu64:=hr.units
  have hu1:=ZaH hr
  obtain⟨l,rfl,hl,q⟩:=h
  refine⟨_,(Zab (ZaP (ZbH (Za1 (Zam (ZaW (K:=K) rfl) rfl T.z_isinstance ZaR (Zaa (pv 0) (Zaa (ZeB (v:=.ty "str") rfl T.z_str Zi4 rfl) Zac))))) (Zae (Zar Zbg)) Zau)
   (Zab (ZaP (PW.pt (ZbY (Zat Zjv (Zam (Zap (K:=K) rfl) rfl T.z_len ZaB (Zaa (pv 0) Zac)) Zal (Zaw _)) (ZbX (Zat Zfn (Zam (Zap (K:=K) rfl) rfl T.z_len ZaB (Zaa (pv 0) Zac)) (Zcd rfl T.c_KH) (Zaw _))))) (Zae (Zar Zbg)) Zau)
   (Zae (Zar (Zbt (Zak (ZmC T) (hr.mono (by decide)) rfl T.m_KR T.f_KR.kp T.b_KR .nil Zas (Zaa (pv 0) (Zaa (Zjs rfl T.c_KC) Zac))) (ZcG (ZaV (ZaA (K:=K) rfl hu64) (Zbs (ZfV rfl) rfl T.z_list ZgE (Zaa (pv 0) Zac)) (Zam (Zb5 rfl) rfl T.z_sorted Zb7 (Zaa (Zbs (Zd0 rfl) rfl T.z_set Zkp (Zaa (pv 0) Zac)) Zac)) (Zaw _)))))))),?_⟩
  walk_at "rd"
  refine⟨_,_,_,_,true,rfl,rfl,.ty (.pl (.str _)),Zg2,iteF ?_⟩
  refine⟨_,_,rfl,ZdK hl,?_⟩
  refine ite2 (fun h=>iteT' ?_) (fun h=>?_)
  .have h1:¬1<=l.length:=by have:=of_decide_eq_true h;omega
   have e:=q H (Same.refl _)
   unfold isk at e
   rw[decide_eq_false h1,YBw,YBw,YBw]at e
   exact e
  .have h1:1<=l.length:=by have:¬((l.length:Nat):Int)<1:=fun z=>h (decide_eq_true z);omega
   refine⟨_,_,rfl,ZdK hl,?_⟩
   refine ite2 (fun h'=>?_) (fun h'=>?_)
   .have h4:¬l.length<=4:=by have:=of_decide_eq_true h';omega
    have e:=q H (Same.refl _)
    unfold isk at e
    rw[decide_eq_false h4,YCI,YBw,YBw]at e
    exact e
   .have h4:l.length<=4:=by have:¬4<((l.length:Nat):Int):=fun z=>h' (decide_eq_true z);omega
    refine⟨l,LET,by rw[Zld],hl,fun H2 s2=>⟨_,rfl,?_⟩⟩
    refine ite2 (fun ha=>?_) (fun ha=>?_)
    .refine⟨l,rfl,hl,NewL.of fun p1 H3 s3 n3 l3=>?_⟩
     refine⟨signs l,by rw[signs_length];exact hl,.inl ⟨l,rfl,rfl⟩,fun p4 n4=>?_⟩
     refine⟨p4,ddl (signs l),rfl,Zad,YCj (Zlw l) (by omega),NewL.of fun p5 H5 s5 n5 l5=>?_⟩
     refine Zem (.mk ((Zao n4).trans s5 _ _ l3)) (.mk l5) ?_
     have e:=q H5 (s2.trans (s3.trans ((Zao n4).trans s5)))
     unfold isk at e
     rw[decide_eq_true h1,decide_eq_true h4,ha,YCV,YCV,YCV]at e
     exact e
    .have e:=q H2 s2
     unfold isk at e
     rw[YAr.mpr ha,YCI,YBw]at e
     exact e
theorem Zon:FnScope ["thing","kinds","most"] ["thing","kinds","most"] (Zaj s_K1):=by walk_at "sc"
theorem ZmG (T:TL K mg base a tb):FnOk P w K mg base CX0 2 a.f_K1 a.d_K1 ["thing","kinds","most"] (Zn6 K a):=by
 refine T.f_K1.ok Zon (fun vs H Q E h=>?_) (fun cdv A outer s H vs Q E hr h=>?_)
 .obtain⟨_,_,_,rfl,_⟩:=h;rfl
 .have hu64:=hr.units
  have hu1:=ZaH hr
  obtain⟨l,m,most,rfl,hl,q⟩:=h
  refine⟨_,(Zae (Zar (Zbt (Zam (ZaW (K:=K) rfl) rfl T.z_isinstance ZaR (Zaa (pv 0) (Zaa (ZeB (v:=.ty "str") rfl T.z_str Zi4 rfl) Zac))) (Zbt (ZaV Zmw (Zam (Zap (K:=K) rfl) rfl T.z_len ZaB (Zaa (pv 0) Zac)) (pv 2) (Zaw _)) (ZcG (Zak (ZmC T) (hr.mono (by decide)) rfl T.m_KR T.f_KR.kp T.b_KR .nil Zas (Zaa (pv 0) (Zaa (pv 1) Zac)))))))),?_⟩
  walk_at "rd"
  refine⟨_,_,_,_,true,rfl,rfl,.ty (.pl (.str _)),Zg2,iteT ?_⟩
  refine⟨_,_,rfl,ZdK hl,?_⟩
  refine ite2 (fun h=>?_) (fun h=>?_)
  .refine⟨l,m,rfl,hl,fun H2 s2=>?_⟩
   have e:=q H2 s2
   unfold isw at e
   rw[h,YCV]at e
   exact e
  .have e:=q H (Same.refl _)
   unfold isw at e
   rw[YAr.mpr h,YBw]at e
   exact e
theorem Zie:FnScope ["words","kinds","stems","ways","stem","onward"] ["words","kinds"] (Zaj s_LV):=by walk_at "sc"
theorem ZoA (T:TL K mg base a tb):FnOk P w K mg base CX0 2 a.f_LV a.d_LV ["words","kinds"] (Zno K a):=by
 refine T.f_LV.ok Zie (fun vs H Q E h=>?_) (fun cdv A outer s H vs Q E hr h=>?_)
 .obtain⟨_,_,_,rfl,_⟩:=h;rfl
 .have hu64:=hr.units
  have hu1:=ZaH hr
  obtain⟨b,ws,m,rfl,hb,ok,lk,q⟩:=h
  refine⟨_,(Zab (Zan (i:=2) Zie.nd rfl (Or.inr rfl) (Zak (ZoC T) (hr.mono (by decide)) rfl T.m_LR T.f_LR.kp T.b_LR .nil Zas (Zaa (pv 0) Zac)))
   (Zah (Zab (Zan (i:=3) Zie.nd rfl (Or.inl rfl) Zbl)
   (Zah (Zab (Zcs (ZaI YAb rfl (Zct (pv 2)) (Zaq (i:=4) Zie.nd rfl (Or.inr rfl))
   (Zab (Zim (i:=5) (N:=["letter","stem","words"]) (ix:=[none,some 4,some 0]) rfl Zie.nd rfl rfl rfl (ZaT rfl) rfl (ZbZ (pv 1)) (fun _ _ _ _=>(Zaq (i:=0) (show (["letter","stem","words"]:List Str).Nodup from by decide +kernel) rfl (Or.inl rfl) (Or.inr rfl))) (fun _ _ _ _=>(Zcc (Za1 (Zak (ZmF T) (hr.mono (by decide)) rfl T.m_K9 T.f_K9.kp T.b_K9 .nil Zas (Zaa (pv 2) (Zaa (Zav ZaN (pv 1) (pv 0)) Zac)))))) (fun _ _ _ _=>(pv 0)))
   (Zah (Zae (Zbq hu1 (pv 3) (pv 4) (Zbs (Zhb rfl) rfl T.z_dict Zi5 (Zaa (Za9 (N:=["letter","stem","stems"]) (ix:=[none,some 4,some 2]) rfl (ZaT rfl) rfl (ZaC (K:=K) rfl (pv 5)) (fun _ _ _ _=>(Zaq (i:=0) (show (["letter","stem","stems"]:List Str).Nodup from by decide +kernel) rfl (Or.inl rfl) (Or.inr rfl))) (fun _ _ _ _=>Zbk) (fun _ _ _ _=>(ZdC (Zaa (pv 0) (Zaa (Zak (ZoN T) (hr.mono (by decide)) rfl T.m_LB T.f_LB.kp T.b_LB .nil Zas (Zaa (pv 2) (Zaa (Zav ZaN (pv 1) (pv 0)) Zac))) Zac))))) Zac)) rfl))))))
   (Zah (Zae (Zar (pv 3))))))))),?_⟩
  have sz:∀k:Nat,k<=9000->k<=sizeLine:=fun k h=>YAK h (by rw[sizeLine_eq];decide)
  have ln:=lk.len
  have m4:=ok.m4
  walk_at "rd"
  refine⟨b,ws,rfl,hb,by omega,fun w hw=>lk.w41 w hw,fun p0 kvs H1 s1 n0 h0 sd=>?_⟩
  show Zbc _ _ _ _
  refine Zag ?_
  walk_at "rd"
  intro pw npw
  have s2:Same H1 (upd H1 pw (.dK [])):=Zao npw
  have l2:upd H1 pw (.dK []) pw=some (.dK []):=Zad
  have nw:H pw=none:=s1.free npw
  have ne:p0≠pw:=Zai h0 npw
  generalize upd H1 pw (.dK [])=H2 at s2 l2
  refine Zag ?_
  walk_at "rd"
  refine⟨p0,kvs,s2 _ _ h0,p0,kvs,rfl,s2 _ _ h0,fun o=>ForRun.dict (fun i σ H'=>∃v4 v5 kw ss,σ=[some (.ref b),some (tx m),some (.ref p0),some (.ref pw),v4,v5]/\Same H H'/\H' p0=some (.frz o (.dK kvs))/\H' pw=some (.dK kw)/\WaysL H' pw kw ws m ss/\ss.map kTx=(kvs.map (·.1)).take i) ⟨_,_,[],[],rfl,same_upd3 (s1.trans s2) n0,Zad,by rw[Zaf (YAS ne)];exact l2,⟨rfl,fun i u h=>by simp at h⟩,by simp⟩ (fun i σ H' ⟨_,_,_,_,_,_,h,_⟩=>h) ?_ ?_⟩
  .rintro i kv σ H3 hkv ⟨v4,v5,kw,ss,rfl,s3,f3,w3,wl,e3⟩
   obtain⟨u,ek,hu⟩:=sd.key kv (YAM hkv)
   have ul:u.length<=41:=by
    rcases hu with rfl | ⟨v,hv,k,hk,rfl⟩
    .exact YAg _
    .have:=lk.w41 _ hv
     rw[YAd];omega
   rw[ek,ZeL]
   walk_at "rd"
   refine⟨m,rfl,CompRun.text (fun i=>avB ws (u++[m.getD i 0])) (fun i=>tx [m.getD i 0]) (by omega) ?_ ?_ ?_⟩
   .intro j H4 Q4 hj s4 q4
    have sl:(u++[m.getD j 0]).length<=42:=by rw[YAI,YAN];omega
    walk_at "rd"
    exact⟨sz _ (by omega),b,ws,_,rfl,s4 _ _ (s3 _ _ hb),by omega,by omega,fun H5 s5=>q4 H5 s5⟩
   .intro j H4 Q4 hj _ s4 q4
    walk_at "rd"
    exact q4 H4 (Same.refl _)
   .intro p1 H4 s4 n4 l4
    rw[ZfJ (fun c=>avB ws (u++[c])) (fun c=>tx [c]) m]at l4
    refine Zag ?_
    walk_at "rd"
    have ol:(onwC ws m u).length<=4:=YAK (YAt _ _) m4
    refine⟨p1,rfl,⟨_,.mk l4⟩,CompRun.tups (xs:=(onwC ws m u).map fun c=>tx [c]) (fun j vs=>∃c,(onwC ws m u)[j]?=some c/\vs=[tx [c],tx (estOf ws (u++[c]))]) (by rw[YAB];omega) (.mk l4) ?_ ?_⟩
    .intro j H5 Q5 hj s5 q5
     rw[YAB]at hj
     have hc:(onwC ws m u)[j]?=some ((onwC ws m u).getD j 0):=by rw[YAG,YAE hj];rfl
     have eg:((onwC ws m u).map fun c=>tx [c]).getD j .non=tx [(onwC ws m u).getD j 0]:=by simp[YAG,hj]
     rw[eg]
     generalize (onwC ws m u).getD j 0=c at hc
     have sl:(u++[c]).length<=42:=by rw[YAI,YAN];omega
     walk_at "rd"
     refine⟨sz _ (by omega),p0,kvs,ws,u++[c],rfl,.inr ⟨o,s5 _ _ (s4 _ _ f3)⟩,sd,by omega,fun e H6 s6 he=>?_⟩
     refine⟨sz _ (by decide),NewT.of fun pt H7 s7 n7 l7=>q5 pt _ H7 (s6.trans s7) l7 ⟨c,hc,?_⟩⟩
     rw[ZdQ he (Zba _ _)]
    .intro p2 ys H5 s5 n5 l5 yl hy
     refine⟨p2,ys,(onw ws m u).map wayK,rfl,l5,⟨by unfold onw;rw[yl,YAB,YAB,YAB],fun j y hj=>?_⟩,fun d hd=>?_⟩
     .obtain⟨t,vs,rfl,ht,c,hc,rfl⟩:=hy j y hj
      refine⟨wayK (c,estOf ws (u++[c])),t,?_,rfl,ht⟩
      unfold onw
      rw[YBB,YAZ,hc]
      rfl
     .rw[ZeH _ [] (by rw[YBX];exact Zgh (ZcM ok.k)),YBX]
      have w5:=s5 _ _ (s4 _ _ w3)
      have dn:d≠pw:=YAS (Zai w5 hd)
      have ki:(kvs.map (·.1))[i]?=some (kTx u):=by rw[YAZ,hkv,<-ek];rfl
      have nk:valV kw (kTx u)=none:=ZhY (by rw[wl.keys,e3];exact ZmI sd.nd ki)
      have kl:kw.length<=i:=by
       have:=congrArg List.length e3
       rw[YAB,YAd]at this
       rw[wl.1];omega
      have il:=(YAD.mp hkv).1
      have sl:=sd.len
      have s45:=s4.trans s5
      have s6:Same H5 (upd H5 d (.dK ((onw ws m u).map wayK))):=Zao hd
      have d6:upd H5 d (.dK ((onw ws m u).map wayK)) d=some (.dK ((onw ws m u).map wayK)):=Zad
      generalize upd H5 d (.dK ((onw ws m u).map wayK))=H6 at s6 d6
      refine⟨pw,_,rfl,DPut.k (k:=kTx u) (s6 _ _ w5) (YAT (show _<9000 by omega) (sz 9000 (YAJ _))),_,_,kw++[(kTx u,.ref d)],ss++[u],rfl,same_upd3 (s3.trans (s45.trans s6)) nw,by rw[Zaf ne];exact s6 _ _ (s45 _ _ f3),by rw[Zad,Zdd _ nk],?_,?_⟩
      .refine WaysL.snoc ((wl.same (s45.trans s6)).chg fun b o n e=>by rw[Zaf n];exact e) dn ?_
       rw[Zaf dn];exact d6
      .rw[YAq,e3,YCt,ki];rfl
  .rintro σ H3 ⟨v4,v5,kw,ss,rfl,s3,f3,w3,wl,e3⟩
   refine⟨o,kvs,f3,?_⟩
   walk_at "rd"
   refine Zag ?_
   walk_at "rd"
   have e4:ss.map kTx=kvs.map (·.1):=by rw[e3,YCJ (by rw[YAB];exact YAJ _)]
   have hm:∀v,v∈ss↔Stem ws v:=fun v=>by
    constructor
    .intro hv
     have:kTx v∈kvs.map (·.1):=by rw[<-e4];exact YBQ hv
     obtain⟨kv,hk,ek⟩:=YAc.mp this
     obtain⟨u,eu,hu⟩:=sd.key kv hk
     rw[ZaG (ek.symm.trans eu)];exact hu
    .intro hv
     obtain⟨kv,hk,ek⟩:=Zby (sd.has v hv)
     have:kTx v∈ss.map kTx:=by rw[e4,<-ek];exact YBQ hk
     obtain⟨x,hx,ex⟩:=YAc.mp this
     rw[<-ZaG ex];exact hx
   refine q pw kw ss (upd H3 p0 (.dK kvs)) (same_upd3 s3 n0) nw (by rw[Zaf (YAS ne)];exact w3) ⟨wl.1,fun i u hu=>?_⟩ ⟨?_,hm,?_⟩
   .obtain⟨a',h1,h2,h3⟩:=wl.2 i u hu
    have n3:a'≠p0:=by
     rintro rfl
     have z:=h3.symm.trans f3
     exact nomatch z
    refine⟨a',h1,h2,?_⟩
    rw[Zaf n3];exact h3
   .have:=sd.nd
    rw[<-e4]at this
    exact YCv (fun h e=>h (by rw[e])) (YBb.mp this)
   .have:=congrArg List.length e4
    rw[YAB,YAB]at this
    have:=sd.len
    omega
theorem Zoi:FnScope ["self","length"] ["self","length"] (Zaj s_KG):=by walk_at "sc"
theorem ZmE (T:TL K mg base a tb):FnOk P w K mg base CX0 2 a.g_KG a.e_KG ["self","length"] (ZnV K a):=by
 refine T.fm_KG.ok Zoi (fun vs H Q E h=>?_) (fun cdv A outer s H vs Q E hr h=>?_)
 .obtain⟨_,_,_,_,rfl,_⟩:=h;rfl
 .have hu64:=hr.units
  have hu1:=ZaH hr
  obtain⟨p,l,m,n,rfl,hp,ok,hn,q⟩:=h
  refine⟨_,(Zae (Zar (Zak (ZoK T) (hr.mono (by decide)) rfl T.m_LE T.f_LE.kp T.b_LE .nil Zas (Zaa (Zge (pv 0) T.cl_LF T.me_Plain_laid_out (Zo1 T) (hr.mono (by decide)) T.b_KA .nil Zas (Zaa (pv 1) Zac)) (Zaa (pv 1) Zac))))),?_⟩
  obtain⟨dx,hp⟩:=hp
  have l40:=ok.l40
  walk_at "rd"
  exact⟨p,dx,_,rfl,hp,ZdS (by decide +kernel) (by decide +kernel),p,l,m,n,rfl,⟨dx,hp⟩,l,n,rfl,by omega,by omega,by omega,q⟩
theorem Zhp:FnScope ["_law_cell","_law_at","_law_found","_law_k"] ["_law_cell"] (Zaj s_LC):=by walk_at "sc"
theorem ZoM (T:TL K mg base a tb):FnOk P w K mg base CX0 2 a.f_LC a.d_LC ["_law_cell"] (ZnE K a):=by
 refine T.f_LC.ok Zhp (fun vs H Q E h=>?_) (fun cdv A outer s H vs Q E hr h=>?_)
 .obtain⟨_,rfl,_⟩:=h;rfl
 .have hu64:=hr.units
  have hu1:=ZaH hr
  obtain⟨c,rfl,q⟩:=h
  refine⟨_,(Zab (Zan (i:=1) Zhp.nd rfl (Or.inl rfl) (Zav Za5 (Zak (Zb0 T) (hr.mono (by decide)) rfl T.m_LP T.f_LP.kp T.b_LP .nil Zas (Zaa (pv 0) (Zaa Zal Zac))) Zal))
   (Zab (Zan (i:=2) Zhp.nd rfl (Or.inl rfl) (Zc9 ZiM (Zay (l:=[97,98,99,100,101,102,103,104]) (by decide +kernel)) (pv 1) (fun _ _=>rfl)))
   (Zab (ZaI YAb rfl (Zbr rfl T.z_range (Zaa (Zav Za5 (Zak (Zb0 T) (hr.mono (by decide)) rfl T.m_LP T.f_LP.kp T.b_LP .nil Zas (Zaa (pv 0) (Zaa Zal Zac))) Zal) Zac)) (Zaq (i:=3) Zhp.nd rfl (Or.inl rfl))
   (Zab (Zan (i:=1) Zhp.nd rfl (Or.inl rfl) (Zav ZaO (Zav ZaO (pv 1) Zal) (Zav Za5 (Zak (Zb0 T) (hr.mono (by decide)) rfl T.m_LP T.f_LP.kp T.b_LP .nil Zas (Zaa (pv 0) (Zaa (Zav ZaO Zal (pv 3)) Zac))) Zal)))
   (Zae (Zan (i:=2) Zhp.nd rfl (Or.inl rfl) (Zav ZaN (pv 2) (Zc9 ZiM (Zay (l:=[97,98,99,100,101,102,103,104,105,106,107,108,109,110,111,112,113,114,115,116,117,118,119,120,121,122]) (by decide +kernel)) (pv 1) (fun _ _=>rfl)))))))
   (Zae (Zar (pv 2)))))),?_⟩
  have sz:∀k:Nat,k<=1000->k<=sizeLine:=fun k h=>YAK h (by rw[sizeLine_eq];decide)
  walk_at "rd"
  refine⟨_,_,rfl,fun r0 h0=>?_⟩
  walk_at "rd?"
  have g1:=YBh r0 (show (8:Int)≠0 by decide)
  have g2:=YBW r0 (show (0:Int)<8 by decide)
  generalize r0 % 8=a0 at g1 g2
  refine⟨by decide,[97,98,99,100,101,102,103,104],_,_,rfl,rfl,sz _ (by decide),Zhd (by omega) (by show _<(8:Int);omega),_,_,rfl,fun r1 h1=>?_⟩
  rw[Zle _ (by omega)]
  walk_at "rd?"
  refine⟨by decide,_,rfl,by omega,by omega,ForRun.range (fun i σ H'=>H'=H/\∃(at_:Int) (f:Q11) (v3:Option V),σ=[some (.int c),some (.int at_),some (tx f),v3]/\0<=at_/\at_<=7+6*i/\f.length=i+1/\f.Pairwise (· < ·)/\∀x∈f,97<=x/\x<=97+at_.toNat) ⟨rfl,_,_,_,rfl,by omega,by omega,rfl,by simp,by simp⟩ ?_ ?_⟩
  .rintro i σ H1 hi ⟨rfl,at_,f,v3,rfl,b0,b1,fl,fp,fm⟩
   walk_at "rd"
   refine⟨_,_,rfl,fun r2 h2=>?_⟩
   walk_at "rd?"
   have g3:=YBh r2 (show (6:Int)≠0 by decide)
   have g4:=YBW r2 (show (0:Int)<6 by decide)
   generalize r2 % 6=a2 at g3 g4
   refine⟨by decide,LET,_,_,rfl,rfl,sz _ (by decide),Zhd (by omega) (by show _<(26:Int);omega),sz _ (by omega),by trivial,_,_,_,rfl,by omega,by omega,by simp[fl],?_,?_⟩
   .rw[ZiE _ (by omega),List.pairwise_append]
    refine⟨fp,by simp,fun x hx y hy=>?_⟩
    rw[YAO.mp hy]
    have:=fm x hx
    omega
   .intro x hx
    rw[ZiE _ (by omega)]at hx
    rcases YAe.mp hx with z | z
    .have:=fm x z;omega
    .rw[YAO.mp z];omega
  .rintro σ H1 ⟨rfl,at_,f,v3,rfl,b0,b1,fl,fp,fm⟩
   walk_at "rd"
   exact q f (Zkc (by omega) (by omega) (fun x hx=>ZjF (fm x hx).1 (by have:=(fm x hx).2;omega)) fp) (by omega) (by omega)
theorem Zfe:FnScope ["_law_cell","_law_by_digits","_law_kinds_here","_law_many","_law_text","_law_left","_law_k","_law_number"] ["_law_cell","_law_by_digits","_law_kinds_here","_law_many"] (Zaj s_LI):=by walk_at "sc"
theorem Zjw (T:TL K mg base a tb):FnOk P w K mg base CX0 2 a.f_LI a.d_LI ["_law_cell","_law_by_digits","_law_kinds_here","_law_many"] (ZnA K a):=by
 refine T.f_LI.ok Zfe (fun vs H Q E h=>?_) (fun cdv A outer s H vs Q E hr h=>?_)
 .obtain⟨_,_,_,_,rfl,_⟩:=h;rfl
 .have hu64:=hr.units
  have hu1:=ZaH hr
  obtain⟨c,d,m,n,rfl,hm,h4,h0,h1,q⟩:=h
  refine⟨_,(Zab (Zan (i:=4) Zfe.nd rfl (Or.inl rfl) (Zay (l:=[]) (by decide +kernel)))
   (Zab (Zan (i:=5) Zfe.nd rfl (Or.inl rfl) (pv 0))
   (Zab (ZaI YAb rfl (Zbr rfl T.z_range (Zaa (pv 3) Zac)) (Zaq (i:=6) Zfe.nd rfl (Or.inl rfl))
   (Zab (Zan (i:=7) Zfe.nd rfl (Or.inl rfl) (pv 5))
   (Zab (ZaP (PW.pt (ZbY (ZbH (Za1 (pv 1))) (ZbY (Zat (ZaA (K:=K) rfl hu64) (pv 5) Zal (Zaw _)) (ZbX (Zat (ZaA (K:=K) rfl hu64) (pv 5) (Zow ZlK Zal) (Zaw _)))))) (Zae (Zan (i:=7) Zfe.nd rfl (Or.inl rfl) (Zak (Zb0 T) (hr.mono (by decide)) rfl T.m_LP T.f_LP.kp T.b_LP .nil Zas (Zaa (pv 0) (Zaa (Zav ZaO Zal (pv 6)) Zac))))) Zau)
   (Zah (Zab (Zan (i:=4) Zfe.nd rfl (Or.inl rfl) (Zav ZaN (pv 4) (Zc9 ZiM (pv 2) (Zav Za5 (pv 7) (Zam (Zap (K:=K) rfl) rfl T.z_len ZaB (Zaa (pv 2) Zac))) (fun _ _=>rfl))))
   (Zae (Zan (i:=5) Zfe.nd rfl (Or.inl rfl) (Zav Zk3 (pv 5) (Zam (Zap (K:=K) rfl) rfl T.z_len ZaB (Zaa (pv 2) Zac))))))))))
   (Zae (Zar (pv 4)))))),?_⟩
  walk_at "rd"
  refine⟨n,rfl,by omega,by omega,ForRun.range (fun i σ H'=>H'=H/\∃(f:Q11) (le:Int) (v6 v7:Option V),σ=[some (.int c),some (.bl d),some (tx m),some (.int n),some (tx f),some (.int le),v6,v7]/\f.length=i/\∀x∈f,x∈m) ⟨rfl,[],c,none,none,rfl,rfl,by simp⟩ ?_ ?_⟩
  .rintro i σ H1 hi ⟨rfl,f,le,v6,v7,rfl,hf,fm⟩
   have hM:m.length<=1000:=by omega
   have sz:m.length<=sizeLine:=YAK hM (by rw[sizeLine_eq];decide)
   have sf:f.length+1<=sizeLine:=by rw[sizeLine_eq];omega
   have pm:(0:Int)<m.length:=by omega
   have cd:CDiv le m.length:=⟨pm,by omega⟩
   walk_at "rd"
   apply Zhg (C:=fun _=>True)
   .intro tail
    refine ite2 (fun h=>iteT' ⟨_,_,rfl,fun r hr=>tail r trivial⟩) (fun h=>.inl ⟨rfl,_,rfl,ite2 (fun h=>iteT' ⟨_,_,rfl,fun r hr=>tail r trivial⟩) (fun h=>.inl ⟨rfl,_,rfl,ite2 (fun h=>⟨_,_,rfl,fun r hr=>tail r trivial⟩) (fun h=>tail le trivial)⟩)⟩)
   .intro nu _
    refine Zag ?_
    walk_at "rd"
    obtain⟨cc,hcc,mc⟩:=Zkr (xs:=m) (i:=nu % m.length) (YBh _ (by omega)) (YBW _ pm)
    exact⟨_,_,rfl,ZdK hM,pm,m,_,cc,rfl,rfl,sz,hcc,sf,_,_,rfl,ZdK hM,cd,by trivial,_,_,_,_,rfl,by simp[hf],fun x hx=>(YAe.mp hx).elim (fun z=>fm x z) fun z=>by rw[YAO.mp z];exact mc⟩
  .rintro σ H1 ⟨rfl,f,le,v6,v7,rfl,hf,fm⟩
   walk_at "rd"
   exact q f (by omega) fm
theorem Zgd:FnScope ["_law_texts","_law_kinds_here","_law_known","_law_text","_law_found","_law_word","_law_letter","_law_longer"] ["_law_texts","_law_kinds_here"] (Zaj s_K6):=by walk_at "sc"
theorem Zk5 (T:TL K mg base a tb):FnOk P w K mg base CX0 2 a.f_K6 a.d_K6 ["_law_texts","_law_kinds_here"] (Zn1 K a):=by
 refine T.f_K6.ok Zgd (fun vs H Q E h=>?_) (fun cdv A outer s H vs Q E hr h=>?_)
 .obtain⟨_,_,_,rfl,_⟩:=h;rfl
 .have hu64:=hr.units
  have hu1:=ZaH hr
  obtain⟨b,ls,m,rfl,hb,ok,l2,l40,q⟩:=h
  refine⟨_,(Zab (Zan (i:=2) Zgd.nd rfl (Or.inl rfl) Zbl)
   (Zab (ZaI YAb rfl (ZaC (K:=K) rfl (pv 0)) (Zaq (i:=3) Zgd.nd rfl (Or.inl rfl))
   (Zae (ZaU (Zhs (pv 2) (Zak (ZoT T) (hr.mono (by decide)) rfl T.m_KQ T.f_KQ.kp T.b_KQ .nil Zas (Zaa (pv 3) Zac)) ⟨rfl,rfl,rfl,rfl⟩))))
   (Zah (Zab (Zan (i:=4) Zgd.nd rfl (Or.inl rfl) (Zbe Zac))
   (Zab (Zcs (ZaI YAb rfl (Zct (pv 2)) (Zaq (i:=5) Zgd.nd rfl (Or.inl rfl))
   (Zae (ZaI YAb rfl (ZbZ (pv 1)) (Zaq (i:=6) Zgd.nd rfl (Or.inl rfl))
   (Zah (Zab (Zan (i:=7) Zgd.nd rfl (Or.inl rfl) (Zav ZaN (pv 5) (pv 6)))
   (Zae (ZaP (PW.pt (Zfg (ZcD (Zbu hu1 (pv 7) (pv 2))) (ZdA (ZcD (Zj9 hu1 (ZaK Zcq (pv 7) (ZaM Zal) Za7) (pv 2)))))) (Zae (ZaU (Zfj YBU YBq YBp Zbw (pv 4) (Zaa (pv 7) Zac)))) Zau))))))))
   (Zae (Zar (pv 4)))))))),?_⟩
  have sz:∀k:Nat,k<=100000->k<=sizeLine:=fun k h=>YAK h (by rw[sizeLine_eq];decide)
  have m4:=ok.m4
  walk_at "rd"
  intro p hp
  have s1:Same H (upd H p (.dK [])):=Zao hp
  have h1:upd H p (.dK []) p=some (.dK []):=Zad
  generalize upd H p (.dK [])=H1 at s1 h1
  have hb1:=s1 _ _ hb
  refine⟨b,rfl,⟨_,.mk hb1⟩,ForRun.list (xs:=ls.map tx) (fun i σ H'=>∃v3 kvs,σ=[some (.ref b),some (tx m),some (.ref p),v3,none,none,none,none]/\Same H H'/\H' p=some (.dK kvs)/\KnD (ls.take i) kvs/\kvs.length<=3000*i) ⟨_,[],rfl,s1,h1,⟨fun _ h=>(by cases h),fun u=>⟨fun h=>(by cases h),fun ⟨l,hl,_⟩=>(by rw[YBf]at hl;cases hl)⟩,YCY⟩,YAJ _⟩ (fun i σ H' _ ⟨_,_,_,s',_⟩=>.mk (s' _ _ hb)) ?_ ?_⟩
  .rintro i x σ H2 hx ⟨v3,kvs,rfl,s2,h2,k2,n2⟩
   obtain⟨l,hl,rfl⟩:=ZbS hx
   have il:=(YAD.mp hl).1
   walk_at "rd"
   refine⟨p,rfl,.inl ⟨kvs,.inl h2⟩,l,rfl,l40 l (YAM hl),fun p2 more H3 s3 n3 h3 k3=>?_⟩
   have ml:=k3.2.2
   refine⟨p2,kvs,more,rfl,s3 _ _ h2,h3,Zai h2 n3,sz _ (by omega),_,Zaz kvs more,rfl,same_upd3 (s2.trans s3) hp,Zad,?_,?_⟩
   .rw[ZaL hl];exact k2.more k3
   .have:=ZaQ more kvs
    omega
  .rintro σ H2 ⟨v3,kvs,rfl,s2,h2,kn,n2⟩
   rw[YAB,YBH]at kn
   rw[YAB]at n2
   walk_at "rd"
   refine Zag ?_
   walk_at "rd"
   refine⟨YAg _,NewL.of fun pf H3 s3 n3 l3=>?_⟩
   have ne:p≠pf:=Zai h2 n3
   have nfH:H pf=none:=s2.free n3
   obtain⟨ss,hs⟩:∃ss:Q22,ss.map kTx=kvs.map (·.1):=Zdj kn.key
   have sl:ss.length=kvs.length:=by have:=congrArg List.length hs;simpa using this
   refine⟨p,kvs,s3 _ _ h2,p,kvs,rfl,s3 _ _ h2,fun o=>ForRun.dict (fun i σ H'=>∃(v5 v6 v7:Option V),σ=[some (.ref b),some (tx m),some (.ref p),v3,some (.ref pf),v5,v6,v7]/\Same H H'/\H' p=some (.frz o (.dK kvs))/\H' pf=some (.lst (((ss.take i).flatMap (ZdH kvs m)).map tx))) ⟨_,_,_,rfl,same_upd3 (s2.trans s3) hp,Zad,by rw[Zaf (YAS ne)];exact l3⟩ (fun i σ H' ⟨_,_,_,_,_,h,_⟩=>h) ?_ ?_⟩
   .rintro i kv σ H4 hkv ⟨v5,v6,v7,rfl,s4,h4,f4⟩
    have hi:i<kvs.length:=(YAD.mp hkv).1
    obtain⟨x,hx⟩:∃x,ss[i]?=some x:=⟨_,YAE (by omega)⟩
    have ex:kv.1=kTx x:=by
     have:=congrArg (fun l=>l[i]?) hs
     simp only[YAZ,hx,hkv,YCN]at this
     exact(Option.some.inj this).symm
    have xl0:x.length<=40:=by
     have:KnS ls x:=(kn.iff x).mp (by
      rw[ZbU (k:=kTx x) (v:=kv.2) (i:=i) kn.nd (by rw[hkv,<-ex])];rfl)
     obtain⟨l,hl,hi⟩:=this
     exact YAK hi.len (l40 l hl)
    have fl:((ss.take i).flatMap (ZdH kvs m)).length<=24000:=by
     have:=Zbi (f:=ZdH kvs m) (b:=4) (fun u=>by unfold ZdH;rw[YAB];exact YAK (YAt _ _) m4) (ss.take i)
     rw[YAd]at this
     omega
    rw[ex,ZeL]
    walk_at "rd"
    refine⟨m,rfl,ForRun.text (fun j σ H'=>∃(v6 v7:Option V),σ=[some (.ref b),some (tx m),some (.ref p),v3,some (.ref pf),some (tx x),v6,v7]/\Same H H'/\H' p=some (.frz o (.dK kvs))/\H' pf=some (.lst (((ss.take i).flatMap (ZdH kvs m)++((m.take j).filter (Zcv kvs x)).map fun c=>x++[c]).map tx))) ⟨_,_,rfl,s4,h4,by rw[YBf];simpa using f4⟩ ?_ ?_⟩
    .rintro j c σ H5 hc ⟨v6,v7,rfl,s5,h5,f5⟩
     have hj:j<m.length:=(YAD.mp hc).1
     have xl:(x++[c]).length<=41:=by rw[YAI,YAN];omega
     have fl2:((m.take j).filter (Zcv kvs x)).length<=4:=YAK (YAt _ _) (by rw[YAd];omega)
     have tk:m.take (j+1)=m.take j++[c]:=by rw[YCt,hc];rfl
     walk_at "rd"
     refine Zag ?_
     walk_at "rd"
     have no:Zcv kvs x c=false->((m.take (j+1)).filter (Zcv kvs x))=(m.take j).filter (Zcv kvs x):=fun h=>by rw[tk,YBO,YBz,h];simp
     have c1:cut (x++[c]) (some 1) none=(x++[c]).drop 1:=Zbo (x++[c]) 1
     refine⟨sz _ (by omega),p,_,rfl,.inl ⟨kvs,kTx (x++[c]),.inr ⟨o,h5⟩,rfl,rfl⟩,ite2 (fun h=>?_) (fun h=>?_)⟩
     .refine⟨_,rfl,x++[c],rfl,sz _ (by omega),?_⟩
      rw[c1]
      refine⟨p,_,rfl,.inl ⟨kvs,kTx ((x++[c]).drop 1),.inr ⟨o,h5⟩,rfl,rfl⟩,ite2 (fun h2=>?_) (fun h2=>?_)⟩
      .have yes:Zcv kvs x c=true:=by unfold Zcv;rw[h,h2];rfl
       refine⟨.inl ⟨rfl,_,.mk f5⟩,pf,_,_,rfl,rfl,f5,by rw[YAB,YAI,YAB];exact YAT (show _<100000 by omega) (sz 100000 (YAJ _)),_,_,rfl,same_upd3 s5 nfH,by rw[Zaf ne];exact h5,?_⟩
       rw[Zad,tk,YBO,YBz,yes]
       simp
      .have n0:Zcv kvs x c=false:=by unfold Zcv;rw[YAr.mpr h2,YCI]
       exact⟨_,_,rfl,s5,h5,by rw[no n0];exact f5⟩
     .have n0:Zcv kvs x c=false:=by unfold Zcv;rw[YAr.mpr h,YBw]
      exact⟨_,_,rfl,s5,h5,by rw[no n0];exact f5⟩
    .rintro σ H5 ⟨v6,v7,rfl,s5,h5,f5⟩
     refine⟨_,_,_,rfl,s5,h5,?_⟩
     rw[f5,YBH,ZaL hx,YDJ]
     simp[ZdH]
   .rintro σ H4 ⟨v5,v6,v7,rfl,s4,h4,f4⟩
    refine⟨o,kvs,h4,?_⟩
    walk_at "rd"
    rw[<-sl,YBH]at f4
    exact q pf _ (upd H4 p (.dK kvs)) (same_upd3 s4 hp) nfH (by rw[Zaf (YAS ne)];exact f4) (ZjC ok kn hs)
theorem ZkP:FnScope ["_law_words","_law_cell","_law_waiting","_law_found"] ["_law_words","_law_cell"] (Zaj s_KV):=by walk_at "sc"
theorem ZmB (T:TL K mg base a tb):FnOk P w K mg base CX0 2 a.f_KV a.d_KV ["_law_words","_law_cell"] (ZnJ K a):=by
 refine T.f_KV.ok ZkP (fun vs H Q E h=>?_) (fun cdv A outer s H vs Q E hr h=>?_)
 .obtain⟨_,_,_,rfl,_⟩:=h;rfl
 .have hu64:=hr.units
  have hu1:=ZaH hr
  obtain⟨b,ws,c,rfl,hb,hn,q⟩:=h
  refine⟨_,(Zab (Zan (i:=2) ZkP.nd rfl (Or.inl rfl) (Zam (Zb6 rfl) rfl T.z_sorted Zb7 (Zaa (pv 0) Zac)))
   (Zah (Zab (Zan (i:=3) ZkP.nd rfl (Or.inl rfl) (Zbe Zac))
   (Zah (Zab (Zcb YAb (Zat (Zcu (K:=K) rfl hu64) (pv 2) (Zbe Zac) (Zaw _))
   (Zae (ZaU (Zfj YBU YBq YBp Zbw (pv 3) (Zaa (Zfj YBU PySem.F.slot_list_pop PySem.F.type_list_pop ZjB (pv 2) (Zaa (Zav Za5 (Zak (Zb0 T) (hr.mono (by decide)) rfl T.m_LP T.f_LP.kp T.b_LP .nil Zas (Zaa (pv 1) (Zaa (Zav ZaO Zal (Zam (Zap (K:=K) rfl) rfl T.z_len ZaB (Zaa (pv 2) Zac))) Zac))) (Zam (Zap (K:=K) rfl) rfl T.z_len ZaB (Zaa (pv 2) Zac))) Zac)) Zac)))))
   (Zae (Zar (pv 3)))))))),?_⟩
  have sz:∀k:Nat,k<=2000->k<=sizeLine:=fun k h=>YAK h (by rw[sizeLine_eq];decide)
  walk_at "rd"
  refine⟨b,ws,rfl,hb,by omega,NewL.of fun pw H1 s1 n1 l1=>?_⟩
  show Zbc _ _ _ _
  refine Zag ?_
  walk_at "rd"
  refine⟨YAg _,NewL.of fun pf H2 s2 n2 l2=>Zag ?_⟩
  walk_at "rd"
  have ne:pw≠pf:=Zai l1 n2
  have nf:H pf=none:=s1.free n2
  have pm:=Za8 ws
  refine WhileRun.by (fun σ H'=>∃wa fo:Q22,σ=[some (.ref b),some (.int c),some (.ref pw),some (.ref pf)]/\Same H H'/\H' pw=some (.lst (wa.map tx))/\H' pf=some (.lst (fo.map tx))/\(fo++wa).Perm ws) (fun σ H'=>match H' pw with | some (.lst xs)=>xs.length | _=>0) ⟨ZbT ws,[],rfl,s1.trans s2,s2 _ _ l1,l2,by rw[YBX];exact pm⟩ ?_
  rintro σ H3 ⟨wa,fo,rfl,s3,h3,f3,pm3⟩
  have hl3:fo.length+wa.length=ws.length:=by rw[<-YAI];exact pm3.length_eq
  refine⟨!wa.isEmpty,fun Q' hq=>?_,fun H4 s4=>?_⟩
  .walk_at "rd"
   exact⟨YAg _,NewL.of fun pz H5 s5 n5 l5=>Zk6 (.mk (s5 _ _ h3)) (.mk l5) ⟨_,rfl,hq H5 s5⟩⟩
  .cases wa with
   | nil=>
    refine iteF ?_
    walk_at "rd"
    exact q pf fo H4 (s3.trans s4) nf (s4 _ _ f3) (by rw[YBC]at pm3;exact pm3)
   | cons w0 wr=>
    refine iteT ?_
    have h4:=s4 _ _ h3
    have f4:=s4 _ _ f3
    have s04:=s3.trans s4
    generalize hwa:w0::wr=wa at h3 h4 hl3 pm3
    have wl:1<=wa.length:=by rw[<-hwa];simp
    walk_at "rd"
    refine⟨.inl ⟨rfl,_,.mk f4⟩,.inl ⟨rfl,_,.mk h4⟩,_,_,rfl,.inl ⟨_,.mk h4,rfl⟩,_,_,rfl,fun r hr=>?_⟩
    walk_at "rd?"
    refine⟨_,_,rfl,.inl ⟨_,.mk h4,rfl⟩,?_⟩
    rw[YAB]
    have lx0:(0:Int)<(wa.length:Nat):=by omega
    have m0:=YBh r (show ((wa.length:Nat):Int)≠0 by omega)
    have m1:=YBW r lx0
    generalize r % ((wa.length:Nat):Int)=k at m0 m1
    have kl:k.toNat<wa.length:=by omega
    refine⟨lx0,pw,wa.map tx,k,k.toNat,tx wa[k.toNat],rfl,rfl,h4,by omega,by omega,?_,?_,?_⟩
    .rw[YAB]
     have nk:¬k<0:=by omega
     simp[seqIndex?,nk,m0,m1]
    .rw[YAZ,YAE kl]
     rfl
    refine⟨pf,fo.map tx,tx wa[k.toNat],rfl,rfl,by rw[Zaf (YAS ne)];exact f4,by rw[YAB];exact YAT (show _<2000 by omega) (sz 2000 (YAJ _)),?_⟩
    refine⟨⟨wa.eraseIdx k.toNat,fo++[wa[k.toNat]],by trivial,same_upd3 (same_upd3 s04 n1) nf,?_,?_,?_⟩,?_⟩
    .rw[Zaf ne,Zad,ZdI]
    .rw[Zad];simp
    .rw[YBm]
     exact((Zgv kl).append_left fo).trans pm3
    .show (match upd (upd H4 pw (HO.lst ((wa.map tx).eraseIdx k.toNat))) pf (HO.lst (fo.map tx++[tx wa[k.toNat]])) pw with | some (.lst xs)=>xs.length | _=>0)<_
     rw[Zaf ne,Zad,h3]
     show ((wa.map tx).eraseIdx k.toNat).length<(wa.map tx).length
     rw[ZdI,YAB,YAB,YDM kl]
     omega
theorem Zom:FnScope ["_law_words","_law_word"] ["_law_words","_law_word"] (Zaj s_K2):=by walk_at "sc"
theorem Zis (T:TL K mg base a tb):FnOk P w K mg base CX0 2 a.f_K2 a.d_K2 ["_law_words","_law_word"] (Zn5 K a):=by
 refine T.f_K2.ok Zom (fun vs H Q E h=>?_) (fun cdv A outer s H vs Q E hr h=>?_)
 .obtain⟨_,_,_,rfl,_⟩:=h;rfl
 .have hu64:=hr.units
  have hu1:=ZaH hr
  obtain⟨b,ws,w_,rfl,hb,hn,h41,hw,q⟩:=h
  refine⟨_,(Zae (Zar (ZaV (ZaA (K:=K) rfl hu64) (Za9 (N:=["_law_one","_law_word"]) (ix:=[none,some 1]) rfl (ZaT rfl) rfl (ZaC (K:=K) rfl (pv 0)) (fun _ _ _ _=>(Zaq (i:=0) (show (["_law_one","_law_word"]:List Str).Nodup from by decide +kernel) rfl (Or.inl rfl) (Or.inr rfl))) (fun _ _ _ _=>(Zcc (Za1 (Zak (Zjx T) (hr.mono (by decide)) rfl T.m_K5 T.f_K5.kp T.b_K5 .nil Zas (Zaa (pv 0) (Zaa (pv 1) Zac)))))) (fun _ _ _ _=>(pv 0))) (Zbe Zac) (Zaw _)))),?_⟩
  walk_at "rd"
  refine⟨b,rfl,⟨_,.mk hb⟩,CompRun.listL (xs:=ws.map tx) (fun i=>infB (ws.getD i []) w_) (fun i=>tx (ws.getD i [])) (by rw[YAB];omega) (.mk hb) ?_ ?_ ?_⟩
  .intro i H1 Q1 hi s1 q1
   rw[YAB]at hi
   rw[ZbO hi]
   have hm:ws.getD i []∈ws:=by rw[YAG,YAE hi];exact YBM hi
   have:=h41 _ hm
   walk_at "rd"
   exact⟨_,w_,rfl,by omega,hw,q1 H1 (Same.refl _)⟩
  .intro i H1 Q1 hi _ s1 q1
   rw[YAB]at hi
   rw[ZbO hi]
   walk_at "rd"
   exact q1 H1 (Same.refl _)
  .intro p H1 s1 n1 l1
   rw[YAB]at l1
   refine⟨YAg _,NewL.of fun p2 H2 s2 n2 l2=>Zem (xs:=((List.range ws.length).filter fun i=>infB (ws.getD i []) w_).map fun i=>ws.getD i []) (ys:=[]) (.mk (by rw[s2 _ _ l1,YBB];rfl)) (.mk l2) ?_⟩
   rw[ZhH (fun p=>infB p w_) [] ws]
   have e:decide (ws.filter (fun p=>infB p w_)=[])=avB ws w_:=by
    unfold avB
    rw[YAv,decide_eq_true_iff,YCp,Bool.not_eq_true',List.any_eq_false]
   rw[e]
   exact q H2 (s1.trans s2)
theorem Zhn:FnScope ["_law_words","_law_kinds_here","_law_most","_law_forbidden_here","_law_heads_here","_law_level_here","_law_many"] ["_law_words","_law_kinds_here","_law_most"] (Zaj s_LO):=by walk_at "sc"
theorem ZoE (T:TL K mg base a tb):FnOk P w K mg base CX0 2 a.f_LO a.d_LO ["_law_words","_law_kinds_here","_law_most"] (Znu K a):=by
 refine T.f_LO.ok Zhn (fun vs H Q E h=>?_) (fun cdv A outer s H vs Q E hr h=>?_)
 .obtain⟨_,_,_,_,_,rfl,_⟩:=h;rfl
 .have hu64:=hr.units
  have hu1:=ZaH hr
  obtain⟨b,ws,m,x,most,rfl,hb,ok,lk,an,lf,xl,ml,q⟩:=h
  refine⟨_,(Zab (Zan (i:=3) Zhn.nd rfl (Or.inl rfl) (Zak (ZoB T) (hr.mono (by decide)) rfl T.m_LT T.f_LT.kp T.b_LT .nil Zas (Zaa (pv 0) Zac)))
   (Zah (Zab (Zan (i:=4) Zhn.nd rfl (Or.inl rfl) (Zak (ZoH T) (hr.mono (by decide)) rfl T.m_LK T.f_LK.kp T.b_LK .nil Zas (Zaa (pv 0) Zac)))
   (Zah (Zab (Zan (i:=5) Zhn.nd rfl (Or.inl rfl) (ZeA (Zdf (Zay (l:=[]) (by decide +kernel)) Zbg Zey) rfl rfl (by simp) (by decide)))
   (Zah (Zab (ZaI YAb rfl (Zbr rfl T.z_range (Zaa (Zav ZaO (pv 2) Zal) Zac)) (Zaq (i:=6) Zhn.nd rfl (Or.inl rfl))
   (Zab (Zan (i:=5) Zhn.nd rfl (Or.inl rfl) (Zak (ZoG T) (hr.mono (by decide)) rfl T.m_LM T.f_LM.kp T.b_LM .nil Zas (Zaa (pv 3) (Zaa (pv 4) (Zaa (pv 1) (Zaa (pv 5) Zac))))))
   (Zah (Zae (ZaP (Zat (Zmy hu64) (pv 5) Zbl (Zaw _)) (Zae (Zar (pv 6))) Zau)))))
   (Zae (Zar ZgT))))))))),?_⟩
  have sz:∀k:Nat,k<=9000->k<=sizeLine:=fun k h=>YAK h (by rw[sizeLine_eq];decide)
  have ln:=lk.len
  have a0:Av ws []:=fun v hv hi=>lk.ne v hv (YAw.mp (by simpa using hi.len))
  walk_at "rd"
  refine⟨b,ws,rfl,hb,by omega,fun pf kf H1 s1 n1 h1 k1=>?_⟩
  show Zbc _ _ _ _
  refine Zag ?_
  walk_at "rd"
  refine⟨b,ws,rfl,s1 _ _ hb,by omega,lk.w41,fun ph kh H2 s2 n2 h2 k2=>?_⟩
  show Zbc _ _ _ _
  refine Zag ?_
  walk_at "rd"
  intro p3 n3
  have s23:Same H2 (upd (upd H2 p3 (.dK [])) p3 (.dK (Zaz [] [(kTx [],.bl true)]))):=ZcB n3
  have h3:upd (upd H2 p3 (.dK [])) p3 (.dK (Zaz [] [(kTx [],.bl true)])) p3=some (.dK (Zaz [] [(kTx [],.bl true)])):=Zad
  refine⟨Zad,[(kTx [],.bl true)],rfl,by show (1:Nat)<=15;decide,Zag ?_⟩
  have k3:=LvD.start ws m
  generalize Zaz [] [(kTx [],.bl true)]=kv0 at s23 h3 k3
  generalize upd (upd H2 p3 (.dK [])) p3 (.dK kv0)=H3 at s23 h3
  have h13:=s2.trans s23
  have h03:=s1.trans h13
  have npf:pf≠p3:=Zai (s2 _ _ h1) n3
  have nph:ph≠p3:=Zai h2 n3
  walk_at "rd"
  have em:((most:Int)+1).toNat=most+1:=by omega
  refine⟨_,rfl,by omega,by omega,?_⟩
  rw[em]
  refine ForRun.range (fun i σ H'=>∃(pl:Addr) (kl:List (Key×V)) (v6:Option V),σ=[some (.ref b),some (tx m),some (.int (most:Nat)),some (.ref pf),some (.ref ph),some (.ref pl),v6]/\Same H3 H'/\H' pl=some (.dK kl)/\pf≠pl/\ph≠pl/\LvD ws m i kl/\i<=x.length) ⟨_,_,_,rfl,Same.refl _,h3,npf,nph,k3,YAg _⟩ ?_ ?_
  .rintro i σ H4 hi ⟨pl,kl,v6,rfl,s4,h4,nf4,nh4,k4,il⟩
   walk_at "rd"
   refine⟨pf,ph,pl,kf,kh,kl,ws,m,i,rfl,s4 _ _ (h13 _ _ h1),s4 _ _ (s23 _ _ h2),h4,nf4,nh4,k1,k2,k4,ok,lk,an,fun p5 kv5 H5 s5 n5 h5 k5=>?_⟩
   show Zbc _ _ _ _
   refine Zag ?_
   walk_at "rd"
   intro p6 n6
   have np5:p5≠p6:=Zai h5 n6
   have s46:Same H3 (upd H5 p6 (.dK [])):=(s4.trans s5).trans (Zao n6)
   have e0:(0+(i:Int))=((i:Nat):Int):=by omega
   rw[e0]
   refine⟨p5,p6,kv5,rfl,rfl,by rw[Zaf np5];exact h5,Zad,_,rfl,ite2 (fun h=>?_) (fun h=>?_)⟩
   .have kn:kv5=[]:=YAw.mp (by simpa using h)
    have xi:x.length<=i:=by
     refine YDg fun lt=>?_
     obtain⟨s,lv,_⟩:=Lv.of (W:=ws) (m:=m) a0 (i+1) (x.take (i+1)) (by rw[YAd];omega) (fun c hc=>lf.mem c (YBF hc)) (lf.av.inf (by
      have:=Zcm (x.take (i+1)) (x.drop (i+1))
      rw[YCP]at this
      exact this))
     have:=(k5.iff s).mpr lv
     rw[kn]at this
     cases this
    have ei:i=x.length:=by omega
    rw[ei]
    exact q _ (h03.trans s46)
   .have:i+1<=x.length:=by
     cases kv5 with
     | nil=>exact absurd rfl h
     | cons kv r=>
      obtain⟨u,eu⟩:=k5.key kv YAa
      have lv:=(k5.iff u).mp (by rw[ZaX eu];rfl)
      obtain⟨g,gl,gm,rt⟩:=lv.word a0
      have:=lf.max g gm (by rw[YBX];exact rt.av)
      omega
    exact⟨p5,kv5,_,rfl,s46,by rw[Zaf np5];exact h5,Zai (s4 _ _ (h13 _ _ h1)) n5,Zai (s4 _ _ (s23 _ _ h2)) n5,k5,this⟩
  .rintro σ H4 ⟨pl,kl,v6,rfl,s4,h4,nf4,nh4,k4,il⟩
   omega
theorem ZkS:FnScope ["_law_words","_law_one","_law_other"] ["_law_words"] (Zaj s_K3):=by walk_at "sc"
theorem Zo4 (T:TL K mg base a tb):FnOk P w K mg base CX0 2 a.f_K3 a.d_K3 ["_law_words"] (Zn4 K a):=by
 refine T.f_K3.ok ZkS (fun vs H Q E h=>?_) (fun cdv A outer s H vs Q E hr h=>?_)
 .obtain⟨_,_,rfl,_⟩:=h;rfl
 .have hu64:=hr.units
  have hu1:=ZaH hr
  obtain⟨b,ws,rfl,hb,hn,h41,q⟩:=h
  refine⟨_,(Zab (ZaI YAb rfl (ZaC (K:=K) rfl (pv 0)) (Zaq (i:=1) ZkS.nd rfl (Or.inl rfl))
   (Zae (ZaI YAb rfl (ZaC (K:=K) rfl (pv 0)) (Zaq (i:=2) ZkS.nd rfl (Or.inl rfl))
   (Zae (ZaP (PW.pt (Zfg (Zat (Zcu (K:=K) rfl hu64) (pv 1) (pv 2) (Zaw _)) (ZdA (Za1 (Zak (Zjx T) (hr.mono (by decide)) rfl T.m_K5 T.f_K5.kp T.b_K5 .nil Zas (Zaa (pv 1) (Zaa (pv 2) Zac))))))) (Zae (Zar Zbg)) Zau)))))
   (Zae (Zar Zbg))),?_⟩
  walk_at "rd"
  refine⟨b,rfl,⟨_,.mk hb⟩,ForRun.list (xs:=ws.map tx) (fun i σ H'=>∃v1 v2,σ=[some (.ref b),v1,v2]/\H'=H/\∀(i' j':Nat) (x' y':Q11),i'<i->ws[i']?=some x'->ws[j']?=some y'->x'≠y'->¬Inf x' y') ⟨_,_,rfl,rfl,fun i' j' x' y' h=>by omega⟩ (fun i σ H' _ ⟨_,_,_,e,_⟩=>by rw[e];exact .mk hb) ?_ ?_⟩
  .rintro i v σ H1 hx ⟨v1,v2,rfl,rfl,no1⟩
   obtain⟨y,hy,rfl⟩:=ZbS hx
   have ly:=h41 y (YAM hy)
   walk_at "rd"
   refine⟨b,rfl,⟨_,.mk hb⟩,ForRun.list (xs:=ws.map tx) (fun j σ H'=>∃v2,σ=[some (.ref b),some (tx y),v2]/\H'=H1/\∀(j':Nat) (y':Q11),j'<j->ws[j']?=some y'->y≠y'->¬Inf y y') ⟨_,rfl,rfl,fun j' x' h=>by omega⟩ (fun i σ H' _ ⟨_,_,e,_⟩=>by rw[e];exact .mk hb) ?_ ?_⟩
   .rintro j v σ H2 hx2 ⟨v2,rfl,rfl,no2⟩
    obtain⟨z,hz,rfl⟩:=ZbS hx2
    have lz:=h41 z (YAM hz)
    have nxt:(y=z\/¬Inf y z)->∀(j':Nat) (y':Q11),j'<j+1->ws[j']?=some y'->y≠y'->¬Inf y y':=fun h j' x' hj hx' hne hi=>by
     by_cases c:j'<j
     .exact no2 j' x' c hx' hne hi
     .have e:j'=j:=by omega
      subst e
      rw[hz]at hx'
      cases hx'
      rcases h with k | k
      .exact hne k
      .exact k hi
    walk_at "rd"
    refine ZeF fun k hk=>⟨k,rfl,ite2 (fun e=>⟨y,z,rfl,ly,lz,?_⟩) (fun e=>iteF ⟨_,rfl,rfl,nxt (.inl (YAp fun h=>e (hk.mpr h)))⟩)⟩
    refine⟨_,rfl,ite2 (fun e2=>?_) (fun e2=>⟨_,rfl,rfl,nxt (.inr fun h=>e2 (Za3.mpr h))⟩)⟩
    exact q true H2 (Same.refl _) ⟨fun _ an=>hk.mp e (an y (YAM hy) z (YAM hz) (Za3.mp e2)),fun _=>rfl⟩
   .rintro σ H2 ⟨v2,rfl,rfl,no2⟩
    refine⟨_,_,rfl,rfl,fun i' j' x' y' hi h1 h2 h3 h4=>?_⟩
    by_cases c:i'<i
    .exact no1 i' j' x' y' c h1 h2 h3 h4
    .have e:i'=i:=by omega
     subst e
     rw[hy]at h1
     cases h1
     have hj:=(YAD.mp h2).1
     exact no2 j' y' (by rw[YAB];exact hj) h2 h3 h4
  .rintro σ H1 ⟨v1,v2,rfl,rfl,no1⟩
   walk_at "rd"
   refine q false H1 (Same.refl _) ⟨fun h=>(by cases h),fun h=>absurd (fun v hv w hw hi=>YAp fun ne=>?_) h⟩
   obtain⟨j,hj,ej⟩:=YAh hv
   obtain⟨i,hi',ei⟩:=YAh hw
   exact no1 j i v w (by rw[YAB];exact hj) (YAD.mpr ⟨hj,ej⟩) (YAD.mpr ⟨hi',ei⟩) ne hi
theorem Zog:FnScope ["thing"] ["thing"] (Zaj s_KK):=by walk_at "sc"
theorem ZmD (T:TL K mg base a tb):FnOk P w K mg base CX0 3 a.f_KK a.d_KK ["thing"] (ZnT K a):=by
 refine T.f_KK.ok Zog (fun vs H Q E h=>?_) (fun cdv A outer s H vs Q E hr h=>?_)
 .obtain⟨_,rfl,_⟩:=h;rfl
 .have hu64:=hr.units
  have hu1:=ZaH hr
  obtain⟨l,rfl,hl,hk,q⟩:=h
  refine⟨_,(Zae (ZaP (ZbH (Za1 (Zak (ZoR T) (hr.mono (by decide)) rfl T.m_KT T.f_KT.kp T.b_KT .nil Zas (Zaa (pv 0) Zac)))) (Zae Zjq) Zau)),?_⟩
  walk_at "rd"
  refine⟨l,rfl,hl,fun H2 s2=>⟨_,rfl,?_⟩⟩
  rw[hk,YDe]
  exact iteF (q H2 s2)
theorem Zoe:FnScope ["thing","kinds","most"] ["thing","kinds","most"] (Zaj s_KO):=by walk_at "sc"
theorem ZoV (T:TL K mg base a tb):FnOk P w K mg base CX0 3 a.f_KO a.d_KO ["thing","kinds","most"] (ZnQ K a):=by
 refine T.f_KO.ok Zoe (fun vs H Q E h=>?_) (fun cdv A outer s H vs Q E hr h=>?_)
 .obtain⟨_,_,_,rfl,_⟩:=h;rfl
 .have hu64:=hr.units
  have hu1:=ZaH hr
  obtain⟨l,m,most,rfl,hl,hk,q⟩:=h
  refine⟨_,(Zae (ZaP (ZbH (Za1 (Zak (ZmG T) (hr.mono (by decide)) rfl T.m_K1 T.f_K1.kp T.b_K1 .nil Zas (Zaa (pv 0) (Zaa (pv 1) (Zaa (pv 2) Zac)))))) (Zae Zjq) Zau)),?_⟩
  walk_at "rd"
  refine⟨l,m,most,rfl,hl,fun H2 s2=>⟨_,rfl,?_⟩⟩
  rw[hk,YDe]
  exact iteF (q H2 s2)
theorem ZkO:FnScope ["words","other","one"] ["words"] (Zaj s_KW):=by walk_at "sc"
theorem ZoP (T:TL K mg base a tb):FnOk P w K mg base (CXr P w) 3 a.f_KW a.d_KW ["words"] (ZnI K a):=by
 refine T.f_KW.okX ZkO (fun vs H Q E h=>?_) (fun cdv A outer s H vs Q E hr h=>?_)
 .obtain⟨_,_,_,rfl,_⟩:=h;rfl
 .have hu64:=hr.units
  have hu1:=ZaH hr
  obtain⟨b,ws,m,rfl,hb,lk,q,qx⟩:=h
  refine⟨_,(Zae (ZaI ZgW rfl (ZaC (K:=K) rfl (pv 0)) (Zaq (i:=1) ZkO.nd rfl (Or.inl rfl))
   (Zae (ZaI ZgW rfl (ZaC (K:=K) rfl (pv 0)) (Zaq (i:=2) ZkO.nd rfl (Or.inl rfl))
   (Zae (ZaP (PW.pt (Zfg (Zat (Zcu (K:=K) rfl hu64) (pv 2) (pv 1) (Zaw _)) (ZdA (Zat ZgX (pv 2) (pv 1) rfl)))) (Zae (Zde ZcO rfl (Zdg T.x_K8 T.i_K8 T.fn_K8 (Zd7 T) (hr.mono (by decide)) T.b_K8 Zas rfl T.m_K8 (Zaa (pv 2) (Zaa (pv 1) Zac))))) Zau)))))),?_⟩
  have up:∀(x y:Q11) H1,Same H H1->X2 a.c_K8 "one" "other" E H x y->(2<=1000/\MkI (Zc3 K a.c_K8 2 (fs2 (Str.ofString "one") (Str.ofString "other"))) E0 a.c_K8 [tx x,tx y] H1 fun v H1=>∃e C d,v=.ref e/\H1 e=some (xo e C d)/\Xm K C/\E (.ref C) (some e) (upd H1 e (xr e C d))):=fun x y H1 s1 z=>
   ⟨by decide,MkI.of rfl fun e H2 s2 n2 x2=>by
    obtain⟨d,hd,hx⟩:=ZcC x2
    exact⟨e,_,d,rfl,hd,T.x_K8,z e _ (s1.trans (same_upd3 s2 n2)) hx⟩⟩
  walk_at "rd"
  refine⟨b,rfl,⟨_,.mk hb⟩,ForRun.list (xs:=ws.map tx) (fun i σ H'=>∃v1 v2,σ=[some (.ref b),v1,v2]/\Same H H'/\∀(i' j':Nat) (x' y':Q11),i'<i->ws[i']?=some y'->ws[j']?=some x'->x'≠y'->¬Inf x' y') ⟨_,_,rfl,Same.refl _,fun i' j' x' y' h=>by omega⟩ (fun i σ H' _ ⟨_,_,_,s',_⟩=>.mk (s' _ _ hb)) ?_ ?_⟩
  .rintro i x σ H1 hx ⟨v1,v2,rfl,s1,no1⟩
   obtain⟨y,hy,rfl⟩:=ZbS hx
   walk_at "rd"
   refine⟨b,rfl,⟨_,.mk (s1 _ _ hb)⟩,ForRun.list (xs:=ws.map tx) (fun j σ H'=>∃v2,σ=[some (.ref b),some (tx y),v2]/\Same H H'/\∀(j':Nat) (x':Q11),j'<j->ws[j']?=some x'->x'≠y->¬Inf x' y) ⟨_,rfl,s1,fun j' x' h=>by omega⟩ (fun i σ H' _ ⟨_,_,s',_⟩=>.mk (s' _ _ hb)) ?_ ?_⟩
   .rintro j x σ H2 hx2 ⟨v2,rfl,s2,no2⟩
    obtain⟨z,hz,rfl⟩:=ZbS hx2
    have nxt:(z=y\/¬Inf z y)->∀(j':Nat) (x':Q11),j'<j+1->ws[j']?=some x'->x'≠y->¬Inf x' y:=fun h j' x' hj hx' hne hi=>by
     by_cases c:j'<j
     .exact no2 j' x' c hx' hne hi
     .have e:j'=j:=by omega
      subst e
      rw[hz]at hx'
      cases hx'
      rcases h with k | k
      .exact hne k
      .exact k hi
    walk_at "rd"
    refine ZeF fun k hk=>⟨k,rfl,ite2 (fun e=>⟨z,y,rfl,rfl,ite2 (fun e2=>?_) (fun e2=>⟨_,rfl,s2,nxt (.inr fun h=>e2 (Za3.mpr h))⟩)⟩) (fun e=>iteF ⟨_,rfl,s2,nxt (.inl (YAp fun h=>e (hk.mpr h)))⟩)⟩
    have fi:Inf z y:=Za3.mp e2
    refine up z y H2 s2 (qx z y ⟨i,j,hy,hz,hk.mp e,fi,fun i' j' x' y' h1 h2 h3 h4=>?_⟩)
    by_cases c:i'<i
    .exact absurd h4 (no1 i' j' x' y' c h1 h2 h3)
    .by_cases c2:i'=i
     .subst c2
      rw[hy]at h1
      cases h1
      exact .inr ⟨rfl,YAp fun k=>no2 j' x' (by omega) h2 h3 h4⟩
     .exact .inl (by omega)
   .rintro σ H2 ⟨v2,rfl,s2,no2⟩
    refine⟨_,_,rfl,s2,fun i' j' x' y' hi h1 h2 h3 h4=>?_⟩
    by_cases c:i'<i
    .exact no1 i' j' x' y' c h1 h2 h3 h4
    .have e:i'=i:=by omega
     subst e
     rw[hy]at h1
     cases h1
     have hj:=(YAD.mp h2).1
     exact no2 j' x' (by rw[YAB];exact hj) h2 h3 h4
  .rintro σ H1 ⟨v1,v2,rfl,s1,no1⟩
   refine q (fun v hv w hw hi=>YAp fun ne=>?_) H1 s1
   obtain⟨j,hj,ej⟩:=YAh hv
   obtain⟨i,hi',ei⟩:=YAh hw
   exact no1 i j v w (by rw[YAB];exact hi') (YAD.mpr ⟨hi',ei⟩) (YAD.mpr ⟨hj,ej⟩) ne hi
theorem Zff:FnScope ["ways","ended","stopping","stem","gone","met","letter"] ["ways","ended"] (Zaj s_KP):=by walk_at "sc"
theorem ZoU (T:TL K mg base a tb):FnOk P w K mg base (CXr P w) 3 a.f_KP a.d_KP ["ways","ended"] (ZnP K a):=by
 refine T.f_KP.okX Zff (fun vs H Q E h=>?_) (fun cdv A outer s H vs Q E hr h=>?_)
 .obtain⟨_,_,_,_,_,_,_,rfl,_⟩:=h;rfl
 .have hu64:=hr.units
  have hu1:=ZaH hr
  obtain⟨p,pq,kw,ws,ss,es,m,rfl,hp,wl,sl,ok,lk,an,hq,he,hn,qx⟩:=h
  refine⟨_,(Zab (Zan (i:=2) Zff.nd rfl (Or.inr rfl) (Zbs (Zhb rfl) rfl T.z_dict Zi5 (Zaa (Za9 (N:=["stem"]) (ix:=[none]) rfl (ZaT rfl) rfl (ZaC (K:=K) rfl (pv 1)) (fun _ _ _ _=>(Zaq (i:=0) (show (["stem"]:List Str).Nodup from by decide +kernel) rfl (Or.inl rfl) (Or.inr rfl))) (fun _ _ _ _=>Zbk) (fun _ _ _ _=>(ZdC (Zaa (pv 0) (Zaa Zbg Zac))))) Zac)))
   (Zah (Zab (Zan (i:=3) Zff.nd rfl (Or.inr rfl) (Zay (l:=[]) (by decide +kernel)))
   (Zah (Zab (Zan (i:=4) Zff.nd rfl (Or.inl rfl) (Zay (l:=[]) (by decide +kernel)))
   (Zah (Zab (Zan (i:=5) Zff.nd rfl (Or.inl rfl) Zbl)
   (Zah (Zab (Zcb ZgW (ZcD (Zbu hu1 (pv 3) (pv 5)))
   (Zab (Zbq hu1 (pv 5) (pv 3) (Zam (Zap (K:=K) rfl) rfl T.z_len ZaB (Zaa (pv 4) Zac)) rfl)
   (Zah (Zab (Zan (i:=6) Zff.nd rfl (Or.inl rfl) (Zc9 (Zdk (K:=K) rfl) (Zk0 (Za9 (N:=["each","stem","stopping","ways"]) (ix:=[none,some 3,some 2,some 0]) rfl (ZaT rfl) rfl (Zct (Za2 hu1 (pv 0) (pv 3) (fun _ _=>rfl))) (fun _ _ _ _=>(Zaq (i:=0) (show (["each","stem","stopping","ways"]:List Str).Nodup from by decide +kernel) rfl (Or.inl rfl) (Or.inr rfl))) (fun _ _ _ _=>(Zcc (ZcD (Zbu hu1 (Za2 hu1 (Za2 hu1 (pv 3) (pv 1) (fun _ _=>rfl)) (pv 0) (fun _ _=>rfl)) (pv 2))))) (fun _ _ _ _=>(pv 0)))) Zal (fun _ _=>rfl)))
   (Zah (Zab (Zan (i:=3) Zff.nd rfl (Or.inr rfl) (Za2 hu1 (Za2 hu1 (pv 0) (pv 3) (fun _ _=>rfl)) (pv 6) (fun _ _=>rfl)))
   (Zah (Zae (Zan (i:=4) Zff.nd rfl (Or.inl rfl) (Zav ZaN (pv 4) (pv 6)))))))))))
   (Zah (Zae (Zde ZcO rfl (Zdg T.x_KY T.i_KY T.fn_KY (ZdF T) (hr.mono (by decide)) T.b_KY Zas rfl T.m_KY (Zaa (ZaK Zcq (pv 4) Za7 (ZaM (Za2 hu1 (pv 5) (pv 3) (fun _ _=>rfl)))) (Zaa (ZaK Zcq (pv 4) (ZaM (Za2 hu1 (pv 5) (pv 3) (fun _ _=>rfl))) Za7) Zac))))))))))))))),?_⟩
  have up:∀(x y:Q11) H1,Same H H1->X2 a.c_KY "head" "lap" E H x y->(2<=1000/\MkI (Zc3 K a.c_KY 2 (fs2 (Str.ofString "head") (Str.ofString "lap"))) E0 a.c_KY [tx x,tx y] H1 fun v H1=>∃e C d,v=.ref e/\H1 e=some (xo e C d)/\Xm K C/\E (.ref C) (some e) (upd H1 e (xr e C d))):=fun x y H1 s1 z=>
   ⟨by decide,MkI.of rfl fun e H2 s2 n2 x2=>by
    obtain⟨d,hd,hx⟩:=ZcC x2
    exact⟨e,_,d,rfl,hd,T.x_KY,z e _ (s1.trans (same_upd3 s2 n2)) hx⟩⟩
  have sz:∀k:Nat,k<=100000->k<=sizeLine:=fun k h=>YAK h (by rw[sizeLine_eq];decide)
  have m4:=ok.m4
  have sl82:=sl.len
  have esl:es.length<=ss.length:=Zbz es ss he.nd he.sub
  walk_at "rd"
  refine⟨pq,rfl,⟨_,.mk hq⟩,CompRun.tups (xs:=es.map tx) (fun j vs=>∃s,es[j]?=some s/\vs=[tx s,.bl true]) (by rw[YAB];omega) (.mk hq) ?_ ?_⟩
  .intro j H1 Q1 hj s1 q1
   rw[YAB]at hj
   rw[ZbO hj]
   have hc:es[j]?=some (es.getD j []):=by rw[YAG,YAE hj];rfl
   generalize es.getD j []=s_ at hc
   walk_at "rd"
   exact⟨sz _ (by decide),NewT.of fun pt H2 s2 n2 l2=>q1 pt _ H2 s2 l2 ⟨s_,hc,rfl⟩⟩
  .intro p1 ys H1 s1 n1 l1 yl hy
   refine⟨p1,ys,es.map fun s=>(kTx s,.bl true),rfl,l1,⟨by rw[yl,YAB,YAB],fun j y hj=>?_⟩,fun pd nd=>?_⟩
   .obtain⟨t,vs,rfl,ht,s_,hs,rfl⟩:=hy j y hj
    exact⟨(kTx s_,.bl true),t,by rw[YAZ,hs];rfl,rfl,ht⟩
   .rw[ZeH _ [] (by rw[YBX,YBB];exact Zbv he.nd fun x _ y _ e=>ZaG e),YBX]
    have s2:Same H1 (upd H1 pd (.dK (es.map fun s=>(kTx s,.bl true)))):=Zao nd
    have l2:upd H1 pd (.dK (es.map fun s=>(kTx s,.bl true))) pd=some (.dK (es.map fun s=>(kTx s,.bl true))):=Zad
    generalize upd H1 pd (.dK (es.map fun s=>(kTx s,.bl true)))=H2 at s2 l2
    have s02:=s1.trans s2
    refine Zag ?_
    walk_at "rd"
    refine Zag ?_
    walk_at "rd"
    refine Zag ?_
    walk_at "rd"
    intro pm npm
    have s3:Same H2 (upd H2 pm (.dK [])):=Zao npm
    have l3:upd H2 pm (.dK []) pm=some (.dK []):=Zad
    generalize upd H2 pm (.dK [])=H3 at s3 l3
    refine Zag ?_
    walk_at "rd"
    refine WhileRun.by (fun σ H'=>∃(v6:Option V) (met:Q22) (s_ g:Q11) (kM:List (Key×V)),σ=[some (.ref p),some (.ref pq),some (.ref pd),some (tx s_),some (tx g),some (.ref pm),v6]/\Same H2 H'/\H' pm=some (.dK kM)/\Pth ws m (fun s=>s∈es) met s_ g/\MetD kM met) (fun _ H'=>match H' pm with | some (.dK k)=>ss.length-k.length | _=>0) ⟨_,[],[],[],[],rfl,s3,l3,.nil,⟨fun j s h=>(by simp at h),fun s h=>(by cases h),YAJ _⟩⟩ ?_
    rintro σ H4 ⟨v6,met,s_,g,kM,rfl,s4,l4,pth,md⟩
    have hst:=pth.stem
    have ms:s_∈ss:=(sl.iff s_).mpr hst.1
    have mel:met.length<=ss.length:=Zbz met ss pth.nd fun t ht=>(sl.iff t).mpr (hst.2 t ht)
    have gl:=pth.len
    refine⟨!decide (s_∈met),fun Q' hq=>?_,fun H5 s5=>?_⟩
    .walk_at "rd"
     refine⟨pm,_,rfl,.inl ⟨kM,kTx s_,.inl l4,rfl,rfl⟩,?_⟩
     rw[md.some]
     exact hq H4 (Same.refl _)
    .by_cases c:s_∈met
     .rw[decide_eq_true c]
      refine iteF ?_
      walk_at "rd"
      refine Zag ?_
      walk_at "rd"
      obtain⟨j,hj,ej⟩:=YAh c
      have hj':met[j]?=some s_:=YAD.mpr ⟨hj,ej⟩
      have l5:=s5 _ _ l4
      have vj:=md.at_ j s_ hj'
      refine⟨pm,_,rfl,.inl ⟨kM,kTx s_,.inl l5,rfl,vj.symm⟩,_,rfl,g,rfl,sz _ (by omega),pm,_,rfl,.inl ⟨kM,kTx s_,.inl l5,rfl,vj.symm⟩,_,rfl,g,rfl,sz _ (by omega),?_⟩
      rw[ZdX,Zbo]
      exact up _ _ H5 (s02.trans (s4.trans s5)) (qx _ _ ⟨met,s_,g,j,pth,hj',rfl,rfl⟩)
     .rw[decide_eq_false c]
      refine iteT ?_
      walk_at "rd"
      have l5:=s5 _ _ l4
      refine⟨_,_,rfl,ZbN (by omega),pm,_,rfl,DPut.k (k:=kTx s_) l5 (YAT (show _<100000 by have:=md.len;omega) (sz 100000 (YAJ _))),?_⟩
      rw[gl]
      have md6:=md.put c
      have s6:Same H2 (upd H5 pm (.dK (putK kM (kTx s_) (.int (met.length:Nat))))):=same_upd3 (s4.trans s5) npm
      have l6:upd H5 pm (.dK (putK kM (kTx s_) (.int (met.length:Nat)))) pm=some (.dK (putK kM (kTx s_) (.int (met.length:Nat)))):=Zad
      generalize upd H5 pm (.dK (putK kM (kTx s_) (.int (met.length:Nat))))=H6 at s6 l6
      refine Zag ?_
      walk_at "rd"
      obtain⟨au,va,na,hau⟩:=wl.val sl.nd ms
      have s06:=s02.trans s6
      have a6:=s06 _ _ hau
      have p6:=s06 _ _ hp
      have d6:=s6 _ _ l2
      have look:∀(i:Nat) (kv:Key×V),((onw ws m s_).map wayK)[i]?=some kv->∃c,(onwC ws m s_).getD i 0=c/\(onwC ws m s_)[i]?=some c/\kv=wayK (c,estOf ws (s_++[c])):=fun i kv hkv=>by
       unfold onw at hkv
       rw[YBB,YAZ]at hkv
       cases e:(onwC ws m s_)[i]? with
       | none=>rw[e]at hkv;cases hkv
       | some c=>rw[e]at hkv;cases hkv;exact⟨c,by rw[YAG,e];rfl,rfl,rfl⟩
      have vcs:∀(i:Nat) (c:Nat),(onwC ws m s_)[i]?=some c->valV ((onw ws m s_).map wayK) (kTx [c])=some (tx (estOf ws (s_++[c]))):=fun i c hc=>ZbU (i:=i) (Zgh (ZcM ok.k)) (by unfold onw;rw[YBB,YAZ,hc];rfl)
      have npa:p≠au:=YAS na
      have nda:pd≠au:=fun z=>by
       have e:=Zai (s1 _ _ hau) nd
       exact e z.symm
      refine⟨au,_,a6,p,.ref au,rfl,.inl ⟨kw,kTx s_,.inl p6,rfl,va.symm⟩,au,_,rfl,a6,fun o=>CompRun.keys (fun i=>!decide (estOf ws (s_++[(onwC ws m s_).getD i 0])∈es)) (fun i=>tx [(onwC ws m s_).getD i 0]) (by unfold onw;rw[YAB,YAB];exact YAK (YAt _ _) (by omega)) Zad ?_ ?_ ?_⟩
      .intro i kv H7 Q7 hkv s7 q7
       obtain⟨c0,eg,hc,rfl⟩:=look i kv hkv
       rw[eg]at q7
       show tB _ (List.set _ 0 (some (kV (kTx [c0])))) _ _
       rw[ZeL]
       walk_at "rd"
       refine⟨p,.ref au,rfl,.inl ⟨kw,kTx s_,.inl (s7 _ _ (by rw[Zaf npa];exact p6)),rfl,va.symm⟩,au,_,rfl,.inl ⟨_,kTx [c0],.inr ⟨o,s7 _ _ Zad⟩,rfl,(vcs i c0 hc).symm⟩,pd,_,rfl,.inl ⟨_,kTx (estOf ws (s_++[c0])),.inl (s7 _ _ (by rw[Zaf nda];exact d6)),rfl,rfl⟩,?_⟩
       rw[Zhj]
       exact q7 H7 (Same.refl _)
      .intro i kv H7 Q7 hkv _ s7 q7
       obtain⟨c0,eg,hc,rfl⟩:=look i kv hkv
       rw[eg]at q7
       show tVar 0 (List.set _ 0 (some (kV (kTx [c0])))) _ _
       rw[ZeL]
       walk_at "rd"
       exact q7 H7 (Same.refl _)
      .intro pf H7 s7 n7 l7
       have lo:((onw ws m s_).map wayK).length=(onwC ws m s_).length:=by unfold onw;rw[YAB,YAB]
       rw[lo,ZfJ (fun c=>!decide (estOf ws (s_++[c])∈es)) (fun c=>tx [c]) (onwC ws m s_)]at l7
       refine⟨o,_,s7 _ _ Zad,?_⟩
       have npf:pf≠au:=fun z=>by rw[z,Zad]at n7;cases n7
       have s68:Same H6 (upd H7 au (.dK ((onw ws m s_).map wayK))):=Same.thaw (H1:=H6) a6 s7
       have l8:upd H7 au (.dK ((onw ws m s_).map wayK)) pf=some (.lst (((onwC ws m s_).filter fun c=>!decide (estOf ws (s_++[c])∈es)).map fun c=>tx [c])):=by rw[Zaf npf];exact l7
       generalize upd H7 au (.dK ((onw ws m s_).map wayK))=H8 at s68 l8
       have ns:s_∉es:=pth.out hn
       obtain⟨t,ht,nt⟩:=he.stay s_ ms ns
       obtain⟨c0,hc0⟩:∃c0,((onwC ws m s_).filter fun c=>!decide (estOf ws (s_++[c])∈es))[0]?=some c0:=by
        unfold outS onw at ht
        obtain⟨x,hx,rfl⟩:=YAc.mp ht
        obtain⟨d,hd,rfl⟩:=YAc.mp hx
        have:d∈(onwC ws m s_).filter fun c=>!decide (estOf ws (s_++[c])∈es):=YBA.mpr ⟨hd,by simpa using nt⟩
        cases e:(onwC ws m s_).filter fun c=>!decide (estOf ws (s_++[c])∈es) with
        | nil=>rw[e]at this;cases this
        | cons c0 r=>exact⟨c0,rfl⟩
       obtain⟨i,hi,pi,mn⟩:=Zc7 hc0
       have fc:FirstC ws m (fun s=>s∈es) s_ c0:=⟨i,hi,by simpa using pi,fun j d hj hd=>by simpa using mn j d hj hd⟩
       refine⟨pf,_,0,tx [c0],rfl,rfl,.mk l8,Zja (j:=0) (by rw[YAZ,hc0];rfl),?_⟩
       refine Zag ?_
       walk_at "rd"
       refine⟨p,.ref au,rfl,.inl ⟨kw,kTx s_,.inl (s68 _ _ p6),rfl,va.symm⟩,au,_,rfl,.inl ⟨_,kTx [c0],.inl (s68 _ _ a6),rfl,(vcs i c0 hi).symm⟩,Zag ?_⟩
       walk_at "rd"
       refine⟨sz _ (by omega),⟨_,met++[s_],estOf ws (s_++[c0]),g++[c0],_,rfl,s6.trans s68,s68 _ _ l6,.step pth c fc,md6⟩,?_⟩
       rw[s68 _ _ l6,l4]
       have nk:valV kM (kTx s_)=none:=by
        cases e:valV kM (kTx s_) with
        | none=>rfl
        | some v=>exact absurd (md.mem s_ (by rw[e];rfl)) c
       have pl:(putK kM (kTx s_) (.int (met.length:Nat))).length=kM.length+1:=by rw[Zdd _ nk,YAI];rfl
       have me2:(met++[s_]).length<=ss.length:=Zbz _ ss (Pth.step pth c fc).nd fun t ht=>(sl.iff t).mpr ((Pth.step pth c fc).stem.2 t ht)
       rw[YAI,YAN]at me2
       have:=md.len
       show ss.length-(putK kM (kTx s_) (.int (met.length:Nat))).length<ss.length-kM.length
       rw[pl];omega
theorem Zhr:FnScope ["self","found","shorter","length","standing"] ["self"] (Zaj s_KD):=by walk_at "sc"
theorem Zo0 (T:TL K mg base a tb):FnOk P w K mg base CX0 3 a.g_KD a.e_KD ["self"] (ZnX K a):=by
 refine T.fm_KD.ok Zhr (fun vs H Q E h=>?_) (fun cdv A outer s H vs Q E hr h=>?_)
 .obtain⟨_,_,_,rfl,_⟩:=h;rfl
 .have hu64:=hr.units
  have hu1:=ZaH hr
  obtain⟨p,l,m,rfl,hp,ok,q⟩:=h
  refine⟨_,(Zab (Zan (i:=1) Zhr.nd rfl (Or.inl rfl) (Zbe Zac))
   (Zab (Zan (i:=2) Zhr.nd rfl (Or.inl rfl) (Zge (pv 0) T.cl_LF T.me_Plain_words (ZmE T) (hr.mono (by decide)) T.b_KG .nil Zas (Zaa Zal Zac)))
   (Zab (ZaI YAb rfl (ZcF rfl T.z_range (Zaa Zal (Zaa (Zav ZaO (ZgU (pv 0) T.cl_LF T.me_Plain_reach (ZoZ T) (hr.mono (by decide)) T.b_KF .nil Zas) Zal) Zac))) (Zaq (i:=3) Zhr.nd rfl (Or.inl rfl))
   (Zab (Zan (i:=4) Zhr.nd rfl (Or.inl rfl) (Zge (pv 0) T.cl_LF T.me_Plain_words (ZmE T) (hr.mono (by decide)) T.b_KG .nil Zas (Zaa (pv 3) Zac)))
   (Zab (ZaU (Zfj YBU PySem.F.slot_list_extend PySem.F.type_list_extend Ziw (pv 1) (Zaa (Zak (ZoJ T) (hr.mono (by decide)) rfl T.m_LH T.f_LH.kp T.b_LH .nil Zas (Zaa (pv 2) (Zaa (pv 4) (Zaa (Zgf (K:=K) rfl (pv 0) rfl) Zac)))) Zac)))
   (Zae (Zan (i:=2) Zhr.nd rfl (Or.inl rfl) (pv 4))))))
   (Zae (Zar (pv 1)))))),?_⟩
  obtain⟨dx,hp⟩:=hp
  have l40:=ok.l40
  have m4:=ok.m4
  walk_at "rd"
  refine⟨YAg _,NewL.of fun pf H1 s1 nf lf=>?_⟩
  refine⟨p,dx,_,rfl,s1 _ _ hp,ZdS (by decide +kernel) (by decide +kernel),p,l,m,0,rfl,⟨dx,s1 _ _ hp⟩,ok,YAg _,fun q0 H2 s2 n2 e2=>?_⟩
  refine⟨p,dx,_,rfl,(s1.trans s2) _ _ hp,ZdS (by decide +kernel) (by decide +kernel),p,l,m,rfl,⟨dx,(s1.trans s2) _ _ hp⟩,ok,?_⟩
  walk_at "rd"
  have ej:((l.length:Nat)+1+1-1:Int).toNat=l.length+1:=by omega
  refine⟨_,_,rfl,⟨by omega,by omega,by omega,by omega⟩,?_⟩
  rw[ej]
  refine ForRun.range (fun i σ H'=>∃(v3 v4:Option V) (q0:Addr),σ=[some (.ref p),some (.ref pf),some (.ref q0),v3,v4]/\Same H H'/\H' pf=some (.lst ((Zc5 l m i).map tx))/\H' q0=some (.lst ((wordsOf l i).map tx))/\pf≠q0) ⟨_,_,q0,rfl,s1.trans s2,s2 _ _ lf,e2,Zai lf n2⟩ ?_ ?_
  .rintro i σ H3 hi ⟨v3,v4,q0,rfl,s3,h3,h4,ne0⟩
   have e1:(1+(i:Int))=((i+1:Nat):Int):=by omega
   have ll:=Zei (l:=l) (m:=m) (i:=i) m4 l40 (by omega)
   have la:=Zei (l:=l) (m:=m) (i:=i+1) m4 l40 (by omega)
   rw[ZdM,YAI]at la
   rw[e1]
   walk_at "rd"
   refine⟨p,dx,_,rfl,s3 _ _ hp,ZdS (by decide +kernel) (by decide +kernel),p,l,m,i+1,rfl,⟨dx,s3 _ _ hp⟩,ok,by omega,fun q1 H4 s4 n4 e4=>?_⟩
   have h3':=s4 _ _ h3
   have ne1:pf≠q1:=Zai h3 n4
   refine⟨.inl ⟨rfl,_,.mk h3'⟩,p,_,dx,_,_,rfl,(s3.trans s4) _ _ hp,T.cl_LF,T.n_Plain_own_kinds,ZhG,?_⟩
   refine⟨q0,q1,wordsOf l i,wordsOf l (i+1),m,rfl,s4 _ _ h4,e4,by have:=Zdo l i;omega,m4,fun w hw=>by have:=(Zbh (l:=l) (by omega)).mp hw;omega,fun r H5 s5 n5 e5=>?_⟩
   refine⟨pf,r,_,_,rfl,rfl,s5 _ _ h3',e5,by rw[YAB,YAB,sizeLine_eq];omega,_,_,q1,rfl,same_upd3 (s3.trans (s4.trans s5)) nf,?_,?_,ne1⟩
   .rw[Zad,ZdM,YAq]
   .rw[Zaf (YAS ne1)]
    exact s5 _ _ e4
  .rintro σ H3 ⟨v3,v4,q0,rfl,s3,h3,h4,ne0⟩
   walk_at "rd"
   exact q pf H3 s3 h3
theorem ZkQ:FnScope ["_law_words","_law_kinds_here","_law_head","_law_lap","_law_text"] ["_law_words","_law_kinds_here","_law_head","_law_lap"] (Zaj s_KU):=by walk_at "sc"
theorem ZoQ (T:TL K mg base a tb):FnOk P w K mg base CX0 3 a.f_KU a.d_KU ["_law_words","_law_kinds_here","_law_head","_law_lap"] (ZnK K a):=by
 refine T.f_KU.ok ZkQ (fun vs H Q E h=>?_) (fun cdv A outer s H vs Q E hr h=>?_)
 .obtain⟨_,_,_,_,_,rfl,_⟩:=h;rfl
 .have hu64:=hr.units
  have hu1:=ZaH hr
  obtain⟨b,ws,m,x,y,rfl,hb,lk,x9,y9,hx,hy,yn,hs,ha,q⟩:=h
  refine⟨_,(Zab (ZaP (PW.pt (ZbY (ZbH (Za1 (Zak (Zhw T) (hr.mono (by decide)) rfl T.m_LU T.f_LU.kp T.b_LU .nil Zas (Zaa (pv 1) (Zaa (pv 2) Zac))))) (ZbY (ZbH (Za1 (Zak (Zhw T) (hr.mono (by decide)) rfl T.m_LU T.f_LU.kp T.b_LU .nil Zas (Zaa (pv 1) (Zaa (pv 3) Zac))))) (ZbX (Zat (ZaA (K:=K) rfl hu64) (pv 3) (Zay (l:=[]) (by decide +kernel)) (Zaw _)))))) (Zae (Zar Zbg)) Zau)
   (Zah (Zab (ZaP (Zat Zfn (Zav ZaO (Zam (Zap (K:=K) rfl) rfl T.z_len ZaB (Zaa (pv 2) Zac)) (Zam (Zap (K:=K) rfl) rfl T.z_len ZaB (Zaa (pv 3) Zac))) (Zav ZaO (Zam (ZfU rfl) rfl T.z_sum Zko (Zaa (Za9 (N:=["_law_word"]) (ix:=[none]) rfl (ZaT rfl) rfl (ZaC (K:=K) rfl (pv 0)) (fun _ _ _ _=>(Zaq (i:=0) (show (["_law_word"]:List Str).Nodup from by decide +kernel) rfl (Or.inl rfl) (Or.inr rfl))) (fun _ _ _ _=>Zbk) (fun _ _ _ _=>(Zam (Zap (K:=K) rfl) rfl T.z_len ZaB (Zaa (pv 0) Zac)))) Zac)) Zal) (Zaw _)) (Zae (Zar Zbg)) Zau)
   (Zah (Zab (Zan (i:=4) ZkQ.nd rfl (Or.inl rfl) (Zav ZaN (pv 2) (pv 3)))
   (Zah (Zab (Zcb YAb (Zat Zjv (Zam (Zap (K:=K) rfl) rfl T.z_len ZaB (Zaa (pv 4) Zac)) (Zav ZaO (Zav ZaO (Zam (Zap (K:=K) rfl) rfl T.z_len ZaB (Zaa (pv 2) Zac)) (Zav ZdD Zal (Zam (Zap (K:=K) rfl) rfl T.z_len ZaB (Zaa (pv 3) Zac)))) Zal) (Zaw _))
   (Zae (Zan (i:=4) ZkQ.nd rfl (Or.inl rfl) (Zav ZaN (pv 4) (pv 3)))))
   (Zah (Zae (Zar (Zak (Zis T) (hr.mono (by decide)) rfl T.m_K2 T.f_K2.kp T.b_K2 .nil Zas (Zaa (pv 0) (Zaa (pv 4) Zac))))))))))))),?_⟩
  have sz:∀k:Nat,k<=9000->k<=sizeLine:=fun k h=>YAK h (by rw[sizeLine_eq];decide)
  have al:∀ {u:Q11},(∀c∈u,c∈m)->(u.all fun c=>m.contains c)=true:=fun h=>by
   rw[YAs]
   exact fun c hc=>by simpa using h c hc
  have ln:=lk.len
  walk_at "rd"
  refine⟨m,x,rfl,by omega,fun H1 s1=>⟨_,rfl,?_⟩⟩
  rw[al hx]
  refine iteF ⟨m,y,rfl,by omega,fun H2 s2=>⟨_,rfl,?_⟩⟩
  rw[al hy]
  refine iteF (ZdT fun k hk=>⟨k,rfl,ite2 (fun h=>absurd (hk.mp h) yn) (fun _=>Zag ?_)⟩)
  have s02:=s1.trans s2
  have h2:=s02 _ _ hb
  walk_at "rd"
  refine⟨_,_,rfl,ZbN (by omega),_,_,rfl,ZbN (by omega),b,rfl,⟨_,.mk h2⟩,CompRun.listL (xs:=ws.map tx) (fun _=>true) (fun i=>.int ((ws.getD i []).length:Nat)) (by rw[YAB];omega) (.mk h2) (fun i H' Q' _ _ q=>q H' (Same.refl _)) ?_ ?_⟩
  .intro i H3 Q3 hi _ s3 q3
   rw[YAB]at hi
   rw[ZbO hi]
   have hm:ws.getD i []∈ws:=by rw[YAG,YAE hi];exact YBM hi
   have:=lk.w41 _ hm
   walk_at "rd"
   exact⟨_,_,rfl,ZbN (by omega),q3 H3 (Same.refl _)⟩
  .intro p3 H3 s3 n3 l3
   rw[filter_all,YAB]at l3
   have l3':H3 p3=some (.lst ((ws.map fun w=>((w.length:Nat):Int)).map V.int)):=by
    rw[l3,YBB]
    congr 2
    apply YBR (by simp)
    intro i h1 h2
    have hi:i<ws.length:=by simpa using h2
    simp[YAG,YAE hi]
   refine⟨p3,_,rfl,l3',?_⟩
   rw[Zet]
   refine ite2 (fun h=>absurd (of_decide_eq_true h) (by omega)) (fun _=>Zag ?_)
   walk_at "rd"
   refine⟨sz _ (by omega),Zag ?_⟩
   walk_at "rd"
   have s03:=s02.trans s3
   have yl:1<=y.length:=by
    cases y with
    | nil=>exact absurd rfl yn
    | cons c y=>rw[YAf];omega
   refine WhileRun.by (fun σ H'=>∃(n:Nat),σ=[some (.ref b),some (tx m),some (tx x),some (tx y),some (tx (x++rpt y n))]/\Same H H'/\(x++rpt y n).length<=x.length+3*y.length+41) (fun σ _=>match σ with | [_,_,_,_,some (.str t)]=>x.length+2*y.length+41-t.length | _=>0) ⟨1,by rw[show rpt y 1=y from YBC y],s03,by rw[show rpt y 1=y from YBC y,YAI];omega⟩ ?_
   rintro σ H4 ⟨n,rfl,s4,tl⟩
   refine⟨decide ((x++rpt y n).length<x.length+2*y.length+41),fun Q' hq=>?_,fun H5 s5=>?_⟩
   .walk_at "rd"
    refine⟨_,_,rfl,ZbN (by omega),_,_,rfl,ZbN (by omega),_,_,rfl,ZbN (by omega),.inl ⟨by omega,by omega⟩,?_⟩
    have e:decide ((((x++rpt y n).length:Nat):Int)<((x.length:Nat):Int)+2*((y.length:Nat):Int)+41)=decide ((x++rpt y n).length<x.length+2*y.length+41):=by rw[decide_eq_decide];omega
    rw[e]
    exact hq H4 (Same.refl _)
   .by_cases c:(x++rpt y n).length<x.length+2*y.length+41
    .rw[decide_eq_true c]
     refine iteT ?_
     walk_at "rd"
     have e1:x++rpt y n++y=x++rpt y (n+1):=by rw[YBm,ZgQ]
     have e2:(x++rpt y n++y).length=(x++rpt y n).length+y.length:=YAI
     have tl:∀l:Q11,(⟨l.toArray⟩:Str).length=l.length:=fun l=>by simp[Str.length]
     refine⟨sz _ (by omega),⟨n+1,by rw[e1],s4.trans s5,by rw[<-e1,e2];omega⟩,?_⟩
     rw[tl,tl,e2]
     omega
    .rw[decide_eq_false c]
     refine iteF ?_
     walk_at "rd"
     refine Zag ?_
     walk_at "rd"
     refine⟨b,ws,_,rfl,s5 _ _ (s4 _ _ hb),by omega,fun p hp=>by have:=lk.w41 p hp;omega,by omega,fun H6 s6=>?_⟩
     rw[ZbQ.mpr (ha n)]
     exact q H6 ((s4.trans s5).trans s6)
theorem Zl6:FnScope ["_law_words","_law_kinds_here","_law_one","_law_other","_law_longer"] ["_law_words","_law_kinds_here","_law_one","_law_other"] (Zaj s_LD):=by walk_at "sc"
theorem ZoL (T:TL K mg base a tb):FnOk P w K mg base CX0 3 a.f_LD a.d_LD ["_law_words","_law_kinds_here","_law_one","_law_other"] (ZnD K a):=by
 refine T.f_LD.ok Zl6 (fun vs H Q E h=>?_) (fun cdv A outer s H vs Q E hr h=>?_)
 .obtain⟨_,_,_,_,_,rfl,_⟩:=h;rfl
 .have hu64:=hr.units
  have hu1:=ZaH hr
  obtain⟨b,ws,m,x,y,rfl,hb,lk,ok,x1,y1,hx,hy,ni,ax,ay,ex,q⟩:=h
  refine⟨_,(Zab (ZaP (PW.pt (ZbY (ZbH (Za1 (Zak (Zhw T) (hr.mono (by decide)) rfl T.m_LU T.f_LU.kp T.b_LU .nil Zas (Zaa (pv 1) (Zaa (pv 2) Zac))))) (ZbY (ZbH (Za1 (Zak (Zhw T) (hr.mono (by decide)) rfl T.m_LU T.f_LU.kp T.b_LU .nil Zas (Zaa (pv 1) (Zaa (pv 3) Zac))))) (ZbX (Za1 (Zak (Zjx T) (hr.mono (by decide)) rfl T.m_K5 T.f_K5.kp T.b_K5 .nil Zas (Zaa (pv 3) (Zaa (pv 2) Zac)))))))) (Zae (Zar Zbg)) Zau)
   (Zah (Zab (ZaP (PW.pt (ZbY (ZbH (Za1 (Zak (Zis T) (hr.mono (by decide)) rfl T.m_K2 T.f_K2.kp T.b_K2 .nil Zas (Zaa (pv 0) (Zaa (pv 2) Zac))))) (ZbX (ZbH (Za1 (Zak (Zis T) (hr.mono (by decide)) rfl T.m_K2 T.f_K2.kp T.b_K2 .nil Zas (Zaa (pv 0) (Zaa (pv 3) Zac)))))))) (Zae (Zar Zbg)) Zau)
   (Zah (Zab (Zan (i:=4) Zl6.nd rfl (Or.inl rfl) (Zav Zfo (Za9 (N:=["_law_letter","_law_one"]) (ix:=[none,some 2]) rfl (ZaT rfl) rfl (ZbZ (pv 1)) (fun _ _ _ _=>(Zaq (i:=0) (show (["_law_letter","_law_one"]:List Str).Nodup from by decide +kernel) rfl (Or.inl rfl) (Or.inr rfl))) (fun _ _ _ _=>Zbk) (fun _ _ _ _=>(Zav ZaN (pv 0) (pv 1)))) (Za9 (N:=["_law_letter","_law_one"]) (ix:=[none,some 2]) rfl (ZaT rfl) rfl (ZbZ (pv 1)) (fun _ _ _ _=>(Zaq (i:=0) (show (["_law_letter","_law_one"]:List Str).Nodup from by decide +kernel) rfl (Or.inl rfl) (Or.inr rfl))) (fun _ _ _ _=>Zbk) (fun _ _ _ _=>(Zav ZaN (pv 1) (pv 0))))))
   (Zah (Zae (Zar (ZaV (ZaA (K:=K) rfl hu64) (Za9 (N:=["_law_word","_law_words"]) (ix:=[none,some 0]) rfl (ZaT rfl) rfl (ZaC (K:=K) rfl (pv 4)) (fun _ _ _ _=>(Zaq (i:=0) (show (["_law_word","_law_words"]:List Str).Nodup from by decide +kernel) rfl (Or.inl rfl) (Or.inr rfl))) (fun _ _ _ _=>(Zcc (Za1 (Zak (Zis T) (hr.mono (by decide)) rfl T.m_K2 T.f_K2.kp T.b_K2 .nil Zas (Zaa (pv 1) (Zaa (pv 0) Zac)))))) (fun _ _ _ _=>(pv 0))) (Zbe Zac) (Zaw _)))))))))),?_⟩
  have sz:∀k:Nat,k<=9000->k<=sizeLine:=fun k h=>YAK h (by rw[sizeLine_eq];decide)
  have al:∀ {u:Q11},(∀c∈u,c∈m)->(u.all fun c=>m.contains c)=true:=fun h=>by
   rw[YAs]
   exact fun c hc=>by simpa using h c hc
  have ln:=lk.len
  have m4:=ok.m4
  have w9:∀p∈ws,p.length<=9000:=fun p hp=>by have:=lk.w41 p hp;omega
  walk_at "rd"
  refine⟨m,x,rfl,by omega,fun H1 s1=>⟨_,rfl,?_⟩⟩
  rw[al hx]
  refine iteF ⟨m,y,rfl,by omega,fun H2 s2=>⟨_,rfl,?_⟩⟩
  rw[al hy]
  refine iteF ⟨y,x,rfl,by omega,by omega,_,rfl,ite2 (fun h=>absurd (Za3.mp h) ni) (fun _=>Zag ?_)⟩
  have s02:=s1.trans s2
  walk_at "rd"
  refine⟨b,ws,x,rfl,s02 _ _ hb,by omega,w9,by omega,fun H3 s3=>⟨_,rfl,?_⟩⟩
  rw[ZbQ.mpr ax]
  refine iteF ⟨b,ws,y,rfl,s3 _ _ (s02 _ _ hb),by omega,w9,by omega,fun H4 s4=>⟨_,rfl,?_⟩⟩
  rw[ZbQ.mpr ay]
  refine iteF (Zag ?_)
  have s04:=s02.trans (s3.trans s4)
  walk_at "rd"
  refine⟨m,rfl,CompRun.text (fun _=>true) (fun i=>tx ([m.getD i 0]++x)) (by omega) (fun i H' Q' _ _ q=>q H' (Same.refl _)) ?_ ?_⟩
  .intro i H5 Q5 hi _ s5 q5
   walk_at "rd"
   exact⟨sz _ (by show 1+_<=_;omega),q5 H5 (Same.refl _)⟩
  .intro p5 H5 s5 n5 l5
   refine⟨m,rfl,CompRun.text (fun _=>true) (fun i=>tx (x++[m.getD i 0])) (by omega) (fun i H' Q' _ _ q=>q H' (Same.refl _)) ?_ ?_⟩
   .intro i H6 Q6 hi _ s6 q6
    walk_at "rd"
    exact⟨sz _ (by show _+1<=_;omega),q6 H6 (Same.refl _)⟩
   .intro p6 H6 s6 n6 l6
    rw[filter_all]at l5 l6
    have e5:((List.range m.length).map fun i=>tx ([m.getD i 0]++x))=(m.map fun c=>c::x).map tx:=by
     rw[YBB]
     apply YBR (by simp)
     intro i h1 h2
     have hi:i<m.length:=by simpa using h2
     simp[YAG,YAE hi]
    have e6:((List.range m.length).map fun i=>tx (x++[m.getD i 0]))=(m.map fun c=>x++[c]).map tx:=by
     rw[YBB]
     apply YBR (by simp)
     intro i h1 h2
     have hi:i<m.length:=by simpa using h2
     simp[YAG,YAE hi]
    rw[e5]at l5
    rw[e6]at l6
    refine⟨p5,p6,_,_,rfl,rfl,s6 _ _ l5,l6,by rw[YAB,YAB,YAB,YAB];exact sz _ (by omega),fun p7 n7=>?_⟩
    rw[<-YAq]
    have s7:Same H6 (upd H6 p7 (.lst (((m.map fun c=>c::x)++m.map fun c=>x++[c]).map tx))):=Zao n7
    have l7:upd H6 p7 (.lst (((m.map fun c=>c::x)++m.map fun c=>x++[c]).map tx)) p7=some (.lst (((m.map fun c=>c::x)++m.map fun c=>x++[c]).map tx)):=Zad
    generalize upd H6 p7 (.lst (((m.map fun c=>c::x)++m.map fun c=>x++[c]).map tx))=H7 at s7 l7
    have bad:∀u∈(m.map fun c=>c::x)++m.map fun c=>x++[c],¬Av ws u/\u.length<=101:=fun u hu=>by
     rcases YAe.mp hu with z | z
     .obtain⟨c,hc,rfl⟩:=YAc.mp z
      exact⟨(ex c hc).1,by rw[YAf];omega⟩
     .obtain⟨c,hc,rfl⟩:=YAc.mp z
      exact⟨(ex c hc).2,by rw[YAI,YAN];omega⟩
    have Ll:((m.map fun c=>c::x)++m.map fun c=>x++[c]).length<=8:=by rw[YAI,YAB,YAB];omega
    generalize ((m.map fun c=>c::x)++m.map fun c=>x++[c])=L at l7 bad Ll
    have s07:=s04.trans (s5.trans (s6.trans s7))
    refine Zag ?_
    walk_at "rd"
    refine⟨p7,rfl,⟨_,.mk l7⟩,CompRun.listL (xs:=L.map tx) (fun i=>avB ws (L.getD i [])) (fun i=>tx (L.getD i [])) (by rw[YAB];omega) (.mk l7) ?_ ?_ ?_⟩
    .intro i H8 Q8 hi s8 q8
     rw[YAB]at hi
     rw[ZbO hi]
     have hm:L.getD i []∈L:=by rw[YAG,YAE hi];exact YBM hi
     have:=(bad _ hm).2
     walk_at "rd"
     exact⟨b,ws,_,rfl,s8 _ _ (s07 _ _ hb),by omega,w9,by omega,fun H9 s9=>q8 H9 s9⟩
    .intro i H8 Q8 hi _ s8 q8
     rw[YAB]at hi
     rw[ZbO hi]
     walk_at "rd"
     exact q8 H8 (Same.refl _)
    .intro p8 H8 s8 n8 l8
     rw[YAB,ZfI [] (fun u=>avB ws u) tx L]at l8
     have fe:L.filter (fun u=>avB ws u)=[]:=by
      rw[YCp]
      exact fun u hu k=>(bad u hu).1 (ZbQ.mp k)
     rw[fe]at l8
     refine⟨YAg _,NewL.of fun p9 H9 s9 n9 l9=>Zem (xs:=[]) (ys:=[]) (.mk (s9 _ _ l8)) (.mk l9) ?_⟩
     rw[decide_eq_true rfl]
     exact q H9 (s07.trans (s8.trans s9))
theorem Zew:FnScope ["_law_words","_law_kinds_here","_law_cell","_law_way","_law_word","_law_at","_law_rest"] ["_law_words","_law_kinds_here","_law_cell"] (Zaj s_K0):=by walk_at "sc"
theorem ZmH (T:TL K mg base a tb):FnOk P w K mg base CX0 3 a.f_K0 a.d_K0 ["_law_words","_law_kinds_here","_law_cell"] (Zn7 K a):=by
 refine T.f_K0.ok Zew (fun vs H Q E h=>?_) (fun cdv A outer s H vs Q E hr h=>?_)
 .obtain⟨_,_,_,_,rfl,_⟩:=h;rfl
 .have hu64:=hr.units
  have hu1:=ZaH hr
  obtain⟨b,ws,m,c,rfl,hb,ok,lb,q⟩:=h
  refine⟨_,(Zab (Zan (i:=3) Zew.nd rfl (Or.inl rfl) (Zav Za5 (Zak (Zb0 T) (hr.mono (by decide)) rfl T.m_LP T.f_LP.kp T.b_LP .nil Zas (Zaa (pv 2) (Zaa Zal Zac))) Zal))
   (Zah (Zab (ZaP (PW.pt (ZbY (Zat Zfn (Zam (ZiZ rfl) rfl T.z_max Zna (Zaa (Zav Zfo (Za9 (N:=["_law_word"]) (ix:=[none]) rfl (ZaT rfl) rfl (ZaC (K:=K) rfl (pv 0)) (fun _ _ _ _=>(Zaq (i:=0) (show (["_law_word"]:List Str).Nodup from by decide +kernel) rfl (Or.inl rfl) (Or.inr rfl))) (fun _ _ _ _=>Zbk) (fun _ _ _ _=>(Zam (Zap (K:=K) rfl) rfl T.z_len ZaB (Zaa (pv 0) Zac)))) (Zbe (Zaa Zal Zac))) Zac)) Zal (Zaw _)) (ZbX (Zat Zfn (Zam (Zap (K:=K) rfl) rfl T.z_len ZaB (Zaa (pv 0) Zac)) Zal (Zaw _))))) (Zae (Zar (ZaK (Zdc (K:=K) rfl) (pv 0) (ZaM Zal) Za7))) Zau)
   (Zah (Zab (ZaP (PW.pt (ZbY (Zat (ZaA (K:=K) rfl hu64) (pv 0) (Zbe Zac) (Zaw _)) (ZbX (Zat (ZaA (K:=K) rfl hu64) (pv 3) Zal (Zaw _))))) (Zab (Zan (i:=4) Zew.nd rfl (Or.inl rfl) (Zak (Zjw T) (hr.mono (by decide)) rfl T.m_LI T.f_LI.kp T.b_LI .nil Zas (Zaa (pv 2) (Zaa Zbg (Zaa (pv 1) (Zaa (Zav ZaO Zal (Zav Za5 (Zak (Zb0 T) (hr.mono (by decide)) rfl T.m_LP T.f_LP.kp T.b_LP .nil Zas (Zaa (pv 2) (Zaa Zal Zac))) Zal)) Zac))))))
   (Zah (Zae (Zar (Zav Zfo (pv 0) (Zav Zmu (Zbe (Zaa (pv 4) Zac)) (Zbs Zi1 rfl T.z_int Znb (Zaa (ZaV (Zbn (K:=K) rfl) (pv 4) (pv 0) rfl) Zac)))))))) Zau)
   (Zah (Zab (Zan (i:=5) Zew.nd rfl (Or.inl rfl) (Zav Za5 (Zak (Zb0 T) (hr.mono (by decide)) rfl T.m_LP T.f_LP.kp T.b_LP .nil Zas (Zaa (pv 2) (Zaa Zal Zac))) (Zam (Zap (K:=K) rfl) rfl T.z_len ZaB (Zaa (pv 0) Zac))))
   (Zah (Zab (Zan (i:=6) Zew.nd rfl (Or.inl rfl) (Zav Zfo (ZaK (Zdc (K:=K) rfl) (pv 0) Za7 (ZaM (pv 5))) (ZaK (Zdc (K:=K) rfl) (pv 0) (ZaM (Zav ZaO (pv 5) Zal)) Za7)))
   (Zah (Zab (Zan (i:=4) Zew.nd rfl (Or.inl rfl) (Zc9 (Zdk (K:=K) rfl) (pv 0) (pv 5) (fun _ _=>rfl)))
   (Zah (Zab (ZaP (Zat (ZaA (K:=K) rfl hu64) (pv 3) Zal (Zaw _)) (Zae (Zan (i:=4) Zew.nd rfl (Or.inl rfl) (Zav ZaN (pv 4) (Zc9 ZiM (pv 1) (Zav Za5 (Zak (Zb0 T) (hr.mono (by decide)) rfl T.m_LP T.f_LP.kp T.b_LP .nil Zas (Zaa (pv 2) (Zaa Zal Zac))) (Zam (Zap (K:=K) rfl) rfl T.z_len ZaB (Zaa (pv 1) Zac))) (fun _ _=>rfl))))) Zau)
   (Zah (Zab (ZaP (Zat (ZaA (K:=K) rfl hu64) (pv 3) Zal (Zaw _)) (Zae (Zan (i:=4) Zew.nd rfl (Or.inl rfl) (Zav ZaN (Zc9 ZiM (pv 1) (Zav Za5 (Zak (Zb0 T) (hr.mono (by decide)) rfl T.m_LP T.f_LP.kp T.b_LP .nil Zas (Zaa (pv 2) (Zaa Zal Zac))) (Zam (Zap (K:=K) rfl) rfl T.z_len ZaB (Zaa (pv 1) Zac))) (fun _ _=>rfl)) (pv 4)))) Zau)
   (Zah (Zab (ZaP (Zat (ZaA (K:=K) rfl hu64) (pv 3) Zal (Zaw _)) (Zae (Zan (i:=4) Zew.nd rfl (Or.inl rfl) (ZaK Zcq (pv 4) (ZaM Zal) Za7))) Zau)
   (Zah (Zab (ZaP (PW.pt (ZbY (Zat (ZaA (K:=K) rfl hu64) (pv 3) Zal (Zaw _)) (ZbY (Zat (ZaA (K:=K) rfl hu64) (pv 4) (Zay (l:=[]) (by decide +kernel)) (Zaw _)) (ZbX (Zat (Zce (K:=K) rfl) (pv 4) (pv 6) rfl))))) (Zae (Zar (pv 6))) Zau)
   (Zah (Zae (Zar (Zav Zfo (pv 6) (Zbe (Zaa (pv 4) Zac))))))))))))))))))))))))),?_⟩
  have sz:∀k:Nat,k<=9000->k<=sizeLine:=fun k h=>YAK h (by rw[sizeLine_eq];decide)
  have n61:=lb.n61
  walk_at "rd"
  refine⟨c,1,rfl,fun r1 hr1=>?_⟩
  walk_at "rd"
  refine⟨by decide,Zag ?_⟩
  walk_at "rd"
  refine⟨b,rfl,⟨_,.mk hb⟩,CompRun.listL (xs:=ws.map tx) (fun _=>true) (fun i=>.int ((ws.getD i []).length:Nat)) (by rw[YAB];omega) (.mk hb) (fun i H' Q' _ _ q=>q H' (Same.refl _)) ?_ ?_⟩
  .intro i H3 Q3 hi _ s3 q3
   rw[YAB]at hi
   rw[ZbO hi]
   have hm:ws.getD i []∈ws:=by rw[YAG,YAE hi];exact YBM hi
   have:=lb.w12 _ hm
   walk_at "rd"
   exact⟨_,_,rfl,ZbN (by omega),q3 H3 (Same.refl _)⟩
  intro p3 H3 s3 n3 l3
  rw[filter_all,YAB]at l3
  have l3':H3 p3=some (.lst ((ws.map fun w=>((w.length:Nat):Int)).map V.int)):=by
   rw[l3,YBB]
   congr 2
   apply YBR (by simp)
   intro i h1 h2
   have hi:i<ws.length:=by simpa using h2
   simp[YAG,YAE hi]
  refine⟨sz _ (by decide),NewL.of fun p4 H4 s4 n4 l4=>⟨p3,p4,_,_,rfl,rfl,s4 _ _ l3',l4,sz _ (by rw[YAB,YAB,YAN];omega),fun p5 n5=>?_⟩⟩
  have s05:=((s3.trans s4).trans (Zao (o:=.lst ((ws.map fun w=>((w.length:Nat):Int)).map V.int++[V.int 0])) n5))
  have l5:upd H4 p5 (.lst ((ws.map fun w=>((w.length:Nat):Int)).map V.int++[V.int 0])) p5=some (.lst ((List.map (fun w:Q11=>((w.length:Nat):Int)) ws++[0]).map V.int)):=by
   rw[Zad,YAq];rfl
  generalize upd H4 p5 (.lst ((ws.map fun w=>((w.length:Nat):Int)).map V.int++[V.int 0]))=H5 at s05 l5
  have hb5:=s05 _ _ hb
  refine⟨p5,_,rfl,l5,by simp,fun r rm rx=>?_⟩
  have tail:∀(H':Hp),Same H H'->rSlL K (V.ref b) (some 1) none H' Q:=fun H' s'=>by
   refine⟨b,_,rfl,.mk (s' _ _ hb),fun p6 n6=>?_⟩
   refine q p6 (ws.drop 1) _ (s'.trans (Zao n6)) ?_ (lb.sub (List.drop_sublist 1 ws))
   rw[Zad,Zdn,show ((1:Int))=((1:Nat):Int) from rfl,Zbo,List.map_drop]
  refine ite2 (fun h=>?_) (fun h=>?_)
  .rw[YAW trivial]
   exact⟨1,rfl,tail H5 s05⟩
  have w11:∀w∈ws,w.length<=11:=fun w hw=>by
   have:=rx ((w.length:Nat):Int) (YBu _ (YAc.mpr ⟨w,hw,rfl⟩))
   have h':¬(11:Int)<r:=fun z=>h (decide_eq_true z)
   omega
  refine⟨_,_,rfl,.inl ⟨_,.mk hb5,rfl⟩,?_⟩
  rw[YAB]
  refine ite2 (fun h2=>⟨1,rfl,tail H5 s05⟩) (fun h2=>Zag ?_)
  have n60:ws.length<=60:=by
   have h':¬(60:Int)<((ws.length:Nat):Int):=fun z=>h2 (decide_eq_true z)
   omega
  clear rm rx h h2 tail l5 l3 l3' n3 n4 n5
  walk_at "rd"
  refine⟨YAg _,NewL.of fun p6 H6 s6 n6 l6=>?_⟩
  have s06:=s05.trans s6
  have hb6:=s06 _ _ hb
  refine Zem (ys:=[]) (.mk hb6) (.mk l6) ⟨_,rfl,Zmt ?_ (fun e4 ne4=>Zag ?_)⟩
  .refine⟨c,2,rfl,fun r2 hr2=>?_⟩
   walk_at "rd"
   have e1:=YBh r2 (show (5:Int)≠0 by decide)
   have e2:=YBW r2 (show (0:Int)<5 by decide)
   refine⟨by decide,c,true,m,1+r2 % 5,rfl,ok.m1,ok.m4,by omega,by omega,fun l ll lm=>?_⟩
   show Zbc _ _ _ _
   refine Zag ?_
   walk_at "rd"
   have ln:l≠[]:=fun z=>by rw[z]at ll;simp at ll;omega
   refine⟨sz _ (by decide),NewL.of fun p7 H7 s7 n7 l7=>⟨b,_,rfl,.inl (.mk (s7 _ _ hb6)),rfl,Za4 _,?_⟩⟩
   rw[YAW rfl,Zc6]
   refine .inr ⟨_,rfl,?_⟩
   have s07:=s06.trans s7
   by_cases hl:l∈ws
   .rw[decide_eq_true hl]
    refine⟨p7,0,[tx l],rfl,rfl,l7,by decide,by decide,sz _ (YAK (YBv (Nat.one_mul _)) (by decide)),fun p8 n8=>?_⟩
    have s08:=s07.trans (Zao (o:=.lst (List.replicate (0:Int).toNat [tx l]).flatten) n8)
    refine⟨b,p8,ws.map tx,[],rfl,rfl,s08 _ _ hb,Zad,sz _ (by rw[YAB,YCl];omega),fun p9 n9=>?_⟩
    exact q p9 ws _ (s08.trans (Zao n9)) (by rw[Zad,YBC]) lb
   .rw[decide_eq_false hl]
    refine⟨p7,1,[tx l],rfl,rfl,l7,by decide,by decide,sz _ (YAK (YBv (Nat.one_mul _)) (by decide)),fun p8 n8=>?_⟩
    have s08:=s07.trans (Zao (o:=.lst (List.replicate (1:Int).toNat [tx l]).flatten) n8)
    refine⟨b,p8,ws.map tx,[tx l],rfl,rfl,s08 _ _ hb,Zad,sz _ (by rw[YAB,YAN];omega),fun p9 n9=>?_⟩
    exact q p9 (ws++[l]) _ (s08.trans (Zao n9)) (by rw[Zad,YAq];rfl) (lb.snoc n60 hl ln (by omega) lm)
  .have wne:ws≠[]:=of_decide_eq_false e4
   have w1:1<=ws.length:=YCd.mpr wne
   walk_at "rd"
   refine⟨c,3,rfl,fun r3 hr3=>⟨_,_,rfl,.inl ⟨_,.mk hb6,rfl⟩,?_⟩⟩
   rw[YAB]
   have lx0:(0:Int)<(ws.length:Nat):=by omega
   have m0:=YBh r3 (show ((ws.length:Nat):Int)≠0 by omega)
   have m1:=YBW r3 lx0
   walk_at "rd"
   refine⟨lx0,?_⟩
   generalize r3 % ((ws.length:Nat):Int)=k at m0 m1
   obtain⟨k,rfl⟩:∃n:Nat,k=(n:Int):=⟨k.toNat,by omega⟩
   have kl:k<ws.length:=by omega
   obtain⟨v,hv⟩:∃v,ws[k]?=some v:=⟨_,YAE kl⟩
   have vm:=YAM hv
   have v11:=w11 v vm
   refine Zag ?_
   walk_at "rd"
   have ek:((k:Int)+1)=((k+1:Nat):Int):=by omega
   refine⟨_,rfl,b,_,rfl,.mk hb6,fun p7 n7=>⟨_,rfl,b,_,rfl,.mk (Zao n7 _ _ hb6),fun p8 n8=>?_⟩⟩
   rw[Zdn,ZdX,ek,Zdn,Zbo,<-List.map_take,<-List.map_drop]
   have s7:Same H6 (upd H6 p7 (.lst ((ws.take k).map tx))):=Zao n7
   have l7:upd H6 p7 (.lst ((ws.take k).map tx)) p7=some (.lst ((ws.take k).map tx)):=Zad
   rw[Zdn,ZdX,<-List.map_take]at n8
   generalize upd H6 p7 (.lst ((ws.take k).map tx))=H7 at s7 l7 n8
   refine⟨p7,p8,_,_,rfl,rfl,by rw[Zaf (Zai l7 n8)];exact l7,Zad,sz _ (by rw[YAB,YAB,YAd,YAn];omega),fun p9 n9=>?_⟩
   have s08:=(s06.trans s7).trans (Zao (o:=.lst ((ws.drop (k+1)).map tx)) n8)
   generalize upd H7 p8 (.lst ((ws.drop (k+1)).map tx))=H8 at s08 n9
   rw[<-YAq,<-List.eraseIdx_eq_take_drop_succ]
   have s09:=s08.trans (Zao (o:=.lst ((ws.eraseIdx k).map tx)) n9)
   have l9:upd H8 p9 (.lst ((ws.eraseIdx k).map tx)) p9=some (.lst ((ws.eraseIdx k).map tx)):=Zad
   generalize upd H8 p9 (.lst ((ws.eraseIdx k).map tx))=H9 at s09 l9
   have lbr:LB m (ws.eraseIdx k):=lb.sub (List.eraseIdx_sublist ws k)
   have rl:(ws.eraseIdx k).length<=60:=YAK (List.eraseIdx_sublist ws k).length_le n60
   generalize ws.eraseIdx k=rs at l9 lbr rl
   have hb9:=s09 _ _ hb
   clear n7 n8 n9 l7 s7 s08 l6 n6 s6 s06 hb6
   refine Zag ?_
   walk_at "rd"
   refine⟨b,_,_,tx v,rfl,rfl,.mk hb9,Zne hv,Zag ?_⟩
   walk_at "rd"
   have way0:=YBh r1 (show (5:Int)≠0 by decide)
   have way5:=YBW r1 (show (0:Int)<5 by decide)
   generalize r1 % 5=way at way0 way5 ne4
   have letr:∀r:Int,∃d,atI m (r % ((m.length:Nat):Int))=some d/\d∈m:=fun r=>by
    have p0:(0:Int)<((m.length:Nat):Int):=by have:=ok.m1;omega
    exact Zkr (YBh r (by omega)) (YBW r p0)
   refine Zbb fun k1 hk1=>⟨k1,rfl,ite2 (fun h1=>⟨c,4,rfl,fun r4 hr4=>⟨_,_,rfl,ZbN (by have:=ok.m4;omega),?_⟩⟩) (fun h1=>Zag ?_)⟩
   .obtain⟨d,hd,dm⟩:=letr r4
    have w1:=hk1.mp h1
    walk_at "rd"
    refine⟨by have:=ok.m1;omega,m,_,d,rfl,rfl,sz _ (by have:=ok.m4;omega),hd,sz _ (by omega),Zag ?_⟩
    walk_at "rd"
    refine Zbb fun k2 hk2=>⟨k2,rfl,ite2 (fun h=>absurd (hk2.mp h) (by omega)) (fun _=>Zag ?_)⟩
    walk_at "rd"
    refine Zbb fun k3 hk3=>⟨k3,rfl,ite2 (fun h=>absurd (hk3.mp h) (by omega)) (fun _=>Zag ?_)⟩
    walk_at "rd"
    refine ZcV (.mk l9) (q p9 rs H9 s09 l9 lbr) (fun wn ni=>Zag ?_)
    walk_at "rd"
    refine⟨sz _ (by decide),NewL.of fun pa Ha sa na la=>⟨p9,pa,_,_,rfl,rfl,sa _ _ l9,la,sz _ (by rw[YAB,YAN];omega),fun pb nb=>?_⟩⟩
    exact q pb (rs++[v++[d]]) _ ((s09.trans sa).trans (Zao nb)) (by rw[Zad,YAq];rfl) (lbr.snoc rl ni wn (by rw[YAI,YAN];omega) (fun x hx=>(YAe.mp hx).elim (fun z=>lb.gl.wm v vm x z) (fun z=>by rw[YAO.mp z];exact dm)))
   .walk_at "rd"
    refine Zbb fun k2 hk2=>⟨k2,rfl,ite2 (fun h2=>⟨c,4,rfl,fun r4 hr4=>⟨_,_,rfl,ZbN (by have:=ok.m4;omega),?_⟩⟩) (fun h2=>Zag ?_)⟩
    .obtain⟨d,hd,dm⟩:=letr r4
     have w2:=hk2.mp h2
     walk_at "rd"
     refine⟨by have:=ok.m1;omega,m,_,d,rfl,rfl,sz _ (by have:=ok.m4;omega),hd,sz _ (by omega),Zag ?_⟩
     walk_at "rd"
     refine Zbb fun k3 hk3=>⟨k3,rfl,ite2 (fun h=>absurd (hk3.mp h) (by omega)) (fun _=>Zag ?_)⟩
     walk_at "rd"
     refine ZcV (.mk l9) (q p9 rs H9 s09 l9 lbr) (fun wn ni=>Zag ?_)
     walk_at "rd"
     refine⟨sz _ (by decide),NewL.of fun pa Ha sa na la=>⟨p9,pa,_,_,rfl,rfl,sa _ _ l9,la,sz _ (by rw[YAB,YAN];omega),fun pb nb=>?_⟩⟩
     exact q pb (rs++[d::v]) _ ((s09.trans sa).trans (Zao nb)) (by rw[Zad,YAq];rfl) (lbr.snoc rl ni wn (by rw[YAf];omega) (fun x hx=>(YAY.mp hx).elim (fun z=>by rw[z];exact dm) (fun z=>lb.gl.wm v vm x z)))
    .walk_at "rd"
     refine Zbb fun k3 hk3=>⟨k3,rfl,ite2 (fun h3=>?_) (fun h3=>Zag ?_)⟩
     .refine⟨1,rfl,v,rfl,sz _ (by omega),?_⟩
      rw[show ((1:Int))=((1:Nat):Int) from rfl,Zbo]
      refine Zag ?_
      walk_at "rd"
      refine ZcV (.mk l9) (q p9 rs H9 s09 l9 lbr) (fun wn ni=>Zag ?_)
      walk_at "rd"
      refine⟨sz _ (by decide),NewL.of fun pa Ha sa na la=>⟨p9,pa,_,_,rfl,rfl,sa _ _ l9,la,sz _ (by rw[YAB,YAN];omega),fun pb nb=>?_⟩⟩
      exact q pb (rs++[v.drop 1]) _ ((s09.trans sa).trans (Zao nb)) (by rw[Zad,YAq];rfl) (lbr.snoc rl ni wn (by rw[YAn];omega) (fun x hx=>lb.gl.wm v vm x (YCX hx)))
     .walk_at "rd"
      have w0:way=0:=by
       have a1:way≠1:=fun z=>h1 (hk1.mpr z)
       have a2:way≠2:=fun z=>h2 (hk2.mpr z)
       have a3:way≠3:=fun z=>h3 (hk3.mpr z)
       omega
      refine Zbb fun k0 hk0=>⟨k0,rfl,?_⟩
      rw[hk0.mpr w0,YAW rfl,YAW trivial]
      exact q p9 rs H9 s09 l9 lbr
theorem ZkR:FnScope ["words","kinds","ahead","word"] ["words","kinds"] (Zaj s_KN):=by walk_at "sc"
theorem ZoW (T:TL K mg base a tb):FnOk P w K mg base CX0 4 a.f_KN a.d_KN ["words","kinds"] (ZnR K a):=by
 refine T.f_KN.ok ZkR (fun vs H Q E h=>?_) (fun cdv A outer s H vs Q E hr h=>?_)
 .obtain⟨_,_,_,rfl,_⟩:=h;rfl
 .have hu64:=hr.units
  have hu1:=ZaH hr
  obtain⟨b,ws,m,rfl,hb,ok,lk,q⟩:=h
  refine⟨_,(Zab (ZaU (Zak (ZmD T) (hr.mono (by decide)) rfl T.m_KK T.f_KK.kp T.b_KK .nil Zas (Zaa (pv 1) Zac)))
   (Zah (Zab (ZaP (PW.pt (ZbY (ZbH (Za1 (Zam (ZaW (K:=K) rfl) rfl T.z_isinstance ZaR (Zaa (pv 0) (Zaa (ZeB (v:=.ty "list") rfl T.z_list ZgE rfl) Zac))))) (ZbX (Zat Zfn (Zam (Zap (K:=K) rfl) rfl T.z_len ZaB (Zaa (pv 0) Zac)) (Zcd rfl T.c_KI) (Zaw _))))) (Zae Zjq) Zau)
   (Zah (Zab (Zan (i:=2) ZkR.nd rfl (Or.inl rfl) Zbl)
   (Zah (Zae (ZaI YAb rfl (ZaC (K:=K) rfl (pv 0)) (Zaq (i:=3) ZkR.nd rfl (Or.inl rfl))
   (Zab (ZaP (PW.pt (ZbY (ZbH (Za1 (Zak (ZmG T) (hr.mono (by decide)) rfl T.m_K1 T.f_K1.kp T.b_K1 .nil Zas (Zaa (pv 3) (Zaa (pv 1) (Zaa (Zcd rfl T.c_KE) Zac)))))) (ZbY (Zat (ZaA (K:=K) rfl hu64) (pv 3) (Zay (l:=[]) (by decide +kernel)) (Zaw _)) (ZbX (ZcD (Zj9 hu1 (pv 3) (pv 2))))))) (Zae Zjq) Zau)
   (Zae (Zbq hu1 (pv 2) (pv 3) Zbg rfl))))))))))),?_⟩
  have sz:∀k:Nat,k<=1000->k<=sizeLine:=fun k h=>YAK h (by rw[sizeLine_eq];decide)
  have ln:=lk.len
  have m4:=ok.m4
  walk_at "rd"
  refine⟨m,rfl,by omega,ok.k,fun H1 s1=>?_⟩
  have h1:=s1 _ _ hb
  show Zbc _ _ _ _
  refine Zag ?_
  walk_at "rd"
  refine⟨_,_,_,_,true,rfl,rfl,.ty (.seqL (.mk h1)),Zg2,iteF ⟨_,_,rfl,.inl ⟨_,.mk h1,rfl⟩,ite2 (fun h=>absurd (of_decide_eq_true h) (by rw[YAB];omega)) (fun _=>Zag ?_)⟩⟩
  walk_at "rd"
  intro pd npd
  have s2:Same H1 (upd H1 pd (.dK [])):=Zao npd
  have l2:upd H1 pd (.dK []) pd=some (.dK []):=Zad
  generalize upd H1 pd (.dK [])=H2 at s2 l2
  refine Zag ?_
  walk_at "rd"
  refine⟨b,rfl,⟨_,.mk (s2 _ _ h1)⟩,ForRun.list (xs:=ws.map tx) (fun i σ H'=>∃v3 kvs,σ=[some (.ref b),some (tx m),some (.ref pd),v3]/\Same H1 H'/\H' pd=some (.dK kvs)/\kvs.length<=i/\∀w,(valV kvs (kTx w)).isSome=true↔w∈ws.take i) ⟨_,[],rfl,s2,l2,YAJ _,fun w=>by rw[YBf];exact Iff.intro (fun z=>Bool.noConfusion z) (fun z=>nomatch z)⟩ (fun i σ H' _ ⟨_,_,_,s,_⟩=>.mk (s _ _ h1)) ?_ ?_⟩
  .rintro i x σ H3 hx ⟨v3,kvs,rfl,s3,h3,nk,hv⟩
   obtain⟨w_,hw,rfl⟩:=ZbS hx
   have hlt:=(YAD.mp hw).1
   have mw:=YAM hw
   have w41:=lk.w41 _ mw
   have ni:w_∉ws.take i:=Zcg (lk.nd) hw
   walk_at "rd"
   refine⟨w_,m,41,rfl,by omega,fun H4 s4=>⟨_,rfl,?_⟩⟩
   rw[Zlj (by omega) (lk.wm _ mw)]
   refine iteF (.inl ⟨rfl,_,rfl,?_⟩)
   rw[YAX YAF,ZfP,decide_eq_false (lk.ne _ mw)]
   have h4:=s4 _ _ h3
   refine iteF ⟨pd,_,rfl,DGet.k (k:=kTx w_) h4,?_⟩
   have ev:(valV kvs (kTx w_)).isSome=false:=YAr.mpr fun z=>ni ((hv w_).mp z)
   rw[ev]
   refine iteF ⟨pd,_,rfl,DPut.k (k:=kTx w_) h4 (YAT (show _<1000 by omega) (sz 1000 (YAJ _))),_,putK kvs (kTx w_) (.bl true),rfl,same_upd3 (s3.trans s4) npd,Zad,?_,fun w'=>?_⟩
   .have:=ZaE kvs (kTx w_) (.bl true);omega
   .rw[ZaS,ZaL hw,YAe,YAO]
    by_cases e:w'=w_
    .rw[YAW (by rw[e])];exact Iff.intro (fun _=>.inr e) (fun _=>rfl)
    .rw[YAX (fun z=>e (ZaG z)),hv];exact Iff.intro .inl (fun z=>z.elim id (fun z=>absurd z e))
  .rintro σ H3 ⟨v3,kvs,rfl,s3,h3,nk,hv⟩
   exact q H3 (s1.trans s3)
theorem Zoh:FnScope ["self","text","kinds"] ["self","text","kinds"] (Zaj s_KJ):=by walk_at "sc"
theorem ZoY (T:TL K mg base a tb):FnOk P w K mg base CX0 4 a.g_KJ a.e_KJ ["self","text","kinds"] (ZnU K a):=by
 refine T.fm_KJ.ok Zoh (fun vs H Q E h=>?_) (fun cdv A outer s H vs Q E hr h=>?_)
 .obtain⟨_,_,_,_,rfl,_⟩:=h;rfl
 .have hu64:=hr.units
  have hu1:=ZaH hr
  obtain⟨p,dx,l,m,rfl,hp,ok,q⟩:=h
  refine⟨_,(Zab (ZaU (Zak (ZmD T) (hr.mono (by decide)) rfl T.m_KK T.f_KK.kp T.b_KK .nil Zas (Zaa (pv 2) Zac)))
   (Zab (ZaU (Zak (ZoV T) (hr.mono (by decide)) rfl T.m_KO T.f_KO.kp T.b_KO .nil Zas (Zaa (pv 1) (Zaa (pv 2) (Zaa (Zcd rfl T.c_KB) Zac)))))
   (Zae (ZaU (Zju rfl T.m_LS T.cr_LS (ZoX T) (hr.mono (by decide)) T.kp_KL T.b_KL .nil Zas (Zaa (pv 0) (Zaa (pv 1) (Zaa (pv 2) Zac)))))))),?_⟩
  walk_at "rd"
  have m4:=ok.m4
  have l40:=ok.l40
  refine⟨m,rfl,by omega,ok.k,fun H1 s1=>?_⟩
  walk_at "rd?"
  refine⟨l,m,40,rfl,by omega,ZmQ ok,fun H2 s2=>?_⟩
  walk_at "rd?"
  exact⟨p,dx,l,m,rfl,s1.trans s2 _ _ hp,fun H3 r k=>q H3 r fun b o e ne=>k b o (s1.trans s2 _ _ e) ne⟩
theorem Zif:FnScope ["_law_words","_law_kinds_here","_law_found","_law_word","_law_one","_law_other","_law_longest_here"] ["_law_words","_law_kinds_here","_law_found"] (Zaj s_LQ):=by walk_at "sc"
theorem ZoD (T:TL K mg base a tb):FnOk P w K mg base CX0 4 a.f_LQ a.d_LQ ["_law_words","_law_kinds_here","_law_found"] (Zns K a):=by
 refine T.f_LQ.ok Zif (fun vs H Q E h=>?_) (fun cdv A outer s H vs Q E hr h=>?_)
 .obtain⟨_,_,_,_,_,_,_,rfl,_⟩:=h;rfl
 .have hu64:=hr.units
  have hu1:=ZaH hr
  obtain⟨b,t,ws,m,k,x,y,rfl,hb,ok,lk,s8,sh,ht,q⟩:=h
  refine⟨_,(Zab (Zmm (pv 2) (Zmo rfl (Zez (Zaq (i:=3) Zif.nd rfl (Or.inl rfl)) (Zez (Zaq (i:=4) Zif.nd rfl (Or.inl rfl)) (Zez (Zaq (i:=5) Zif.nd rfl (Or.inl rfl)) ZkZ)))))
   (Zah (Zab (ZaP (Za1 (Zak (Zo4 T) (hr.mono (by decide)) rfl T.m_K3 T.f_K3.kp T.b_K3 .nil Zas (Zaa (pv 0) Zac))) (Zae (Zar (Zbt (ZaV (ZaA (K:=K) rfl hu64) (pv 3) (Zay (l:=[105,110,115,105,100,101]) (by decide +kernel)) (Zaw _)) (Zbt (ZaV (Zcu (K:=K) rfl hu64) (pv 4) (pv 5) (Zaw _)) (Zbt (ZaV (Zce (K:=K) rfl) (pv 4) (pv 0) rfl) (Zbt (ZaV (Zce (K:=K) rfl) (pv 5) (pv 0) rfl) (ZcG (Zak (Zjx T) (hr.mono (by decide)) rfl T.m_K5 T.f_K5.kp T.b_K5 .nil Zas (Zaa (pv 4) (Zaa (pv 5) Zac)))))))))) Zau)
   (Zah (Zab (ZaP (Zat (ZaA (K:=K) rfl hu64) (pv 3) (Zay (l:=[101,110,100,108,101,115,115]) (by decide +kernel)) (Zaw _)) (Zae (Zar (Zak (ZoQ T) (hr.mono (by decide)) rfl T.m_KU T.f_KU.kp T.b_KU .nil Zas (Zaa (pv 0) (Zaa (pv 1) (Zaa (pv 4) (Zaa (pv 5) Zac))))))) Zau)
   (Zah (Zab (Zan (i:=6) Zif.nd rfl (Or.inl rfl) (Zak (ZoE T) (hr.mono (by decide)) rfl T.m_LO T.f_LO.kp T.b_LO .nil Zas (Zaa (pv 0) (Zaa (pv 1) (Zaa (Zav ZaO (Zam (ZfU rfl) rfl T.z_sum Zko (Zaa (Za9 (N:=["_law_one"]) (ix:=[none]) rfl (ZaT rfl) rfl (ZaC (K:=K) rfl (pv 0)) (fun _ _ _ _=>(Zaq (i:=0) (show (["_law_one"]:List Str).Nodup from by decide +kernel) rfl (Or.inl rfl) (Or.inr rfl))) (fun _ _ _ _=>Zbk) (fun _ _ _ _=>(Zam (Zap (K:=K) rfl) rfl T.z_len ZaB (Zaa (pv 0) Zac)))) Zac)) Zal) Zac)))))
   (Zah (Zab (ZaP (Zat Zmx (pv 6) ZgT (Zaw _)) (Zae (Zar Zbg)) Zau)
   (Zah (Zab (ZaP (Zat Zfn (pv 6) Zal (Zaw _)) (Zae (Zar (Zbt (ZaV (ZaA (K:=K) rfl hu64) (pv 3) (Zay (l:=[108,111,110,103]) (by decide +kernel)) (Zaw _)) (Zbt (Zak (Zhw T) (hr.mono (by decide)) rfl T.m_LU T.f_LU.kp T.b_LU .nil Zas (Zaa (pv 1) (Zaa (pv 4) Zac))) (Zbt (ZaV (ZaA (K:=K) rfl hu64) (Zam (Zap (K:=K) rfl) rfl T.z_len ZaB (Zaa (pv 4) Zac)) Zal (Zaw _)) (ZcG (Zak (Zis T) (hr.mono (by decide)) rfl T.m_K2 T.f_K2.kp T.b_K2 .nil Zas (Zaa (pv 0) (Zaa (pv 4) Zac))))))))) Zau)
   (Zah (Zab (ZaP (Zat (ZaA (K:=K) rfl hu64) (pv 3) (Zay (l:=[115,116,114,105,112]) (by decide +kernel)) (Zaw _)) (Zae (Zar (Zbt (Zak (Zhw T) (hr.mono (by decide)) rfl T.m_LU T.f_LU.kp T.b_LU .nil Zas (Zaa (pv 1) (Zaa (pv 4) Zac))) (Zbt (ZaV Zmw (Zam (Zap (K:=K) rfl) rfl T.z_len ZaB (Zaa (pv 4) Zac)) Zal (Zaw _)) (ZcG (ZaV (ZaA (K:=K) rfl hu64) (Zam (Zb6 rfl) rfl T.z_sorted Zb7 (Zaa (Zak (Zk5 T) (hr.mono (by decide)) rfl T.m_K6 T.f_K6.kp T.b_K6 .nil Zas (Zaa (Zbe (Zaa (pv 4) Zac)) (Zaa (pv 1) Zac))) Zac)) (Zam (Zb6 rfl) rfl T.z_sorted Zb7 (Zaa (pv 0) Zac)) (Zaw _))))))) Zau)
   (Zah (Zae (Zar (Zbt (ZaV (ZaA (K:=K) rfl hu64) (pv 3) (Zay (l:=[115,112,108,105,116]) (by decide +kernel)) (Zaw _)) (ZcG (Zak (ZoL T) (hr.mono (by decide)) rfl T.m_LD T.f_LD.kp T.b_LD .nil Zas (Zaa (pv 0) (Zaa (pv 1) (Zaa (pv 4) (Zaa (pv 5) Zac))))))))))))))))))))))),?_⟩
  have sz:∀k:Nat,k<=9000->k<=sizeLine:=fun k h=>YAK h (by rw[sizeLine_eq];decide)
  have ln:=lk.len
  have m4:=ok.m4
  have a0:Av ws []:=fun v hv hi=>lk.ne v hv (YAw.mp (by simpa using hi.len))
  have al:∀ {u:Q11},(∀c∈u,c∈m)->(u.all fun c=>m.contains c)=true:=fun h=>by
   rw[YAs]
   exact fun c hc=>by simpa using h c hc
  walk_at "rd"
  refine⟨t,_,rfl,.mk ht,rfl,_,_,rfl,_,_,rfl,_,_,rfl,rfl,Zag ?_⟩
  walk_at "rd"
  refine⟨b,ws,rfl,hb,by omega,fun p hp=>by have:=lk.w41 p hp;omega,fun z H1 s1 hz=>⟨z,rfl,?_⟩⟩
  have hb1:=s1 _ _ hb
  rcases sh.cut with⟨rfl,ne,hx,hy,hi⟩|⟨rfl,an,hx,hy,yn,xl,ha⟩|⟨g,an,lf,nt,rest⟩
  .have x41:=lk.w41 x hx
   have y41:=lk.w41 y hy
   have z1:z=true:=hz.mpr fun an=>ne (an x hx y hy hi)
   rw[z1]
   refine iteT (ZhI ⟨true,rfl,iteT (ZeF fun k hk=>⟨k,rfl,?_⟩)⟩)
   rw[hk.mpr ne]
   refine iteT ⟨b,_,rfl,.inl (.mk hb1),rfl,Za4 _,?_⟩
   rw[YAX YAF,Zc6,decide_eq_true hx]
   refine⟨true,rfl,iteT ⟨b,_,rfl,.inl (.mk hb1),rfl,Za4 _,?_⟩⟩
   rw[YAX YAF,Zc6,decide_eq_true hy]
   refine⟨true,rfl,iteT ⟨x,y,rfl,by omega,by omega,?_⟩⟩
   rw[Za3.mpr hi]
   exact q H1 s1
  .have z1:z=false:=YAr.mpr fun h=>hz.mp h an
   rw[z1]
   refine iteF (Zag ?_)
   walk_at "rd"
   exact ZhI ⟨true,rfl,iteT ⟨b,ws,m,x,y,rfl,hb1,lk,by omega,by omega,hx,hy,yn,xl,ha,fun H2 s2=>q H2 (s1.trans s2)⟩⟩
  .have z1:z=false:=YAr.mpr fun h=>hz.mp h an
   rw[z1]
   refine iteF (Zag ?_)
   walk_at "rd"
   refine ZdT fun k' hk=>⟨k',rfl,ite2 (fun h=>absurd (hk.mp h) nt) (fun _=>Zag ?_)⟩
   have gl:=Zlc a0 lf
   walk_at "rd"
   refine⟨b,rfl,⟨_,.mk hb1⟩,CompRun.listL (xs:=ws.map tx) (fun _=>true) (fun i=>.int ((ws.getD i []).length:Nat)) (by rw[YAB];omega) (.mk hb1) (fun i H' Q' _ _ q=>q H' (Same.refl _)) ?_ ?_⟩
   .intro i H3 Q3 hi _ s3 q3
    rw[YAB]at hi
    rw[ZbO hi]
    have hm:ws.getD i []∈ws:=by rw[YAG,YAE hi];exact YBM hi
    have:=lk.w41 _ hm
    walk_at "rd"
    exact⟨_,_,rfl,ZbN (by omega),q3 H3 (Same.refl _)⟩
   intro p3 H3 s3 n3 l3
   rw[filter_all,YAB]at l3
   have l3':H3 p3=some (.lst ((ws.map fun w=>((w.length:Nat):Int)).map V.int)):=by
    rw[l3,YBB]
    congr 2
    apply YBR (by simp)
    intro i h1 h2
    have hi:i<ws.length:=by simpa using h2
    simp[YAG,YAE hi]
   refine⟨p3,_,rfl,l3',?_⟩
   rw[Zet]
   have s03:=s1.trans s3
   have em:((((ws.map List.length).sum:Nat):Int)+2)=(((ws.map List.length).sum+2:Nat):Int):=by omega
   rw[em]
   refine⟨b,ws,m,g,_,rfl,s03 _ _ hb,ok,lk,an,lf,by omega,by omega,fun H4 s4=>?_⟩
   show Zbc _ _ _ _
   refine Zag ?_
   walk_at "rd"
   refine⟨trivial,ite2 (fun h=>absurd (of_decide_eq_true h) (fun h=>by cases h)) (fun _=>Zag ?_)⟩
   have s04:=s03.trans s4
   have hb4:=s04 _ _ hb
   walk_at "rd"
   rcases rest with⟨rfl,lt,rfl⟩|⟨rfl,le,r2⟩
   .have lt':decide ((40:Int)<((g.length:Nat):Int))=true:=decide_eq_true (by omega)
    rw[lt']
    have l41:(g.take 41).length=41:=by rw[YAd];omega
    refine iteT (ZhI ⟨true,rfl,iteT ⟨m,_,rfl,by omega,fun H5 s5=>?_⟩⟩)
    rw[al fun c hc=>lf.mem c (YBF hc)]
    refine⟨true,rfl,iteT ⟨_,_,rfl,ZbN (by omega),?_⟩⟩
    rw[l41]
    refine eq_int ⟨true,rfl,iteT ⟨b,ws,_,rfl,s5 _ _ hb4,by omega,fun p hp=>by have:=lk.w41 p hp;omega,by omega,fun H6 s6=>?_⟩⟩
    rw[ZbQ.mpr (lf.av.inf (by
     have:=Zcm (g.take 41) (g.drop 41)
     rw[YCP]at this
     exact this))]
    exact q H6 ((s04.trans s5).trans s6)
   .have le':¬decide ((40:Int)<((g.length:Nat):Int))=true:=fun h=>by have:=of_decide_eq_true h;omega
    rw[YAr.mpr le']
    refine iteF (Zag ?_)
    walk_at "rd"
    rcases r2 with⟨rfl,hy,ay⟩|⟨rfl,no⟩
    .refine ZdT fun k' hk=>⟨k',rfl,ite2 (fun h=>absurd (hk.mp h) (by decide)) (fun _=>Zag ?_)⟩
     walk_at "rd"
     have ms:=ZbI.mp hy
     refine ZhI ⟨true,rfl,iteT ⟨b,ws,m,g,y,rfl,hb4,lk,ok,by omega,?_,lf.mem,?_,ms.1.no,lf.av,ay,fun c hc=>lf.whole hc,fun H5 s5=>q H5 (s04.trans s5)⟩⟩
     .have:=ms.1.init.len
      rw[YBV]at this
      omega
     .intro c hc
      obtain⟨d,hd,cd⟩:=ms.2
      rw[Zck cd]at hc
      rcases YAe.mp hc with z | z
      .exact lf.mem c (ms.1.init.mem z)
      .rw[YAO.mp z];exact hd
    .refine ZhI ⟨true,rfl,iteT ⟨m,g,rfl,by omega,fun H5 s5=>?_⟩⟩
     rw[al lf.mem]
     refine⟨true,rfl,iteT ⟨_,_,rfl,ZbN (by omega),?_⟩⟩
     rw[decide_eq_true (show ((g.length:Nat):Int)<=40 by omega)]
     refine iteT ⟨sz _ (by omega),NewL.of fun p6 H6 s6 n6 l6=>?_⟩
     refine⟨p6,[g],m,rfl,l6,ok,by simp,fun l hl=>by rw[YAO.mp hl];exact le,fun p7 vs H7 s7 n7 l7 ms=>?_⟩
     have s07:=((s04.trans s5).trans s6).trans s7
     have pm:vs.Perm ws:=(List.perm_ext_iff_of_nodup ms.nd lk.nd).mpr fun w=>by
      rw[ms.lack]
      exact Zlg an lk.wm lf.av lf.mem no w
     refine⟨p7,vs,rfl,l7,by have:=pm.length_eq;omega,NewL.of fun p8 H8 s8 n8 l8=>?_⟩
     have s08:=s07.trans s8
     refine⟨b,ws,rfl,s08 _ _ hb,by omega,NewL.of fun p9 H9 s9 n9 l9=>?_⟩
     refine Zem (.mk (s9 _ _ l8)) (.mk l9) ?_
     rw[Zds pm,decide_eq_true rfl]
     exact q H9 (s08.trans s9)
theorem Zc8:FnScope ["_law_script","_law_kinds_here","_law_cell","_law_way","_law_one","_law_other","_law_found","_law_k","_law_word","_law_part"] ["_law_script","_law_kinds_here"] (Zaj s_LN):=by walk_at "sc"
theorem ZoF (T:TL K mg base a tb):FnOk P w K mg base CX0 4 a.f_LN a.d_LN ["_law_script","_law_kinds_here"] (Znv K a):=by
 refine T.f_LN.ok Zc8 (fun vs H Q E h=>?_) (fun cdv A outer s H vs Q E hr h=>?_)
 .obtain⟨_,_,_,rfl,_⟩:=h;rfl
 .have hu64:=hr.units
  have hu1:=ZaH hr
  obtain⟨b,ns,m,rfl,hS,h63,ok,m3,q⟩:=h
  refine⟨_,(Zab (Zan (i:=2) Zc8.nd rfl (Or.inl rfl) (Zak (Zhx T) (hr.mono (by decide)) rfl T.m_LL T.f_LL.kp T.b_LL .nil Zas (Zaa (pv 0) (Zaa Zal Zac))))
   (Zah (Zab (Zan (i:=3) Zc8.nd rfl (Or.inl rfl) (Zav Za5 (Zak (Zb0 T) (hr.mono (by decide)) rfl T.m_LP T.f_LP.kp T.b_LP .nil Zas (Zaa (pv 2) (Zaa Zal Zac))) Zal))
   (Zah (Zab (Zan (i:=4) Zc8.nd rfl (Or.inl rfl) (Zak (Zjw T) (hr.mono (by decide)) rfl T.m_LI T.f_LI.kp T.b_LI .nil Zas (Zaa (Zak (Zhx T) (hr.mono (by decide)) rfl T.m_LL T.f_LL.kp T.b_LL .nil Zas (Zaa (pv 0) (Zaa Zal Zac))) (Zaa Zbg (Zaa (pv 1) (Zaa (Zav Za5 (Zak (Zb0 T) (hr.mono (by decide)) rfl T.m_LP T.f_LP.kp T.b_LP .nil Zas (Zaa (pv 2) (Zaa Zal Zac))) Zal) Zac))))))
   (Zah (Zab (Zan (i:=5) Zc8.nd rfl (Or.inl rfl) (Zak (Zjw T) (hr.mono (by decide)) rfl T.m_LI T.f_LI.kp T.b_LI .nil Zas (Zaa (Zak (Zhx T) (hr.mono (by decide)) rfl T.m_LL T.f_LL.kp T.b_LL .nil Zas (Zaa (pv 0) (Zaa Zal Zac))) (Zaa Zbg (Zaa (pv 1) (Zaa (Zav Za5 (Zak (Zb0 T) (hr.mono (by decide)) rfl T.m_LP T.f_LP.kp T.b_LP .nil Zas (Zaa (pv 2) (Zaa Zal Zac))) Zal) Zac))))))
   (Zah (Zab (ZaP (Zat (ZaA (K:=K) rfl hu64) (pv 3) Zal (Zaw _)) (Zae (Zan (i:=6) Zc8.nd rfl (Or.inl rfl) (Zak (Zk5 T) (hr.mono (by decide)) rfl T.m_K6 T.f_K6.kp T.b_K6 .nil Zas (Zaa (Zbe (Zaa (pv 4) (Zaa (pv 5) Zac))) (Zaa (pv 1) Zac))))) (Zae (ZaP (Zat (ZaA (K:=K) rfl hu64) (pv 3) Zal (Zaw _)) (Zah (Zae (Zan (i:=6) Zc8.nd rfl (Or.inl rfl) (Zak (ZmH T) (hr.mono (by decide)) rfl T.m_K0 T.f_K0.kp T.b_K0 .nil Zas (Zaa (Zak (Zk5 T) (hr.mono (by decide)) rfl T.m_K6 T.f_K6.kp T.b_K6 .nil Zas (Zaa (Zbe (Zaa (pv 4) Zac)) (Zaa (pv 1) Zac))) (Zaa (pv 1) (Zaa (Zak (Zhx T) (hr.mono (by decide)) rfl T.m_LL T.f_LL.kp T.b_LL .nil Zas (Zaa (pv 0) (Zaa Zal Zac))) Zac))))))) (Zab (Zan (i:=6) Zc8.nd rfl (Or.inl rfl) (Zbe Zac))
   (Zae (ZaI YAb rfl (Zbr rfl T.z_range (Zaa (Zav ZaO Zal (Zav Za5 (Zak (Zb0 T) (hr.mono (by decide)) rfl T.m_LP T.f_LP.kp T.b_LP .nil Zas (Zaa (pv 2) (Zaa Zal Zac))) Zal)) Zac)) (Zaq (i:=7) Zc8.nd rfl (Or.inl rfl))
   (Zah (Zab (Zan (i:=8) Zc8.nd rfl (Or.inl rfl) (Zak (Zjw T) (hr.mono (by decide)) rfl T.m_LI T.f_LI.kp T.b_LI .nil Zas (Zaa (Zak (Zb0 T) (hr.mono (by decide)) rfl T.m_LP T.f_LP.kp T.b_LP .nil Zas (Zaa (pv 2) (Zaa (Zav ZaO Zal (pv 7)) Zac))) (Zaa Zbg (Zaa (pv 1) (Zaa (Zav ZaO Zal (Zav Za5 (Zak (Zb0 T) (hr.mono (by decide)) rfl T.m_LP T.f_LP.kp T.b_LP .nil Zas (Zaa (pv 2) (Zaa (Zav ZaO Zal (pv 7)) Zac))) Zal)) Zac))))))
   (Zah (Zae (ZaP (Zat (Zbn (K:=K) rfl) (pv 8) (pv 6) rfl) (Zae (ZaU (Zfj YBU YBq YBp Zbw (pv 6) (Zaa (pv 8) Zac)))) Zau)))))))))))
   (Zah (Zab (ZaI YAb rfl (ZaC (K:=K) rfl (ZaK (Zdc (K:=K) rfl) (pv 0) (ZaM Zal) (ZaM Zal))) (Zaq (i:=9) Zc8.nd rfl (Or.inl rfl))
   (Zae (ZaP (Zat (ZaA (K:=K) rfl hu64) (Zav Za5 (Zak (Zb0 T) (hr.mono (by decide)) rfl T.m_LP T.f_LP.kp T.b_LP .nil Zas (Zaa (pv 9) (Zaa Zal Zac))) Zal) Zal (Zaw _)) (Zah (Zae (Zan (i:=6) Zc8.nd rfl (Or.inl rfl) (Zak (ZmH T) (hr.mono (by decide)) rfl T.m_K0 T.f_K0.kp T.b_K0 .nil Zas (Zaa (pv 6) (Zaa (pv 1) (Zaa (pv 9) Zac))))))) Zau)))
   (Zah (Zae (Zar (Zak (ZmB T) (hr.mono (by decide)) rfl T.m_KV T.f_KV.kp T.b_KV .nil Zas (Zaa (pv 6) (Zaa (pv 2) Zac))))))))))))))))),?_⟩
  have sz:∀k:Nat,k<=9000->k<=sizeLine:=fun k h=>YAK h (by rw[sizeLine_eq];decide)
  have md:∀(r n:Int),0<n->0<=r % n/\r % n<n:=fun r n h=>⟨YBh r (by omega),YBW r h⟩
  walk_at "rd"
  refine⟨b,ns,1,rfl,hS,by decide,fun cl=>?_⟩
  show Zbc _ _ _ _
  refine Zag ?_
  walk_at "rd"
  refine⟨cl,1,rfl,fun r1 hr1=>?_⟩
  walk_at "rd"
  refine⟨by decide,Zag ?_⟩
  walk_at "rd"
  refine⟨b,ns,2,rfl,hS,by decide,fun c2=>⟨cl,2,rfl,fun r2 hr2=>?_⟩⟩
  have d2:=md r2 10 (by decide)
  walk_at "rd"
  refine⟨by decide,_,_,m,_,rfl,ok.m1,ok.m4,d2.1,by omega,fun x xl xm=>?_⟩
  show Zbc _ _ _ _
  refine Zag ?_
  walk_at "rd"
  refine⟨b,ns,3,rfl,hS,by decide,fun c3=>⟨cl,3,rfl,fun r3 hr3=>?_⟩⟩
  have d3:=md r3 10 (by decide)
  walk_at "rd"
  refine⟨by decide,_,_,m,_,rfl,ok.m1,ok.m4,d3.1,by omega,fun y yl ym=>?_⟩
  have x9:x.length<=9:=by omega
  have y9:y.length<=9:=by omega
  clear xl yl d2 d3
  show Zbc _ _ _ _
  refine Zag ?_
  walk_at "rd"
  refine Zbb fun k0 hk0=>⟨k0,rfl,ite2 (fun h0=>?_) (fun h0=>?_)⟩
  .refine⟨sz _ (by decide),NewL.of fun p1 H1 s1 n1 l1=>⟨p1,[x,y],m,rfl,l1,ok,by simp,?_,fun pf ws H2 s2 n2 l2 ms=>?_⟩⟩
   .intro l hl
    rcases YAY.mp hl with z | z
    .rw[z];omega
    .rw[YAO.mp z];omega
   have lb:LB m ws:=Zg0 ms m3 (by simp) (fun l hl=>by
    rcases YAY.mp hl with z | z
    .rw[z];omega
    .rw[YAO.mp z];omega) (fun l hl=>by
    rcases YAY.mp hl with z | z
    .rw[z];exact xm
    .rw[YAO.mp z];exact ym)
   have s02:=s1.trans s2
   show Zbc _ _ _ _
   refine Zag ?_
   walk_at "rd"
   refine⟨_,rfl,_,rfl,b,_,rfl,(s02).seq hS,fun pz nz=>⟨pz,rfl,⟨_,.mk Zad⟩,?_⟩⟩
   have sz0:=(s02).trans (Zao (o:=.lst (cutV (ns.map V.int) (some 5) (some 63))) nz)
   have lz:upd H2 pz (.lst (cutV (ns.map V.int) (some 5) (some 63))) pz=some (.lst (cutV (ns.map V.int) (some 5) (some 63))):=Zad
   have lf0:=Zao (o:=.lst (cutV (ns.map V.int) (some 5) (some 63))) nz _ _ l2
   generalize upd H2 pz (.lst (cutV (ns.map V.int) (some 5) (some 63)))=Hz at sz0 lz lf0
   refine ForRun.list (xs:=cutV (ns.map V.int) (some 5) (some 63)) (fun i σ H'=>∃(pf:Addr) (ws:Q22) (v9:Option V),σ=[some (.ref b),some (tx m),some (.int cl),some (.int (r1 % 4)),some (tx x),some (tx y),some (.ref pf),none,none,v9]/\Same Hz H'/\H' pf=some (.lst (ws.map tx))/\LB m ws) ⟨pf,ws,_,rfl,Same.refl _,lf0,lb⟩ (fun i σ H' _ ⟨_,_,_,_,s',_⟩=>.mk (s' _ _ lz)) ?_ ?_
   .rintro i u σ H3 hu ⟨pf3,ws3,v9,rfl,s3,l3,lb3⟩
    obtain⟨g,rfl⟩:=ZdY (YAM hu)
    walk_at "rd"
    refine⟨g,5,rfl,fun r5 hr5=>?_⟩
    walk_at "rd"
    refine⟨by decide,Zbb fun k5 _=>⟨k5,rfl,ite2 (fun _=>Zag ?_) (fun _=>⟨pf3,ws3,_,rfl,s3,l3,lb3⟩)⟩⟩
    walk_at "rd"
    exact⟨pf3,ws3,m,g,rfl,l3,ok,lb3,fun pf4 ws4 H4 s4 l4 lb4=>⟨pf4,ws4,_,rfl,s3.trans s4,l4,lb4⟩⟩
   .rintro σ H3 ⟨pf3,ws3,v9,rfl,s3,l3,lb3⟩
    walk_at "rd"
    refine Zag ?_
    walk_at "rd"
    refine⟨pf3,ws3,cl,rfl,l3,by have:=lb3.n61;omega,fun q4 ws4 H4 s4 n4 l4 pm=>?_⟩
    exact q q4 ws4 H4 ((sz0.trans s3).trans s4) ((sz0.trans s3).free n4) l4 (lb3.perm pm)
  .refine Zbb fun k1 hk1=>⟨k1,rfl,ite2 (fun h1=>Zag ?_) (fun h1=>?_)⟩
   .walk_at "rd"
    refine⟨sz _ (by decide),NewL.of fun p1 H1 s1 n1 l1=>⟨p1,[x],m,rfl,l1,ok,by simp,?_,fun p2 ws2 H2 s2 n2 l2 ms=>?_⟩⟩
    .intro l hl
     rw[YAO.mp hl];omega
    have lb2:LB m ws2:=Zg0 ms m3 (by simp) (fun l hl=>by rw[YAO.mp hl];omega) (fun l hl=>by rw[YAO.mp hl];exact xm)
    have s02':=s1.trans s2
    refine⟨b,ns,4,rfl,s02'.seq hS,by decide,fun c4=>⟨p2,ws2,m,c4,rfl,l2,ok,lb2,fun pf ws H2' s2' l2' lb=>?_⟩⟩
    have s02:=s02'.trans s2'
    show Zbc _ _ _ _
    refine Zag ?_
    walk_at "rd"
    refine⟨_,rfl,_,rfl,b,_,rfl,(s02).seq hS,fun pz nz=>⟨pz,rfl,⟨_,.mk Zad⟩,?_⟩⟩
    have sz0:=(s02).trans (Zao (o:=.lst (cutV (ns.map V.int) (some 5) (some 63))) nz)
    have lz:upd H2' pz (.lst (cutV (ns.map V.int) (some 5) (some 63))) pz=some (.lst (cutV (ns.map V.int) (some 5) (some 63))):=Zad
    have lf0:=Zao (o:=.lst (cutV (ns.map V.int) (some 5) (some 63))) nz _ _ l2'
    generalize upd H2' pz (.lst (cutV (ns.map V.int) (some 5) (some 63)))=Hz at sz0 lz lf0
    refine ForRun.list (xs:=cutV (ns.map V.int) (some 5) (some 63)) (fun i σ H'=>∃(pf:Addr) (ws:Q22) (v9:Option V),σ=[some (.ref b),some (tx m),some (.int cl),some (.int (r1 % 4)),some (tx x),some (tx y),some (.ref pf),none,none,v9]/\Same Hz H'/\H' pf=some (.lst (ws.map tx))/\LB m ws) ⟨pf,ws,_,rfl,Same.refl _,lf0,lb⟩ (fun i σ H' _ ⟨_,_,_,_,s',_⟩=>.mk (s' _ _ lz)) ?_ ?_
    .rintro i u σ H3 hu ⟨pf3,ws3,v9,rfl,s3,l3,lb3⟩
     obtain⟨g,rfl⟩:=ZdY (YAM hu)
     walk_at "rd"
     refine⟨g,5,rfl,fun r5 hr5=>?_⟩
     walk_at "rd"
     refine⟨by decide,Zbb fun k5 _=>⟨k5,rfl,ite2 (fun _=>Zag ?_) (fun _=>⟨pf3,ws3,_,rfl,s3,l3,lb3⟩)⟩⟩
     walk_at "rd"
     exact⟨pf3,ws3,m,g,rfl,l3,ok,lb3,fun pf4 ws4 H4 s4 l4 lb4=>⟨pf4,ws4,_,rfl,s3.trans s4,l4,lb4⟩⟩
    .rintro σ H3 ⟨pf3,ws3,v9,rfl,s3,l3,lb3⟩
     walk_at "rd"
     refine Zag ?_
     walk_at "rd"
     refine⟨pf3,ws3,cl,rfl,l3,by have:=lb3.n61;omega,fun q4 ws4 H4 s4 n4 l4 pm=>?_⟩
     exact q q4 ws4 H4 ((sz0.trans s3).trans s4) ((sz0.trans s3).free n4) l4 (lb3.perm pm)
   .refine⟨YAg _,NewL.of fun pf H1 s1 n1 l1=>?_⟩
    refine⟨cl,4,rfl,fun r4 hr4=>?_⟩
    have d4:=md r4 8 (by decide)
    walk_at "rd"
    refine⟨by decide,_,rfl,by omega,by omega,?_⟩
    have e4:(1+r4 % 8).toNat<=8:=by omega
    generalize (1+r4 % 8).toNat=n8 at e4
    refine ForRun.range (fun i σ H'=>∃(ws:Q22) (v7 v8:Option V),σ=[some (.ref b),some (tx m),some (.int cl),some (.int (r1 % 4)),some (tx x),some (tx y),some (.ref pf),v7,v8,none]/\Same H H'/\H' pf=some (.lst (ws.map tx))/\LB m ws/\ws.length<=i) ⟨[],_,_,rfl,s1,l1,LB.nil,YAJ _⟩ ?_ ?_
    .rintro i σ H2 hi ⟨ws2,v7,v8,rfl,s02,l2,lb,wl⟩
     walk_at "rd"
     refine Zag ?_
     walk_at "rd"
     refine⟨cl,_,rfl,fun r6 hr6=>⟨cl,_,rfl,fun r7 hr7=>?_⟩⟩
     have d7:=md r7 4 (by decide)
     walk_at "rd"
     refine⟨by decide,_,_,m,_,rfl,ok.m1,ok.m4,by omega,by omega,fun u ul um=>?_⟩
     show Zbc _ _ _ _
     refine Zag ?_
     walk_at "rd"
     have un:u≠[]:=fun z=>by rw[z]at ul;simp at ul;omega
     refine⟨pf,_,rfl,.inl (.mk l2),rfl,Za4 _,?_⟩
     rw[YAW rfl,Zc6]
     refine⟨_,rfl,?_⟩
     by_cases hu:u∈ws2
     .rw[decide_eq_true hu]
      exact iteF ⟨ws2,_,_,rfl,s02,l2,lb,by omega⟩
     .rw[decide_eq_false hu]
      refine iteT ⟨.inl ⟨rfl,_,.mk l2⟩,pf,_,_,rfl,rfl,l2,by rw[YAB];exact YAT (show _<9000 by omega) (sz 9000 (YAJ _)),ws2++[u],_,_,rfl,same_upd3 s02 n1,by rw[Zad,YAq];rfl,lb.snoc (by omega) hu un (by omega) um,by rw[YAI,YAN];omega⟩
    .rintro σ H2 ⟨ws2,v7,v8,rfl,s02,l2,lb,wl⟩
     walk_at "rd"
     refine Zag ?_
     walk_at "rd"
     refine⟨_,rfl,_,rfl,b,_,rfl,(s02).seq hS,fun pz nz=>⟨pz,rfl,⟨_,.mk Zad⟩,?_⟩⟩
     have sz0:=(s02).trans (Zao (o:=.lst (cutV (ns.map V.int) (some 5) (some 63))) nz)
     have lz:upd H2 pz (.lst (cutV (ns.map V.int) (some 5) (some 63))) pz=some (.lst (cutV (ns.map V.int) (some 5) (some 63))):=Zad
     have lf0:=Zao (o:=.lst (cutV (ns.map V.int) (some 5) (some 63))) nz _ _ l2
     generalize upd H2 pz (.lst (cutV (ns.map V.int) (some 5) (some 63)))=Hz at sz0 lz lf0
     refine ForRun.list (xs:=cutV (ns.map V.int) (some 5) (some 63)) (fun i σ H'=>∃(pf:Addr) (ws:Q22) (v9:Option V),σ=[some (.ref b),some (tx m),some (.int cl),some (.int (r1 % 4)),some (tx x),some (tx y),some (.ref pf),v7,v8,v9]/\Same Hz H'/\H' pf=some (.lst (ws.map tx))/\LB m ws) ⟨pf,ws2,_,rfl,Same.refl _,lf0,lb⟩ (fun i σ H' _ ⟨_,_,_,_,s',_⟩=>.mk (s' _ _ lz)) ?_ ?_
     .rintro i u σ H3 hu ⟨pf3,ws3,v9,rfl,s3,l3,lb3⟩
      obtain⟨g,rfl⟩:=ZdY (YAM hu)
      walk_at "rd"
      refine⟨g,5,rfl,fun r5 hr5=>?_⟩
      walk_at "rd"
      refine⟨by decide,Zbb fun k5 _=>⟨k5,rfl,ite2 (fun _=>Zag ?_) (fun _=>⟨pf3,ws3,_,rfl,s3,l3,lb3⟩)⟩⟩
      walk_at "rd"
      exact⟨pf3,ws3,m,g,rfl,l3,ok,lb3,fun pf4 ws4 H4 s4 l4 lb4=>⟨pf4,ws4,_,rfl,s3.trans s4,l4,lb4⟩⟩
     .rintro σ H3 ⟨pf3,ws3,v9,rfl,s3,l3,lb3⟩
      walk_at "rd"
      refine Zag ?_
      walk_at "rd"
      refine⟨pf3,ws3,cl,rfl,l3,by have:=lb3.n61;omega,fun q4 ws4 H4 s4 n4 l4 pm=>?_⟩
      exact q q4 ws4 H4 ((sz0.trans s3).trans s4) ((sz0.trans s3).free n4) l4 (lb3.perm pm)
theorem Zl7:FnScope ["words","kinds","text","word"] ["words","kinds","text"] (Zaj s_K7):=by walk_at "sc"
theorem Zo2 (T:TL K mg base a tb):FnOk P w K mg base (CXr P w) 6 a.f_K7 a.d_K7 ["words","kinds","text"] (Zn0 K a):=by
 refine T.f_K7.okX Zl7 (fun vs H Q E h=>?_) (fun cdv A outer s H vs Q E hr h=>?_)
 .obtain⟨_,_,_,_,rfl,_⟩:=h;rfl
 .have hu64:=hr.units
  have hu1:=ZaH hr
  obtain⟨b,ws,m,x,rfl,hb,lk,ok,q,qx⟩:=h
  refine⟨_,(Zae (ZaI ZgW rfl (ZaC (K:=K) rfl (ZgU (Zk1 T.mk_LF (ZoY T) (hr.mono (by decide)) rfl T.m_LF T.b_KJ .nil Zas (Zaa (pv 2) (Zaa (pv 1) Zac))) T.cl_LF T.me_Plain_lacking (Zo0 T) (hr.mono (by decide)) T.b_KD .nil Zas)) (Zaq (i:=3) Zl7.nd rfl (Or.inl rfl))
   (Zae (ZaP (Za1 (Zak (ZmF T) (hr.mono (by decide)) rfl T.m_K9 T.f_K9.kp T.b_K9 .nil Zas (Zaa (pv 0) (Zaa (pv 3) Zac)))) (Zae (Zde ZcO rfl (Zdg T.x_LG T.i_LG T.fn_LG (ZeD T) (hr.mono (by decide)) T.b_LG Zas rfl T.m_LG (Zaa (pv 2) (Zaa (pv 3) Zac))))) Zau)))),?_⟩
  have up:∀(x y:Q11) H1,Same H H1->X2 a.c_LG "one" "other" E H x y->(2<=1000/\MkI (Zc3 K a.c_LG 2 (fs2 (Str.ofString "one") (Str.ofString "other"))) E0 a.c_LG [tx x,tx y] H1 fun v H1=>∃e C d,v=.ref e/\H1 e=some (xo e C d)/\Xm K C/\E (.ref C) (some e) (upd H1 e (xr e C d))):=fun x y H1 s1 z=>
   ⟨by decide,MkI.of rfl fun e H2 s2 n2 x2=>by
    obtain⟨d,hd,hx⟩:=ZcC x2
    exact⟨e,_,d,rfl,hd,T.x_LG,z e _ (s1.trans (same_upd3 s2 n2)) hx⟩⟩
  have ln:=lk.len
  walk_at "rd"
  intro pr dr npr ndr ner
  refine⟨pr,dr,x,m,rfl,Zad,ok,fun H1 r1 k1=>⟨rfl,?_⟩⟩
  have s1:Same H H1:=fun b o e=>k1 b o (by rw[Zaf (Zai e npr),Zaf (Zai e ndr)];exact e) (Zai e npr)
  obtain⟨d1,r1'⟩:=id r1
  refine⟨pr,d1,_,rfl,r1',ZdS (by decide +kernel) (by decide +kernel),pr,x,m,rfl,r1,ok,fun qw H2 s2 e2=>?_⟩
  refine⟨qw,rfl,⟨_,.mk e2⟩,ForRun.list (xs:=(Zbf x m).map tx) (fun i σ H'=>∃v3,σ=[some (.ref b),some (tx m),some (tx x),v3]/\Same H2 H'/\∀(j:Nat) (v:Q11),j<i->(Zbf x m)[j]?=some v->¬Av ws v) ⟨_,rfl,Same.refl _,fun j v h=>by omega⟩ (fun i σ H' _ ⟨_,_,s',_⟩=>.mk (s' _ _ e2)) ?_ ?_⟩
  .rintro i y σ H3 hx ⟨v3,rfl,s3,no⟩
   obtain⟨w_,hw,rfl⟩:=ZbS hx
   have wl:w_.length<=41:=by
    have:=(ZbI.mp (YAM hw)).1.tail.len
    rw[YDh]at this
    have:=ok.l40
    omega
   walk_at "rd"
   refine⟨b,ws,w_,rfl,s3 _ _ (s2 _ _ (s1 _ _ hb)),by omega,by omega,fun H4 s4=>⟨_,rfl,ite2 (fun h=>?_) (fun h=>⟨_,rfl,s3.trans s4,fun j v hj hv=>?_⟩)⟩⟩
   .exact up x w_ H4 (((s1.trans s2).trans s3).trans s4) (qx w_ ⟨i,hw,ZbQ.mp h,no⟩)
   .by_cases c:j<i
    .exact no j v c hv
    .have e:j=i:=by omega
     subst e
     rw[hw]at hv
     cases hv
     exact fun k=>h (ZbQ.mpr k)
  .rintro σ H3 ⟨v3,rfl,s3,no⟩
   refine q (fun w hw=>?_) H3 ((s1.trans s2).trans s3)
   obtain⟨j,hj,ej⟩:=YAh hw
   exact no j w (by rw[YAB];exact hj) (YAD.mpr ⟨hj,ej⟩)
theorem Zih:FnScope ["words","kinds","ordered","ways","ended","text"] ["words","kinds"] (Zaj s_KX):=by walk_at "sc"
theorem ZoO (T:TL K mg base a tb):FnOk P w K mg base (CXr P w) 7 a.f_KX a.d_KX ["words","kinds"] (ZnH K a):=by
 refine T.f_KX.okX Zih (fun vs H Q E h=>?_) (fun cdv A outer s H vs Q E hr h=>?_)
 .obtain⟨_,_,_,rfl,_⟩:=h;rfl
 .have hu64:=hr.units
  have hu1:=ZaH hr
  obtain⟨b,ws,m,rfl,hb,ok,lk,tk,q⟩:=h
  refine⟨_,(Zab (ZaU (Zak (ZoW T) (hr.mono (by decide)) rfl T.m_KN T.f_KN.kp T.b_KN .nil Zas (Zaa (pv 0) (Zaa (pv 1) Zac))))
   (Zah (Zab (Zan (i:=2) Zih.nd rfl (Or.inl rfl) (Zak (ZoS T) (hr.mono (by decide)) rfl T.m_KS T.f_KS.kp T.b_KS .nil Zas (Zaa (pv 0) Zac)))
   (Zah (Zab (ZaU (Zak (ZoP T) (hr.mono (by decide)) rfl T.m_KW T.f_KW.kp T.b_KW .nil Zgg (Zaa (pv 2) Zac)))
   (Zah (Zab (Zan (i:=3) Zih.nd rfl (Or.inl rfl) (Zak (ZoA T) (hr.mono (by decide)) rfl T.m_LV T.f_LV.kp T.b_LV .nil Zas (Zaa (pv 2) (Zaa (pv 1) Zac))))
   (Zah (Zab (Zan (i:=4) Zih.nd rfl (Or.inl rfl) (Zak (ZoI T) (hr.mono (by decide)) rfl T.m_LJ T.f_LJ.kp T.b_LJ .nil Zas (Zaa (pv 3) Zac)))
   (Zah (Zab (ZaP (Zat (Zbn (K:=K) rfl) (Zay (l:=[]) (by decide +kernel)) (pv 4) rfl) (Zae (ZaU (Zak (ZoU T) (hr.mono (by decide)) rfl T.m_KP T.f_KP.kp T.b_KP .nil Zgg (Zaa (pv 3) (Zaa (pv 4) Zac))))) Zau)
   (Zah (Zab (Zan (i:=5) Zih.nd rfl (Or.inl rfl) (Zak (Zo3 T) (hr.mono (by decide)) rfl T.m_K4 T.f_K4.kp T.b_K4 .nil Zas (Zaa (pv 3) (Zaa (pv 4) Zac))))
   (Zah (Zab (ZaP (Zat Zfn (Zam (Zap (K:=K) rfl) rfl T.z_len ZaB (Zaa (pv 5) Zac)) (Zcd rfl T.c_KB) (Zaw _)) (Zae (Zde ZcO rfl (Zdg T.x_KZ T.i_KZ T.fn_KZ (ZdE T) (hr.mono (by decide)) T.b_KZ Zas rfl T.m_KZ (Zaa (ZaK Zcq (pv 5) Za7 (ZaM (Zav ZaO (Zcd rfl T.c_KB) Zal))) Zac)))) Zau)
   (Zah (Zab (ZaU (Zak (Zo2 T) (hr.mono (by decide)) rfl T.m_K7 T.f_K7.kp T.b_K7 .nil Zgg (Zaa (pv 2) (Zaa (pv 1) (Zaa (pv 5) Zac)))))
   (Zah (Zae (Zar (pv 5))))))))))))))))))))),?_⟩
  have sz:∀k:Nat,k<=9000->k<=sizeLine:=fun k h=>YAK h (by rw[sizeLine_eq];decide)
  walk_at "rd"
  refine⟨b,ws,m,rfl,hb,ok,lk,fun H1 s1=>?_⟩
  show Zbc _ _ _ _
  refine Zag ?_
  walk_at "rd"
  have h1:=s1 _ _ hb
  refine⟨b,ws,rfl,h1,fun w hw=>YAK (lk.w41 w hw) (by decide),by have:=lk.len;omega,tk.same s1,fun ws' r H2 pm pw s2 tk2 nr h2=>?_⟩
  have lk':GL m ws':=lk.perm pm
  obtain⟨q4,q0,q1,q2,q3⟩:=q ws' pm (ZgF pm pw lk.nd)
  have s02:SameL H H2:=s1.l.trans s2
  have x2:∀ {C:Addr} {f g:Str} {x y:Q11} {H3:Hp},Same H2 H3->XL2 a C f g E H x y->X2 C f g E H3 x y:=fun s z e H4 s4 hx=>z e H4 (s02.trans (s.trans s4).l) (tk2.same (s.trans s4)) hx
  show Zbc _ _ _ _
  refine Zag ?_
  walk_at "rd"
  refine⟨r,ws',m,rfl,h2,lk',fun an H3 s3=>?_,fun x y f=>x2 (Same.refl _) (q0 x y (.inside f))⟩
  show Zbc _ _ _ _
  refine Zag ?_
  walk_at "rd"
  have h3:=s3 _ _ h2
  refine⟨r,ws',m,rfl,h3,ok,lk',fun pw kw ss H4 s4 n4 h4 wl sl=>?_⟩
  show Zbc _ _ _ _
  refine Zag ?_
  walk_at "rd"
  refine⟨pw,kw,ws',ss,m,rfl,h4,wl,sl,ok,lk',fun pe es H5 s5 n5 h5 en=>?_⟩
  show Zbc _ _ _ _
  refine Zag ?_
  walk_at "rd"
  have s25:=s3.trans (s4.trans s5)
  have hD:∀s,Stem ws' s->(s∈es↔Endd ws' m s):=fun s hs=>Zg6 lk' an sl en hs
  refine⟨pe,es.map tx,rfl,.inl (.mk h5),rfl,Za4 es,!decide ([]∈es),?_,ite2 (fun h0=>?_) (fun h0=>Zag ?_)⟩
  .rw[YAW rfl,Zc6]
  .have hn:[]∉es:=by simpa using h0
   refine⟨pw,pe,kw,ws',ss,es,m,rfl,s5 _ _ h4,wl.same s5,sl,ok,lk',an,h5,en,hn,fun x y f=>x2 s25 (q1 x y (.endless an (fun k=>hn ((hD [] (.inl rfl)).mpr k)) (f.congr hD)))⟩
  have hnil:[]∈es:=by simpa using h0
  have hen:Endd ws' m []:=(hD [] (.inl rfl)).mp hnil
  walk_at "rd"
  refine⟨pw,pe,kw,ws',ss,es,m,rfl,s5 _ _ h4,wl.same s5,sl,ok,lk',an,h5,en,hnil,fun x H6 s6 lf=>?_⟩
  have s26:=s25.trans s6
  have xl:x.length<=8201:=by
   obtain⟨k,hk,e⟩:=YAh hnil
   have:=ZeV (W:=ws') (m:=m) (fun s c hc ha=>Zka hc ha) en.ord k [] (YAD.mpr ⟨hk,e⟩) x lf.mem lf.av
   have:=Zbz es ss en.nd en.sub
   have:=sl.len
   omega
  show Zbc _ _ _ _
  refine Zag ?_
  walk_at "rd"
  refine⟨_,_,rfl,ZbN (by omega),ite2 (fun h1=>?_) (fun h1=>Zag ?_)⟩
  .have lt:40<x.length:=by have:=of_decide_eq_true h1;omega
   refine⟨_,rfl,x,rfl,sz _ (by omega),?_⟩
   rw[show ((40:Int)+1)=((41:Nat):Int) from rfl,ZdX]
   exact⟨by decide,MkI.of rfl fun e H7 s7 n7 x7=>by
    obtain⟨d,hd,hx⟩:=ZcC x7
    exact⟨e,_,d,rfl,hd,T.x_KZ,(q2 _ (.long an hen lf lt)) e _ (s02.trans (s26.trans (same_upd3 s7 n7)).l) (tk2.same (s26.trans (same_upd3 s7 n7))) hx⟩⟩
  have le:x.length<=40:=YAp fun k=>h1 (decide_eq_true (by omega))
  walk_at "rd"
  refine⟨r,ws',m,x,rfl,s26 _ _ h2,lk',⟨ok.k,ok.m1,ok.m4,le,lf.mem⟩,fun no H7 s7=>?_,fun w fa=>x2 s26 (q3 x w (.split an hen lf le fa))⟩
  show Zbc _ _ _ _
  refine Zag ?_
  walk_at "rd"
  have s27:=s26.trans s7
  exact q4 x (.strip an hen lf le no) H7 (s02.trans s27.l) (tk2.same s27)
theorem Zhq:FnScope ["_law_words","_law_kinds_here","_law_text","_law_found","e"] ["_law_words","_law_kinds_here"] (Zaj s_LA):=by walk_at "sc"
theorem Zk4 (T:TL K mg base a tb):FnOk P w K mg base CX0 8 a.f_LA a.d_LA ["_law_words","_law_kinds_here"] (ZnG K a):=by
 refine T.f_LA.ok Zhq (fun vs H Q E h=>?_) (fun cdv A outer s H vs Q E hr h=>?_)
 .obtain⟨_,_,_,rfl,_⟩:=h;rfl
 .have hu64:=hr.units
  have hu1:=ZaH hr
  obtain⟨b,ws,m,rfl,hb,ok,lk,tk,q⟩:=h
  refine⟨_,(Zab (Zan (i:=2) Zhq.nd rfl (Or.inl rfl) ZgT)
   (Zab (Zan (i:=3) Zhq.nd rfl (Or.inl rfl) ZgT)
   (Zab (Zml rfl rfl (Zjp (ZkW (i:=2) Zhq.nd rfl (Or.inl rfl) (Zjr (ZoO T) (hr.mono (by decide)) rfl T.m_KX T.f_KX.kp T.b_KX .nil (Zaa (pv 0) (Zaa (pv 1) Zac))))) (Zov (i:=4) (fun _=>hr.hd) rfl T.m_KM Zhq.nd rfl rfl (fun _=>(Zae (Zan (i:=3) Zhq.nd rfl (Or.inl rfl) (pv 4)))) Zmn))
   (Zah (Zab (ZaP (Za1 (Zam (ZaW (K:=K) rfl) rfl T.z_isinstance ZaR (Zaa (pv 3) (Zaa (ZcT (v:=.ref a.c_K8) rfl T.m_K8 rfl) Zac)))) (Zae (Zar (ZdC (Zaa (Zay (l:=[105,110,115,105,100,101]) (by decide +kernel)) (Zaa (ZbM (K:=K) rfl (pv 3) rfl) (Zaa (ZbM (K:=K) rfl (pv 3) rfl) Zac)))))) Zau)
   (Zah (Zab (ZaP (Za1 (Zam (ZaW (K:=K) rfl) rfl T.z_isinstance ZaR (Zaa (pv 3) (Zaa (ZcT (v:=.ref a.c_KY) rfl T.m_KY rfl) Zac)))) (Zae (Zar (ZdC (Zaa (Zay (l:=[101,110,100,108,101,115,115]) (by decide +kernel)) (Zaa (ZbM (K:=K) rfl (pv 3) rfl) (Zaa (ZbM (K:=K) rfl (pv 3) rfl) Zac)))))) Zau)
   (Zah (Zab (ZaP (Za1 (Zam (ZaW (K:=K) rfl) rfl T.z_isinstance ZaR (Zaa (pv 3) (Zaa (ZcT (v:=.ref a.c_KZ) rfl T.m_KZ rfl) Zac)))) (Zae (Zar (ZdC (Zaa (Zay (l:=[108,111,110,103]) (by decide +kernel)) (Zaa (ZbM (K:=K) rfl (pv 3) rfl) (Zaa (Zay (l:=[]) (by decide +kernel)) Zac)))))) Zau)
   (Zah (Zab (ZaP (Za1 (Zam (ZaW (K:=K) rfl) rfl T.z_isinstance ZaR (Zaa (pv 3) (Zaa (ZcT (v:=.ref a.c_LG) rfl T.m_LG rfl) Zac)))) (Zae (Zar (ZdC (Zaa (Zay (l:=[115,112,108,105,116]) (by decide +kernel)) (Zaa (ZbM (K:=K) rfl (pv 3) rfl) (Zaa (ZbM (K:=K) rfl (pv 3) rfl) Zac)))))) Zau)
   (Zah (Zae (Zar (ZdC (Zaa (Zay (l:=[115,116,114,105,112]) (by decide +kernel)) (Zaa (pv 2) (Zaa (Zay (l:=[]) (by decide +kernel)) Zac)))))))))))))))))),?_⟩
  have sz:∀k:Nat,k<=9000->k<=sizeLine:=fun k h=>YAK h (by rw[sizeLine_eq];decide)
  have nd:=T.nd
  simp only[YBP,YAY,List.not_mem_nil,or_false,not_or]at nd
  obtain⟨⟨b1,b2,b3,b4⟩,⟨b5,b6,b7⟩,⟨b8,b9⟩,b0,_⟩:=nd
  walk_at "rd"
  refine⟨b,ws,m,rfl,hb,ok,lk,tk,fun ws' pm bw=>⟨fun x an H2 s2 tk2=>?_,fun x y an e H2 s2 tk2 hx=>?_,fun x y an e H2 s2 tk2 hx=>?_,fun x an e H2 s2 tk2 hx=>?_,fun x y an e H2 s2 tk2 hx=>?_⟩⟩
  .show Zbc _ _ _ _
   refine Zag ?_
   walk_at "rd"
   refine⟨_,_,_,_,false,rfl,rfl,.ty (.pl .non),Zdi T.k_K8,iteF ?_⟩
   refine Zag ?_
   walk_at "rd"
   refine⟨_,_,_,_,false,rfl,rfl,.ty (.pl .non),Zdi T.k_KY,iteF ?_⟩
   refine Zag ?_
   walk_at "rd"
   refine⟨_,_,_,_,false,rfl,rfl,.ty (.pl .non),Zdi T.k_KZ,iteF ?_⟩
   refine Zag ?_
   walk_at "rd"
   refine⟨_,_,_,_,false,rfl,rfl,.ty (.pl .non),Zdi T.k_LG,iteF ?_⟩
   refine Zag ?_
   walk_at "rd"
   exact⟨sz _ (by decide),NewT.of fun pt H3 s3 n3 l3=>q 4 x [] ws' pt H3 pm bw an (s2.trans s3.l) (tk2.same s3) l3⟩
  .refine⟨e,_,rfl,rfl,true,ZeP (b:=true) T.k_K8 T.k_KM (by simp[YAl]) (by simp[YAl]),iteT ?_⟩
   refine Zag ?_
   walk_at "rd"
   refine⟨_,_,_,_,true,rfl,rfl,.exc hx T.xi_K8,ZbF T.k_K8 T.k_K8 (by simp[YAl]) (fun _=>rfl),iteT ⟨e,_,_,_,rfl,hx,T.x_K8.c,T.n_Inside_one,Zlq (by decide +kernel),e,_,_,_,rfl,hx,T.x_K8.c,T.n_Inside_other,Zlp,sz _ (by decide),NewT.of fun pt H3 s3 n3 l3=>q 0 x y ws' pt H3 pm bw an (s2.trans s3.l) (tk2.same s3) l3⟩⟩
  .refine⟨e,_,rfl,rfl,true,ZeP (b:=true) T.k_KY T.k_KM (by simp[YAl]) (by simp[YAl]),iteT ?_⟩
   refine Zag ?_
   walk_at "rd"
   refine⟨_,_,_,_,false,rfl,rfl,.exc hx T.xi_KY,ZbF T.k_KY T.k_K8 (by simp[YAl,b1,b2,b3,b4,b5,b6,b7,b8,b9,b0,YAS b1,YAS b2,YAS b3,YAS b4,YAS b5,YAS b6,YAS b7,YAS b8,YAS b9,YAS b0]) (fun z=>by simp_all),iteF ?_⟩
   refine Zag ?_
   walk_at "rd"
   refine⟨_,_,_,_,true,rfl,rfl,.exc hx T.xi_KY,ZbF T.k_KY T.k_KY (by simp[YAl]) (fun _=>rfl),iteT ⟨e,_,_,_,rfl,hx,T.x_KY.c,T.n_Endless_head,Zlq (by decide +kernel),e,_,_,_,rfl,hx,T.x_KY.c,T.n_Endless_lap,Zlp,sz _ (by decide),NewT.of fun pt H3 s3 n3 l3=>q 1 x y ws' pt H3 pm bw an (s2.trans s3.l) (tk2.same s3) l3⟩⟩
  .refine⟨e,_,rfl,rfl,true,ZeP (b:=true) T.k_KZ T.k_KM (by simp[YAl]) (by simp[YAl]),iteT ?_⟩
   refine Zag ?_
   walk_at "rd"
   refine⟨_,_,_,_,false,rfl,rfl,.exc hx T.xi_KZ,ZbF T.k_KZ T.k_K8 (by simp[YAl,b1,b2,b3,b4,b5,b6,b7,b8,b9,b0,YAS b1,YAS b2,YAS b3,YAS b4,YAS b5,YAS b6,YAS b7,YAS b8,YAS b9,YAS b0]) (fun z=>by simp_all),iteF ?_⟩
   refine Zag ?_
   walk_at "rd"
   refine⟨_,_,_,_,false,rfl,rfl,.exc hx T.xi_KZ,ZbF T.k_KZ T.k_KY (by simp[YAl,b1,b2,b3,b4,b5,b6,b7,b8,b9,b0,YAS b1,YAS b2,YAS b3,YAS b4,YAS b5,YAS b6,YAS b7,YAS b8,YAS b9,YAS b0]) (fun z=>by simp_all),iteF ?_⟩
   refine Zag ?_
   walk_at "rd"
   refine⟨_,_,_,_,true,rfl,rfl,.exc hx T.xi_KZ,ZbF T.k_KZ T.k_KZ (by simp[YAl]) (fun _=>rfl),iteT ⟨e,_,_,_,rfl,hx,T.x_KZ.c,T.n_TooLong_word,Zlr,sz _ (by decide),NewT.of fun pt H3 s3 n3 l3=>q 2 x [] ws' pt H3 pm bw an (s2.trans s3.l) (tk2.same s3) l3⟩⟩
  .refine⟨e,_,rfl,rfl,true,ZeP (b:=true) T.k_LG T.k_KM (by simp[YAl]) (by simp[YAl]),iteT ?_⟩
   refine Zag ?_
   walk_at "rd"
   refine⟨_,_,_,_,false,rfl,rfl,.exc hx T.xi_LG,ZbF T.k_LG T.k_K8 (by simp[YAl,b1,b2,b3,b4,b5,b6,b7,b8,b9,b0,YAS b1,YAS b2,YAS b3,YAS b4,YAS b5,YAS b6,YAS b7,YAS b8,YAS b9,YAS b0]) (fun z=>by simp_all),iteF ?_⟩
   refine Zag ?_
   walk_at "rd"
   refine⟨_,_,_,_,false,rfl,rfl,.exc hx T.xi_LG,ZbF T.k_LG T.k_KY (by simp[YAl,b1,b2,b3,b4,b5,b6,b7,b8,b9,b0,YAS b1,YAS b2,YAS b3,YAS b4,YAS b5,YAS b6,YAS b7,YAS b8,YAS b9,YAS b0]) (fun z=>by simp_all),iteF ?_⟩
   refine Zag ?_
   walk_at "rd"
   refine⟨_,_,_,_,false,rfl,rfl,.exc hx T.xi_LG,ZbF T.k_LG T.k_KZ (by simp[YAl,b1,b2,b3,b4,b5,b6,b7,b8,b9,b0,YAS b1,YAS b2,YAS b3,YAS b4,YAS b5,YAS b6,YAS b7,YAS b8,YAS b9,YAS b0]) (fun z=>by simp_all),iteF ?_⟩
   refine Zag ?_
   walk_at "rd"
   refine⟨_,_,_,_,true,rfl,rfl,.exc hx T.xi_LG,ZbF T.k_LG T.k_LG (by simp[YAl]) (fun _=>rfl),iteT ⟨e,_,_,_,rfl,hx,T.x_LG.c,T.n_Split_one,Zlq (by decide +kernel),e,_,_,_,rfl,hx,T.x_LG.c,T.n_Split_other,Zlp,sz _ (by decide),NewT.of fun pt H3 s3 n3 l3=>q 3 x y ws' pt H3 pm bw an (s2.trans s3.l) (tk2.same s3) l3⟩⟩
theorem Zee:FnScope ["_law_script","_law_kinds_here","_law_words","_law_kept","_law_found","_law_again"] ["_law_script"] (Zaj ZkT):=by walk_at "sc"
theorem ok_law (T:TL K mg base a tb):FnOk P w K mg base CX0 9 a.f_law a.d_law ["_law_script"] (spLaw K tb):=by
 refine T.f_law.ok Zee (fun vs H Q E h=>?_) (fun cdv A outer s H vs Q E hr h=>?_)
 .obtain⟨_,_,rfl,_⟩:=h;rfl
 .have hu64:=hr.units
  have hu1:=ZaH hr
  obtain⟨b,ns,rfl,hS,h63,tk,q⟩:=h
  refine⟨_,(Zab (Zan (i:=1) Zee.nd rfl (Or.inl rfl) (ZaK Zcq (Zak (ZoM T) (hr.mono (by decide)) rfl T.m_LC T.f_LC.kp T.b_LC .nil Zas (Zaa (Zak (Zhx T) (hr.mono (by decide)) rfl T.m_LL T.f_LL.kp T.b_LL .nil Zas (Zaa (pv 0) (Zaa Zal Zac))) Zac)) Za7 (ZaM Zal)))
   (Zah (Zab (Zan (i:=2) Zee.nd rfl (Or.inl rfl) (Zak (ZoF T) (hr.mono (by decide)) rfl T.m_LN T.f_LN.kp T.b_LN .nil Zas (Zaa (pv 0) (Zaa (pv 1) Zac))))
   (Zah (Zab (Zan (i:=3) Zee.nd rfl (Or.inl rfl) (Zbs (Ze1 (K:=K) rfl) rfl T.z_list ZgE (Zaa (pv 2) Zac)))
   (Zah (Zab (Zan (i:=4) Zee.nd rfl (Or.inl rfl) (Zak (Zk4 T) (hr.mono (by decide)) rfl T.m_LA T.f_LA.kp T.b_LA .nil Zas (Zaa (pv 2) (Zaa (pv 1) Zac))))
   (Zah (Zab (ZaP (PW.pt (ZbY (Zat (Zcu (K:=K) rfl hu64) (pv 2) (pv 3) (Zaw _)) (ZbY (ZbH (Za1 (Zak (ZoD T) (hr.mono (by decide)) rfl T.m_LQ T.f_LQ.kp T.b_LQ .nil Zas (Zaa (pv 2) (Zaa (pv 1) (Zaa (pv 4) Zac)))))) (ZbX (Zat (Zcu (K:=K) rfl hu64) (Zak (Zk4 T) (hr.mono (by decide)) rfl T.m_LA T.f_LA.kp T.b_LA .nil Zas (Zaa (pv 2) (Zaa (pv 1) Zac))) (pv 4) (Zaw _)))))) (Zae (Zar Zbg)) Zau)
   (Zah (Zab (Zan (i:=5) Zee.nd rfl (Or.inl rfl) (Zak (Zk4 T) (hr.mono (by decide)) rfl T.m_LA T.f_LA.kp T.b_LA .nil Zas (Zaa (Zak (ZmB T) (hr.mono (by decide)) rfl T.m_KV T.f_KV.kp T.b_KV .nil Zas (Zaa (pv 2) (Zaa (Zak (Zhx T) (hr.mono (by decide)) rfl T.m_LL T.f_LL.kp T.b_LL .nil Zas (Zaa (pv 0) (Zaa Zal Zac))) Zac))) (Zaa (pv 1) Zac))))
   (Zah (Zae (Zar (Zbt (ZaV (ZaA (K:=K) rfl hu64) (Zc9 (Zgr (K:=K) rfl) (pv 5) Zal (fun _ _=>rfl)) (Zc9 (Zgr (K:=K) rfl) (pv 4) Zal (fun _ _=>rfl)) (Zaw _)) (ZcG (Zox (ZaV (Zcu (K:=K) rfl hu64) (Zc9 (Zgr (K:=K) rfl) (pv 4) Zal (fun _ _=>rfl)) (Zay (l:=[115,116,114,105,112]) (by decide +kernel)) (Zaw _)) (ZcG (ZaV (ZaA (K:=K) rfl hu64) (pv 5) (pv 4) (Zaw _)))))))))))))))))))),?_⟩
  have sz:∀k:Nat,k<=1000->k<=sizeLine:=fun k h=>YAK h (by rw[sizeLine_eq];decide)
  rw[<-T.e_KS]at tk
  walk_at "rd"
  refine⟨b,ns,0,rfl,hS,by decide,fun r0=>⟨r0,rfl,fun m0 mk0 m10 m40=>?_⟩⟩
  walk_at "rd"
  have ok:=KO.three ⟨mk0,m10,m40⟩
  have m3:(m0.take 3).length<=3:=by rw[YAd];omega
  refine⟨3,rfl,m0,rfl,sz _ (by omega),?_⟩
  rw[show ((3:Int))=((3:Nat):Int) from rfl,ZdX]
  generalize m0.take 3=m at ok m3
  refine Zag ?_
  walk_at "rd"
  refine⟨b,ns,m,rfl,hS,h63,ok,m3,fun p ws H1 s1 n1 l1 lb=>?_⟩
  show Zbc _ _ _ _
  refine Zag ?_
  walk_at "rd"
  refine⟨p,ws.map tx,rfl,.inl (.mk l1),fun p2 n2=>?_⟩
  have s2:Same H1 (upd H1 p2 (.lst (ws.map tx))):=Zao n2
  have l2:upd H1 p2 (.lst (ws.map tx)) p2=some (.lst (ws.map tx)):=Zad
  generalize upd H1 p2 (.lst (ws.map tx))=H2 at s2 l2
  have s02:=s1.trans s2
  have hp2:=s2 _ _ l1
  refine Zag ?_
  walk_at "rd"
  refine⟨p,ws,m,rfl,hp2,ok,lb.gl,tk.same s02,fun k x y wo t H3 pm pw an s3 tk3 ht=>?_⟩
  show Zbc _ _ _ _
  refine Zag ?_
  have hp3:=s3 _ _ hp2 rfl
  have hl3:=s3 _ _ l2 rfl
  have S3:=Zl5 (s02.seq hS) s3
  have s800:(ws.map List.length).sum<=800:=by
   have a1:=Zgt lb.w12
   have a2:=lb.n61
   omega
  walk_at "rd"
  refine ZmJ (.mk hp3) (.mk hl3) ⟨false,rfl,iteF ⟨p,t,ws,m,k,x,y,rfl,hp3,ok,lb.gl,s800,an.sh pm lb.gl,ht,fun H4 s4=>⟨true,rfl,iteF ⟨p,ws,m,rfl,s4 _ _ hp3,ok,lb.gl,tk3.same s4,fun k5 x5 y5 wo5 t5 H5 pm5 pw5 an5 s5 tk5 ht5=>?_⟩⟩⟩⟩
  have eo:wo5=wo:=ZcR pw5 pw fun w=>by rw[pm5.mem_iff,pm.mem_iff]
  subst eo
  obtain⟨rfl,rfl,rfl⟩:=an5.one an
  have ht':=s5 _ _ (s4 _ _ ht) rfl
  have hp5:=s5 _ _ (s4 _ _ hp3) rfl
  have S5:=Zl5 (s4.seq S3) s5
  refine ZjA (.mk ht5) (.mk ht') rfl ⟨false,rfl,iteF (Zag ?_)⟩
  walk_at "rd"
  refine⟨b,ns,4,rfl,S5,by decide,fun r4=>⟨p,ws,r4,rfl,hp5,by have:=lb.n61;omega,fun p6 ws6 H6 s6 n6 l6 pm6=>⟨p6,ws6,m,rfl,l6,ok,lb.gl.perm pm6,tk5.same s6,fun k7 x7 y7 wo7 t7 H7 pm7 pw7 an7 s7 tk7 ht7=>?_⟩⟩⟩
  have eo:wo7=wo5:=ZcR pw7 pw fun w=>by rw[pm7.mem_iff,pm6.mem_iff,pm.mem_iff]
  subst eo
  obtain⟨rfl,rfl,rfl⟩:=an7.one an
  have htf:=s7 _ _ (s6 _ _ ht') rfl
  show Zbc _ _ _ _
  refine Zag ?_
  walk_at "rd"
  refine⟨t7,_,_,_,rfl,rfl,.mk ht7,atI0,t,_,_,_,rfl,rfl,.mk htf,atI0,ZhI ⟨true,rfl,iteT ⟨t,_,_,_,rfl,rfl,.mk htf,atI0,ZeF fun k8 _=>⟨k8,rfl,?_⟩⟩⟩⟩
  exact ite2 (fun _=>q H7) (fun _=>ZjQ (.mk ht7) (.mk htf) rfl (q H7))
end
end Pk64
structure PySem.W.Fast:Prop where(tw10002721496130075497 tw10117081183718589779 tw10190757470900428251 tw10244829346007045313 tw10281228683542839236 tw10306175182937729503 tw10319256877646893946 tw10331711973914001806 tw10336917231327642106 tw10352294083526057015 tw10394718322144172931 tw10472622554577608902 tw10500376925466175133 tw1050144438017461057 tw10536070852350226418 tw10575194605632283237 tw10615543388997414079 tw1063044623366889557 tw10648966159666907198 tw10655928213091679200 tw10665303830526067974 tw10716557845672202906 tw1077491087453013056 tw10827605403902976158 tw10829574589394188160 tw10830720399250574715 tw10869868744163473567 tw10921756933068661157 tw10927799040862990192 tw10999501863923807690 tw11046374657806765032 tw1110863715464562945 tw11132706646915609500 tw11173523367977554897 tw11193161212840018920 tw11219992769063106818 tw11311654905959145691 tw11314951282115467048 tw11372307435062237526 tw11403128816187440015 tw11409400067341357412 tw11410056311220395892 tw11427289177548148686 tw11472031075073737721 tw11478968720801865720 tw11496569520269303251 tw11499531092988319424 tw11507527124097911377 tw11565960370570493921 tw11586423176850460371 tw11604902940203414658 tw11630693257506843566 tw11676261248970405630 tw11682402967919206745 tw117058517658050518 tw11721118641866061921 tw11734664908205651615 tw11748858907215667789 tw1181105221673307044 tw11835881500172819365 tw11972368012298447386 tw11972942815636082037 tw1198948360913365496 tw11993188710239354507 tw12103829773893515937 tw12107970295103691398 tw12155189436975472156 tw12165415351906522311 tw12174989860204690639 tw12199831998909922442 tw12237822799077728178 tw12250177616288468613 tw12298843444856399241 tw12316183262144762299 tw12329600808247670438 tw12344806202754758026 tw12347260911971497013 tw12358529098207408756 tw12520281062907512395 tw12537637240657061305 tw12563343626019814067 tw12629373616909616587 tw12637273966353639138 tw12712886342871322404 tw12725629003897920544 tw12736595220226678227 tw12766315059976362637 tw12826173736183374596 tw12844400925083918942 tw128544216886456020 tw12942663497826013390 tw13010785399670009998 tw13018786524064962716 tw13021288205511866330 tw13022528386421957120 tw13116603712369703944 tw13131018531968552628 tw13152294305303941357 tw13216039784097263531 tw1324591701440554858 tw13300764306380861002 tw13309370763660923966 tw13319875768332349421 tw13344157075364922463 tw13369416531511706066 tw13376459105944313412 tw13384178152023268613 tw13454068303477583338 tw13538454754406665845 tw13539173619619804474 tw13540293356275862172 tw135998736325117656 tw1360161669598754586 tw13634351601717824335 tw13637973235133467875 tw13657091536941259700 tw13706037374943083259 tw1371569241425693019 tw13758671370512376650 tw13791460091439592889 tw13815085555833717310 tw13863452108644417201 tw13895006820176565890 tw13898780475023271721 tw13911025237342734824 tw1406446123161800628 tw14119844696544107120 tw14152382213515934877 tw14211309968852335588 tw14268729556490517453 tw14325871675653082844 tw14338603797771064319 tw14341706661310030251 tw14406007505277729910 tw14422719964441514549 tw14484309414872798570 tw14514727801588017351 tw14524756373855774557 tw14562614847833390352 tw14589757978366689612 tw14592722176102032229 tw14639567899574965096 tw1464203564636498071 tw14751110654555093674 tw1480060337882029723 tw14859631387772646427 tw14869141779040474632 tw14880594202325207449 tw14892158067656147056 tw1490294816570797239 tw14912729993409105357 tw14923330586343622527 tw14938158152006601407 tw14998116263160313010 tw15043838788131682726 tw15057401909505783216 tw1505900939615416192 tw1506715511959821867 tw15110047284412412470 tw15220053105717268768 tw15259124184436223366 tw15282580056728571329 tw15349211446759604988 tw15403596951977607262 tw15456954315746802824 tw15492082037611777946 tw15528299376566588620 tw15681523328810702927 tw15687526981633990627 tw15688773672506048947 tw15768997719587676731 tw15772995637912675624 tw15789310050439687551 tw15807610054642403812 tw15829666609110502377 tw15830632227123646910 tw16005308641803215342 tw16047798620163257914 tw16090023320071553816 tw16104752103471945980 tw16127027190895361611 tw16131818418430349691 tw161440160800536832 tw1616722155658074697 tw16198188884489269764 tw16237792471916993427 tw16265039186358081250 tw16378510215277569582 tw1637867793864425920 tw16384300071432015316 tw16385475144430726421 tw16421982956708121253 tw16494310920121950247 tw16503551488022565391 tw16549142043818933121 tw16575090369362718349 tw16598940677798871712 tw16609768286005066454 tw16634163377152035733 tw16640493777481969277 tw16654362278387878476 tw16654370318548305587 tw16701597549943148038 tw16776959705881994616 tw16826756575854719067 tw16930104945445298348 tw16981053172701518309 tw17039486704903743020 tw1713711290224854541 tw17156673592178289134 tw17160313291364013080 tw17162762878124205043 tw17191663309081055722 tw17219456279597623846 tw17227587659933255239 tw17234043618205202594 tw17324608873750513459 tw17349786242195620418 tw17366201748529440191 tw17370703828242706035 tw17400938252111222142 tw17413110978897426568 tw17414766927126699004 tw17428125627182257102 tw17441651359583539192 tw1746415855457328722 tw17633777049957467268 tw17639084322945338620 tw1770966602059653065 tw17782632731505217076 tw17857076598768153428 tw17870064036518866631 tw17897953975881562661 tw17901720812711608435 tw17905271078499081951 tw17917665930153587208 tw17989208566240414022 tw18004306265158280683 tw18027006965045244531 tw18061298670690772159 tw18085408568118599759 tw18107380492582051686 tw18183643931912879234 tw18216048491411115976 tw18252033831107608021 tw1827179428282706893 tw18295524009750361860 tw18358007268318246558 tw18394290101896093875 tw1857917291324802384 tw1872112134170975153 tw1878413649567723658 tw1892838204993541815 tw1904352259799428645 tw1952990564763186601 tw2038665203640691026 tw2096969486230231272 tw2246794653343199238 tw2324994031895581465 tw2341454801017963338 tw236542348366978877 tw2396716229886268371 tw239857231833364855 tw2423291476787187943 tw2425045059634900018 tw2427449598956522705 tw2460869000430610861 tw249439548342653228 tw2681823071143959148 tw2748614020677370613 tw2768864395011958547 tw278149740576676734 tw2786182422418171304 tw2806730464732677857 tw282337880839795125 tw2842162700469386629 tw2907988081676048442 tw2960925201706843489 tw3043483491812433985 tw3097930274411540738 tw3103576272457199341 tw3108543171391889708 tw3154681322892728310 tw3158388342975177534 tw3262786429184836187 tw3264920351736046512 tw3300631454320788647 tw3344120789164914000 tw3353301408183279925 tw3360799414581167150 tw3366704607778937532 tw3396854084896170928 tw339717348353966126 tw3422431273684603044 tw3423891351948076515 tw345775050902534483 tw3466625392584104939 tw3509849731762359101 tw3532798487880023229 tw354382564320866542 tw3547425006837741668 tw3562328103097084607 tw3576394307258486174 tw3579014445148207850 tw3721930167291544082 tw376013557169586219 tw3799978392618262337 tw382945588254221326 tw3838764243361160126 tw3879761663651755521 tw3922607242619428716 tw3972682760555419640 tw3974360377883778558 tw3975093786274086647 tw3995656492405599039 tw4127665938469499032 tw413320902583125185 tw4209732485570269723 tw4212436452177501010 tw4238114941600644252 tw4245533782630464089 tw4265079212684107519 tw4289829948658605972 tw4355275492219803922 tw4376412369203825898 tw4385146121313037874 tw4388622929453338524 tw4401679808069850226 tw4418115223764801286 tw447897939569044443 tw4486103933865500402 tw4500769049757463525 tw4525935439802229720 tw4613778334398594532 tw4619112751907769705 tw4652050225937778934 tw4676701731317860757 tw4766280046299648635 tw4771181230900533260 tw4915760209493093505 tw4916739630837570507 tw4923745280017932574 tw4924605536205739753 tw4967396638065013210 tw49948899312549817 tw503772384361957060 tw5087885388390604929 tw5106275331927379045 tw5202719386034404012 tw5210669654458339372 tw5221092642848975312 tw5293697822180809462 tw5345729718449340975 tw5345927598029755048 tw5398339188204165973 tw5430770492896878677 tw5464674788698439496 tw548412361493247552 tw548792121401065251 tw5495496294474006805 tw5525505575071580297 tw5531441904102221090 tw5539108432293321304 tw5602644770834886730 tw5776747556998937407 tw5803765945002284468 tw5803872038107650204 tw5869482505858420813 tw5918896119333971749 tw5987508309552605707 tw5998010785328614407 tw6021973105862458625 tw602963011840945311 tw6047720597762731959 tw6079767145507467105 tw6112228659265518674 tw6126505085531408630 tw6154911099794456061 tw6338297829406597920 tw6390783911737555623 tw6409830453576285543 tw6449372502690248300 tw6466372643546771779 tw6486973080913829220 tw6542515940123733983 tw658788504818885585 tw6595449694584930895 tw6633624411343700678 tw6635681272808811683 tw6641061769834405450 tw6648562789074950335 tw6661556224242965451 tw6735310178712831020 tw675283034076376163 tw676145222296405858 tw6789733925790431910 tw6791587532232776346 tw6810127151939044483 tw6863088841596005193 tw686405811215302752 tw6892144471488350710 tw6929537808252807890 tw7010549869671690686 tw7031069613187027363 tw7101413987538216099 tw710598395002354268 tw7118860728271932678 tw7124532109850410575 tw7165414653677641459 tw7167501649442343973 tw7177574481163347392 tw7255590745310853187 tw7363907158989206912 tw7384846461008555365 tw7423032827607548915 tw7477304679735433379 tw754434897110441584 tw7567922406548276874 tw7570623496268667775 tw7592844664778426658 tw7618630549613698132 tw7653441730972747729 tw7750689738956089235 tw7796213410410592349 tw7817627646491388782 tw7875600385750577121 tw7882224777062581088 tw7894322275043627301 tw7939140288849259069 tw7990470900511620703 tw8013954316111470915 tw8040552767235079059 tw8047749812800600238 tw8061852345622703738 tw8141396654815337217 tw8198997711620999541 tw8203102150897030211 tw8217322200126308952 tw8246617807270472315 tw8304180261165951059 tw8310566804800279298 tw836578559319980560 tw8375758835216410449 tw838702698215760290 tw8393594055991416919 tw8422277483271230555 tw84250002045063302 tw8459594423662931294 tw8466452425877137451 tw8498716932473180071 tw8514555232348627372 tw8539199707908417949 tw8539887747935669566 tw857373579148053617 tw8579172369564039235 tw8596386771783623826 tw8605530002399360774 tw8613549266122609076 tw8653729720621155659 tw8750150650211247317 tw879344510248657687 tw8818395529400698654 tw8906273895129650659 tw8981462372362387769 tw8986193780226094350 tw8991252203833655812 tw9015397586104848725 tw911174713033222285 tw9119536107337331034 tw9141674050929289495 tw9141844026016052378 tw9148811699983761449 tw9149403237114910040 tw9164461757511981386 tw9200063665601426050 tw9209087986175235263 tw9270436350242421628 tw9329891521435937021 tw9337551586240473683 tw9366083757333856954 tw9368050825174374131 tw9375005688724362581 tw9491856603061473087 tw9506231606077703533 tw9544553114310433851 tw9571770910072794925 tw9651112114109938397 tw9690930294491900289 tw9695329404566352950 tw9707530856242457742 tw9726233643587552921 tw9821623604659202799 tw9870757170975573374 tw9935960912204379442 tw9963868948526623525 tw9984307536354578367:True)
open PySem PySem.W PyProof.Rows
set_option maxRecDepth 100000 in
set_option maxHeartbeats 0 in
theorem PySem.Challenge.cw_lackword_k64_lists_of_no_strip_holds : PySem.Challenge.rw_lackword_k64_lists_of_no_strip.Holds := by
 w_on;o_law;k_head;(case hw=>w_witness2)
 k_fill
 refine L2.walk_ofT (l:=PySem.Challenge.rw_lackword_k64_lists_of_no_strip) (n:=63) (k:=9) (x:="_law_script") (CX:=L2.CX0) (sp:=Pk64.spLaw) ["in_order"] rfl (by decide) rfl ⟨rfl,by decide,by decide⟩ (fun w h Y=>PySem.W.km_in_of Y) (fun _=>by kernel_rfl) (by kernel_rfl) ?F ?S ?C
 case F=>
  intro w mg fa h tb KX G hmg hT
  have T:∃t,Pk64.Txt (L2.KOf KX) mg t/\t.t_KS=(tb "in_order").2/\t.k_KS=(tb "in_order").1:=by
   dsimp only[L2.KOf]
   apply Pk64.txt_mk (t_KS:=(tb "in_order").2) (k_KS:=(tb "in_order").1) KX G
   (apply L2.xg_mk;(iterate 2 k_is);rfl;(iterate 10 k_is);rfl;rfl)
   iterate 4 k_is
   (apply L2.xg_mk;(iterate 2 k_is);rfl;(iterate 10 k_is);rfl;rfl)
   k_is
   (apply L2.mg_mk;iterate 4 k_is)
   k_is
   (apply L2.xg_mk;(iterate 2 k_is);rfl;(iterate 10 k_is);rfl;rfl)
   k_is
   (apply L2.mg_mk;iterate 4 k_is)
   iterate 2 k_is
   (apply L2.xg_mk;(iterate 2 k_is);rfl;(iterate 10 k_is);rfl;rfl)
   k_is
   (apply L2.mg_mk;iterate 4 k_is)
   iterate 2 k_is
   (apply L2.xg_mk;(iterate 2 k_is);rfl;(iterate 10 k_is);rfl;rfl)
   k_is
   (apply L2.mg_mk;iterate 4 k_is)
   iterate 31 k_is
   iterate 6 (apply L2.mg_mk;iterate 4 k_is)
   decide
   iterate 41 (apply L2.dg_mk;iterate 4 k_is)
   iterate 19 k_is
  obtain⟨t,T,et_KS,ek_KS⟩:=T
  have e0:=hmg.symm.trans T.m_law
  cases e0
  have cd_KS:t.d_KS.code=.ref t.k_KS:=by
   obtain⟨o,e1,e2⟩:=T.f_KS.at KX
   rw[ek_KS]
   exact(hT "in_order" (by simp)).codeEq T.m_KS e1 e2
  refine' ⟨_,?b,fun base kb nb hL=>Pk64.ok_law (tb:=tb) { T with L_in_order:=by rw[et_KS,ek_KS];exact hL "in_order" (by simp),cd_KS:=cd_KS,e_KS:=et_KS }⟩
  exact T.bl
 case S=>exact fun K tb H a ns hl hP hS=>⟨a,ns,rfl,hS,hl,L2.tbl_new (hP "in_order" (by simp)),fun _=>rfl⟩
 case C=>exact fun _ _ _ _ z=>z
#print axioms PySem.Challenge.cw_lackword_k64_lists_of_no_strip_holds
