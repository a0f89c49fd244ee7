import PyProof.Rows.All
import Wide.All
import OpenK.AllK
import Wide.FinOn
import Lean
import PyProof.EqAt
import PyProof.EqKinds
import PyProof.TupleCall
import PyProof.SetRoads
import PyProof.Rows.SetFrom
import PyProof.StrWalks
import PyProof.FactsAll.set
import PyProof.FactsAll.subtypes_3
import PyProof.CollectWalk
import PyProof.CollectStr
import PyProof.StationsW
import PyProof.RulesAs
import KE.KTryMore
import PyProof.NsDelKeeps
import PyProof.ListStr
import PyProof.TupleOfStr
import PyProof.ConsumeS
import KE.KEqDict
import PyProof.DictWalks
import PyProof.DictUpdate
import KE.KLam
import PyProof.DictDisplay
import PyProof.ListRange
import PyProof.Rows.StrNews2
import PyProof.Rows.Range3
import KE.KDictLaws
import KE.KDictList
import PyProof.DictRoadsH
import KE.KDictSum
import PyProof.DictItems
import PyProof.DictItemsLoops
import KE.KPairComp
import KE.KRevIter
import PySem.Challenge.RW_lackword_k82_whole_distances
abbrev AA:=List (PySem.Addr×PySem.Obj)
abbrev AB:=PySem.Str->Option PySem.Value
abbrev AC:=List PySem.Value
abbrev AD:=PySem.Addr
abbrev AE:=PySem.Shared
abbrev AF:=PySem.FuncData
abbrev AG:=PySem.Program
abbrev AH:=PySem.Around
abbrev AI:=PySem.World
abbrev AJ:=List PySem.Str
abbrev Q11:=List Nat
abbrev Q22:=List (List Nat)
abbrev Q33:=PySem.Value->PySem.Shared->Prop
abbrev Q4:=PySem.W.Frag
set_option Elab.async false
set_option linter.all false
def YAA:=@PySem.wpAny_bind
def YAB:=@List.length_map
def YAC:=@Bool.false_ne_true
def YAD:=@PySem.wpAny_pure
def YAE:=@PySem.Heap.get?_push_of_some
def YAF:=@List.length_append
def YAG:=@Array.length_toList
def YAH:=@List.getElem?_eq_getElem
def YAI:=@if_neg
def YAJ:=@List.size_toArray
def YAK:=@Nat.le_trans
def YAL:=@List.mem_singleton
def YAM:=@if_pos
def YAN:=@PySem.Heap.lt_size
def YAO:=@PyProof.Rows.wpS_bind
def YAP:=@List.mem_cons_of_mem
def YAQ:=@Bool.and_eq_true
def YAR:=@List.getD_eq_getElem?_getD
def YAS:=@Nat.le_refl
def YAT:=@List.mem_cons
def YAU:=@PySem.Heap.get?_push_size
def YAV:=@PySem.W.mg_of
def YAW:=@List.mem_append
def YAX:=@PyProof.Rows.wpS_pure
def YAY:=@List.mem_cons_self
def YAZ:=@List.length_take
def YAa:=@List.getElem?_eq_some_iff
def YAb:=@List.mem_of_mem_take
def YAc:=@List.getElem?_map
def YAd:=@List.length_cons
def YAe:=@List.mem_of_mem_drop
def YAf:=@Nat.ne_of_lt
def YAg:=@List.mem_map
def YAh:=@PySem.Heap.SameBut.update
def YAi:=@List.map_cons
def YAj:=@List.length_drop
def YAk:=@Nat.lt_of_lt_of_le
def YAl:=@Array.getElem?_toList
def YAm:=@List.append_assoc
def YAn:=@List.mem_range
def YAo:=@List.mem_of_getElem?
def YAp:=@PySem.PassesOwn.never
def YAq:=@List.take_append_drop
def YAr:=@List.mem_filter
def YAs:=@List.length_singleton
def YAt:=@List.length_filter_le
def YAu:=@List.take_of_length_le
def YAv:=@Nat.zero_le
def YAw:=@List.getElem?_append_right
def YAx:=@List.getElem?_append_left
def YAy:=@PySem.wpAny_setState_of
def YAz:=@Int.emod_lt_of_pos
def YBA:=@Nat.lt_irrefl
def YBB:=@PySem.wpAny_mono
def YBC:=@List.length_dropLast
def YBD:=@Array.toList_extract
def YBE:=@List.pairwise_map
def YBF:=@List.length_range
def YBG:=@PySem.W.mg_none_of
def YBH:=@PySem.F.plainAttrs_list
def YBI:=@List.getElem?_eq_none
def YBJ:=@Int.emod_nonneg
def YBK:=@List.length_pos_iff
def YBL:=@Array.toList_append
def YBM:=@Ne.symm
def YBN:=@List.pairwise_append
def YBO:=@List.all_eq_true
def YBP:=@PySem.W.kia_one
def YBQ:=@Bool.eq_iff_iff
def YBR:=@List.mem_append_right
def YBS:=@List.map_map
def YBT:=@PySem.wpAny_holding
def YBU:=@List.nodup_cons
def YBV:=@Nat.mul_assoc
def YBW:=@List.pairwise_cons
def YBX:=@PySem.F.type_list_append
def YBY:=@PySem.F.slot_list_append
def YBZ:=@PyProof.Rows.wpS_forRange
def YBa:=@List.mem_map_of_mem
def YBb:=@List.map_append
def YBc:=@PySem.wpAny_loadPart_at
def YBd:=@Bool.eq_false_iff
def YBe:=@Array.toList_push
def YBf:=@PySem.wpAny_Call_Name_kw
def YBg:=@PySem.Heap.get?_update_other
def YBh:=@PySem.Heap.size_push
def YBi:=@Bool.false_and
def YBj:=@List.take_length
def YBk:=@List.mem_reverse
def YBl:=@List.getLast?_eq_some_getLast
def YBm:=@PySem.Heap.get?_update_self
def YBn:=@PySem.wpAny_setField
def YBo:=@List.drop_zero
def YBp:=@Bool.and_false
def YBq:=@Nat.min_eq_left
def YBr:=@List.range_succ
def YBs:=@List.filter_append
def YBt:=@PySem.wpAny_askSetting
def YBu:=@List.drop_eq_nil_of_le
def YBv:=@PySem.wpAny_newObj_type
def YBw:=@PySem.mem_of_lookup
def YBx:=@List.nodup_append
def YBy:=@List.foldl_cons
def YBz:=@List.lookup_cons
def YCA:=@List.getElem_mem
def YCB:=@List.drop_append_of_le_length
def YCC:=@List.any_eq_true
def YCD:=@Nat.pow_succ
def YCE:=@List.drop_drop
def YCF:=@PySem.wpAny_truthy_bool
def YCG:=@PySem.wpAny_rule
def YCH:=@List.map_congr_left
def YCI:=@PyProof.Rows.wpS_mono
def YCJ:=@List.length_eraseIdx_of_lt
def YCK:=@Array.getElem?_eq_some_iff
def YCL:=@Option.bind_some
def YCM:=@List.ext_getElem
def YCN:=@PySem.Calls.spliced_cons
def YCO:=@Bool.true_and
def YCP:=@Bool.not_true
def YCQ:=@PyProof.Rows.wpS_modify
def YCR:=@List.flatten_cons
def YCS:=@Int.toNat_natCast
def YCT:=@Nat.le_of_lt
def YCU:=@Nat.le_of_eq
def YCV:=@List.length_eq_zero_iff
def YCW:=@List.getElem_of_mem
def YCX:=@PySem.wpAny_call_entry
def YCY:=@List.take_take
def YCZ:=@PySem.W.callWith_K
def YCa:=@Nat.lt_of_le_of_lt
def YCb:=@List.getElem?_drop
def YCc:=@List.contains_cons
def YCd:=@Bool.false_eq_true
def YCe:=@PySem.wpAny_passesOwn
def YCf:=@Nat.mul_comm
def YCg:=@List.length_nil
def YCh:=@List.append_nil
def YCi:=@Int.natCast_mul
def YCj:=@PySem.wpAny_storeSet_of
def YCk:=@List.take_sublist
def YCl:=@List.take_add_one
def YCm:=@List.ext_getElem?
def YCn:=@PySem.Heap.SameBut.refl
def YCo:=@Array.toList_setIfInBounds
def YCp:=@Array.perm_iff_toList_perm
def YCq:=@Array.toArray_toList
def YCr:=@PySem.Around.under_plainId
def YCs:=@List.drop_eq_getElem_cons
def YCt:=@Nat.succ_le_succ
def YCu:=@List.cons_append
def YCv:=@PySem.wpAny_isSubtype_exc
def YCw:=@List.replicate_succ
def YCx:=@PySem.wpAny_call
def YCy:=@Option.isSome_iff_exists
def YCz:=@PySem.wpAny_standAt
def YDA:=@PySem.wpAny_execs_nil
def YDB:=@PySem.wpAny_attempt
def YDC:=@Option.map_some
def YDD:=@PySem.Obj.data_mapFields
def YDE:=@List.getElem?_take
def YDF:=@List.find?_cons
def YDG:=@Int.mul_assoc
def YDH:=@Option.map_eq_some_iff
def YDI:=@PySem.wpAny_setEpoch_of
def YDJ:=@Nat.lt_succ_of_lt
def YDK:=@Nat.le_succ
def YDL:=@PySem.Calls.spliced_nil
def YDM:=@Nat.mul_le_mul
def YDN:=@PySem.W.methodCall_KW
def YDO:=@PyProof.Rows.callWith_builtin1
def YDP:=@List.length_replicate
def YDQ:=@List.dropLast_eq_take
def YDR:=@Int.mul_le_mul_of_nonneg_right
def YDS:=@PySem.W.any_some
def YDT:=@List.mem_flatMap
def YDU:=@List.length_tail
def YDV:=@List.eq_nil_of_length_eq_zero
def YDW:=@PySem.W.looks_findIn
def YDX:=@Nat.mul_le_mul_right
def YDY:=@List.mem_erase_of_ne
def YDZ:=@PySem.F.excBase_ValueError
def YDa:=@List.dropLast_concat_getLast
def YDb:=@Int.gcd_pos_of_ne_zero_right
def YDc:=@PyProof.Rows.wpS_get
set_option maxRecDepth 100000
namespace L2
open PySem PySem.Spec PyProof.Rows
abbrev Key:=Sum Int Str
noncomputable def ZcC:Key->Value->Bool
 | .inl k,v=>Value.isInt k v
 | .inr x,v=>Value.isStrOf x v
noncomputable def keyH (w:AI):Key->Int
 | .inl k=>hashInt k
 | .inr x=>hashStr w x
theorem ZaY:∀ {k:Key} {v:Value},ZcC k v=true->(∃i t,k=Sum.inl i/\v=Value.int i t)\/(∃x t,k=Sum.inr x/\v=Value.str x t)
 | .inl i,v,h=>by
  obtain⟨t,e⟩:=Value.isInt_shape (k:=i) (v:=v) h;exact .inl ⟨i,t,rfl,e⟩
 | .inr x,v,h=>by obtain⟨t,e⟩:=Value.isStrOf_shape (x:=x) (v:=v) h;exact .inr ⟨x,t,rfl,e⟩
theorem ZiS (i:Int)(t:Tok):ZcC (.inl i) (.int i t)=true:=by simp[ZcC,Value.isInt]
theorem ZiR (x:Str)(t:Tok):ZcC (.inr x) (.str x t)=true:=by simp[ZcC,Value.isStrOf]
theorem Zn7 (a b:Int):decide ((Sum.inl a:Key)=Sum.inl b)=(a == b):=by
 by_cases e:a=b
 .subst e;simp
 .have h:¬(Sum.inl a:Key)=Sum.inl b:=fun q=>e (Sum.inl.inj q);rw[decide_eq_false h];exact(beq_eq_false_iff_ne.mpr e).symm
theorem Zn4 (a b:Str):decide ((Sum.inr a:Key)=Sum.inr b)=decide (a=b):=by
 by_cases e:a=b
 .subst e;simp
 .have h:¬(Sum.inr a:Key)=Sum.inr b:=fun q=>e (Sum.inr.inj q);rw[decide_eq_false h,decide_eq_false e]
theorem Zn6 (a:Int)(b:Str):decide ((Sum.inl a:Key)=Sum.inr b)=false:=decide_eq_false (fun q=>nomatch q)
theorem Zn5 (a:Str)(b:Int):decide ((Sum.inr a:Key)=Sum.inl b)=false:=decide_eq_false (fun q=>nomatch q)
noncomputable def Zaz (prog:AG)(w:AI):PySem.KeyKind prog w Key where
 is:=ZcC
 hash:=keyH w
 inj:=fun v a b ha hb=>by
  rcases ZaY ha with⟨i,t,rfl,rfl⟩|⟨x,t,rfl,rfl⟩
  .rcases ZaY hb with⟨j,u,rfl,e⟩|⟨y,u,rfl,e⟩
   .injection e with e1 _;rw[e1]
   .exact nomatch e
  .rcases ZaY hb with⟨j,u,rfl,e⟩|⟨y,u,rfl,e⟩
   .exact nomatch e
   .injection e with e1 _;rw[e1]
 byValue:=fun k v h=>by rcases ZaY h with⟨i,t,rfl,rfl⟩|⟨x,t,rfl,rfl⟩<;>rfl
 pyHash:=fun hv h=>by
  rcases ZaY hv with⟨i,t,rfl,rfl⟩|⟨x,t,rfl,rfl⟩
  .exact wpAny_pyHash_int h
  .exact wpAny_pyHash_str h
 eqBool:=fun hu hv h=>by
  rcases ZaY hu with⟨i,t,rfl,rfl⟩|⟨x,t,rfl,rfl⟩
  .rcases ZaY hv with⟨j,u,rfl,rfl⟩|⟨y,u,rfl,rfl⟩
   .rw[Zn7]at h;exact wpAny_eqBool_int h
   .rw[Zn6]at h;exact SeqAt.EqAt.int_str i t y u _ _ _ _ h
  .rcases ZaY hv with⟨j,u,rfl,rfl⟩|⟨y,u,rfl,rfl⟩
   .rw[Zn5]at h;exact SeqAt.EqAt.str_int x t j u _ _ _ _ h
   .rw[Zn4]at h;exact wpAny_eqBool_str h
 «strs»:=fun k x t v h=>by
  rcases ZaY h with⟨i,u,rfl,e⟩|⟨y,u,rfl,e⟩
  .exact nomatch e
  .injection e with e1 _;subst e1;cases v<;>rfl
theorem Zgd (prog:AG)(w:AI)(i:Int)(t:Tok):(Zaz prog w).is (.inl i) (.int i t)=true:=ZiS i t
theorem Zcn (prog:AG)(w:AI)(x:Str)(t:Tok):(Zaz prog w).is (.inr x) (.str x t)=true:=ZiR x t
inductive V where
 | non | bl (b:Bool) | int (i:Int) | str (x:Str) | byt (b:Array UInt8) | flt (b:UInt64) | ref (a:AD) | ty (n:String)
 deriving DecidableEq
def RelV:V->Value->Prop
 | .non,u=>u=Value.none
 | .bl b,u=>u=Value.bool b
 | .int i,u=>∃t,u=Value.int i t
 | .str x,u=>∃t,u=Value.str x t
 | .byt b,u=>∃t,u=Value.bytes b t
 | .flt b,u=>∃t,u=Value.float b t
 | .ref a,u=>u=Value.ref a
 | .ty n,u=>u=Value.type n
abbrev Vals:List V->AC->Prop:=Paired RelV
theorem Vals.length {xs:List V}{us:AC}(r:Vals xs us):xs.length=us.length:=Paired.length r
theorem Vals.get:∀ {xs:List V} {us:AC} {i:Nat} {x:V},Vals xs us->xs[i]?=some x->∃u,us[i]?=some u/\RelV x u
 | _,_,_,_,.nil,e=>by simp at e
 | _,_,0,_,.cons r _,e=>by simp at e;subst e;exact⟨_,rfl,r⟩
 | _,_,i+1,x,.cons _ t,e=>by obtain⟨u,h1,h2⟩:=Vals.get (i:=i) (x:=x) t (by simpa using e);exact⟨u,by simpa using h1,h2⟩
theorem Vals.append:∀ {xs ys:List V} {us ws:AC},Vals xs us->Vals ys ws->Vals (xs++ys) (us++ws)
 | _,_,_,_,.nil,s=>s
 | _,_,_,_,.cons r t,s=>.cons r (Vals.append t s)
theorem Vals.take:∀ {xs:List V} {us:AC} (n:Nat),Vals xs us->Vals (xs.take n) (us.take n)
 | _,_,0,_=>.nil
 | _,_,_+1,.nil=>.nil
 | _,_,n+1,.cons r t=>.cons r (Vals.take n t)
theorem Vals.drop:∀ {xs:List V} {us:AC} (n:Nat),Vals xs us->Vals (xs.drop n) (us.drop n)
 | _,_,0,r=>r
 | _,_,_+1,.nil=>.nil
 | _,_,n+1,.cons _ t=>Vals.drop n t
def RelO:Option V->Option Value->Prop
 | some v,some u=>RelV v u
 | none,none=>True
 | _,_=>False
def KV {κ:Type}:List (κ×V)->List (κ×Value)->Prop:=Paired fun (p:κ×V) (q:κ×Value)=>p.1=q.1/\RelV p.2 q.2
noncomputable def kV:Key->V
 | .inl i=>.int i
 | .inr x=>.str x
inductive HO where
 | lst (xs:List V)
 | tup (xs:List V)
 | dK (kvs:List (Key×V)) | dT (kvs:List (List Key×V))
 | set (S:Int->Bool) (n:Nat)
 | ins (C dx:AD) (fs:List (Str×V))
 | own (x:AD)
 | xd (fs:List (Str×V))
 | met (f x:AD)
 | rng (lo hi:Int)
 | frz (o:Obj) (u:HO)
 | tbl (ps:Array Value)
 | ext (φ:Heap->Prop)
abbrev Hp:=Addr->Option HO
noncomputable def upd (H:Hp)(a:AD)(o:HO):Hp:=fun b=>if b=a then some o else H b
theorem Zag {H:Hp}{a:AD}{o:HO}:upd H a o a=some o:=by unfold upd;rw[YAM rfl]
theorem Zai {H:Hp}{a b:AD}{o:HO}(h:b≠a):upd H a o b=H b:=by unfold upd;rw[YAI h]
theorem ZqI {H:Hp}{a b:AD}{o u:HO}(h:H a=some o)(h':H b=some u)(d:o≠u):a≠b:=by intro e;subst e;rw[h]at h';exact d (Option.some.inj h')
theorem Zak {H:Hp}{a b:AD}{o:HO}(h:H a=some o)(h':H b=none):a≠b:=by intro e;subst e;rw[h]at h';cases h'
section
variable (P:AG)(w:AI)
def ObjOk (H:Hp)(h:Heap)(a:AD):HO->Prop
 | .lst xs=>xs.length<=sizeLine/\∃(its:AC) (n:Nat),Vals xs its/\h.get? a=some { cls:=.type "list",data:=.seq its.toArray n }
 | .tup xs=>xs.length<=sizeLine/\∃its:AC,Vals xs its/\IsTup h a its.toArray
 | .dK kvs=>kvs.length<=sizeLine/\(a == sysModules)=false/\∃vs,KV kvs vs/\h.DictOf (Zaz P w) a vs
 | .dT kvs=>kvs.length<=sizeLine/\(a == sysModules)=false/\∃xs:List (List Key×AD×Value),
   Paired (fun (p:List Key×V) (q:List Key×AD×Value)=>p.1=q.1/\H q.2.1=some (.tup (p.1.map kV))/\RelV p.2 q.2.2) kvs xs /\
   ∃o es ep,h.get? a=some o/\o.ExactDict/\o.data=.dict es ep/\es.toList=xs.map (entryOfKey (tupleKind (Zaz P w)))/\(xs.map (·.1)).Nodup
 | .set S n=>h.SetOf (intKind P w) a S n
 | .ins C dx fs=>H dx=some (.own a)/\fs.length<=1000/\dx≠a/\h.get? a=some (PySem.W.instObj C dx) /\
   ∃mA,h.Ns1 dx mA/\(∀f,RelO (fs.lookup f) (mA f))/\PySem.Within mA (fs.map (·.1))
 | .own _=>∃o,h.get? a=some o
 | .xd fs=>∃mA,h.Ns1 a mA/\∀f,RelO (fs.lookup f) (mA f)
 | .rng lo hi=>∃t u v,h.get? a=some { cls:=.type "range",data:=.fields #[.int lo t,.int hi u,.int 1 v] }
 | .frz o u=>h.get? a=some o/\ObjOk H h a u
 | .tbl ps=>h.get? a=some { cls:=.none,data:=.fields ps }
 | .met f x=>h.get? a=some (PySem.W.methodObj (.ref f) (.ref x))
 | .ext φ=>φ h/\(∃o,h.get? a=some o)/\∀h1 h2:Heap,φ h1->(∀o,h1.get? a=some o->h2.get? a=some o)->φ h2
def HOk (H:Hp)(h:Heap):Prop:=∀a o,H a=some o->ObjOk P w H h a o
end
section
variable {P:AG}{w:AI}{H H':Hp}{h h':Heap}{a:AD}{o:HO}
theorem ObjOk.lt (x:ObjOk P w H h a o):a<h.objs.size:=by
 cases o with
 | lst xs=>obtain⟨_,_,_,_,e⟩:=x;exact YAN e
 | tup xs=>obtain⟨_,_,_,p⟩:=x;exact p.lt
 | dK kvs=>obtain⟨_,_,_,_,o,_,_,e,_⟩:=x;exact YAN e
 | dT kvs=>obtain⟨_,_,_,_,o,_,_,e,_⟩:=x;exact YAN e
 | set S n=>obtain⟨o,_,_,_,e,_⟩:=x;exact YAN e
 | ins C dx fs=>obtain⟨_,_,_,e,_⟩:=x;exact YAN e
 | own y=>obtain⟨_,e⟩:=x;exact YAN e
 | xd fs=>obtain⟨_,⟨_,_,_,e,_⟩,_⟩:=x;exact YAN e
 | rng lo hi=>obtain⟨_,_,_,e⟩:=x;exact YAN e
 | frz ob u=>obtain⟨e,_⟩:=x;exact YAN e
 | tbl ps=>exact YAN (show h.get? a=some _ from x)
 | met f y=>exact YAN (show h.get? a=some _ from x)
 | ext φ=>obtain⟨_,⟨_,e⟩,_⟩:=x;exact YAN e
theorem Paired.mapP {α β:Type}{F G:α->β->Prop}:∀ {l9:List α} {l8:List β},Paired F l9 l8->(∀a b,F a b->G a b)->Paired G l9 l8
 | _,_,.nil,_=>.nil
 | _,_,.cons r t,f=>.cons (f _ _ r) (Paired.mapP t f)
theorem ObjOk.stay (x:ObjOk P w H h a o)(k:∀b u,(b=a\/H b=some (.own a))->h.get? b=some u->h'.get? b=some u)
  (ho:∀b,H b=some (.own a)->H' b=some (.own a)) (ht:∀b xs,H b=some (.tup xs)->H' b=some (.tup xs)):ObjOk P w H' h' a o:=by
 induction o with
 | lst xs=>obtain⟨z,its,n,r,e⟩:=x;exact⟨z,its,n,r,k _ _ (.inl rfl) e⟩
 | tup xs=>obtain⟨z,its,r,ob,e,c⟩:=x;exact⟨z,its,r,ob,k _ _ (.inl rfl) e,c⟩
 | dK kvs=>obtain⟨z,y,vs,r,ob,es,ep,e,c⟩:=x;exact⟨z,y,vs,r,ob,es,ep,k _ _ (.inl rfl) e,c⟩
 | dT kvs=>
  obtain⟨z,y,xs,r,ob,es,ep,e,c⟩:=x;exact⟨z,y,xs,Paired.mapP r fun p q z=>⟨z.1,ht _ _ z.2.1,z.2.2⟩,ob,es,ep,k _ _ (.inl rfl) e,c⟩
 | set S n=>obtain⟨ob,es,ep,t,e,c⟩:=x;exact⟨ob,es,ep,t,k _ _ (.inl rfl) e,c⟩
 | ins C dx fs=>
  obtain⟨d,z,ne,e,mA,⟨od,es,ep,e2,c⟩,r⟩:=x;exact⟨ho _ d,z,ne,k _ _ (.inl rfl) e,mA,⟨od,es,ep,k _ _ (.inr d) e2,c⟩,r⟩
 | own y=>obtain⟨ob,e⟩:=x;exact⟨ob,k _ _ (.inl rfl) e⟩
 | xd fs=>obtain⟨mA,⟨od,es,ep,e,c⟩,r⟩:=x;exact⟨mA,⟨od,es,ep,k _ _ (.inl rfl) e,c⟩,r⟩
 | rng lo hi=>obtain⟨t,u,v,e⟩:=x;exact⟨t,u,v,k _ _ (.inl rfl) e⟩
 | frz ob u ih=>obtain⟨e,q⟩:=x;exact⟨k _ _ (.inl rfl) e,ih q⟩
 | tbl ps=>
  have e:h.get? a=some { cls:=.none,data:=.fields ps }:=x;show h'.get? a=some { cls:=.none,data:=.fields ps };exact k a _ (.inl rfl) e
 | met f y=>
  have e:h.get? a=some (PySem.W.methodObj (.ref f) (.ref y)):=x;show h'.get? a=some (PySem.W.methodObj (.ref f) (.ref y));exact k a _ (.inl rfl) e
 | ext φ=>obtain⟨p,⟨o,e⟩,st⟩:=x;exact⟨st _ _ p fun o q=>k _ _ (.inl rfl) q,⟨o,k _ _ (.inl rfl) e⟩,st⟩
theorem HOk.lt (x:HOk P w H h)(e:H a=some o):a<h.objs.size:=(x a o e).lt
theorem HOk.fresh (x:HOk P w H h)(e:h.objs.size<=a):H a=none:=by
 cases q:H a with
 | none=>rfl
 | some u=>exact absurd (YAk (x.lt q) e) (YBA _)
theorem HOk.kept (x:HOk P w H h)(k:∀b u,h.get? b=some u->h'.get? b=some u):HOk P w H h':=fun a o e=>
 (x a o e).stay (fun b u _ q=>k b u q) (fun _ q=>q) fun _ _ q=>q
theorem HOk.laid (x:HOk P w H h)(k:∀b u,h.get? b=some u->h'.get? b=some u)(hp:h.objs.size<=a)(new:ObjOk P w (upd H a o) h' a o):HOk P w (upd H a o) h':=fun b u e=>by
 have hn:=x.fresh hp;by_cases hb:b=a
 .subst hb;rw[Zag]at e;cases e;exact new
 .rw[Zai hb]at e;exact(x b u e).stay (fun c v _ q=>k c v q) (fun c q=>by rw[Zai (Zak q hn)];exact q) fun c xs q=>by rw[Zai (Zak q hn)];exact q
end
def Rd (H:Hp)(a:AD)(u:HO):Prop:=H a=some u\/∃o,H a=some (.frz o u)
theorem Rd.ok {P:AG}{w:AI}{H:Hp}{h:Heap}{a:AD}{u:HO}(r:Rd H a u)(x:HOk P w H h):ObjOk P w H h a u:=by
 rcases r with r | ⟨o,r⟩
 .exact x a u r
 .obtain⟨_,q⟩:=x a _ r;exact q
def Mut:Option HO->Prop
 | some (.lst _)=>True
 | some (.dK _)=>True
 | some (.dT _)=>True
 | some (.set _ _)=>True
 | some (.ins _ _ _)=>True
 | some (.ext _)=>True
 | _=>False
section
variable {P:AG}{w:AI}{H:Hp}{h h':Heap}{x e:AD}{o':HO}
theorem HOk.write (ok:HOk P w H h)(mu:Mut (H x))(he:e=x\/H e=some (.own x))(k:∀b u,b≠e->h.get? b=some u->h'.get? b=some u)(heo:∃u,h'.get? e=some u)
  (new:ObjOk P w (upd H x o') h' x o'):HOk P w (upd H x o') h':=fun b u q=>by
 have nown:∀c y,H c=some (.own y)->c≠x:=fun c y r z=>by subst z;rw[r]at mu;exact mu
 have ntup:∀c xs,H c=some (.tup xs)->c≠x:=fun c xs r z=>by subst z;rw[r]at mu;exact mu
 by_cases hb:b=x
 .subst hb;rw[Zag]at q;cases q;exact new
 .rw[Zai hb]at q;by_cases hbe:b=e
  .have q':H b=some (.own x):=by
    rcases he with z | z
    .exact absurd (hbe.trans z) hb
    .rw[hbe];exact z
   rw[q]at q';cases q';obtain⟨v,hv⟩:=heo;exact⟨v,by rw[hbe];exact hv⟩
  .refine(ok b u q).stay (fun c v hc r=>k c v ?_ r) (fun c r=>by rw[Zai (nown c b r)];exact r) fun c xs r=>by rw[Zai (ntup c xs r)];exact r
   rcases hc with rfl | hc
   .exact hbe
   .rintro rfl;rcases he with z | z
    .exact nown c b hc z
    .rw[hc]at z;cases z;exact hb rfl
end
structure Un (fs ex:List AD)(H H':Hp)(h h':Heap):Prop where
 keep:∀b o,h.get? b=some o->H b=none->b∉fs->b∉ex->h'.get? b=some o
 slot:∀b o,h.get? b=some o->H b=none->b∈fs->b∉ex->∃sl,h'.get? b=some { o with slots:=sl }
 free:∀b o,h.get? b=some o->H b=none->b∉ex->H' b=none
 there:∀b o,h.get? b=some o->b∉ex->∃o',h'.get? b=some o'
 tups:∀b xs,H b=some (.tup xs)->H' b=some (.tup xs)
 frzs:∀b o u,H b=some (.frz o u)->H' b=some (.frz o u)
 tbls:∀b ps,H b=some (.tbl ps)->∃more,H' b=some (.tbl (ps++more))
section
variable {fs fs' ex ex':List AD}{H H1 H2:Hp}{h h1 h2 h':Heap}{a x e:AD}{o:HO}
theorem Un.any (u:Un fs ex H H1 h h1){b:AD}{ob:Obj}(q:h.get? b=some ob)(n:H b=none)(hx:b∉ex):∃sl,h1.get? b=some { ob with slots:=sl }:=by
 by_cases hb:b∈fs
 .exact u.slot b ob q n hb hx
 .exact⟨ob.slots,u.keep b ob q n hb hx⟩
theorem Un.trans (a:Un fs ex H H1 h h1)(b:Un fs ex H1 H2 h1 h2):Un fs ex H H2 h h2 where
 keep:=fun c ob q n hc hx=>b.keep c ob (a.keep c ob q n hc hx) (a.free c ob q n hx) hc hx
 slot:=fun c ob q n hc hx=>by obtain⟨sl,e1⟩:=a.slot c ob q n hc hx;obtain⟨sl',e2⟩:=b.slot c _ e1 (a.free c ob q n hx) hc hx;exact⟨sl',e2⟩
 free:=fun c ob q n hx=>by obtain⟨o',e1⟩:=a.there c ob q hx;exact b.free c o' e1 (a.free c ob q n hx) hx
 there:=fun c ob q hx=>by obtain⟨o',e1⟩:=a.there c ob q hx;exact b.there c o' e1 hx
 tups:=fun c xs q=>b.tups c xs (a.tups c xs q)
 frzs:=fun c ob xs q=>b.frzs c ob xs (a.frzs c ob xs q)
 tbls:=fun c ps q=>by obtain⟨m1,e1⟩:=a.tbls c ps q;obtain⟨m2,e2⟩:=b.tbls c _ e1;exact⟨m1++m2,by rw[e2,Array.append_assoc]⟩
theorem Un.kept (k:∀b u,h.get? b=some u->h'.get? b=some u):Un fs ex H H h h':=
 ⟨fun b ob q _ _ _=>k b ob q,fun b ob q _ _ _=>⟨ob.slots,k b ob q⟩,fun _ _ _ n _=>n,fun b ob q _=>⟨ob,k b ob q⟩,fun _ _ q=>q,fun _ _ _ q=>q,fun _ ps q=>⟨#[],by rw[q];simp⟩⟩
theorem Un.refl:Un fs ex H H h h:=Un.kept fun _ _ q=>q
theorem Un.laid (k:∀b u,h.get? b=some u->h'.get? b=some u)(hp:h.objs.size<=a)(hn:H a=none):Un fs ex H (upd H a o) h h' where
 keep:=fun b u q _ _ _=>k b u q
 slot:=fun b u q _ _ _=>⟨u.slots,k b u q⟩
 free:=fun b u q n _=>by rw[Zai (YAf (YAk (YAN q) hp))];exact n
 there:=fun b u q _=>⟨u,k b u q⟩
 tups:=fun b xs q=>by rw[Zai (Zak q hn)];exact q
 frzs:=fun b u xs q=>by rw[Zai (Zak q hn)];exact q
 tbls:=fun b ps q=>⟨#[],by rw[Zai (Zak q hn),q];simp⟩
theorem Un.write (mu:Mut (H x))(he:e=x\/H e=some (.own x))(k:∀b u,b≠e->h.get? b=some u->h'.get? b=some u)(heo:∃u,h'.get? e=some u):Un fs ex H (upd H x o) h h':=by
 have hx:∀b,H b=none->b≠x:=fun b n z=>by subst z;rw[n]at mu;exact mu
 have hb:∀b,H b=none->b≠e:=fun b n z=>by
  subst z;rcases he with r | r
  .exact hx b n r
  .rw[n]at r;cases r
 have hm:∀b u,H b=some u->¬Mut (some u)->b≠x:=fun b u q nm z=>by subst z;rw[q]at mu;exact nm mu
 refine⟨fun b u q n _ _=>k b u (hb b n) q,fun b u q n _ _=>⟨u.slots,k b u (hb b n) q⟩,fun b u q n _=>by rw[Zai (hx b n)];exact n,fun b u q _=>?_,
  fun b xs q=>by rw[Zai (hm b _ q fun z=>z)];exact q,fun b u xs q=>by rw[Zai (hm b _ q fun z=>z)];exact q,fun b ps q=>⟨#[],by rw[Zai (hm b _ q fun z=>z),q];simp⟩⟩
 by_cases hbe:b=e
 .subst hbe;exact heo
 .exact⟨u,k b u hbe q⟩
end
noncomputable def trk (h:Heap)(H:Hp):List AD:=(List.range h.objs.size).filter fun a=>(H a).isSome
noncomputable def hidT (h:Heap)(H:Hp):Heap:=PySem.W.hideAll h (trk h H)
theorem Zfz (h:Heap)(H:Hp):(hidT h H).objs.size=h.objs.size:=PySem.W.hideAll_size _ _
theorem Zg4 {h:Heap}{H:Hp}{b:AD}{o:Obj}(e:h.get? b=some o)(n:H b=none):(hidT h H).get? b=some o:=
 PySem.W.hideAll_get _ e fun hm=>by have q:(H b).isSome=true:=(YAr.mp hm).2;rw[n]at q;simp at q
theorem ZiA {h:Heap}{H:Hp}{b:AD}{o:Obj}(e:(hidT h H).get? b=some o):h.get? b=some o/\H b=none:=by
 have e':h.get? b=some o:=PySem.W.of_hideAll (trk h H) e;refine⟨e',?_⟩;cases q:H b with
 | none=>rfl
 | some x=>
  have hm:b∈trk h H:=YAr.mpr ⟨YAn.mpr (YAN e'),by simp[q]⟩;have z:(hidT h H).get? b=none:=PySem.W.hideAll_none (trk h H) hm;rw[z]at e;cases e
def Zmp (g h:Heap)(L:AD):AA:=(List.range h.objs.size).filterMap fun a=>if a=L\/(g.get? a).isSome=true then none else (h.get? a).map fun o=>(a,o)
def rest (g h:Heap)(L d:AD):AA:=(Zmp g h L).filter fun p=>decide (p.1≠d)
structure Mod (K:Q4)(mg:AB)(base:Heap):Prop where
 kin:K.In base
 glob:base.Ns mainGlobals mg
 blt:∃mb,base.Ns builtinsNs mb/\∀x:Str,x≠"__name__"->mb x=bootBuiltins x
 nolimit:base.NoLimit
structure Cx where
 prog:AG
 w:AI
 K:Q4
 mg:AB
 base:Heap
 A:AH
 N:AJ
 s_0:AE
 H_0:Hp
 env:Env
 outer:List Env
 stack:List Env
 ex:List AD
 fn:Str->Bool
 calm:Bool
 pn:AA
 xe:Q33
noncomputable def frs (l:List Env):List AD:=l.filterMap (·.frame)
noncomputable abbrev Cx.fs (X:Cx):List AD:=frs X.outer
def Vis (sc:Scope)(x:Str):Prop:=sc.names.lookup x=some .local\/sc.names.lookup x=some .cell\/sc.names.lookup x=some .free
def Loc (sc:Scope)(x:Str):Prop:=sc.names.lookup x=some .local\/sc.names.lookup x=some .cell
def Look (env:Env)(h:Heap)(m:AB)(x:Str)(u:Value):Prop:=
 (env.kindOf x=some .local/\m x=some u)\/((env.kindOf x=some .cell\/env.kindOf x=some .free)/\∃c,env.cells.lookup x=some c/\h.IsCell c (some u))
structure Cx.Ok (X:Cx):Prop where
 mod:Mod X.K X.mg X.base
 kind:X.env.scope.kind=.function
 glob:X.env.globals=mainGlobals
 blt:X.env.builtins=builtinsNs
 above:X.s_0.heap.objs.size<=X.env.locals
 inj:∀x y c,X.env.cells.lookup x=some c->X.env.cells.lookup y=some c->x=y
 has:∀x,(X.env.kindOf x=some .cell\/X.env.kindOf x=some .free)->∃c,X.env.cells.lookup x=some c
 cab:∀x c,X.fn x=true->X.env.cells.lookup x=some c->X.s_0.heap.objs.size<=c
 hd:X.calm=true->X.A.handled=none
 frames:X.A.frames=some X.stack
 stk:X.stack=X.outer\/(X.stack=X.env::X.outer/\X.env.frame=some X.env.locals)
 exf:∀b∈X.ex,b≠X.env.locals/\∀x c,X.env.cells.lookup x=some c->c≠b
 bs:∀b o,X.base.get? b=some o->X.s_0.heap.get? b=some o/\X.H_0 b=none
 bsz:X.base.objs.size<=X.s_0.heap.objs.size
 noex:∀b o,X.base.get? b=some o->b∉X.ex
 exfs:∀b∈X.ex,b∉X.fs
 funs:X.s_0.heap.FunFrames X.base X.outer
 frf:∀b∈X.fs,X.H_0 b=none
structure Inv (X:Cx)(BF:AA)(U:List (Option V))(H:Hp)(s:AE):Prop where
 ok:X.Ok
 os:s.os=X.s_0.os
 bare:AllBare s.gens
 base:Un X.fs X.ex X.H_0 H X.s_0.heap s.heap
 loc:∃m,s.heap.Ns X.env.locals m/\∀(i:Nat) (x:Str) (v:V),X.N[i]?=some x->U[i]?=some (some v)->Vis X.env.scope x->∃u,RelV v u/\Look X.env s.heap m x u
 cell:∀x c,X.env.cells.lookup x=some c->∃v,s.heap.IsCell c v
 free:H X.env.locals=none
 freeC:∀x c,X.env.cells.lookup x=some c->H c=none
 pin:∀p∈X.pn++BF,s.heap.get? p.1=some p.2/\H p.1=none/\p.1≠X.env.locals/\p.1∉X.fs/\∀v,p.2.data≠.cell v
 hok:HOk X.prog X.w H s.heap
 len:U.length=X.N.length
section
variable {X:Cx}{BF:AA}{U:List (Option V)}{H H':Hp}{s:AE}{h':Heap}
theorem Cx.Ok.nofr (ok:X.Ok){b:AD}{o:Obj}(e:X.base.get? b=some o):b∉X.fs:=fun hb=>by have:=(ok.funs.mem hb).1;rw[e]at this;cases this
theorem Inv.bs (I:Inv X BF U H s):∀b o,X.base.get? b=some o->s.heap.get? b=some o/\H b=none:=fun b o e=>
 ⟨I.base.keep b o (I.ok.bs b o e).1 (I.ok.bs b o e).2 (I.ok.nofr e) (I.ok.noex b o e),I.base.free b o (I.ok.bs b o e).1 (I.ok.bs b o e).2 (I.ok.noex b o e)⟩
theorem Inv.bk (I:Inv X BF U H s):∀b o,X.base.get? b=some o->s.heap.get? b=some o:=fun b o e=>(I.bs b o e).1
theorem Inv.mod (I:Inv X BF U H s):Mod X.K X.mg X.base:=I.ok.mod
theorem Inv.kIn (I:Inv X BF U H s):X.K.In s.heap:=I.ok.mod.kin.keeps I.bk
theorem Inv.lt (I:Inv X BF U H s):X.env.locals<s.heap.objs.size:=let ⟨_,hn,_⟩:=I.loc;hn.lt
theorem Inv.sz (I:Inv X BF U H s):X.s_0.heap.objs.size<=s.heap.objs.size:=YAK I.ok.above (YCT I.lt)
theorem Inv.nofs (I:Inv X BF U H s){a:AD}(h:s.heap.objs.size<=a):a∉X.fs:=fun hb=>by obtain⟨_,o,ho,_⟩:=I.ok.funs.mem hb;exact absurd (YAk (YAN ho) (YAK I.sz h)) (YBA _)
theorem Inv.cne (I:Inv X BF U H s):∀x c,X.env.cells.lookup x=some c->c≠X.env.locals:=fun x c e z=>by obtain⟨v,o,ho,hd⟩:=I.cell x c e;obtain⟨m,⟨o',es,ep,ho',hd',_⟩,_⟩:=I.loc;rw[z,ho']at ho;cases ho;rw[hd']at hd;cases hd
theorem Inv.funs (I:Inv X BF U H s):s.heap.FunFrames X.base X.outer:=by
 have all:∀(l:List Env),(∀b∈frs l,b∈X.fs)->X.s_0.heap.FunFrames X.base l->s.heap.FunFrames X.base l:=by
  intro l;induction l with
  | nil=>intro _ _;trivial
  | cons env r ih=>
   intro hs hl;obtain⟨hk,⟨L,o,hf,hn,ho,hd⟩,hr⟩:=hl;have hL:L∈X.fs:=hs L (by unfold frs;rw[List.filterMap_cons,hf];exact YAY);obtain⟨sl,e⟩:=I.base.slot L o ho (I.ok.frf L hL) hL fun z=>I.ok.exfs L z hL;exact⟨hk,⟨L,_,hf,hn,e,hd⟩,ih (fun b hb=>hs b (by unfold frs;rw[List.filterMap_cons,hf];exact YAP _ hb)) hr⟩
 exact all X.outer (fun _ hb=>hb) I.ok.funs
theorem Inv.stack (I:Inv X BF U H s):s.heap.FunFrames X.base X.stack:=by
 rcases I.ok.stk with e | ⟨e,hf⟩
 .rw[e];exact I.funs
 .rw[e];obtain⟨m,hn,_⟩:=I.loc;refine .cons (by rw[I.ok.kind];decide) hf hn ?_ I.funs;exact Heap.get?_none_of_le (YAK I.ok.bsz I.ok.above)
theorem Inv.stkSub (I:Inv X BF U H s):∀b∈frs X.stack,b∈X.env.locals::X.fs:=fun b hb=>by
 rcases I.ok.stk with e | ⟨e,hf⟩
 .rw[e]at hb;exact YAP _ hb
 .rw[e]at hb;unfold frs at hb;rw[List.filterMap_cons,hf]at hb;exact hb
theorem Inv.stkFree (I:Inv X BF U H s):∀b∈frs X.stack,H b=none:=fun b hb=>by
 rcases YAT.mp (I.stkSub b hb) with e | hb
 .rw[e];exact I.free
 .obtain⟨_,o,ho,_⟩:=I.ok.funs.mem hb;exact I.base.free b o ho (I.ok.frf b hb) fun z=>I.ok.exfs b z hb
theorem Inv.step {g':Array GenState}{t':Nat}{d':Drawn}{ch:List AD}(I:Inv X BF U H s)
  (hch:∀b∈ch,(b∈X.ex\/X.s_0.heap.objs.size<=b)/\b≠X.env.locals/\(∀x c,X.env.cells.lookup x=some c->c≠b)/\∀p∈X.pn++BF,p.1≠b)
  (keep:∀b o,b≠X.env.locals->b∉X.fs->b∉ch->s.heap.get? b=some o->H b=none->h'.get? b=some o)
  (slot:∀b o,b≠X.env.locals->b∈X.fs->b∉ch->s.heap.get? b=some o->H b=none->∃sl,h'.get? b=some { o with slots:=sl }) (free:∀b o,b∉ch->s.heap.get? b=some o->H b=none->H' b=none)
  (there:∀b o,b∉ch->s.heap.get? b=some o->∃o',h'.get? b=some o')
  (tups:∀b xs,H b=some (.tup xs)->H' b=some (.tup xs)) (frzs:∀b o u,H b=some (.frz o u)->H' b=some (.frz o u)) (tbls:∀b ps,H b=some (.tbl ps)->∃more,H' b=some (.tbl (ps++more)))
  (ns:∀m,s.heap.Ns X.env.locals m->h'.Ns X.env.locals m) (hok:HOk X.prog X.w H' h') (hg:AllBare g'):
  Inv X BF U H' { s with heap:=h',gens:=g',drawn:=d',toks:=t' }:=by
 have neL:∀b o,X.s_0.heap.get? b=some o->b≠X.env.locals:=fun b o e=>YAf (YAk (YAN e) I.ok.above);have neC:∀b o,X.s_0.heap.get? b=some o->b∉X.ex->b∉ch:=fun b o e hx hb=>by
  rcases (hch b hb).1 with z | z
  .exact hx z
  .exact absurd (YAk (YAN e) z) (YBA _)
 have cellK:∀x c,X.env.cells.lookup x=some c->∀v,s.heap.IsCell c v->h'.IsCell c v:=fun x c e v ⟨o,ho,hd⟩=>by
  have nch:c∉ch:=fun z=>(hch c z).2.2.1 x c e rfl;by_cases hc:c∈X.fs
  .obtain⟨sl,q⟩:=slot c o (I.cne x c e) hc nch ho (I.freeC x c e);exact⟨_,q,hd⟩
  .exact⟨o,keep c o (I.cne x c e) hc nch ho (I.freeC x c e),hd⟩
 refine⟨I.ok,I.os,hg,⟨fun b o e n hb hx=>?_,fun b o e n hb hx=>?_,fun b o e n hx=>?_,fun b o e hx=>?_,fun b xs e=>tups b xs (I.base.tups b xs e),fun b o xs e=>frzs b o xs (I.base.frzs b o xs e),fun b ps e=>?_⟩,?_,fun x c e=>?_,?_,fun x c e=>?_,fun p hp=>?_,hok,I.len⟩
 .exact keep b o (neL b o e) hb (neC b o e hx) (I.base.keep b o e n hb hx) (I.base.free b o e n hx)
 .obtain⟨sl,e1⟩:=I.base.slot b o e n hb hx;obtain⟨sl',e2⟩:=slot b _ (neL b o e) hb (neC b o e hx) e1 (I.base.free b o e n hx);exact⟨sl',e2⟩
 .obtain⟨o',e1⟩:=I.base.there b o e hx;exact free b o' (neC b o e hx) e1 (I.base.free b o e n hx)
 .obtain⟨o',e1⟩:=I.base.there b o e hx;exact there b o' (neC b o e hx) e1
 .obtain⟨m1,e1⟩:=I.base.tbls b ps e;obtain⟨m2,e2⟩:=tbls b _ e1;exact⟨m1++m2,by rw[e2,Array.append_assoc]⟩
 .obtain⟨m,hn,hl⟩:=I.loc;refine⟨m,ns m hn,fun i x v e1 e2 e3=>?_⟩;obtain⟨u,r,l⟩:=hl i x v e1 e2 e3;refine⟨u,r,?_⟩;rcases l with l | ⟨k,c,e,z⟩
  .exact .inl l
  .exact .inr ⟨k,c,e,cellK x c e _ z⟩
 .obtain⟨v,z⟩:=I.cell x c e;exact⟨v,cellK x c e v z⟩
 .obtain⟨m,⟨o,_,_,ho,_⟩,_⟩:=I.loc;exact free _ o (fun z=>(hch _ z).2.1 rfl) ho I.free
 .obtain⟨v,o,ho,hd⟩:=I.cell x c e;exact free c o (fun z=>(hch c z).2.2.1 x c e rfl) ho (I.freeC x c e)
 .obtain⟨e,n,ne,nf,d⟩:=I.pin p hp;have nch:p.1∉ch:=fun z=>(hch p.1 z).2.2.2 p hp rfl;exact⟨keep p.1 p.2 ne nf nch e n,free p.1 p.2 nch e n,ne,nf,d⟩
theorem Inv.un {t':Nat}(I:Inv X BF U H s)(u:Un X.fs [] H H' s.heap h')(hok:HOk X.prog X.w H' h'):Inv X BF U H' { s with heap:=h',toks:=t' }:=by
 obtain⟨m,⟨o,es,ep,ho,r⟩,_⟩:=id I.loc;obtain⟨sl,hL⟩:=u.any ho I.free (by simp);exact I.step (g':=s.gens) (d':=s.drawn) (ch:=[]) (fun _ z=>nomatch z) (fun b o _ hb _ e n=>u.keep b o e n hb (by simp)) (fun b o _ hb _ e n=>u.slot b o e n hb (by simp)) (fun b o _ e n=>u.free b o e n (by simp)) (fun b o _ e=>u.there b o e (by simp)) u.tups u.frzs u.tbls (fun m' hm=>by obtain⟨o',es',ep',ho',r'⟩:=hm;rw[ho]at ho';cases ho';exact⟨_,es',ep',hL,r'⟩) hok I.bare
theorem Inv.call {g':Array GenState}{t':Nat}{d':Drawn}{ch:List AD}(I:Inv X BF U H s)(u:Un (frs X.stack) ch H H' s.heap h')(hok:HOk X.prog X.w H' h')(hg:AllBare g')
  (hch:∀b∈ch,(b∈X.ex\/X.s_0.heap.objs.size<=b)/\b≠X.env.locals/\(∀x c,X.env.cells.lookup x=some c->c≠b)/\∀p∈X.pn++BF,p.1≠b):
  Inv X BF U H' { s with heap:=h',gens:=g',drawn:=d',toks:=t' }:=by
 obtain⟨m,⟨o,es,ep,ho,r⟩,_⟩:=id I.loc;obtain⟨sl,hL⟩:=u.any ho I.free fun z=>(hch _ z).2.1 rfl;exact I.step (ch:=ch) hch (fun b o hL hb hc e n=>u.keep b o e n (fun z=>(YAT.mp (I.stkSub b z)).elim hL hb) hc) (fun b o _ _ hc e n=>u.any e n hc) (fun b o hc e n=>u.free b o e n hc) (fun b o hc e=>u.there b o e hc) u.tups u.frzs u.tbls (fun m' hm=>by obtain⟨o',es',ep',ho',r'⟩:=hm;rw[ho]at ho';cases ho';exact⟨_,es',ep',hL,r'⟩) hok hg
theorem Inv.turned {t':Nat}{it:AD}(I:Inv X BF U H s)(k:∀b o,b≠it->s.heap.get? b=some o->h'.get? b=some o)(hn:H it=none)(hL:it≠X.env.locals)
  (h1:it∈X.ex\/X.s_0.heap.objs.size<=it) (h2:∀x c,X.env.cells.lookup x=some c->c≠it) (h3:∀p∈X.pn++BF,p.1≠it):Inv X BF U H { s with heap:=h',toks:=t' }:=by
 have nit:∀b u,H b=some u->b≠it:=fun b u e z=>by rw[z,hn]at e;cases e
 refine I.step (g':=s.gens) (d':=s.drawn) (ch:=[it]) (fun b hb=>?_) (fun b o _ _ hc e _=>k b o (fun z=>hc (by simp[z])) e) (fun b o _ _ hc e _=>⟨o.slots,k b o (fun z=>hc (by simp[z])) e⟩) (fun _ _ _ _ n=>n)
  (fun b o hc e=>⟨o,k b o (fun z=>hc (by simp[z])) e⟩) (fun _ _ e=>e) (fun _ _ _ e=>e) (fun b ps e=>⟨#[],by rw[e];simp⟩) (fun m hm=>?_) (fun b u e=>?_) I.bare
 .have e:b=it:=by simpa using hb
  subst e;exact⟨h1,hL,h2,h3⟩
 .obtain⟨o,es,ep,ho,r⟩:=hm;exact⟨o,es,ep,k _ o (YBM hL) ho,r⟩
 .refine(I.hok b u e).stay (fun c v hc q=>k c v ?_ q) (fun _ q=>q) fun _ _ q=>q;rcases hc with z | z
  .rw[z];exact nit b u e
  .exact nit c _ z
theorem Inv.tok (I:Inv X BF U H s)(t:Nat):Inv X BF U H { s with toks:=t }:=I.un (h':=s.heap) (t':=t) Un.refl I.hok
theorem Inv.kept {t':Nat}(I:Inv X BF U H s)(k:∀b u,s.heap.get? b=some u->h'.get? b=some u):Inv X BF U H { s with heap:=h',toks:=t' }:=I.un (Un.kept k) (I.hok.kept k)
theorem Inv.laid {a:AD}{o:HO}{t':Nat}(I:Inv X BF U H s)(k:∀b u,s.heap.get? b=some u->h'.get? b=some u)(hp:s.heap.objs.size<=a)(new:ObjOk X.prog X.w (upd H a o) h' a o):
  Inv X BF U (upd H a o) { s with heap:=h',toks:=t' }:=I.un (Un.laid k hp (I.hok.fresh hp)) (I.hok.laid k hp new)
theorem Inv.write {x e:AD}{o:HO}{t':Nat}(I:Inv X BF U H s)(mu:Mut (H x))(he:e=x\/H e=some (.own x))(k:∀b u,b≠e->s.heap.get? b=some u->h'.get? b=some u)(heo:∃u,h'.get? e=some u)
  (new:ObjOk X.prog X.w (upd H x o) h' x o):Inv X BF U (upd H x o) { s with heap:=h',toks:=t' }:=I.un (Un.write mu he k heo) (I.hok.write mu he k heo new)
theorem Inv.pins_of {pins':AA}(I:Inv X BF U H s)(h:∀p∈pins',s.heap.get? p.1=some p.2/\H p.1=none/\p.1≠X.env.locals/\p.1∉X.fs/\∀v,p.2.data≠.cell v):Inv X pins' U H s:=
 ⟨I.ok,I.os,I.bare,I.base,I.loc,I.cell,I.free,I.freeC,fun p hp=>(YAW.mp hp).elim (fun z=>I.pin p (List.mem_append_left _ z)) (h p),I.hok,I.len⟩
theorem Zev {N:AJ}(hN:N.Nodup){i j:Nat}{x:Str}(a:N[i]?=some x)(b:N[j]?=some x):i=j:=by obtain⟨h1,e1⟩:=YAa.mp a;obtain⟨h2,e2⟩:=YAa.mp b;exact(List.getElem_inj hN).mp (e1.trans e2.symm)
theorem Ze2 {M:Model}{A:AH}{E:Q33}{i:Nat}{x:Str}{v:V}{u:Value}{Q:Unit->AE->Prop}(I:Inv X BF U H s)(hN:X.N.Nodup)(hi:X.N[i]?=some x)(hx:Loc X.env.scope x)(r:RelV v u)
  (h:∀s',Inv X BF (U.set i (some v)) H s'->(∃a,Heap.SameBut a s.heap s'.heap/\(a=X.env.locals\/X.env.cells.lookup x=some a))->Q () s') (hf:X.fn x=true\/X.env.scope.names.lookup x=some .local:=by first | exact .inl rfl | exact .inr rfl | assumption):wpAny M A (storeName X.env x u) Q E s:=by
 obtain⟨m,hn,hl⟩:=id I.loc;have hcls:(X.env.scope.kind == .class || (X.env.scope.kind == .module&&X.env.locals != X.env.globals))=false:=by rw[I.ok.kind];rfl
 have hiU:i<U.length:=by rw[I.len];exact(YAa.mp hi).1
 have cne:=I.cne;have tracked:∀ {a:AD} {h':Heap},(∃o,s.heap.get? a=some o/\H a=none)->Heap.SameBut a s.heap h'->HOk X.prog X.w H h':=fun {a h'} ha hs b ob e=>by
  obtain⟨_,_,hfree⟩:=ha;refine(I.hok b ob e).stay (fun c w' hc q=>(hs.2 c ?_).trans q) (fun _ q=>q) fun _ _ q=>q;rintro rfl;rcases hc with rfl | hc
  .rw[hfree]at e;cases e
  .rw[hfree]at hc;cases hc
 rcases hx with hk | hk
 .refine wpAny_storeName_local hk hn (fun h' hn' hs=>?_) hcls;obtain⟨oL,_,_,hoL,_⟩:=id hn;refine h _ ⟨I.ok,I.os,I.bare,⟨fun b o e n hb hx=>?_,fun b o e n hb hx=>?_,I.base.free,fun b o e hx=>?_,I.base.tups,I.base.frzs,I.base.tbls⟩,⟨_,hn',fun j y v' e1 e2 e3=>?_⟩,fun y c e=>?_,I.free,I.freeC,fun p hp=>?_,tracked ⟨oL,hoL,I.free⟩ hs,by simpa using I.len⟩ ⟨_,hs,.inl rfl⟩
  .exact(hs.2 b (YAf (YAk (YAN e) I.ok.above))).trans (I.base.keep b o e n hb hx)
  .obtain⟨sl,e1⟩:=I.base.slot b o e n hb hx;exact⟨sl,(hs.2 b (YAf (YAk (YAN e) I.ok.above))).trans e1⟩
  .obtain⟨o',e1⟩:=I.base.there b o e hx;exact⟨o',(hs.2 b (YAf (YAk (YAN e) I.ok.above))).trans e1⟩
  .by_cases hj:j=i
   .subst hj;rw[hi]at e1;cases e1;rw[List.getElem?_set_self hiU]at e2;cases e2;exact⟨u,r,.inl ⟨hk,by simp⟩⟩
   .rw[List.getElem?_set_ne (YBM hj)]at e2;obtain⟨u',r',q⟩:=hl j y v' e1 e2 e3;refine⟨u',r',?_⟩;rcases q with⟨k,e⟩|⟨k,c,e,z⟩
    .refine .inl ⟨k,?_⟩;have:y≠x:=fun e=>hj (Zev hN e1 (e▸hi));simp[this,e]
    .exact .inr ⟨k,c,e,z.sameBut hs (cne y c e)⟩
  .obtain⟨w',z⟩:=I.cell y c e;exact⟨w',z.sameBut hs (cne y c e)⟩
  .obtain⟨e,n,ne,nf,d⟩:=I.pin p hp;exact⟨(hs.2 p.1 ne).trans e,n,ne,nf,d⟩
 .have hfn:X.fn x=true:=by
   rcases hf with z | z
   .exact z
   .rw[z]at hk;cases hk
  obtain⟨c,hc⟩:=I.ok.has x (.inl hk);obtain⟨w',z⟩:=I.cell x c hc;refine wpAny_storeName_cell I.ok.kind hk hc z (fun h' hc' hs=>?_);obtain⟨oc,hoc,hocd⟩:=id z;refine h { s with heap:=h' } ⟨I.ok,I.os,I.bare,⟨fun b o e n hb hx=>?_,fun b o e n hb hx=>?_,I.base.free,fun b o e hx=>?_,I.base.tups,I.base.frzs,I.base.tbls⟩,⟨m,hn.sameBut hs (YBM (cne x c hc)),fun j y v' e1 e2 e3=>?_⟩,fun y c' e=>?_,I.free,I.freeC,fun p hp=>?_,tracked ⟨oc,hoc,I.freeC x c hc⟩ hs,by simpa using I.len⟩ ⟨c,hs,.inr hc⟩
  .exact(hs.2 b (YAf (YAk (YAN e) (I.ok.cab x c hfn hc)))).trans (I.base.keep b o e n hb hx)
  .obtain⟨sl,e1⟩:=I.base.slot b o e n hb hx;exact⟨sl,(hs.2 b (YAf (YAk (YAN e) (I.ok.cab x c hfn hc)))).trans e1⟩
  .obtain⟨o',e1⟩:=I.base.there b o e hx;exact⟨o',(hs.2 b (YAf (YAk (YAN e) (I.ok.cab x c hfn hc)))).trans e1⟩
  .by_cases hj:j=i
   .subst hj;rw[hi]at e1;cases e1;rw[List.getElem?_set_self hiU]at e2;cases e2;exact⟨u,r,.inr ⟨.inl hk,c,hc,hc'⟩⟩
   .rw[List.getElem?_set_ne (YBM hj)]at e2;obtain⟨u',r',q⟩:=hl j y v' e1 e2 e3;refine⟨u',r',?_⟩;rcases q with q | ⟨k,c',e,z'⟩
    .exact .inl q
    .refine .inr ⟨k,c',e,z'.sameBut hs ?_⟩;rintro rfl;exact hj (Zev hN e1 (I.ok.inj _ _ _ e hc▸hi))
  .by_cases hcc:c'=c
   .subst hcc;exact⟨_,hc'⟩
   .obtain⟨w2,z2⟩:=I.cell y c' e;exact⟨w2,z2.sameBut hs hcc⟩
  .obtain⟨e,n,ne,nf,d⟩:=I.pin p hp;refine⟨(hs.2 p.1 ?_).trans e,n,ne,nf,d⟩;intro q;rw[q,hoc]at e;have q':oc=p.2:=Option.some.inj e;exact d w' (by rw[<-q'];exact hocd)
theorem Zb7 {M:Model}{A:AH}{E:Q33}{i:Nat}{x:Str}{v:V}{u:Value}{Q:Unit->AE->Prop}(I:Inv X BF U H s)(hN:X.N.Nodup)(hi:X.N[i]?=some x)(hx:Loc X.env.scope x)(r:RelV v u)
  (h:∀s',Inv X BF (U.set i (some v)) H s'->Q () s') (hf:X.fn x=true\/X.env.scope.names.lookup x=some .local:=by first | exact .inl rfl | exact .inr rfl | assumption):wpAny M A (storeName X.env x u) Q E s:=
 Ze2 I hN hi hx r (fun s' I' _=>h s' I') hf
theorem Inv.call' {s':AE}{ch:List AD}(I:Inv X BF U H s)(ho:s'.os=s.os)(u:Un (frs X.stack) ch H H' s.heap s'.heap)(hok:HOk X.prog X.w H' s'.heap)(hg:AllBare s'.gens)
  (hch:∀b∈ch,(b∈X.ex\/X.s_0.heap.objs.size<=b)/\b≠X.env.locals/\(∀x c,X.env.cells.lookup x=some c->c≠b)/\∀p∈X.pn++BF,p.1≠b):Inv X BF U H' s':=by
 obtain⟨h',g',d',t',o'⟩:=s';have e:o'=s.os:=ho;subst e;exact I.call (g':=g') (t':=t') (d':=d') u hok hg hch
end
abbrev XK:=Value->Option AD->Hp->Prop
abbrev St:=List (Option V)
abbrev VK:=V->Hp->Prop
abbrev TE:=St->Hp->VK->Prop
abbrev TT:=St->Hp->(Bool->Hp->Prop)->Prop
abbrev TA:=St->Hp->(List V->Hp->Prop)->Prop
structure Ends where
 nx:St->Hp->Prop
 rt:VK
 bk:St->Hp->Prop:=fun _ _=>False
 ct:St->Hp->Prop:=fun _ _=>False
abbrev TS:=Ends->St->Hp->Prop
def EP (X:Cx)(BF:AA)(U:St)(Q:VK)(u:Value)(s':AE):Prop:=∃v H',Inv X BF U H' s'/\RelV v u/\Q v H'
def TP (X:Cx)(BF:AA)(U:St)(Q:Bool->Hp->Prop)(b:Bool)(s':AE):Prop:=∃H',Inv X BF U H' s'/\Q b H'
def AP (X:Cx)(BF:AA)(U:St)(Q:List V->Hp->Prop)(us:AC)(s':AE):Prop:=∃vs H',Inv X BF U H' s'/\Vals vs us/\Q vs H'
def SP (X:Cx)(BF:AA)(D:Ends)(f:Flow)(s':AE):Prop:=
 match f with
 | .next=>∃U' H',Inv X BF U' H' s'/\D.nx U' H'
 | .brk=>∃U' H',Inv X BF U' H' s'/\D.bk U' H'
 | .cont=>∃U' H',Inv X BF U' H' s'/\D.ct U' H'
 | .ret u=>∃v U' H',Inv X BF U' H' s'/\RelV v u/\D.rt v H'
def PE (X:Cx)(e:Expr)(t:TE):Prop:=
 ∀(BF:AA) (s:AE) (U:St) (H:Hp) (Q:VK),Inv X BF U H s->t U H Q->wpAny (model X.prog X.w) X.A (eval e X.env) (EP X BF U Q) X.xe s
def PT (X:Cx)(e:Expr)(t:TT):Prop:=
 ∀(BF:AA) (s:AE) (U:St) (H:Hp) (Q:Bool->Hp->Prop),Inv X BF U H s->t U H Q->wpAny (model X.prog X.w) X.A (isTrue e X.env (eval e X.env)) (TP X BF U Q) X.xe s
def PW (X:Cx)(e:Expr)(t:TT):Prop:=
 ∀(whole:Sem Value) (BF:AA) (s:AE) (U:St) (H:Hp) (Q:Bool->Hp->Prop),Inv X BF U H s->t U H Q->wpAny (model X.prog X.w) X.A (isTrue e X.env whole) (TP X BF U Q) X.xe s
theorem PW.pt {X:Cx}{e:Expr}{t:TT}(h:PW X e t):PT X e t:=h _
def PA (X:Cx)(es:List Expr)(t:TA):Prop:=
 ∀(pos:Pos) (BF:AA) (s:AE) (U:St) (H:Hp) (Q:List V->Hp->Prop),Inv X BF U H s->t U H Q->wpAny (model X.prog X.w) X.A (spliced (backTo pos (starEach es X.env))) (AP X BF U Q) X.xe s
def PS (X:Cx)(st:Stmt)(t:TS):Prop:=
 ∀(BF:AA) (s:AE) (U:St) (H:Hp) (D:Ends),Inv X BF U H s->t D U H->wpAny (model X.prog X.w) X.A (exec st X.env) (SP X BF D) X.xe s
def PSs (X:Cx)(st:List Stmt)(t:TS):Prop:=
 ∀(BF:AA) (s:AE) (U:St) (H:Hp) (D:Ends),Inv X BF U H s->t D U H->wpAny (model X.prog X.w) X.A (execs st X.env) (SP X BF D) X.xe s
theorem thn {α:Type}{t:Sem α}{Q Q':α->AE->Prop}{M:Model}{A:AH}{E:Q33}{s:AE}(h:wpAny M A t Q E s)(hQ:∀a s,Q a s->Q' a s):wpAny M A t Q' E s:=YBB h hQ fun _ _ x=>x
section
variable {X:Cx}
theorem bin {a b:Expr}{ta tb:TE}(ha:PE X a ta)(hb:PE X b tb){BF:AA}{s:AE}{U:St}{H:Hp}{R:V->V->Hp->Prop}(I:Inv X BF U H s)(h:ta U H fun x H1=>tb U H1 fun y H2=>R x y H2)
  {α:Type} {Q:α->AE->Prop} {f:Value->Value->Sem α}
  (hf:∀v u s2 x y H2,Inv X BF U H2 s2->RelV x v->RelV y u->R x y H2->wpAny (model X.prog X.w) X.A (f v u) Q X.xe s2):
  wpAny (model X.prog X.w) X.A (eval a X.env) (fun v s_1=>wpAny (model X.prog X.w) X.A (eval b X.env) (fun u s_2=>wpAny (model X.prog X.w) X.A (f v u) Q X.xe s_2) X.xe s_1) X.xe s:=by
 refine thn (ha BF s U H _ I h) fun v s1 zz=>?_;obtain⟨x,H1,I1,r1,q1⟩:=zz;refine thn (hb BF s1 U H1 _ I1 q1) fun u s2 zz=>?_;obtain⟨y,H2,I2,r2,q2⟩:=zz;exact hf v u s2 x y H2 I2 r1 r2 q2
def tVar (i:Nat):TE:=fun U H Q=>∃v,U[i]?=some (some v)/\Q v H
def tC (v:V):TE:=fun _ H Q=>Q v H
theorem Zni {i:Nat} {x:Str} {pos:Pos} (hN:X.N[i]?=some x) (hv:Vis X.env.scope x) (hd:(x == ("__debug__":Str))=false:=by decide) (hcd:(x == ("__classdict__":Str))=false:=by decide):PE X (.Name x pos) (tVar i):=by
 intro BF s U H Q I h;obtain⟨v,e,h⟩:=h;obtain⟨m,hn,hl⟩:=I.loc;obtain⟨u,r,l⟩:=hl i x v hN e hv;have fin:EP X BF U Q u s:=⟨v,H,I,r,h⟩;rcases l with⟨hk,hm⟩|⟨hk,c,hc,hcell⟩
 .exact wpAny_Name (wpAny_loadName_local I.ok.kind hk hn hm fin) hd
 .rcases hk with hk | hk
  .exact wpAny_Name (wpAny_loadName_cell I.ok.kind hk hc hcell fin) hd
  .exact wpAny_Name (wpAny_loadName_free I.ok.kind hk hc hcell fin hcd) hd
theorem Zad {i j pos}:PE X (.Constant (.int i) j pos) (tC (.int i)):=fun _ _ _ H _ I h=>wpAny_Constant_int ⟨.int i,H,I.tok _,⟨_,rfl⟩,h⟩
theorem Zc5 {b j pos}:PE X (.Constant (.bool b) j pos) (tC (.bl b)):=fun _ _ _ H _ I h=>Constant_bool ⟨.bl b,H,I,rfl,h⟩
theorem Znj {x j pos}:PE X (.Constant (.str x) j pos) (tC (.str x)):=fun _ _ _ H _ I h=>Calls.Constant_str ⟨.str x,H,I.tok _,⟨_,rfl⟩,h⟩
def Gl (X:Cx)(x:Str):Prop:=X.env.kindOf x=some .globalImplicit
theorem Zco {E:Q33}{BF:AA}{s:AE}{U:St}{H:Hp}{x:Str}{u:Value}{pos:Pos}{Q:Q33}(I:Inv X BF U H s)(hg:Gl X x)(hm:X.mg x=some u)(h:Q u s)
  (hd:(x == ("__debug__":Str))=false:=by decide):wpAny (model X.prog X.w) X.A (eval (.Name x pos) X.env) Q E s:=
 Calls.Name_function_global I.ok.kind hg (Calls.loadGlobal_global (by rw[I.ok.glob];exact I.mod.glob.keeps I.bk) hm h) hd
theorem Zdy {E:Q33}{BF:AA}{s:AE}{U:St}{H:Hp}{x:Str}{u:Value}{pos:Pos}{Q:Q33}(I:Inv X BF U H s)(hg:Gl X x)(hm:X.mg x=none)(hv:bootBuiltins x=some u)(h:Q u s)
  (hn:x≠"__name__":=by decide) (hd:(x == ("__debug__":Str))=false:=by decide):wpAny (model X.prog X.w) X.A (eval (.Name x pos) X.env) Q E s:=by
 obtain⟨mb,h1,h2⟩:=I.mod.blt;exact Calls.Name_function_global I.ok.kind hg (Calls.loadGlobal_builtin (by rw[I.ok.glob];exact I.mod.glob.keeps I.bk) hm (by rw[I.ok.blt];exact h1.keeps I.bk) ((h2 x hn).trans hv) h) hd
theorem Zgc {x:Str} {v:V} {u:Value} {pos:Pos} (hg:Gl X x) (hm:X.mg x=some u) (r:RelV v u) (hd:(x == ("__debug__":Str))=false:=by decide):PE X (.Name x pos) (tC v):=
 fun _ _ _ H _ I h=>Zco I hg hm ⟨v,H,I,r,h⟩ hd
theorem ZcQ {x:Str} {v:V} {u:Value} {pos:Pos} (hg:Gl X x) (hm:X.mg x=none) (hv:bootBuiltins x=some u) (r:RelV v u) (hn:x≠"__name__":=by decide) (hd:(x == ("__debug__":Str))=false:=by decide):PE X (.Name x pos) (tC v):=
 fun _ _ _ H _ I h=>Zdy I hg hm hv ⟨v,H,I,r,h⟩ hn hd
variable {a b:Expr}{ta tb:TE}{pos:Pos}
def PC (X:Cx)(op:CmpOp)(a b:Expr)(t:TE):Prop:=
 ∀(BF:AA) (s:AE) (U:St) (H:Hp) (Q:VK),Inv X BF U H s->t U H Q ->
  wpAny (model X.prog X.w) X.A (eval a X.env) (fun v s_1=>wpAny (model X.prog X.w) X.A (eval b X.env) (fun u s_2=>wpAny (model X.prog X.w) X.A (compareOp op v u) (EP X BF U Q) X.xe s_2) X.xe s_1) X.xe s
theorem ZjW (b:Expr){op:CmpOp}(h:op≠.In)(h2:op≠.NotIn):behindInMarks op b=false:=by
 have e1:(op == CmpOp.In)=false:=by cases op<;>first | rfl | exact absurd rfl h
 have e2:(op == CmpOp.NotIn)=false:=by cases op<;>first | rfl | exact absurd rfl h2
 cases b<;>simp[behindInMarks,e1,e2]
def tB (t:TE):TT:=fun U H Q=>t U H fun x H1=>∃c,x=.bl c/\Q c H1
theorem ZkJ {op:CmpOp}{t:TE}(h:PC X op a b t)(h1:behindInMarks op b=false:=by first | exact ZjW _ (by decide) (by decide) | rfl):PT X (.Compare a [op] [b] pos) (tB t):=by intro BF s U H Q I hw;refine wpAny_isTrue_Compare1 (thn (h BF s U H _ I hw) fun v s1 h1=>thn h1 fun u s2 h2=>thn h2 fun c s3 zz=>?_) h1;obtain⟨x,H1,I1,r1,q1⟩:=zz;obtain⟨d,rfl,q⟩:=q1;cases r1;exact YCF ⟨H1,I1,q⟩
theorem Zch {e:Expr}{t:TE}(h:PE X e t)(he:∀whole,isTrue e X.env whole=(do let v <-whole;standAt e.pos;holding [v] (truthy v)):=by intro _;rfl):PT X e (tB t):=by intro BF s U H Q I hw;refine isTrue_plain (thn (h BF s U H _ I hw) fun v s1 zz=>?_) (he _);obtain⟨x,H1,I1,r1,q1⟩:=zz;obtain⟨d,rfl,q⟩:=q1;cases r1;exact YCF ⟨H1,I1,q⟩
variable {tA tB':TT}{rest:List Expr}
def tAnd (t u:TT):TT:=fun U H Q=>t U H fun c H1=>if c=true then u U H1 Q else Q false H1
def tOr (t u:TT):TT:=fun U H Q=>t U H fun c H1=>if c=true then Q true H1 else u U H1 Q
def tNot (t:TT):TT:=fun U H Q=>t U H fun c H1=>Q (!c) H1
theorem Zga (ha:PT X a tA):PW X (.BoolOp .And [a] pos) tA:=by
 intro wh BF s U H Q I h;refine isTrue_and (thn (ha BF s U H Q I h) fun c s1 e=>?_);cases c with
 | true=>exact isTrue_and_nil e
 | false=>exact e
theorem Zfe (ha:PT X a tA):PW X (.BoolOp .Or [a] pos) tA:=by
 intro wh BF s U H Q I h;refine isTrue_or (thn (ha BF s U H Q I h) fun c s1 e=>?_);cases c with
 | false=>exact isTrue_or_nil e
 | true=>exact e
theorem Zim (ha:PT X a tA)(hb:PW X (.BoolOp .And (b::rest) pos) tB'):PW X (.BoolOp .And (a::b::rest) pos) (tAnd tA tB'):=by
 intro wh BF s U H Q I h;refine isTrue_and (thn (ha BF s U H _ I h) fun c s1 zz=>?_);obtain⟨H1,I1,q1⟩:=zz;cases c with
 | true=>exact hb wh BF s1 U H1 Q I1 q1
 | false=>exact⟨H1,I1,q1⟩
theorem Zil (ha:PT X a tA)(hb:PW X (.BoolOp .Or (b::rest) pos) tB'):PW X (.BoolOp .Or (a::b::rest) pos) (tOr tA tB'):=by
 intro wh BF s U H Q I h;refine isTrue_or (thn (ha BF s U H _ I h) fun c s1 zz=>?_);obtain⟨H1,I1,q1⟩:=zz;cases c with
 | true=>exact⟨H1,I1,q1⟩
 | false=>exact hb wh BF s1 U H1 Q I1 q1
theorem Zcu (ha:PT X a tA):PT X (.UnaryOp .Not a pos) (tNot tA):=by intro BF s U H Q I h;exact isTrue_not (ha BF s U H (fun c H1=>Q (!c) H1) I h)
def ZmT (ta tb:TE):TE:=fun U H Q=>ta U H fun x H1=>∃c,x=.bl c/\if c=true then tb U H1 Q else Q (.bl false) H1
def ZmG (ta:TE):TE:=fun U H Q=>ta U H fun x H1=>∃c,x=.bl c/\Q (.bl (!c)) H1
theorem ZcZ {op}{t:TE}(h:PE X a t):PE X (.BoolOp op [a] pos) t:=fun BF s U H Q I hw=>BoolOp_one (h BF s U H Q I hw)
theorem Zci (ha:PE X a ta)(hb:PE X (.BoolOp .And (b::rest) pos) tb):PE X (.BoolOp .And (a::b::rest) pos) (ZmT ta tb):=by
 intro BF s U H Q I h;refine BoolOp_and (thn (ha BF s U H _ I h) fun v s1 zz=>?_);obtain⟨x,H1,I1,r1,q1⟩:=zz;obtain⟨c,rfl,q1⟩:=q1;cases r1;refine YCF ?_;cases c with
 | true=>exact hb BF s1 U H1 Q I1 q1
 | false=>exact⟨.bl false,H1,I1,rfl,q1⟩
theorem Znk (ha:PE X a ta):PE X (.UnaryOp .Not a pos) (ZmG ta):=by intro BF s U H Q I h;refine UnaryOp_ (thn (ha BF s U H _ I h) fun v s1 zz=>?_);obtain⟨x,H1,I1,r1,q1⟩:=zz;obtain⟨c,rfl,q1⟩:=q1;cases r1;exact not_of (YCF ⟨.bl (!c),H1,I1,rfl,q1⟩)
def tIf (t:TT)(ta tb:TE):TE:=fun U H Q=>t U H fun c H1=>if c=true then ta U H1 Q else tb U H1 Q
theorem ZjP {c:Expr}(hc:PT X c tA)(ha:PE X a ta)(hb:PE X b tb):PE X (.IfExp c a b pos) (tIf tA ta tb):=by
 intro BF s U H Q I h;refine wpAny_IfExp (thn (hc BF s U H _ I h) fun d s1 zz=>?_);obtain⟨H1,I1,q1⟩:=zz;cases d with
 | true=>exact ha BF s1 U H1 Q I1 q1
 | false=>exact hb BF s1 U H1 Q I1 q1
end
def SqL (K:Q4)(H:Hp)(a:AD)(xs:List V):Prop:=
 Rd H a (.lst xs) \/
  ∃(o:Obj) (its:Array Value) (n:Nat),K.lookup a=some o/\o.cls=.type "list"/\o.dict=none/\o.data=.seq its n/\its.size<=sizeLine/\Vals xs its.toList
def SqT (K:Q4)(H:Hp)(a:AD)(xs:List V):Prop:=
 Rd H a (.tup xs) \/
  ∃(o:Obj) (its:Array Value) (n:Nat),K.lookup a=some o/\o.cls=.type "tuple"/\o.data=.seq its n/\its.size<=sizeLine/\Vals xs its.toList
noncomputable def absV:Value->Option V
 | .none=>some .non
 | .bool b=>some (.bl b)
 | .int i _=>some (.int i)
 | .str x _=>some (.str x)
 | .bytes b _=>some (.byt b)
 | .float b _=>some (.flt b)
 | .ref a=>some (.ref a)
 | .type n=>some (.ty n)
 | _=>none
theorem RelV.abs {x:V}{u:Value}(r:RelV x u):absV u=some x:=by
 cases x with
 | non=>cases r;rfl
 | bl _=>cases r;rfl
 | int _=>obtain⟨t,rfl⟩:=r;rfl
 | str _=>obtain⟨t,rfl⟩:=r;rfl
 | byt _=>obtain⟨t,rfl⟩:=r;rfl
 | flt _=>obtain⟨t,rfl⟩:=r;rfl
 | ref _=>cases r;rfl
 | ty _=>cases r;rfl
theorem RelV.inj {x y:V}{u:Value}(r:RelV x u)(q:RelV y u):x=y:=Option.some.inj (r.abs.symm.trans q.abs)
theorem Vals.inj:∀ {xs ys:List V} {us:AC},Vals xs us->Vals ys us->xs=ys
 | _,_,_,.nil,.nil=>rfl
 | _,_,_,.cons r t,.cons r' t'=>by rw[r.inj r',Vals.inj t t']
section
variable {X:Cx}{BF:AA}{U:St}{H:Hp}{s:AE}{a:AD}{xs ys:List V}
theorem Inv.list (I:Inv X BF U H s)(h:SqL X.K H a xs):∃its:AC,Vals xs its/\PlainL s.heap a its.toArray/\xs.length<=sizeLine:=by
 rcases h with h | ⟨o,its,n,hk,hc,hd,hs,hz,r⟩
 .obtain⟨z,its,n,r,e⟩:=h.ok I.hok;exact⟨its,r,⟨_,n,e,rfl,rfl,rfl⟩,z⟩
 .refine⟨its.toList,r,⟨o,n,I.kIn a o hk,hc,hd,by simpa using hs⟩,?_⟩;have e:=r.length;simp only[YAG]at e;omega
theorem Inv.tuple (I:Inv X BF U H s)(h:SqT X.K H a xs):∃its:AC,Vals xs its/\IsTup s.heap a its.toArray/\xs.length<=sizeLine:=by
 rcases h with h | ⟨o,its,n,hk,hc,hs,hz,r⟩
 .obtain⟨z,its,r,p⟩:=h.ok I.hok;exact⟨its,r,p,z⟩
 .refine⟨its.toList,r,⟨o,I.kIn a o hk,hc,n,by simpa using hs⟩,?_⟩;have e:=r.length;simp only[YAG]at e;omega
theorem Inv.list_inj (I:Inv X BF U H s)(h:SqL X.K H a xs)(h':SqL X.K H a ys):xs=ys:=by
 obtain⟨its,r,⟨o,n,e,_,_,d⟩,_⟩:=I.list h;obtain⟨its',r',⟨o',n',e',_,_,d'⟩,_⟩:=I.list h';rw[e]at e';cases e';rw[d]at d';injection d' with d1 _;have:its=its':=by simpa using congrArg Array.toList d1
 subst this;exact r.inj r'
theorem Inv.tuple_inj (I:Inv X BF U H s)(h:SqT X.K H a xs)(h':SqT X.K H a ys):xs=ys:=by
 obtain⟨its,r,⟨o,e,_,n,d⟩,_⟩:=I.tuple h;obtain⟨its',r',⟨o',e',_,n',d'⟩,_⟩:=I.tuple h';rw[e]at e';cases e';rw[d]at d';injection d' with d1 _;have:its=its':=by simpa using congrArg Array.toList d1
 subst this;exact r.inj r'
end
noncomputable abbrev Cx.wish (X:Cx)(E:Q33):Cx:={ X with xe:=E }
noncomputable abbrev Cx.nox (X:Cx):Cx:=X.wish fun _ _=>False
theorem Cx.Ok.wish {X:Cx}(ok:X.Ok)(E:Q33):(X.wish E).Ok:=
 ⟨ok.mod,ok.kind,ok.glob,ok.blt,ok.above,ok.inj,ok.has,ok.cab,ok.hd,ok.frames,ok.stk,ok.exf,ok.bs,ok.bsz,ok.noex,ok.exfs,ok.funs,ok.frf⟩
theorem Cx.Ok.unwish {X:Cx}{E:Q33}(ok:(X.wish E).Ok):X.Ok:=
 ⟨ok.mod,ok.kind,ok.glob,ok.blt,ok.above,ok.inj,ok.has,ok.cab,ok.hd,ok.frames,ok.stk,ok.exf,ok.bs,ok.bsz,ok.noex,ok.exfs,ok.funs,ok.frf⟩
section
variable {X:Cx}{BF:AA}{U:St}{H:Hp}{s:AE}{E:Q33}
theorem Inv.wish (I:Inv X BF U H s)(E:Q33):Inv (X.wish E) BF U H s:=⟨I.ok.wish E,I.os,I.bare,I.base,I.loc,I.cell,I.free,I.freeC,I.pin,I.hok,I.len⟩
theorem Inv.unwish (I:Inv (X.wish E) BF U H s):Inv X BF U H s:=⟨I.ok.unwish,I.os,I.bare,I.base,I.loc,I.cell,I.free,I.freeC,I.pin,I.hok,I.len⟩
theorem SP.unwish {D:Ends}{f:Flow}{s':AE}(h:SP (X.wish E) BF D f s'):SP X BF D f s':=by
 cases f with
 | next=>obtain⟨U',H',I,q⟩:=h;exact⟨U',H',I.unwish,q⟩
 | brk=>obtain⟨U',H',I,q⟩:=h;exact⟨U',H',I.unwish,q⟩
 | cont=>obtain⟨U',H',I,q⟩:=h;exact⟨U',H',I.unwish,q⟩
 | ret u=>obtain⟨v,U',H',I,r,q⟩:=h;exact⟨v,U',H',I.unwish,r,q⟩
theorem PSs.nox {st:List Stmt}{t:TS}(h:PSs X.nox st t):PSs X st t:=fun BF s U H D I hw=>
 YBB (h BF s U H D (I.wish _) hw) (fun _ _ q=>q.unwish) fun _ _ z=>False.elim z
end
section
variable {X:Cx}{st:Stmt}{rest:List Stmt}{t u:TS}{e:Expr}{te:TE}{pos:Pos}
def tNext:TS:=fun D U H=>D.nx U H
def tSeq (t u:TS):TS:=fun D U H=>t { D with nx:=u D } U H
theorem ZaD:PSs X [] tNext:=fun _ _ U H _ I h=>YDA ⟨U,H,I,h⟩
theorem Zab (h1:PS X st t)(h2:PSs X rest u):PSs X (st::rest) (tSeq t u):=by
 intro BF s U H D I h;refine wpAny_execs_cons (thn (h1 BF s U H { D with nx:=u D } I h) fun f s1 q=>?_);cases f with
 | next=>
  obtain⟨U',H',I',q⟩:=q;exact h2 BF s1 U' H' D I' q
 | ret v=>exact q
 | brk=>exact q
 | cont=>exact q
theorem Zae (h1:PS X st t):PSs X [st] t:=by
 intro BF s U H D I h;refine wpAny_execs_cons (thn (h1 BF s U H D I h) fun f s1 q=>?_);cases f with
 | next=>exact YDA q
 | ret v=>exact q
 | brk=>exact q
 | cont=>exact q
theorem Inv.quiet {BF:AA}{U:St}{H:Hp}{s:AE}(I:Inv X BF U H s):interactive X.env=false:=by simp[interactive,I.ok.kind]
def ZmL (te:TE):TS:=fun D U H=>te U H fun _ H1=>D.nx U H1
theorem ZaR (he:PE X e te)(hs:swapsWith e none pos.line X.env=pure false:=by rfl):PS X (.Expr e pos) (ZmL te):=by intro BF s U H D I h;exact wpAny_Expr_any (thn (he BF s U H _ I h) fun v s1 ⟨x,H1,I1,r1,q1⟩=>⟨U,H1,I1,q1⟩) I.quiet hs
def tRet (te:TE):TS:=fun D U H=>te U H D.rt
theorem Zaq (he:PE X e te):PS X (.Return (some e) pos) (tRet te):=by intro BF s U H D I h;exact wpAny_Return_some (thn (he BF s U H _ I h) fun v s1 ⟨x,H1,I1,r1,q1⟩=>⟨x,U,H1,I1,r1,q1⟩)
def tIfS (c:TT)(t u:TS):TS:=fun D U H=>c U H fun b H1=>if b=true then t D U H1 else u D U H1
theorem Zbh {c:Expr}{a b:List Stmt}{tc:TT}(hc:PT X c tc)(ha:PSs X a t)(hb:PSs X b u):PS X (.If c a b pos) (tIfS tc t u):=by
 intro BF s U H D I h;refine wpAny_If (thn (hc BF s U H _ I h) fun d s1 zz=>?_);obtain⟨H1,I1,q1⟩:=zz;cases d with
 | true=>exact ha BF s1 U H1 D I1 q1
 | false=>exact hb BF s1 U H1 D I1 q1
end
abbrev TG:=V->St->Hp->(St->Hp->Prop)->Prop
abbrev TGs:=List V->St->Hp->(St->Hp->Prop)->Prop
def PG (X:Cx)(target:Expr)(t:TG):Prop:=
 ∀(BF:AA) (s:AE) (U:St) (H:Hp) (v:V) (u:Value) (Q:St->Hp->Prop),Inv X BF U H s->RelV v u->t v U H Q ->
  wpAny (model X.prog X.w) X.A (assign target X.env u) (fun _ s'=>∃U' H',Inv X BF U' H' s'/\Q U' H') X.xe s
def PGs (X:Cx)(ts:List Expr)(t:TGs):Prop:=
 ∀(BF:AA) (s:AE) (U:St) (H:Hp) (vs:List V) (us:AC) (Q:St->Hp->Prop),Inv X BF U H s->Vals vs us->t vs U H Q ->
  wpAny (model X.prog X.w) X.A (assignInOrder ((assignEach ts X.env).map (·.2)) us) (fun _ s'=>∃U' H',Inv X BF U' H' s'/\Q U' H') X.xe s
abbrev TIp:=V->V->Hp->VK->Prop
section
variable {X:Cx}{pos:Pos}
def ZbW (i:Nat):TG:=fun v U H Q=>Q (U.set i (some v)) H
theorem Zau {i:Nat}{x:Str}(hN:X.N.Nodup)(hi:X.N[i]?=some x)(hx:Loc X.env.scope x)(hf:X.fn x=true\/X.env.scope.names.lookup x=some .local:=by first | exact .inl rfl | exact .inr rfl | assumption):PG X (.Name x pos) (ZbW i):=by intro BF s U H v u Q I r h;exact wpAny_assign_Name (Zb7 I hN hi hx r (fun s' I'=>⟨_,H,I',h⟩) hf)
def gNil:TGs:=fun vs U H Q=>vs=[]/\Q U H
def Zon (t:TG)(u:TGs):TGs:=fun vs U H Q=>∃v r,vs=v::r/\t v U H fun U' H'=>u r U' H' Q
theorem ZlB:PGs X [] gNil:=by intro BF s U H vs us Q I r h;obtain⟨e,h⟩:=h;subst e;cases r;exact assignInOrder_nil ⟨U,H,I,h⟩
theorem ZgO {e:Expr}{es:List Expr}{t:TG}{u:TGs}(h1:PG X e t)(h2:PGs X es u)
  (hs:(assignEach (e::es) X.env).map (·.2)=assign e X.env::(assignEach es X.env).map (·.2):=by rfl):PGs X (e::es) (Zon t u):=by
 intro BF s U H vs us Q I r h;obtain⟨v,vr,e1,h⟩:=h;subst e1;cases r with
 | cons r rr=>
  rw[hs];refine assignInOrder_cons (thn (h1 BF s U H _ _ _ I r h) fun _ s1 zz=>?_);obtain⟨U1,H1,I1,q1⟩:=zz;exact h2 BF s1 U1 H1 _ _ Q I1 rr q1
def gTup (K:Q4)(n:Nat)(t:TGs):TG:=fun v U H Q=>∃a xs,v=.ref a/\SqT K H a xs/\xs.length=n/\t xs U H Q
theorem Znh {es:List Expr}{k:Nat}{t:TGs}{n:Nat}(hc:X.calm=true)(h:PGs X es t)
  (hn:(assignEach es X.env).length=n:=by rfl) (hst:(assignEach es X.env).findIdx? (·.1)=none:=by rfl):PG X (.Tuple es k pos) (gTup X.K n t):=by
 intro BF s U H v u Q I r hw;obtain⟨a,xs,e1,hq,hl,hw⟩:=hw;subst e1;cases r;obtain⟨its,rv,ht,hz⟩:=I.tuple hq;refine assign_Tuple_tuple (I.ok.hd hc) ht (by simp[hn,<-hl,rv.length]) hst fun h' hx=>?_;have I1:Inv X BF U H { s with heap:=h' }:=I.kept (t':=s.toks) fun b o e=>hx b o (YAf (YAN e)) e;exact h BF _ U H xs _ Q I1 (by simpa using rv) hw
def tAsg (te:TE)(g:TG):TS:=fun D U H=>te U H fun x H1=>g x U H1 D.nx
theorem Zao {i:Nat}{x:Str}{e:Expr}{te:TE}{pos':Pos}(hN:X.N.Nodup)(hi:X.N[i]?=some x)(hx:Loc X.env.scope x)(he:PE X e te)(hs:swapsWith e (some (.Name x pos')) pos.line X.env=pure false:=by rfl)(hf:X.fn x=true\/X.env.scope.names.lookup x=some .local:=by first | exact .inl rfl | exact .inr rfl | assumption):
  PS X (.Assign [.Name x pos'] e pos) (tAsg te (ZbW i)):=by
 intro BF s U H D I h;refine wpAny_Assign_Name (thn (he BF s U H _ I h) fun v s1 zz=>?_) hs;obtain⟨y,H1,I1,r1,q1⟩:=zz;exact Zb7 I1 hN hi hx r1 (fun s2 I2=>⟨_,H1,I2,q1⟩) hf
def tPar (i j:Nat)(ta:TA):TS:=fun D U H=>ta U H fun vs H1=>∃v w,vs=[v,w]/\D.nx ((U.set i (some v)).set j (some w)) H1
theorem Znf {i j:Nat}{x y:Str}{a b:Expr}{ta:TA}{px py pt:Pos}{kt k2 pt2}(hc:X.calm=true)(hN:X.N.Nodup)(hi:X.N[i]?=some x)(hj:X.N[j]?=some y)(hij:i≠j)
  (hx:X.env.scope.names.lookup x=some .local) (hy:X.env.scope.names.lookup y=some .local) (ha:PA X [a,b] ta)
  (hw:swappedStores [.Tuple [.Name x px,.Name y py] kt pt] (.Tuple [a,b] k2 pt2) X.env=pure (some [x,y]))
  (hs:swapsWithSole [.Tuple [.Name x px,.Name y py] kt pt] (.Tuple [a,b] k2 pt2) pos.line X.env=pure false:=by rfl):
  PS X (.Assign [.Tuple [.Name x px,.Name y py] kt pt] (.Tuple [a,b] k2 pt2) pos) (tPar i j ta):=by
 intro BF s U H D I h;rw[exec_Assign_arm];refine YAA (YCz ?_);rw[hs];refine YAA (YAD ?_);rw[YAI (by decide)];refine YAA (Tuple_ (thn (ha _ BF s U H _ I h) fun us s1 zz=>?_));obtain⟨vs,H1,I1,r1,q1⟩:=zz;obtain⟨v,w,e1,q1⟩:=q1;subst e1;obtain⟨u1,u2,rfl,rv,rw'⟩:∃u1 u2,us=[u1,u2]/\RelV v u1/\RelV w u2:=by
  cases r1 with
  | cons p q=>
   cases q with
   | cons p' q'=>
    cases q';exact⟨_,_,rfl,p,p'⟩
 refine YBv ?_ (by show 2<=sizeLine;decide);have I2:Inv X BF U H1 { s1 with heap:=s1.heap.push { cls:=.type "tuple",data:=.seq [u1,u2].toArray } }:=I1.kept (t':=s1.toks) fun b o e=>YAE _ e;rw[hw];refine YAA (YAD ?_);show wpAny (model X.prog X.w) X.A (do rule "assign.swapped-stores";let items <-unpackItems (.ref s1.heap.objs.size) 2 none;assignInOrder [fun v=>bindName X.env y v,fun v=>bindName X.env x v] items.reverse;pure Flow.next) _ _ _;refine YAA (YCG (YAA (unpackItems_tuple (items:=#[u1,u2]) (I.ok.hd hc) (IsTup.new s1.heap _) fun h' hx'=>?_)));have I3:=I2.kept (h':=h') (t':=s1.toks) fun b o e=>hx' b o (YAf (YAN e)) e;show wpAny _ _ (assignInOrder [fun v=>bindName X.env y v,fun v=>bindName X.env x v] [u2,u1] >>= fun _=>pure Flow.next) _ _ _;refine YAA (assignInOrder_cons (wpAny_bindName (Zb7 I3 hN hj (.inl hy) rw' (fun s2 I4=>?_) (.inr hy))));refine assignInOrder_cons (wpAny_bindName (Zb7 I4 hN hi (.inl hx) rv (fun s3 I5=>assignInOrder_nil (YAD ?_)) (.inr hx)));rw[List.set_comm _ _ (YBM hij)]at I5;exact⟨_,H1,I5,q1⟩
end
section
variable {X:Cx}{pos:Pos}
def Zh8 (c:TT)(tb:TS):TS:=fun D U H=>∃W:Nat->St->Hp->Prop,(∃m,W m U H)/\∀m U H,W m U H ->
 c U H fun b H1=>if b=true then ∃N:St->Hp->Prop,(∀U' H',N U' H'->∃m',m'<m/\W m' U' H')/\tb { D with nx:=N,ct:=N,bk:=D.nx } U H1 else D.nx U H1
theorem ZgN {c:Expr}{body:List Stmt}{tc:TT}{tb:TS}(hp:PassesOwn (model X.prog X.w) X.A X.env X.xe)(hc:PT X c tc)(hb:PSs X body tb):PS X (.While c body [] pos) (Zh8 tc tb):=by
 intro BF s U H D I h;obtain⟨W,⟨m0,w0⟩,turn⟩:=h;refine wpAny_While (codeAny_whileLoop (fun n s'=>∃U' H',Inv X BF U' H' s'/\W n U' H') ?_ m0 ⟨U,H,I,w0⟩);rintro n s1 ⟨U1,H1,I1,w1⟩;refine YCe hp (thn (hc BF s1 U1 H1 _ I1 (turn n U1 H1 w1)) fun b s2 zz=>?_);obtain⟨H2,I2,q2⟩:=zz;cases b with
 | true=>
  obtain⟨N,hN,q2⟩:=q2;rw[YAM rfl];refine YCe hp (thn (hb BF s2 U1 H2 _ I2 q2) fun f s3 q3=>?_);cases f with
  | next=>
   obtain⟨U3,H3,I3,n3⟩:=q3;obtain⟨m',hm,w3⟩:=hN U3 H3 n3;exact⟨m',hm,U3,H3,I3,w3⟩
  | cont=>
   obtain⟨U3,H3,I3,n3⟩:=q3;obtain⟨m',hm,w3⟩:=hN U3 H3 n3;exact⟨m',hm,U3,H3,I3,w3⟩
  | brk=>exact q3
  | ret v=>exact q3
 | false=>
  rw[YAI YAC];exact YDA ⟨U1,H2,I2,q2⟩
end
structure It where
 go:Nat->Hp->Prop
 yld:Nat->Hp->V->Hp->Prop
 stop:Nat->Hp->Prop
def FpOk (X:Cx)(BF:AA)(H:Hp)(b:AD):Prop:=
 H b=none/\b≠X.env.locals/\b∉X.fs/\(b∈X.ex\/X.s_0.heap.objs.size<=b)/\(∀x c,X.env.cells.lookup x=some c->c≠b)/\∀p∈X.pn++BF,p.1≠b
theorem Inv.fpOk {X:Cx}{BF:AA}{U:St}{H H':Hp}{s:AE}{b:AD}(I:Inv X BF U H s)(hb:s.heap.objs.size<=b)(hn:H' b=none):FpOk X BF H' b:=by
 refine⟨hn,Nat.ne_of_gt (YAk I.lt hb),I.nofs hb,.inr (YAK I.sz hb),fun x c e z=>?_,fun p hp z=>?_⟩
 .obtain⟨v,q⟩:=I.cell x c e;exact absurd (YAk q.lt (by rw[z];exact hb)) (YBA _)
 .exact absurd (YAk (YAN (I.pin p hp).1) (by rw[z];exact hb)) (YBA _)
structure Turn (P:AG)(w:AI)(K:Q4)(tg:Expr)(J:It)(fp:List AD)(it:AD)(tn:Nat->Heap->Prop):Prop where
 mem:it∈fp
 obj:∀i h,tn i h->∀b∈fp,∃o,h.get? b=some o/\∀v,o.data≠.cell v
 keep:∀i h h',tn i h->(∀b∈fp,∀o,h.get? b=some o->h'.get? b=some o)->tn i h'
 item:∀(X:Cx),X.prog=P->X.w=w->X.K=K->X.calm=true->∀(i:Nat) (BF:AA) (s:AE) (U:St) (H:Hp) (E:Q33),Inv X BF U H s->(∀b∈fp,FpOk X BF H b)->tn i s.heap->J.go i H ->
  wpAny (model P w) X.A (pyNext (.ref it)) (fun r s1=>∃u,r=some u /\
   wpAny (model P w) X.A (letOwnedTupleGo tg (.ref it) u) (fun _ s2=>∃x H',Inv X BF U H' s2/\RelV x u/\J.yld i H x H'/\tn (i+1) s2.heap/\∀b∈fp,H' b=none) E s1) E s
 done:∀(X:Cx),X.prog=P->X.w=w->X.K=K->X.calm=true->∀(i:Nat) (BF:AA) (s:AE) (U:St) (H:Hp) (E:Q33),Inv X BF U H s->(∀b∈fp,FpOk X BF H b)->tn i s.heap->J.stop i H ->
  wpAny (model P w) X.A (pyNext (.ref it)) (fun r s1=>r=none/\Inv X BF U H s1) E s
 self:∀(A:AH) (i:Nat) (s:AE) (Q:Q33) (E:Q33),tn i s.heap->Q (.ref it) s->wpAny (model P w) A (pyIter (.ref it)) Q E s
abbrev TI:=St->Hp->(It->Hp->Prop)->Prop
def PIE (X:Cx)(BF:AA)(U:St)(tg:Expr)(R:It->Hp->Prop)(itv:Value)(s2:AE):Prop:=
 ∃(it:AD) (fp:List AD) (tn:Nat->Heap->Prop) (J:It) (H':Hp),itv=.ref it/\Inv X BF U H' s2/\Turn X.prog X.w X.K tg J fp it tn/\tn 0 s2.heap/\(∀b∈fp,FpOk X BF H' b)/\R J H'
def PI (X:Cx)(tg iter:Expr)(wi:TI):Prop:=
 ∀(BF:AA) (s:AE) (U:St) (H:Hp) (R:It->Hp->Prop),Inv X BF U H s->wi U H R ->
  wpAny (model X.prog X.w) X.A (eval iter X.env) (fun v s1=>wpAny (model X.prog X.w) X.A (pyIter v) (PIE X BF U tg R) X.xe s1) X.xe s
theorem Zke {M:Model}{A:AH}{E:Q33}{s:AE}{tg:Expr}{it:AD}{u:Value}{o:Obj}{n:String}{vs:Array Value}{Q:Unit->AE->Prop}(ho:s.heap.get? it=some o)(hc:o.cls=.type n)(hd:o.data=.fields vs)
    (hn:["enumerate","zip","dict_itemiterator","dict_reverseitemiterator","odict_iterator","itertools.zip_longest","itertools.pairwise"].contains n=false) (hQ:Q () s):wpAny M A (letOwnedTupleGo tg (.ref it) u) Q E s:=by
  unfold letOwnedTupleGo;cases tg<;>first
    | exact YAD hQ
    | (cases u<;>first
        | exact YAD hQ
        | (refine YAA (wpAny_load ho ?_)
           rw[hc,hd];show wpAny M A (if (["enumerate","zip","dict_itemiterator","dict_reverseitemiterator","odict_iterator","itertools.zip_longest","itertools.pairwise"].contains n&&vs[0]? == some (rawInt _))=true then _ else _) Q E s;rw[YAI (by intro h;rw[hn,YBi]at h;cases h)];exact YAD hQ))
noncomputable def Itl (K:Q4)(a:AD):It:=
 ⟨fun i H=>∃xs x,SqL K H a xs/\xs[i]?=some x,fun i H x H'=>H'=H/\∀xs,SqL K H a xs->xs[i]?=some x,fun i H=>∃xs,SqL K H a xs/\xs.length<=i⟩
noncomputable def Itt (K:Q4)(a:AD):It:=
 ⟨fun i H=>∃xs x,SqT K H a xs/\xs[i]?=some x,fun i H x H'=>H'=H/\∀xs,SqT K H a xs->xs[i]?=some x,fun i H=>∃xs,SqT K H a xs/\xs.length<=i⟩
noncomputable def Itr (lo:Int)(n:Nat):It:=⟨fun i _=>i<n,fun i H x H'=>H'=H/\x=.int (lo+i),fun i _=>n<=i⟩
theorem Zh4 {P:AG}{w:AI}{K:Q4}{tg:Expr}(a it:AD):Turn P w K tg (Itl K a) [it] it (fun i h=>h.IsListIter it a i) where
 mem:=by simp
 obj:=fun i h st b hb=>by
  have e:b=it:=by simpa using hb
  subst e;obtain⟨o,e,c,d⟩:=st;exact⟨o,e,fun v z=>by rw[d]at z;cases z⟩
 keep:=fun i h h' st k=>st.at fun o e=>k it (by simp) o e
 item:=by intro X hP hw hK hc i BF s U H E I hf st hg;subst hP hw hK;obtain⟨xs,x,hq,hx⟩:=hg;obtain⟨its,rv,p,hz⟩:=I.list hq;obtain⟨u,hu,ru⟩:=rv.get hx;obtain⟨f0,f1,f2,f3,f4,f5⟩:=hf it (by simp);refine wpAny_pyNext_list_item st p.isList (x:=u) (by simpa using hu) fun h' st' sb=>?_;have I1:Inv X BF U H { s with heap:=h' }:=I.turned (t':=s.toks) (fun b o hb e=>(sb.2 b hb).trans e) f0 f1 f3 f4 f5;obtain⟨o,e,c,d⟩:=id st';exact⟨u,rfl,Zke (s:={ s with heap:=h' }) e c d (by decide) ⟨x,H,I1,ru,⟨rfl,fun ys hy=>by rw[I.list_inj hy hq];exact hx⟩,st',fun b hb=>(hf b hb).1⟩⟩
 done:=by intro X hP hw hK hc i BF s U H E I hf st hg;subst hP hw hK;obtain⟨xs,hq,hx⟩:=hg;obtain⟨its,rv,p,hz⟩:=I.list hq;obtain⟨f0,f1,f2,f3,f4,f5⟩:=hf it (by simp);have hl:=rv.length;exact wpAny_pyNext_list_end (I.ok.hd hc) st p.isList (by simp;omega) fun h' eb=>⟨rfl,I.turned (t':=s.toks) (fun b o hb e=>eb b o hb e) f0 f1 f3 f4 f5⟩
 self:=fun _ _ _ _ _ st h=>wpAny_pyIter_listiter st h
theorem Zho {P:AG}{w:AI}{K:Q4}{tg:Expr}(it:AD)(lo:Int)(n:Nat):Turn P w K tg (Itr lo n) [it] it (fun i h=>IsRangeIter h it (lo+(i:Nat)*1) ((n:Int)-(i:Nat)) 1) where
 mem:=by simp
 obj:=fun i h st b hb=>by
  have e:b=it:=by simpa using hb
  subst e;exact⟨_,st,fun v z=>by have z':Data.fields _=Data.cell v:=z;cases z'⟩
 keep:=fun i h h' st k=>k it (by simp) _ st
 item:=by intro X hP hw hK hc i BF s U H E I hf st hg;subst hP hw hK;obtain⟨f0,f1,f2,f3,f4,f5⟩:=hf it (by simp);have W:=Walks.range (prog:=X.prog) (w:=X.w) (I.ok.hd hc) it lo 1 n;refine W.item i s _ _ hg st fun v h' tk hv st' kk=>?_;obtain⟨t,rfl⟩:=hv;have I1:Inv X BF U H { s with heap:=h',toks:=tk }:=I.turned (fun b o hb e=>kk b o (by simpa using hb) e) f0 f1 f3 f4 f5;refine⟨_,rfl,Zke (s:={ s with heap:=h',toks:=tk }) (n:="range_iterator") st' rfl rfl (by decide) ⟨.int (lo+i),H,I1,⟨t,?_⟩,⟨rfl,rfl⟩,st',fun b hb=>(hf b hb).1⟩⟩;rw[Int.mul_one]
 done:=by intro X hP hw hK hc i BF s U H E I hf st hg;subst hP hw hK;obtain⟨f0,f1,f2,f3,f4,f5⟩:=hf it (by simp);exact wpAny_pyNext_range_end (I.ok.hd hc) st (by have:n<=i:=hg;omega) fun h' eb=>⟨rfl,I.turned (t':=s.toks) (fun b o hb e=>eb b o hb e) f0 f1 f3 f4 f5⟩
 self:=fun _ _ _ _ _ st h=>wpAny_pyIter_rangeiter st h
section
variable {X:Cx}{tg:Expr}
def ZlZ (K:Q4)(tl:TE):TI:=fun U H R=>tl U H fun x H1=>∃a,x=.ref a/\(∃xs,SqL K H1 a xs)/\R (Itl K a) H1
theorem Zlz {l:Expr}{tl:TE}(hl:PE X l tl):PI X tg l (ZlZ X.K tl):=by
 intro BF s U H R I h;refine thn (hl BF s U H _ I h) fun v s1 zz=>?_;obtain⟨x,H1,I1,r1,q1⟩:=zz;obtain⟨a,e,⟨xs,hq⟩,q⟩:=q1;subst e;cases r1;obtain⟨its,rv,p,hz⟩:=I1.list hq;refine wpAny_pyIter_list p.isList ?_;refine⟨s1.heap.objs.size,[s1.heap.objs.size],_,_,H1,rfl,I1.kept (t':=s1.toks) fun b o e=>YAE _ e,Zh4 a _,⟨_,YAU _ rfl,rfl,rfl⟩,fun b hb=>?_,q⟩;have e:b=s1.heap.objs.size:=by simpa using hb
 subst e;exact I1.fpOk (YAS _) (I1.hok.fresh (YAS _))
theorem ZgI {BF:AA}{U:St}{H:Hp}{s:AE}{R:It->Hp->Prop}{E:Q33}{lo hi:Int}{t u v:Tok}{tk:Nat}(I:Inv X BF U H s)(h1:-(2 ^ 62)<=lo)(h2:lo<2 ^ 62)(h3:-(2 ^ 62)<=hi)(h4:hi<2 ^ 62)
  (q:R (Itr lo (hi-lo).toNat) H):wpAny (model X.prog X.w) X.A (pyIter (.ref s.heap.objs.size)) (PIE X BF U tg R) E { s with heap:=s.heap.push { cls:=.type "range",data:=.fields #[.int lo t,.int hi u,.int 1 v] },toks:=tk }:=by
 refine wpAny_pyIter_range (IsRange.new ..) (small_one h1 h2 h3 h4) ?_;have I1:Inv X BF U H { s with heap:=s.heap.push { cls:=.type "range",data:=.fields #[.int lo t,.int hi u,.int 1 v] },toks:=tk }:=I.kept fun b o e=>YAE _ e;refine⟨(s.heap.push { cls:=.type "range",data:=.fields #[.int lo t,.int hi u,.int 1 v] }).objs.size,[(s.heap.push { cls:=.type "range",data:=.fields #[.int lo t,.int hi u,.int 1 v] }).objs.size],_,_,H,rfl,
  I1.kept (t':=tk) fun b o e=>YAE _ e,Zho _ lo (hi-lo).toNat,?_,fun b hb=>?_,q⟩
 .have e1:lo+((0:Nat):Int)*1=lo:=by simp
  have e2:(((hi-lo).toNat:Nat):Int)-((0:Nat):Int)=Builtin.Range.rangeSize lo hi 1:=by rw[rangeSize_one];split<;>omega
  show IsRangeIter _ _ (lo+((0:Nat):Int)*1) ((((hi-lo).toNat:Nat):Int)-((0:Nat):Int)) 1;rw[e1,e2];exact YAU _ rfl
 .have e:b=(s.heap.push { cls:=.type "range",data:=.fields #[.int lo t,.int hi u,.int 1 v] }).objs.size:=by simpa using hb
  subst e;exact I1.fpOk (YAS _) (I1.hok.fresh (YAS _))
def Zoi (ta:TA):TI:=fun U H R=>ta U H fun vs H1=>∃j:Int,vs=[.int j]/\-(2 ^ 62)<=j/\j<2 ^ 62/\R (Itr 0 j.toNat) H1
def Zoh (ta:TA):TI:=fun U H R=>ta U H fun vs H1=>∃i j:Int,vs=[.int i,.int j]/\(-(2 ^ 62)<=i/\i<2 ^ 62/\-(2 ^ 62)<=j/\j<2 ^ 62)/\R (Itr i (j-i).toNat) H1
theorem Za9 {a:Expr} {ta:TA} {p pos:Pos} (hg:Gl X "range") (hm:X.mg "range"=none) (ha:PA X [a] ta) (hs:starEach [a] X.env=[(false,eval a X.env)]:=by rfl):PI X tg (.Call (.Name "range" p) [a] [] pos) (Zoi ta):=by
 intro BF s U H R I h;refine Call_ (Zdy I hg hm boot_range (PyProof.Rows.callWith_type1 (thn (ha pos BF s U H _ I h) fun us s1 zz=>?_) hs rfl));obtain⟨vs,H1,I1,r1,q1⟩:=zz;obtain⟨j,e,q1,q2,q⟩:=q1;subst e;cases r1 with
 | cons r rr=>
  cases rr;obtain⟨t,rfl⟩:=r;exact call_range_1 (ZgI I1 (by omega) (by omega) q1 q2 (by simpa using q))
theorem Zdo {a b:Expr} {ta:TA} {p pos:Pos} (hg:Gl X "range") (hm:X.mg "range"=none) (ha:PA X [a,b] ta) (hs:starEach [a,b] X.env=[(false,eval a X.env),(false,eval b X.env)]:=by rfl) (hs2:starEach [b] X.env=[(false,eval b X.env)]:=by rfl):
  PI X tg (.Call (.Name "range" p) [a,b] [] pos) (Zoh ta):=by
 intro BF s U H R I h;refine Call_ (Zdy I hg hm boot_range (PyProof.Rows.callWith_type1 (thn (ha pos BF s U H _ I h) fun us s1 ⟨vs,H1,I1,r1,q1⟩=>?_) (by rw[hs,hs2]) (by rw[hs2];rfl)));obtain⟨i,j,e,⟨q1,q2,q3,q4⟩,q⟩:=q1;subst e;cases r1 with
 | cons r rr=>
  cases rr with
  | cons r' rr=>
   cases rr;obtain⟨t,rfl⟩:=r;obtain⟨t',rfl⟩:=r';exact call_range_2 (ZgI I1 q1 q2 q3 q4 q)
def tFor (wi:TI)(g:TG)(tb:TS):TS:=fun D U H=>wi U H fun J H1=>∃W:Nat->Nat->St->Hp->Prop,(∃m,W 0 m U H1)/\∀i m U H,W i m U H ->
 (J.stop i H/\D.nx U H)\/(J.go i H/\∃N:St->Hp->Prop,(∀U' H',N U' H'->∃m',m'<m/\W (i+1) m' U' H')/\∀x H',J.yld i H x H'->g x U H' fun U2 H2=>tb { D with nx:=N,ct:=N,bk:=D.nx } U2 H2)
def Zff (fp:List AD)(h:Heap):AA:=fp.filterMap fun b=>(h.get? b).map fun o=>(b,o)
theorem Zb9 {fp:List AD}{h:Heap}{b:AD}{o:Obj}(hb:b∈fp)(e:h.get? b=some o):(b,o)∈Zff fp h:=List.mem_filterMap.mpr ⟨b,hb,by rw[e];rfl⟩
theorem Ziz {fp:List AD}{h:Heap}{p:AD×Obj}(hp:p∈Zff fp h):p.1∈fp/\h.get? p.1=some p.2:=by
 obtain⟨b,hb,e⟩:=List.mem_filterMap.mp hp;cases q:h.get? b with
 | none=>rw[q]at e;cases e
 | some o=>
  rw[q]at e;have e':(b,o)=p:=Option.some.inj e;subst e';exact⟨hb,q⟩
theorem Inv.pinned {BF:AA}{U:St}{H:Hp}{s:AE}{fp:List AD}(I:Inv X BF U H s)(hf:∀b∈fp,FpOk X BF H b)(ho:∀b∈fp,∃o,s.heap.get? b=some o/\∀v,o.data≠.cell v):Inv X (BF++Zff fp s.heap) U H s:=
 I.pins_of fun p hp=>(YAW.mp hp).elim (fun z=>I.pin p (YBR _ z)) fun z=>by obtain⟨hb,e⟩:=Ziz z;obtain⟨f0,f1,f2,_⟩:=hf p.1 hb;obtain⟨o,e',d⟩:=ho p.1 hb;rw[e]at e';cases e';exact⟨e,f0,f1,f2,d⟩
theorem Inv.unpinned {BF pl:AA}{U:St}{H:Hp}{s:AE}(I:Inv X (BF++pl) U H s):Inv X BF U H s:=I.pins_of fun p hp=>I.pin p (YBR _ (List.mem_append_left _ hp))
theorem Za8 {iter:Expr}{body:List Stmt}{wi:TI}{g:TG}{tb:TS}{pos:Pos}(hp:PassesOwn (model X.prog X.w) X.A X.env X.xe)(hc:X.calm=true)(hi:PI X tg iter wi)(hg:PG X tg g)(hb:PSs X body tb)
  (hs:∀x,foldedSetIterable iter X.env x=pure x:=by intro _;rfl):PS X (.For tg iter body [] pos) (tFor wi g tb):=by
 intro BF s U H D I h;refine wpAny_For (thn (hi BF s U H _ I h) fun v s1 h1=>thn h1 fun itv s2 h2=>?_) hs;obtain⟨it,fp,tn,J,H2,e,I2,T,st2,f2,W,⟨m0,w0⟩,turn⟩:=h2;subst e;have stat:∀ {H':Hp},(∀b∈fp,H' b=none)->∀b∈fp,FpOk X BF H' b:=fun hn b hb=>⟨hn b hb,(f2 b hb).2⟩;refine codeAny_forLoop_any (fun n s'=>∃i U' H',Inv X BF U' H' s'/\tn i s'.heap/\(∀b∈fp,H' b=none)/\W i n U' H') ?_ m0 ⟨0,U,H2,I2,st2,fun b hb=>(f2 b hb).1,w0⟩;rintro n s3 ⟨i,U3,H3,I3,st3,fr3,w3⟩;rcases turn i n U3 H3 w3 with⟨stop,qn⟩|⟨go,N,hN,step⟩
 .refine YCe hp (thn (T.done X rfl rfl rfl hc i BF s3 U3 H3 X.xe I3 (stat fr3) st3 stop) fun r s4 zz=>?_);obtain⟨hr,I4⟩:=zz;subst hr;exact YDA ⟨U3,H3,I4,qn⟩
 .refine YCe hp (thn (T.item X rfl rfl rfl hc i BF s3 U3 H3 X.xe I3 (stat fr3) st3 go) fun r s4 zz=>?_);obtain⟨u,hr,h4⟩:=zz;subst hr;refine YCe hp (thn h4 fun _ s5 zz=>?_);obtain⟨x,H5,I5,r5,y5,st5,fr5⟩:=zz;have I5':=I5.pinned (stat fr5) (T.obj _ _ st5);refine YCe hp (thn (hg _ s5 U3 H5 x u _ I5' r5 (step x H5 y5)) fun _ s6 zz=>?_);obtain⟨U6,H6,I6,q6⟩:=zz;refine YCe hp (thn (hb _ s6 U6 H6 _ I6 q6) fun f s7 q7=>?_);have again:∀ {U7:St} {H7:Hp},Inv X (BF++Zff fp s5.heap) U7 H7 s7->N U7 H7->∃m,m<n/\∃i U' H',Inv X BF U' H' s7/\tn i s7.heap/\(∀b∈fp,H' b=none)/\W i m U' H':=fun {U7 H7} I7 n7=>by obtain⟨m',hm,w7⟩:=hN U7 H7 n7;refine⟨m',hm,i+1,U7,H7,I7.unpinned,T.keep _ _ _ st5 fun b hb o e=>(I7.pin (b,o) (YBR _ (YBR _ (Zb9 hb e)))).1,fun b hb=>?_,w7⟩;obtain⟨o,e,d⟩:=T.obj _ _ st5 b hb;exact(I7.pin (b,o) (YBR _ (YBR _ (Zb9 hb e)))).2.1
  cases f with
  | next=>obtain⟨U7,H7,I7,n7⟩:=q7;exact again I7 n7
  | cont=>obtain⟨U7,H7,I7,n7⟩:=q7;exact again I7 n7
  | brk=>obtain⟨U7,H7,I7,q7⟩:=q7;exact⟨U7,H7,I7.unpinned,q7⟩
  | ret v=>obtain⟨x7,U7,H7,I7,r7,q7⟩:=q7;exact⟨x7,U7,H7,I7.unpinned,r7,q7⟩
end
theorem Zki {K:Q4}{a:AD}{xs:List V}{g:TG}{tb:TS}{D:Ends}{U:St}{H:Hp}(Pv:Nat->St->Hp->Prop)(h0:Pv 0 U H)(hl:∀i U H,i<=xs.length->Pv i U H->SqL K H a xs)
  (hs:∀i x U H,xs[i]?=some x->Pv i U H->g x U H fun U2 H2=>tb { D with nx:=Pv (i+1),ct:=Pv (i+1),bk:=D.nx } U2 H2) (hd:∀U H,Pv xs.length U H->D.nx U H):
  ∃W:Nat->Nat->St->Hp->Prop,(∃m,W 0 m U H)/\∀i m U H,W i m U H ->
   ((Itl K a).stop i H/\D.nx U H)\/((Itl K a).go i H/\∃N:St->Hp->Prop,(∀U' H',N U' H'->∃m',m'<m/\W (i+1) m' U' H')/\∀x H',(Itl K a).yld i H x H'->g x U H' fun U2 H2=>tb { D with nx:=N,ct:=N,bk:=D.nx } U2 H2):=by
 refine⟨fun i m U H=>m=xs.length-i/\i<=xs.length/\Pv i U H,⟨xs.length,by simp,YAv _,h0⟩,?_⟩;rintro i m U H ⟨rfl,hi,p⟩;have q:=hl i U H hi p;by_cases BP:i<xs.length
 .refine .inr ⟨⟨xs,xs[i],q,by simp[BP]⟩,Pv (i+1),fun U' H' p'=>⟨xs.length-(i+1),by omega,rfl,BP,p'⟩,fun x H' y=>?_⟩;obtain⟨e,y⟩:=y;subst e;exact hs i x U _ (y xs q) p
 .have e:i=xs.length:=by omega
  subst e;exact .inl ⟨⟨xs,q,YAS _⟩,hd U H p⟩
theorem Zi3 {lo:Int}{n:Nat}{g:TG}{tb:TS}{D:Ends}{U:St}{H:Hp}(Pv:Nat->St->Hp->Prop)(h0:Pv 0 U H)
  (hs:∀i U H,i<n->Pv i U H->g (.int (lo+i)) U H fun U2 H2=>tb { D with nx:=Pv (i+1),ct:=Pv (i+1),bk:=D.nx } U2 H2) (hd:∀U H,Pv n U H->D.nx U H):
  ∃W:Nat->Nat->St->Hp->Prop,(∃m,W 0 m U H)/\∀i m U H,W i m U H ->
   ((Itr lo n).stop i H/\D.nx U H)\/((Itr lo n).go i H/\∃N:St->Hp->Prop,(∀U' H',N U' H'->∃m',m'<m/\W (i+1) m' U' H')/\∀x H',(Itr lo n).yld i H x H'->g x U H' fun U2 H2=>tb { D with nx:=N,ct:=N,bk:=D.nx } U2 H2):=by
 refine⟨fun i m U H=>m=n-i/\i<=n/\Pv i U H,⟨n,by simp,YAv _,h0⟩,?_⟩;rintro i m U H ⟨rfl,hi,p⟩;by_cases BP:i<n
 .refine .inr ⟨BP,Pv (i+1),fun U' H' p'=>⟨n-(i+1),by omega,rfl,BP,p'⟩,fun x H' y=>?_⟩;obtain⟨e,y⟩:=y;subst e y;exact hs i U _ BP p
 .have e:i=n:=by omega
  subst e;exact .inl ⟨YAS _,hd U H p⟩
abbrev R2:=V->V->Hp->VK->Prop
def OpR (X:Cx)(f:Value->Value->Sem Value)(r:R2):Prop:=
 ∀(BF:AA) (s:AE) (U:St) (H:Hp) (x y:V) (v u:Value) (Q:VK),Inv X BF U H s->RelV x v->RelV y u->r x y H Q ->
  wpAny (model X.prog X.w) X.A (f v u) (EP X BF U Q) X.xe s
def UnR (X:Cx)(f:Value->Sem Value)(r:V->Hp->VK->Prop):Prop:=
 ∀(BF:AA) (s:AE) (U:St) (H:Hp) (x:V) (v:Value) (Q:VK),Inv X BF U H s->RelV x v->r x H Q ->
  wpAny (model X.prog X.w) X.A (f v) (EP X BF U Q) X.xe s
def Zcg (X:Cx)(f:Value)(r:List V->Hp->VK->Prop):Prop:=
 ∀(BF:AA) (s:AE) (U:St) (H:Hp) (xs:List V) (us:AC) (Q:VK),Inv X BF U H s->Vals xs us->r xs H Q ->
  wpAny (model X.prog X.w) X.A (call f us) (EP X BF U Q) X.xe s
def TruR (X:Cx)(r:V->Hp->(Bool->Hp->Prop)->Prop):Prop:=
 ∀(BF:AA) (s:AE) (U:St) (H:Hp) (x:V) (v:Value) (Q:Bool->Hp->Prop),Inv X BF U H s->RelV x v->r x H Q ->
  wpAny (model X.prog X.w) X.A (truthy v) (TP X BF U Q) X.xe s
def tOp (r:R2)(ta tb:TE):TE:=fun U H Q=>ta U H fun x H1=>tb U H1 fun y H2=>r x y H2 Q
def tUn (r:V->Hp->VK->Prop)(ta:TE):TE:=fun U H Q=>ta U H fun x H1=>r x H1 Q
def rI (C:Int->Int->Prop)(g:Int->Int->V):R2:=fun x y H Q=>∃i j,x=.int i/\y=.int j/\C i j/\Q (g i j) H
def rI0 (g:Int->Int->V):R2:=fun x y H Q=>∃i j,x=.int i/\y=.int j/\Q (g i j) H
def rU (g:Int->V):V->Hp->VK->Prop:=fun x H Q=>∃i,x=.int i/\Q (g i) H
section
variable {X:Cx}{a b c:Expr}{ta tb tc:TE}{pos:Pos}
theorem binT (ha:PE X a ta)(hb:PE X b tb){BF:AA}{s:AE}{U:St}{H:Hp}{R:V->V->Hp->Prop}(I:Inv X BF U H s)
  (h:ta U H fun x H1=>tb U H1 fun y H2=>R x y H2) {Q:Q33} {f:Value->Value->Sem Value}
  (hf:∀v u s2 x y H2,Inv X BF U H2 s2->RelV x v->RelV y u->R x y H2->wpAny (model X.prog X.w) X.A (f v u) Q X.xe s2):
  wpAny (model X.prog X.w) X.A (eval a X.env) (fun v s_1=>wpAny (model X.prog X.w) X.A (eval b X.env) (fun u s_2=>wpAny (model X.prog X.w) X.A (f v u) Q X.xe s_2) X.xe s_1) X.xe s:=by
 refine thn (ha BF s U H _ I h) fun v s1 zz=>?_;obtain⟨x,H1,I1,r1,q1⟩:=zz;refine thn (hb BF s1 U H1 _ I1 q1) fun u s2 zz=>?_;obtain⟨y,H2,I2,r2,q2⟩:=zz;exact hf v u s2 x y H2 I2 r1 r2 q2
theorem Zam {op:Operator}{r:R2}(ho:OpR X (binaryOp op) r)(ha:PE X a ta)(hb:PE X b tb):PE X (.BinOp a op b pos) (tOp r ta tb):=by intro BF s U H Q I h;exact wpAny_BinOp (binT ha hb I h fun v u s2 x y H2 I2 rx ry q=>ho BF s2 U H2 x y v u Q I2 rx ry q)
theorem ZlC {op:UnaryOp}{r:V->Hp->VK->Prop}(ho:UnR X (unaryOp op) r)(ha:PE X a ta):PE X (.UnaryOp op a pos) (tUn r ta):=by intro BF s U H Q I h;exact UnaryOp_ (thn (ha BF s U H _ I h) fun v s1 ⟨x,H1,I1,r1,q1⟩=>ho BF s1 U H1 x v Q I1 r1 q1)
theorem opI {f:Value->Value->Sem Value}{C:Int->Int->Prop}{g:Int->Int->Int}
  (rule:∀(i j:Int) (t u:Tok) (s:AE) (Q:Q33) (E:Q33),C i j->Q (.int (g i j) s.toks) { s with toks:=s.toks+1 }->wpAny (model X.prog X.w) X.A (f (.int i t) (.int j u)) Q E s):
  OpR X f (rI C fun i j=>.int (g i j)):=by
 intro BF s U H x y v u Q I rx ry h;obtain⟨i,j,rfl,rfl,hc,q⟩:=h;obtain⟨t,rfl⟩:=rx;obtain⟨t',rfl⟩:=ry;exact rule i j t t' s _ _ hc ⟨.int (g i j),H,I.tok _,⟨_,rfl⟩,q⟩
theorem opI0 {f:Value->Value->Sem Value}{g:Int->Int->Int}
  (rule:∀(i j:Int) (t u:Tok) (s:AE) (Q:Q33) (E:Q33),Q (.int (g i j) s.toks) { s with toks:=s.toks+1 }->wpAny (model X.prog X.w) X.A (f (.int i t) (.int j u)) Q E s):
  OpR X f (rI0 fun i j=>.int (g i j)):=by
 intro BF s U H x y v u Q I rx ry h;obtain⟨i,j,rfl,rfl,q⟩:=h;obtain⟨t,rfl⟩:=rx;obtain⟨t',rfl⟩:=ry;exact rule i j t t' s _ _ ⟨.int (g i j),H,I.tok _,⟨_,rfl⟩,q⟩
theorem opB0 {f:Value->Value->Sem Value}{g:Int->Int->Bool}
  (rule:∀(i j:Int) (t u:Tok) (s:AE) (Q:Q33) (E:Q33),Q (.bool (g i j)) s->wpAny (model X.prog X.w) X.A (f (.int i t) (.int j u)) Q E s):
  OpR X f (rI0 fun i j=>.bl (g i j)):=by
 intro BF s U H x y v u Q I rx ry h;obtain⟨i,j,rfl,rfl,q⟩:=h;obtain⟨t,rfl⟩:=rx;obtain⟨t',rfl⟩:=ry;exact rule i j t t' s _ _ ⟨.bl (g i j),H,I,rfl,q⟩
def CDiv (i j:Int):Prop:=0<j/\j<1073741824
def CPow (i j:Int):Prop:=0<=j/\j<=1000000/\i.natAbs<2 ^ 64
def CMul (i j:Int):Prop:=(-(2 ^ 64)<i/\i<2 ^ 64)\/(-(2 ^ 64)<j/\j<2 ^ 64)
theorem CMul.ok {i j:Int}(h:CMul i j):IntMulOk i j:=by
 rcases h with⟨h1,h2⟩|⟨h1,h2⟩
 .exact .of_left (intBits_le_64 h1 h2)
 .exact .of_right (intBits_le_64 h1 h2)
theorem ZaO:OpR X (binaryOp .Add) (rI0 fun i j=>.int (i+j)):=opI0 fun _ _ _ _ _ _ _ q=>add_int q
theorem Ziv:OpR X (binaryOp .Sub) (rI0 fun i j=>.int (i-j)):=opI0 fun _ _ _ _ _ _ _ q=>sub_int q
theorem ZdY:OpR X (binaryOp .Mult) (rI CMul fun i j=>.int (i*j)):=opI fun _ _ _ _ _ _ _ hc q=>mul_int q hc.ok
theorem Za5:OpR X (binaryOp .FloorDiv) (rI CDiv fun i j=>.int (i/j)):=opI fun i j _ _ _ _ _ hc q=>by have h1:(0:Int)<j:=hc.1;have h2:j<1073741824:=hc.2;exact floordiv_int (by omega) (by rw[Int.fdiv_eq_ediv_of_nonneg i (by omega)];exact q) (.inl (PyProof.noPylong_small (by omega)))
theorem ZaE:OpR X (binaryOp .Mod) (rI (fun _ j=>0<j) fun i j=>.int (i % j)):=opI fun i j _ _ _ _ _ hc q=>by have h1:(0:Int)<j:=hc;exact mod_int' (by omega) (by rw[Int.fmod_eq_emod_of_nonneg i (by omega)];exact q)
theorem Znq:OpR X (binaryOp .Pow) (rI CPow fun i j=>.int (i ^ j.toNat)):=opI fun _ _ _ _ _ _ _ hc q=>pow_int_small hc.1 hc.2.1 hc.2.2 q
theorem unI {f:Value->Sem Value}{g:Int->Int}
  (rule:∀(i:Int) (t:Tok) (s:AE) (Q:Q33) (E:Q33),Q (.int (g i) s.toks) { s with toks:=s.toks+1 }->wpAny (model X.prog X.w) X.A (f (.int i t)) Q E s):
  UnR X f (rU fun i=>.int (g i)):=by
 intro BF s U H x v Q I rx h;obtain⟨i,rfl,q⟩:=h;obtain⟨t,rfl⟩:=rx;exact rule i t s _ _ ⟨.int (g i),H,I.tok _,⟨_,rfl⟩,q⟩
theorem Zh2:UnR X (unaryOp .USub) (rU fun i=>.int (-i)):=unI fun _ _ _ _ _ q=>neg_int q
end
noncomputable def scal:V->V->Bool
 | .non,.non=>true | .non,.int _=>true | .int _,.non=>true | .non,.bl _=>true | .bl _,.non=>true | .non,.str _=>true | .str _,.non=>true
 | .int _,.int _=>true | .bl _,.bl _=>true | .str _,.str _=>true | .byt _,.byt _=>true
 | .int _,.str _=>true | .str _,.int _=>true | .bl _,.str _=>true | .str _,.bl _=>true
 | _,_=>false
def rEq:R2:=fun x y H Q=>scal x y=true/\Q (.bl (decide (x=y))) H
def rNe:R2:=fun x y H Q=>scal x y=true/\Q (.bl (!decide (x=y))) H
theorem Zja {i j:Int}:decide (V.int i=V.int j)=(i == j):=by rw[YBQ];simp
theorem ZkZ {i j:Bool}:decide (V.bl i=V.bl j)=(i == j):=by rw[YBQ];simp
theorem Zi9 {i j:Str}:decide (V.str i=V.str j)=(i == j):=by rw[YBQ];simp
theorem Zjb {i j:Array UInt8}:decide (V.byt i=V.byt j)=(i.toList == j.toList):=by rw[YBQ];cases i;cases j;simp
section
variable {X:Cx}{a b c:Expr}{ta tb tc:TE}{pos:Pos}
theorem ZaM {BF:AA}{U:St}{H:Hp}{s:AE}{Q:VK}{k k':Bool}(I:Inv X BF U H s)(q:Q (.bl k) H)(e:k=k'):EP X BF U Q (.bool k') s:=by subst e;exact⟨.bl k,H,I,rfl,q⟩
theorem Zqh:OpR X (compareOp .Eq) rEq:=by
 intro BF s U H x y v u Q I rx ry h;obtain⟨hs,q⟩:=h;cases x with
 | non=>
  cases rx;cases y with
  | non=>cases ry;exact PySem.EqNone.eq_none_none (ZaM I q (by simp))
  | bl j=>cases ry;exact PySem.EqNone.eq_none_bool (ZaM I q (by simp))
  | int j=>obtain⟨t',rfl⟩:=ry;exact PySem.EqNone.eq_none_int (ZaM I q (by simp))
  | str j=>obtain⟨t',rfl⟩:=ry;exact PySem.EqNone.eq_none_str (ZaM I q (by simp))
  | _=>exact absurd (show false=true from hs) YAC
 | bl i=>
  cases rx;cases y with
  | non=>cases ry;exact PySem.EqNone.eq_bool_none (ZaM I q (by simp))
  | bl j=>cases ry;exact eq_bool (ZaM I q ZkZ)
  | str j=>obtain⟨t',rfl⟩:=ry;exact PySem.EqMixed.eq_bool_str (ZaM I q (by simp))
  | _=>exact absurd (show false=true from hs) YAC
 | int i=>
  obtain⟨t,rfl⟩:=rx;cases y with
  | non=>cases ry;exact PySem.EqNone.eq_int_none (ZaM I q (by simp))
  | int j=>obtain⟨t',rfl⟩:=ry;exact eq_int (ZaM I q Zja)
  | str j=>obtain⟨t',rfl⟩:=ry;exact PySem.EqMixed.eq_int_str (ZaM I q (by simp))
  | _=>exact absurd (show false=true from hs) YAC
 | str i=>
  obtain⟨t,rfl⟩:=rx;cases y with
  | non=>cases ry;exact PySem.EqNone.eq_str_none (ZaM I q (by simp))
  | bl j=>cases ry;exact PySem.EqMixed.eq_str_bool (ZaM I q (by simp))
  | int j=>obtain⟨t',rfl⟩:=ry;exact PySem.EqMixed.eq_str_int (ZaM I q (by simp))
  | str j=>obtain⟨t',rfl⟩:=ry;exact eq_str (ZaM I q Zi9)
  | _=>exact absurd (show false=true from hs) YAC
 | byt i=>
  obtain⟨t,rfl⟩:=rx;cases y with
  | byt j=>obtain⟨t',rfl⟩:=ry;exact PySem.W.eq_bytes (ZaM I q Zjb)
  | _=>exact absurd (show false=true from hs) YAC
 | _=>cases y<;>exact absurd (show false=true from hs) YAC
theorem Zqf:OpR X (compareOp .NotEq) rNe:=by
 intro BF s U H x y v u Q I rx ry h;obtain⟨hs,q⟩:=h;cases x with
 | non=>
  cases rx;cases y with
  | non=>cases ry;exact PySem.EqNone.ne_none_none (ZaM I q (by simp))
  | bl j=>cases ry;exact PySem.EqNone.ne_none_bool (ZaM I q (by simp))
  | int j=>obtain⟨t',rfl⟩:=ry;exact PySem.EqNone.ne_none_int (ZaM I q (by simp))
  | str j=>obtain⟨t',rfl⟩:=ry;exact PySem.EqNone.ne_none_str (ZaM I q (by simp))
  | _=>exact absurd (show false=true from hs) YAC
 | bl i=>
  cases rx;cases y with
  | non=>cases ry;exact PySem.EqNone.ne_bool_none (ZaM I q (by simp))
  | bl j=>cases ry;exact ne_bool (ZaM I q (congrArg not ZkZ))
  | str j=>obtain⟨t',rfl⟩:=ry;exact PySem.EqMixed.ne_bool_str (ZaM I q (by simp))
  | _=>exact absurd (show false=true from hs) YAC
 | int i=>
  obtain⟨t,rfl⟩:=rx;cases y with
  | non=>cases ry;exact PySem.EqNone.ne_int_none (ZaM I q (by simp))
  | int j=>obtain⟨t',rfl⟩:=ry;exact ne_int (ZaM I q (congrArg not Zja))
  | str j=>obtain⟨t',rfl⟩:=ry;exact PySem.EqMixed.ne_int_str (ZaM I q (by simp))
  | _=>exact absurd (show false=true from hs) YAC
 | str i=>
  obtain⟨t,rfl⟩:=rx;cases y with
  | non=>cases ry;exact PySem.EqNone.ne_str_none (ZaM I q (by simp))
  | bl j=>cases ry;exact PySem.EqMixed.ne_str_bool (ZaM I q (by simp))
  | int j=>obtain⟨t',rfl⟩:=ry;exact PySem.EqMixed.ne_str_int (ZaM I q (by simp))
  | str j=>obtain⟨t',rfl⟩:=ry;exact ne_str (ZaM I q (congrArg not Zi9))
  | _=>exact absurd (show false=true from hs) YAC
 | byt i=>
  obtain⟨t,rfl⟩:=rx;cases y with
  | byt j=>obtain⟨t',rfl⟩:=ry;exact PySem.W.ne_bytes (ZaM I q (congrArg not Zjb))
  | _=>exact absurd (show false=true from hs) YAC
 | _=>cases y<;>exact absurd (show false=true from hs) YAC
theorem Zns:OpR X (compareOp .Lt) (rI0 fun i j=>.bl (decide (i<j))):=opB0 fun _ _ _ _ _ _ _ q=>lt_int q
theorem Znt:OpR X (compareOp .LtE) (rI0 fun i j=>.bl (decide (i<=j))):=opB0 fun _ _ _ _ _ _ _ q=>le_int q
theorem ZjS:OpR X (compareOp .Gt) (rI0 fun i j=>.bl (decide (j<i))):=opB0 fun _ _ _ _ _ _ _ q=>gt_int q
theorem Zqg:OpR X (compareOp .GtE) (rI0 fun i j=>.bl (decide (j<=i))):=opB0 fun _ _ _ _ _ _ _ q=>ge_int q
theorem Zfi:OpR X (compareOp .In) (fun x y H Q=>∃i j,x=.str i/\y=.str j/\Q (.bl (!(Builtin.Str.occurrences j i 0 j.length 1).isEmpty)) H):=by intro BF s U H x y v u Q I rx ry h;obtain⟨i,j,rfl,rfl,q⟩:=h;obtain⟨t,rfl⟩:=rx;obtain⟨t',rfl⟩:=ry;exact in_str (ZaM I q rfl)
theorem Zc0:OpR X (compareOp .NotIn) (fun x y H Q=>∃i j,x=.str i/\y=.str j/\Q (.bl (!(!(Builtin.Str.occurrences j i 0 j.length 1).isEmpty))) H):=by intro BF s U H x y v u Q I rx ry h;obtain⟨i,j,rfl,rfl,q⟩:=h;obtain⟨t,rfl⟩:=rx;obtain⟨t',rfl⟩:=ry;exact notIn_str (ZaM I q rfl)
theorem ZaL (b:Expr){op:CmpOp}(h:op≠.In:=by decide)(h2:op≠.NotIn:=by decide):behindInMarks op b=false:=by
 have e1:(op == CmpOp.In)=false:=by cases op<;>first | rfl | exact absurd rfl h
 have e2:(op == CmpOp.NotIn)=false:=by cases op<;>first | rfl | exact absurd rfl h2
 cases b<;>simp[behindInMarks,e1,e2]
theorem Zbq {op:CmpOp}{r:R2}(ho:OpR X (compareOp op) r)(ha:PE X a ta)(hb:PE X b tb)(hm:behindInMarks op b=false):PE X (.Compare a [op] [b] pos) (tOp r ta tb):=by intro BF s U H Q I h;exact wpAny_Compare1 (binT ha hb I h fun v u s2 x y H2 I2 rx ry q=>ho BF s2 U H2 x y v u Q I2 rx ry q) hm
def Zjv (t:TE):TT:=fun U H Q=>t U H fun x H'=>∃k,x=.bl k/\Q k H'
theorem Zaw {op:CmpOp}{r:R2}(ho:OpR X (compareOp op) r)(ha:PE X a ta)(hb:PE X b tb)(hm:behindInMarks op b=false):PT X (.Compare a [op] [b] pos) (Zjv (tOp r ta tb)):=by
 intro BF s U H Q I h;refine wpAny_isTrue_Compare1 (thn (ha BF s U H _ I h) fun v s1 ⟨x,H1,I1,r1,q1⟩=>thn (hb BF s1 U H1 _ I1 q1) fun u s2 ⟨y,H2,I2,r2,q2⟩=>
  thn (ho BF s2 U H2 x y v u _ I2 r1 r2 q2) fun c s3 ⟨z,H3,I3,r3,k,e,q3⟩=>?_) hm
 subst e;cases r3;exact YCF ⟨H3,I3,q3⟩
def TruV (K:Q4)(x:V)(H:Hp)(k:Bool):Prop:=
 match x with
 | .non=>k=false
 | .bl b=>k=b
 | .int i=>k=(i != 0)
 | .str y=>y.length<=sizeLine/\k=((y.length:Int) != 0)
 | .byt y=>y.size<=sizeLine/\k=((y.size:Int) != 0)
 | .ref p=>(∃xs,SqL K H p xs/\k=!xs.isEmpty)\/(∃xs,SqT K H p xs/\k=!xs.isEmpty)\/∃kvs,H p=some (.dK kvs)/\k=!kvs.isEmpty
 | _=>False
theorem ZhP {κ:Type}{kvs:List (κ×V)}{vs:List (κ×Value)}(r:KV kvs vs):(!vs.isEmpty)=!kvs.isEmpty:=by cases r<;>rfl
theorem Zd4 {xs:List V}{its:AC}(r:Vals xs its):(!its.toArray.isEmpty)=!xs.isEmpty:=by cases r<;>simp
theorem Zfq:(sizeLine:Nat)<2 ^ 63:=by rw[sizeLine_eq];decide
theorem ZqQ:TruR X (fun x H Q=>∃k,TruV X.K x H k/\Q k H):=by
 intro BF s U H x v Q I rx h;obtain⟨k,e,q⟩:=h;have hl:=Zfq;have hs:sizeLine=16777216:=sizeLine_eq;cases x with
 | non=>
  cases rx;have e':k=false:=e;subst e';exact truthy_none ⟨H,I,q⟩
 | bl b=>
  cases rx;have e':k=b:=e;subst e';exact YCF ⟨H,I,q⟩
 | int i=>
  obtain⟨t,rfl⟩:=rx;have e':k=(i != 0):=e;subst e';exact PySem.P.truthy_int ⟨H,I,q⟩
 | str y=>
  obtain⟨t,rfl⟩:=rx;obtain⟨hy,e'⟩:y.length<=sizeLine/\k=((y.length:Int) != 0):=e;subst e';exact PySem.P.truthy_str (by omega) ⟨H,I.tok _,q⟩
 | byt y=>
  obtain⟨t,rfl⟩:=rx;obtain⟨hy,e'⟩:y.size<=sizeLine/\k=((y.size:Int) != 0):=e;subst e';exact PySem.W.truthy_bytes (by omega) ⟨H,I.tok _,q⟩
 | ref p=>
  cases rx;have e':(∃xs,SqL X.K H p xs/\k=!xs.isEmpty)\/(∃xs,SqT X.K H p xs/\k=!xs.isEmpty)\/∃kvs,H p=some (.dK kvs)/\k=!kvs.isEmpty:=e;rcases e' with⟨xs,hx,e'⟩|⟨xs,hx,e'⟩|⟨kvs,hx,e'⟩
  .subst e';obtain⟨its,r,pl,hz⟩:=I.list hx;have BH:=r.length;exact wpAny_truthy_list pl.isList (by simp only[YAJ];omega) ⟨H,I.tok _,by rw[Zd4 r];exact q⟩
  .subst e';obtain⟨its,r,pl,hz⟩:=I.tuple hx;have BH:=r.length;exact truthy_tuple pl (by simp only[YAJ];omega) ⟨H,I.tok _,by rw[Zd4 r];exact q⟩
  .subst e';obtain⟨hz,hS,vs,r,m⟩:kvs.length<=sizeLine/\(p == sysModules)=false/\∃vs,KV kvs vs/\s.heap.DictOf (Zaz X.prog X.w) p vs:=I.hok p _ hx;have BH:kvs.length=vs.length:=Paired.length r;exact wpAny_truthy_dict hS m (by omega) ⟨H,I.tok _,by rw[ZhP r];exact q⟩
 | _=>exact(show False from e).elim
theorem ZhB:OpR X (binaryOp .Add) (fun x y H Q=>∃i j,x=.str i/\y=.str j/\i.length+j.length<=sizeLine/\Q (.str (i++j)) H):=by intro BF s U H x y v u Q I rx ry h;obtain⟨i,j,rfl,rfl,hz,q⟩:=h;obtain⟨t,rfl⟩:=rx;obtain⟨t',rfl⟩:=ry;exact add_str (fun t' tk=>⟨.str (i++j),H,I.tok _,⟨_,rfl⟩,q⟩) hz
theorem vals1 {x:V}{us:AC}(r:Vals [x] us):∃u,us=[u]/\RelV x u:=by
 cases r with
 | cons r1 r2=>cases r2;exact⟨_,rfl,r1⟩
theorem vals2 {x y:V}{us:AC}(r:Vals [x,y] us):∃u w',us=[u,w']/\RelV x u/\RelV y w':=by
 cases r with
 | cons r1 r2=>
  cases r2 with
  | cons r3 r4=>cases r4;exact⟨_,_,rfl,r1,r3⟩
theorem Zjj (hc:X.calm=true):Zcg X (.builtin "min") (fun xs H Q=>∃i j,xs=[.int i,.int j]/\Q (.int (if j<i then j else i)) H):=by
 intro BF s U H xs us Q I r h;obtain⟨i,j,rfl,q⟩:=h;obtain⟨u,w',rfl,⟨t,rfl⟩,⟨t',rfl⟩⟩:=vals2 r;refine min_two_ints (I.ok.hd hc) fun h' tk k=>⟨_,H,I.kept k,?_,q⟩;by_cases hj:j<i
 .rw[YAM hj,YAM hj];exact⟨_,rfl⟩
 .rw[YAI hj,YAI hj];exact⟨_,rfl⟩
def LenV (K:Q4)(x:V)(H:Hp)(n:Nat):Prop:=
 match x with
 | .str y=>y.length<=sizeLine/\n=y.length
 | .byt y=>y.size<=sizeLine/\n=y.size
 | .ref p=>(∃xs,SqL K H p xs/\n=xs.length)\/∃xs,SqT K H p xs/\n=xs.length
 | _=>False
theorem Zku:Zcg X (.builtin "len") (fun xs H Q=>∃x n,xs=[x]/\LenV X.K x H n/\Q (.int n) H):=by
 intro BF s U H xs us Q I r h;obtain⟨x,n,rfl,e,q⟩:=h;obtain⟨u,rfl,rx⟩:=vals1 r;have hl:=Zfq;have hs:sizeLine=16777216:=sizeLine_eq;cases x with
 | str y=>
  obtain⟨t,rfl⟩:=rx;obtain⟨hy,e'⟩:y.length<=sizeLine/\n=y.length:=e;subst e';exact len_str (by omega) ⟨.int _,H,I.tok _,⟨_,rfl⟩,q⟩
 | byt y=>
  obtain⟨t,rfl⟩:=rx;obtain⟨hy,e'⟩:y.size<=sizeLine/\n=y.size:=e;subst e';exact PySem.W.len_bytes (by omega) ⟨.int _,H,I.tok _,⟨_,rfl⟩,q⟩
 | ref p=>
  cases rx;have e':(∃xs,SqL X.K H p xs/\n=xs.length)\/∃xs,SqT X.K H p xs/\n=xs.length:=e;rcases e' with⟨xs,hx,e'⟩|⟨xs,hx,e'⟩
  .subst e';obtain⟨its,r',pl,hz⟩:=I.list hx;have BH:=r'.length;exact Calls.call_len_list pl.isList (by simp only[YAJ];omega) ⟨.int xs.length,H,I.tok _,⟨_,by simp only[YAJ];rw[BH]⟩,q⟩
  .subst e';obtain⟨its,r',pl,hz⟩:=I.tuple hx;have BH:=r'.length;exact len_tuple pl (by simp only[YAJ];omega) ⟨.int xs.length,H,I.tok _,⟨_,by simp only[YAJ];rw[BH]⟩,q⟩
 | _=>exact(show False from e).elim
end
structure ObjM (h:Heap)(x dx C:AD)(mA:AB):Prop where
 obj:h.get? x=some (PySem.W.instObj C dx)
 ns:h.Ns1 dx mA
 ne:dx≠x
theorem Zdv {h:Heap}{dx:AD}{mA:AB}(n:h.Ns1 dx mA):∃od,h.get? dx=some od/\∀name,PySem.W.lookIn name od=some (mA name):=by
 obtain⟨o,es,ep,ho,hd,hk,_,hm⟩:=n;refine⟨o,ho,fun name=>?_⟩;have e:=hm name;unfold nsFind findBy at e;rw[<-Array.find?_toList]at e;unfold PySem.W.lookIn;rw[hd];dsimp only;split
 .rename_i y q
  rw[q]at e;exact congrArg some e
 .rename_i q
  rw[q]at e;have a:es.toList.any (·.refKey)=false:=by rw[List.any_eq_false];intro y hy;obtain⟨z,t,hkey⟩:=hk y (Array.mem_toList_iff.mp hy);simp[DictEntry.refKey,hkey]
  have a':¬es.toList.any (·.refKey)=true:=by rw[a];exact YAC
  rw[YAI a'];exact congrArg some e
theorem ObjM.look {h:Heap}{x dx C:AD}{mA:AB}(I:ObjM h x dx C mA):∃od,PySem.W.InstAt h x (PySem.W.instObj C dx) C (some od)/\∀name,PySem.W.lookIn name od=some (mA name):=
 let ⟨od,ho,hl⟩:=Zdv I.ns
 ⟨od,⟨I.obj,rfl,rfl,ho⟩,hl⟩
section
variable {prog:AG}{w:AI}{A:AH}{E:Q33}{s:AE}{K:Q4}{x dx C f:AD}{mA:AB}{name:Str}{v:Value}
theorem Zl2 {expr:Bool}{Q:Q33}(X:K.In s.heap)(I:ObjM s.heap x dx C mA)(hg:PySem.W.plainGet K C name=true)(hh:PySem.W.hasDictIn K C=true)
  (ha:PySem.W.findIn K (.ref C) name=some none) (hv:mA name=some v) (hv':PySem.W.handedIn v=true) (h:Q v { s with toks:=s.toks+1 }):
  wpAny (model prog w) A (getAttr (.ref x) name expr) Q E s:=by
 obtain⟨od,J,hl⟩:=I.look;exact PySem.W.get_value X J (PySem.W.plainGet_of hg).1 (PySem.W.findObj_own hh ha rfl (by rw[hl,hv])) hv' h
theorem Zkf {pl:Sem Bool}{Q:Value×AC->AE->Prop}(X:K.In s.heap)(I:ObjM s.heap x dx C mA)(hg:PySem.W.plainGet K C name=true)
  (hf:PySem.W.findIn K (.ref C) name=some (some (.ref f))) (ht:PySem.W.isFn K (.ref f)=true) (hv:mA name=none) (h:Q (.ref f,[.ref x]) s):
  wpAny (model prog w) A (getMethod (.ref x) name pl) Q E s:=by
 obtain⟨od,J,hl⟩:=I.look;exact PySem.W.method_fn X J (PySem.W.plainGet_of hg).1 (PySem.W.plainGet_of hg).2 hf (beq_iff_eq.mp ht) (by show (PySem.W.lookIn name od).map (·.isSome)=some false;rw[hl,hv];rfl) h
theorem Zlm {ns:AJ}{Q:Unit->AE->Prop}(X:K.In s.heap)(I:ObjM s.heap x dx C mA)
  (hs:PySem.W.findIn K (.ref C) "__setattr__"=some (some (.builtin "object.__setattr__"))) (hp:PySem.W.plainOver K C=true) (ht:PySem.W.takerIn K C name=some none) (hh:PySem.W.hasDictIn K C=true)
  (hw:PySem.Within mA ns) (hsz:ns.length<=sizeLine)
  (h:∀h',ObjM h' x dx C (fun y=>if y=name then some v else mA y)->Heap.SameBut dx s.heap h'->Q () { s with heap:=h',toks:=s.toks+2 }):
  wpAny (model prog w) A (setAttr (.ref x) name v) Q E s:=by
 obtain⟨od,J,hl⟩:=I.look;refine PySem.W.set_plain X J hs (PySem.W.osa_open (s:={ s with toks:=s.toks+1 }) (r:=none) X J hp ht fun b=>?_);obtain⟨cd,hc,hd'⟩:=YDS hh;have hx:s.heap.get? x=some ⟨.ref C,some dx,.plain,#[]⟩:=I.obj;refine YAA (YAD (YAA (YAA (wpAny_loadPart hx (YAA (PySem.W.Looks.here (s:={ s with toks:=s.toks+1 }) (PySem.W.looks_clsIn X hc) ?_))))));rw[hd'];refine YAD (a:=some dx) (YAA (YAD (YAA ?_)));refine wpAny_nsSet1 (s:={ s with toks:=s.toks+1 }) I.ns fun h' hn2 hs2=>?_;obtain⟨oD,esD,epD,hoD,hdD,hcD⟩:=hn2.count (PySem.Within.cons name v hw);refine YAA (wpAny_lookBehind hoD (by rw[hdD];exact pastItsLine_dict (YAK hcD (by rw[YAd];omega))) ?_);exact YAD (h _ ⟨(hs2.2 _ (YBM I.ne)).trans I.obj,hn2,I.ne⟩ hs2)
theorem Zj1 {R:Result->AE->Prop}{vs:AC}{kw:List (Str×Value)}(X:K.In s.heap)(hm:PySem.W.makesIn K C=true)
  (hi:PySem.W.findIn K (.ref C) "__init__"=some (some (.ref f))) (hf:PySem.W.typeIn K (.ref f)=some (.type "function"))
  (h:codeAny (model prog w) (A.under (.builtin "type.__call__" ⟨.ref C::vs,kw⟩)) (.call (.ref f) ⟨.ref (s.heap.objs.size+1)::vs,kw⟩) (PySem.W.InitBack (s.heap.objs.size+1) R)
   { s with heap:=(s.heap.push PySem.W.emptyDict).push (PySem.W.instObj C s.heap.objs.size) }):
  codeAny (model prog w) A (.call (.ref C) ⟨vs,kw⟩) R s:=by
 obtain⟨hh,g,d,t,os⟩:=s;exact PySem.W.make_core (PySem.W.makes_of X hm) (YDW X hi) (fun self=>PySem.W.bind_fn X self hf) (.inl rfl) h
end
noncomputable def putF (f:Str)(v:V):List (Str×V)->List (Str×V)
 | []=>[(f,v)]
 | (g,x)::r=>if g=f then (g,v)::r else (g,x)::putF f v r
theorem Zar (f g:Str)(v:V):∀fs:List (Str×V),(putF f v fs).lookup g=if g=f then some v else fs.lookup g
 | []=>by
  show List.lookup g [(f,v)]=_;by_cases h:g=f
  .have hb:(g == f)=true:=beq_iff_eq.mpr h;simp only[List.lookup,hb,YAM h]
  .have hb:(g == f)=false:=beq_eq_false_iff_ne.mpr h;simp only[List.lookup,hb,YAI h]
 | (k,x)::r=>by
  have ih:=Zar f g v r;rw[show putF f v ((k,x)::r)=(if k=f then (k,v)::r else (k,x)::putF f v r) from rfl];by_cases hk:k=f
  .rw[YAM hk];by_cases h:g=k
   .have hb:(g == k)=true:=beq_iff_eq.mpr h;simp only[List.lookup,hb,YAM (h.trans hk)]
   .have hb:(g == k)=false:=beq_eq_false_iff_ne.mpr h;simp only[List.lookup,hb,YAI (fun e:g=f=>h (e.trans hk.symm))]
  .rw[YAI hk];by_cases h:g=k
   .have hb:(g == k)=true:=beq_iff_eq.mpr h;simp only[List.lookup,hb,YAI (fun e:g=f=>hk (h.symm.trans e))]
   .have hb:(g == k)=false:=beq_eq_false_iff_ne.mpr h;simp only[List.lookup,hb];exact ih
theorem ZdA (f:Str)(v:V):∀fs:List (Str×V),f∈(putF f v fs).map (·.1)/\∀g,g∈fs.map (·.1)->g∈(putF f v fs).map (·.1)
 | []=>⟨by simp[putF],fun g h=>by simp at h⟩
 | (k,x)::r=>by
  obtain⟨i1,i2⟩:=ZdA f v r;rw[show putF f v ((k,x)::r)=(if k=f then (k,v)::r else (k,x)::putF f v r) from rfl];by_cases hk:k=f
  .rw[YAM hk];subst hk;exact⟨by simp,fun g h=>by simpa using h⟩
  .rw[YAI hk];refine⟨?_,fun g h=>?_⟩
   .rw[YAi];exact YAP _ i1
   .rw[YAi]at h ⊢;rcases YAT.mp h with e | e
    .exact YAT.mpr (.inl e)
    .exact YAP _ (i2 g e)
theorem Zdw (f:Str)(v:V):∀fs:List (Str×V),(putF f v fs).length<=fs.length+1
 | []=>by simp[putF]
 | (k,x)::r=>by
  have ih:=Zdw f v r;rw[show putF f v ((k,x)::r)=(if k=f then (k,v)::r else (k,x)::putF f v r) from rfl];by_cases hk:k=f
  .rw[YAM hk,YAd,YAd];omega
  .rw[YAI hk,YAd,YAd];omega
theorem RelO.some_of {v:V}{o:Option Value}(r:RelO (some v) o):∃u,o=some u/\RelV v u:=by
 cases o with
 | none=>exact(show False from r).elim
 | some u=>exact⟨u,rfl,r⟩
theorem RelO.none_of {o:Option Value}(r:RelO none o):o=none:=by
 cases o with
 | none=>rfl
 | some u=>exact(show False from r).elim
theorem Zi0 {v:V}{u:Value}(r:RelV v u):PySem.W.handedIn u=true:=by
 cases v with
 | non=>cases (show u=Value.none from r);rfl
 | bl b=>cases (show u=Value.bool b from r);rfl
 | int i=>obtain⟨t,e⟩:=(show ∃t,u=Value.int i t from r);cases e;rfl
 | str x=>obtain⟨t,e⟩:=(show ∃t,u=Value.str x t from r);cases e;rfl
 | byt b=>obtain⟨t,e⟩:=(show ∃t,u=Value.bytes b t from r);cases e;rfl
 | flt b=>obtain⟨t,e⟩:=(show ∃t,u=Value.float b t from r);cases e;rfl
 | ref a=>cases (show u=Value.ref a from r);rfl
 | ty n=>cases (show u=Value.type n from r);rfl
section
variable {P:AG}{w:AI}{H H':Hp}{h h':Heap}{a C dx:AD}{fs fs':List (Str×V)}
theorem ZeC (hok:HOk P w H h)(e:H a=some (.ins C dx fs)):∃mA,ObjM h a dx C mA/\(∀f,RelO (fs.lookup f) (mA f))/\PySem.Within mA (fs.map (·.1))/\fs.length<=1000/\H dx=some (.own a):=by obtain⟨d,z,ne,ob,mA,n,r,q⟩:=(show ObjOk P w H h a (.ins C dx fs) from hok a _ e);exact⟨mA,⟨ob,n,ne⟩,r,q,z,d⟩
end
structure Cls (K:Q4)(C:AD):Prop where
 pg:PySem.W.plainGet K C Str.empty=true
 hd:PySem.W.hasDictIn K C=true
 po:PySem.W.plainOver K C=true
 sa:PySem.W.findIn K (.ref C) "__setattr__"=some (some (.builtin "object.__setattr__"))
theorem Cls.get {K:Q4}{C:AD}(c:Cls K C)(f:Str):PySem.W.plainGet K C f=true:=c.pg
def NoAttr (K:Q4)(C:AD)(f:Str):Prop:=PySem.W.findIn K (.ref C) f=some none
theorem NoAttr.taker {K:Q4}{C:AD}{f:Str}(n:NoAttr K C f):PySem.W.takerIn K C f=some none:=by unfold PySem.W.takerIn;rw[show PySem.W.findIn K (.ref C) f=some none from n];rfl
structure Meth (K:Q4)(C:AD)(m:Str)(f:AD):Prop where
 at_:PySem.W.findIn K (.ref C) m=some (some (.ref f))
 fn:PySem.W.isFn K (.ref f)=true
 kp:PySem.W.keepIn K (.ref f)=true
section
variable {X:Cx}{BF:AA}{U:St}{H:Hp}{s:AE}{a C dx:AD}{fs:List (Str×V)}{f:Str}{v:V}{A:AH}{E:Q33}
theorem ZhQ {b:Bool}{Q:Q33}(I:Inv X BF U H s)(e:H a=some (.ins C dx fs))(c:Cls X.K C)(n:NoAttr X.K C f)(l:fs.lookup f=some v)
  (h:∀u s',Inv X BF U H s'->RelV v u->Q u s'):wpAny (model X.prog X.w) A (getAttr (.ref a) f b) Q E s:=by
 obtain⟨mA,O,r,_,_,_⟩:=ZeC I.hok e;obtain⟨u,hu,ru⟩:=RelO.some_of (v:=v) (o:=mA f) (by rw[<-l];exact r f);exact Zl2 I.kIn O (c.get f) c.hd n hu (Zi0 ru) (h u _ (I.tok _) ru)
theorem ZcV {m:Str}{g:AD}{pl:Sem Bool}{Q:Value×AC->AE->Prop}(I:Inv X BF U H s)(e:H a=some (.ins C dx fs))(c:Cls X.K C)(k:Meth X.K C m g)(l:fs.lookup m=none)
  (h:Q (.ref g,[.ref a]) s):wpAny (model X.prog X.w) A (getMethod (.ref a) m pl) Q E s:=by
 obtain⟨mA,O,r,_,_,_⟩:=ZeC I.hok e;have hn:mA m=none:=RelO.none_of (by rw[<-l];exact r m);exact Zkf I.kIn O (c.get m) k.at_ k.fn hn h
theorem Zhv {y:V}{u:Value}{Q:Unit->AE->Prop}(I:Inv X BF U H s)(e:H a=some (.ins C dx fs))(c:Cls X.K C)(n:NoAttr X.K C f)(hl:fs.length<1000)(ry:RelV y u)
  (h:∀s',Inv X BF U (upd H a (.ins C dx (putF f y fs))) s'->Q () s'):wpAny (model X.prog X.w) A (setAttr (.ref a) f u) Q E s:=by
 obtain⟨mA,O,r,wi,_,ho⟩:=ZeC I.hok e;have hz:(fs.map (·.1)).length<=sizeLine:=by rw[YAB,sizeLine_eq];omega
 refine Zlm I.kIn O c.sa c.po n.taker c.hd wi hz fun h' O' sb=>h _ ?_;have hd:∃o,h'.get? dx=some o:=let ⟨o,_,_,e',_⟩:=O'.ns;⟨o,e'⟩;refine I.write (x:=a) (e:=dx) (by rw[e];exact True.intro) (.inr ho) (fun b q hb z=>(sb.2 b hb).trans z) hd ?_;refine⟨by rw[Zai O.ne];exact ho,?_,O.ne,O'.obj,_,O'.ns,fun g=>?_,fun g hg=>?_⟩
 .have:=Zdw f y fs;omega
 .show RelO ((putF f y fs).lookup g) (if g=f then some u else mA g);rw[Zar];by_cases q:g=f
  .rw[YAM q,YAM q];exact ry
  .rw[YAI q,YAI q];exact r g
 .by_cases q:g=f
  .rw[q];exact(ZdA f y fs).1
  .refine(ZdA f y fs).2 g (wi g fun z=>hg ?_);show (if g=f then some u else mA g)=none;rw[YAI q];exact z
theorem Inv.made (I:Inv X BF U H s):Inv X BF U (upd (upd H s.heap.objs.size (.own (s.heap.objs.size+1))) (s.heap.objs.size+1) (.ins C s.heap.objs.size []))
  { s with heap:=(s.heap.push PySem.W.emptyDict).push (PySem.W.instObj C s.heap.objs.size) }:=by
 have e1:(s.heap.push PySem.W.emptyDict).get? s.heap.objs.size=some PySem.W.emptyDict:=YAU s.heap rfl;have e2:((s.heap.push PySem.W.emptyDict).push (PySem.W.instObj C s.heap.objs.size)).get? (s.heap.objs.size+1)=some (PySem.W.instObj C s.heap.objs.size):=by
  have:=YAU (s.heap.push PySem.W.emptyDict) (o:=PySem.W.instObj C s.heap.objs.size) rfl
  rwa [YBh]at this
 have e3:(s.heap.push PySem.W.emptyDict).Ns s.heap.objs.size (fun _=>none):=⟨PySem.W.emptyDict,#[],_,e1,rfl,(fun e he=>absurd he (by simp)),fun _=>rfl⟩;have I1:=I.laid (a:=s.heap.objs.size) (o:=.own (s.heap.objs.size+1)) (h':=s.heap.push PySem.W.emptyDict) (t':=s.toks) (fun b u q=>YAE _ q) (YAS _) ⟨_,e1⟩;refine I1.laid (a:=s.heap.objs.size+1) (o:=.ins C s.heap.objs.size []) (t':=s.toks) (fun b u q=>YAE _ q) (YCU (YBh _ _)) ?_;have ne:s.heap.objs.size≠s.heap.objs.size+1:=YAf (Nat.lt_succ_self _);refine⟨by rw[Zai ne,Zag],YAv _,ne,e2,fun _=>none,(Heap.Ns1.of_empty e3).at fun o q=>YAE _ q,fun _=>True.intro,fun y hy=>absurd rfl hy⟩
theorem Zmn {prog:AG}{w:AI}{env:Env}{e:Expr}{f:Str}{pos:Pos}{s:AE}{Q:Q33}(hb:attributeBase e f env (eval e env)=eval e env)
  (h:wpAny (model prog w) A (eval e env) (fun o s_1=>wpAny (model prog w) A (getAttr o f true) Q E s_1) E s):wpAny (model prog w) A (eval (.Attribute e f pos) env) Q E s:=
 Attribute_any_ h (by rw[arm_eval_Attribute,hb])
end
def tFld (K:Q4)(ta:TE)(f:Str):TE:=fun U H Q=>ta U H fun x H1=>∃a C dx fs v,x=.ref a/\H1 a=some (.ins C dx fs)/\Cls K C/\NoAttr K C f/\fs.lookup f=some v/\Q v H1
def sFld (K:Q4)(ta tv:TE)(f:Str):TS:=fun D U H=>tv U H fun y H1=>ta U H1 fun x H2=>∃a C dx fs,x=.ref a/\H2 a=some (.ins C dx fs)/\Cls K C/\NoAttr K C f/\fs.length<1000 /\
 D.nx U (upd H2 a (.ins C dx (putF f y fs)))
section
variable {X:Cx}{o e value:Expr}{f:Str}{pos pos' tpos:Pos}{ta tv:TE}
theorem Znl (he:PE X e ta)(hb:attributeBase e f X.env (eval e X.env)=eval e X.env):PE X (.Attribute e f pos) (tFld X.K ta f):=by intro BF s U H Q I h;refine Zmn hb (thn (he BF s U H _ I h) fun u s1 zz=>?_);obtain⟨x,H1,I1,rx,a,C,dx,fs,v,ex,ea,c,n,l,q⟩:=zz;subst ex;obtain rfl:u=Value.ref a:=rx;exact ZhQ I1 ea c n l fun u' s2 I2 ru=>⟨v,H1,I2,ru,q⟩
theorem ZdX (ha:PE X o ta)(hv:PE X value tv)(hs:swapsWith value (some (.Attribute o f pos')) pos.line X.env=pure false):PS X (.Assign [.Attribute o f pos'] value pos) (sFld X.K ta tv f):=by intro BF s U H D I h;refine plainObj_wpAny_Assign_Attribute (thn (hv BF s U H _ I h) fun u s1 ⟨y,H1,I1,ry,q⟩=>thn (ha BF s1 U H1 _ I1 q) fun ov s2 zz=>?_) hs;obtain⟨x,H2,I2,rx,a,C,dx,fs,ex,ea,c,n,l,q2⟩:=zz;subst ex;obtain rfl:ov=Value.ref a:=rx;exact Zhv I2 ea c n l ry fun s3 I3=>⟨U,_,I3,q2⟩
theorem ZlL {pl:Sem Bool}{m:Str}{BK:Pos}{args:List Expr}{BF:AA}{s:AE}{U:St}{H:Hp}{Q:Q33}{te:TE}(he:PE X e te)(I:Inv X BF U H s)
  (h:te U H fun x H1=>∃a C dx fs g,x=.ref a/\H1 a=some (.ins C dx fs)/\Cls X.K C/\Meth X.K C m g/\fs.lookup m=none /\
   ∀s1,Inv X BF U H1 s1->wpAny (model X.prog X.w) X.A (callWith pos (.ref g) [.ref a] (backTo pos (starEach args X.env)) (backToKw pos (keywordEach [] X.env))) Q X.xe s1)
  (ht:eval (.Call (.Attribute e m BK) args [] pos) X.env=(do
   let ov <-eval e X.env
   standAt BK.atName
   let (f,first) <-holding [ov] (getMethod ov m pl)
   callWith pos f first (backTo pos (starEach args X.env)) (backToKw pos (keywordEach [] X.env)))):
  wpAny (model X.prog X.w) X.A (eval (.Call (.Attribute e m BK) args [] pos) X.env) Q X.xe s:=by
 refine YDN (pl:=pl) (thn (he BF s U H _ I h) fun u s1 zz=>?_) ht;obtain⟨x,H1,I1,rx,a,C,dx,fs,g,ex,ea,c,k,l,q⟩:=zz;subst ex;obtain rfl:u=Value.ref a:=rx;exact ZcV I1 ea c k l (q s1 I1)
end
section
variable {X:Cx}{BF:AA}{U:St}{H:Hp}{s:AE}{A:AH}{E:Q33}{Q:Q33}{c:Value}{b:Bool}
inductive TyOf (K:Q4) (H:Hp):V->Value->Prop where
 | non:TyOf K H .non (.type "NoneType")
 | bl (x:Bool):TyOf K H (.bl x) (.type "bool")
 | int (i:Int):TyOf K H (.int i) (.type "int")
 | str (x:Str):TyOf K H (.str x) (.type "str")
 | flt (x:UInt64):TyOf K H (.flt x) (.type "float")
 | lst {a:AD} {xs:List V} (e:H a=some (.lst xs)):TyOf K H (.ref a) (.type "list")
 | frz {a:AD} {o:Obj} {xs:List V} (e:H a=some (.frz o (.lst xs))):TyOf K H (.ref a) (.type "list")
 | tup {a:AD} {xs:List V} (e:H a=some (.tup xs)):TyOf K H (.ref a) (.type "tuple")
 | dK {a:AD} {kvs:List (Key×V)} (e:H a=some (.dK kvs)):TyOf K H (.ref a) (.type "dict")
 | dT {a:AD} {kvs:List (List Key×V)} (e:H a=some (.dT kvs)):TyOf K H (.ref a) (.type "dict")
 | ins {a C dx:AD} {fs:List (Str×V)} (e:H a=some (.ins C dx fs)) (cl:Cls K C) (ha:PySem.W.findIn K (.ref C) "__class__"=some (some (.builtin "object.__class__")))
   (hn:PySem.W.specialIn K (.builtin "object.__class__") "__get__"=some (some (.builtin "getset_descriptor.__get__"))) (htk:PySem.W.takesIn K (.builtin "object.__class__")=some true)
   (hm:PySem.W.mroIn K C (.type "object")=some true):TyOf K H (.ref a) (.ref C)
theorem ZiU {x:V}{u t:Value}(I:Inv X BF U H s)(rx:RelV x u)(ty:TyOf X.K H x t)(e:PySem.W.kitOne X.K t c=some b)(h:∀tk,Q (.bool b) { s with toks:=tk }):
  wpAny (model X.prog X.w) A (call (.builtin "isinstance") [u,c]) Q E s:=by
 cases ty with
 | non=>cases (show u=Value.none from rx);exact YBP PySem.W.kitx_none I.kIn True.intro e (fun z=>nomatch z) h
 | bl y=>cases (show u=Value.bool y from rx);exact YBP PySem.W.kitx_bool I.kIn True.intro e (fun z=>nomatch z) h
 | int i=>obtain⟨t,q⟩:=(show ∃t,u=Value.int i t from rx);cases q;exact YBP PySem.W.kitx_int I.kIn True.intro e (fun z=>nomatch z) h
 | str y=>obtain⟨t,q⟩:=(show ∃t,u=Value.str y t from rx);cases q;exact YBP PySem.W.kitx_str I.kIn True.intro e (fun z=>nomatch z) h
 | flt y=>obtain⟨t,q⟩:=(show ∃t,u=Value.float y t from rx);cases q;exact YBP PySem.W.kitx_float I.kIn True.intro e (fun z=>nomatch z) h
 | @lst a xs ea=>
  cases (show u=Value.ref a from rx);obtain⟨_,_,n,_,h1⟩:=(show ObjOk X.prog X.w H s.heap a (.lst xs) from I.hok a _ ea);exact YBP PySem.W.kitx_list I.kIn ⟨_,h1,rfl⟩ e (fun z=>nomatch z) h
 | @frz a ob xs ea=>
  cases (show u=Value.ref a from rx);obtain⟨_,_,_,n,_,h1⟩:=(show ObjOk X.prog X.w H s.heap a (.frz ob (.lst xs)) from I.hok a _ ea);exact YBP PySem.W.kitx_list I.kIn ⟨_,h1,rfl⟩ e (fun z=>nomatch z) h
 | @tup a xs ea=>
  cases (show u=Value.ref a from rx);obtain⟨_,_,_,p⟩:=(show ObjOk X.prog X.w H s.heap a (.tup xs) from I.hok a _ ea);obtain⟨o,h1,h2,_⟩:=p;exact YBP PySem.W.kitx_tuple I.kIn ⟨o,h1,h2⟩ e (fun z=>nomatch z) h
 | @dK a kvs ea=>
  cases (show u=Value.ref a from rx);obtain⟨_,_,vs,_,p⟩:=(show ObjOk X.prog X.w H s.heap a (.dK kvs) from I.hok a _ ea);obtain⟨o,es,ep,h1,h2,_⟩:=p;exact YBP PySem.W.kitx_dict I.kIn ⟨o,h1,h2.1⟩ e (fun z=>nomatch z) h
 | @dT a kvs ea=>
  cases (show u=Value.ref a from rx);obtain⟨_,_,xs,_,o,es,ep,h1,h2,_⟩:=(show ObjOk X.prog X.w H s.heap a (.dT kvs) from I.hok a _ ea);exact YBP PySem.W.kitx_dict I.kIn ⟨o,h1,h2.1⟩ e (fun z=>nomatch z) h
 | @ins a C dx fs ea cl ha hn htk hm=>
  cases (show u=Value.ref a from rx);obtain⟨mA,O,_⟩:=ZeC I.hok ea;obtain⟨od,J,_⟩:=O.look;exact YBP (PySem.W.kitx_own (cl.get _) cl.hd ha hn htk hm) I.kIn J e (fun z=>nomatch z) h
end
structure Room (k:Nat)(A:AH):Prop where
 hd:A.handled=none
 dp:A.depth+3*k+5<recursionLimit
 un:A.units+16*k+200<cLine
theorem Room.mono {j k:Nat}{A:AH}(r:Room k A)(h:j<=k):Room j A:=⟨r.hd,by have:=r.dp;omega,by have:=r.un;omega⟩
theorem Room.deeper {k:Nat}{A:AH}(r:Room (k+1) A)(env:Env):Room k (A.deeper env):=
 ⟨r.hd,by have:=r.dp;show A.depth+1+3*k+5<_;omega,by have:=r.un;show A.units+3+16*k+200<_;omega⟩
theorem ZhH {A:AH}{C:AD}{us:AC}{kw:List (Str×Value)}:(A.under (.builtin "type.__call__" ⟨.ref C::us,kw⟩)).depth=A.depth+1:=by
 first | rfl | simp[Around.under,Code.weight,Code.isCreation,Code.isGuard,Code.isCaller,Code.frames,Code.isFrame,guardIds]
theorem ZhG {A:AH}{C:AD}{us:AC}{kw:List (Str×Value)}:(A.under (.builtin "type.__call__" ⟨.ref C::us,kw⟩)).units=A.units+1:=by
 first | rfl | simp[Around.under,Code.cUnits,Code.frames,Code.isFrame]
theorem Room.make {k:Nat}{A:AH}(r:Room (k+1) A)(C:AD)(us:AC)(kw:List (Str×Value)):Room k (A.under (.builtin "type.__call__" ⟨.ref C::us,kw⟩)):=
 ⟨r.hd,by have:=r.dp;rw[ZhH];omega,by have:=r.un;rw[ZhG];omega⟩
theorem Room.depth {k:Nat}{A:AH}(r:Room k A):A.depth<recursionLimit:=by have:=r.dp;omega
theorem Room.units {k:Nat}{A:AH}(r:Room k A):A.units+64<cLine:=by have:=r.un;omega
def tNil:TA:=fun _ H Q=>Q [] H
def Zjw (ta:TE)(tr:TA):TA:=fun U H Q=>ta U H fun x H1=>tr U H1 fun xs H2=>Q (x::xs) H2
section
variable {X:Cx}{e:Expr}{es:List Expr}{te:TE}{t:TA}{pos:Pos}
theorem Zac:PA X [] tNil:=fun _ _ _ _ H Q I h=>YDL ⟨[],H,I,.nil,h⟩
theorem Zaa (ha:PE X e te)(hr:PA X es t)(hs:starEach (e::es) X.env=(false,eval e X.env)::starEach es X.env:=by rfl):PA X (e::es) (Zjw te t):=by intro pos BF s U H Q I h;rw[hs];show wpAny _ _ (spliced ((false,eval e X.env)::backTo pos (starEach es X.env))) _ _ s;refine YCN (thn (ha BF s U H _ I h) fun u s1 zz=>?_);obtain⟨x,H1,I1,r1,q1⟩:=zz;exact thn (hr pos BF s1 U H1 _ I1 q1) fun us s2 ⟨xs,H2,I2,r2,q2⟩=>⟨x::xs,H2,I2,.cons r1 r2,q2⟩
def tTup (t:TA):TE:=fun U H Q=>t U H fun xs H1=>xs.length<=sizeLine/\∀p,H1 p=none->Q (.ref p) (upd H1 p (.tup xs))
def tLst (t:TA):TE:=fun U H Q=>t U H fun xs H1=>xs.length<=sizeLine/\∀p,H1 p=none->Q (.ref p) (upd H1 p (.lst xs))
theorem Zbd {x1}(h:PA X es t):PE X (.Tuple es x1 pos) (tTup t):=by intro BF s U H Q I hq;refine wpAny_Tuple_spliced (thn (h pos BF s U H _ I hq) fun us s1 ⟨xs,H1,I1,r,z,q⟩=>⟨by rw[<-r.length];exact z,?_⟩);have hf:H1 s1.heap.objs.size=none:=I1.hok.fresh (YAS _);refine⟨.ref s1.heap.objs.size,upd H1 s1.heap.objs.size (.tup xs),I1.laid (t':=s1.toks) (fun b u e=>YAE _ e) (YAS _) ?_,rfl,q _ hf⟩;exact⟨z,us,r,⟨_,YAU _ rfl,rfl,_,rfl⟩⟩
theorem ZbL (h:PA X es t):PE X (.List es pos) (tLst t):=by intro BF s U H Q I hq;refine wpAny_List_spliced (thn (h pos BF s U H _ I hq) fun us s1 ⟨xs,H1,I1,r,z,q⟩=>⟨by rw[<-r.length];exact z,?_⟩);have hf:H1 s1.heap.objs.size=none:=I1.hok.fresh (YAS _);refine⟨.ref s1.heap.objs.size,upd H1 s1.heap.objs.size (.lst xs),I1.laid (t':=s1.toks) (fun b u e=>YAE _ e) (YAS _) ?_,rfl,q _ hf⟩;exact⟨z,us,0,r,YAU _ rfl⟩
end
abbrev Sp:=List V->Hp->VK->XK->Prop
abbrev CXT:=List Env->Hp->AE->XK->Value->AE->Prop
structure Env0 (P:AG)(w:AI)(K:Q4)(mg:AB)(base:Heap)(A:AH)(outer:List Env)(s:AE)(H:Hp):Prop where
 frames:A.frames=some outer
 mod:Mod K mg base
 bs:∀b o,base.get? b=some o->s.heap.get? b=some o/\H b=none
 bsz:base.objs.size<=s.heap.objs.size
 funs:s.heap.FunFrames base outer
 frf:∀b∈frs outer,H b=none
 hok:HOk P w H s.heap
 bare:AllBare s.gens
def CE (outer:List Env)(P:AG)(w:AI)(H:Hp)(s:AE)(Q:VK)(u:Value)(s':AE):Prop:=
 ∃v H',s'.os=s.os/\AllBare s'.gens/\Un (frs outer) [] H H' s.heap s'.heap/\HOk P w H' s'.heap/\RelV v u/\Q v H'
def CR (CX:CXT)(outer:List Env)(P:AG)(w:AI)(H:Hp)(s:AE)(Q:VK)(E:XK)(r:Result)(s':AE):Prop:=
 match r with
 | .ok (.ret u)=>CE outer P w H s Q u s'
 | .ok _=>False
 | .error e=>CX outer H s E e s'
structure FnOk (P:AG)(w:AI)(K:Q4)(mg:AB)(base:Heap)(CX:CXT)(k:Nat)(f:AD)(fd:AF)(ps:AJ)(sp:Sp):Prop where
 len:∀vs H Q E,sp vs H Q E->vs.length=ps.length
 run:∀(A:AH) (outer:List Env) (s:AE) (H:Hp) (args:Args) (us:AC) (vs:List V) (Q:VK) (E:XK),Room k A->Env0 P w K mg base A outer s H->BindsTo s fd args (ps.zip us)->Vals vs us->sp vs H Q E ->
  codeAny (model P w) A (.call (.ref f) args) (CR CX outer P w H s Q E) s
theorem Env0.make {P:AG}{w:AI}{K:Q4}{mg:AB}{base:Heap}{A:AH}{outer:List Env}{s:AE}{H:Hp}(e:Env0 P w K mg base A outer s H)(C:AD)(us:AC)(kw:List (Str×Value)):
  Env0 P w K mg base (A.under (.builtin "type.__call__" ⟨.ref C::us,kw⟩)) outer s H:=⟨by first | exact e.frames | (simpa [Around.under,Code.envs,Code.isFrame,pushEnvs] using e.frames),e.mod,e.bs,e.bsz,e.funs,e.frf,e.hok,e.bare⟩
section
variable {X:Cx}{BF:AA}{U:St}{H:Hp}{s s':AE}
theorem Inv.env0 (I:Inv X BF U H s):Env0 X.prog X.w X.K X.mg X.base X.A X.stack s H:=
 ⟨I.ok.frames,I.ok.mod,I.bs,YAK I.ok.bsz I.sz,I.stack,I.stkFree,I.hok,I.bare⟩
theorem Inv.after {Q:VK}{u:Value}(I:Inv X BF U H s)(h:CE X.stack X.prog X.w H s Q u s'):EP X BF U Q u s':=by obtain⟨v,H',os,bare,un,hok,r,q⟩:=h;obtain⟨hh,g,d,t,os'⟩:=s';obtain rfl:os'=s.os:=os;exact⟨v,H',I.call (h':=hh) (g':=g) (d':=d) (t':=t) (ch:=[]) un hok bare (fun b z=>absurd z (by simp)),r,q⟩
end
def Zlh (sp:Sp)(BO:List V)(E:XK)(t:TA):TE:=fun U H Q=>t U H fun vs H1=>sp (vs++BO) H1 Q E
def Zle (C:AD)(m:Str)(sp:Sp)(BO:List V)(E:XK)(ta:TE)(t:TA):TE:=fun U H Q=>ta U H fun x H1=>∃a dx fs,x=.ref a/\H1 a=some (.ins C dx fs)/\fs.lookup m=none /\
 t U H1 fun vs H2=>sp (x::(vs++BO)) H2 Q E
def ZmJ (C:AD)(sp:Sp)(BO:List V)(E:XK)(t:TA):TE:=fun U H Q=>t U H fun vs H1=>∀x dx,H1 x=none->H1 dx=none->dx≠x ->
 sp (.ref x::(vs++BO)) (upd (upd H1 dx (.own x)) x (.ins C dx [])) (fun v H2=>v=.non/\Q (.ref x) H2) E
def Binds (K:Q4)(fd:AF)(ps:AJ)(ds:AC):Prop:=
 ∀(s:AE) (us:AC),K.In s.heap->(us++ds).length=ps.length->BindsTo s fd ⟨us,[]⟩ (ps.zip (us++ds))
theorem Binds.all {K:Q4}{fd:AF}{ps:AJ}(h:∀us:AC,us.length=ps.length->bindArgs fd ⟨us,[]⟩=pure (ps.zip us)):Binds K fd ps []:=fun s us _ hl=>by rw[YCh]at hl ⊢;exact .of_eq (h us hl)
def Zcl (CX:CXT)(X:Cx)(E:XK):Prop:=∀(BF:AA) (U:St) (H:Hp) (s:AE) (e:Value) (s':AE),Inv X BF U H s->CX X.stack H s E e s'->X.xe e s'
section
variable {X:Cx}{CX:CXT}{k:Nat}{f C:AD}{fd:AF}{ps:AJ}{sp:Sp}{BO:List V}{ds:AC}{E:XK}{x m:Str}{p pos BK:Pos}{e o:Expr}{es:List Expr}{ta:TE}{t:TA}
theorem ZgF {BF:AA}{U:St}{H:Hp}{s:AE}{Q:VK}{us:AC}{vs:List V}(F:FnOk X.prog X.w X.K X.mg X.base CX k f fd ps sp)(hr:Room k X.A)(hb:Binds X.K fd ps ds)(hd:Vals BO ds)(hx:Zcl CX X E)
  (I:Inv X BF U H s) (r:Vals vs us) (h:sp (vs++BO) H Q E):wpAny (model X.prog X.w) X.A (call (.ref f) us) (EP X BF U Q) X.xe s:=by
 have r2:Vals (vs++BO) (us++ds):=r.append hd;have hl:(us++ds).length=ps.length:=by rw[<-r2.length];exact F.len _ _ _ _ h
 refine YCx (codeAny_mono (F.run X.A X.stack s H ⟨us,[]⟩ (us++ds) (vs++BO) Q E hr I.env0 (hb s us I.kIn hl) r2 h) fun r s' hq=>?_);cases r with
 | error e=>exact hx BF U H s e s' I hq
 | ok fl=>
  cases fl with
  | ret u=>exact I.after hq
  | next=>exact False.elim hq
  | brk=>exact False.elim hq
  | cont=>exact False.elim hq
theorem Zal (F:FnOk X.prog X.w X.K X.mg X.base CX k f fd ps sp)(hr:Room k X.A)(hg:Gl X x)(hm:X.mg x=some (.ref f))(hk:PySem.W.keepIn X.K (.ref f)=true)(hb:Binds X.K fd ps ds)(hd:Vals BO ds)(hx:Zcl CX X E)
  (ha:PA X (e::es) t) (hdb:(x == ("__debug__":Str))=false:=by decide) (he:starEach (e::es) X.env=(false,eval e X.env)::starEach es X.env:=by rfl) (hpl:(backTo pos (starEach es X.env)).any (·.1)=false:=by rfl):
  PE X (.Call (.Name x p) (e::es) [] pos) (Zlh sp BO E t):=by
 intro BF s U H Q I h;refine YBf (Zco I hg hm ?_ hdb);refine YCZ (h₀:=X.base) I.ok.mod.kin hk (thn (ha pos BF s U H _ I h) fun us s1 ⟨vs,H1,I1,r,q⟩=>⟨I1.kIn,?_⟩) he hpl;exact ZgF F hr hb hd hx I1 r q
theorem ZbR {pl:Sem Bool}(he:PE X o ta)(c:Cls X.K C)(hm:Meth X.K C m f)(F:FnOk X.prog X.w X.K X.mg X.base CX k f fd ps sp)(hr:Room k X.A)(hb:Binds X.K fd ps ds)(hd:Vals BO ds)(hx:Zcl CX X E)(ha:PA X (e::es) t)
  (hst:starEach (e::es) X.env=(false,eval e X.env)::starEach es X.env:=by rfl) (hpl:(backTo pos (starEach es X.env)).any (·.1)=false:=by rfl)
  (ht:eval (.Call (.Attribute o m BK) (e::es) [] pos) X.env=(do
   let ov <-eval o X.env
   standAt BK.atName
   let (f,first) <-holding [ov] (getMethod ov m pl)
   callWith pos f first (backTo pos (starEach (e::es) X.env)) (backToKw pos (keywordEach [] X.env))):=by rfl):
  PE X (.Call (.Attribute o m BK) (e::es) [] pos) (Zle C m sp BO E ta t):=by
 intro BF s U H Q I h;refine YDN (pl:=pl) (thn (he BF s U H _ I h) fun u s1 zz=>?_) ht;obtain⟨x,H1,I1,rx,a,dx,fs,ex,ea,l,q⟩:=zz;subst ex;obtain rfl:u=Value.ref a:=rx;refine ZcV I1 ea c hm l ?_;refine YCZ (first:=[.ref a]) (h₀:=X.base) I.ok.mod.kin hm.kp (thn (ha pos BF s1 U H1 _ I1 q) fun us s2 ⟨vs,H2,I2,r,q2⟩=>⟨I2.kIn,?_⟩) hst hpl;exact ZgF (us:=.ref a::us) (vs:=.ref a::vs) F hr hb hd hx I2 (.cons rfl r) q2
theorem Zbk {pl:Sem Bool}(he:PE X o ta)(c:Cls X.K C)(hm:Meth X.K C m f)(F:FnOk X.prog X.w X.K X.mg X.base CX k f fd ps sp)(hr:Room k X.A)(hb:Binds X.K fd ps ds)(hd:Vals BO ds)(hx:Zcl CX X E)
  (ht:eval (.Call (.Attribute o m BK) [] [] pos) X.env=(do
   let ov <-eval o X.env
   standAt BK.atName
   let (f,first) <-holding [ov] (getMethod ov m pl)
   callWith pos f first (backTo pos (starEach [] X.env)) (backToKw pos (keywordEach [] X.env))):=by rfl):
  PE X (.Call (.Attribute o m BK) [] [] pos) (Zle C m sp BO E ta tNil):=by
 intro BF s U H Q I h;refine YDN (pl:=pl) (thn (he BF s U H _ I h) fun u s1 zz=>?_) ht;obtain⟨x,H1,I1,rx,a,dx,fs,ex,ea,l,q⟩:=zz;subst ex;obtain rfl:u=Value.ref a:=rx;refine ZcV I1 ea c hm l ?_;exact PySem.W.callWith_K0 (first:=[.ref a]) I1.kIn hm.kp (ZgF (us:=[.ref a]) (vs:=[.ref a]) F hr hb hd hx I1 (.cons rfl .nil) q)
structure Mk (K:Q4)(C f:AD):Prop where
 makes:PySem.W.makesIn K C=true
 init:PySem.W.findIn K (.ref C) "__init__"=some (some (.ref f))
 fn:PySem.W.isFn K (.ref f)=true
 kp:PySem.W.keepIn K (.ref C)=true
theorem ZjI {BF:AA}{U:St}{H:Hp}{s:AE}{Q:VK}{us:AC}{vs:List V}(M:Mk X.K C f)(F:FnOk X.prog X.w X.K X.mg X.base CX k f fd ps sp)(hr:Room (k+1) X.A)(hb:Binds X.K fd ps ds)(hd:Vals BO ds)
  (hx:Zcl CX X E) (I:Inv X BF U H s) (r:Vals vs us)
  (h:∀x dx,H x=none->H dx=none->dx≠x->sp (.ref x::(vs++BO)) (upd (upd H dx (.own x)) x (.ins C dx [])) (fun v H2=>v=.non/\Q (.ref x) H2) E):
  wpAny (model X.prog X.w) X.A (call (.ref C) us) (EP X BF U Q) X.xe s:=by
 have hq:=h (s.heap.objs.size+1) s.heap.objs.size (I.hok.fresh (YDK _)) (I.hok.fresh (YAS _)) (YAf (Nat.lt_succ_self _));have I2:=Inv.made (C:=C) I;have r2:Vals (V.ref (s.heap.objs.size+1)::(vs++BO)) (Value.ref (s.heap.objs.size+1)::(us++ds)):=.cons rfl (r.append hd);have hl:(Value.ref (s.heap.objs.size+1)::us++ds).length=ps.length:=by have e:=r2.length;rw[F.len _ _ _ _ hq]at e;exact e.symm
 refine YCx (Zj1 (f:=f) I.kIn M.makes M.init (beq_iff_eq.mp M.fn) (codeAny_mono (F.run _ X.stack _ _ ⟨Value.ref (s.heap.objs.size+1)::us,[]⟩ (Value.ref (s.heap.objs.size+1)::(us++ds)) _ _ E (hr.make C us [])
  (I2.env0.make C us []) (hb _ (Value.ref (s.heap.objs.size+1)::us) I2.kIn hl) r2 hq) fun r s' hq'=>?_))
 cases r with
 | error e=>exact hx BF U _ _ e s' I2 hq'
 | ok fl=>
  cases fl with
  | ret u=>
   obtain⟨v,H',I3,rv,ev,q3⟩:=I2.after hq';subst ev;exact⟨rv,⟨V.ref (s.heap.objs.size+1),H',I3,rfl,q3⟩⟩
  | next=>exact False.elim hq'
  | brk=>exact False.elim hq'
  | cont=>exact False.elim hq'
theorem Zgb (M:Mk X.K C f)(F:FnOk X.prog X.w X.K X.mg X.base CX k f fd ps sp)(hr:Room (k+1) X.A)(hg:Gl X x)(hm:X.mg x=some (.ref C))(hb:Binds X.K fd ps ds)(hd:Vals BO ds)(hx:Zcl CX X E)
  (ha:PA X (e::es) t) (hdb:(x == ("__debug__":Str))=false:=by decide) (he:starEach (e::es) X.env=(false,eval e X.env)::starEach es X.env:=by rfl) (hpl:(backTo pos (starEach es X.env)).any (·.1)=false:=by rfl):
  PE X (.Call (.Name x p) (e::es) [] pos) (ZmJ C sp BO E t):=by
 intro BF s U H Q I h;refine YBf (Zco I hg hm ?_ hdb);refine YCZ (h₀:=X.base) I.ok.mod.kin M.kp (thn (ha pos BF s U H _ I h) fun us s1 ⟨vs,H1,I1,r,q⟩=>⟨I1.kIn,?_⟩) he hpl;exact ZjI M F hr hb hd hx I1 r q
end
section
variable {X:Cx}{CX:CXT}{k:Nat}{f C:AD}{fd:AF}{ps ks:AJ}{sp:Sp}{E:XK}{x m:Str}{p pos BK kpos:Pos}{e o:Expr}{es:List Expr}{kws:List Keyword}{te ta:TE}{t tk:TA}{nm:Option Str}
variable {g:AC->AC->AC}{gV:List V->List V->List V}
end
structure FnScope (N P:AJ)(sc:Scope):Prop where
 kind:sc.kind=.function
 co:sc.isCoroutine=false
 gen:sc.isGenerator=false
 nd:N.Nodup
 pre:N.take P.length=P
 par:∀x∈P,sc.names.lookup x=some .local\/sc.names.lookup x=some .cell
 nofree:∀y∈sc.names,y.2≠.free
theorem ZfP {kindOf:Str->Option NameKind}{x:Str}:∀ {binds:List (Str×Value)} {m:AB},(∀v,(x,v)∉binds)->bindL kindOf binds m x=m x
 | [],_,_=>rfl
 | (n,v)::r,m,h=>by
  unfold bindL;rw[ZfP fun w hw=>h w (YAP _ hw)];split
  .have:x≠n:=by rintro rfl;exact h v YAY
   simp[this]
  .rfl
theorem ZfS {kindOf:Str->Option NameKind}{x:Str}:∀ {binds:List (Str×Value)} {m:AB},(∀v,(x,v)∉binds)->bindC kindOf binds m x=m x
 | [],_,_=>rfl
 | (n,v)::r,m,h=>by
  unfold bindC;rw[ZfS fun w hw=>h w (YAP _ hw)];split
  .rfl
  .have:x≠n:=by rintro rfl;exact h v YAY
   simp[this]
theorem ZfR {kindOf:Str->Option NameKind}{x:Str}{v:Value}:∀ {P:AJ} {vs:AC} {i:Nat} {m:AB},P.Nodup->P[i]?=some x->vs[i]?=some v->kindOf x=some .local ->
  bindL kindOf (P.zip vs) m x=some v
 | [],_,_,_,_,h,_,_=>by simp at h
 | _::_,[],_,_,_,_,h,_=>by simp at h
 | p::P,w::vs,0,m,nd,h1,h2,hk=>by
  simp at h1 h2;subst h1;subst h2;show bindL kindOf ((p,w)::P.zip vs) m p=_;unfold bindL;rw[ZfP fun v hv=>(YBU.mp nd).1 (List.of_mem_zip hv).1,YAM hk];simp
 | p::P,w::vs,i+1,m,nd,h1,h2,hk=>by show bindL kindOf ((p,w)::P.zip vs) m x=_;unfold bindL;exact ZfR (i:=i) (YBU.mp nd).2 (by simpa using h1) (by simpa using h2) hk
theorem ZfT {kindOf:Str->Option NameKind}{x:Str}{v:Value}:∀ {P:AJ} {vs:AC} {i:Nat} {m:AB},P.Nodup->P[i]?=some x->vs[i]?=some v->kindOf x≠some .local ->
  bindC kindOf (P.zip vs) m x=some v
 | [],_,_,_,_,h,_,_=>by simp at h
 | _::_,[],_,_,_,_,h,_=>by simp at h
 | p::P,w::vs,0,m,nd,h1,h2,hk=>by
  simp at h1 h2;subst h1;subst h2;show bindC kindOf ((p,w)::P.zip vs) m p=_;unfold bindC;rw[ZfS fun v hv=>(YBU.mp nd).1 (List.of_mem_zip hv).1,YAI hk];simp
 | p::P,w::vs,i+1,m,nd,h1,h2,hk=>by show bindC kindOf ((p,w)::P.zip vs) m x=_;unfold bindC;exact ZfT (i:=i) (YBU.mp nd).2 (by simpa using h1) (by simpa using h2) hk
noncomputable def start (N:AJ)(vs:List V):St:=vs.map some++List.replicate (N.length-vs.length) none
noncomputable def cxOf (CX:CXT)(P:AG)(w:AI)(K:Q4)(mg:AB)(base:Heap)(N:AJ)(qual:Str)(scope:Scope)(f:AD)(cd:Value)(A:AH)(outer:List Env)(s:AE)(H:Hp)(E:XK):Cx where
 prog:=P
 w:=w
 K:=K
 mg:=mg
 base:=base
 A:=A.deeper (envOfC qual scope s.heap.objs.size f cd)
 N:=N
 s_0:=s
 H_0:=H
 env:=envOfC qual scope s.heap.objs.size f cd
 outer:=outer
 stack:=envOfC qual scope s.heap.objs.size f cd::outer
 ex:=[]
 calm:=true
 fn:=fun _=>true
 pn:=[]
 xe:=fun e s'=>wpAny (model P w) (A.deeper (envOfC qual scope s.heap.objs.size f cd)) (leaving (envOfC qual scope s.heap.objs.size f cd) e) (fun _ s''=>CX outer H s E e s'') (fun e' s''=>CX outer H s E e' s'') s'
theorem Zhi {sc:Scope}{n:Nat}{x:Str}(h:sc.names.lookup x=some .cell):∃c,(cellsFrom n sc.names []).lookup x=some c:=by have q:=PySem.W.cellsFrom_some sc.names n [] (.inl h);exact YCy.mp q
theorem ZiV {CX:CXT}{P:AG}{w:AI}{K:Q4}{mg:AB}{base:Heap}{N ps:AJ}{qual:Str}{scope:Scope}{f:AD}{cd:Value}{A:AH}{outer:List Env}{s s1:AE}{H:Hp}{E:XK}{us:AC}{vs:List V}
  (S:FnScope N ps scope) (hd:A.handled=none) (e0:Env0 P w K mg base A outer s H) (hl:vs.length=ps.length) (r:Vals vs us)
  (x:InCallC s s.heap.objs.size (bindL (envOfC qual scope s.heap.objs.size f cd).kindOf (ps.zip us) fun _=>none) (cellsFrom (s.heap.objs.size+1) scope.names []) (bindC (envOfC qual scope s.heap.objs.size f cd).kindOf (ps.zip us) fun _=>none) s1):
  Inv (cxOf CX P w K mg base N qual scope f cd A outer s H E) [] (start N vs) H s1:=by
 have hpl:ps.length<=N.length:=by have:=congrArg List.length S.pre;rw[YAZ]at this;omega
 obtain⟨h1,tk,rfl,hk⟩:=x.done;have noA:∀b:AD,b∉(cxOf CX P w K mg base N qual scope f cd A outer s H E).ex:=fun b z=>absurd (show b∈([]:List AD) from z) (by simp);refine⟨⟨e0.mod,S.kind,rfl,rfl,YAS _,fun y z c h1 h2=>?_,fun y hy=>?_,fun y c _ h=>?_,fun _=>hd,Around.frames_deeper e0.frames,.inr ⟨rfl,rfl⟩,fun b z=>absurd z (noA b),e0.bs,e0.bsz,fun b _ _=>noA b,fun b z=>absurd z (noA b),e0.funs,e0.frf⟩,
  rfl,e0.bare,Un.kept hk,⟨_,x.toInCall.ns,fun i y v h1 h2 h3=>?_⟩,fun y c h=>⟨_,x.cell y c h⟩,e0.hok.fresh (YAS _),fun y c h=>?_,fun p hp=>absurd (show p∈([]:AA) from hp) (by simp),e0.hok.kept hk,?_⟩
 .exact name_of_addr x.apart (YBw h1) (YBw h2)
 .have hy:scope.names.lookup y=some .cell\/scope.names.lookup y=some .free:=hy;rcases hy with hy | hy
  .exact Zhi hy
  .exact absurd rfl (S.nofree _ (YBw hy))
 .exact YCT (x.above y c (YBw h))
 .have hi:i<vs.length:=by
   unfold start at h2;by_cases hi:i<vs.length
   .exact hi
   .rw[YAw (by simpa using hi)]at h2;rw[List.getElem?_replicate]at h2;split at h2<;>cases h2
  have ha:vs[i]?=some v:=by
   unfold start at h2;rw[YAx (by simpa using hi),YAc]at h2;cases e:vs[i]? with
   | none=>rw[e]at h2;cases h2
   | some a=>rw[e]at h2;cases h2;rfl
  obtain⟨u,hu,rv⟩:=r.get ha;have hp:ps[i]?=some y:=by rw[<-S.pre,List.getElem?_take_of_lt (by omega)];exact h1
  have ndP:ps.Nodup:=by rw[<-S.pre];exact S.nd.sublist (YCk _ _)
  refine⟨u,rv,?_⟩;rcases S.par y (YAo hp) with k | k
  .exact .inl ⟨k,ZfR ndP hp hu k⟩
  .obtain⟨c,e⟩:=Zhi (n:=s.heap.objs.size+1) k;refine .inr ⟨.inl k,c,e,?_⟩;have q:=x.cell y c e;rw[ZfT ndP hp hu (by show scope.names.lookup y≠_;rw[k];decide)]at q;exact q
 .exact e0.hok.fresh (YCT (x.above y c (YBw h)))
 .unfold start;show _=N.length;rw[YAF,YAB,YDP];omega
theorem Zl7 {CX:CXT}{P:AG}{w:AI}{K:Q4}{mg:AB}{base:Heap}{k:Nat}{f:AD}{name qual:Str}{params:Arguments}{body:List Stmt}{scope:Scope}{dV kV doc pm BG ct oc:Value}{an od:Option AD}
  {osl:Array (Option Value)} {N ps:AJ} {sp:Sp} (lk:K.lookup f=some ⟨oc,od,.func (PySem.W.fnOf name qual params body scope dV kV doc pm an BG ct),osl⟩) (hcd:PySem.W.codeIn K BG qual=true) (S:FnScope N ps scope)
  (len:∀vs H Q E,sp vs H Q E->vs.length=ps.length)
  (hbody:∀(A:AH) (outer:List Env) (s:AE) (H:Hp) (vs:List V) (Q:VK) (E:XK),Room k (A.deeper (envOfC qual scope s.heap.objs.size f BG))->sp vs H Q E ->
   ∃t,PSs (cxOf CX P w K mg base N qual scope f BG A outer s H E) body t/\t { nx:=fun _ H'=>Q .non H',rt:=Q } (start N vs) H):
  FnOk P w K mg base CX (k+1) f (PySem.W.fnOf name qual params body scope dV kV doc pm an BG ct) ps sp:=by
 refine⟨len,fun A outer s H args us vs Q E hr e0 hb r hsp=>?_⟩;have hl:=len _ _ _ _ hsp;have KX:K.In s.heap:=e0.mod.kin.keeps fun b o e=>(e0.bs b o e).1;have lim:s.heap.NoLimit:=e0.mod.nolimit.keeps fun b o e=>(e0.bs b o e).1;have hkind:∀y∈ps.zip us,scope.names.lookup y.1=some .local\/(scope.names.lookup y.1=some .cell/\((cellsFrom (s.heap.objs.size+1) scope.names []).lookup y.1).isSome=true):=fun ⟨n,v⟩ hy=>by
  rcases S.par n (List.of_mem_zip hy).1 with q | q
  .exact .inl q
  .exact .inr ⟨q,PySem.W.cellsFrom_some _ _ _ (.inl q)⟩
 refine codeAny_call_function hr.depth (KX _ _ lk) rfl S.co S.gen rfl (PySem.W.codeRec_of KX hcd) (hb _ _ _ _ ?_);refine wpAny_newFunctionEnv_cells S.kind hkind fun env he s1 x=>?_;subst he;refine⟨lim.keeps x.toInCall.keep,codeAny_func ?_⟩;obtain⟨t,ht,hq⟩:=hbody A outer s H vs Q E (hr.deeper _) hsp;have I:Inv (cxOf CX P w K mg base N qual scope f BG A outer s H E) [] (start N vs) H s1:=ZiV S hr.hd e0 hl r x;refine YBB (ht [] s1 (start N vs) H _ I hq) (fun fl s' hs=>?_) fun e s' hs=>hs;have fin:∀ {U':St} {H':Hp} {v:V} {u:Value},Inv (cxOf CX P w K mg base N qual scope f BG A outer s H E) [] U' H' s'->RelV v u->Q v H'->CE outer P w H s Q u s':=
  fun {U' H' v u} J rv q=>⟨v,H',J.os,J.bare,J.base,J.hok,rv,q⟩
 cases fl with
 | ret u=>
  obtain⟨v,U',H',J,rv,q⟩:=hs;exact fin J rv q
 | next=>
  obtain⟨U',H',J,q⟩:=hs;exact fin (v:=V.non) (u:=Value.none) J rfl q
 | brk=>
  obtain⟨_,_,_,q⟩:=hs;exact False.elim q
 | cont=>
  obtain⟨_,_,_,q⟩:=hs;exact False.elim q
section
variable {X:Cx}{x:Str}{p pos:Pos}{e:Expr}{es:List Expr}{t:TA}{id T:String}{r:List V->Hp->VK->Prop}
def tCB (r:List V->Hp->VK->Prop)(t:TA):TE:=fun U H Q=>t U H fun vs H1=>r vs H1 Q
theorem Zap (hc:Zcg X (.builtin id) r) (hg:Gl X x) (hm:X.mg x=none) (hv:bootBuiltins x=some (.builtin id)) (ha:PA X (e::es) t) (hn:x≠"__name__":=by decide) (hdb:(x == ("__debug__":Str))=false:=by decide)
  (he:starEach (e::es) X.env=(false,eval e X.env)::starEach es X.env:=by rfl) (hpl:(backTo pos (starEach es X.env)).any (·.1)=false:=by rfl):PE X (.Call (.Name x p) (e::es) [] pos) (tCB r t):=by
 intro BF s U H Q I h;refine YBf (Zdy I hg hm hv ?_ hn hdb);exact YDO (thn (ha pos BF s U H _ I h) fun us s1 ⟨vs,H1,I1,r1,q1⟩=>hc BF s1 U H1 vs us Q I1 r1 q1) he hpl
theorem Zbe (hc:Zcg X (.type T) r) (hg:Gl X x) (hm:X.mg x=none) (hv:bootBuiltins x=some (.type T)) (ha:PA X (e::es) t) (hn:x≠"__name__":=by decide) (hdb:(x == ("__debug__":Str))=false:=by decide)
  (he:starEach (e::es) X.env=(false,eval e X.env)::starEach es X.env:=by rfl) (hpl:(backTo pos (starEach es X.env)).any (·.1)=false:=by rfl):PE X (.Call (.Name x p) (e::es) [] pos) (tCB r t):=by
 intro BF s U H Q I h;refine YBf (Zdy I hg hm hv ?_ hn hdb);exact PyProof.Rows.callWith_type1 (thn (ha pos BF s U H _ I h) fun us s1 ⟨vs,H1,I1,r1,q1⟩=>hc BF s1 U H1 vs us Q I1 r1 q1) he hpl
end
end L2
namespace HT
open PySem PyProof.Rows
section
open PySem.SeqAt
open PySem.AutoSeq1 (wpAny_loadPart')
open PySem.MeetsSeq PySem.MeetsSeq2 PySem.MeetsSeq3
end
section
variable {prog:AG}{w:AI}{A:AH}{E:Q33}{s:AE}
noncomputable def sIx (n d:Nat):Option Int->Nat
 | none=>d
 | some v=>if v<0 then (v+(n:Int)).toNat else min v.toNat n
theorem sIx_none (n d:Nat):sIx n d none=d:=rfl
theorem sIx_nat (n d k:Nat):sIx n d (some (k:Int))=min k n:=by show (if (k:Int)<0 then ((k:Int)+(n:Int)).toNat else min (k:Int).toNat n)=min k n;rw[YAI (by omega),YCS]
theorem sIx_le (n d:Nat)(hd:d<=n)(o:Option Int):sIx n d o<=n:=by
 cases o with
 | none=>exact hd
 | some v=>
  show (if v<0 then (v+(n:Int)).toNat else min v.toNat n)<=n;by_cases hv:v<0
  .rw[YAM hv];omega
  .rw[YAI hv];exact Nat.min_le_right _ _
theorem clip_eq (v:Int)(n d:Nat):(if v<0 then max (v+(n:Int)) 0 else min v (n:Int))=((sIx n d (some v):Nat):Int):=by
 show (if v<0 then max (v+(n:Int)) 0 else min v (n:Int))=(((if v<0 then (v+(n:Int)).toNat else min v.toNat n):Nat):Int);by_cases hv:v<0
 .simp only[YAM hv];omega
 .simp only[YAI hv];omega
end
end HT
namespace L2
open PySem PySem.Spec PyProof.Rows
abbrev TO:=St->Hp->(Option Int->Hp->Prop)->Prop
def PO (X:Cx)(e:Option Expr)(t:TO):Prop:=
 ∀(BF:AA) (s:AE) (U:St) (H:Hp) (Q:Option Int->Hp->Prop),Inv X BF U H s->t U H Q ->
  wpAny (model X.prog X.w) X.A (evalPart e X.env) (fun u s'=>∃o H',Inv X BF U H' s'/\IsPart u o/\Q o H') X.xe s
def tNoPart:TO:=fun _ H Q=>Q none H
def ZmF (t:TE):TO:=fun U H Q=>t U H fun x H1=>∃i,x=.int i/\Q (some i) H1
section
variable {X:Cx}{e:Expr}{te:TE}{lo hi:Option Expr}{tl th:TO}{pos p2:Pos}
theorem ZaS:PO X none tNoPart:=by intro BF s U H Q I h;rw[evalPart_none];exact YAD ⟨none,H,I,.none,h⟩
theorem ZaJ (h:PE X e te):PO X (some e) (ZmF te):=by intro BF s U H Q I hw;rw[evalPart_some];refine thn (h BF s U H _ I hw) fun u s1 zz=>?_;obtain⟨x,H1,I1,r1,q1⟩:=zz;obtain⟨i,rfl,q⟩:=q1;obtain⟨t,rfl⟩:=r1;exact⟨some i,H1,I1,.int i t,q⟩
def SlR (X:Cx)(r:V->Option Int->Option Int->Hp->VK->Prop):Prop:=
 ∀(BF:AA) (s:AE) (U:St) (H:Hp) (x:V) (v vl vu:Value) (lo hi:Option Int) (sl:AD) (Q:VK),Inv X BF U H s->RelV x v->s.heap.IsSliceOf sl vl vu .none->IsPart vl lo->IsPart vu hi->r x lo hi H Q ->
  ∃T id,typeLookup (.type T) "__getitem__"=pure (some (.builtin id))/\s.TypeIs v T/\wpAny (model X.prog X.w) X.A (getItem v (.ref sl)) (EP X BF U Q) X.xe s
def tSl (r:V->Option Int->Option Int->Hp->VK->Prop)(te:TE)(tl th:TO):TE:=fun U H Q=>te U H fun x H1=>tl U H1 fun l H2=>th U H2 fun u H3=>r x l u H3 Q
theorem ZaA {r:V->Option Int->Option Int->Hp->VK->Prop}(hr:SlR X r)(he:PE X e te)(hl:PO X lo tl)(hu:PO X hi th):PE X (.Subscript e (.Slice lo hi none p2) pos) (tSl r te tl th):=by intro BF s U H Q I h;refine Subscript_ (thn (he BF s U H _ I h) fun v s1 zz=>?_);obtain⟨x,H1,I1,r1,q1⟩:=zz;refine wpAny_Slice (thn (hl BF s1 U H1 _ I1 q1) fun vl s2 ⟨l,H2,I2,pl,q2⟩=>thn (hu BF s2 U H2 _ I2 q2) fun vu s3 zz=>?_);obtain⟨u,H3,I3,pu,q3⟩:=zz;rw[evalPart_none];refine YAD ?_;have I4:Inv X BF U H3 { s3 with heap:=s3.heap.push { cls:=.type "slice",data:=.fields #[vl,vu,.none] } }:=I3.kept (t':=s3.toks) fun b ob q=>YAE _ q;obtain⟨T,id,hT,ht,hg⟩:=hr BF { s3 with heap:=s3.heap.push { cls:=.type "slice",data:=.fields #[vl,vu,.none] } } U H3 x v vl vu l u s3.heap.objs.size Q I4 r1 (Heap.IsSliceOf.new ..) pl pu q3;show wpAny (model X.prog X.w) X.A (subscriptTail e (.Slice lo hi none p2) v (.ref s3.heap.objs.size)) (EP X BF U Q) X.xe { s3 with heap:=s3.heap.push { cls:=.type "slice",data:=.fields #[vl,vu,.none] } };exact tail_any (ops:=[.ref s3.heap.objs.size,v]) ht hT hg (by with_unfolding_all rfl)
noncomputable def cutV (xs:List V)(lo hi:Option Int):List V:=(xs.drop (HT.sIx xs.length 0 lo)).take (HT.sIx xs.length xs.length hi-HT.sIx xs.length 0 lo)
theorem Zgr (xs:List V)(lo hi:Option Int):(cutV xs lo hi).length<=xs.length:=by unfold cutV;rw[YAZ,YAj];omega
end
end L2
namespace L2
open PySem PySem.Spec PyProof.Rows
noncomputable def ixN (n:Nat)(i:Int):Option Nat:=if 0<=i then (if i<n then some i.toNat else none) else if -(n:Int)<=i then some (i+n).toNat else none
noncomputable def atI {α:Type}(xs:List α)(i:Int):Option α:=(ixN xs.length i).bind fun j=>xs[j]?
theorem ZlU {n:Nat}{i:Int}{j:Nat}(h:ixN n i=some j):seqIndex? i n=some j/\j<n/\-(n:Int)<=i/\i<n:=by
 unfold ixN at h;by_cases h0:0<=i
 .rw[YAM h0]at h;by_cases h1:i<n
  .rw[YAM h1]at h;have e:i.toNat=j:=Option.some.inj h;exact⟨by rw[seqIndex_of h0 h1,e],by omega,by omega,h1⟩
  .rw[YAI h1]at h;cases h
 .rw[YAI h0]at h;by_cases h1:-(n:Int)<=i
  .rw[YAM h1]at h;have e:(i+n).toNat=j:=Option.some.inj h;exact⟨by rw[seqIndex_neg (by omega) h1,e],by omega,h1,by omega⟩
  .rw[YAI h1]at h;cases h
theorem Zgv {α:Type}{xs:List α}{i:Int}{v:α}(h:atI xs i=some v):∃j,seqIndex? i xs.length=some j/\xs[j]?=some v/\j<xs.length/\-(xs.length:Int)<=i/\i<xs.length:=by
 unfold atI at h;cases e:ixN xs.length i with
 | none=>rw[e]at h;cases h
 | some j=>
  rw[e]at h;obtain⟨h1,h2,h3,h4⟩:=ZlU e;exact⟨j,h1,h,h2,h3,h4⟩
theorem Zgu {α:Type}{xs:List α}{j:Nat}{v:α}(h:xs[j]?=some v):atI xs (j:Int)=some v:=by
 have hj:j<xs.length:=(YAa.mp h).1;have e:ixN xs.length (j:Int)=some j:=by unfold ixN;rw[YAM (by omega),YAM (by omega)];simp
 unfold atI;rw[e];exact h
def Zmu (b:Expr):Prop:=∀o i,subscripted b false o i=operate [o,i] (getItem o i)
def IxR (X:Cx)(r:R2):Prop:=
 ∀(value slice:Expr) (BF:AA) (s:AE) (U:St) (H:Hp) (x y:V) (v u:Value) (Q:VK),Inv X BF U H s->RelV x v->RelV y u->r x y H Q ->
  subscripted slice false v u=operate [v,u] (getItem v u)->wpAny (model X.prog X.w) X.A (subscriptTail value slice v u) (EP X BF U Q) X.xe s
def MtR (X:Cx)(id:String)(r:V->List V->Hp->VK->Prop):Prop:=
 ∀(BF:AA) (s:AE) (U:St) (H:Hp) (x:V) (xs:List V) (v:Value) (us:AC) (Q:VK),Inv X BF U H s->RelV x v->Vals xs us->r x xs H Q ->
  wpAny (model X.prog X.w) X.A (call (.builtin id) (v::us)) (EP X BF U Q) X.xe s
section
variable {X:Cx}{a b:Expr}{ta tb:TE}{pos:Pos}
theorem ZaH {r:R2}(hr:IxR X r)(ha:PE X a ta)(hb:PE X b tb)(hs:Zmu b):PE X (.Subscript a b pos) (tOp r ta tb):=by intro BF s U H Q I h;exact Subscript_ (binT ha hb I h fun v u s2 x y H2 I2 rx ry q=>hr a b BF s2 U H2 x y v u Q I2 rx ry q (hs _ _))
def rIxL (K:Q4):R2:=fun x y H Q=>∃p xs i v,x=.ref p/\y=.int i/\SqL K H p xs/\atI xs i=some v/\Q v H
def rIxT (K:Q4):R2:=fun x y H Q=>∃p xs i v,x=.ref p/\y=.int i/\SqT K H p xs/\atI xs i=some v/\Q v H
def rIxS:R2:=fun x y H Q=>∃z i c,x=.str z/\y=.int i/\z.length<=sizeLine/\atI z.cps.toList i=some c/\Q (.str ⟨#[c]⟩) H
theorem ZlT:IxR X (rIxL X.K):=by
 intro value slice BF s U H x y v u Q I rx ry h hs;obtain⟨p,xs,i,z,rfl,rfl,hq,he,q⟩:=h;cases rx;obtain⟨t,rfl⟩:=ry;obtain⟨its,r,pl,hz⟩:=I.list hq;obtain⟨j,h1,h2,h3,h4,h5⟩:=Zgv he;obtain⟨w,ew,rw'⟩:=r.get h2;have hl:=r.length;have hn:=Zfq;have fin:EP X BF U Q w s:=⟨z,H,I,rw',q⟩;by_cases h0:0<=i
 .have hj:i.toNat=j:=by rw[seqIndex_of h0 h5]at h1;exact Option.some.inj h1
  exact item_listR pl.isList h0 (by omega) (by rw[hj];simpa using ew) fin hs
 .have hj:(i+(its.toArray.size:Int)).toNat=j:=by rw[seqIndex_neg (by omega) h4]at h1;rw[YAJ,<-hl];exact Option.some.inj h1
  exact subscriptTail_builtinR (x:=w) pl.isList.typeIs slot_list_getitem.lookup
   (wpAny_getItem_list_neg (Q:=fun r s'=>r=w/\EP X BF U Q r s') pl.isList (by omega) (by rw[YAJ]<;>omega) (by omega) (by rw[hj];simpa using ew) ⟨rfl,fin⟩) hs
theorem Zn8:IxR X (rIxT X.K):=by
 intro value slice BF s U H x y v u Q I rx ry h hs;obtain⟨p,xs,i,z,rfl,rfl,hq,he,q⟩:=h;cases rx;obtain⟨t,rfl⟩:=ry;obtain⟨its,r,pl,hz⟩:=I.tuple hq;obtain⟨j,h1,h2,h3,h4,h5⟩:=Zgv he;obtain⟨w,ew,rw'⟩:=r.get h2;have hl:=r.length;have hn:=Zfq;have fin:EP X BF U Q w s:=⟨z,H,I,rw',q⟩;exact subscriptTail_builtinR (x:=w) pl.typeIs slot_tuple_getitem.lookup
  (getItem_tuple (j:=j) (Q:=fun r s'=>r=w/\EP X BF U Q r s') pl (by omega) (by omega) (by rw[YAJ,<-hl];exact h1) (by simpa using ew) ⟨rfl,fin⟩) hs
theorem Zn9:IxR X rIxS:=by
 intro value slice BF s U H x y v u Q I rx ry h hs;obtain⟨z,i,c,rfl,rfl,hz,he,q⟩:=h;obtain⟨t,rfl⟩:=rx;obtain⟨t',rfl⟩:=ry;obtain⟨j,h1,h2,h3,h4,h5⟩:=Zgv he;have hl:z.cps.toList.length=z.length:=by simp[Str.length]
 rw[hl]at h1 h4 h5;have hn:=Zfq;exact tail_any (typeIs_str s z t) slot_str_getitem.lookup (getItem_str (c:=c) (by have e1:decide (i < -(2 ^ 63:Int))=false:=decide_eq_false (by omega);have e2:decide (i>=2 ^ 63)=false:=decide_eq_false (by omega);rw[e1,e2,Bool.or_false]) (by rw[h1];simpa using h2) ⟨.str ⟨#[c]⟩,H,I.tok _,⟨_,rfl⟩,q⟩) hs
theorem Ze6 (lo hi:Option Int)(n:Nat):(sliceBounds lo hi none n).1=((HT.sIx n 0 lo:Nat):Int)/\(sliceBounds lo hi none n).2.1=((HT.sIx n n hi:Nat):Int)/\(sliceBounds lo hi none n).2.2=1:=by
 refine⟨?_,?_,rfl⟩
 .cases lo with
  | none=>simp[sliceBounds,HT.sIx]
  | some i=>
   simp only[sliceBounds,HT.sIx,Option.getD_none,show (1:Int)>0 by decide,if_true];by_cases h:i<0
   .simp only[h,if_true]<;>omega
   .simp only[h,if_false]<;>omega
 .cases hi with
  | none=>simp[sliceBounds,HT.sIx]
  | some i=>
   simp only[sliceBounds,HT.sIx,Option.getD_none,show (1:Int)>0 by decide,if_true];by_cases h:i<0
   .simp only[h,if_true]<;>omega
   .simp only[h,if_false]<;>omega
theorem Zen (its:AC)(lo hi:Option Int):slicePick its.toArray lo hi none=((its.drop (HT.sIx its.length 0 lo)).take (HT.sIx its.length its.length hi-HT.sIx its.length 0 lo)).toArray:=by obtain⟨h1,h2,h3⟩:=Ze6 lo hi its.toArray.size;unfold slicePick;rw[h1,h2,h3];simp only[sliceRange_one,pick_run,YAJ]<;>rfl
def rSlL (K:Q4):V->Option Int->Option Int->Hp->VK->Prop:=fun x lo hi H Q=>∃a xs,x=.ref a/\SqL K H a xs/\∀p,H p=none->Q (.ref p) (upd H p (.lst (cutV xs lo hi)))
theorem ZpD:SlR X (rSlL X.K):=by intro BF s U H x v vl vu lo hi sl Q I rx hs pl pu h;obtain⟨a,xs,rfl,hx,q⟩:=h;cases rx;obtain⟨its,r,ht,hz⟩:=I.list hx;have BH:=r.length;refine⟨"list",_,slot_list_getitem.lookup,ht.isList.typeIs,?_⟩;refine wpAny_getItem_list_slice ht.isList hs pl pu .none (by simp) ?_ (by rw[YAJ]<;>omega);rw[Zen,<-BH];refine⟨.ref s.heap.objs.size,_,I.laid (t':=s.toks) (o:=.lst (cutV xs lo hi)) (fun b ob q=>YAE _ q) (YAS _) ?_,rfl,q _ (I.hok.fresh (YAS _))⟩;exact⟨YAK (Zgr xs lo hi) hz,_,0,(r.drop (HT.sIx xs.length 0 lo)).take (HT.sIx xs.length xs.length hi-HT.sIx xs.length 0 lo),YAU _ rfl⟩
noncomputable def Zbw:V->Bool
 | .non=>true
 | .bl _=>true
 | .int _=>true
 | .str _=>true
 | _=>false
noncomputable def eqV:V->V->Bool
 | .non,.non=>true
 | .bl a,.bl b=>a == b
 | .bl a,.int b=>(if a then 1 else 0) == b
 | .int a,.bl b=>a == (if b then 1 else 0)
 | .int a,.int b=>a == b
 | .str a,.str b=>a == b
 | _,_=>false
theorem ZkX {A:AH}{s:AE}{y x:V}{u v:Value}(ry:RelV y u)(rx:RelV x v)(fy:Zbw y=true)(fx:Zbw x=true):SeqAt.EqAt A s u v (eqV y x):=by
 cases y with
 | non=>
  cases ry;cases x with
  | non=>cases rx;exact SeqAt.EqAt.same _
  | bl b=>cases rx;exact SeqAt.EqAt.none_bool b
  | int b=>obtain⟨t,rfl⟩:=rx;exact SeqAt.EqAt.none_int b t
  | str b=>obtain⟨t,rfl⟩:=rx;exact SeqAt.EqAt.none_str b t
  | _=>exact absurd (show false=true from fx) YAC
 | bl a=>
  cases ry;cases x with
  | non=>cases rx;exact SeqAt.EqAt.bool_none a
  | bl b=>cases rx;exact SeqAt.EqAt.bool_bool a b
  | int b=>obtain⟨t,rfl⟩:=rx;exact SeqAt.EqAt.bool_int a b t
  | str b=>obtain⟨t,rfl⟩:=rx;exact SeqAt.EqAt.bool_str a b t
  | _=>exact absurd (show false=true from fx) YAC
 | int a=>
  obtain⟨t',rfl⟩:=ry;cases x with
  | non=>cases rx;exact SeqAt.EqAt.int_none a t'
  | bl b=>cases rx;exact SeqAt.EqAt.int_bool a t' b
  | int b=>obtain⟨t,rfl⟩:=rx;exact SeqAt.EqAt.int_int a t' b t
  | str b=>obtain⟨t,rfl⟩:=rx;exact SeqAt.EqAt.int_str a t' b t
  | _=>exact absurd (show false=true from fx) YAC
 | str a=>
  obtain⟨t',rfl⟩:=ry;cases x with
  | non=>cases rx;exact SeqAt.EqAt.str_none a t'
  | bl b=>cases rx;exact SeqAt.EqAt.str_bool a t' b
  | int b=>obtain⟨t,rfl⟩:=rx;exact SeqAt.EqAt.str_int a t' b t
  | str b=>obtain⟨t,rfl⟩:=rx;exact SeqAt.EqAt.str_str a t' b t
  | _=>exact absurd (show false=true from fx) YAC
 | _=>exact absurd (show false=true from fy) YAC
noncomputable def eqU (x:V)(u:Value):Bool:=match u with
 | .none=>eqV .non x
 | .bool b=>eqV (.bl b) x
 | .int i _=>eqV (.int i) x
 | .str z _=>eqV (.str z) x
 | _=>false
theorem ZkW {x y:V}{u:Value}(r:RelV y u)(f:Zbw y=true):eqU x u=eqV y x:=by
 cases y with
 | non=>cases r;rfl
 | bl b=>cases r;rfl
 | int i=>obtain⟨t,rfl⟩:=r;rfl
 | str z=>obtain⟨t,rfl⟩:=r;rfl
 | _=>exact absurd (show false=true from f) YAC
theorem ZdN {x:V}:∀ {xs:List V} {us:AC},Vals xs us->xs.all Zbw=true->us.any (eqU x)=xs.any fun y=>eqV y x
 | _,_,.nil,_=>rfl
 | y::xs,u::us,.cons r t,f=>by rw[List.all_cons,YAQ]at f;rw[List.any_cons,List.any_cons,ZkW r f.1,ZdN t f.2]
theorem Zcw {A:AH}{s:AE}{x:V}{v:Value}(rx:RelV x v)(fx:Zbw x=true):∀ {xs:List V} {us:AC},Vals xs us->xs.all Zbw=true->∀u∈us,SeqAt.EqAt A s u v (eqU x u)
 | _,_,.nil,_=>fun u hu=>by cases hu
 | y::xs,u::us,.cons r t,f=>fun u' hu=>by
  rw[List.all_cons,YAQ]at f;rcases YAT.mp hu with rfl | hu
  .rw[ZkW r f.1];exact ZkX r rx f.1 fx
  .exact Zcw rx fx t f.2 u' hu
noncomputable def inV (x:V)(xs:List V):Bool:=xs.any fun y=>eqV y x
def rIn (K:Q4)(neg:Bool):R2:=fun x y H Q=>∃p xs,y=.ref p/\(SqL K H p xs\/SqT K H p xs)/\Zbw x=true/\xs.all Zbw=true/\Q (.bl (if neg then !inV x xs else inV x xs)) H
theorem Zix:OpR X (compareOp .In) (rIn X.K false):=by
 intro BF s U H x y v u Q I rx ry h;obtain⟨p,xs,rfl,hq,fx,fs,q⟩:=h;cases ry;rcases hq with hq | hq
 .obtain⟨its,r,pl,hz⟩:=I.list hq;refine SeqAt.in_listAt (eqU x) pl.isList (fun w hw=>Zcw rx fx r fs w (by simpa using hw)) ⟨.bl _,H,I,rfl,?_⟩;rw[show its.toArray.any (eqU x)=its.any (eqU x) by simp,ZdN r fs];exact q
 .obtain⟨its,r,pl,hz⟩:=I.tuple hq;refine SeqAt.in_tupleAt (eqU x) pl (fun w hw=>Zcw rx fx r fs w (by simpa using hw)) ⟨.bl _,H,I,rfl,?_⟩;rw[show its.toArray.any (eqU x)=its.any (eqU x) by simp,ZdN r fs];exact q
theorem Zfh:OpR X (compareOp .NotIn) (rIn X.K true):=by
 intro BF s U H x y v u Q I rx ry h;obtain⟨p,xs,rfl,hq,fx,fs,q⟩:=h;cases ry;rcases hq with hq | hq
 .obtain⟨its,r,pl,hz⟩:=I.list hq;refine SeqAt.notIn_listAt (eqU x) pl.isList (fun w hw=>Zcw rx fx r fs w (by simpa using hw)) ⟨.bl _,H,I,rfl,?_⟩;rw[show its.toArray.any (eqU x)=its.any (eqU x) by simp,ZdN r fs];exact q
 .obtain⟨its,r,pl,hz⟩:=I.tuple hq;refine SeqAt.notIn_tupleAt (eqU x) pl (fun w hw=>Zcw rx fx r fs w (by simpa using hw)) ⟨.bl _,H,I,rfl,?_⟩;rw[show its.toArray.any (eqU x)=its.any (eqU x) by simp,ZdN r fs];exact q
theorem ZfN:Zcg X (.type "list") (fun xs H Q=>∃p ys,xs=[.ref p]/\(SqL X.K H p ys\/SqT X.K H p ys)/\∀l,H l=none->Q (.ref l) (upd H l (.lst ys))):=by
 intro BF s U H xs us Q I r h;obtain⟨p,ys,rfl,hq,q⟩:=h;obtain⟨u,rfl,rx⟩:=vals1 r;cases rx;have fin:∀(its:AC),Vals ys its->ys.length<=sizeLine->∀(h':Heap) (c':Nat),(∀b o',s.heap.get? b=some o'->h'.get? b=some o') ->
   h'.get? s.heap.objs.size=some { cls:=.type "list",dict:=none,data:=.seq its.toArray c',slots:=#[] }->EP X BF U Q (.ref s.heap.objs.size) { s with heap:=h' }:=fun its r' hz h' c' kp e=>
  ⟨.ref s.heap.objs.size,_,I.laid (t':=s.toks) kp (YAS _) (show ObjOk X.prog X.w _ h' _ (.lst ys) from⟨hz,its,c',r',e⟩),rfl,q _ (I.hok.fresh (YAS _))⟩
 rcases hq with hq | hq
 .obtain⟨its,r',pl,hz⟩:=I.list hq;have BH:=r'.length;obtain⟨o,ho,hc,n,hd⟩:=pl.isList;exact call_list_seq p (.inl rfl) ho hc hd (fun h' c' kp e=>fin its r' hz h' c' kp e) (by simp only[YAJ]<;>omega)
 .obtain⟨its,r',pl,hz⟩:=I.tuple hq;have BH:=r'.length;obtain⟨o,ho,hc,n,hd⟩:=pl;exact call_list_seq p (.inr rfl) ho hc hd (fun h' c' kp e=>fin its r' hz h' c' kp e) (by simp only[YAJ]<;>omega)
def tyV (K:Q4)(T:String)(x:V)(H:Hp):Prop:=match x with
 | .str _=>T="str"
 | .int _=>T="int"
 | .ref p=>(T="list"/\∃xs,SqL K H p xs)\/(T="tuple"/\∃o,K.lookup p=some o/\o.cls=.type "tuple"/\o.dict=none) \/
   (T="dict"/\((∃kvs,H p=some (.dK kvs))\/∃kvs,H p=some (.dT kvs)))\/(T="set"/\∃S n,H p=some (.set S n))
 | _=>False
theorem ZkB {BF:AA}{U:St}{H:Hp}{s:AE}{T:String}{x:V}{v:Value}(I:Inv X BF U H s)(r:RelV x v)(ty:tyV X.K T x H):
  s.TypeIs v T/\∀a,v=.ref a->∃ob,s.heap.get? a=some ob/\ob.dict=none:=by
 cases x with
 | str z=>
  obtain⟨t,rfl⟩:=r;cases (show T="str" from ty);exact⟨typeIs_str s z t,fun _ e=>nomatch e⟩
 | int i=>
  obtain⟨t,rfl⟩:=r;cases (show T="int" from ty);exact⟨typeIs_int s i t,fun _ e=>nomatch e⟩
 | ref p=>
  cases r;rcases ty with⟨rfl,xs,hq⟩|⟨rfl,o,hk,hc,hd⟩|⟨rfl,hk⟩|⟨rfl,S,n,hk⟩
  .obtain⟨its,_,pl,_⟩:=I.list hq;refine⟨pl.isList.typeIs,fun a e=>?_⟩;cases e;obtain⟨o,n,e,c,hd,_⟩:=pl;exact⟨o,e,hd⟩
  .refine⟨⟨o,I.kIn p o hk,hc⟩,fun a e=>?_⟩;cases e;exact⟨o,I.kIn _ o hk,hd⟩
  .have z:∃o,s.heap.get? p=some o/\o.ExactDict:=by
    rcases hk with⟨kvs,hk⟩|⟨kvs,hk⟩
    .obtain⟨_,_,_,_,o,_,_,e,ex,_⟩:=I.hok p _ hk;exact⟨o,e,ex⟩
    .obtain⟨_,_,_,_,o,_,_,e,ex,_⟩:=I.hok p _ hk;exact⟨o,e,ex⟩
   obtain⟨o,e,ex⟩:=z;refine⟨⟨o,e,ex.1⟩,fun a e2=>?_⟩;cases e2;exact⟨o,e,ex.2.1⟩
  .obtain⟨o,_,_,_,e,ex,_⟩:=I.hok p _ hk;refine⟨⟨o,e,ex.1⟩,fun a e2=>?_⟩;cases e2;exact⟨o,e,ex.2.1⟩
 | _=>exact False.elim ty
def tBM0 (K:Q4)(T:String)(r:V->List V->Hp->VK->Prop)(to:TE):TE:=fun U H Q=>to U H fun x H1=>tyV K T x H1/\r x [] H1 Q
def tBM (K:Q4)(T:String)(r:V->List V->Hp->VK->Prop)(to:TE)(t:TA):TE:=fun U H Q=>to U H fun x H1=>tyV K T x H1/\t U H1 fun xs H2=>r x xs H2 Q
variable {o e:Expr}{es:List Expr}{to:TE}{t:TA}{name:Str}{BK BL:Pos}{T id:String}{r:V->List V->Hp->VK->Prop}
theorem Znm (pa:PlainAttrs T) (slot:Slot T name id) (hty:typeOf (.builtin id)=pure (.type "method_descriptor")) (hm:MtR X id r) (ho:PE X o to)
  (hbase:attributeBase o name X.env (eval o X.env)=eval o X.env:=by rfl) (hline:(BK.endLine == BL.line)=true:=by rfl):PE X (.Call (.Attribute o name BK) [] [] BL) (tBM0 X.K T r to):=by
 intro BF s U H Q I h;refine wpAny_Call_method0_late hbase hline (thn (ho BF s U H _ I h) fun v s1 zz=>?_);obtain⟨x,H1,I1,r1,ty,q1⟩:=zz;obtain⟨h1,h2⟩:=ZkB I1 r1 ty;exact⟨T,id,pa,slot,hty,h1,h2,Calls.callWith_builtin rfl (PySem.evalArgs_none (hm BF s1 U H1 x [] v [] Q I1 r1 .nil q1))⟩
theorem Zdp (pa:PlainAttrs T) (slot:Slot T name id) (hty:typeOf (.builtin id)=pure (.type "method_descriptor")) (hm:MtR X id r) (ho:PE X o to) (ha:PA X (e::es) t)
  (hbase:attributeBase o name X.env (eval o X.env)=eval o X.env:=by rfl)
  (hfew:((backTo BL (starEach (e::es) X.env)).all (fun x=>!x.1)&&(backToKw BL (keywordEach [] X.env)).all (fun x=>x.1.isSome)
   && decide ((e::es).length+([]:List Keyword).length+(if ([]:List Keyword).isEmpty then 0 else 1)<30))=true:=by rfl)
  (hline:(BK.endLine == BL.line)=true:=by rfl) (hs:starEach (e::es) X.env=(false,eval e X.env)::starEach es X.env:=by rfl) (hplain:(backTo BL (starEach es X.env)).any (·.1)=false:=by rfl):
  PE X (.Call (.Attribute o name BK) (e::es) [] BL) (tBM X.K T r to t):=by
 intro BF s U H Q I h;refine wpAny_Call_method_late hbase hfew hline rfl (thn (ho BF s U H _ I h) fun v s1 zz=>?_);obtain⟨x,H1,I1,r1,ty,q1⟩:=zz;obtain⟨h1,h2⟩:=ZkB I1 r1 ty;refine⟨T,id,pa,slot,hty,h1,h2,?_⟩;have hA:=ha BL BF s1 U H1 _ I1 q1;rw[hs]at hA ⊢;refine Calls.callWith_builtin (by show (false || (backTo BL (starEach es X.env)).any (·.1))=false;rw[hplain]<;>rfl) (Calls.evalArgs_plain ?_);exact thn hA fun us s2 ⟨vs,H2,I2,r2,q2⟩=>hm BF s2 U H2 x vs v us Q I2 r1 r2 q2
end
def MtM (X:Cx)(id:String)(r:V->List V->Hp->VK->Prop):Prop:=
 ∀(BF:AA) (s:AE) (U:St) (H:Hp) (x:V) (xs:List V) (v:Value) (us:AC) (Q:VK),Inv X BF U H s->RelV x v->Vals xs us->r x xs H Q ->
  wpAny (model X.prog X.w) X.A (call (.builtin id) (v::us)) (EP X BF U Q) X.xe s
theorem Vals.one {x:V}{us:AC}(h:Vals [x] us):∃u,us=[u]/\RelV x u:=by
 cases h with
 | cons r n=>cases n;exact⟨_,rfl,r⟩
theorem Vals.two {x y:V}{us:AC}(h:Vals [x,y] us):∃u v,us=[u,v]/\RelV x u/\RelV y v:=by
 cases h with
 | cons r t=>
  cases t with
  | cons q n=>cases n;exact⟨_,_,rfl,r,q⟩
theorem Vals.zero:∀ {us:AC},Vals [] us->us=[]
 | _,.nil=>rfl
theorem Vals.dropLast {xs:List V}{us:AC}(h:Vals xs us):Vals xs.dropLast us.dropLast:=by
 induction h with
 | nil=>exact .nil
 | cons r t ih=>
  cases t with
  | nil=>exact .nil
  | cons q t'=>exact .cons r ih
theorem ZhR {α:Type}(l:List α):l.eraseIdx (l.length-1)=l.dropLast:=by
 induction l with
 | nil=>rfl
 | cons a r ih=>
  cases r with
  | nil=>rfl
  | cons b r=>
   have e:(a::b::r).length-1=((b::r).length-1)+1:=by have h1:(a::b::r).length=r.length+2:=rfl;have h2:(b::r).length=r.length+1:=rfl;omega
   rw[e,List.eraseIdx_cons_succ,ih];all_goals rfl
section
variable {X:Cx}{BF:AA}{U:St}{H:Hp}{s:AE}{l b:AD}{xs ys zs:List V}
theorem Inv.lset {its its':AC}{n:Nat}{f:Array Value->Array Value}{t':Nat}(I:Inv X BF U H s)(hH:H l=some (.lst xs))
  (e:s.heap.get? l=some { cls:=.type "list",data:=.seq its.toArray n }) (hf:f its.toArray=its'.toArray) (hv:Vals ys its') (hz:ys.length<=sizeLine):
  Inv X BF U (upd H l (.lst ys)) { s with heap:=s.heap.update l (Obj.mapSeq f),toks:=t' }:=by
 have q:=PySem.IsL.update e f;rw[hf]at q;refine I.write (x:=l) (e:=l) (by rw[hH];exact trivial) (.inl rfl) (fun b' u hb hu=>(YBg s.heap (Obj.mapSeq f) (YBM hb)).trans hu) ⟨_,q⟩ ?_;exact⟨hz,its',_,hv,q⟩
theorem Inv.lnew {its:AC}{t':Nat}(I:Inv X BF U H s)(hv:Vals ys its)(hz:ys.length<=sizeLine):
  Inv X BF U (upd H s.heap.objs.size (.lst ys)) { s with heap:=s.heap.push { cls:=.type "list",data:=.seq its.toArray },toks:=t' }:=
 I.laid (fun _ _ q=>YAE _ q) (YAS _) ⟨hz,its,0,hv,YAU _ rfl⟩
theorem Inv.fresh (I:Inv X BF U H s):H s.heap.objs.size=none:=I.hok.fresh (YAS _)
theorem Inv.lstM (I:Inv X BF U H s)(hH:H l=some (.lst xs)):xs.length<=sizeLine/\∃(its:AC) (n:Nat),Vals xs its/\xs.length=its.length/\s.heap.get? l=some { cls:=.type "list",data:=.seq its.toArray n }:=by obtain⟨z,its,n,r,e⟩:=I.hok l _ hH;exact⟨z,its,n,r,r.length,e⟩
theorem ZjV {n:Nat}(h:n<=sizeLine):Builtin.List.listTooLong n=false:=by unfold Builtin.List.listTooLong;exact decide_eq_false (by omega)
end
section
variable {X:Cx}
def rAppend:V->List V->Hp->VK->Prop:=fun x vs H Q=>∃l xs y,x=.ref l/\vs=[y]/\H l=some (.lst xs)/\xs.length<sizeLine/\Q .non (upd H l (.lst (xs++[y])))
theorem Zbf:MtM X "list.append" rAppend:=by intro BF s U H x vs v us Q I rx rv h;obtain⟨l,xs,y,rfl,rfl,hH,hz,q⟩:=h;cases rx;obtain⟨u,rfl,ru⟩:=rv.one;obtain⟨z,its,n,r,hl,e⟩:=I.lstM hH;refine call_meets F.slot_list_append ⟨_,e,rfl⟩ F.entry_list_append (F.args_list_append_2 _ _) (PySem.list_append l its.toArray n u (by rw[YAJ];omega)) ⟨e,?_⟩;refine⟨.non,_,I.lset (its':=its++[u]) hH e (by simp) (r.append (.cons ru .nil)) ?_,rfl,q⟩;rw[YAF,YAs];omega
def rExtend:V->List V->Hp->VK->Prop:=fun x vs H Q=>∃l b xs zs,x=.ref l/\vs=[.ref b]/\H l=some (.lst xs)/\H b=some (.lst zs)/\xs.length+zs.length<=sizeLine/\Q .non (upd H l (.lst (xs++zs)))
theorem ZiE:MtM X "list.extend" rExtend:=by
 intro BF s U H x vs v us Q I rx rv h;obtain⟨l,b,xs,zs,rfl,rfl,hH,hB,hz,q⟩:=h;cases rx;obtain⟨u,rfl,ru⟩:=rv.one;cases ru;obtain⟨z,its,n,r,hl,e⟩:=I.lstM hH;obtain⟨z2,its2,n2,r2,hl2,e2⟩:=I.lstM hB;have hsz:its.toArray.size+its2.toArray.size<=sizeLine:=by rw[YAJ,YAJ];omega
 have hlong:¬(!its.toArray.isEmpty&&Builtin.List.listTooLong (its.toArray.size+its2.toArray.size))=true:=by rw[ZjV hsz,YBp];exact YAC
 refine call_meets F.slot_list_extend ⟨_,e,rfl⟩ F.entry_list_extend (F.args_list_extend_2 _ _)
  (AutoSeq1.list_extend_list_list_0 l its.toArray n b its2.toArray n2 hlong (by rw[YAJ];omega) (by omega)) ⟨e,e2,?_⟩
 refine⟨.non,_,I.lset (its':=its++its2) hH e (by simp) (r.append r2) ?_,rfl,q⟩;rw[YAF];omega
def rPop:V->List V->Hp->VK->Prop:=fun x vs H Q=>∃l xs y,x=.ref l/\vs=[]/\H l=some (.lst xs)/\xs[xs.length-1]?=some y/\Q y (upd H l (.lst xs.dropLast))
theorem ZqR:MtM X "list.pop" rPop:=by
 intro BF s U H x vs v us Q I rx rv h;obtain⟨l,xs,y,rfl,rfl,hH,hy,q⟩:=h;cases rx;have hus:=rv.zero;subst hus;obtain⟨z,its,n,r,hl,e⟩:=I.lstM hH;obtain⟨u,hu,ru⟩:=r.get hy;have hy':its.toArray[its.toArray.size-1]?=some u:=by show its.toArray[its.length-1]?=some u;rw[<-YAl,<-hl];exact hu
 refine call_meets F.slot_list_pop ⟨_,e,rfl⟩ F.entry_list_pop (F.args_list_pop_1 _) (MeetsSeq.list_pop_last l its.toArray n u hy' (by rw[YAJ];omega)) ⟨e,?_⟩;refine⟨y,_,I.lset (its':=its.dropLast) hH e ?_ r.dropLast ?_,ru,q⟩
 .show its.toArray.eraseIdxIfInBounds (its.toArray.size-1)=its.dropLast.toArray;rw[YAJ,List.eraseIdxIfInBounds_toArray,ZhR]
 .rw[YBC];omega
def rClear:V->List V->Hp->VK->Prop:=fun x vs H Q=>∃l xs,x=.ref l/\vs=[]/\H l=some (.lst xs)/\Q .non (upd H l (.lst []))
theorem Zj0:MtM X "list.clear" rClear:=by intro BF s U H x vs v us Q I rx rv h;obtain⟨l,xs,rfl,rfl,hH,q⟩:=h;cases rx;have hus:=rv.zero;subst hus;obtain⟨z,its,n,r,hl,e⟩:=I.lstM hH;refine call_meets F.slot_list_clear ⟨_,e,rfl⟩ F.entry_list_clear (F.args_list_clear_1 _) (AutoSeq1.list_clear_list_0 l its.toArray n (by rw[YAJ];omega)) ⟨e,?_⟩;exact⟨.non,_,I.lset (its':=[]) (ys:=[]) hH e rfl .nil (YAv _),rfl,q⟩
def rCat:R2:=fun x y H Q=>∃l b xs zs,x=.ref l/\y=.ref b/\H l=some (.lst xs)/\H b=some (.lst zs)/\xs.length+zs.length<=sizeLine/\∀p,H p=none->Q (.ref p) (upd H p (.lst (xs++zs)))
theorem ZgU:OpR X (binaryOp .Add) rCat:=by
 intro BF s U H x y v u Q I rx ry h;obtain⟨l,b,xs,zs,rfl,rfl,hH,hB,hz,q⟩:=h;cases rx;cases ry;obtain⟨z,its,n,r,hl,e⟩:=I.lstM hH;obtain⟨z2,its2,n2,r2,hl2,e2⟩:=I.lstM hB;refine PySem.P.add_list e e2 ?_ (by rw[YAJ,YAJ];omega);have ea:its.toArray++its2.toArray=(its++its2).toArray:=by simp
 rw[ea];exact⟨.ref _,_,I.lnew (t':=s.toks) (r.append r2) (by rw[YAF];omega),rfl,q _ I.fresh⟩
end
section
variable {prog:AG}{w:AI}{A:AH}{E:Q33}{s:AE}
end
section
variable {X:Cx}
end
end L2
namespace Att
open PySem PySem.W PySem.Calls PyProof.Rows
theorem ZdE {P:Params}{h:Heap}:∀(ns:List Int) (vs:AC),WellAll P h vs (ns.map WData.int)->IntsAre vs ns:=by
 intro ns;induction ns with
 | nil=>
  intro vs w;rw[List.map_nil]at w;cases w;exact .nil
 | cons n ns ih=>
  intro vs w;rw[YAi]at w;cases w with
  | cons a b=>
   cases a;exact .cons _ _ (ih _ b)
theorem Zie {l:OpenLaw}{n:Nat}(hn:l.most=some n){P:Params}{h:Heap}{args:List WData}{vals:AC}
  (hpre:l.row.toRowW.claim.pre args=true) (hwl:WellAll P h vals args):
  ∃a vs ns,vals=[Value.ref a]/\args=[WData.list (ns.map WData.int)]/\h.get? a=some { cls:=.type "list",data:=.seq vs.toArray }/\IntsAre vs ns/\ns.length<=n:=by
 have hsh:WShape.hasAll [] args [.list .int]=true:=(pre_splitW hpre).1;have hc:l.pre.holds [] { args:=args }=true:=(pre_splitW hpre).2;obtain⟨d,r,rfl,h1,h2⟩:=hasAllW_cons hsh;obtain rfl:=hasAllW_nil h2;obtain⟨xs,rfl,h3⟩:=hasW_list h1;obtain⟨ns,rfl⟩:=items_int h3;have BH:ns.length<=n:=by
  unfold OpenLaw.pre at hc;have h4:(WTm.not (.lt (.lit (.int (n:Int))) (.len (.arg 0)))).holds [] { args:=[.list (ns.map .int)] }=true:=by have h4:=(holds_andW hc).1;rw[hn]at h4;exact h4
  have h5:=condW_of h4 (w_not (w_lt w_lit (w_len_list (w_arg rfl))));rw[YAB]at h5;refine Nat.le_of_not_lt fun q=>?_;have q':(n:Int)<((ns.length:Nat):Int):=by omega
  first
   | (rw[decide_eq_true q']at h5;exact absurd h5 (by decide))
   | (simp at h5;omega)
 cases hwl with
 | cons w1 w2=>
  cases w2;cases w1 with
  | list ho hall=>exact⟨_,_,ns,rfl,rfl,ho,ZdE ns _ hall,BH⟩
theorem Zir (l:OpenLaw)(args:List WData):l.row.toRowW.claim.post args (.bool true) args=true:=
 postW_of (r:=l.row.toRowW) (X:=(true == true))
  (show WShape.has [] (.bool true) .bool=true by first | rfl | decide | simp[WShape.has,WShape.arms,WShape.armsAll])
  (show (WTm.eq .res (.lit (.bool true))).value [] { args:=args,res:=some (.bool true),after:=args }=some (.bool (true == true)) from w_eq_bool (w_res rfl) w_lit) rfl
theorem attach_call {l:OpenLaw}{n:Nat}{q:AG}{loose:AJ}{XP:(AB)->Heap->Prop}{YP:AI->Heap->Prop}{d:DefRec}
  (hn:l.most=some n) (hdf:d.params.defaults=[])
  (call:∀(w:AI) (s_0 s_1:AE) (mg mb:AB) (fa:AD) (o:Obj) (pm cd doc:Value) (a:AD) (vs:AC) (ns:List Int),
   Ground q loose [] XP w s_0 mg mb s_1.heap->YP w s_1.heap ->
   s_1.heap.get? fa=some o->o.data=.func (docDef d.name d.params d.body d.scope pm cd doc)->s_1.heap.CodeRec cd d.name->mg d.name=some (.ref fa) ->
   s_1.heap.get? a=some { cls:=.type "list",data:=.seq vs.toArray }->IntsAre vs ns->ns.length<=n->s_1.gens=#[] ->
   codeAny (model l.prog w) callerA (.call (.ref fa) ⟨[.ref a],[]⟩) (fun r s'=>r=.ok (.ret (.bool true))/\OldK s_1.heap s'.heap/\s'.os=s_1.os/\AllBare s'.gens) s_1):
  WalkO q loose XP YP l.row.toRowW d [] (fun f vs=>PySem.call f vs):=by
 intro w s_0 s_1 mg mb G Y fa o pm cd doc dV kV ho hd hcd hD hmg hg args vals as hpre hlay hrd hwl hlo;obtain rfl:dV=.none:=Dflts.none hD hdf;obtain rfl:kV=.none:=Dflts.noKw hD;obtain⟨a,vs,ns,rfl,rfl,hobj,hints,BH⟩:=Zie hn hpre hwl;refine enter_call (codeAny_mono (call w s_0 s_1 mg mb fa o pm cd doc a vs ns G Y ho (fd_plain hd) hcd hmg hobj hints BH hg) fun r s' hq=>?_);obtain⟨rfl,h2,h3,h4⟩:=hq;exact⟨.inl ⟨.bool true,.bool true,[],rfl,fun _=>rfl,.bool true,Zir l _,fun _=>⟨List.Pairwise.nil,fun _ hm=>(nomatch hm)⟩⟩,h2,h3,h4⟩
section
variable {prog:AG}{w:AI}{A:AH}{E:Q33}{s:AE}{K:Frag}
noncomputable def ledger (h:Heap)(L d:AD):AA:=(List.range h.objs.size).filterMap fun a=>if a=L\/a=d then none else (h.get? a).map fun o=>(a,o)
end
end Att
namespace L2
open PySem PySem.Spec PyProof.Rows
theorem Zdd:∀ {vs:AC} {ns:List Int},IntsAre vs ns->Vals (ns.map V.int) vs
 | _,_,.nil=>.nil
 | _,_,.cons n t h=>.cons ⟨t,rfl⟩ (Zdd h)
def Only (H:Hp):Prop:=∀b,H b=none\/∃o xs,H b=some (.frz o (.lst xs))
theorem Zj6 {P:AG}{w:AI}{K:Q4}{mg mb:AB}{CX:CXT}{k:Nat}{fa a:AD}{fd:AF}{x:Str}{sp:Sp}{s_1:AE}{vs:AC}{ns:List Int}
  (KX:K.In s_1.heap) (hns:s_1.heap.Ns mainGlobals mg) (hb:s_1.heap.Ns builtinsNs mb) (hbb:∀x:Str,x≠"__name__"->mb x=bootBuiltins x) (hlim:s_1.heap.NoLimit) (hg:s_1.gens=#[])
  (ha:s_1.heap.get? a=some { cls:=.type "list",data:=.seq vs.toArray }) (hi:IntsAre vs ns) (hl:ns.length<=sizeLine) (hr:Room k callerA)
  (F:∀base:Heap,K.In base->base.Ns mainGlobals mg->FnOk P w K mg base CX k fa fd [x] sp) (hbind:∀(s:AE) (u:Value),BindsTo s fd ⟨[u],[]⟩ [(x,u)])
  (hsp:∀H:Hp,Only H->SqL K H a (ns.map V.int)->sp [.ref a] H (fun v _=>v=.bl true) fun _ _ _=>False)
  (hCX:∀H e s',CX [] H s_1 (fun _ _ _=>False) e s'->False):
  codeAny (model P w) callerA (.call (.ref fa) ⟨[.ref a],[]⟩) (fun r s'=>r=.ok (.ret (.bool true))/\OldK s_1.heap s'.heap/\s'.os=s_1.os/\AllBare s'.gens) s_1:=by
 have rv:=Zdd hi;have lenV:=hi.length;have core:∀H:Hp,Only H->SqL K H a (ns.map V.int)->HOk P w H s_1.heap->(∀b,H b≠none->b=a)->(H a≠none->K.lookup a=none) ->
   codeAny (model P w) callerA (.call (.ref fa) ⟨[.ref a],[]⟩) (fun r s'=>r=.ok (.ret (.bool true))/\OldK s_1.heap s'.heap/\s'.os=s_1.os/\AllBare s'.gens) s_1:=by
  intro H hO hS hok hA hK;have base_of:∀ {b:AD} {o:Obj},s_1.heap.get? b=some o->H b=none->(hidT s_1.heap H).get? b=some o:=fun e n=>Zg4 e n;have noA:∀ {b:AD} {o:Obj} {es:Array DictEntry} {ep:Nat},s_1.heap.get? b=some o->o.data=.dict es ep->H b=none:=fun {b o es ep} e d=>by
   cases q:H b with
   | none=>rfl
   | some u=>
    have e':b=a:=hA b (by rw[q];simp);subst e';rw[ha]at e;cases e;have d':Data.seq vs.toArray _=Data.dict es ep:=d;cases d'
  have nsK:∀ {b:AD} {m:AB},s_1.heap.Ns b m->(hidT s_1.heap H).Ns b m:=fun {b m} ⟨o,es,ep,e,d,r⟩=>⟨o,es,ep,base_of e (noA e d),d,r⟩;have hKb:K.In (hidT s_1.heap H):=fun b o e=>base_of (KX b o e) (by
   cases q:H b with
   | none=>rfl
   | some u=>
    have e':b=a:=hA b (by rw[q];simp);subst e';rw[hK (by rw[q];simp)]at e;cases e)
  have hM:Mod K mg (hidT s_1.heap H):=⟨hKb,nsK hns,⟨mb,nsK hb,hbb⟩,let ⟨mc,h1,h2⟩:=hlim;⟨mc,nsK h1,h2⟩⟩;have e0:Env0 P w K mg (hidT s_1.heap H) callerA [] s_1 H:=⟨rfl,hM,fun b o e=>ZiA e,YCU (Zfz _ _),trivial,fun b hb=>absurd (show b∈([]:List AD) from hb) (by simp),hok,.of_eq hg⟩;refine codeAny_mono ((F _ hKb (nsK hns)).run callerA [] s_1 H ⟨[.ref a],[]⟩ [.ref a] [.ref a] _ _ hr e0 (hbind s_1 (.ref a)) (.cons rfl .nil) (hsp H hO hS)) fun r s' h=>?_;cases r with
  | error e=>exact(hCX H e s' h).elim
  | ok fl=>
   cases fl with
   | next=>exact False.elim h
   | brk=>exact False.elim h
   | cont=>exact False.elim h
   | ret u=>
    obtain⟨v,H',os,bare,un,hok',r',q⟩:=h;have q':v=.bl true:=q;subst q';obtain rfl:u=Value.bool true:=r';refine⟨rfl,OldK.of_keep fun b o e=>?_,os,bare⟩;cases q:H b with
    | none=>exact un.keep b o e q (by intro z;exact absurd (show b∈([]:List AD) from z) (by simp)) (by simp)
    | some u=>
     rcases hO b with z | ⟨ob,xs,z⟩
     .rw[q]at z;cases z
     .have z2:=un.frzs b ob _ z;obtain⟨e1,_⟩:=hok b _ z;obtain⟨e2,_⟩:=hok' b _ z2;rw[e]at e1;cases e1;exact e2
 cases hk:K.lookup a with
 | some o=>
  have e:=KX a o hk;rw[ha]at e;cases e;refine core (fun _=>none) (fun _=>.inl rfl) (.inr ⟨_,vs.toArray,_,hk,rfl,rfl,rfl,by rw[YAJ,lenV];exact hl,by simpa using rv⟩) (fun b u z=>by have z':(none:Option HO)=some u:=z;cases z') (fun b z=>absurd rfl z) fun z=>absurd rfl z
 | none=>
  refine core (fun b=>if b=a then some (.frz { cls:=.type "list",data:=.seq vs.toArray } (.lst (ns.map V.int))) else none) (fun b=>?_) (.inl (.inr ⟨{ cls:=.type "list",data:=.seq vs.toArray },YAM rfl⟩)) (fun b u z=>?_) (fun b z=>?_) fun _=>hk
  .by_cases hb:b=a
   .exact .inr ⟨_,_,YAM hb⟩
   .exact .inl (YAI hb)
  .by_cases hb:b=a
   .have z':=(YAM hb).symm.trans z;cases z';subst hb;exact⟨ha,by rw[YAB];exact hl,vs,_,rv,ha⟩
   .have z':=(YAI hb).symm.trans z;cases z'
  .by_cases hb:b=a
   .exact hb
   .exact absurd (YAI hb) z
noncomputable abbrev KOf {K:Q4}{h:Heap}(_:K.In h):Q4:=K
theorem ZoG {l:PySem.W.OpenLaw}{n k:Nat}{q:AG}{loose:AJ}{XP:(AB)->Heap->Prop}{YP:AI->Heap->Prop}{d:DefRec}{K:Params->Q4}{CX:AI->CXT}{sp:AI->Sp}{x:Str}
  (hn:l.most=some n) (hn2:n<=sizeLine) (hdf:d.params.defaults=[]) (hr:Room k callerA)
  (hY:∀(w:AI) (h:Heap),YP w h->(K w.params).In h)
  (F:∀(w:AI) (mg:AB) (fa:AD) (h:Heap),(K w.params).In h->h.Ns mainGlobals mg->mg d.name=some (.ref fa) ->
   ∃fd:AF,(∀(s:AE) (u:Value),BindsTo s fd ⟨[u],[]⟩ [(x,u)]) /\
    ∀base:Heap,(K w.params).In base->base.Ns mainGlobals mg->FnOk l.prog w (K w.params) mg base (CX w) k fa fd [x] (sp w))
  (hsp:∀(w:AI) (H:Hp) (a:AD) (ns:List Int),ns.length<=n->Only H->SqL (K w.params) H a (ns.map V.int)->sp w [.ref a] H (fun v _=>v=.bl true) fun _ _ _=>False)
  (hCX:∀(w:AI) (H:Hp) (s:AE) (e:Value) (s':AE),CX w [] H s (fun _ _ _=>False) e s'->False):
  PySem.W.WalkO q loose XP YP l.row.toRowW d [] (fun f vs=>PySem.call f vs):=by
 refine Att.attach_call hn hdf fun w s_0 s_1 mg mb fa o pm cd doc a vs ns G Y ho hd hcd hmg hobj hints BH hg=>?_;have KX:=hY w _ Y;obtain⟨fd,hb,hF⟩:=F w mg fa _ KX G.T.g hmg;exact Zj6 KX G.T.g G.T.b G.T.builtins G.T.nolimit hg hobj hints (YAK BH hn2) hr hF hb (fun H hO hS=>hsp w H a ns BH hO hS) fun H e s'=>hCX w H s_1 e s'
noncomputable def inClass (s:Stmt)(j:Nat):Stmt:=match s with
 | .ClassDef _ _ _ body _ _ _ _ _ _ _=>body.getD j (.Pass ⟨0,0,0,0⟩)
 | _=>.Pass ⟨0,0,0,0⟩
noncomputable def Zb3 (s:Stmt):Arguments:=match s with
 | .FunctionDef _ a _ _ _ _ _ _ _ _=>a
 | _=>{ posonlyargs:=[],args:=[],vararg:=none,kwonlyargs:=[],kw_defaults:=[],kwarg:=none,defaults:=[] }
noncomputable def ZbB (s:Stmt):List Stmt:=match s with
 | .FunctionDef _ _ b _ _ _ _ _ _ _=>b
 | _=>[]
noncomputable def Zah (s:Stmt):Scope:=match s with
 | .FunctionDef _ _ _ _ _ _ sc _ _ _=>sc
 | _=>{ kind:=.function,names:=[],isGenerator:=false,isCoroutine:=false }
abbrev CX0:CXT:=fun _ _ _ _ _ _=>False
abbrev E0:XK:=fun _ _ _=>False
theorem Zas {X:Cx}:Zcl CX0 X E0:=fun _ _ _ _ _ _ _ h=>h.elim
structure Fun (K:Q4)(x qual:Str)(st:Stmt)(f:AD)(fd:AF):Prop where
 ex:∃(oc:Value) (od:Option AD) (kV doc pm:Value) (an:Option AD) (BG ct:Value) (osl:Array (Option Value)),
  fd=PySem.W.fnOf x qual (Zb3 st) (ZbB st) (Zah st) .none kV doc pm an BG ct/\K.lookup f=some ⟨oc,od,.func fd,osl⟩/\PySem.W.codeIn K BG qual=true
 kp:PySem.W.keepIn K (.ref f)=true
section
variable {P:AG}{w:AI}{K:Q4}{mg:AB}{base:Heap}
theorem Fun.ok {x qual:Str}{st:Stmt}{f:AD}{fd:AF}{N ps:AJ}{k:Nat}{sp:Sp}(F:Fun K x qual st f fd)(S:FnScope N ps (Zah st))(len:∀vs H Q E,sp vs H Q E->vs.length=ps.length)
  (hbody:∀(BG:Value) (A:AH) (outer:List Env) (s:AE) (H:Hp) (vs:List V) (Q:VK) (E:XK),Room k (A.deeper (envOfC qual (Zah st) s.heap.objs.size f BG))->sp vs H Q E ->
   ∃t,PSs (cxOf CX0 P w K mg base N qual (Zah st) f BG A outer s H E).nox (ZbB st) t/\t { nx:=fun _ H'=>Q .non H',rt:=Q } (start N vs) H):FnOk P w K mg base CX0 (k+1) f fd ps sp:=by
 obtain⟨oc,od,kV,doc,pm,an,BG,ct,osl,rfl,lk,hcd⟩:=F.ex;refine Zl7 lk hcd S len fun A outer s H vs Q E hr hsp=>?_;obtain⟨t,h,q⟩:=hbody BG A outer s H vs Q E hr hsp;exact⟨t,h.nox,q⟩
theorem Fun.binds {x qual:Str}{st:Stmt}{f:AD}{fd:AF}{ps:AJ}(F:Fun K x qual st f fd)
  (h:∀(kV doc pm:Value) (an:Option AD) (BG ct:Value) (us:AC),us.length=ps.length->bindArgs (PySem.W.fnOf x qual (Zb3 st) (ZbB st) (Zah st) .none kV doc pm an BG ct) ⟨us,[]⟩=pure (ps.zip us)):Binds K fd ps []:=by
 obtain⟨oc,od,kV,doc,pm,an,BG,ct,osl,rfl,lk,hcd⟩:=F.ex;exact .all (h kV doc pm an BG ct)
theorem ZkT {x qual:Str}{st:Stmt}{f:AD}{oc:Value}{od an:Option AD}{osl:Array (Option Value)}{kV doc pm BG ct:Value}(l:K.lookup f=some ⟨oc,od,.func (PySem.W.fnOf x qual (Zb3 st) (ZbB st) (Zah st) .none kV doc pm an BG ct),osl⟩)
  (c:PySem.W.codeIn K BG qual=true) (k:PySem.W.keepIn K (.ref f)=true):Fun K x qual st f (PySem.W.fnOf x qual (Zb3 st) (ZbB st) (Zah st) .none kV doc pm an BG ct):=⟨⟨oc,od,kV,doc,pm,an,BG,ct,osl,rfl,l,c⟩,k⟩
end
theorem ZaF {A:AH}{k:Nat}(hr:Room k A):A.units+1<cLine:=YCa (Nat.add_le_add_left (by decide:1<=64) _) hr.units
theorem Zdh {n:Nat}(h:n<=1000):n<sizeLine:=YCa h (by decide)
section
variable {X:Cx}
theorem pv (i:Nat) {x:Str} {pos:Pos} (hN:X.N[i]?=some x:=by rfl) (hv:Vis X.env.scope x:=by first | exact Or.inl rfl | exact Or.inr (Or.inl rfl) | exact Or.inr (Or.inr rfl)) (hd:(x == ("__debug__":Str))=false:=by decide)
  (hcd:(x == ("__classdict__":Str))=false:=by decide):PE X (.Name x pos) (tVar i):=Zni hN hv hd hcd
end
theorem iteF {A B:Prop}(h:B):if false=true then A else B:=by rw[YAI YAC];exact h
theorem iteT {A B:Prop}(h:A):if true=true then A else B:=by rw[YAM rfl];exact h
theorem ite2 {c A B:Prop}[Decidable c](h1:c->A)(h2:¬c->B):if c then A else B:=by
 by_cases h:c
 .rw[YAM h];exact h1 h
 .rw[YAI h];exact h2 h
def Same (H H':Hp):Prop:=∀b o,H b=some o->H' b=some o
theorem Same.refl (H:Hp):Same H H:=fun _ _ h=>h
theorem Same.trans {H H1 H2:Hp}(a:Same H H1)(b:Same H1 H2):Same H H2:=fun c o h=>b c o (a c o h)
theorem Same.free {H H':Hp}(e:Same H H'){l:AD}(h:H' l=Option.none):H l=Option.none:=by
 cases q:H l with
 | none=>rfl
 | some o=>
  rw[e l o q]at h;cases h
theorem Same.seq {K:Q4}{H H':Hp}{a:AD}{xs:List V}(e:Same H H')(h:SqL K H a xs):SqL K H' a xs:=by
 rcases h with (h | ⟨o,h⟩) | h
 .exact .inl (.inl (e _ _ h))
 .exact .inl (.inr ⟨o,e _ _ h⟩)
 .exact .inr h
section
variable {κ:Type}[DecidableEq κ]
noncomputable def valV (kvs:List (κ×V))(k:κ):Option V:=(kvs.find? fun kv=>decide (kv.1=k)).map (·.2)
noncomputable def putK (kvs:List (κ×V))(k:κ)(v:V):List (κ×V):=
 if (kvs.any fun kv=>decide (kv.1=k))=true then kvs.map (fun kv=>if kv.1=k then (kv.1,v) else kv) else kvs++[(k,v)]
def Zme (kvs:List (κ×V))(k:κ):List (κ×V):=kvs.filter fun kv=>decide (kv.1≠k)
theorem Zbb {p:κ×V}{r:List (κ×V)}{k:κ}(e:p.1=k):valV (p::r) k=some p.2:=by simp[valV,YDF,e]
theorem Zbc {p:κ×V}{r:List (κ×V)}{k:κ}(e:¬p.1=k):valV (p::r) k=valV r k:=by simp[valV,YDF,e]
theorem ZbQ (k:κ):∀kvs:List (κ×V),(kvs.any fun kv=>decide (kv.1=k))=(valV kvs k).isSome
 | []=>rfl
 | p::r=>by
  rw[List.any_cons];by_cases e:p.1=k
  .simp only[Zbb e,decide_eq_true e,Bool.true_or,Option.isSome_some]
  .rw[Zbc e,decide_eq_false e,Bool.false_or];exact ZbQ k r
theorem Zgz (k j:κ)(y:V):∀kvs:List (κ×V),valV (kvs.map fun kv=>if kv.1=k then (kv.1,y) else kv) j=(valV kvs j).map fun x=>if j=k then y else x
 | []=>rfl
 | p::r=>by
  have ih:=Zgz k j y r;rw[YAi];by_cases h:p.1=k
  .rw[YAM h];by_cases e:p.1=j
   .rw[Zbb (p:=(p.1,y)) e,Zbb e,YDC,YAM (e.symm.trans h)]
   .rw[Zbc (p:=(p.1,y)) e,Zbc e,ih]
  .rw[YAI h];by_cases e:p.1=j
   .rw[Zbb (p:=p) e,Zbb e,YDC,YAI (fun z=>h (e.trans z))]
   .rw[Zbc (p:=p) e,Zbc e,ih]
theorem ZeY (k j:κ)(y:V):∀kvs:List (κ×V),valV kvs k=none->valV (kvs++[(k,y)]) j=if j=k then some y else valV kvs j
 | [],_=>by
  by_cases e:k=j
  .rw[YAM e.symm];exact Zbb (p:=(k,y)) e
  .rw[YAI (fun z=>e z.symm)];exact Zbc (p:=(k,y)) e
 | p::r,hn=>by
  rw[YCu];have hk:¬p.1=k:=fun z=>by rw[Zbb z]at hn;cases hn
  rw[Zbc hk]at hn;have ih:=ZeY k j y r hn;by_cases e:p.1=j
  .rw[Zbb e,Zbb e,YAI (fun z=>hk (e.trans z))]
  .rw[Zbc e,Zbc e,ih]
theorem Zek (kvs:List (κ×V))(k j:κ)(y:V):valV (putK kvs k y) j=if j=k then some y else valV kvs j:=by
 unfold putK;by_cases a:(kvs.any fun kv=>decide (kv.1=k))=true
 .rw[YAM a,Zgz];rw[ZbQ]at a;by_cases e:j=k
  .obtain⟨x,hx⟩:=YCy.mp a;rw[YAM e,e,hx,YDC,YAM rfl]
  .rw[YAI e];cases valV kvs j with
   | none=>rfl
   | some x=>rw[YDC,YAI e]
 .rw[YAI a];refine ZeY k j y kvs ?_;rw[ZbQ]at a;cases q:valV kvs k with
  | none=>rfl
  | some x=>rw[q]at a;exact(a rfl).elim
theorem Zby (kvs:List (κ×V))(k:κ)(v:V):(putK kvs k v).length<=kvs.length+1:=by
 unfold putK;split
 .rw[YAB];omega
 .rw[YAF,YAd,YCg];omega
theorem ZgK {kvs:List (κ×V)}{k:κ}(v:V)(h:valV kvs k=none):putK kvs k v=kvs++[(k,v)]:=by unfold putK;rw[ZbQ,h];exact YAI (by decide)
theorem RelO.isSome_eq {o:Option V}{u:Option Value}(r:RelO o u):o.isSome=u.isSome:=by
 cases o with
 | none=>cases u with
  | none=>rfl
  | some _=>exact(show False from r).elim
 | some _=>cases u with
  | none=>exact(show False from r).elim
  | some _=>rfl
theorem KV.val {kvs:List (κ×V)}{vs:List (κ×Value)}(r:KV kvs vs)(k:κ):RelO (valV kvs k) (valueAt vs k):=by
 unfold KV at r;induction r with
 | nil=>exact True.intro
 | @cons p q ps qs h t ih=>
  obtain⟨h1,h2⟩:=h;by_cases e:p.1=k
  .have e':q.1=k:=h1.symm.trans e;have b:valueAt (q::qs) k=some q.2:=by simp[valueAt,YDF,e']
   rw[Zbb e,b];exact h2
  .have e':¬q.1=k:=fun z=>e (h1.trans z);have b:valueAt (q::qs) k=valueAt qs k:=by simp[valueAt,YDF,e']
   rw[Zbc e,b];exact ih
theorem KV.any {kvs:List (κ×V)}{vs:List (κ×Value)}(r:KV kvs vs)(k:κ):(kvs.any fun kv=>decide (kv.1=k))=vs.any fun kv=>decide (kv.1=k):=by
 unfold KV at r;induction r with
 | nil=>rfl
 | cons h t ih=>rw[List.any_cons,List.any_cons,ih,h.1]
theorem KV.repl {kvs:List (κ×V)}{vs:List (κ×Value)}(r:KV kvs vs)(k:κ){y:V}{u:Value}(ry:RelV y u):
  KV (kvs.map fun kv=>if kv.1=k then (kv.1,y) else kv) (vs.map fun kv=>if kv.1=k then (kv.1,u) else kv):=by
 unfold KV at r ⊢;induction r with
 | nil=>exact .nil
 | @cons p q ps qs h t ih=>
  rw[YAi,YAi];refine .cons ?_ ih;obtain⟨h1,h2⟩:=h;by_cases e:p.1=k
  .rw[YAM e,YAM (h1.symm.trans e)];exact⟨h1,ry⟩
  .rw[YAI e,YAI (fun z=>e (h1.trans z))];exact⟨h1,h2⟩
theorem KV.put {kvs:List (κ×V)}{vs:List (κ×Value)}(r:KV kvs vs)(k:κ){y:V}{u:Value}(ry:RelV y u):KV (putK kvs k y) (stored vs k u):=by
 unfold putK stored;rw[r.any k];by_cases e:(vs.any fun kv=>decide (kv.1=k))=true
 .rw[YAM e,YAM e];exact r.repl k ry
 .rw[YAI e,YAI e];exact Paired.snoc r ⟨rfl,ry⟩
theorem KV.drop {kvs:List (κ×V)}{vs:List (κ×Value)}(r:KV kvs vs)(k:κ):KV (Zme kvs k) (without vs k):=by
 unfold KV at r ⊢;unfold Zme without;induction r with
 | nil=>exact .nil
 | @cons p q ps qs h t ih=>
  obtain⟨h1,h2⟩:=h;rw[List.filter_cons,List.filter_cons];by_cases e:p.1=k
  .have a:¬decide (p.1≠k)=true:=by simp[e]
   have b:¬decide (q.1≠k)=true:=by simp[h1.symm.trans e]
   rw[YAI a,YAI b];exact ih
  .have e':¬q.1=k:=fun z=>e (h1.trans z);have a:decide (p.1≠k)=true:=by simp[e]
   have b:decide (q.1≠k)=true:=by simp[e']
   rw[YAM a,YAM b];exact .cons ⟨h1,h2⟩ ih
theorem KV.keys {kvs:List (κ×V)}{vs:List (κ×Value)}(r:KV kvs vs):kvs.map (·.1)=vs.map (·.1):=by
 unfold KV at r;induction r with
 | nil=>rfl
 | cons h t ih=>rw[YAi,YAi,ih,h.1]
theorem KV.length {kvs:List (κ×V)}{vs:List (κ×Value)}(r:KV kvs vs):kvs.length=vs.length:=Paired.length r
end
theorem Zgi {P:AG}{w:AI}{k:Key}{u:Value}(r:RelV (kV k) u):(Zaz P w).is k u=true:=by
 cases k with
 | inl i=>obtain⟨t,e⟩:=(show ∃t,u=Value.int i t from r);subst e;exact Zgd P w i t
 | inr x=>obtain⟨t,e⟩:=(show ∃t,u=Value.str x t from r);subst e;exact Zcn P w x t
theorem Zfx {P:AG}{w:AI}:∀ {ks:List Key} {us:AC},Vals (ks.map kV) us->ItemsAre (Zaz P w) ks us
 | [],_,r=>by rw[List.map_nil]at r;cases r;exact .nil
 | k::ks,_,r=>by
  rw[YAi]at r;cases r with
  | cons h t=>exact .cons (Zgi h) (Zfx t)
abbrev KT (H:Hp):List (List Key×V)->List (List Key×AD×Value)->Prop:=Paired fun p q=>p.1=q.1/\H q.2.1=some (.tup (p.1.map kV))/\RelV p.2 q.2.2
theorem KT.val {H:Hp}{kvs:List (List Key×V)}{xs:List (List Key×AD×Value)}(r:KT H kvs xs)(k:List Key):RelO (valV kvs k) ((atKey xs k).map (·.2)):=by
 induction r with
 | nil=>exact True.intro
 | @cons p q ps qs h t ih=>
  obtain⟨h1,_,h2⟩:=h;by_cases e:p.1=k
  .have e':q.1=k:=h1.symm.trans e;have b:atKey (q::qs) k=some q.2:=by simp[atKey,YDF,e']
   rw[Zbb e,b];exact h2
  .have e':¬q.1=k:=fun z=>e (h1.trans z);have b:atKey (q::qs) k=atKey qs k:=by simp[atKey,YDF,e']
   rw[Zbc e,b];exact ih
theorem KT.repl {H:Hp}{kvs:List (List Key×V)}{xs:List (List Key×AD×Value)}(r:KT H kvs xs)(k:List Key){y:V}{u:Value}(ry:RelV y u):
  KT H (kvs.map fun kv=>if kv.1=k then (kv.1,y) else kv) (xs.map (putAt k u)):=by
 induction r with
 | nil=>exact .nil
 | @cons p q ps qs h t ih=>
  rw[YAi,YAi];refine .cons ?_ ih;obtain⟨h1,h2,h3⟩:=h;unfold putAt;by_cases e:p.1=k
  .rw[YAM e,YAM (h1.symm.trans e)];exact⟨h1,h2,ry⟩
  .rw[YAI e,YAI (fun z=>e (h1.trans z))];exact⟨h1,h2,h3⟩
theorem KT.put {H:Hp}{kvs:List (List Key×V)}{xs:List (List Key×AD×Value)}(r:KT H kvs xs)(k:List Key){b:AD}{y:V}{u:Value}(hb:H b=some (.tup (k.map kV)))(ry:RelV y u):
  KT H (putK kvs k y) (storedH xs k b u):=by
 have e:(kvs.any fun kv=>decide (kv.1=k))=(atKey xs k).isSome:=by rw[ZbQ,(r.val k).isSome_eq,Option.isSome_map]
 unfold putK storedH;rw[e];by_cases q:(atKey xs k).isSome=true
 .rw[YAM q,YAM q];exact r.repl k ry
 .rw[YAI q,YAI q];exact Paired.snoc r ⟨rfl,hb,ry⟩
theorem KT.keeps {H H':Hp}{kvs:List (List Key×V)}{xs:List (List Key×AD×Value)}(r:KT H kvs xs)(ht:∀b ys,H b=some (.tup ys)->H' b=some (.tup ys)):KT H' kvs xs:=
 Paired.mapP r fun _ _ z=>⟨z.1,ht _ _ z.2.1,z.2.2⟩
section
variable {P:AG}{w:AI}{H:Hp}{h:Heap}{a:AD}
theorem Zm7 {u:HO}(ok:HOk P w H h)(e:Rd H a u):ObjOk P w H h a u:=e.ok ok
theorem ZhU {kvs:List (Key×V)}(ok:HOk P w H h)(e:Rd H a (.dK kvs)):kvs.length<=sizeLine/\(a == sysModules)=false/\∃vs,KV kvs vs/\h.DictOf (Zaz P w) a vs:=
 show ObjOk P w H h a (.dK kvs) from Zm7 ok e
theorem Zor {kvs:List (Key×V)}(ok:HOk P w H h)(e:H a=some (.dK kvs)):kvs.length<=sizeLine/\(a == sysModules)=false/\∃vs,KV kvs vs/\h.DictOf (Zaz P w) a vs:=ZhU ok (.inl e)
theorem Zd2 {ks:List Key}(ok:HOk P w H h)(e:H a=some (.tup (ks.map kV))):(tupleKind (Zaz P w)).is h ks a:=by obtain⟨_,its,r,o,h1,h2,n,h3⟩:=(show ObjOk P w H h a (.tup (ks.map kV)) from ok a _ e);exact⟨o,its.toArray,n,h1,h2,h3,by simpa using Zfx r⟩
theorem ZhT {kvs:List (List Key×V)}(ok:HOk P w H h)(e:Rd H a (.dT kvs)):kvs.length<=sizeLine/\(a == sysModules)=false /\
  ∃xs,KT H kvs xs/\h.DictOfH (tupleKind (Zaz P w)) a xs:=by
 obtain⟨z,y,xs,r,o,es,ep,h1,h2,h3,h4,h5⟩:=(show ObjOk P w H h a (.dT kvs) from Zm7 ok e);refine⟨z,y,xs,r,o,es,ep,h1,h2,h3,h4,fun x hx=>?_,h5⟩;have all:∀ {l:List (List Key×V)} {m:List (List Key×AD×Value)},KT H l m->∀x∈m,(tupleKind (Zaz P w)).is h x.1 x.2.1:=by
  intro l m q;induction q with
  | nil=>intro x hx;exact nomatch hx
  | @cons p q ps qs hq t ih=>
   intro x hx;rcases YAT.mp hx with e | hx
   .subst e;exact Zd2 ok (by rw[<-hq.1];exact hq.2.1)
   .exact ih x hx
 exact all r x hx
theorem ZqM {kvs:List (List Key×V)}(ok:HOk P w H h)(e:H a=some (.dT kvs)):kvs.length<=sizeLine/\(a == sysModules)=false /\
  ∃xs,KT H kvs xs/\h.DictOfH (tupleKind (Zaz P w)) a xs:=ZhT ok (.inl e)
end
def DGet (H:Hp)(a:AD)(y:V)(r:Option V):Prop:=
 (∃kvs k,Rd H a (.dK kvs)/\y=kV k/\r=valV kvs k)\/∃kvs k b,Rd H a (.dT kvs)/\y=.ref b/\H b=some (.tup (k.map kV))/\r=valV kvs k
def DPut (H:Hp)(a:AD)(y v:V)(H':Hp):Prop:=
 (∃kvs k,H a=some (.dK kvs)/\y=kV k/\kvs.length<sizeLine/\H'=upd H a (.dK (putK kvs k v))) \/
 ∃kvs k b,H a=some (.dT kvs)/\y=.ref b/\H b=some (.tup (k.map kV))/\kvs.length<sizeLine/\H'=upd H a (.dT (putK kvs k v))
theorem DGet.k {H:Hp}{a:AD}{kvs:List (Key×V)}{k:Key}(e:H a=some (.dK kvs)):DGet H a (kV k) (valV kvs k):=.inl ⟨kvs,k,.inl e,rfl,rfl⟩
theorem DGet.t {H:Hp}{a b:AD}{kvs:List (List Key×V)}{k:List Key}(e:H a=some (.dT kvs))(eb:H b=some (.tup (k.map kV))):DGet H a (.ref b) (valV kvs k):=.inr ⟨kvs,k,b,.inl e,rfl,eb,rfl⟩
theorem DPut.k {H:Hp}{a:AD}{kvs:List (Key×V)}{k:Key}{v:V}(e:H a=some (.dK kvs))(hl:kvs.length<sizeLine):DPut H a (kV k) v (upd H a (.dK (putK kvs k v))):=.inl ⟨kvs,k,e,rfl,hl,rfl⟩
theorem DPut.t {H:Hp}{a b:AD}{kvs:List (List Key×V)}{k:List Key}{v:V}(e:H a=some (.dT kvs))(eb:H b=some (.tup (k.map kV)))(hl:kvs.length<sizeLine):
  DPut H a (.ref b) v (upd H a (.dT (putK kvs k v))):=.inr ⟨kvs,k,b,e,rfl,eb,hl,rfl⟩
section
variable {X:Cx}{BF:AA}{U:St}{H:Hp}{s:AE}{a:AD}{y v:V}{u r:Value}{o:Option V}{A:AH}{E:Q33}
theorem Inv.big (I:Inv X BF U H s):sysModules<s.heap.objs.size:=by have h:mainGlobals<s.heap.objs.size:=(I.mod.glob.keeps I.bk).lt;exact Nat.lt_trans (by decide) h
theorem Zjf {Q:Q33}(hu:A.units+1<cLine)(I:Inv X BF U H s)(g:DGet H a y (some v))(ry:RelV y u)(h:∀w' s',Inv X BF U H s'->RelV v w'->Q w' s'):
  wpAny (model X.prog X.w) A (getItem (.ref a) u) Q E s:=by
 rcases g with⟨kvs,k,e,ey,l⟩|⟨kvs,k,b,e,ey,eb,l⟩
 .subst ey;obtain⟨z,hd,vs,rel,dd⟩:=ZhU I.hok e;obtain⟨w',hw,rw'⟩:=RelO.some_of (v:=v) (o:=valueAt vs k) (by rw[l];exact rel.val k);exact wpAny_getItem_of (Zgi ry) dd.mapOf hw (h w' _ (I.tok _) rw')
 .subst ey;cases (show u=Value.ref b from ry);obtain⟨z,hd,xs,rel,dd⟩:=ZhT I.hok e;obtain⟨w',hw,rw'⟩:=RelO.some_of (v:=v) (o:=(atKey xs k).map (·.2)) (by rw[l];exact rel.val k);obtain⟨p,hp,hp2⟩:=YDH.mp hw;refine wpAny_getItem_heap (tupleKind_room_in1 hu) (Zd2 I.hok eb) dd hp ?_;rw[hp2];exact h w' _ (I.tok _) rw'
theorem d_in {Q:Q33}(hu:A.units+1<cLine)(I:Inv X BF U H s)(g:DGet H a y o)(ry:RelV y u)(h:∀s',Inv X BF U H s'->Q (.bool o.isSome) s'):
  wpAny (model X.prog X.w) A (compareOp .In u (.ref a)) Q E s:=by
 rcases g with⟨kvs,k,e,ey,l⟩|⟨kvs,k,b,e,ey,eb,l⟩
 .subst ey;obtain⟨z,hd,vs,rel,dd⟩:=ZhU I.hok e;refine wpAny_in_of (Zgi ry) hd dd.mapOf ?_;rw[<-(rel.val k).isSome_eq,<-l];exact h _ (I.tok _)
 .subst ey;cases (show u=Value.ref b from ry);obtain⟨z,hd,xs,rel,dd⟩:=ZhT I.hok e;refine wpAny_in_heap (tupleKind_room_in1 hu) (Zd2 I.hok eb) hd dd ?_;have q:=(rel.val k).isSome_eq;rw[Option.isSome_map]at q;rw[<-q,<-l];exact h _ (I.tok _)
theorem Zmh {Q:Q33}(hu:A.units+1<cLine)(I:Inv X BF U H s)(g:DGet H a y o)(ry:RelV y u)(h:∀s',Inv X BF U H s'->Q (.bool (!o.isSome)) s'):
  wpAny (model X.prog X.w) A (compareOp .NotIn u (.ref a)) Q E s:=by
 rcases g with⟨kvs,k,e,ey,l⟩|⟨kvs,k,b,e,ey,eb,l⟩
 .subst ey;obtain⟨z,hd,vs,rel,dd⟩:=ZhU I.hok e;refine wpAny_notIn_of (Zgi ry) hd dd.mapOf ?_;rw[<-(rel.val k).isSome_eq,<-l];exact h _ (I.tok _)
 .subst ey;cases (show u=Value.ref b from ry);obtain⟨z,hd,xs,rel,dd⟩:=ZhT I.hok e;refine wpAny_notIn_heap (tupleKind_room_in1 hu) (Zd2 I.hok eb) hd dd ?_;have q:=(rel.val k).isSome_eq;rw[Option.isSome_map]at q;rw[<-q,<-l];exact h _ (I.tok _)
theorem Zgq {h':Heap}{t':Nat}{ob:HO}(I:Inv X BF U H s)(mu:Mut (H a))(hs:Heap.SameBut a s.heap h')(he:∃q,h'.get? a=some q)(new:ObjOk X.prog X.w (upd H a ob) h' a ob):
  Inv X BF U (upd H a ob) { s with heap:=h',toks:=t' }:=
 I.write (x:=a) (e:=a) mu (.inl rfl) (fun b q hb z=>(hs.2 b hb).trans z) he new
theorem ZkY {P:AG}{w:AI}{H':Hp}{h':Heap}{kvs:List (Key×V)}{vs:List (Key×Value)}(z:kvs.length<=sizeLine)(hd:(a == sysModules)=false)(rel:KV kvs vs)(dd:h'.DictOf (Zaz P w) a vs):
  ObjOk P w H' h' a (.dK kvs):=⟨z,hd,vs,rel,dd⟩
theorem Zje {H':Hp}{Q:Unit->AE->Prop}(hu:A.units+1<cLine)(I:Inv X BF U H s)(g:DPut H a y v H')(ry:RelV y u)(rv:RelV v r)(h:∀s',Inv X BF U H' s'->Q () s'):
  wpAny (model X.prog X.w) A (setItem (.ref a) u r) Q E s:=by
 rcases g with⟨kvs,k,e,ey,l,eH⟩|⟨kvs,k,b,e,ey,eb,l,eH⟩
 .subst ey eH;obtain⟨z,hd,vs,rel,dd⟩:=Zor I.hok e;have hz:vs.length<=sizeLine:=by rw[<-rel.length];exact z
  have hl:(putK kvs k v).length<=sizeLine:=by have:=Zby kvs k v;omega
  refine wpAny_setItem_pairs (hsz:=hz) (Zgi ry) dd fun h' dd' hs=>h _ ?_;have he:∃q,h'.get? a=some q:=let ⟨q,_,_,hq,_⟩:=dd';⟨q,hq⟩;exact Zgq I (by rw[e];exact True.intro) hs he (ZkY hl hd (rel.put k rv) dd')
 .subst ey eH;cases (show u=Value.ref b from ry);obtain⟨z,hd,xs,rel,dd⟩:=ZqM I.hok e;have hz:xs.length<=sizeLine:=by rw[<-Paired.length rel];exact z
  have hl:(putK kvs k v).length<=sizeLine:=by have:=Zby kvs k v;omega
  refine wpAny_setItem_heap (hsz:=hz) (tupleKind_room_in1 hu) (Zd2 I.hok eb) dd fun h' dd' hs=>h _ ?_;obtain⟨q,es,ep,hq,h2,h3,h4,_,h5⟩:=dd';refine Zgq I (by rw[e];exact True.intro) hs ⟨q,hq⟩ ⟨hl,hd,_,(rel.put k eb rv).keeps fun c ys ec=>?_,q,es,ep,hq,h2,h3,h4,h5⟩;rw[Zai (ZqI ec e (fun z=>nomatch z))];exact ec
end
section
variable {X:Cx}{BF:AA}{U:St}{H:Hp}{s:AE}{a:AD}{kvs:List (Key×V)}{k:Key}{u:Value}{A:AH}{E:Q33}
end
def NoSl (i:Expr):Prop:=∀ov iv,subscripted i false ov iv=operate [ov,iv] (getItem ov iv)
theorem Zli {prog:AG}{w:AI}{A:AH}{E:Q33}{s:AE}{env:Env}{value slice:Expr}{pos:Pos}{T id:String}{Q:Q33}
  (hl:typeLookup (.type T) "__getitem__"=pure (some (.builtin id))) (hs:NoSl slice)
  (h:wpAny (model prog w) A (eval value env) (fun o s_1=>wpAny (model prog w) A (eval slice env) (fun i s_2=>s_2.TypeIs o T/\wpAny (model prog w) A (getItem o i) Q E s_2) E s_1) E s):
  wpAny (model prog w) A (eval (.Subscript value slice pos) env) Q E s:=by
 refine Subscript_ (YBB h (fun o s_1 h9=>YBB h9 (fun i s_2 h_2=>?_) fun _ _ x=>x) fun _ _ x=>x);obtain⟨hT,h_2⟩:=h_2;unfold subscriptTail;refine YAA ?_;rw[getitemInPython_of_ne hT.not_modules];refine YAA (wpAny_specialOf hT hl ?_);have fin:wpAny (model prog w) A (subscripted slice false o i) (fun r s₃=>wpAny (model prog w) A (letTemporaryGo value o r >>= fun _=>pure r) Q E s₃) E s_2:=by rw[hs o i];exact wpAny_operating (YBB h_2 (fun r s₃ h₃=>YAA (wpAny_letTemporaryGo (YAD h₃))) fun _ _ x=>x)
 first
  | exact YAD (YAA fin)
  | exact YAA (YAD (YAA fin))
  | exact YAA fin
theorem Zgm {X:Cx}{BF:AA}{U:St}{H:Hp}{s:AE}{a:AD}{y:V}{o:Option V}(I:Inv X BF U H s)(g:DGet H a y o):s.TypeIs (.ref a) "dict":=by
 rcases g with⟨kvs,k,e,_,_⟩|⟨kvs,k,b,e,_,_,_⟩
 .obtain⟨_,_,vs,_,dd⟩:=ZhU I.hok e;exact dd.typeIs
 .obtain⟨_,_,xs,_,dd⟩:=ZhT I.hok e;exact dd.typeIs
def ZmR (td ty:TE):TE:=fun U H Q=>td U H fun x H1=>ty U H1 fun y H2=>∃a v,x=.ref a/\DGet H2 a y (some v)/\Q v H2
def tDIn (ty td:TE):TE:=fun U H Q=>ty U H fun y H1=>td U H1 fun x H2=>∃a o,x=.ref a/\DGet H2 a y o/\Q (.bl o.isSome) H2
def Zh9 (ty td:TE):TE:=fun U H Q=>ty U H fun y H1=>td U H1 fun x H2=>∃a o,x=.ref a/\DGet H2 a y o/\Q (.bl (!o.isSome)) H2
def Zm4 (td ty tv:TE):TS:=fun D U H=>tv U H fun v H1=>td U H1 fun x H2=>ty U H2 fun y H3=>∃a H4,x=.ref a/\DPut H3 a y v H4/\D.nx U H4
section
variable {X:Cx}{o i e value:Expr}{pos pos' tpos:Pos}{td ty tv:TE}
theorem ZlE (hu:X.A.units+1<cLine)(ho:PE X o td)(hi:PE X i ty)(hs:NoSl i):PE X (.Subscript o i pos) (ZmR td ty):=by intro BF s U H Q I h;refine Zli PySem.F.slot_dict_getitem.lookup hs (thn (ho BF s U H _ I h) fun u s1 ⟨x,H1,I1,rx,q1⟩=>thn (hi BF s1 U H1 _ I1 q1) fun iv s2 zz=>?_);obtain⟨y,H2,I2,ry,a,v,ex,g,q2⟩:=zz;subst ex;obtain rfl:u=Value.ref a:=rx;exact⟨Zgm I2 g,Zjf hu I2 g ry fun w' s3 I3 rw'=>⟨v,H2,I3,rw',q2⟩⟩
theorem Znn (hu:X.A.units+1<cLine)(hi:PE X i ty)(ho:PE X o td):PC X .In i o (tDIn ty td):=by intro BF s U H Q I h;refine thn (hi BF s U H _ I h) fun iv s1 ⟨y,H1,I1,ry,q1⟩=>thn (ho BF s1 U H1 _ I1 q1) fun u s2 zz=>?_;obtain⟨x,H2,I2,rx,a,ov,ex,g,q2⟩:=zz;subst ex;obtain rfl:u=Value.ref a:=rx;exact d_in hu I2 g ry fun s3 I3=>⟨.bl ov.isSome,H2,I3,rfl,q2⟩
theorem Zit (hu:X.A.units+1<cLine)(hi:PE X i ty)(ho:PE X o td):PC X .NotIn i o (Zh9 ty td):=by intro BF s U H Q I h;refine thn (hi BF s U H _ I h) fun iv s1 ⟨y,H1,I1,ry,q1⟩=>thn (ho BF s1 U H1 _ I1 q1) fun u s2 zz=>?_;obtain⟨x,H2,I2,rx,a,ov,ex,g,q2⟩:=zz;subst ex;obtain rfl:u=Value.ref a:=rx;exact Zmh hu I2 g ry fun s3 I3=>⟨.bl (!ov.isSome),H2,I3,rfl,q2⟩
theorem Ziq (hu:X.A.units+1<cLine)(ho:PE X o td)(hi:PE X i ty)(hv:PE X value tv)(hs:swapsWith value (some (.Subscript o i pos')) pos.line X.env=pure false):
  PS X (.Assign [.Subscript o i pos'] value pos) (Zm4 td ty tv):=by
 intro BF s U H D I h;refine wpAny_Assign_Subscript (thn (hv BF s U H _ I h) fun r s1 ⟨v,H1,I1,rv,q1⟩=>thn (ho BF s1 U H1 _ I1 q1) fun u s2 ⟨x,H2,I2,rx,q2⟩=>thn (hi BF s2 U H2 _ I2 q2) fun iv s3 zz=>?_) hs;obtain⟨y,H3,I3,ry,a,H4,ex,g,q3⟩:=zz;subst ex;obtain rfl:u=Value.ref a:=rx;exact Zje hu I3 g ry rv fun s4 I4=>⟨U,H4,I4,q3⟩
end
theorem Zhd {P:AG}{w:AI}{H:Hp}(h:Heap)(hb:sysModules<h.objs.size):ObjOk P w H (h.push { cls:=.type "dict",data:=.dict #[] }) h.objs.size (.dK []):=
 ⟨YAv _,beq_eq_false_iff_ne.mpr (YBM (YAf hb)),[],.nil,Heap.DictOf.new h⟩
def tDNewK:TE:=fun _ H Q=>∀p,H p=none->Q (.ref p) (upd H p (.dK []))
section
variable {X:Cx}{pos:Pos}
theorem ZjR:PE X (.Dict [] [] pos) tDNewK:=fun BF s U H Q I h=>
 wpAny_Dict_empty ⟨.ref s.heap.objs.size,_,I.laid (a:=s.heap.objs.size) (o:=.dK []) (t':=s.toks) (fun _ _ q=>YAE _ q) (YAS _) (Zhd s.heap I.big),rfl,h _ (I.hok.fresh (YAS _))⟩
end
def ZgB:List (TE×TE)->St->Hp->(List (V×V)->Hp->Prop)->Prop
 | [],_,H,Q=>Q [] H
 | (tk,tv)::r,U,H,Q=>tk U H fun x H1=>tv U H1 fun y H2=>ZgB r U H2 fun ps H3=>Q ((x,y)::ps) H3
abbrev VV:List (V×V)->List (Value×Value)->Prop:=Paired fun p q=>RelV p.1 q.1/\RelV p.2 q.2
def PPs (X:Cx)(pos:Pos)(keys:List (Option Expr))(values:List Expr)(trs:List (TE×TE)):Prop:=
 ∀(BF:AA) (s:AE) (U:St) (H:Hp) (Q:List (V×V)->Hp->Prop),Inv X BF U H s->ZgB trs U H Q ->
  wpAny (model X.prog X.w) X.A (evalPairs (pairTrees keys values X.env pos)) (fun vs s'=>∃ps H',Inv X BF U H' s'/\VV ps vs/\Q ps H') X.xe s
theorem Zly {X:Cx}{pos:Pos}:PPs X pos [] [] []:=fun BF s U H Q I h=>pairTrees_nil_walk ⟨[],H,I,.nil,h⟩
theorem ZjN {X:Cx}{pos:Pos}{k v:Expr}{ks:List (Option Expr)}{vs:List Expr}{tk tv:TE}{trs:List (TE×TE)}(hk:PE X k tk)(hv:PE X v tv)(hr:PPs X pos ks vs trs):
  PPs X pos (some k::ks) (v::vs) ((tk,tv)::trs):=fun BF s U H Q I h=>
 pairTrees_cons_walk (thn (hk BF s U H _ I h) fun u s1 ⟨x,H1,I1,rx,q1⟩=>thn (hv BF s1 U H1 _ I1 q1) fun w2 s2 ⟨y,H2,I2,ry,q2⟩=>
  thn (hr BF s2 U H2 _ I2 q2) fun ws s3 ⟨ps,H3,I3,rel,q3⟩=>⟨(x,y)::ps,H3,I3,.cons ⟨rx,ry⟩ rel,q3⟩)
noncomputable def ZbG (kvs more:List (Key×V)):List (Key×V):=more.foldl (fun acc kv=>putK acc kv.1 kv.2) kvs
theorem KV.merge:∀ {more:List (Key×V)} {rs:List (Key×Value)} {kvs:List (Key×V)} {vs:List (Key×Value)},KV more rs->KV kvs vs->KV (ZbG kvs more) (merged vs rs):=by
 intro more rs kvs vs r;unfold KV at r;induction r generalizing kvs vs with
 | nil=>intro q;exact q
 | @cons p q ps qs h t ih=>
  intro r0;have e:KV (putK kvs p.1 p.2) (stored vs q.1 q.2):=by have:=r0.put p.1 h.2;rw[<-h.1];exact this
  exact ih e
theorem ZbS:∀(more kvs:List (Key×V)),(ZbG kvs more).length<=kvs.length+more.length
 | [],kvs=>by show kvs.length<=kvs.length+0;omega
 | p::r,kvs=>by have h1:=ZbS r (putK kvs p.1 p.2);have h2:=Zby kvs p.1 p.2;show (ZbG (putK kvs p.1 p.2) r).length<=_;rw[YAd];omega
theorem Zeg {P:AG}{w:AI}:∀ {kvs:List (Key×V)} {ws:List (Value×Value)},VV (kvs.map fun kv=>(kV kv.1,kv.2)) ws->∃rs,Carries (Zaz P w) ws rs/\KV kvs rs
 | [],_,r=>by rw[List.map_nil]at r;cases r;exact⟨[],True.intro,.nil⟩
 | p::kvs,_,r=>by
  rw[YAi]at r;cases r with
  | @cons a b as bs h t=>
   obtain⟨rs,c,q⟩:=Zeg (P:=P) (w:=w) t;obtain⟨b1,b2⟩:=b;exact⟨(p.1,b2)::rs,⟨Zgi h.1,rfl,c⟩,.cons ⟨rfl,h.2⟩ q⟩
def ZmM (trs:List (TE×TE)):TE:=fun U H Q=>∀p,H p=none->ZgB trs U (upd H p (.dK [])) fun ps H2=>H2 p=some (.dK [])/\∃kvs:List (Key×V),ps=kvs.map (fun kv=>(kV kv.1,kv.2))/\kvs.length<=15/\Q (.ref p) (upd H2 p (.dK (ZbG [] kvs)))
theorem ZlD {X:Cx}{pos:Pos}{keys:List (Option Expr)}{values:List Expr}{trs:List (TE×TE)}(h:PPs X pos keys values trs)(hall:keys.all (·.isSome)=true)(hl:keys.length=values.length)(h0:keys≠[])
  (h15:keys.length<=15):PE X (.Dict keys values pos) (ZmM trs):=by
 intro BF s U H Q I q;have hn:=I.hok.fresh (YAS s.heap.objs.size);have I1:=I.laid (a:=s.heap.objs.size) (o:=.dK []) (h':=s.heap.push { cls:=.type "dict",data:=.dict #[] }) (t':=s.toks) (fun _ _ q=>YAE _ q) (YAS _) (Zhd s.heap I.big);refine wpAny_Dict_walk (knd:=Zaz X.prog X.w) hall hl h0 h15 (thn (h BF _ U _ _ I1 (q _ hn)) fun ws s2 zz=>?_);obtain⟨ps,H2,I2,rel,e,kvs,ep,lk,q2⟩:=zz;subst ep;obtain⟨rs,c,rk⟩:=Zeg (P:=X.prog) (w:=X.w) rel;obtain⟨z,hd,vs0,r0,dd⟩:=Zor I2.hok e;cases r0;refine⟨rs,c,dd,fun h' dd' hs=>⟨.ref s.heap.objs.size,_,?_,rfl,q2⟩⟩;have hz:(ZbG [] kvs).length<=sizeLine:=by have h1:=ZbS kvs [];rw[YCg]at h1;rw[sizeLine_eq];omega
 have he:∃q,h'.get? s.heap.objs.size=some q:=let ⟨q,_,_,hq,_⟩:=dd';⟨q,hq⟩;exact Zgq I2 (by rw[e];exact True.intro) hs he (ZkY hz hd (rk.merge .nil) dd')
structure M1 (X:Cx)(o:Expr)(m:Str)(BK:Pos)(e:Expr)(BL:Pos):Prop where
 base:attributeBase o m X.env (eval o X.env)=eval o X.env
 few:((backTo BL (starEach [e] X.env)).all (fun x=>!x.1)&&(backToKw BL (keywordEach [] X.env)).all (fun x=>x.1.isSome)
  && decide (([e]:List Expr).length+([]:List Keyword).length+(if ([]:List Keyword).isEmpty then 0 else 1)<30))=true
 line:(BK.endLine == BL.line)=true
 trees:backTo BL (starEach [e] X.env)=[(false,eval e X.env)]
structure M2 (X:Cx)(o:Expr)(m:Str)(BK:Pos)(e f:Expr)(BL:Pos):Prop where
 base:attributeBase o m X.env (eval o X.env)=eval o X.env
 few:((backTo BL (starEach [e,f] X.env)).all (fun x=>!x.1)&&(backToKw BL (keywordEach [] X.env)).all (fun x=>x.1.isSome)
  && decide (([e,f]:List Expr).length+([]:List Keyword).length+(if ([]:List Keyword).isEmpty then 0 else 1)<30))=true
 line:(BK.endLine == BL.line)=true
 trees:backTo BL (starEach [e,f] X.env)=[(false,eval e X.env),(false,eval f X.env)]
def IsD (H:Hp)(a:AD):Prop:=(∃kvs,Rd H a (.dK kvs))\/∃kvs,Rd H a (.dT kvs)
section
variable {X:Cx}{BF:AA}{U:St}{H:Hp}{s:AE}{a:AD}{y d:V}{u r:Value}{o:Option V}{A:AH}{E:Q33}
end
section
variable {X:Cx}{o e f:Expr}{BK BL:Pos}{td ty tx:TE}
end
section
variable {X:Cx}{BF:AA}{U:St}{H:Hp}{s:AE}{a:AD}{kvs:List (Key×V)}{A:AH}{E:Q33}
end
section
variable {X:Cx}{BF:AA}{U:St}{H:Hp}{s:AE}{a:AD}{y:V}{u:Value}{A:AH}{E:Q33}
theorem d_K7 {Q:Q33}(hu:A.units+1<cLine)(hh:A.handled=none)(I:Inv X BF U H s)(g:DGet H a y none)(ry:RelV y u)
  (h:∀h' e t',Heap.NewExc s.heap h' e "KeyError"->E (.ref e) { s with heap:=h',toks:=t' }):wpAny (model X.prog X.w) A (getItem (.ref a) u) Q E s:=by
 rcases g with⟨kvs,k,e,ey,l⟩|⟨kvs,k,b,e,ey,eb,l⟩
 .subst ey;obtain⟨z,hd,vs,rel,dd⟩:=ZhU I.hok e;have hn:valueAt vs k=none:=RelO.none_of (by rw[l];exact rel.val k);exact wpAny_getItem_missing_of (Zgi ry) hd hh dd.mapOf hn fun h' ex ne=>h h' ex _ ne
 .subst ey;cases (show u=Value.ref b from ry);obtain⟨z,hd,xs,rel,dd⟩:=ZhT I.hok e;have hn:(atKey xs k).map (·.2)=none:=RelO.none_of (by rw[l];exact rel.val k);exact wpAny_getItem_missing_heap (tupleKind_room_in1 hu) (Zd2 I.hok eb) hd hh dd (Option.map_eq_none_iff.mp hn) fun h' ex ne=>h h' ex _ ne
end
section
variable {X:Cx}
end
section
variable {κ:Type}[DecidableEq κ]
theorem Zjr {kvs:List (κ×V)}{k:κ}(h:valV kvs k=none):¬k∈kvs.map (·.1):=by intro m;obtain⟨p,hp,e⟩:=YAg.mp m;have q:(kvs.any fun kv=>decide (kv.1=k))=true:=YCC.mpr ⟨p,hp,decide_eq_true e⟩;rw[ZbQ,h]at q;exact absurd q (by simp)
theorem Zf3 {kvs:List (κ×V)}{k:κ}{v:V}(h:valV kvs k=some v):k∈kvs.map (·.1):=by
 have q:(kvs.any fun kv=>decide (kv.1=k))=true:=by rw[ZbQ,h];all_goals rfl
 obtain⟨p,hp,e⟩:=YCC.mp q;exact YAg.mpr ⟨p,hp,of_decide_eq_true e⟩
theorem ZiD:∀ {l:List κ} {k:κ},l.Nodup->¬k∈l->(l++[k]).Nodup
 | [],k,_,_=>by simp
 | a::r,k,h,hk=>by
  obtain⟨h1,h2⟩:=YBU.mp h;show (a::(r++[k])).Nodup;refine YBU.mpr ⟨fun m=>?_,ZiD h2 fun m=>hk (YAT.mpr (Or.inr m))⟩;rcases YAW.mp m with q | q
  .exact h1 q
  .exact hk (YAT.mpr (Or.inl (YAL.mp q).symm))
theorem ZlJ {kvs:List (κ×V)}{k:κ}(v:V)(hn:(kvs.map (·.1)).Nodup)(h:valV kvs k=none):((putK kvs k v).map (·.1)).Nodup:=by rw[ZgK v h,YBb];exact ZiD hn (Zjr h)
end
noncomputable def clOf (cells:List (Str×AD)):List (Str×NameKind)->List (Str×AD)->List (Str×AD)
 | [],acc=>acc
 | (n,k)::r,acc=>if k == NameKind.free then clOf cells r ((n,(cells.lookup n).getD 0)::acc) else clOf cells r acc
theorem ZeQ {cells:List (Str×AD)}:∀(names:List (Str×NameKind)) (acc:List (Str×AD)) (p:Str×AD),p∈acc->p∈clOf cells names acc
 | [],_,_,h=>h
 | (n,k)::r,acc,p,h=>by
  unfold clOf;split
  .exact ZeQ r _ p (YAP _ h)
  .exact ZeQ r acc p h
theorem ZeR {cells:List (Str×AD)}{x:Str}:∀(names:List (Str×NameKind)) (acc:List (Str×AD)),(x,NameKind.free)∈names->(x,(cells.lookup x).getD 0)∈clOf cells names acc
 | [],_,h=>by cases h
 | (n,k)::r,acc,h=>by
  unfold clOf;rcases YAT.mp h with e | h
  .have e1:x=n:=congrArg Prod.fst e;have e2:NameKind.free=k:=congrArg Prod.snd e;subst e1 e2;exact ZeQ r _ _ YAY
  .split
   .exact ZeR r _ h
   .exact ZeR r _ h
theorem Zgs {cells:List (Str×AD)}:∀(names:List (Str×NameKind)) (acc:List (Str×AD)) (p:Str×AD),p∈clOf cells names acc->p∈acc\/((p.1,NameKind.free)∈names/\p.2=(cells.lookup p.1).getD 0)
 | [],_,_,h=>.inl h
 | (n,k)::r,acc,p,h=>by
  unfold clOf at h;split at h
  .rename_i hk
   have hk':k=NameKind.free:=by simpa using hk
   rcases Zgs r _ p h with q | ⟨q,e⟩
   .rcases YAT.mp q with q | q
    .subst q;subst hk';exact .inr ⟨YAY,rfl⟩
    .exact .inl q
   .exact .inr ⟨YAP _ q,e⟩
  .rcases Zgs r _ p h with q | ⟨q,e⟩
   .exact .inl q
   .exact .inr ⟨YAP _ q,e⟩
theorem Zef {sc:Scope}{env:Env}(h:∀y∈sc.names,y.2=NameKind.free->∃c,env.cells.lookup y.1=some c):closureFor sc env=pure (clOf env.cells sc.names []):=by
 have all:∀(names:List (Str×NameKind)) (acc:List (Str×AD)),(∀y∈names,y.2=NameKind.free->∃c,env.cells.lookup y.1=some c) ->
   (forIn names acc fun (y:Str×NameKind) (cs:List (Str×AD))=>(if (y.2 == NameKind.free)=true then (do let a <-cellOf env y.1;pure (ForInStep.yield ((y.1,a)::cs))) else pure (ForInStep.yield cs):Sem (ForInStep (List (Str×AD)))))=pure (clOf env.cells names acc):=by
  intro names;induction names with
  | nil=>intro acc _;rfl
  | cons y r ih=>
   intro acc hy;obtain⟨n,k⟩:=y;rw[List.forIn_cons];unfold clOf;by_cases hk:k=NameKind.free
   .subst hk;obtain⟨c,hc⟩:=hy (n,NameKind.free) YAY rfl;have hc':env.cells.lookup n=some c:=hc;simp only[beq_self_eq_true,if_true,cellOf,hc',pure_bind,Option.getD_some];exact ih _ fun z hz=>hy z (YAP _ hz)
   .have hb:(k == NameKind.free)=false:=by simpa using hk
    simp only[hb,YCd,if_false,pure_bind];exact ih _ fun z hz=>hy z (YAP _ hz)
 have q:=all sc.names [] h;unfold closureFor;show (forIn sc.names [] fun (y:Str×NameKind) (cs:List (Str×AD))=>_) >>= _=_
 first
  | (rw[q];rfl)
  | (refine Eq.trans (congrArg (fun t=>t >>= fun cs=>pure cs) q) ?_;rfl)
structure CmpScope (X:Cx)(sc:Scope):Prop where
 kind:sc.kind=.function
 nocell:∀y∈sc.names,y.2≠NameKind.cell
 loc:∀y∈sc.names,y.2=NameKind.local->sc.names.lookup y.1=some .local
 clos:∀y∈sc.names,y.2=NameKind.free->(X.env.kindOf y.1=some .cell\/X.env.kindOf y.1=some .free)
noncomputable def pick (ix:List (Option Nat))(U:St):St:=ix.map fun o=>o.bind fun i=>(U[i]?).join
def ZiX (N M:AJ)(sc:Scope)(ix:List (Option Nat)):Bool:=
 ix.length == N.length&&(N.zip ix).all fun p=>match p.2 with | none=>true | some i=>decide (M[i]?=some p.1)&&decide (sc.names.lookup p.1=some NameKind.free)
noncomputable def bx (X:Cx)(sc:Scope)(N:AJ)(fp:List AD)(s_0:AE)(H:Hp)(pn:AA):Cx:=
 { X with N:=N,s_0:=s_0,H_0:=H,env:=compEnvC sc (clOf X.env.cells sc.names []) s_0.heap.objs.size X.env,outer:=X.stack,stack:=X.stack,ex:=fp,fn:=fun _=>false,pn:=pn,xe:=fun _ _=>False }
theorem Zdm {sc:Scope}{env:Env}{x:Str}{k:NameKind}(h:(relabel sc env).names.lookup x=some k):(x,k)∈sc.names\/(k=.cell/\(x,NameKind.free)∈sc.names):=by
 have m:=YBw h;unfold relabel at m;obtain⟨⟨n,k'⟩,hm,e⟩:=YAg.mp m;dsimp only at e;split at e
 .rename_i hc
  have e1:n=x:=congrArg Prod.fst e;have e2:NameKind.cell=k:=congrArg Prod.snd e;have e3:k'=NameKind.free:=by rw[YAQ,YAQ]at hc;simpa using hc.1.1
  subst e1 e2 e3;exact .inr ⟨rfl,hm⟩
 .have e1:n=x:=congrArg Prod.fst e;have e2:k'=k:=congrArg Prod.snd e;subst e1 e2;exact .inl hm
theorem ZcY {env:Env}{x:Str}:∀ {names:List (Str×NameKind)},names.lookup x=some NameKind.free ->
  (names.map fun (n,k)=>if (k == NameKind.free&&env.scope.kind == .function&&env.kindOf n == some .cell) then (n,NameKind.cell) else (n,k)).lookup x=some .cell \/
  (names.map fun (n,k)=>if (k == NameKind.free&&env.scope.kind == .function&&env.kindOf n == some .cell) then (n,NameKind.cell) else (n,k)).lookup x=some .free
 | [],h=>by simp at h
 | (n,k)::r,h=>by
  by_cases hx:x=n
  .subst hx;simp only[YBz,beq_self_eq_true]at h;cases h;simp only[YAi];split
   .left;simp[YBz]
   .right;simp[YBz]
  .have hb:(x == n)=false:=by simpa using hx
   simp only[YBz,hb]at h;have ih:=ZcY (env:=env) h;simp only[YAi];split
   .simpa only[YBz,hb] using ih
   .simpa only[YBz,hb] using ih
theorem Zcx {α:Type}{x:Str}{c:α}:∀ {l:List (Str×α)},(x,c)∈l->∃c',l.lookup x=some c'
 | [],h=>by cases h
 | (n,d)::r,h=>by
  by_cases hx:x=n
  .subst hx;exact⟨d,by simp[YBz]⟩
  .have hb:(x == n)=false:=by simpa using hx
   rcases YAT.mp h with e | h
   .exact absurd (congrArg Prod.fst e) hx
   .obtain⟨c',e⟩:=Zcx h;exact⟨c',by simpa only[YBz,hb] using e⟩
section
variable {X:Cx}{BF:AA}{U:St}{H:Hp}{s:AE}{sc:Scope}{N:AJ}{fp:List AD}{ix:List (Option Nat)}
theorem Inv.capt (I:Inv X BF U H s)(S:CmpScope X sc):∀y∈sc.names,y.2=NameKind.free->∃c,X.env.cells.lookup y.1=some c:=fun y hy e=>I.ok.has y.1 (S.clos y hy e)
theorem Inv.clcell (I:Inv X BF U H s)(S:CmpScope X sc){x:Str}{c:AD}(h:(clOf X.env.cells sc.names []).lookup x=some c):X.env.cells.lookup x=some c:=by
 rcases Zgs _ _ _ (YBw h) with q | ⟨q,e⟩
 .cases q
 .obtain⟨c',hc⟩:=I.capt S _ q rfl;have hc':X.env.cells.lookup x=some c':=hc;have e':c=(X.env.cells.lookup x).getD 0:=e;rw[hc',Option.getD_some]at e';rw[e'];exact hc'
theorem Inv.clhas (I:Inv X BF U H s)(S:CmpScope X sc){x:Str}(h:(x,NameKind.free)∈sc.names):∃c,(clOf X.env.cells sc.names []).lookup x=some c/\X.env.cells.lookup x=some c:=by obtain⟨c,e⟩:=Zcx (ZeR (cells:=X.env.cells) sc.names [] h);exact⟨c,e,I.clcell S e⟩
theorem Inv.block {h1:Heap}{tk:Nat}{m:AB}(I:Inv X BF U H s)(S:CmpScope X sc)(hix:ZiX N X.N sc ix=true)(hf:∀b∈fp,FpOk X BF H b/\b<s.heap.objs.size)
  (hk:∀b o,s.heap.get? b=some o->h1.get? b=some o) (hn:h1.Ns s.heap.objs.size m):
  Inv (bx X sc N fp s H (X.pn++BF)) [] (pick ix U) H { s with heap:=h1,toks:=tk }:=by
 have hC:∀b o,s.heap.get? b=some o->b≠s.heap.objs.size:=fun b o e=>YAf (YAN e);have hcell:∀x c,(clOf X.env.cells sc.names []).lookup x=some c->∃v,s.heap.IsCell c v:=fun x c e=>I.cell x c (I.clcell S e);have stk:∀b,b≠X.env.locals->b∉X.fs->b∉frs X.stack:=fun b h1 h2 hb=>by
  rcases YAT.mp (I.stkSub b hb) with z | z
  .exact h1 z
  .exact h2 z
 rw[ZiX,YAQ]at hix;refine⟨⟨I.ok.mod,S.kind,I.ok.glob,I.ok.blt,YAS _,?_,?_,?_,I.ok.hd,I.ok.frames,.inl rfl,?_,I.bs,YAK I.ok.bsz I.sz,?_,?_,I.stack,I.stkFree⟩,
  rfl,I.bare,Un.kept hk,⟨m,hn,?_⟩,?_,I.fresh,?_,?_,I.hok.kept hk,?_⟩
 .intro x y c e1 e2;exact I.ok.inj x y c (I.clcell S e1) (I.clcell S e2)
 .intro x hx;have hx:(relabel sc X.env).names.lookup x=some .cell\/(relabel sc X.env).names.lookup x=some .free:=hx;have hm:(x,NameKind.free)∈sc.names:=by
   rcases hx with hx | hx
   .rcases Zdm hx with q | ⟨_,q⟩
    .exact absurd rfl (S.nocell _ q)
    .exact q
   .rcases Zdm hx with q | ⟨q,_⟩
    .exact q
    .cases q
  obtain⟨c,e,_⟩:=I.clhas S hm;exact⟨c,e⟩
 .intro x c z;cases z
 .intro b hb;obtain⟨f,BP⟩:=hf b hb;refine⟨YAf BP,fun x c e=>f.2.2.2.2.1 x c (I.clcell S e)⟩
 .intro b o e hb;obtain⟨⟨_,_,_,f3,_⟩,_⟩:=hf b hb;rcases f3 with z | z
  .exact I.ok.noex b o e z
  .exact absurd (YAN e) (Nat.not_lt.mpr (YAK I.ok.bsz z))
 .intro b hb;obtain⟨⟨_,f1,f2,_⟩,_⟩:=hf b hb;exact stk b f1 f2
 .intro i x v e1 e2 e3;have e1:N[i]?=some x:=e1;have hi:∃j,ix[i]?=some (some j)/\U[j]?=some (some v):=by
   unfold pick at e2;rw[YAc]at e2;cases q:ix[i]? with
   | none=>rw[q]at e2;cases e2
   | some o=>
    rw[q]at e2;cases o with
    | none=>cases e2
    | some j=>
     refine⟨j,rfl,?_⟩;have e4:(U[j]?).join=some v:=Option.some.inj e2;cases q2:U[j]? with
     | none=>rw[q2]at e4;cases e4
     | some w=>rw[q2]at e4;cases w with
      | none=>cases e4
      | some w=>rw[<-e4];rfl
  obtain⟨j,hj,hU⟩:=hi;have hz:(x,some j)∈N.zip ix:=by
   have q:(N.zip ix)[i]?=some (x,some j):=by rw[List.getElem?_zip_eq_some];exact⟨e1,hj⟩
   exact YAo q
  have hp:=YBO.mp hix.2 _ hz;dsimp only at hp;rw[YAQ]at hp;have hM:X.N[j]?=some x:=of_decide_eq_true hp.1;have hfr:sc.names.lookup x=some NameKind.free:=of_decide_eq_true hp.2;have hmem:=YBw hfr;obtain⟨mo,hno,hlo⟩:=I.loc;have hvis:Vis X.env.scope x:=by
   rcases S.clos _ hmem rfl with z | z
   .exact .inr (.inl z)
   .exact .inr (.inr z)
  obtain⟨u,ru,l⟩:=hlo j x v hM hU hvis;refine⟨u,ru,.inr ⟨?_,?_⟩⟩
  .exact ZcY (env:=X.env) hfr
  .obtain⟨c,e,e'⟩:=I.clhas S hmem;refine⟨c,e,?_⟩;rcases l with⟨k,_⟩|⟨_,c',ec,z⟩
   .rcases S.clos _ hmem rfl with q | q
    .rw[k]at q;cases q
    .rw[k]at q;cases q
   .rw[e']at ec;cases ec;obtain⟨o,ho,hd⟩:=z;exact⟨o,hk _ _ ho,hd⟩
 .intro x c e;obtain⟨v,o,ho,hd⟩:=hcell x c e;exact⟨v,o,hk _ _ ho,hd⟩
 .intro x c e;exact I.freeC x c (I.clcell S e)
 .intro p hp;have hp:p∈X.pn++BF:=by
   rcases YAW.mp hp with z | z
   .exact z
   .cases z
  obtain⟨e,n,ne,nf,d⟩:=I.pin p hp;exact⟨hk _ _ e,n,hC _ _ e,stk p.1 ne nf,d⟩
 .show (pick ix U).length=N.length;unfold pick;rw[YAB];simpa using hix.1
theorem Inv.unblock {τ:St}{H':Hp}{s':AE}{h':Heap}(I:Inv X BF U H s)(hf:∀b∈fp,FpOk X BF H b)(J:Inv (bx X sc N fp s H (X.pn++BF)) [] τ H' s')(hs:Heap.SameBut s.heap.objs.size s'.heap h'):
  Inv X BF U H' { s' with heap:=h' }:=by
 have nC:∀b o,s.heap.get? b=some o->b≠s.heap.objs.size:=fun b o e=>YAf (YAN e);have hfr:H' s.heap.objs.size=none:=J.free;have u:Un (frs X.stack) fp H H' s.heap s'.heap:=J.base;have ok:HOk X.prog X.w H' h':=fun b ob e=>by
  refine(J.hok b ob e).stay (fun c w' hc q=>(hs.2 c ?_).trans q) (fun _ q=>q) fun _ _ q=>q;rintro rfl;rcases hc with rfl | hc
  .rw[hfr]at e;cases e
  .rw[hfr]at hc;cases hc
 refine I.call' (ch:=fp) J.os ⟨fun b o e n h1 h2=>(hs.2 b (nC b o e)).trans (u.keep b o e n h1 h2),fun b o e n h1 h2=>?_,u.free,fun b o e h2=>?_,u.tups,u.frzs,u.tbls⟩ ok J.bare fun b hb=>?_
 .obtain⟨sl,q⟩:=u.slot b o e n h1 h2;exact⟨sl,(hs.2 b (nC b o e)).trans q⟩
 .obtain⟨o',q⟩:=u.there b o e h2;exact⟨o',(hs.2 b (nC b o e)).trans q⟩
 .obtain⟨_,f1,_,f3,f4,f5⟩:=hf b hb;exact⟨f3,f1,f4,f5⟩
end
def PIfs (X:Cx)(ifs:List Expr)(t:TT):Prop:=
 ∀(BF:AA) (s:AE) (U:St) (H:Hp) (Q:Bool->Hp->Prop),Inv X BF U H s->t U H Q ->
  wpAny (model X.prog X.w) X.A (forIn ifs true fun c r=>if r=true then do let ok <-isTrue c X.env (eval c X.env);pure (ForInStep.yield ok) else pure (ForInStep.yield r)) (TP X BF U Q) X.xe s
def tAll:TT:=fun _ H Q=>Q true H
theorem Zbu {X:Cx}:PIfs X [] tAll:=fun _ _ _ H _ I h=>wpAny_tests_nil ⟨H,I,h⟩
theorem ZbF {X:Cx}{c:Expr}{t:TT}(h:PT X c t):PIfs X [c] t:=fun BF s U H Q I q=>wpAny_tests_one (h BF s U H Q I q)
theorem ZfL {prog:AG}{w:AI}{A:AH}{R:Result->AE->Prop}{s:AE}{el tgt iter:Expr}{ifs:List Expr}{scp:Scope}{pos:Pos}{it acc:Value}{env:Env}(W:Nat->AE->Prop)
  (turn:∀n s,W n s->wpAny (model prog w) A (pyNext it) (fun r s_1=>match r with
   | none=>R (.ok .next) s_1
   | some v=>wpAny (model prog w) A (letOwnedTupleGo tgt it v) (fun _ s1_'=>wpAny (model prog w) A (assign tgt env v) (fun _ s_2=>
     wpAny (model prog w) A (forIn ifs true fun c r=>if r=true then do let ok <-isTrue c env (eval c env);pure (ForInStep.yield ok) else pure (ForInStep.yield r)) (fun ok s₃=>
      if ok=true then wpAny (model prog w) A (eval el env) (fun x s₄=>
       wpAny (model prog w) A (call (.builtin "list.append") [acc,x]) (fun _ s₅=>∃m,m<n/\W m s₅) (fun _ _=>False) s₄) (fun _ _=>False) s₃
      else ∃m,m<n/\W m s₃) (fun _ _=>False) s_2) (fun _ _=>False) s1_') (fun _ _=>False) s_1) (fun _ _=>False) s)
  (n:Nat) (h:W n s):codeAny (model prog w) A (.compLoop (.ListComp el [⟨tgt,iter,ifs,0⟩] scp pos) 0 it acc env) R s:=by
 refine codeAny_loop rfl W (fun n s hI=>?_) n h;show wpAny _ A ((compTurn (.ListComp el [⟨tgt,iter,ifs,0⟩] scp pos) 0 it acc env).onRaise (fun x=>do noteFrame x env;theTreesLotGoes x)) _ _ s;refine wpAny_noted ?_;rw[compTurn_list];refine YAA (YCz (YAA (YBB (turn n s hI) (fun r s1 q1=>?_) fun _ _ z=>z.elim)));cases r with
 | none=>exact YAD q1
 | some v=>
  refine YAA (YBB q1 (fun _ s1' q1'=>?_) fun _ _ z=>z.elim);refine YAA (YBB q1' (fun _ s2 q2=>YAA (YBB q2 (fun ok s3 q3=>?_) fun _ _ z=>z.elim)) fun _ _ z=>z.elim);cases ok with
  | false=>exact YAD ⟨rfl,q3⟩
  | true=>exact YAA (YAA (YBB q3 (fun x s4 q4=>YAA (YBB q4 (fun _ s5 q5=>YAD (YAD ⟨rfl,q5⟩)) fun _ _ z=>z.elim)) fun _ _ z=>z.elim))
def Zlg (ix:List (Option Nat))(wi:TI)(g:TG)(tt:TT)(te:TE):TE:=fun U H Q=>wi U H fun J H1=>∀acc,H1 acc=none->∃W:Nat->Nat->St->Hp->Prop,(∃m,W 0 m (pick ix U) (upd H1 acc (.lst []))) /\
 ∀i m τ H2,W i m τ H2->(J.stop i H2/\Q (.ref acc) H2)\/(J.go i H2/\∃Nx:St->Hp->Prop,(∀τ' H',Nx τ' H'->∃m',m'<m/\W (i+1) m' τ' H') /\
  ∀x H3,J.yld i H2 x H3->g x τ H3 fun τ2 H4=>tt τ2 H4 fun b H5=>if b=true then te τ2 H5 fun y H6=>∃ys,H6 acc=some (.lst ys)/\ys.length<sizeLine/\Nx τ2 (upd H6 acc (.lst (ys++[y]))) else Nx τ2 H5)
section
variable {X:Cx}{sc:Scope}{N:AJ}{ix:List (Option Nat)}{elt tg iter:Expr}{ifs:List Expr}{pos:Pos}{wi:TI}{g:TG}{tt:TT}{te:TE}
theorem Zee {Q:VK}{BF:AA}{s:AE}{U:St}{H:Hp}{it:AD}{fp:List AD}{tn:Nat->Heap->Prop}{J:It}{RR:Value->AD->Result->AE->Prop}
  (hc:X.calm=true) (S:CmpScope X sc) (hix:ZiX N X.N sc ix=true)
  (hg:∀fp s_0 H_0 pn,PG (bx X sc N fp s_0 H_0 pn) tg g) (ht:∀fp s_0 H_0 pn,PIfs (bx X sc N fp s_0 H_0 pn) ifs tt) (he:∀fp s_0 H_0 pn,PE (bx X sc N fp s_0 H_0 pn) elt te)
  (I:Inv X BF U H s) (T:Turn X.prog X.w X.K tg J fp it tn) (st:tn 0 s.heap) (hf:∀b∈fp,FpOk X BF H b)
  (q:∀acc,H acc=none->∃W:Nat->Nat->St->Hp->Prop,(∃m,W 0 m (pick ix U) (upd H acc (.lst []))) /\
   ∀i m τ H2,W i m τ H2->(J.stop i H2/\Q (.ref acc) H2)\/(J.go i H2/\∃Nx:St->Hp->Prop,(∀τ' H',Nx τ' H'->∃m',m'<m/\W (i+1) m' τ' H') /\
    ∀x H3,J.yld i H2 x H3->g x τ H3 fun τ2 H4=>tt τ2 H4 fun b H5=>if b=true then te τ2 H5 fun y H6=>∃ys,H6 acc=some (.lst ys)/\ys.length<sizeLine/\Nx τ2 (upd H6 acc (.lst (ys++[y]))) else Nx τ2 H5))
  (hR:∀(acc:AD) (s₃ s':AE) (τ:St) (H':Hp),Inv X BF U (upd H acc (.lst [])) s₃->(∀b∈fp,FpOk X BF (upd H acc (.lst [])) b)->Inv (bx X sc N fp s₃ (upd H acc (.lst [])) (X.pn++BF)) [] τ H' s'->Q (.ref acc) H' ->
   RR (.ref acc) s₃.heap.objs.size (.ok .next) s'):
  wpAny (model X.prog X.w) X.A (newList []) (fun acc s₃=>wpAny (model X.prog X.w) X.A (newFunctionEnv sc X.env.globals (clOf X.env.cells sc.names []) [] X.env.qual none .none (some X.env)) (fun cenv s₄=>
   codeAny (model X.prog X.w) X.A (.compStart (.ListComp elt [⟨tg,iter,ifs,0⟩] sc pos) 0 (.ref it) acc { cenv with scope:=relabel sc X.env }) (RR acc cenv.locals) s₄) X.xe s₃) X.xe s:=by
 refine YBv ?_;have hfr:=I.fresh;have I3:=I.lnew (its:=[]) (ys:=[]) (t':=s.toks) .nil (YAv _);have fne:∀b∈fp,b<s.heap.objs.size:=fun b hb=>by obtain⟨o,e,_⟩:=T.obj 0 _ st b hb;exact YAN e
 have hf3:∀b∈fp,FpOk X BF (upd H s.heap.objs.size (.lst [])) b:=fun b hb=>by obtain⟨f0,f⟩:=hf b hb;refine⟨?_,f⟩;rw[Zai (YAf (fne b hb))];exact f0
 have q3:=q _ hfr;have st3:tn 0 (s.heap.push { cls:=.type "list",data:=.seq ([]:AC).toArray }):=T.keep _ _ _ st fun b _ o e=>YAE _ e;generalize e3:({ s with heap:=s.heap.push { cls:=.type "list",data:=.seq ([]:AC).toArray },toks:=s.toks }:AE)=s3 at I3;have es3:s3.heap=s.heap.push { cls:=.type "list",data:=.seq ([]:AC).toArray }:=by rw[<-e3]
 rw[<-es3]at st3;have hf3':∀b∈fp,FpOk X BF (upd H s.heap.objs.size (.lst [])) b/\b<s3.heap.objs.size:=fun b hb=>⟨hf3 b hb,by rw[es3,YBh];exact YDJ (fne b hb)⟩;refine wpAny_newFunctionEnv S.nocell (by intro y hy;cases hy) (fun h9 hns1 hsb1=>?_) S.kind;have hk:∀b o,s3.heap.get? b=some o->h9.get? b=some o:=fun b o e=>hsb1.extBut b o (YAf (YAN e)) (YAE _ e);have I4:=I3.block (N:=N) (ix:=ix) (tk:=s3.toks+([]:List (Str×Value)).length) S hix hf3' hk hns1;have st4:tn 0 h9:=T.keep _ _ _ st3 fun b _ o e=>hk b o e;obtain⟨W,⟨m0,w0⟩,turn⟩:=q3;have statN:∀ {H':Hp},(∀b∈fp,H' b=none)->∀b∈fp,FpOk (bx X sc N fp s3 (upd H s.heap.objs.size (.lst [])) (X.pn++BF)) [] H' b:=fun {H'} hn b hb=>by
  obtain⟨⟨_,f1,f2,f3,f4,f5⟩,BP⟩:=hf3' b hb;refine⟨hn b hb,YAf BP,fun z=>?_,.inl hb,fun x c e=>f4 x c (I3.clcell S e),fun p hp=>?_⟩
  .rcases YAT.mp (I3.stkSub b z) with z | z
   .exact f1 z
   .exact f2 z
  .refine f5 p ?_;rcases YAW.mp hp with z | z
   .exact z
   .cases z
 have loop:∀s4:AE,s4={ s3 with heap:=h9,toks:=s3.toks+([]:List (Str×Value)).length } ->
   codeAny (model X.prog X.w) X.A (.compLoop (.ListComp elt [⟨tg,iter,ifs,0⟩] sc pos) 0 (.ref it) (.ref s.heap.objs.size) (compEnvC sc (clOf X.env.cells sc.names []) s3.heap.objs.size X.env)) (RR (.ref s.heap.objs.size) s3.heap.objs.size) s4:=by
  rintro s4 rfl;refine ZfL (fun n s'=>∃i τ H',Inv (bx X sc N fp s3 (upd H s.heap.objs.size (.lst [])) (X.pn++BF)) [] τ H' s'/\tn i s'.heap/\(∀b∈fp,H' b=none)/\W i n τ H') ?_ m0 ⟨0,_,_,I4,st4,fun b hb=>(hf3 b hb).1,w0⟩;rintro n s5 ⟨i,τ,H5,I5,st5,fr5,w5⟩;rcases turn i n τ H5 w5 with⟨stop,qn⟩|⟨go,Nx,hN,step⟩
  .refine thn (T.done (bx X sc N fp s3 (upd H s.heap.objs.size (.lst [])) (X.pn++BF)) rfl rfl rfl hc i [] s5 τ H5 (fun _ _=>False) I5 (statN fr5) st5 stop) fun r s6 zz=>?_;obtain⟨hr,I6⟩:=zz;subst hr;exact hR _ _ _ _ _ I3 hf3 I6 qn
  .refine thn (T.item (bx X sc N fp s3 (upd H s.heap.objs.size (.lst [])) (X.pn++BF)) rfl rfl rfl hc i [] s5 τ H5 (fun _ _=>False) I5 (statN fr5) st5 go) fun r s6 zz=>?_;obtain⟨u,hr,h6⟩:=zz;subst hr;refine thn h6 fun _ s7 zz=>?_;obtain⟨x,H7,I7,r7,y7,st7,fr7⟩:=zz;have I7':=I7.pinned (statN fr7) (T.obj _ _ st7);refine thn (hg _ _ _ _ _ s7 τ H7 x u _ I7' r7 (step x H7 y7)) fun _ s8 zz=>?_;obtain⟨τ8,H8,I8,q8⟩:=zz;have again:∀ {s9:AE} {τ9:St} {H9:Hp},Inv (bx X sc N fp s3 (upd H s.heap.objs.size (.lst [])) (X.pn++BF)) ([]++Zff fp s7.heap) τ9 H9 s9->Nx τ9 H9 ->
     ∃m,m<n/\∃i τ H',Inv (bx X sc N fp s3 (upd H s.heap.objs.size (.lst [])) (X.pn++BF)) [] τ H' s9/\tn i s9.heap/\(∀b∈fp,H' b=none)/\W i m τ H':=fun {s9 τ9 H9} I9 n9=>by
    obtain⟨m',hm,w9⟩:=hN τ9 H9 n9;refine⟨m',hm,i+1,τ9,H9,I9.unpinned,T.keep _ _ _ st7 fun b hb o e=>(I9.pin (b,o) (YBR _ (YBR _ (Zb9 hb e)))).1,fun b hb=>?_,w9⟩;obtain⟨o,e,d⟩:=T.obj _ _ st7 b hb;exact(I9.pin (b,o) (YBR _ (YBR _ (Zb9 hb e)))).2.1
   refine thn (ht _ _ _ _ _ s8 τ8 H8 _ I8 q8) fun ok s9 zz=>?_;obtain⟨H9,I9,q9⟩:=zz;cases ok with
   | false=>exact again I9 q9
   | true=>
    rw[YAM rfl]at q9 ⊢;refine thn (he _ _ _ _ _ s9 τ8 H9 _ I9 q9) fun yv s10 zz=>?_;obtain⟨y,H10,I10,r10,ys,ha,hz,q10⟩:=zz;refine thn (Zbf _ s10 τ8 H10 (.ref s.heap.objs.size) [y] (.ref s.heap.objs.size) [yv] (fun v H'=>v=.non/\Nx τ8 H') I10 rfl (.cons r10 .nil) ⟨_,ys,y,rfl,rfl,ha,hz,rfl,q10⟩) fun _ s11 zz=>?_;obtain⟨_,H11,I11,_,_,q11⟩:=zz;exact again I11 q11
 exact codeAny_compStart_list (loop _ rfl) (T.self _ 0 _ _ _ st4 (loop _ rfl))
theorem Zbp (hc:X.calm=true)(S:CmpScope X sc)(hix:ZiX N X.N sc ix=true)(hi:PI X tg iter wi)
  (hg:∀fp s_0 H_0 pn,PG (bx X sc N fp s_0 H_0 pn) tg g) (ht:∀fp s_0 H_0 pn,PIfs (bx X sc N fp s_0 H_0 pn) ifs tt) (he:∀fp s_0 H_0 pn,PE (bx X sc N fp s_0 H_0 pn) elt te)
  (hs:∀x,foldedSetIterable iter X.env x=pure x:=by intro _;rfl):PE X (.ListComp elt [⟨tg,iter,ifs,0⟩] sc pos) (Zlg ix wi g tt te):=by
 intro BF s U H Q I h;rw[eval_ListComp];refine wpAny_comprehension_free (use:=none) rfl hs (Zef (I.capt S)) S.kind S.loc (thn (hi BF s U H _ I h) fun v s1 h1=>thn h1 fun itv s2 h2=>?_);obtain⟨it,fp,tn,J,H2,e,I2,T,st2,f2,q⟩:=h2;subst e;refine Zee (Q:=Q) (RR:=fun acc C=>compPost (model X.prog X.w) X.A X.xe none (EP X BF U Q) acc C) hc S hix hg ht he I2 T st2 f2 q ?_;intro acc s3 s' τ H' I3 hf3 J' qq;obtain⟨m,hn,_⟩:=J'.loc;exact⟨m,hn,fun h' hs'=>⟨.ref acc,H',I3.unblock hf3 J' hs',rfl,qq⟩⟩
theorem Zdn {i:Nat}{x:Str}{px spos:Pos}(hsw:swapsWith (.ListComp elt [⟨tg,iter,ifs,0⟩] sc pos) (some (.Name x px)) spos.line X.env=pure true)
  (hN:X.N.Nodup) (hi':X.N[i]?=some x) (hx:X.env.scope.names.lookup x=some .local) (hc:X.calm=true) (S:CmpScope X sc) (hix:ZiX N X.N sc ix=true) (hi:PI X tg iter wi)
  (hg:∀fp s_0 H_0 pn,PG (bx X sc N fp s_0 H_0 pn) tg g) (ht:∀fp s_0 H_0 pn,PIfs (bx X sc N fp s_0 H_0 pn) ifs tt) (he:∀fp s_0 H_0 pn,PE (bx X sc N fp s_0 H_0 pn) elt te)
  (hs:∀x,foldedSetIterable iter X.env x=pure x:=by intro _;rfl):PS X (.Assign [.Name x px] (.ListComp elt [⟨tg,iter,ifs,0⟩] sc pos) spos) (tAsg (Zlg ix wi g tt te) (ZbW i)):=by
 intro BF s U H D I h;rw[exec_Assign_Name_used _ _ _ _ hsw];refine YAA (YCz (YAA ?_));show wpAny _ X.A (do let _ <-comprehension (.ListComp elt [⟨tg,iter,ifs,0⟩] sc pos) sc X.env _ (newList []) false (eval iter X.env) (some (assign (.Name x px) X.env))) _ _ s;refine YAA (YBB (wpAny_comprehension_free (use:=some (assign (.Name x px) X.env)) (Q:=fun _ s'=>SP X BF D .next s') rfl hs (Zef (I.capt S)) S.kind S.loc
  (thn (hi BF s U H _ I h) fun v s1 h1=>thn h1 fun itv s2 h2=>?_)) (fun _ s' hq=>YAD (YAD hq)) fun _ _ z=>z)
 obtain⟨it,fp,tn,J,H2,e,I2,T,st2,f2,q⟩:=h2;subst e;refine Zee (Q:=fun y H1=>ZbW i y U H1 D.nx) (RR:=fun acc C=>compPost (model X.prog X.w) X.A X.xe (some (assign (.Name x px) X.env)) (fun _ s'=>SP X BF D .next s') acc C) hc S hix hg ht he I2 T st2 f2 q ?_;intro acc s3 s' τ H' I3 hf3 J' qq;show wpAny _ X.A (assign (.Name x px) X.env (.ref acc)) _ _ _;have I5:Inv X BF U H' s':=I3.unblock hf3 J' (.refl ..);obtain⟨m,hn,_⟩:=J'.loc;have hn:s'.heap.Ns s3.heap.objs.size m:=hn;have hLC:s3.heap.objs.size≠X.env.locals:=Nat.ne_of_gt I3.lt;refine wpAny_assign_Name (Ze2 I5 hN hi' (.inl hx) (v:=.ref acc) rfl (fun s6 I6 ⟨a,sb,ha⟩=>?_) (.inr hx));have ea:a≠s3.heap.objs.size:=by
  rcases ha with ha | ha
  .rw[ha];exact YBM hLC
  .obtain⟨v,o,ho,_⟩:=I3.cell x a ha;exact YAf (YAN ho)
 refine⟨m,hn.sameBut sb (YBM ea),fun h' hs'=>?_⟩;have hfr:H' s3.heap.objs.size=none:=J'.free;refine⟨_,H',?_,qq⟩;have ok:HOk X.prog X.w H' h':=fun b ob e=>by
  refine(I6.hok b ob e).stay (fun c w' hc q=>(hs'.2 c ?_).trans q) (fun _ q=>q) fun _ _ q=>q;rintro rfl;rcases hc with rfl | hc
  .rw[hfr]at e;cases e
  .rw[hfr]at hc;cases hc
 have l3:X.s_0.heap.objs.size<=s3.heap.objs.size:=I3.sz;have cne:∀y c,X.env.cells.lookup y=some c->c≠s3.heap.objs.size:=fun y c e z=>by obtain⟨v,o,ho,_⟩:=I3.cell y c e;exact absurd (YAN ho) (by rw[z];exact YBA _)
 exact I6.turned (t':=s6.toks) (it:=s3.heap.objs.size) (fun b o hb e=>(hs'.2 b hb).trans e) hfr hLC (.inr l3) cne fun p hp z=>by have:=(I3.pin p hp).1;exact absurd (YAN this) (by rw[z];exact YBA _)
end
noncomputable abbrev tx (l:Q11):V:=.str ⟨l.toArray⟩
theorem ZdU {a b:Q11}:tx a=tx b↔a=b:=by
 constructor
 .intro h;have h1:(⟨a.toArray⟩:Str)=⟨b.toArray⟩:=V.str.inj h;have h2:a.toArray=b.toArray:=congrArg Str.cps h1;simpa using h2
 .rintro rfl;rfl
theorem ZcJ {a b:Q11}:decide (tx a=tx b)=decide (a=b):=by
 by_cases h:a=b
 .subst h;simp
 .rw[decide_eq_false h,decide_eq_false fun z=>h (ZdU.mp z)]
theorem Zde (l:Q11):(⟨l.toArray⟩:Str).length=l.length:=by show l.toArray.size=l.length;simp
def rT (C:Q11->Q11->Prop)(g:Q11->Q11->V):R2:=fun x y H Q=>∃a b,x=tx a/\y=tx b/\C a b/\Q (g a b) H
noncomputable def cut {α:Type}(l:List α)(lo hi:Option Int):List α:=(l.drop (HT.sIx l.length 0 lo)).take (HT.sIx l.length l.length hi-HT.sIx l.length 0 lo)
theorem Zed {α:Type}(l:List α)(lo hi:Option Int):(cut l lo hi).length<=l.length:=by unfold cut;rw[YAZ,YAj];omega
theorem Zk2 {α:Type}(l:List α)(a b:Nat):cut l (some (a:Int)) (some (b:Int))=(l.drop a).take (b-a):=by
 unfold cut;rw[HT.sIx_nat,HT.sIx_nat];apply YCm;intro i;simp only[YDE,YCb];by_cases h1:i<min b l.length-min a l.length
 .rw[YAM h1,YAM (by omega)];congr 1;omega
 .rw[YAI h1];by_cases h2:i<b-a
  .rw[YAM h2,YBI (by omega)]
  .rw[YAI h2]
theorem Zec {α:Type}(l:List α)(b:Nat):cut l none (some (b:Int))=l.take b:=by
 unfold cut;rw[HT.sIx_nat,HT.sIx_none];apply YCm;intro i;simp only[YDE,YCb,Nat.zero_add,Nat.sub_zero];by_cases h1:i<min b l.length
 .rw[YAM h1,YAM (by omega)]
 .rw[YAI h1];by_cases h2:i<b
  .rw[YAM h2,YBI (by omega)]
  .rw[YAI h2]
theorem ZcL {α:Type}(l:List α)(a:Nat):cut l (some (a:Int)) none=l.drop a:=by
 unfold cut;rw[HT.sIx_nat,HT.sIx_none];apply YCm;intro i;simp only[YDE,YCb];by_cases h1:i<l.length-min a l.length
 .rw[YAM h1];congr 1;omega
 .rw[YAI h1,YBI (by omega)]
noncomputable def clp (n:Nat)(v:Option Int)(d:Int):Int:=match v with
 | none=>d
 | some i=>max 0 (min (if i<0 then i+(n:Int) else i) (n:Int))
theorem Zk3 (n d:Nat)(o:Option Int):clp n o (d:Int)=((HT.sIx n d o:Nat):Int):=by
 cases o with
 | none=>rw[HT.sIx_none];rfl
 | some v=>
  have:=HT.clip_eq v n d;unfold clp;dsimp only;rw[<-this];split<;>omega
theorem Zia (lo hi:Option Int)(n:Nat):Builtin.Str.strSliceIndices lo hi 1 n=(List.range (HT.sIx n n hi-HT.sIx n 0 lo)).map fun k=>HT.sIx n 0 lo+k:=by
 have g:Builtin.Str.strSliceIndices lo hi 1 n=sliceRange (clp n lo ((0:Nat):Int)) (clp n hi (n:Int)) 1:=by cases lo<;>cases hi<;>rfl
 rw[g,Zk3,Zk3];generalize HT.sIx n 0 lo=a;generalize HT.sIx n n hi=b;unfold sliceRange;have hc:(if (1:Int)>0 then (if (a:Int)<(b:Int) then ((b:Int)-a+1-1)/1 else 0) else (if (a:Int)>(b:Int) then ((a:Int)-b-1-1)/(-1) else 0)).toNat=b-a:=by simp only[show (1:Int)>0 by decide,if_true,Int.ediv_one];split<;>omega
 dsimp only;rw[hc];apply YCH;intro k _;omega
theorem Zjz (l:Q11)(lo hi:Option Int):Txt.slice ⟨l.toArray⟩ lo hi=⟨(cut l lo hi).toArray⟩:=by
 have h1:=HT.sIx_le l.length 0 (YAv _) lo;have h2:=HT.sIx_le l.length l.length (YAS _) hi;unfold Txt.slice;rw[Zde,Zia];have e:((List.range (HT.sIx l.length l.length hi-HT.sIx l.length 0 lo)).map fun k=>HT.sIx l.length 0 lo+k).filterMap (fun i=>l.toArray[i]?)=cut l lo hi:=by
  unfold cut;generalize HT.sIx l.length 0 lo=a at *;generalize HT.sIx l.length l.length hi=b at *;have hab:∀n,a+n<=l.length->((List.range n).map fun k=>a+k).filterMap (fun i=>l.toArray[i]?)=(l.drop a).take n:=by
   intro n;induction n with
   | zero=>intro _;simp
   | succ n ih=>
    intro hn;rw[YBr,YBb,List.filterMap_append,ih (by omega),YCl];have:(l.drop a)[n]?=l[a+n]?:=YCb;simp[this,YAH (show a+n<l.length by omega)]
  by_cases hle:a<=b
  .exact hab _ (by omega)
  .have:b-a=0:=by omega
   rw[this];simp
 split
 .rename_i hc
  simp only[beq_self_eq_true,YCO,YAB,YBF]at hc;have hc':HT.sIx l.length l.length hi-HT.sIx l.length 0 lo=l.length:=by simpa using hc
  have:cut l lo hi=l:=by
   unfold cut;have ha:HT.sIx l.length 0 lo=0:=by omega
   rw[hc',ha,YBo,YAu (YAS _)]
  rw[this]
 .show (⟨(List.filterMap (fun i=>l.toArray[i]?) _).toArray⟩:Str)=_;rw[e]
section
variable {X:Cx}
theorem ZaN:OpR X (binaryOp .Add) (rT (fun a b=>a.length+b.length<=sizeLine) fun a b=>tx (a++b)):=by
 rintro BF s U H x y v u Q I rx ry ⟨a,b,rfl,rfl,hz,q⟩;refine ZhB BF s U H _ _ v u Q I rx ry ⟨_,_,rfl,rfl,by rw[Zde,Zde];exact hz,?_⟩;have e:((⟨a.toArray⟩:Str)++(⟨b.toArray⟩:Str))=⟨(a++b).toArray⟩:=by show (⟨a.toArray++b.toArray⟩:Str)=_;simp
 rw[e];exact q
theorem ZhA:OpR X (compareOp .In) (fun x y H Q=>∃c l,x=tx [c]/\y=tx l/\Q (.bl (decide (c∈l))) H):=by
 rintro BF s U H x y v u Q I rx ry ⟨c,l,rfl,rfl,q⟩;refine Zfi BF s U H _ _ v u Q I rx ry ⟨_,_,rfl,rfl,?_⟩;have e:=StrLaws.found_one ⟨l.toArray⟩ c;have e':(!(Builtin.Str.occurrences ⟨l.toArray⟩ ⟨[c].toArray⟩ 0 (⟨l.toArray⟩:Str).length 1).isEmpty)=decide (c∈l):=by rw[show ([c].toArray)=#[c] from rfl,e]
 rw[e'];exact q
theorem Zet:OpR X (compareOp .NotIn) (fun x y H Q=>∃c l,x=tx [c]/\y=tx l/\Q (.bl (!decide (c∈l))) H):=by
 rintro BF s U H x y v u Q I rx ry ⟨c,l,rfl,rfl,q⟩;refine Zc0 BF s U H _ _ v u Q I rx ry ⟨_,_,rfl,rfl,?_⟩;have e:=StrLaws.found_one ⟨l.toArray⟩ c;have e':(!(Builtin.Str.occurrences ⟨l.toArray⟩ ⟨[c].toArray⟩ 0 (⟨l.toArray⟩:Str).length 1).isEmpty)=decide (c∈l):=by rw[show ([c].toArray)=#[c] from rfl,e]
 rw[e'];exact q
theorem ZhM:IxR X (fun x y H Q=>∃l i c,x=tx l/\y=.int i/\l.length<=sizeLine/\atI l i=some c/\Q (tx [c]) H):=by rintro value slice BF s U H x y v u Q I rx ry ⟨l,i,c,rfl,rfl,hz,h,q⟩ hs;exact Zn9 value slice BF s U H _ _ v u Q I rx ry ⟨_,i,c,rfl,rfl,by rw[Zde];exact hz,h,q⟩ hs
theorem ZbE:SlR X (fun x lo hi H Q=>∃l,x=tx l/\l.length<=sizeLine/\Q (tx (cut l lo hi)) H):=by
 rintro BF s U H x v vl vu lo hi sl Q I rx hs pl pu ⟨l,rfl,hz,q⟩;obtain⟨t,rfl⟩:=rx;refine⟨"str",_,F.slot_str_getitem.lookup,typeIs_str _ _ _,?_⟩;have part:∀ {v:Value} {o:Option Int},IsPart v o->∃p:Option (Int×Tok),v=partValue p/\p.map (·.1)=o:=fun {v o} h=>by
  cases h with
  | none=>exact⟨none,rfl,rfl⟩
  | int i t=>exact⟨some (i,t),rfl,rfl⟩
 obtain⟨a,rfl,ea⟩:=part pl;obtain⟨b,rfl,eb⟩:=part pu;refine wpAny_getItem_str_slice (l:=a) (u:=b) (st:=none) hs rfl ?_;have e:(if ((1:Int) == 1&&(Builtin.Str.strSliceIndices lo hi 1 (⟨l.toArray⟩:Str).length).length == (⟨l.toArray⟩:Str).length)=true then (⟨l.toArray⟩:Str) else ⟨((Builtin.Str.strSliceIndices lo hi 1 (⟨l.toArray⟩:Str).length).filterMap ((⟨l.toArray⟩:Str).cps[·]?)).toArray⟩)=⟨(cut l lo hi).toArray⟩:=Zjz l lo hi;unfold sliceMade slicePicked;rw[ea,eb];refine post_val_or_str ?_;refine⟨?_,fun t' k=>?_⟩
 .show (if ((1:Int) == 1&&(Builtin.Str.strSliceIndices lo hi 1 (⟨l.toArray⟩:Str).length).length == (⟨l.toArray⟩:Str).length)=true then (⟨l.toArray⟩:Str) else ⟨((Builtin.Str.strSliceIndices lo hi 1 (⟨l.toArray⟩:Str).length).filterMap ((⟨l.toArray⟩:Str).cps[·]?)).toArray⟩).length<=sizeLine;rw[e,Zde];exact YAK (Zed _ _ _) hz
 .refine⟨tx (cut l lo hi),H,I.tok _,⟨t',?_⟩,q⟩;exact congrArg (fun z=>Value.str z t') e
noncomputable def glue (sep:Q11):Q22->Q11
 | []=>[]
 | [x]=>x
 | x::r=>x++sep++glue sep r
theorem Zg5:∀ls:Q22,glue [] ls=ls.flatten
 | []=>rfl
 | [x]=>by simp[glue]
 | x::y::r=>by show x++[]++glue [] (y::r)=_;rw[Zg5 (y::r)];simp
theorem ZiT (sep:Q11):∀ls:Q22,Str.join ⟨sep.toArray⟩ (ls.map fun l=>(⟨l.toArray⟩:Str))=⟨(glue sep ls).toArray⟩
 | []=>rfl
 | [x]=>rfl
 | x::y::r=>by have ih:=ZiT sep (y::r);show (⟨x.toArray⟩:Str)++⟨sep.toArray⟩++Str.join ⟨sep.toArray⟩ ((y::r).map fun l=>(⟨l.toArray⟩:Str))=_;rw[ih];show (⟨x.toArray++sep.toArray++(glue sep (y::r)).toArray⟩:Str)=⟨(x++sep++glue sep (y::r)).toArray⟩;simp
theorem ZcO:∀ {ls:Q22} {us:AC},Vals (ls.map tx) us->StrsAre us (ls.map fun l=>(⟨l.toArray⟩:Str))
 | [],us,r=>by
  rw[List.map_nil]at r;cases r;exact .nil
 | l::ls,us,r=>by
  rw[YAi]at r;cases r with
  | cons r1 r2=>
   obtain⟨t,e⟩:=r1;subst e;exact .cons _ t (ZcO r2)
theorem ZlK:MtM X "str.join" (fun x vs H Q=>∃sep a ls,x=tx sep/\vs=[.ref a]/\H a=some (.lst (ls.map tx))/\(ls.map List.length).sum+ls.length*sep.length<=16777216/\Q (tx (glue sep ls)) H):=by
 rintro BF s U H x vs v us Q I rx rv ⟨sep,a,ls,rfl,rfl,ha,hz,q⟩;obtain⟨t,rfl⟩:=rx;obtain⟨u,rfl,ru⟩:=rv.one;cases ru;obtain⟨_,its,n,r,_,e⟩:=I.lstM ha;refine join_list (PySem.IsL.isList e) (ZcO (by simpa using r)) ?_ fun t' k=>?_
 .have e1:((ls.map fun l=>(⟨l.toArray⟩:Str)).map (·.length)).sum=(ls.map List.length).sum:=by rw[YBS];congr 1;all_goals (apply YCH;intro l _;exact Zde l)
  rw[e1,YAB,Zde];exact hz
 .refine⟨tx (glue sep ls),H,I.tok _,⟨t',?_⟩,q⟩;have e2:Txt.join ⟨sep.toArray⟩ (ls.map fun l=>(⟨l.toArray⟩:Str))=⟨(glue sep ls).toArray⟩:=by show Builtin.Str.glued _ _=_;rw[StrLaws.glued_eq_join,ZiT]
  rw[e2]
end
noncomputable def Its (l:Q11):It:=⟨fun i _=>i<l.length,fun i H x H'=>H'=H/\∃c,l[i]?=some c/\x=tx [c],fun i _=>l.length<=i⟩
theorem Zh3 {P:AG} {w:AI} {K:Q4} {tg:Expr} (l:Q11) (t:Tok) (it:AD) (ty:String) (hty:ty="str_ascii_iterator"\/ty="str_iterator"):Turn P w K tg (Its l) [it] it (fun i h=>h.IsStrIter it ty ⟨l.toArray⟩ t i) where
 mem:=by simp
 obj:=fun i h st b hb=>by
  have e:b=it:=by simpa using hb
  subst e;obtain⟨o,e,c,d⟩:=st;exact⟨o,e,fun v z=>by rw[d]at z;cases z⟩
 keep:=fun i h h' st k=>by obtain⟨o,e,r⟩:=st;exact⟨o,k it (by simp) o e,r⟩
 item:=by
  intro X hP hw hK hc i BF s U H E I hf st hg;subst hP hw hK;obtain⟨f0,f1,f2,f3,f4,f5⟩:=hf it (by simp);have hg:i<l.length:=hg;have hx:(⟨l.toArray⟩:Str).cps[i]?=some l[i]:=by show l.toArray[i]?=some l[i];simp[hg]
  have fin:∀(h':Heap) (tk:Tok),h'.IsStrIter it ty ⟨l.toArray⟩ t (i+1)->Heap.SameBut it s.heap h' ->
    ∃u,some (Value.str ⟨#[l[i]]⟩ s.toks)=some u/\wpAny (model X.prog X.w) X.A (letOwnedTupleGo tg (.ref it) u) (fun _ s2=>∃x H',Inv X BF U H' s2/\RelV x u/\(Its l).yld i H x H'/\s2.heap.IsStrIter it ty ⟨l.toArray⟩ t (i+1)/\∀b∈[it],H' b=none) E { s with heap:=h',toks:=tk }:=fun h' tk st' sb=>by
   have I1:Inv X BF U H { s with heap:=h',toks:=tk }:=I.turned (t':=tk) (fun b o hb e=>(sb.2 b hb).trans e) f0 f1 f3 f4 f5;obtain⟨o,e,c,d⟩:=id st';refine⟨_,rfl,Zke (s:={ s with heap:=h',toks:=tk }) e c d ?_ ⟨tx [l[i]],H,I1,⟨_,rfl⟩,⟨rfl,l[i],by simp[hg],rfl⟩,st',fun b hb=>(hf b hb).1⟩⟩;rcases hty with rfl | rfl<;>decide
  rcases hty with rfl | rfl
  .exact wpAny_pyNext_ascii_item st hx fun h' st' sb=>fin h' _ st' sb
  .exact wpAny_pyNext_wide_item st hx fun h' st' sb=>fin h' _ st' sb
 done:=by
  intro X hP hw hK hc i BF s U H E I hf st hg;subst hP hw hK;obtain⟨f0,f1,f2,f3,f4,f5⟩:=hf it (by simp);have hg:l.length<=i:=hg;have hx:(⟨l.toArray⟩:Str).cps[i]?=none:=by show l.toArray[i]?=none;simp[hg]
  rcases hty with rfl | rfl
  .exact wpAny_pyNext_ascii_end (I.ok.hd hc) st hx fun h' eb=>⟨rfl,I.turned (t':=s.toks) (fun b o hb e=>eb b o hb e) f0 f1 f3 f4 f5⟩
  .exact wpAny_pyNext_wide_end (I.ok.hd hc) st hx fun h' eb=>⟨rfl,I.turned (t':=s.toks) (fun b o hb e=>eb b o hb e) f0 f1 f3 f4 f5⟩
 self:=by
  intro A i s Q E st h;rcases hty with rfl | rfl
  .exact wpAny_pyIter_striter_ascii st h
  .exact wpAny_pyIter_striter_wide st h
section
variable {X:Cx}{tg:Expr}
def Zog (tl:TE):TI:=fun U H R=>tl U H fun x H1=>∃l,x=tx l/\R (Its l) H1
theorem ZcP {l:Expr}{tl:TE}(hl:PE X l tl):PI X tg l (Zog tl):=by
 intro BF s U H R I h;refine thn (hl BF s U H _ I h) fun v s1 zz=>?_;obtain⟨x,H1,I1,r1,q1⟩:=zz;obtain⟨l,rfl,q⟩:=q1;obtain⟨t,rfl⟩:=r1;have fin:∀ty,(ty="str_ascii_iterator"\/ty="str_iterator")->PIE X BF U tg R (.ref s1.heap.objs.size) { s1 with heap:=s1.heap.push { cls:=.type ty,data:=.fields #[.str ⟨l.toArray⟩ t,.int 0 0] } }:=fun ty hty=>by
  refine⟨s1.heap.objs.size,[s1.heap.objs.size],_,_,H1,rfl,I1.kept (t':=s1.toks) fun b o e=>YAE _ e,Zh3 l t _ ty hty,⟨_,YAU _ rfl,rfl,rfl⟩,fun b hb=>?_,q⟩;have e:b=s1.heap.objs.size:=by simpa using hb
  subst e;exact I1.fpOk (YAS _) (I1.hok.fresh (YAS _))
 cases ha:(⟨l.toArray⟩:Str).cps.all (· < 128)
 .exact wpAny_pyIter_wide ha (fin _ (.inr rfl))
 .exact wpAny_pyIter_ascii ha (fin _ (.inl rfl))
end
theorem Zkh {l:Q11}{g:TG}{tb:TS}{D:Ends}{U:St}{H:Hp}(Pv:Nat->St->Hp->Prop)(h0:Pv 0 U H)
  (hs:∀i c U H,l[i]?=some c->Pv i U H->g (tx [c]) U H fun U2 H2=>tb { D with nx:=Pv (i+1),ct:=Pv (i+1),bk:=D.nx } U2 H2) (hd:∀U H,Pv l.length U H->D.nx U H):
  ∃W:Nat->Nat->St->Hp->Prop,(∃m,W 0 m U H)/\∀i m U H,W i m U H ->
   ((Its l).stop i H/\D.nx U H)\/((Its l).go i H/\∃N:St->Hp->Prop,(∀U' H',N U' H'->∃m',m'<m/\W (i+1) m' U' H')/\∀x H',(Its l).yld i H x H'->g x U H' fun U2 H2=>tb { D with nx:=N,ct:=N,bk:=D.nx } U2 H2):=by
 refine⟨fun i m U H=>m=l.length-i/\i<=l.length/\Pv i U H,⟨l.length,by simp,YAv _,h0⟩,?_⟩;rintro i m U H ⟨rfl,hi,p⟩;by_cases BP:i<l.length
 .refine .inr ⟨BP,Pv (i+1),fun U' H' p'=>⟨l.length-(i+1),by omega,rfl,BP,p'⟩,fun x H' y=>?_⟩;obtain⟨e,c,hc,y⟩:=y;subst e y;exact hs i c U _ hc p
 .have e:i=l.length:=by omega
  subst e;exact .inl ⟨YAS _,hd U H p⟩
inductive DT where
 | f (v:V)
 | l (xs:List DT)
 | t (xs:List DT)
section
variable (K:Q4)(H:Hp)
mutual
noncomputable def DatOk:DT->V->Prop
 | .f w,v=>v=w/\Zbw w=true
 | .l ds,v=>∃a vs,v=.ref a/\SqL K H a vs/\DatsOk ds vs
 | .t ds,v=>∃a vs,v=.ref a/\SqT K H a vs/\DatsOk ds vs
noncomputable def DatsOk:List DT->List V->Prop
 | [],vs=>vs=[]
 | d::ds,vs=>∃v r,vs=v::r/\DatOk d v/\DatsOk ds r
end
end
mutual
noncomputable def deq:DT->DT->Bool
 | .f v,.f w=>eqV v w
 | .l xs,.l ys=>deqs xs ys
 | .t xs,.t ys=>deqs xs ys
 | .f _,.l _=>false
 | .f _,.t _=>false
 | .l _,.f _=>false
 | .t _,.f _=>false
 | .l _,.t _=>false
 | .t _,.l _=>false
noncomputable def deqs:List DT->List DT->Bool
 | [],[]=>true
 | x::xs,y::ys=>deq x y&&deqs xs ys
 | [],_::_=>false
 | _::_,[]=>false
end
mutual
noncomputable def dep:DT->Nat
 | .f _=>0
 | .l xs=>deps xs+1
 | .t xs=>deps xs+1
noncomputable def deps:List DT->Nat
 | []=>0
 | x::xs=>max (dep x) (deps xs)
end
theorem Zhc {v:V}(h:Zbw v=true):eqV v v=true:=by cases v<;>first | rfl | (simp[eqV];done) | exact absurd (show false=true from h) YAC
theorem DatsOk.length {K:Q4}{H:Hp}:∀ {ds:List DT} {vs:List V},DatsOk K H ds vs->vs.length=ds.length
 | [],vs,h=>by
  unfold DatsOk at h;subst h;rfl
 | d::ds,vs,h=>by unfold DatsOk at h;obtain⟨v,r,rfl,_,hr⟩:=h;rw[YAd,YAd,DatsOk.length hr]
noncomputable def ZaW (xs ys:List DT)(j:Nat):Bool:=match xs[j]?,ys[j]? with
 | some x,some y=>deq x y
 | _,_=>false
theorem Zgo:∀xs ys:List DT,deqs xs ys=((List.range (min xs.length ys.length)).all (ZaW xs ys)&&xs.length == ys.length)
 | [],[]=>by simp[deqs]
 | [],_::_=>by simp[deqs]
 | _::_,[]=>by simp[deqs]
 | x::xs,y::ys=>by
  have e:min (x::xs).length (y::ys).length=min xs.length ys.length+1:=by simp only[YAd];omega
  have e2:∀j,ZaW (x::xs) (y::ys) (j+1)=ZaW xs ys j:=fun j=>by simp[ZaW]
  have e3:ZaW (x::xs) (y::ys) 0=deq x y:=by simp[ZaW]
  rw[deqs,Zgo xs ys,e,List.range_succ_eq_map,List.all_cons,e3,List.all_map];have e4:((fun j=>ZaW (x::xs) (y::ys) j) ∘ Nat.succ)=ZaW xs ys:=by funext j;exact e2 j
  have e5:(ZaW (x::xs) (y::ys) ∘ Nat.succ)=ZaW xs ys:=e4;rw[e5,Bool.and_assoc];simp
mutual
theorem DatOk.uniq {K:Q4}{X:Cx}{BF:AA}{U:St}{H:Hp}{s:AE}(I:Inv X BF U H s):∀(d e:DT) (v:V),DatOk X.K H d v->DatOk X.K H e v->deq d e=true
 | .f w,.f u,v,h1,h2=>by
  unfold DatOk at h1 h2;obtain⟨rfl,hf⟩:=h1;obtain⟨e,_⟩:=h2;subst e;unfold deq;exact Zhc hf
 | .f w,.l ys,v,h1,h2=>by
  unfold DatOk at h1 h2;obtain⟨rfl,hf⟩:=h1;obtain⟨a,vs,rfl,_⟩:=h2;exact absurd (show false=true from hf) YAC
 | .f w,.t ys,v,h1,h2=>by
  unfold DatOk at h1 h2;obtain⟨rfl,hf⟩:=h1;obtain⟨a,vs,rfl,_⟩:=h2;exact absurd (show false=true from hf) YAC
 | .l xs,.f w,v,h1,h2=>by
  unfold DatOk at h1 h2;obtain⟨rfl,hf⟩:=h2;obtain⟨a,vs,rfl,_⟩:=h1;exact absurd (show false=true from hf) YAC
 | .t xs,.f w,v,h1,h2=>by
  unfold DatOk at h1 h2;obtain⟨rfl,hf⟩:=h2;obtain⟨a,vs,rfl,_⟩:=h1;exact absurd (show false=true from hf) YAC
 | .l xs,.l ys,v,h1,h2=>by
  unfold DatOk at h1 h2;obtain⟨a,vs,rfl,q1,r1⟩:=h1;obtain⟨b,ws,e,q2,r2⟩:=h2;cases e;have:=I.list_inj q1 q2;subst this;unfold deq;exact DatsOk.uniq (K:=K) I xs ys vs r1 r2
 | .t xs,.t ys,v,h1,h2=>by
  unfold DatOk at h1 h2;obtain⟨a,vs,rfl,q1,r1⟩:=h1;obtain⟨b,ws,e,q2,r2⟩:=h2;cases e;have:=I.tuple_inj q1 q2;subst this;unfold deq;exact DatsOk.uniq (K:=K) I xs ys vs r1 r2
 | .l xs,.t ys,v,h1,h2=>by
  unfold DatOk at h1 h2;obtain⟨a,vs,rfl,q1,r1⟩:=h1;obtain⟨b,ws,e,q2,r2⟩:=h2;cases e;obtain⟨_,_,⟨o,n,e1,c1,_⟩,_⟩:=I.list q1;obtain⟨_,_,⟨o',e2,c2,_⟩,_⟩:=I.tuple q2;rw[e1]at e2;cases e2;rw[c1]at c2;exact absurd c2 (by simp)
 | .t xs,.l ys,v,h1,h2=>by unfold DatOk at h1 h2;obtain⟨a,vs,rfl,q1,r1⟩:=h1;obtain⟨b,ws,e,q2,r2⟩:=h2;cases e;obtain⟨_,_,⟨o',e2,c2,_⟩,_⟩:=I.tuple q1;obtain⟨_,_,⟨o,n,e1,c1,_⟩,_⟩:=I.list q2;rw[e1]at e2;cases e2;rw[c1]at c2;exact absurd c2 (by simp)
theorem DatsOk.uniq {K:Q4}{X:Cx}{BF:AA}{U:St}{H:Hp}{s:AE}(I:Inv X BF U H s):∀(xs ys:List DT) (vs:List V),DatsOk X.K H xs vs->DatsOk X.K H ys vs->deqs xs ys=true
 | [],[],vs,h1,h2=>by unfold deqs;rfl
 | [],y::ys,vs,h1,h2=>by
  unfold DatsOk at h1 h2;subst h1;obtain⟨_,_,e,_⟩:=h2;cases e
 | x::xs,[],vs,h1,h2=>by
  unfold DatsOk at h1 h2;subst h2;obtain⟨_,_,e,_⟩:=h1;cases e
 | x::xs,y::ys,vs,h1,h2=>by unfold DatsOk at h1 h2;obtain⟨v,r,rfl,a1,a2⟩:=h1;obtain⟨v',r',e,b1,b2⟩:=h2;cases e;unfold deqs;rw[DatOk.uniq (K:=K) I x y v a1 b1,DatsOk.uniq (K:=K) I xs ys r a2 b2];rfl
end
section
variable {X:Cx}{BF:AA}{U:St}{H:Hp}{s:AE}
open SeqAt
theorem ZeK {A:AH}{w:V}{u:Value}{l:AD}{items:Array Value}(hf:Zbw w=true)(r:RelV w u)(hl:s.heap.IsList l items)(hu:A.units<cLine):EqAt A s u (.ref l) false/\EqAt A s (.ref l) u false/\RcAt A s u (.ref l) false/\RcAt A s (.ref l) u false/\RcNeAt A s u (.ref l) true/\RcNeAt A s (.ref l) u true:=by
 cases w with
 | non=>cases r;exact⟨.none_list hl hu,.list_none hl hu,.none_list hl hu,.list_none hl hu,.none_list hl hu,.list_none hl hu⟩
 | bl b=>cases r;exact⟨.bool_list b hl hu,.list_bool b hl hu,.bool_list b hl hu,.list_bool b hl hu,.bool_list b hl hu,.list_bool b hl hu⟩
 | int i=>obtain⟨t,rfl⟩:=r;exact⟨.int_list i t hl hu,.list_int i t hl hu,.int_list i t hl hu,.list_int i t hl hu,.int_list i t hl hu,.list_int i t hl hu⟩
 | str i=>obtain⟨t,rfl⟩:=r;exact⟨.str_list i t hl hu,.list_str i t hl hu,.str_list i t hl hu,.list_str i t hl hu,.str_list i t hl hu,.list_str i t hl hu⟩
 | _=>exact absurd (show false=true from hf) YAC
theorem ZeJ {A:AH}{w:V}{u:Value}{l:AD}{items:Array Value}(hf:Zbw w=true)(r:RelV w u)(hl:s.heap.IsTuple l items)(hu:A.units<cLine):EqAt A s u (.ref l) false/\EqAt A s (.ref l) u false/\RcAt A s u (.ref l) false/\RcAt A s (.ref l) u false/\RcNeAt A s u (.ref l) true/\RcNeAt A s (.ref l) u true:=by
 cases w with
 | non=>cases r;exact⟨.none_tuple hl hu,.tuple_none hl hu,.none_tuple hl hu,.tuple_none hl hu,.none_tuple hl hu,.tuple_none hl hu⟩
 | bl b=>cases r;exact⟨.bool_tuple b hl hu,.tuple_bool b hl hu,.bool_tuple b hl hu,.tuple_bool b hl hu,.bool_tuple b hl hu,.tuple_bool b hl hu⟩
 | int i=>obtain⟨t,rfl⟩:=r;exact⟨.int_tuple i t hl hu,.tuple_int i t hl hu,.int_tuple i t hl hu,.tuple_int i t hl hu,.int_tuple i t hl hu,.tuple_int i t hl hu⟩
 | str i=>obtain⟨t,rfl⟩:=r;exact⟨.str_tuple i t hl hu,.tuple_str i t hl hu,.str_tuple i t hl hu,.tuple_str i t hl hu,.str_tuple i t hl hu,.tuple_str i t hl hu⟩
 | _=>exact absurd (show false=true from hf) YAC
theorem Zna {A:AH}{l b:AD}{ps qs:AC}{xs ys:List DT}(hl:s.heap.IsList l ps.toArray)(hb:s.heap.IsList b qs.toArray)(n1:ps.length=xs.length)(n2:qs.length=ys.length)(hu:A.units<cLine)
  (he:∀j (h1:j<ps.length) (h2:j<qs.length),EqAt A.in1 s ps[j] qs[j] (ZaW xs ys j)):RcAt A s (.ref l) (.ref b) (deqs xs ys)/\RcNeAt A s (.ref l) (.ref b) (!deqs xs ys):=by
 rw[Zgo];by_cases hz:ps.length=qs.length
 .have hsz:ps.toArray.size=qs.toArray.size:=by rw[YAJ,YAJ];exact hz
  have e1:((List.range (min xs.length ys.length)).all (ZaW xs ys)&&xs.length == ys.length)=(List.range ps.toArray.size).all (ZaW xs ys):=by
   have:xs.length=ys.length:=by omega
   rw[YAJ,n1,<-this,Nat.min_self];simp
  rw[e1];exact⟨RcAt.lists hl hb hsz hu fun j j1 j2=>by simpa using he j (by simpa using j1) (by simpa using j2),RcNeAt.lists hl hb hsz hu fun j j1 j2=>by simpa using he j (by simpa using j1) (by simpa using j2)⟩
 .have e1:((List.range (min xs.length ys.length)).all (ZaW xs ys)&&xs.length == ys.length)=false:=by
   have:xs.length≠ys.length:=by omega
   simp[this]
  rw[e1];have hsz:(ps.toArray.size != qs.toArray.size)=true:=by rw[YAJ,YAJ];simpa using hz
  exact⟨RcAt.lists_lengths hl hb hsz hu,RcNeAt.lists_lengths hl hb hsz hu⟩
theorem Zm9 {A:AH}{l b:AD}{ps qs:AC}{xs ys:List DT}(hl:s.heap.IsTuple l ps.toArray)(hb:s.heap.IsTuple b qs.toArray)(n1:ps.length=xs.length)(n2:qs.length=ys.length)(hu:A.units<cLine)
  (he:∀j (h1:j<ps.length) (h2:j<qs.length),EqAt A.in1 s ps[j] qs[j] (ZaW xs ys j)):RcAt A s (.ref l) (.ref b) (deqs xs ys)/\RcNeAt A s (.ref l) (.ref b) (!deqs xs ys):=by
 have e1:deqs xs ys=((List.range (min ps.toArray.size qs.toArray.size)).all (ZaW xs ys)&&ps.toArray.size == qs.toArray.size):=by rw[Zgo,YAJ,YAJ,n1,n2]
 rw[e1];exact⟨RcAt.tuples hl hb hu fun j j1 j2=>by simpa using he j (by simpa using j1) (by simpa using j2),RcNeAt.tuples hl hb hu fun j j1 j2=>by simpa using he j (by simpa using j1) (by simpa using j2)⟩
mutual
theorem Zoq (I:Inv X BF U H s):∀(d e:DT) (A:AH) (x y:V) (u v:Value),DatOk X.K H d x->DatOk X.K H e y->RelV x u->RelV y v->A.units+dep d<cLine->EqAt A s u v (deq d e)
 | .f w,.f w',A,x,y,u,v,h1,h2,ru,rv,hu=>by
  unfold DatOk at h1 h2;obtain⟨rfl,f1⟩:=h1;obtain⟨rfl,f2⟩:=h2;unfold deq;exact ZkX ru rv f1 f2
 | .f w,.l ys,A,x,y,u,v,h1,h2,ru,rv,hu=>by
  unfold DatOk at h1 h2;obtain⟨rfl,f1⟩:=h1;obtain⟨a,vs,rfl,q,_⟩:=h2;cases rv;obtain⟨its,_,p,_⟩:=I.list q;unfold deq;exact(ZeK f1 ru p.isList (by unfold dep at hu;omega)).1
 | .f w,.t ys,A,x,y,u,v,h1,h2,ru,rv,hu=>by
  unfold DatOk at h1 h2;obtain⟨rfl,f1⟩:=h1;obtain⟨a,vs,rfl,q,_⟩:=h2;cases rv;obtain⟨its,_,p,_⟩:=I.tuple q;unfold deq;exact(ZeJ f1 ru (show s.heap.IsTuple a its.toArray from p) (by unfold dep at hu;omega)).1
 | .l xs,.f w,A,x,y,u,v,h1,h2,ru,rv,hu=>by
  unfold DatOk at h1 h2;obtain⟨rfl,f1⟩:=h2;obtain⟨a,vs,rfl,q,_⟩:=h1;cases ru;obtain⟨its,_,p,_⟩:=I.list q;unfold deq;exact(ZeK f1 rv p.isList (by omega)).2.1
 | .t xs,.f w,A,x,y,u,v,h1,h2,ru,rv,hu=>by
  unfold DatOk at h1 h2;obtain⟨rfl,f1⟩:=h2;obtain⟨a,vs,rfl,q,_⟩:=h1;cases ru;obtain⟨its,_,p,_⟩:=I.tuple q;unfold deq;exact(ZeJ f1 rv (show s.heap.IsTuple a its.toArray from p) (by omega)).2.1
 | .l xs,.t ys,A,x,y,u,v,h1,h2,ru,rv,hu=>by
  unfold DatOk at h1 h2;obtain⟨a,vs,rfl,q,_⟩:=h1;obtain⟨b,ws,rfl,q',_⟩:=h2;cases ru;cases rv;obtain⟨its,_,p,_⟩:=I.list q;obtain⟨its',_,p',_⟩:=I.tuple q';unfold deq;exact EqAt.list_tuple p.isList (show s.heap.IsTuple b its'.toArray from p') (by omega)
 | .t xs,.l ys,A,x,y,u,v,h1,h2,ru,rv,hu=>by
  unfold DatOk at h1 h2;obtain⟨a,vs,rfl,q,_⟩:=h1;obtain⟨b,ws,rfl,q',_⟩:=h2;cases ru;cases rv;obtain⟨its,_,p,_⟩:=I.tuple q;obtain⟨its',_,p',_⟩:=I.list q';unfold deq;exact EqAt.tuple_list (show s.heap.IsTuple a its.toArray from p) p'.isList (by omega)
 | .l xs,.l ys,A,x,y,u,v,h1,h2,ru,rv,hu=>by
  by_cases hxy:x=y
  .subst hxy;rw[DatOk.uniq (K:=X.K) I (.l xs) (.l ys) x h1 h2];unfold DatOk at h1;obtain⟨a,vs,rfl,_⟩:=h1;cases ru;cases rv;exact EqAt.same _
  .unfold DatOk at h1 h2;obtain⟨a,vs,rfl,q,d1⟩:=h1;obtain⟨b,ws,rfl,q',d2⟩:=h2;cases ru;cases rv;obtain⟨its,r,p,_⟩:=I.list q;obtain⟨its',r',p',_⟩:=I.list q';unfold deq;unfold dep at hu;refine EqAt.of_refs (fun e=>hxy (by rw[e])) (Zna p.isList p'.isList (by rw[<-r.length,d1.length]) (by rw[<-r'.length,d2.length]) (by omega) fun j j1 j2=>?_).1;exact ZdG I xs ys A.in1 vs ws its its' d1 d2 r r' (by show A.units+1+_<_;omega) j j1 j2
 | .t xs,.t ys,A,x,y,u,v,h1,h2,ru,rv,hu=>by
  by_cases hxy:x=y
  .subst hxy;rw[DatOk.uniq (K:=X.K) I (.t xs) (.t ys) x h1 h2];unfold DatOk at h1;obtain⟨a,vs,rfl,_⟩:=h1;cases ru;cases rv;exact EqAt.same _
  .unfold DatOk at h1 h2;obtain⟨a,vs,rfl,q,d1⟩:=h1;obtain⟨b,ws,rfl,q',d2⟩:=h2;cases ru;cases rv;obtain⟨its,r,p,_⟩:=I.tuple q;obtain⟨its',r',p',_⟩:=I.tuple q';unfold deq;unfold dep at hu;refine EqAt.of_refs (fun e=>hxy (by rw[e])) (Zm9 (show s.heap.IsTuple a its.toArray from p) (show s.heap.IsTuple b its'.toArray from p') (by rw[<-r.length,d1.length]) (by rw[<-r'.length,d2.length]) (by omega) fun j j1 j2=>?_).1;exact ZdG I xs ys A.in1 vs ws its its' d1 d2 r r' (by show A.units+1+_<_;omega) j j1 j2
theorem ZdG (I:Inv X BF U H s):∀(xs ys:List DT) (A:AH) (vs ws:List V) (ps qs:AC),DatsOk X.K H xs vs->DatsOk X.K H ys ws->Vals vs ps->Vals ws qs->A.units+deps xs<cLine ->
  ∀(j:Nat) (h1:j<ps.length) (h2:j<qs.length),EqAt A s ps[j] qs[j] (ZaW xs ys j)
 | [],ys,A,vs,ws,ps,qs,d1,d2,r1,r2,hu,j,h1,h2=>by
  unfold DatsOk at d1;subst d1;cases r1;exact absurd h1 (Nat.not_lt_zero _)
 | x::xs,[],A,vs,ws,ps,qs,d1,d2,r1,r2,hu,j,h1,h2=>by
  unfold DatsOk at d2;subst d2;cases r2;exact absurd h2 (Nat.not_lt_zero _)
 | x::xs,y::ys,A,vs,ws,ps,qs,d1,d2,r1,r2,hu,j,h1,h2=>by
  unfold DatsOk at d1 d2;obtain⟨v,vr,rfl,a1,a2⟩:=d1;obtain⟨w,wr,rfl,b1,b2⟩:=d2;unfold deps at hu;cases r1 with
  | cons ru rus=>
   cases r2 with
   | cons rv rvs=>
    cases j with
    | zero=>
     have:=Zoq I x y A v w _ _ a1 b1 ru rv (by omega);simpa [ZaW] using this
    | succ j=>
     have:=ZdG I xs ys A vr wr _ _ a2 b2 rus rvs (by omega) j (Nat.lt_of_succ_lt_succ h1) (Nat.lt_of_succ_lt_succ h2);simpa [ZaW] using this
end
theorem Zm8 (I:Inv X BF U H s){d e:DT}{A:AH}{x y:V}{u v:Value}(h1:DatOk X.K H d x)(h2:DatOk X.K H e y)(ru:RelV x u)(rv:RelV y v)(hu:A.units+dep d<cLine)(hn:¬(Zbw x=true/\Zbw y=true)):
  RcAt A s u v (deq d e)/\RcNeAt A s u v (!deq d e):=by
 cases d with
 | f w=>
  unfold DatOk at h1;obtain⟨rfl,f1⟩:=h1;cases e with
  | f w'=>
   unfold DatOk at h2;obtain⟨rfl,f2⟩:=h2;exact absurd ⟨f1,f2⟩ hn
  | l ys=>
   unfold DatOk at h2;obtain⟨a,vs,rfl,q,_⟩:=h2;cases rv;obtain⟨its,_,p,_⟩:=I.list q;have z:=ZeK (A:=A) f1 ru p.isList (by omega);unfold deq;exact⟨z.2.2.1,z.2.2.2.2.1⟩
  | t ys=>
   unfold DatOk at h2;obtain⟨a,vs,rfl,q,_⟩:=h2;cases rv;obtain⟨its,_,p,_⟩:=I.tuple q;have z:=ZeJ (A:=A) f1 ru (show s.heap.IsTuple a its.toArray from p) (by omega);unfold deq;exact⟨z.2.2.1,z.2.2.2.2.1⟩
 | l xs=>
  unfold DatOk at h1;obtain⟨a,vs,rfl,q,d1⟩:=h1;cases ru;obtain⟨its,r,p,_⟩:=I.list q;cases e with
  | f w=>
   unfold DatOk at h2;obtain⟨rfl,f1⟩:=h2;have z:=ZeK (A:=A) f1 rv p.isList (by omega);unfold deq;exact⟨z.2.2.2.1,z.2.2.2.2.2⟩
  | l ys=>
   unfold DatOk at h2;obtain⟨b,ws,rfl,q',d2⟩:=h2;cases rv;obtain⟨its',r',p',_⟩:=I.list q';unfold deq;unfold dep at hu;exact Zna p.isList p'.isList (by rw[<-r.length,d1.length]) (by rw[<-r'.length,d2.length]) (by omega) fun j j1 j2=>ZdG I xs ys A.in1 vs ws its its' d1 d2 r r' (by show A.units+1+_<_;omega) j j1 j2
  | t ys=>
   unfold DatOk at h2;obtain⟨b,ws,rfl,q',d2⟩:=h2;cases rv;obtain⟨its',r',p',_⟩:=I.tuple q';unfold deq;exact⟨RcAt.list_tuple p.isList (show s.heap.IsTuple b its'.toArray from p') (by omega),RcNeAt.list_tuple p.isList (show s.heap.IsTuple b its'.toArray from p') (by omega)⟩
 | t xs=>
  unfold DatOk at h1;obtain⟨a,vs,rfl,q,d1⟩:=h1;cases ru;obtain⟨its,r,p,_⟩:=I.tuple q;cases e with
  | f w=>
   unfold DatOk at h2;obtain⟨rfl,f1⟩:=h2;have z:=ZeJ (A:=A) f1 rv (show s.heap.IsTuple a its.toArray from p) (by omega);unfold deq;exact⟨z.2.2.2.1,z.2.2.2.2.2⟩
  | t ys=>
   unfold DatOk at h2;obtain⟨b,ws,rfl,q',d2⟩:=h2;cases rv;obtain⟨its',r',p',_⟩:=I.tuple q';unfold deq;unfold dep at hu;exact Zm9 (show s.heap.IsTuple a its.toArray from p) (show s.heap.IsTuple b its'.toArray from p') (by rw[<-r.length,d1.length]) (by rw[<-r'.length,d2.length]) (by omega) fun j j1 j2=>ZdG I xs ys A.in1 vs ws its its' d1 d2 r r' (by show A.units+1+_<_;omega) j j1 j2
  | l ys=>
   unfold DatOk at h2;obtain⟨b,ws,rfl,q',d2⟩:=h2;cases rv;obtain⟨its',r',p',_⟩:=I.list q';unfold deq;exact⟨RcAt.tuple_list (show s.heap.IsTuple a its.toArray from p) p'.isList (by omega),RcNeAt.tuple_list (show s.heap.IsTuple a its.toArray from p) p'.isList (by omega)⟩
end
def rEqD (K:Q4)(neg:Bool):R2:=fun x y H Q=>(scal x y=true/\Q (.bl (if neg then !decide (x=y) else decide (x=y))) H) \/
 ∃d e,DatOk K H d x/\DatOk K H e y/\¬(Zbw x=true/\Zbw y=true)/\dep d<=60/\Q (.bl (if neg then !deq d e else deq d e)) H
theorem Znu {X:Cx}(hu:X.A.units+64<cLine):OpR X (compareOp .Eq) (rEqD X.K false):=by
 intro BF s U H x y v u Q I rx ry h;rcases h with⟨h1,q⟩|⟨d,e,h1,h2,hn,hd,q⟩
 .exact Zqh BF s U H x y v u Q I rx ry ⟨h1,q⟩
 .exact(Zm8 I h1 h2 rx ry (by omega) hn).1 _ _ _ _ ⟨.bl _,H,I,rfl,q⟩
theorem Znr {X:Cx}(hu:X.A.units+64<cLine):OpR X (compareOp .NotEq) (rEqD X.K true):=by
 intro BF s U H x y v u Q I rx ry h;rcases h with⟨h1,q⟩|⟨d,e,h1,h2,hn,hd,q⟩
 .exact Zqf BF s U H x y v u Q I rx ry ⟨h1,q⟩
 .exact(Zm8 I h1 h2 rx ry (by omega) hn).2 _ _ _ _ ⟨.bl _,H,I,rfl,q⟩
theorem ZeO {K:Q4}{H:Hp}:∀ {vs:List V},vs.all Zbw=true->DatsOk K H (vs.map DT.f) vs
 | [],_=>by unfold DatsOk;rfl
 | v::r,h=>by rw[List.all_cons,YAQ]at h;rw[YAi];unfold DatsOk;exact⟨v,r,rfl,by unfold DatOk;exact⟨rfl,h.1⟩,ZeO h.2⟩
theorem ZcI (vs:List V):deps (vs.map DT.f)=0:=by
 induction vs with
 | nil=>rfl
 | cons v r ih=>rw[YAi];unfold deps;rw[ih];rfl
theorem ZkV (a b:Q11):eqV (tx a) (tx b)=decide (tx a=tx b):=by
 rw[ZcJ];show ((⟨a.toArray⟩:Str) == ⟨b.toArray⟩)=_;by_cases h:a=b
 .subst h;simp
 .rw[decide_eq_false h];exact beq_eq_false_iff_ne.mpr fun z=>h (ZdU.mp (congrArg V.str z))
theorem datL {K:Q4}{H:Hp}{a:AD}{vs:List V}(h:SqL K H a vs)(hf:vs.all Zbw=true):DatOk K H (.l (vs.map DT.f)) (.ref a):=by unfold DatOk;exact⟨a,vs,rfl,h,ZeO hf⟩
theorem datT {K:Q4}{H:Hp}{a:AD}{vs:List V}(h:SqT K H a vs)(hf:vs.all Zbw=true):DatOk K H (.t (vs.map DT.f)) (.ref a):=by unfold DatOk;exact⟨a,vs,rfl,h,ZeO hf⟩
end L2
namespace L2
open PySem PySem.Spec PyProof.Rows
open PySem.W (Frag findIn specialIn typeIn mroIn clsIn InstAt Looks)
def Zf2:AC:=[.type "ValueError",.type "Exception",.type "BaseException",.type "object"]
def ZkQ:Value->Bool
 | .ref _=>true
 | _=>false
def xmro (l:AC):Bool:=l.dropWhile ZkQ == Zf2
theorem Zgx {P:AC->Prop}(h0:P Zf2)(h1:∀c r,P r->P (.ref c::r)):∀l:AC,xmro l=true->P l
 | [],e=>by simp[xmro,Zf2]at e
 | v::r,e=>by
  cases hv:ZkQ v with
  | true=>
   cases v with
   | ref c=>
    refine h1 c r (Zgx h0 h1 r ?_);unfold xmro at e ⊢;rw[List.dropWhile_cons,YAM hv]at e;exact e
   | _=>cases hv
  | false=>
   unfold xmro at e;rw[List.dropWhile_cons,YAI (by rw[hv];exact YAC)]at e;rw[show (v::r)=Zf2 by simpa using e];exact h0
theorem Zb6 {n:String}{b:Bool}(h:Zf2.contains (.type n)=b){l:AC}(e:xmro l=true):l.contains (.type n)=b:=
 Zgx (P:=fun l=>l.contains (.type n)=b) h (fun c r h=>by rw[YCc,h];rfl) l e
structure Xc (K:Frag)(C:AD):Prop where
 ga:findIn K (.ref C) "__getattribute__"=some (some (.builtin "BaseException.__getattribute__"))
 gr:findIn K (.ref C) "__getattr__"=some none
 sa:findIn K (.ref C) "__setattr__"=some (some (.builtin "object.__setattr__"))
 hd:PySem.W.hasDictIn K C=true
 mr:(clsIn K C).any (fun cd=>xmro cd.mro)=true
theorem Zk6 {l:AC}(e:xmro l=true):l.isEmpty=false:=by
 cases l with
 | nil=>simp[xmro,Zf2]at e
 | cons _ _=>rfl
theorem Xc.base {K:Frag}{C:AD}(c:Xc K C){n:String}{b:Bool}(h:Zf2.contains (.type n)=b):mroIn K C (.type n)=some b:=by obtain⟨cd,hc,hm⟩:=YDS c.mr;unfold PySem.W.mroIn;rw[hc,YCL,YAI (by rw[Zk6 hm];exact YAC),Zb6 h hm]
noncomputable def xo (a C:AD)(d:Option AD):HO:=.ext fun h=>∃(o:Obj) (t:AD),h.get? a=some o/\o.cls=.ref C/\o.dict=d/\o.data=.fields #[.ref t,.none,.none,.none,.bool false,.none]
noncomputable def xdO (d:AD)(fs:List (Str×V)):HO:=.ext fun h=>fs.length<=1000/\∃mA,h.Ns1 d mA/\(∀f,RelO (fs.lookup f) (mA f))/\PySem.Within mA (fs.map (·.1))
inductive XAt (H:Hp) (e C:AD):List (Str×V)->Prop where
 | bare:H e=some (xo e C none)->XAt H e C []
 | full {d:AD} {fs:List (Str×V)}:H e=some (xo e C (some d))->H d=some (xdO d fs)->d≠e->XAt H e C fs
theorem ZmA {H:Hp}{a:AD}{o:HO}(h:H a=some o):upd H a o=H:=by
 funext b;unfold upd;by_cases hb:b=a
 .rw[YAM hb,hb,h]
 .rw[YAI hb]
section
variable {X:Cx}{BF:AA}{U:St}{H:Hp}{s:AE}{e C:AD}{fs:List (Str×V)}{f:Str}{v:V}{A:AH}{E:Q33}
theorem ZdR {d:Option AD}(I:Inv X BF U H s)(h:H e=some (xo e C d)):∃(o:Obj) (t:AD),s.heap.get? e=some o/\o.cls=.ref C/\o.dict=d/\o.data=.fields #[.ref t,.none,.none,.none,.bool false,.none]:=(I.hok e _ h).1
theorem Zmx {P:AG}{w:AI}{H:Hp}{h:Heap}{d:Option AD}{o:Obj}{t:AD}(h1:h.get? e=some o)(h2:o.cls=.ref C)(h3:o.dict=d)(h4:o.data=.fields #[.ref t,.none,.none,.none,.bool false,.none]):ObjOk P w H h e (xo e C d):=
 ⟨⟨o,t,h1,h2,h3,h4⟩,⟨o,h1⟩,fun a b ⟨o,t,q1,q⟩ k=>⟨o,t,k o q1,q⟩⟩
theorem XAt.inst (I:Inv X BF U H s)(x:XAt H e C fs):∃(ox:Obj) (od:Option Obj),InstAt s.heap e ox C od/\∀name,∃r,(match od with | some o=>PySem.W.lookIn name o | none=>some none)=some r/\RelO (fs.lookup name) r:=by
 cases x with
 | bare h=>
  obtain⟨o,t,h1,h2,h3,h4⟩:=ZdR I h;exact⟨o,none,⟨h1,h2,by unfold PySem.W.notCls;rw[h4],by rw[h3];trivial⟩,fun name=>⟨none,rfl,by trivial⟩⟩
 | @full d _ h h' hne=>
  obtain⟨o,t,h1,h2,h3,h4⟩:=ZdR I h;obtain⟨⟨_,mA,hn,hr,_⟩,_⟩:=I.hok d _ h';obtain⟨od,hod,hl⟩:=Zdv hn;exact⟨o,some od,⟨h1,h2,by unfold PySem.W.notCls;rw[h4],by rw[h3];exact hod⟩,fun name=>⟨mA name,hl name,hr name⟩⟩
theorem Zi6:entryFor table "BaseException.__getattribute__"=some Builtin.«object.__getattribute__»:=F.entry_bexc_ga
end
noncomputable abbrev xraw (C t:AD):Obj:={ cls:=.ref C,data:=.fields #[.ref t,.none,.none,.none,.bool false,.none] }
noncomputable abbrev tupO (vs:AC):Obj:={ cls:=.type "tuple",data:=.seq vs.toArray }
structure Xm (K:Frag)(C:AD):Prop where
 c:Xc K C
 ob:∃(nm q:Str) (N:AD) (bs bm:AC) (BM:Bool) (sn:AJ) (sub:AC) (ab:Bool) (col:Option Bool) (dd:Option AD) (k0 k1 k2 k3 k5:Option Value),
  K.lookup C=some (excClassObj nm q C N bs bm BM sn sub ab col dd k0 k1 k2 k3 k5 "ValueError.__new__")
 kp:PySem.W.keepIn K (.ref C)=true
section
variable {prog:AG}{w:AI}{A:AH}{E:Q33}{h:Heap}{g:Array GenState}{d:Drawn}{t:Nat}{os:OsState}{K:Frag}
variable {nm q:Str}{C N:AD}{bs bm:AC}{BM:Bool}{sn:AJ}{sub:AC}{ab:Bool}{col:Option Bool}{dd:Option AD}{k0 k1 k2 k3 k5:Option Value}
theorem Zhm {M:Model} {rest:AC} {Q:Unit->AE->Prop} (hx:xmro (.ref C::bm)=true) (hC:h.get? C=some (excClassObj nm q C N bs bm BM sn sub ab col dd k0 k1 k2 k3 k5 "ValueError.__new__"))
  (hq:Q () ⟨h,g,d,t,os⟩):wpAny M A (checkBuiltinCall "ValueError.__new__" ⟨.ref C::rest,[]⟩) Q E ⟨h,g,d,t,os⟩:=by
 have Fn:=YDZ;have hcB:=Zb6 (n:="ValueError") (b:=true) (by decide +kernel) hx;have hstar:=Fn.noStar;simp only[checkBuiltinCall,Fn.newKind,Fn.newSplit,Fn.newRow];repeat (first | refine YBc hC ?_ | (refine YCv hC ?_;rw[hcB]) | refine wpAny_staticBase_exc hC ?_ | refine wpAny_madeBy_exc hC ?_ | simp only[bne_self_eq_false,YCd,if_false] | wp_step)
 exact hq
theorem xnew {R:Result->AE->Prop} {rest:AC} (hx:xmro (.ref C::bm)=true) (hC:h.get? C=some (excClassObj nm q C N bs bm BM sn sub ab col dd k0 k1 k2 k3 k5 "ValueError.__new__"))
  (hq:R (.ok (.ret (.ref (h.objs.size+1)))) ⟨(h.push (tupO rest)).push (xraw C h.objs.size),g,d,t,os⟩) (hrest:rest.length<=sizeLine):
  codeAny (model prog w) A (.builtin "ValueError.__new__" ⟨.ref C::rest,[]⟩) R ⟨h,g,d,t,os⟩:=by
 have Fn:=YDZ;have hends:=Fn.ends;have hcB:=Zb6 (n:="ValueError") (b:=true) (by decide +kernel) hx;have hcA:=Zb6 (n:="AttributeError") (b:=false) (by decide +kernel) hx;have hcN:=Zb6 (n:="NameError") (b:=false) (by decide +kernel) hx;refine codeAny_builtinAt Fn.entry ?_;unfold Builtin.«BaseException.__new__»;refine PySem.wpAt_bind ?_;show PySem.wpAt _ _ _ (stack >>= _) _ _ _;refine PySem.wpAt_bind (PySem.wpAt_stack fun p below=>PySem.wpAt_of_wpAny ?_)
 wp_walk
 refine PySem.wpAt_of_wpAny ?_;rw[Fn.owner];repeat (first | with_reducible refine wpAny_madeHere_exc Fn.canon hC ?_ | with_reducible refine YBc hC ?_ | (with_reducible refine YCv hC ?_;first | rw[hcB] | rw[hcA] | rw[hcN]) | wp_step)
 show R _ _;rw[YBh];exact hq
theorem ZoF {R:Result->AE->Prop} {rest:AC} {init:Value} (KX:K.In h) (hx:xmro (.ref C::bm)=true) (hC:h.get? C=some (excClassObj nm q C N bs bm BM sn sub ab col dd k0 k1 k2 k3 k5 "ValueError.__new__"))
  (hi:Looks (model prog w) h (typeLookup (.ref C) "__init__") (some init)) (hb:∀self,Looks (model prog w) h (bindSpecial init self) (init,[self])) (hrest:rest.length<=sizeLine)
  (hq:codeAny (model prog w) (A.under (.builtin "type.__call__" ⟨.ref C::rest,[]⟩)) (.call init ⟨.ref (h.objs.size+1)::rest,[]⟩) (PySem.W.InitBack (h.objs.size+1) R) ⟨(h.push (tupO rest)).push (xraw C h.objs.size),g,d,t,os⟩):
  codeAny (model prog w) A (.call (.ref C) ⟨rest,[]⟩) R ⟨h,g,d,t,os⟩:=by
 have f1:=tc_lookup;have f2:=tc_bind (.ref C);have hT:(⟨h,g,d,t,os⟩:AE).TypeIs (.ref C) "type":=⟨_,hC,rfl⟩;have Fn:=YDZ;refine codeAny_of_tree ?_;show wpAny _ _ (callAny (.ref C) _) _ _ _;repeat (any_goals (first | assumption | with_reducible refine YBc hC ?_ | wp_step))
 refine⟨rfl,?_⟩;refine codeAny_call_builtin_at (Code.quiet_builtin _ (by decide +kernel)) entry_typeCall (wpAny_check_type_call_sub hC ?_);repeat (first | with_reducible refine YBc hC ?_ | with_reducible refine wpAny_madeBy_exc hC ?_ | wp_step)
 refine codeAny_call_builtin_code (Code.quiet_builtin _ Fn.quiet) (Zhm hx hC ?_);refine xnew hx hC ?_ hrest;show wpAny _ _ _ _ _ _;have k:∀b o,h.get? b=some o->((h.push (tupO rest)).push (xraw C h.objs.size)).get? b=some o:=fun b o e=>YAE _ (YAE _ e);have hC1:=k _ _ hC;have hget:((h.push (tupO rest)).push (xraw C h.objs.size)).get? (h.objs.size+1)=some { cls:=.ref C,data:=.fields #[.ref h.objs.size,.none,.none,.none,.bool false,.none] }:=by heap_get
 have hcC:(Value.ref C::bm).contains (.ref C)=true:=by simp
 have i1:=hi.keeps k;have b1:=(hb (.ref (h.objs.size+1))).keeps k;have t1:Looks (model prog w) ((h.push (tupO rest)).push (xraw C h.objs.size)) (typeOf (.ref (h.objs.size+1))) (.ref C):=(Looks.ld hget).andThen .now;unfold isInstance;repeat (first | with_reducible refine YBc hget ?_ | (with_reducible refine YCv hC1 ?_;rw[hcC]) | wp_step)
 refine YCv hC1 ?_;rw[hcC];repeat (first | with_reducible refine YBc hget ?_ | wp_step)
 show wpAny _ _ (typeLookup (.ref C) _) _ _ _;refine i1.at (YBT (YAA (b1.at ?_)));refine YAA (YCx ?_);refine codeAny_mono hq fun r s' z=>?_;rcases r with e | (v | _ | _ | _)<;>first | exact z | exact z.elim | skip
 obtain⟨rfl,z⟩:=z;exact YAD (YAD z)
end
section
variable {X:Cx}{BF:AA}{U:St}{H:Hp}{s:AE}{C:AD}{us:AC}{vs:List V}{Q:VK}
theorem Inv.xmade (I:Inv X BF U H s):Inv X BF U (upd H (s.heap.objs.size+1) (xo (s.heap.objs.size+1) C none)) { s with heap:=(s.heap.push (tupO us)).push (xraw C s.heap.objs.size) }:=by
 have I1:Inv X BF U H { s with heap:=s.heap.push (tupO us) }:=I.kept (t':=s.toks) fun b o e=>YAE _ e;have e2:((s.heap.push (tupO us)).push (xraw C s.heap.objs.size)).get? (s.heap.objs.size+1)=some (xraw C s.heap.objs.size):=by
  have:=YAU (s.heap.push (tupO us)) (o:=xraw C s.heap.objs.size) rfl
  rwa [YBh]at this
 exact I1.laid (a:=s.heap.objs.size+1) (t':=s.toks) (fun b u q=>YAE _ q) (YCU (YBh _ _)) (Zmx e2 rfl rfl rfl)
theorem ZhY {e:AD}{d:Option AD}{R:Result->AE->Prop}(I:Inv X BF U H s)(m:Xm X.K C)(hx:H e=some (xo e C d))(hz:us.length<=sizeLine)(A:AH)
    (h:∀s',Inv X BF U H s'->R (.ok (.ret .none)) s'):codeAny (model X.prog X.w) A (.call (.builtin "ValueError.__init__") ⟨.ref e::us,[]⟩) R s:=by
  have Fn:=YDZ;have c:=m.c;obtain⟨nm,qn,N,bs,bm,BM,sn,sub,ab,col,dd,k0,k1,k2,k3,k5,lC⟩:=m.ob;have hC:=I.kIn _ _ lC;obtain⟨o,t,h1,h2,h3,h4⟩:=ZdR I hx;obtain⟨oc,od,oda,osl⟩:=o;dsimp only at h2 h3 h4;subst h2 h3 h4;have L:Looks (model X.prog X.w) s.heap (isInstance (.ref e) (.type "ValueError")) true:=((Looks.ld h1).andThen .now).andThen (PySem.W.looks_mroIn I.kIn (c.base (n:="ValueError") (b:=true) (by decide +kernel)));obtain⟨hp,g,dr,tk,os⟩:=s;refine codeAny_call_builtin Fn.init.plain Fn.initEntry ?_;have hshort:=Fn.noStar;simp only[checkBuiltinCall,Fn.initKind,Fn.initSplit,Fn.initRow];refine YAA (L.at ?_);simp only[YCP,YCd,if_false];have fin:wpAny (model X.prog X.w) A.in1 (Builtin.«BaseException.__init__» ⟨.ref e::us,[]⟩) (fun fin s'=>match fin with | .done f=>R (.ok f) s' | .again c'=>c'.quiet=true/\codeAny (model X.prog X.w) A c' R s') (fun e s'=>R (.error e) s') ⟨hp,g,dr,tk,os⟩:=by
    have BP:e<hp.objs.size:=YAN h1
    wp_walk
    refine h _ ?_;have I1:Inv X BF U H { (⟨hp,g,dr,tk,os⟩:AE) with heap:=hp.push (tupO us) }:=I.kept (t':=tk) fun b o e=>YAE _ e;have e2:=YBm (Obj.mapFields (·.setIfInBounds 0 (Value.ref hp.objs.size))) (YAE (h:=hp) (tupO us) h1) rfl;have I2:=I1.write (x:=e) (e:=e) (o:=xo e C od) (h':=(hp.push (tupO us)).update e (Obj.mapFields (·.setIfInBounds 0 (Value.ref hp.objs.size)))) (t':=tk) (by rw[hx];exact trivial) (.inl rfl)
      (fun b u hb q=>by rw[YBg _ _ (YBM hb)];exact q) ⟨_,e2⟩ (Zmx e2 rfl rfl rfl)
    rw[ZmA hx]at I2;exact I2
  repeat (first | with_reducible refine YBc hC ?_ | (with_reducible refine wpAny_load hC ?_) | with_reducible refine YBc h1 ?_ | wp_step)
  first
    | (refine wpAny_onRaise ?_
       rw[show ∀(a b:String) (n:Nat),Bind.check ⟨.positional,"*","ValueError",.self,[⟨"args",.varPos,false⟩]⟩ a b n (List.map (fun x=>x.fst) ({ pos:=Value.ref e::us }:Args).kw)=pure () from fun a b n=>check_star_args _ _ _ _ _ _];exact YAD fin)
    | skip
end
structure Xi (K:Frag)(C:AD):Prop where
 c:Xc K C
 ha:findIn K (.ref C) "__class__"=some (some (.builtin "object.__class__"))
 hn:specialIn K (.builtin "object.__class__") "__get__"=some (some (.builtin "getset_descriptor.__get__"))
 htk:PySem.W.takesIn K (.builtin "object.__class__")=some true
section
variable {K:Frag}{x C:AD}{ox:Obj}{od:Option Obj}{prog:AG}{w:AI}{A:AH}{E:Q33}{s:AE}
theorem Zmz {Q:Option Value->AE->Prop}(i:Xi K C)(KX:K.In s.heap)(I:InstAt s.heap x ox C od)(h:Q (some (.ref C)) { s with toks:=s.toks+1 }):wpAny (model prog w) A (getAttr? (.ref x) "__class__") Q E s:=by
 have c:=i.c;have hf:PySem.W.findObj K C od "__class__"=some (.bind (.builtin "getset_descriptor.__get__") (.builtin "object.__class__")):=by obtain⟨cd,hc,_⟩:=YDS c.hd;unfold PySem.W.findObj;rw[hc,i.ha];simp only[YCL,i.hn,i.htk]
 obtain⟨hp,g,d,t,os⟩:=s;have L0:=I.type (M:=model prog w);have L1:=YDW (M:=model prog w) KX c.ga;have L2:=YDW (M:=model prog w) KX c.gr;have L3:=PySem.W.looks_find (M:=model prog w) KX I hf;have L4:=PySem.W.looks_mroIn (M:=model prog w) KX (c.base (n:="BaseException") (b:=true) (by decide +kernel));have hm:=c.base (n:="object") (b:=true) (by decide +kernel);have hx2:(Value.builtin "BaseException.__getattribute__" == Value.builtin "object.__getattribute__")=false:=by decide +kernel
 have slot:=F.excAttr_ValueError.ga;unfold getAttr? getAttrBy?;refine YAA (wpAny_mkText (YAA (YDB ?_)));unfold getAttrBy;refine YBT (YAA (L0.at (YAA (L1.at ?_))));dsimp only;rw[hx2,YBp,YAI YAC];unfold getAttrByItsOwn hookBefore;refine YAA ?_;show wpAny _ _ (if onTheHeap (Value.ref C)=true then typeLookup (.ref C) "__getattr__" else pure none) _ _ _;rw[YAM (show onTheHeap (Value.ref C)=true from rfl)];refine L2.at (YAA (YDB (YBT ?_)));unfold callGetattribute;rw[show (false&&onTheHeap (Value.builtin "BaseException.__getattribute__"))=false from rfl,YAI YAC];unfold boundAndCalled;rw[slot.bind];refine YAA (YAD ?_);show wpAny _ _ (call (.builtin "BaseException.__getattribute__") [.ref x,.str "__class__" t]) _ _ _;refine YCx (codeAny_call_builtin slot.plain Zi6 ?_);refine @PySem.W.check_slot (model prog w) _ _ ⟨hp,g,d,t+1,os⟩ "BaseException.__getattribute__" "BaseException" "__getattribute__" (.ref x) [.str "__class__" t] [] _ (by decide +kernel) (by decide +kernel) (L0.andThen L4) (F.args_bexc_ga (.ref x) (.str "__class__" t)) ?_;refine YAA (YAD (YAA (YAD (YAA (L0.at (YAA (L3.at ?_)))))));show wpAny _ _ (holding [.builtin "object.__class__"] (call (.builtin "getset_descriptor.__get__") [.builtin "object.__class__",.ref x,.ref C]) >>= ret) _ _ _;refine YAA (YBT (YCx (PySem.W.class_get (s:=⟨hp,g,d,t+1,os⟩) (ox:=ox) (od:=od) KX I hm (YAD ?_))));exact PySem.W.handed_on rfl (YAD h)
theorem Zg1 (i:Xi K C):PySem.W.KitX K (.ref x) (.ref C) (fun h=>InstAt h x ox C od) where
 ty:=fun _ _ _ I=>I.type
 it:=fun _ _ KX _=>by
  obtain⟨cd,hc,_⟩:=YDS i.c.hd;unfold PySem.W.clsIn at hc;split at hc
  .rename_i ho
   intro A' Q' E' s' k q;unfold isType loadHead;exact YAA (wpAny_loadPart (k _ _ (KX _ _ ho)) (YAD q))
  .cases hc
 ne:=fun h tp dd its n sl KX htp=>by
  obtain⟨cd,hc,_⟩:=YDS i.c.hd;refine YBd.mpr fun q=>?_;have e:C=tp:=Value.ref.inj (beq_iff_eq.mp q);subst e;unfold PySem.W.clsIn at hc;split at hc
  .rename_i ho
   have z:=(KX _ _ ho).symm.trans htp;cases z
  .cases hc
 ca:=fun KX I k=>Zmz i KX I k
end
inductive TyX (K:Frag) (H:Hp):V->Value->Prop where
 | pl {x:V} {t:Value} (h:TyOf K H x t):TyX K H x t
 | seqL {a:AD} {xs:List V} (h:SqL K H a xs):TyX K H (.ref a) (.type "list")
 | seqT {a:AD} {xs:List V} (h:SqT K H a xs):TyX K H (.ref a) (.type "tuple")
 | exc {e C:AD} {fs:List (Str×V)} (x:XAt H e C fs) (i:Xi K C):TyX K H (.ref e) (.ref C)
noncomputable def clsV:V->Option Value
 | .ref a=>some (.ref a)
 | .ty n=>some (.type n)
 | _=>none
theorem Zgt {X:Cx}:Zcg X (.builtin "isinstance") (fun xs H Q=>∃x c t k b,xs=[x,c]/\clsV c=some k/\TyX X.K H x t/\PySem.W.kitOne X.K t k=some b/\Q (.bl b) H):=by
 rintro BF s U H xs us Q I r ⟨x,c,t,k,b,rfl,hk,ty,e,q⟩;obtain⟨u,v,rfl,ru,rv⟩:=r.two;have hv:v=k:=by
  cases c with
  | ref a=>cases hk;exact rv
  | ty n=>cases hk;exact rv
  | _=>cases hk
 subst hv;cases ty with
 | pl ty=>exact ZiU I ru ty e fun tk=>⟨.bl b,H,I.tok _,rfl,q⟩
 | seqL h=>
  cases ru;obtain⟨its,_,⟨o,n,ho,hc,_⟩,_⟩:=I.list h;exact YBP PySem.W.kitx_list I.kIn ⟨o,ho,hc⟩ e (fun z=>nomatch z) fun tk=>⟨.bl b,H,I.tok _,rfl,q⟩
 | seqT h=>
  cases ru;obtain⟨its,_,⟨o,ho,hc,_⟩,_⟩:=I.tuple h;exact YBP PySem.W.kitx_tuple I.kIn ⟨o,ho,hc⟩ e (fun z=>nomatch z) fun tk=>⟨.bl b,H,I.tok _,rfl,q⟩
 | exc x i=>
  cases ru;obtain⟨ox,od,J,_⟩:=x.inst I;exact YBP (Zg1 i) I.kIn J e (fun z=>nomatch z) fun tk=>⟨.bl b,H,I.tok _,rfl,q⟩
def Zh7 (K:Frag)(C:AD)(t:TA):TE:=fun U H Q=>t U H fun vs H1=>vs.length<=1000/\∀e,H1 e=none->Q (.ref e) (upd H1 e (xo e C none))
def ZmC (C:AD)(sp:Sp)(E:XK)(t:TA):TE:=fun U H Q=>t U H fun vs H1=>vs.length<=1000/\∀e,H1 e=none->sp (.ref e::vs) (upd H1 e (xo e C none)) (fun v H2=>v=.non/\Q (.ref e) H2) E
section
variable {X:Cx}{o e value:Expr}{es:List Expr}{f x:Str}{p pos pos':Pos}{ta tv:TE}{t:TA}{C fI:AD}
theorem Xm.parts {K:Frag}{C:AD}(m:Xm K C):∃(nm q:Str) (N:AD) (bs bm:AC) (BM:Bool) (sn:AJ) (sub:AC) (ab:Bool) (col:Option Bool) (dd:Option AD) (k0 k1 k2 k3 k5:Option Value),
  K.lookup C=some (excClassObj nm q C N bs bm BM sn sub ab col dd k0 k1 k2 k3 k5 "ValueError.__new__")/\xmro (.ref C::bm)=true:=by
 obtain⟨nm,qn,N,bs,bm,BM,sn,sub,ab,col,dd,k0,k1,k2,k3,k5,lC⟩:=m.ob;refine⟨nm,qn,N,bs,bm,BM,sn,sub,ab,col,dd,k0,k1,k2,k3,k5,lC,?_⟩;have hm:=m.c.mr;unfold PySem.W.clsIn at hm;rw[lC]at hm;exact hm
theorem Zhz {BF:AA} {U:St} {H:Hp} {s:AE} {Q:VK} {us:AC} (m:Xm X.K C) (hi:findIn X.K (.ref C) "__init__"=some (some (.builtin "ValueError.__init__"))) (I:Inv X BF U H s) (hz:us.length<=1000)
  (h:∀e,H e=none->Q (.ref e) (upd H e (xo e C none))):wpAny (model X.prog X.w) X.A (call (.ref C) us) (EP X BF U Q) X.xe s:=by
 obtain⟨nm,qn,N,bs,bm,BM,sn,sub,ab,col,dd,k0,k1,k2,k3,k5,lC,hx⟩:=m.parts;have I2:=Inv.xmade (C:=C) (us:=us) I;have hq:=h (s.heap.objs.size+1) (I.hok.fresh (YDK _));have hz':us.length<=sizeLine:=YAK hz (by rw[sizeLine_eq];decide);have KX:=I.kIn;have hC:=KX _ _ lC;obtain⟨hp,g,d,t,os⟩:=s;refine YCx (ZoF (K:=X.K) KX hx hC (YDW KX hi) (fun self=>Looks.of_pure (F.excBase_ValueError.init.bind self)) hz' ?_);refine ZhY I2 m Zag hz' _ fun s' I3=>⟨rfl,?_⟩;exact⟨.ref _,_,I3,rfl,hq⟩
theorem Zis (m:Xm X.K C) (hi:findIn X.K (.ref C) "__init__"=some (some (.builtin "ValueError.__init__"))) (hg:Gl X x) (hm:X.mg x=some (.ref C)) (ha:PA X (e::es) t)
  (hdb:(x == ("__debug__":Str))=false:=by decide) (he:starEach (e::es) X.env=(false,eval e X.env)::starEach es X.env:=by rfl) (hpl:(backTo pos (starEach es X.env)).any (·.1)=false:=by rfl):
  PE X (.Call (.Name x p) (e::es) [] pos) (Zh7 X.K C t):=by
 intro BF s U H Q I h;refine YBf (Zco I hg hm ?_ hdb);refine YCZ (h₀:=X.base) I.ok.mod.kin m.kp (thn (ha pos BF s U H _ I h) fun us s1 ⟨vs,H1,I1,r,hz,q⟩=>⟨I1.kIn,?_⟩) he hpl;exact Zhz m hi I1 (by rw[List.nil_append,<-r.length];exact hz) q
structure ClsRead (K:Frag)(C:AD)(f:Str)(v:Value):Prop where
 sp:specialIn K (.ref C) "__getattribute__"=some (some (.builtin "type.__getattribute__"))
 rd:PySem.W.readsIn K C (.type "type")=true
 fd:PySem.W.findCls K (.ref C) (.type "type") f=some (.val v)
 hn:PySem.W.handedIn v=true
end
section
variable {X:Cx}{BF:AA}{U:St}{H:Hp}{s:AE}
end
noncomputable def Ite (K:Q4)(a:AD):It:=
 ⟨fun i H=>∃xs x,SqL K H a xs/\xs[i]?=some x,fun i H x H'=>∃p v,H p=none/\x=.ref p/\H'=upd H p (.tup [.int i,v])/\∀xs,SqL K H a xs->xs[i]?=some v,fun i H=>∃xs,SqL K H a xs/\xs.length<=i⟩
section
variable {X:Cx}{es:List Expr}{x1:Nat}{tp:Pos}
end
section
variable {H:Hp}{Q:VK}{U:St}
theorem q_I {C:Int->Int->Prop}{g:Int->Int->V}{i j:Int}:rI C g (.int i) (.int j) H Q=(C i j/\Q (g i j) H):=
 propext ⟨fun ⟨_,_,e1,e2,h⟩=>by cases e1;cases e2;exact h,fun h=>⟨i,j,rfl,rfl,h⟩⟩
theorem q_I0 {g:Int->Int->V}{i j:Int}:rI0 g (.int i) (.int j) H Q=Q (g i j) H:=
 propext ⟨fun ⟨_,_,e1,e2,h⟩=>by cases e1;cases e2;exact h,fun h=>⟨i,j,rfl,rfl,h⟩⟩
theorem q_U {g:Int->V}{i:Int}:rU g (.int i) H Q=Q (g i) H:=
 propext ⟨fun ⟨_,e1,h⟩=>by cases e1;exact h,fun h=>⟨i,rfl,h⟩⟩
theorem q_T {C:Q11->Q11->Prop}{g:Q11->Q11->V}{a b:Q11}:rT C g (tx a) (tx b) H Q=(C a b/\Q (g a b) H):=
 propext ⟨fun ⟨_,_,e1,e2,h⟩=>by rw[ZdU.mp e1,ZdU.mp e2];exact h,fun h=>⟨a,b,rfl,rfl,h⟩⟩
theorem q_b {b:Bool}{p:Bool->Prop}:(∃k,V.bl b=V.bl k/\p k)=p b:=
 propext ⟨fun ⟨_,e,h⟩=>by cases e;exact h,fun h=>⟨b,rfl,h⟩⟩
theorem q_var {v:V}{p:V->Prop}:(∃u,some (some v)=some (some u)/\p u)=p v:=
 propext ⟨fun ⟨_,e,h⟩=>by cases e;exact h,fun h=>⟨v,rfl,h⟩⟩
theorem q_var' {v:V}{p:V->Prop}:(∃u,v=u/\p u)=p v:=
 propext ⟨fun ⟨_,e,h⟩=>by cases e;exact h,fun h=>⟨v,rfl,h⟩⟩
end
open PySem.W (Frag findIn specialIn typeIn mroIn clsIn subIn kitOne kitCls)
def Zou (sc sco:Scope):Bool:=decide (sc.kind=.function)&&sc.names.all fun y=>decide (y.2≠NameKind.cell)&&(decide (y.2≠NameKind.local) || decide (sc.names.lookup y.1=some NameKind.local)) &&
 (decide (y.2≠NameKind.free) || (decide (sco.names.lookup y.1=some NameKind.cell) || decide (sco.names.lookup y.1=some NameKind.free)))
theorem ZaQ {X:Cx}{sc:Scope}(h:Zou sc X.env.scope=true):CmpScope X sc:=by
 unfold Zou at h;rw[YAQ,YBO]at h;obtain⟨h1,h2⟩:=h;refine⟨of_decide_eq_true h1,fun y hy=>?_,fun y hy e=>?_,fun y hy e=>?_⟩
 .have:=h2 y hy;simp only[YAQ,Bool.or_eq_true,decide_eq_true_eq]at this;exact this.1.1
 .have:=h2 y hy;simp only[YAQ,Bool.or_eq_true,decide_eq_true_eq]at this;rcases this.1.2 with z | z
  .exact absurd e z
  .exact z
 .have:=h2 y hy;simp only[YAQ,Bool.or_eq_true,decide_eq_true_eq]at this;rcases this.2 with z | z | z
  .exact absurd e z
  .exact .inl z
  .exact .inr z
section
variable {K:Frag}{H:Hp}{C D:AD}
structure ClsOk (K:Frag)(C:AD)(mro:AC):Prop where
 cd:∃cd,clsIn K C=some cd/\cd.mro=mro
 ty:typeIn K (.ref C)=some (.type "type")
 ne:mro.isEmpty=false
theorem ZlR {m1 m2:AC}{b:Bool}(c:ClsOk K C m1)(d:ClsOk K D m2)(h:m1.contains (.ref D)=b)(hh:C=D->b=true):kitOne K (.ref C) (.ref D)=some b:=by
 obtain⟨cd,e1,e2⟩:=c.cd;obtain⟨cd',e3,e4⟩:=d.cd;unfold PySem.W.kitOne;split
 .rename_i z
  have z':Value.ref C=Value.ref D:=by simpa using z
  cases z';rw[hh rfl]
 .unfold PySem.W.kitCls;dsimp only;rw[e3,d.ty];simp only[Option.isSome_some,YCO,beq_self_eq_true,if_true];unfold PySem.W.subIn PySem.W.mroIn;dsimp only;rw[e1,YCL,e2,c.ne,h];rfl
theorem Zav {a:AD}{o:HO}(h:H a=none):Same H (upd H a o):=fun b u hb=>by rw[Zai (Zak hb h)];exact hb
end
def Mk0 (C:AD)(H:Hp)(Q:VK):Prop:=∀e,H e=none->Q (.ref e) (upd H e (xo e C none))
def MkI (sp:Sp)(E:XK)(C:AD)(vs:List V)(H:Hp)(Q:VK):Prop:=∀e,H e=none->sp (.ref e::vs) (upd H e (xo e C none)) (fun v H2=>v=.non/\Q (.ref e) H2) E
def NewL (xs:List V)(H:Hp)(Q:VK):Prop:=∀p,H p=none->Q (.ref p) (upd H p (.lst xs))
def NewT (xs:List V)(H:Hp)(Q:VK):Prop:=∀p,H p=none->Q (.ref p) (upd H p (.tup xs))
section
variable {K:Frag}{C:AD}{sp:Sp}{E:XK}{t:TA}{U:St}{H:Hp}{Q:VK}{vs:List V}
theorem Zqa:Zh7 K C t U H Q=t U H (fun vs H1=>vs.length<=1000/\Mk0 C H1 Q):=rfl
theorem Zp9:ZmC C sp E t U H Q=t U H (fun vs H1=>vs.length<=1000/\MkI sp E C vs H1 Q):=rfl
theorem Zqb:tLst t U H Q=t U H (fun xs H1=>xs.length<=sizeLine/\NewL xs H1 Q):=rfl
theorem Zp8:tTup t U H Q=t U H (fun xs H1=>xs.length<=sizeLine/\NewT xs H1 Q):=rfl
theorem Znc {l b:AD}:rCat (.ref l) (.ref b) H Q=∃xs zs,H l=some (.lst xs)/\H b=some (.lst zs)/\xs.length+zs.length<=sizeLine/\NewL (xs++zs) H Q:=
 propext ⟨fun ⟨_,_,xs,zs,e1,e2,h⟩=>by cases e1;cases e2;exact⟨xs,zs,h⟩,fun ⟨xs,zs,h⟩=>⟨l,b,xs,zs,rfl,rfl,h⟩⟩
theorem NewL.of (h:∀p H',Same H H'->H p=none->H' p=some (.lst vs)->Q (.ref p) H'):NewL vs H Q:=fun p hp=>h p _ (Zav hp) hp Zag
theorem NewT.of (h:∀p H',Same H H'->H p=none->H' p=some (.tup vs)->Q (.ref p) H'):NewT vs H Q:=fun p hp=>h p _ (Zav hp) hp Zag
theorem NewL.at (h:∀p,H p=none->Q (.ref p) (upd H p (.lst vs))):NewL vs H Q:=h
theorem NewT.at (h:∀p,H p=none->Q (.ref p) (upd H p (.tup vs))):NewT vs H Q:=h
theorem Zk4:bootBuiltins "str"=some (.type "str"):=by decide +kernel
theorem Zox:bootBuiltins "int"=some (.type "int"):=by decide +kernel
theorem Zml:bootBuiltins "bool"=some (.type "bool"):=by decide +kernel
theorem ZdK:bootBuiltins "list"=some (.type "list"):=by decide +kernel
theorem Zkv:bootBuiltins "tuple"=some (.type "tuple"):=by decide +kernel
theorem ZfO:bootBuiltins "set"=some (.type "set"):=by decide +kernel
theorem ZaV:bootBuiltins "len"=some (.builtin "len"):=by decide +kernel
theorem ZaZ:bootBuiltins "isinstance"=some (.builtin "isinstance"):=by decide +kernel
theorem Zoy:bootBuiltins "all"=some (.builtin "all"):=by decide +kernel
theorem Zow:bootBuiltins "min"=some (.builtin "min"):=by decide +kernel
theorem Zb5:bootBuiltins "sorted"=some (.builtin "sorted"):=by decide +kernel
end
def Own (K:Frag)(H:Hp)(d:DT)(x:V):Prop:=DatOk K H d x/\deq d d=true/\dep d<=60
theorem SqL.mk {K:Frag}{H:Hp}{a:AD}{xs:List V}(h:H a=some (.lst xs)):SqL K H a xs:=.inl (.inl h)
theorem SqT.mk {K:Frag}{H:Hp}{a:AD}{xs:List V}(h:H a=some (.tup xs)):SqT K H a xs:=.inl (.inl h)
section
variable {X:Cx}{K:Frag}
theorem Za0 (hK:X.K=K)(hu:X.A.units+64<cLine):OpR X (compareOp .Eq) (rEqD K false):=by subst hK;exact Znu hu
theorem Zdr (hK:X.K=K)(hu:X.A.units+64<cLine):OpR X (compareOp .NotEq) (rEqD K true):=by subst hK;exact Znr hu
theorem Zax (hK:X.K=K):IxR X (rIxL K):=by subst hK;exact ZlT
theorem ZaU (hK:X.K=K):IxR X (rIxT K):=by subst hK;exact Zn8
theorem ZcS (hK:X.K=K):OpR X (compareOp .In) (rIn K false):=by subst hK;exact Zix
theorem Za7 (hK:X.K=K):OpR X (compareOp .NotIn) (rIn K true):=by subst hK;exact Zfh
theorem Zat (hK:X.K=K):Zcg X (.builtin "len") (fun xs H Q=>∃x n,xs=[x]/\LenV K x H n/\Q (.int n) H):=by subst hK;exact Zku
theorem ZeS (hK:X.K=K):Zcg X (.type "list") (fun xs H Q=>∃p ys,xs=[.ref p]/\(SqL K H p ys\/SqT K H p ys)/\∀l,H l=none->Q (.ref l) (upd H l (.lst ys))):=by subst hK;exact ZfN
theorem ZaT {e:Expr}{f:Str}{pos:Pos}{ta:TE}(hK:X.K=K)(he:PE X e ta)(hb:attributeBase e f X.env (eval e X.env)=eval e X.env):PE X (.Attribute e f pos) (tFld K ta f):=by subst hK;exact Znl he hb
theorem ZaP {tg l:Expr}{tl:TE}(hK:X.K=K)(hl:PE X l tl):PI X tg l (ZlZ K tl):=by subst hK;exact Zlz hl
end
theorem cxK {CX:CXT}{P:AG}{w:AI}{K:Q4}{mg:AB}{base:Heap}{N:AJ}{qual:Str}{scope:Scope}{f:AD}{cd:Value}{A:AH}{outer:List Env}{s:AE}{H:Hp}{E:XK}:
  (cxOf CX P w K mg base N qual scope f cd A outer s H E).K=K:=rfl
theorem bxK {X:Cx}{sc:Scope}{N:AJ}{fp:List AD}{s_0:AE}{H:Hp}{pn:AA}:(bx X sc N fp s_0 H pn).K=X.K:=rfl
open PySem.W (Frag)
def ForRun (J:It)(g:TG)(tb:TS)(D:Ends)(U:St)(H:Hp):Prop:=∃W:Nat->Nat->St->Hp->Prop,(∃m,W 0 m U H)/\∀i m U H,W i m U H ->
 (J.stop i H/\D.nx U H)\/(J.go i H/\∃N:St->Hp->Prop,(∀U' H',N U' H'->∃m',m'<m/\W (i+1) m' U' H')/\∀x H',J.yld i H x H'->g x U H' fun U2 H2=>tb { D with nx:=N,ct:=N,bk:=D.nx } U2 H2)
theorem Zqc {wi:TI}{g:TG}{tb:TS}{D:Ends}{U:St}{H:Hp}:tFor wi g tb D U H=wi U H fun J H1=>ForRun J g tb D U H1:=rfl
def CompRun (J:It)(τ0:St)(g:TG)(tt:TT)(te:TE)(H1:Hp)(Q:VK):Prop:=∀acc,H1 acc=none->∃W:Nat->Nat->St->Hp->Prop,(∃m,W 0 m τ0 (upd H1 acc (.lst []))) /\
 ∀i m τ H2,W i m τ H2->(J.stop i H2/\Q (.ref acc) H2)\/(J.go i H2/\∃Nx:St->Hp->Prop,(∀τ' H',Nx τ' H'->∃m',m'<m/\W (i+1) m' τ' H') /\
  ∀x H3,J.yld i H2 x H3->g x τ H3 fun τ2 H4=>tt τ2 H4 fun b H5=>if b=true then te τ2 H5 fun y H6=>∃ys,H6 acc=some (.lst ys)/\ys.length<sizeLine/\Nx τ2 (upd H6 acc (.lst (ys++[y]))) else Nx τ2 H5)
theorem Znb {ix:List (Option Nat)}{wi:TI}{g:TG}{tt:TT}{te:TE}{U:St}{H:Hp}{Q:VK}:Zlg ix wi g tt te U H Q=wi U H fun J H1=>CompRun J (pick ix U) g tt te H1 Q:=rfl
section
variable {g:TG}{tb:TS}{D:Ends}{U:St}{H:Hp}{K:Frag}{a:AD}{xs:List V}
theorem ForRun.list (Pv:Nat->St->Hp->Prop)(h0:Pv 0 U H)(hl:∀i U H,i<=xs.length->Pv i U H->SqL K H a xs)
  (hs:∀i x U H,xs[i]?=some x->Pv i U H->g x U H fun U2 H2=>tb { D with nx:=Pv (i+1),ct:=Pv (i+1),bk:=D.nx } U2 H2) (hd:∀U H,Pv xs.length U H->D.nx U H):ForRun (Itl K a) g tb D U H:=
 Zki Pv h0 hl hs hd
theorem ForRun.range {lo:Int}{n:Nat}(Pv:Nat->St->Hp->Prop)(h0:Pv 0 U H)
  (hs:∀i U H,i<n->Pv i U H->g (.int (lo+i)) U H fun U2 H2=>tb { D with nx:=Pv (i+1),ct:=Pv (i+1),bk:=D.nx } U2 H2) (hd:∀U H,Pv n U H->D.nx U H):
  ForRun (Itr lo n) g tb D U H:=Zi3 Pv h0 hs hd
theorem ForRun.text {l:Q11}(Pv:Nat->St->Hp->Prop)(h0:Pv 0 U H)
  (hs:∀i c U H,l[i]?=some c->Pv i U H->g (tx [c]) U H fun U2 H2=>tb { D with nx:=Pv (i+1),ct:=Pv (i+1),bk:=D.nx } U2 H2) (hd:∀U H,Pv l.length U H->D.nx U H):
  ForRun (Its l) g tb D U H:=Zkh Pv h0 hs hd
end
section
variable {tt:TT}{te:TE}{Q:VK}{τ0:St}{H:Hp}
theorem CompRun.gen {J:It}{n:Nat}(v:Nat->V)(b:Nat->Bool)(f:Nat->V)(hz:n<=1000)(hgo:∀i H',i<n->Same H H'->J.go i H')(hst:∀H',Same H H'->J.stop n H')(hy:∀i H' x H3,i<n->Same H H'->J.yld i H' x H3->H3=H'/\x=v i)
  (ht:∀i H' Q',i<n->Same H H'->(∀H'',Same H' H''->Q' (b i) H'')->tt (τ0.set 0 (some (v i))) H' Q')
  (he:∀i H' Q',i<n->b i=true->Same H H'->(∀H'',Same H' H''->Q' (f i) H'')->te (τ0.set 0 (some (v i))) H' Q')
  (hQ:∀p H',Same H H'->H p=none->H' p=some (.lst (((List.range n).filter b).map f))->Q (.ref p) H'):CompRun J τ0 (ZbW 0) tt te H Q:=by
 intro acc ha;refine⟨fun i m τ H2=>i<=n/\m=n-i/\(∀w:Option V,τ.set 0 w=τ0.set 0 w)/\Same H H2/\H2 acc=some (.lst (((List.range i).filter b).map f)),⟨n,YAv _,rfl,fun _=>rfl,Zav ha,Zag⟩,?_⟩;rintro i m τ H2 ⟨hi,rfl,hτ,hs,BI⟩;by_cases BP:i<n
 .refine .inr ⟨hgo i H2 BP hs,fun τ' H'=>(∀w:Option V,τ'.set 0 w=τ0.set 0 w)/\Same H H'/\H' acc=some (.lst (((List.range (i+1)).filter b).map f)),fun τ' H' q=>⟨n-(i+1),by omega,BP,rfl,q⟩,fun x H3 y=>?_⟩;obtain⟨rfl,rfl⟩:=hy i H2 x H3 BP hs y;show tt (τ.set 0 (some (v i))) _ _;rw[hτ];have hτ':∀w:Option V,(τ0.set 0 (some (v i))).set 0 w=τ0.set 0 w:=fun w=>by rw[List.set_set]
  refine ht i _ _ BP hs fun H4 s4=>?_;cases hb:b i with
  | false=>
   rw[YAI YAC];refine⟨hτ',hs.trans s4,?_⟩;rw[s4 _ _ BI,YBr,YBs];simp[hb]
  | true=>
   rw[YAM rfl];refine he i _ _ BP hb (hs.trans s4) fun H5 s5=>?_;refine⟨_,s5 _ _ (s4 _ _ BI),?_,hτ',?_,?_⟩
   .rw[YAB];have:=YAt b (List.range i);rw[YBF]at this;exact Zdh (by omega)
   .intro c o hc;have:c≠acc:=Zak hc ha;rw[Zai this];exact s5 _ _ (s4 _ _ (hs _ _ hc))
   .rw[Zag,YBr,YBs];simp[hb]
 .have e:i=n:=by omega
  subst e;exact .inl ⟨hst H2 hs,hQ acc H2 hs ha BI⟩
theorem CompRun.range {lo:Int}{n:Nat}(b:Nat->Bool)(f:Nat->V)(hz:n<=1000)
  (ht:∀(i:Nat) H' Q',i<n->Same H H'->(∀H'',Same H' H''->Q' (b i) H'')->tt (τ0.set 0 (some (.int (lo+i)))) H' Q')
  (he:∀(i:Nat) H' Q',i<n->b i=true->Same H H'->(∀H'',Same H' H''->Q' (f i) H'')->te (τ0.set 0 (some (.int (lo+i)))) H' Q')
  (hQ:∀p H',Same H H'->H p=none->H' p=some (.lst (((List.range n).filter b).map f))->Q (.ref p) H'):CompRun (Itr lo n) τ0 (ZbW 0) tt te H Q:=
 .gen (fun i=>.int (lo+i)) b f hz (fun i _ h _=>h) (fun _ _=>YAS _) (fun i H' x H3 _ _ y=>y) ht he hQ
theorem filter_all {n:Nat}{f:Nat->V}:((List.range n).filter fun _=>true).map f=(List.range n).map f:=by rw[List.filter_eq_self.mpr (fun _ _=>rfl)]
theorem CompRun.rangeA {lo:Int}{n:Nat}(f:Nat->V)(hz:n<=1000)
  (he:∀(i:Nat) H' Q',i<n->Same H H'->(∀H'',Same H' H''->Q' (f i) H'')->te (τ0.set 0 (some (.int (lo+i)))) H' Q')
  (hQ:∀p H',Same H H'->H p=none->H' p=some (.lst ((List.range n).map f))->Q (.ref p) H'):CompRun (Itr lo n) τ0 (ZbW 0) tAll te H Q:=
 .range (fun _=>true) f hz (fun i H' Q' _ _ q=>q H' (Same.refl _)) (fun i H' Q' hi _=>he i H' Q' hi) fun p H' s n e=>hQ p H' s n (by rw[e,filter_all])
theorem CompRun.text {l:Q11}(b:Nat->Bool)(f:Nat->V)(hz:l.length<=1000)
  (ht:∀i H' Q' (h:i<l.length),Same H H'->(∀H'',Same H' H''->Q' (b i) H'')->tt (τ0.set 0 (some (tx [l.getD i 0]))) H' Q')
  (he:∀i H' Q' (h:i<l.length),b i=true->Same H H'->(∀H'',Same H' H''->Q' (f i) H'')->te (τ0.set 0 (some (tx [l.getD i 0]))) H' Q')
  (hQ:∀p H',Same H H'->H p=none->H' p=some (.lst (((List.range l.length).filter b).map f))->Q (.ref p) H'):CompRun (Its l) τ0 (ZbW 0) tt te H Q:=
 .gen (fun i=>tx [l.getD i 0]) b f hz (fun i _ h _=>h) (fun _ _=>YAS _) (fun i H' x H3 _ _ y=>by obtain⟨e,c,hc,rfl⟩:=y;refine⟨e,?_⟩;rw[YAR,hc];rfl) ht he hQ
end
theorem ZcH:∀ {vs:List V},vs.all Zbw=true->deqs (vs.map DT.f) (vs.map DT.f)=true
 | [],_=>by unfold deqs;rfl
 | v::vs,h=>by rw[List.all_cons,YAQ]at h;rw[YAi];unfold deqs;rw[ZcH h.2];unfold deq;rw[Zhc h.1];rfl
theorem ownL {K:Frag}{H:Hp}{a:AD}{vs:List V}(h:SqL K H a vs)(hf:vs.all Zbw=true):Own K H (.l (vs.map DT.f)) (.ref a):=⟨datL h hf,by unfold deq;exact ZcH hf,by unfold dep;rw[ZcI];decide⟩
theorem ownT {K:Frag}{H:Hp}{a:AD}{vs:List V}(h:SqT K H a vs)(hf:vs.all Zbw=true):Own K H (.t (vs.map DT.f)) (.ref a):=⟨datT h hf,by unfold deq;exact ZcH hf,by unfold dep;rw[ZcI];decide⟩
theorem ZoH {t:SetTable}{n:Nat}:(t.orStandIn n).led=t.led/\((t.orStandIn n).plain=true->t.plain=true):=by
 unfold SetTable.orStandIn;split
 .exact⟨rfl,id⟩
 .exact⟨rfl,fun h=>by cases h⟩
theorem ZmB {t:SetTable}{es:Array (Int×Value)}{h:Int}{x:Value}:(layNew t es h x).2.1.led=t.led/\((layNew t es h x).2.1.plain=true->t.plain=true):=by
 unfold layNew;split
 .rename_i slot wd _
  exact ZoH (t:=(t.put slot).1)
 .exact⟨rfl,fun h=>by cases h⟩
theorem Zlc {mask finger moves:Nat}{led plain:Bool}{hs:Array Int}{t':SetTable}{order:Array Nat}(e:SetTable.laid mask finger moves led plain hs=some (t',order)):t'.led=led/\t'.plain=plain:=by
 unfold SetTable.laid at e;cases hq:SetTable.layClean mask hs with
 | none=>rw[hq]at e;cases e
 | some ow=>
  rw[hq]at e;have e':=Option.some.inj e;obtain⟨z,_⟩:=Prod.mk.inj e';subst z;exact⟨rfl,rfl⟩
theorem Zjs {t:SetTable}{es:Array (Int×Value)}{n:Nat}:(relayAll t es n).2.1.led=t.led/\((relayAll t es n).2.1.plain=true->t.plain=true):=by
 unfold relayAll;split
 .rename_i t' order q
  obtain⟨h1,h2⟩:=Zlc q;dsimp only;split
  .exact⟨h1,fun h=>by rw[<-h2];exact h⟩
  .exact⟨rfl,fun h=>by cases h⟩
 .exact⟨rfl,fun h=>by cases h⟩
def TxSet (P:AG)(w:AI)(h:Heap)(a:AD)(ls:Q22)(led:Bool):Prop:=
 ∃(o:Obj) (es:Array (Int×Value)) (ep:Nat) (t:SetTable) (ms:Q22),h.get? a=some o/\o.ExactSet/\o.data=.set es ep t/\ElemsOf (Zaz P w) es.toList/\t.fits es.size=true /\
  t.led=led/\(t.plain=true->es.size=0)/\ms.Perm ls/\Vals (ms.map tx) (es.toList.map (·.2))/\es.size<scanBound
theorem TxSet.keep {P:AG}{w:AI}{h h':Heap}{a:AD}{ls:Q22}{led:Bool}(x:TxSet P w h a ls led)(k:∀o,h.get? a=some o->h'.get? a=some o):TxSet P w h' a ls led:=by obtain⟨o,es,ep,t,ms,h1,r⟩:=x;exact⟨o,es,ep,t,ms,k o h1,r⟩
theorem TxSet.typ {P:AG}{w:AI}{s:AE}{a:AD}{ls:Q22}{led:Bool}(x:TxSet P w s.heap a ls led):s.TypeIs (.ref a) "set":=by obtain⟨o,es,ep,t,ms,h1,h2,_⟩:=x;exact⟨o,h1,h2.1⟩
noncomputable def addT (ls:Q22)(l:Q11):Q22:=if l∈ls then ls else ls++[l]
theorem Zoc {l:Q11}{v:V}{u:Value}(r:RelV v u)(hv:∃m,v=tx m):ZcC (Sum.inr (⟨l.toArray⟩:Str):Key) u=decide (v=tx l):=by
 obtain⟨m,rfl⟩:=hv;obtain⟨t,rfl⟩:=r;rw[ZcJ];simp only[ZcC,Value.isStrOf];by_cases h:m=l
 .subst h;simp
 .have:¬(⟨m.toArray⟩:Str)=⟨l.toArray⟩:=fun e=>h (ZdU.mp (congrArg V.str e));rw[decide_eq_false h];simp[this]
theorem Zei {l:Q11}:∀ {ms:Q22} {es:List (Int×Value)},Vals (ms.map tx) (es.map (·.2))->((∃e∈es,ZcC (Sum.inr (⟨l.toArray⟩:Str):Key) e.2=true)↔l∈ms)
 | [],[],_=>by simp
 | [],_::_,r=>by cases r
 | _::_,[],r=>by cases r
 | m::ms,e::es,r=>by
  cases r with
  | cons r1 r2=>
   have ih:=Zei (l:=l) r2;have q:=Zoc (l:=l) r1 ⟨m,rfl⟩;rw[ZcJ]at q;constructor
   .rintro⟨x,hx,hk⟩;rcases YAT.mp hx with z | z
    .subst z;rw[q]at hk;exact YAT.mpr (.inl (of_decide_eq_true hk).symm)
    .exact YAT.mpr (.inr (ih.mp ⟨x,z,hk⟩))
   .intro h;rcases YAT.mp h with z | z
    .exact⟨e,YAY,by rw[q];exact decide_eq_true z.symm⟩
    .obtain⟨x,hx,hk⟩:=ih.mpr z;exact⟨x,YAP _ hx,hk⟩
theorem ZbX {us us':AC}(p:us'.Perm us):∀ {ms:Q22},Vals (ms.map tx) us->∃ms':Q22,ms'.Perm ms/\Vals (ms'.map tx) us':=by
 induction p with
 | nil=>intro ms r;exact⟨ms,.refl _,r⟩
 | cons x _ ih=>
  intro ms r;cases ms with
  | nil=>cases r
  | cons m ms=>
   cases r with
   | cons r1 r2=>
    obtain⟨ms',p',r'⟩:=ih r2;exact⟨m::ms',p'.cons _,.cons r1 r'⟩
 | swap x y l=>
  intro ms r
  match ms,r with
  | m1::m2::ms,.cons r1 (.cons r2 r3)=>exact⟨m2::m1::ms,.swap _ _ _,.cons r2 (.cons r1 r3)⟩
 | trans _ _ ih1 ih2=>
  intro ms r;obtain⟨m1,p1,r1⟩:=ih2 r;obtain⟨m2,p2,r2⟩:=ih1 r1;exact⟨m2,p2.trans p1,r2⟩
section
variable {prog:AG}{w:AI}{A:AH}{E:Q33}{s:AE}
theorem ZgC {g:Bool->Sem Unit}(hg:∀(b:Bool) (s_1:AE) (Q':Unit->AE->Prop),Q' () s_1->wpAny (model prog w) A (g b) Q' E s_1){a:AD}{o:Obj}{es:Array (Int×Value)}{ep:Nat}{t:SetTable}
  (ho:s.heap.get? a=some o) (hd:o.data=.set es ep t) {e1:Array (Int×Value)} {t2:SetTable} (hb:e1.size<scanBound) (hf:t2.fits e1.size=true) {wd:Bool} {R:Option Bool->AE->Prop}
  (h:∀h' e2 t3 ep',Heap.SameBut a s.heap h'->h'.get? a=some { o with data:=.set e2 ep' t3 }->e2.toList.Perm e1.toList->t3.fits e2.size=true->t3.led=t2.led->(t3.plain=true->t2.plain=true)->R (some true) { s with heap:=h' }):
  wpAny (model prog w) A (do
   storeSet a e1 t2
   if (!wd&&t2.tooFull)=true then do
    g (relayAll t2 e1 (SetTable.grown e1.size)).2.2;storeSet a (relayAll t2 e1 (SetTable.grown e1.size)).1 (relayAll t2 e1 (SetTable.grown e1.size)).2.1;pure (some true)
   else pure (some true)) R E s:=by
 have put:∀ {h:Heap} {ob:Obj} {xs ys:Array (Int×Value)} {n:Nat} {t t':SetTable},h.get? a=some ob->ob.data=.set xs n t->(h.update a (Obj.putSet ys t')).get? a=some { ob with data:=.set ys (n+1) t' }:=fun {h ob xs ys n t t'} h1 h2=>by
  have q:=YBm (Obj.putSet ys t') h1 (by rw[putSet_of ys t' h2];rfl)
  rwa [putSet_of ys t' h2]at q
 have hs1:=YAh s.heap a (Obj.putSet e1 t2);have g1:=put (ys:=e1) (t':=t2) ho hd;refine YAA (YCj ho hd ?_ (fits_of_scanBound hb));split
 .have p:=relayAll_perm t2 e1 (SetTable.grown e1.size);have f:=relayAll_fits t2 e1 (SetTable.grown e1.size);have tm:=Zjs (t:=t2) (es:=e1) (n:=SetTable.grown e1.size);have z:(relayAll t2 e1 (SetTable.grown e1.size)).1.size=e1.size:=by rw[<-YAG,p.length_eq,YAG]
  refine YAA (hg _ _ _ (YAA (YCj g1 rfl (YAD ?_) (fits_of_scanBound (by rw[z];exact hb)))));exact h _ _ _ _ (hs1.trans (YAh _ a _)) (put (ob:={ o with data:=.set e1 (ep+1) t2 }) g1 rfl) p f tm.1 tm.2
 .exact YAD (h _ _ _ _ hs1 g1 (.refl _) hf rfl id)
theorem Zid {a:AD}{ls:Q22}{led:Bool}{l:Q11}{tk:Tok}{Q:Bool->AE->Prop}(hS:TxSet prog w s.heap a ls led)(hn:ls.length+1<scanBound)
  (h:∀h' b,Heap.SameBut a s.heap h'->TxSet prog w h' a (addT ls l) led->Q b { s with heap:=h' }):
  wpAny (model prog w) A (setAddHashed a (.str ⟨l.toArray⟩ tk) (keyH w (Sum.inr ⟨l.toArray⟩))) Q E s:=by
 obtain⟨o,es,ep,t,ms,ho,hex,hd,hel,hf,hled,hpl,hp,hv,hb⟩:=hS;have hkey:(Zaz prog w).is (Sum.inr (⟨l.toArray⟩:Str)) (.str ⟨l.toArray⟩ tk)=true:=by exact Zcn prog w _ _
 have hsc:(Value.str ⟨l.toArray⟩ tk).scannable=true:=rfl;have BH:es.size=ls.length:=by have q:=hv.length;rw[YAB,YAB]at q;rw[<-YAG,<-q,hp.length_eq]
 have mem:=Zei (l:=l) hv;have hl:l∈ms↔l∈ls:=hp.mem_iff;unfold setAddHashed setAddHashedIn;refine YBT (YAA (YAy ho hd hf ?_));dsimp only;rw[byScan_of hsc hb hel,YAM rfl];unfold setAddByScan;refine YAA (YAA (YCG (YAA (wpAny_setScan_of (knd:=Zaz prog w) (k:=Sum.inr (⟨l.toArray⟩:Str)) hkey ho hd hf hel ?_))));cases hr:List.findIdx? (fun e=>(Zaz prog w).is (Sum.inr (⟨l.toArray⟩:Str)) e.2) es.toList with
 | some j=>
  dsimp only;obtain⟨hj,hpj,_⟩:=List.findIdx?_eq_some_iff_getElem.mp hr;have hin:l∈ls:=hl.mp (mem.mp ⟨es.toList[j],YCA hj,hpj⟩);refine YAD (YAD ?_);have q:=h s.heap false (YCn a s.heap) (by unfold addT;rw[YAM hin];exact⟨o,es,ep,t,ms,ho,hex,hd,hel,hf,hled,hpl,hp,hv,hb⟩)
  exact q
 | none=>
  dsimp only;have hnin:l∉ls:=fun z=>by obtain⟨e,he,hk⟩:=mem.mpr (hl.mpr z);have q:=List.findIdx?_eq_none_iff.mp hr e he;rw[show (Zaz prog w).is (Sum.inr (⟨l.toArray⟩:Str)) e.2=true from hk]at q;cases q
  have lp:=layNew_perm t es (keyH w (Sum.inr ⟨l.toArray⟩)) (.str ⟨l.toArray⟩ tk);have lf:=layNew_fits t es (keyH w (Sum.inr ⟨l.toArray⟩)) (.str ⟨l.toArray⟩ tk);have lt:=ZmB (t:=t) (es:=es) (h:=keyH w (Sum.inr ⟨l.toArray⟩)) (x:=.str ⟨l.toArray⟩ tk);show wpAny _ A (match layNew t es (keyH w (Sum.inr ⟨l.toArray⟩)) (.str ⟨l.toArray⟩ tk) with | (es,t,wasDummy,gave)=>_) _ _ _;generalize hL:layNew t es (keyH w (Sum.inr ⟨l.toArray⟩)) (.str ⟨l.toArray⟩ tk)=L at lp lf lt ⊢;obtain⟨e1,t1,wd,gave⟩:=L;dsimp only at lp lf lt ⊢;rw[YBe]at lp;have sz1:e1.size=ls.length+1:=by rw[<-YAG,lp.length_eq,YAF,YAG,BH];rfl
  have gw:∀(b:Bool) (s_1:AE) (Q':Unit->AE->Prop),Q' () s_1->wpAny (model prog w) A (match b with | true=>rule "set.scan.the-table-gave-way" | false=>pure ()) Q' E s_1:=
   fun b s_1 Q' hq=>by cases b<;>first | exact YAD hq | exact YCG hq
  refine YAA (gw _ _ _ ?_);have fin:∀(t2:SetTable),t2.fits e1.size=true->t2.led=t1.led->t2.plain=false->∀h' e2 t3 ep',Heap.SameBut a s.heap h'->h'.get? a=some { o with data:=.set e2 ep' t3 }->e2.toList.Perm e1.toList->t3.fits e2.size=true->t3.led=t2.led->(t3.plain=true->t2.plain=true)->Q true { s with heap:=h' }:=by
   intro t2 f2 l2 p2 h' e2 t3 ep' sb hg pm f3 l3 p3;refine h h' true sb ?_;have pall:=pm.trans lp;obtain⟨ms',pm',hv'⟩:=ZbX (us:=(es.toList++[(keyH w (Sum.inr ⟨l.toArray⟩),Value.str ⟨l.toArray⟩ tk)]).map (·.2)) (us':=e2.toList.map (·.2)) (pall.map _) (ms:=ms++[l]) (by rw[YBb,YBb];exact hv.append (.cons ⟨tk,rfl⟩ .nil))
   unfold addT;rw[YAI hnin];refine⟨_,e2,ep',t3,ms',hg,hex,rfl,((hel.push (knd:=Zaz prog w) hkey hsc).perm pall),f3,l3.trans (l2.trans (lt.1.trans hled)),fun z=>by rw[p2]at p3;exact absurd (p3 z) YAC,pm'.trans (hp.append_right [l]),hv',?_⟩;rw[<-YAG,pm.length_eq,YAG,sz1];exact hn
  split
  .refine YAA ?_;rw[hashByValue_scannable 8 hsc];refine YAD ?_;refine ZgC gw ho hd (by rw[sz1];exact hn) ?_ fun h' e2 t3 ep' q1 q2 q3 q4 q5 q6=>?_
   .exact SetTable.fits_plain_off lf
   .exact YAD (fin _ (SetTable.fits_plain_off lf) rfl rfl h' e2 t3 ep' q1 q2 q3 q4 q5 q6)
  .rename_i hnp
   have hnp':t1.plain=false:=by simpa using hnp
   refine YAA (YAD ?_);rw[YAM rfl];refine ZgC gw ho hd (by rw[sz1];exact hn) lf fun h' e2 t3 ep' q1 q2 q3 q4 q5 q6=>YAD (fin _ lf rfl hnp' h' e2 t3 ep' q1 q2 q3 q4 q5 q6)
end
noncomputable def dd (val:Nat->Q11)(i:Nat):Q22:=((List.range i).map val).foldl addT []
theorem Zgp {val:Nat->Q11}{i:Nat}:dd val (i+1)=addT (dd val i) (val i):=by unfold dd;rw[YBr,YBb,List.foldl_append];rfl
theorem Zkx {ls:Q22}{l:Q11}:(addT ls l).length<=ls.length+1:=by
 unfold addT;split
 .omega
 .simp
theorem Zk1 {val:Nat->Q11}:∀i,(dd val i).length<=i
 | 0=>YAS _
 | i+1=>by rw[Zgp];have h1:=Zk1 (val:=val) i;have h2:=Zkx (ls:=dd val i) (l:=val i);omega
theorem ZcK {val:Nat->Q11}:∀i,(dd val i).Nodup
 | 0=>by simp[dd]
 | i+1=>by
  rw[Zgp];unfold addT;split
  .exact ZcK i
  .rename_i h
   rw[YBx];refine⟨ZcK i,by simp,?_⟩;intro a ha b hb e;have:b=val i:=by simpa using hb
   subst e this;exact h ha
section
variable {prog:AG}{w:AI}{A:AH}{R:Result->AE->Prop}{I:AD}{fp wr:List AD}{G:Array GenState->Array GenState->Prop}{n:Nat}{Pi:Nat->Value->Prop}{St:Nat->AE->Prop}
theorem ZjA (W:WalksS prog w A.in1 I fp wr G n Pi St)(S:AD)(hSf:S∉fp)(val:Nat->Q11)(hval:∀i v,Pi i v->∃t,v=.str ⟨(val i).toArray⟩ t)(hb:n+1<scanBound){led:Bool}:
  ∀(k i:Nat) (s:AE),n-i=k->i<=n->St i s->TxSet prog w s.heap S (dd val i) led->(∀s',Moved (S::wr) G s s'->TxSet prog w s'.heap S (dd val n) led->R (.ok (.ret .none)) s') ->
   codeAny (model prog w) A (.builtin "set.update.loop" ⟨[.ref S,.ref I],[]⟩) R s:=by
 have nw:S∉wr:=fun h=>hSf (W.sub _ h);have up:∀b∈wr,b∈S::wr:=fun b hb=>YAP _ hb;intro k;induction k with
 | zero=>
  intro i s hk hi st hS hR;have e:i=n:=by omega
  subst e;refine codeAny_builtin F.entry_set_update_loop ?_;rw[YCr F.plain_set_update_loop _];show wpAny _ A.in1 (pyNext (.ref I) >>= fun r=>_) _ _ s;refine YAA (W.done s _ _ st fun s' hm=>?_);exact YAD (hR s' (hm.mono up) (hS.keep fun o e=>hm.heap S o nw e))
 | succ k ih=>
  intro i s hk hi st hS hR;have BP:i<n:=by omega
  refine codeAny_builtin F.entry_set_update_loop ?_;rw[YCr F.plain_set_update_loop _];show wpAny _ A.in1 (pyNext (.ref I) >>= fun r=>_) _ _ s;refine YAA (W.item i s _ _ BP st fun v s1 hP st1 hm=>?_);obtain⟨tk,rfl⟩:=hval i v hP;have hS1:TxSet prog w s1.heap S (dd val i) led:=hS.keep fun o e=>hm.heap S o nw e;show wpAny _ A.in1 (holding [Value.str ⟨(val i).toArray⟩ tk] (setAdd S (.str ⟨(val i).toArray⟩ tk)) >>= fun _=>_) _ _ s1;refine YAA (YBT ?_);unfold setAdd;refine YBT (YAA (wpAny_pyHash_str ?_));refine Zid (s:={ s1 with toks:=s1.toks+1 }) (l:=val i) hS1 (by have:=Zk1 (val:=val) i;omega) fun h' b sb hS2=>?_;rw[<-Zgp]at hS2;refine YAD ⟨plainId_quiet F.plain_set_update_loop _,ih (i+1) _ (by omega) BP (W.frame _ s1 _ _ st1 (YDK _) fun b hb o e=>(sb.2 b fun z=>hSf (z▸hb)).trans e) hS2 fun s2 hm2 hS3=>?_⟩;exact hR s2 (Moved.trans W.gtrans ((hm.mono up).then_heap (YDK _) fun b o hb e=>(sb.2 b fun z=>hb (z▸YAY)).trans e) hm2) hS3
end
theorem Zej {i:Nat}{u:Value}:∀ {vs:List V} {us:AC} ,Vals vs us->us[i]?=some u->∃v,vs[i]?=some v/\RelV v u:=by
 induction i with
 | zero=>
  intro vs us r e;cases r with
  | nil=>cases e
  | cons r1 _=>cases e;exact⟨_,rfl,r1⟩
 | succ i ih=>
  intro vs us r e;cases r with
  | nil=>cases e
  | cons _ r2=>exact ih r2 e
structure Walked (prog:AG)(w:AI)(x:Value)(s:AE)(T:String)(n:Nat)(val:Nat->Q11):Prop where
 ty:∀s1:AE,(∀b o,s.heap.get? b=some o->s1.heap.get? b=some o)->s1.TypeIs x T
 go:∀(A:AH) (s1:AE) (Q:Q33) (E:Q33),A.handled=none->(∀b o,s.heap.get? b=some o->s1.heap.get? b=some o) ->
  (∀(h2:Heap) (I:AD) (fp wr:List AD) (Pi:Nat->Value->Prop) (St:Nat->Heap->Prop),(∀A':AH,A'.handled=none->Walks prog w A' I fp wr n Pi St)->St 0 h2 ->
   (∀b∈fp,b<s.heap.objs.size\/s1.heap.objs.size<=b)->(∀b∈wr,s1.heap.objs.size<=b)->(∀b o,s1.heap.get? b=some o->h2.get? b=some o)->(∀i v,Pi i v->∃t,v=.str ⟨(val i).toArray⟩ t)->Q (.ref I) { s1 with heap:=h2 }) ->
  wpAny (model prog w) A (pyIter x) Q E s1
theorem Zf0 {prog:AG}{w:AI}{s:AE}{l:AD}{us:AC}{ls:Q22}(hl:s.heap.IsList l us.toArray)(r:Vals (ls.map tx) us):Walked prog w (.ref l) s "list" ls.length (fun i=>ls.getD i []) where
 ty:=fun s1 k=>by obtain⟨o,ho,hc,_⟩:=hl;exact⟨o,k _ _ ho,hc⟩
 go:=fun A s1 Q E hh k h=>by
  obtain⟨o,ho,hc,hr⟩:=id hl;have hl1:s1.heap.IsList l us.toArray:=⟨o,k _ _ ho,hc,hr⟩;have BP:=YAN ho;have hlt1:=YAN (k _ _ ho);have BH:us.toArray.size=ls.length:=by rw[YAJ,<-r.length,YAB]
  refine wpAny_pyIter_list hl1 ?_;have W:∀A':AH,A'.handled=none->Walks prog w A' s1.heap.objs.size [s1.heap.objs.size,l] [s1.heap.objs.size] ls.length (fun i v=>us.toArray[i]?=some v) (fun i h=>h.IsListIter s1.heap.objs.size l i/\h.IsList l us.toArray):=fun A' hA=>by
   have q:=Walks.list (prog:=prog) (w:=w) hA s1.heap.objs.size l (YAf hlt1) us.toArray
   rwa [BH]at q
  refine h _ _ _ _ _ _ W ⟨⟨_,YAU _ rfl,rfl,rfl⟩,hl1.push _⟩ (fun b hb=>?_) (fun b hb=>?_) (fun b o e=>YAE _ e) (fun i v e=>?_)
  .rcases YAT.mp hb with z | z
   .exact .inr (YCU z.symm)
   .have z:b=l:=by simpa using z
    rw[z];exact .inl BP
  .have z:b=s1.heap.objs.size:=by simpa using hb
   exact YCU z.symm
  .have e':us[i]?=some v:=by simpa using e
   obtain⟨v',hv',rv⟩:=Zej r e';rw[YAc]at hv';cases q:ls[i]? with
   | none=>rw[q]at hv';cases hv'
   | some m=>
    rw[q]at hv';cases hv';obtain⟨t,rfl⟩:=rv;exact⟨t,by rw[YAR,q];rfl⟩
theorem ZfZ {prog:AG}{w:AI}{s:AE}{l:Q11}{t:Tok}:Walked prog w (.str ⟨l.toArray⟩ t) s "str" l.length (fun i=>[l.getD i 0]) where
 ty:=fun s1 _=>typeIs_str s1 _ _
 go:=fun A s1 Q E hh k h=>by
  have BH:(⟨l.toArray⟩:Str).cps.size=l.length:=by show l.toArray.size=_;simp
  have item:∀(i:Nat) (v:Value),(∃c u,(⟨l.toArray⟩:Str).cps[i]?=some c/\v=.str ⟨#[c]⟩ u)->∃t,v=.str ⟨[l.getD i 0].toArray⟩ t:=by
   rintro i v ⟨c,u,e,rfl⟩;have e':l[i]?=some c:=by simpa using e
   exact⟨u,by rw[YAR,e'];rfl⟩
  refine wpAny_pyIter_str fun o St W st=>?_;rw[BH]at W;refine h _ _ _ _ _ _ W st (fun b hb=>.inr ?_) (fun b hb=>?_) (fun b o e=>YAE _ e) (fun i v ⟨c,u,e,e2⟩=>item i v ⟨c,u,e,e2⟩)
  .have z:b=s1.heap.objs.size:=by simpa using hb
   exact YCU z.symm
  .have z:b=s1.heap.objs.size:=by simpa using hb
   exact YCU z.symm
section
variable {prog:AG}{w:AI}{A:AH}{E:Q33}{s:AE}
noncomputable abbrev ZbV (led:Bool):Obj:={ cls:=.type "set",dict:=none,data:=.set #[] 0 (.fresh 0 0 led) }
theorem ZeZ {h:Heap}{a:AD}{led:Bool}(ho:h.get? a=some (ZbV led)):TxSet prog w h a [] led:=
 ⟨_,#[],0,_,[],ho,⟨rfl,rfl,rfl⟩,rfl,fun e he=>by simp at he,rfl,rfl,fun _=>rfl,.refl _,.nil,by show 0<4096;decide⟩
noncomputable def ZaK (w:AI):Bool:=w.params.followText "set-order"
theorem Zll (a:Value){Q₁:Q33}(h:Q₁ (.ref s.heap.objs.size) { s with heap:=s.heap.push (ZbV (!ZaK w)) }):
  codeAny (model prog w) A (.call (.builtin "set.__new__") ⟨[.type "set",a],[]⟩) (wants Q₁ E) s:=by
 refine codeAny_of_tree ?_;show wpAny _ A.in1 (checkBuiltinCall "set.__new__" ⟨[.type "set",a],[]⟩ >>= fun _=>again (.builtin "set.__new__" ⟨[.type "set",a],[]⟩)) _ _ s;refine YAA (wpAny_of_eq (F.newCall_set_1 a) (YAD ⟨plainId_quiet F.plain_set_new _,codeAny_builtin F.entry_set_new ?_⟩));rw[YCr F.plain_set_new _];unfold Builtin.«set.__new__» Builtin.Frozenset.newClass;have hsub:=sub_set_self;obtain⟨hp,g,d,tk,os⟩:=s;dsimp only
 wp_walk
 refine YBt (YAD ?_);dsimp only;simp only[newObj];exact YAA (wpAny_alloc (YAD (YAD h)))
set_option maxHeartbeats 3200000 in
theorem ZgD {x:Value} {T:String} {n:Nat} {val:Nat->Q11} {Q:Q33} (hh:A.handled=none) (W:Walked prog w x s T n val) (t1:isSubtype (.type T) (.type "set")=pure false) (t2:isSubtype (.type T) (.type "frozenset")=pure false)
  (t3:(Value.type T == Value.type "dict")=false) (hb:n+1<scanBound)
  (h:∀(h':Heap) (tk:Nat),TxSet prog w h' s.heap.objs.size (dd val n) (!ZaK w)->(∀b o,s.heap.get? b=some o->h'.get? b=some o)->s.toks<=tk->Q (.ref s.heap.objs.size) { s with heap:=h',toks:=tk }):
  wpAny (model prog w) A (call (.type "set") [x]) Q E s:=by
 obtain⟨c,tl,hmro⟩:=F.called_set.mro;have hmade:=F.called_set.made;have hsub:=F.called_set.sub;refine YCx (codeAny_of_tree ?_);show wpAny _ _ (callAny (.type "set") _) _ _ _;refine YAD ⟨Code.quiet_builtin _ (by decide +kernel),codeAny_builtin F.entry_type_call ?_⟩;rw[Around.under_plain (weight_type_call_type "set" [x] []) rfl];have h1:=F.called_set.notType;have h2:=F.called_set.canCreate;have hct:=F.typeCall_set_1 x;repeat (any_goals (first | assumption | wp_step))
 refine codeAny_mono (Zll x (E:=E) (Q₁:=fun ob s_1=>ob=.ref s.heap.objs.size/\s_1={ s with heap:=s.heap.push (ZbV (!ZaK w)) }) ⟨rfl,rfl⟩) fun r s_1 hr=>?_;cases r with
 | error e=>exact hr
 | ok fl=>
  cases fl with
  | ret ob=>
   obtain⟨rfl,rfl⟩:=hr;have hS:(s.heap.push (ZbV (!ZaK w))).get? s.heap.objs.size=some (ZbV (!ZaK w)):=YAU _ rfl;have hT:Shared.TypeIs { s with heap:=s.heap.push (ZbV (!ZaK w)) } (.ref s.heap.objs.size) "set":=⟨_,hS,rfl⟩;have hli:=F.called_set.init.lookup;have hbi:=F.called_set.init.bind (.ref s.heap.objs.size);have keep1:∀b o,s.heap.get? b=some o->(s.heap.push (ZbV (!ZaK w))).get? b=some o:=fun b o e=>YAE _ e;repeat (any_goals (first | assumption | wp_step))
   refine codeAny_mono (codeAny_call_builtin (R:=wants (fun r s_2=>r=.none/\∃h' tk,s_2={ s with heap:=h',toks:=tk }/\TxSet prog w h' s.heap.objs.size (dd val n) (!ZaK w)/\(∀b o,s.heap.get? b=some o->h'.get? b=some o)/\s.toks<=tk) E)
    F.called_set.init.plain F.entry_set_init (check_set_init_1 hT ?_)) fun r9 s_2 hr9=>?_
   .have hTx:=W.ty { s with heap:=s.heap.push (ZbV (!ZaK w)) } keep1;unfold Builtin.«set.__init__» noKeywords Builtin.Frozenset.updateFrom;generalize hPI:pyIter=PI
    wp_walk
    subst hPI;refine W.go _ _ _ _ (by simp[hh]) keep1 fun h2 I fp wr Pi St Wk st f1 f2 k2 hval=>?_;refine YAA (wpAny_runValue ?_);have hSf:s.heap.objs.size∉fp:=fun z=>by
     rcases f1 _ z with q | q
     .exact YBA _ q
     .rw[YBh]at q;exact absurd q (Nat.not_succ_le_self _)
    refine ZjA ((Wk A.in1.in1.in1 (by simp[hh])).toS) s.heap.objs.size hSf val hval hb (n-0) 0 _ (by omega) (YAv _) st (ZeZ (k2 _ _ hS)) fun s' hm hS'=>?_;obtain⟨h',g',d',tk',os'⟩:=s';have eg:g'=s.gens:=hm.gens;have ed:d'=s.drawn:=hm.drawn;have eo:os'=s.os:=hm.os;have et:s.toks<=tk':=hm.toks;subst eg ed eo;refine YAD ?_;refine YAD ⟨rfl,h',tk',rfl,hS',fun b o e=>?_,et⟩;have BP:=YAN e;refine hm.heap b o (fun z=>?_) (k2 b o (keep1 b o e));rcases YAT.mp z with q | q
    .rw[q]at BP;exact YBA _ BP
    .have q2:=f2 b q;rw[YBh]at q2;exact absurd (YAk BP (Nat.le_of_succ_le q2)) (YBA _)
   .cases r9 with
    | error e=>exact hr9
    | ok fl9=>
     cases fl9 with
     | ret r=>
      obtain⟨rfl,h',tk,rfl,hS',hk',htk⟩:=hr9;repeat (any_goals (first | assumption | wp_step))
      exact h _ _ hS' hk' htk
     | _=>exact hr9.elim
  | _=>exact hr.elim
end
theorem Zcc {α:Type}:∀(xs:List α) (i:Nat) (h:i<xs.length),(xs[i]::xs.eraseIdx i).Perm xs
 | x::xs,0,_=>.refl _
 | x::xs,i+1,h=>by
  have hi:i<xs.length:=by simpa using h
  have ih:=Zcc xs i hi;show (xs[i]::x::xs.eraseIdx i).Perm (x::xs);exact(List.Perm.swap _ _ _).trans (ih.cons x)
section
variable {M:Model}{A:AH}{E:Q33}{s:AE}
theorem wp_choose' {src:Source}{n:Nat}{Q:Nat->AE->Prop}(hn:n≠0)(h:∀i d,i<n->Q i { s with drawn:=d }):wpAny M A (choose src n) Q E s:=fun Γ p hΓ=>by unfold choose;rw[Sem.wp_choose];exact⟨hn,h _ _ (Nat.mod_lt _ (Nat.pos_of_ne_zero hn))⟩
theorem ZcX {α:Type}:∀(n:Nat) (xs:List α) (s:AE) (Q:List α->AE->Prop),xs.length=n->(∀ys d,ys.Perm xs->Q ys { s with drawn:=d })->wpAny M A (drawOrder n xs) Q E s
 | 0,xs,s,Q,hl,h=>by
  have e:xs=[]:=YDV hl;subst e;unfold drawOrder;exact YAD (h [] s.drawn (.refl _))
 | n+1,[],s,Q,hl,h=>by cases hl
 | n+1,x::xs,s,Q,hl,h=>by
  unfold drawOrder;refine YAA (wp_choose' (by simp) fun i d hi=>?_);have e:(x::xs)[i]?=some (x::xs)[i]:=YAH hi;rw[e];dsimp only;refine YAA (ZcX n ((x::xs).eraseIdx i) _ _ ?_ fun ys d' p=>YAD ?_)
  .rw[YCJ hi,hl];rfl
  .refine h _ d' ((List.Perm.cons _ p).trans ?_);exact Zcc _ _ hi
end
theorem ZdQ:entryFor table "set.__iter__"=some Builtin.«frozenset.__iter__»:=entryFor_alias (id':="frozenset.__iter__") (by kernel_rfl) rfl (by decide +kernel) (by kernel_rfl)
theorem ZaC:Slot "set_iterator" "__next__" "set_iterator.__next__":=
 .of (owner:="set_iterator") (n:="__next__") (by rw[typeLookup_type,builtinLookup_eq_fast];kernel_rfl) (by decide +kernel) (by decide +kernel) (by decide +kernel)
  (by first | exact .inl (by decide +kernel) | exact .inr (by decide +kernel)) (by rw[isSubtype_type];kernel_rfl)
theorem ZbH:entryFor table "set_iterator.__next__"=some Builtin.«set_iterator.__next__»:=entryFor_of_fast (by kernel_rfl)
theorem ZbP (a:Value):argsOk "set_iterator.__next__" ⟨[a],[]⟩:=by unfold argsOk;kernel_rfl
section
variable {prog:AG}{w:AI}{A:AH}{E:Q33}{s:AE}
def SetIt (h:Heap)(I S:AD)(first:Value)(i n ep:Nat):Prop:=∃o,h.get? I=some o/\o.cls=.type "set_iterator"/\o.data=.fields #[first,.int i 0,.ref S,.int n 0,.int ep 0]
theorem Zl9 {t:SetTable}{n:Nat}(hf:t.fits n=true):(t.place.size != n || decide (t.fill>t.mask))=false:=by simp only[SetTable.fits,YAQ,beq_iff_eq,decide_eq_true_eq]at hf;simp[hf.1,Nat.not_lt.mpr hf.2]
theorem Zkb {S:AD}{o:Obj}{es:Array (Int×Value)}{ep:Nat}{t:SetTable}{Q:Q33}(ho:s.heap.get? S=some o)(hex:o.ExactSet)(hd:o.data=.set es ep t)(hf:t.fits es.size=true)(hz:es.size<=sizeLine)
  (h0:(ZaK w=true\/(t.plain=true\/es.size<=1))->Q (.ref s.heap.objs.size) { s with heap:=s.heap.push { cls:=.type "set_iterator",data:=.fields #[.int 0 0,.int 0 0,.ref S,.int es.size 0,.int ep 0] } })
  (h1:∀(ps:Q11) (d:Drawn),ps.Perm (List.range es.size)->Q (.ref (s.heap.objs.size+1)) { s with drawn:=d,heap:=(Heap.push s.heap { cls:=.type "tuple",data:=.seq (ps.map (fun i=>Value.int ((i:Nat):Int) 0)).toArray }).push { cls:=.type "set_iterator",data:=.fields #[.ref s.heap.objs.size,.int 0 0,.ref S,.int es.size 0,.int ep 0] } }):wpAny (model prog w) A (pyIter (.ref S)) Q E s:=by
 have hT:s.TypeIs (.ref S) "set":=⟨o,ho,hex.1⟩;refine wpAny_pyIter_slot hT F.slot_set_iter (YCX F.slot_set_iter hT ZdQ ?_ (F.args_set_iter_1 _));unfold Builtin.«frozenset.__iter__» Builtin.Frozenset.sizeOf setDrawn setsByText
 wp_walk
 rw[hd];dsimp only;rw[Zl9 hf];rw[YAI YAC];refine YAD (YAD (YAD ?_));refine YAA (YAA (YAy ho hd hf ?_));dsimp only;refine YAA (YAA (YBt (YAD (YAD ?_))));show wpAny _ _ (if (!ZaK w&&(!t.plain&&decide (es.size>1)))=true then _ else _) _ _ _;split
 .refine YAA (ZcX es.size (List.range es.size) _ _ (by simp) fun ps d p=>?_);refine YAA ?_;simp only[newTuple];refine YBv ?_ (by show (List.map _ ps).toArray.size<=sizeLine;rw[YAJ,YAB,p.length_eq,YBF];exact hz);refine YAA (YDI (YAE _ ho) hd hf (YAA (YBv (YAD ⟨_,rfl,"set_iterator",_,⟨_,YAU _ rfl,rfl⟩,ZaC.lookup,?_⟩))));have q:=h1 ps d p;rw[YBh];exact q
 .rename_i hb
  refine YAA (YAD ?_);refine YAA (YDI ho hd hf (YAA (YBv (YAD ⟨_,rfl,"set_iterator",_,⟨_,YAU _ rfl,rfl⟩,ZaC.lookup,h0 ?_⟩))));cases h:ZaK w with
  | true=>exact .inl rfl
  | false=>
   refine .inr ?_;cases h':t.plain with
   | true=>exact .inl rfl
   | false=>
    rw[h,h']at hb;simp at hb;exact .inr hb
end
section
variable {prog:AG}{w:AI}{A:AH}{E:Q33}{s:AE}{I S:AD}{o:Obj}{es:Array (Int×Value)}{ep i n:Nat}{t:SetTable}
theorem SetIt.typ {first:Value}(h:SetIt s.heap I S first i n ep):s.TypeIs (.ref I) "set_iterator":=let ⟨o,h1,h2,_⟩:=h;⟨o,h1,h2⟩
abbrev Zov (I S:AD)(slot i ep:Nat):Sem PySem.Fin:=do
 match <-setNext S slot i ep with
 | some (x,next)=>do
  setField (.ref I) 0 (rawInt (next:Nat))
  setField (.ref I) 1 (rawInt ((i:Int)+1))
  ret x
 | none=>do
  setField (.ref I) 2 Value.none
  raiseNew (<-newExc (Value.type "StopIteration") [])
abbrev Zmk (I S:AD)(first:Value)(i ep:Nat):Sem PySem.Fin:=do
 match <-seqItems? first with
 | some places=>match places[i]? with
  | some (.int place _)=>do
   let x <-setNextDrawn S place.toNat ep
   setField (.ref I) 1 (rawInt ((i:Int)+1))
   ret x
  | some _=>unsupported "internal:set_iterator"
  | none=>do
   setField (.ref I) 0 (rawInt 0)
   setField (.ref I) 2 Value.none
   raiseNew (<-newExc (Value.type "StopIteration") [])
 | _=>unsupported "internal:set_iterator"
abbrev NxQ (prog:AG)(w:AI)(A:AH)(Q:Option Value->AE->Prop)(E:Q33)(fin:PySem.Fin)(s':AE):Prop:=∃v,fin=Fin.done (Flow.ret v)/\Q (some v) s'
abbrev NxE (prog:AG)(w:AI)(A:AH)(Q:Option Value->AE->Prop)(E:Q33)(e:Value)(s':AE):Prop:=
 wpAny (model prog w) A (do let b <-isInstance e (Value.type "StopIteration");if b=true then pure none else throw e) Q E s'
theorem Zcv {slot:Nat}{Q:Option Value->AE->Prop}(hi:SetIt s.heap I S (.int (slot:Nat) 0) i es.size ep)(ho:s.heap.get? S=some o)(hd:o.data=.set es ep t)(hf:t.fits es.size=true)
  (h:wpAny (model prog w) A.in1 (Zov I S slot i ep) (NxQ prog w A Q E) (NxE prog w A Q E) s):wpAny (model prog w) A (pyNext (.ref I)) Q E s:=by
 obtain⟨oi,hoi,hci,hdi⟩:=id hi;unfold pyNext;refine YAA (YDB (wpAny_callSpecial?_slot (name:=Str.ofString "__next__") hi.typ ZaC (YCX ZaC hi.typ ZbH ?_ (ZbP _))));unfold Builtin.«set_iterator.__next__»
 wp_walk
 rw[hdi];dsimp only;refine YAD ?_;dsimp only;refine YAA (wpAny_setEntries_of ho hd hf ?_)
 (try dsimp only)
 rw[YAI (by simp)];refine YBB h (fun fin s' q=>?_) fun e s' q=>q;obtain⟨v,rfl,q⟩:=q;exact⟨v,rfl,YAD q⟩
theorem Zd0 {tp:AD}{Q:Option Value->AE->Prop}(hi:SetIt s.heap I S (.ref tp) i es.size ep)(ho:s.heap.get? S=some o)(hd:o.data=.set es ep t)(hf:t.fits es.size=true)
  (h:wpAny (model prog w) A.in1 (Zmk I S (.ref tp) i ep) (NxQ prog w A Q E) (NxE prog w A Q E) s):wpAny (model prog w) A (pyNext (.ref I)) Q E s:=by
 obtain⟨oi,hoi,hci,hdi⟩:=id hi;unfold pyNext;refine YAA (YDB (wpAny_callSpecial?_slot (name:=Str.ofString "__next__") hi.typ ZaC (YCX ZaC hi.typ ZbH ?_ (ZbP _))));unfold Builtin.«set_iterator.__next__»
 wp_walk
 rw[hdi];dsimp only;refine YAD ?_;dsimp only;refine YAA (wpAny_setEntries_of ho hd hf ?_)
 (try dsimp only)
 rw[YAI (by simp)];refine YBB h (fun fin s' q=>?_) fun e s' q=>q;obtain⟨v,rfl,q⟩:=q;exact⟨v,rfl,YAD q⟩
theorem Zf6 {Q:Option Value->AE->Prop}(hh:A.handled=none)(hQ:∀h',(∀b o,s.heap.get? b=some o->h'.get? b=some o)->Q none { s with heap:=h' }):
  wpAny (model prog w) A.in1 (do raiseNew (<-newExc (Value.type "StopIteration") [])) (NxQ prog w A Q E) (NxE prog w A Q E) s:=by
 refine YAA ?_;simp only[newExc,newTuple];refine YAA (YBv ?_ (by size_fits));refine YAA (m:=firstArgMember _ _) (wpAny_of_eq (a:=Value.none) (by first | rfl | (simp only[firstArgMember];rfl)) ?_);refine YBv ?_ (by size_fits);simp only[raiseNew];refine YAA (wpAny_handled ?_);rw[show A.in1.handled=none from hh];refine YAA (YAD (wpAny_throw ?_));refine YAA (wpAny_isInstance (T:="StopIteration") (b:=true) ⟨_,YAU _ rfl,rfl⟩ isSubtype_stop ?_);exact YAD (hQ _ fun b o e=>YAE _ (YAE _ e))
theorem Zd3 {h:Heap} {v:Value} {k:Nat} {oi:Obj} {vs:Array Value} (hoi:h.get? I=some oi) (hci:oi.cls=.type "set_iterator") (hdi:oi.data=.fields vs):
  ∃o',(h.update I (Obj.mapFields (·.setIfInBounds k v))).get? I=some o'/\o'.cls=.type "set_iterator"/\o'.data=.fields (vs.setIfInBounds k v):=
 ⟨_,YBm _ hoi (Obj.isFreed_of_fields (YDD hdi _)),(Obj.cls_mapFields ..).trans hci,YDD hdi _⟩
theorem Zdi {slot:Nat}{Q:Option (Value×Nat)->AE->Prop}(ho:s.heap.get? S=some o)(hd:o.data=.set es ep t)(hf:t.fits es.size=true)(hb:ZaK w=true)
  (h:Q (((pickOrder (w.params.setOrder S ep) es)[i]?).map fun e=>(e.2,slot)) s):wpAny (model prog w) A (setNext S slot i ep) Q E s:=by
 unfold setNext;refine YAA (YAy ho hd hf ?_);dsimp only;unfold setsByText;refine YAA (YAA (YBt (YAD ?_)));show wpAny _ _ (if ZaK w=true then _ else _) _ _ _;rw[hb,YAM rfl,YAI (by simp)];unfold setWalk;refine YAA (YAA (YAy ho hd hf ?_));dsimp only;unfold setsByText;refine YAA (YAA (YBt (YAD ?_)));show wpAny _ _ (if ZaK w=true then _ else _) _ _ _;rw[hb,YAM rfl];exact YAA (YBt (YAD (YAD h)))
theorem Zdj {slot:Nat}{Q:Option (Value×Nat)->AE->Prop}(ho:s.heap.get? S=some o)(hd:o.data=.set es ep t)(hf:t.fits es.size=true)(hb:ZaK w=false)(hl:t.led=true)(h1:es.size<=1)
  (h:Q (match es[SetTable.below t.place slot]?,t.place[SetTable.below t.place slot]? with | some (_,x),some j=>some (x,j+1) | _,_=>none) s):wpAny (model prog w) A (setNext S slot i ep) Q E s:=by
 unfold setNext;refine YAA (YAy ho hd hf ?_);dsimp only;unfold setsByText;refine YAA (YAA (YBt (YAD ?_)));show wpAny _ _ (if ZaK w=true then _ else (if (!t.plain&&decide (es.size>1))=true then _ else _)) _ _ _;have hn:¬es.size>1:=by omega
 rw[hb,YAI YAC,decide_eq_false hn,YBp,YAI YAC];show wpAny _ _ ((if (!t.led&&!es.isEmpty)=true then (do let _ <-(unsupported "set:maker-not-led":Sem Unit);pure ()) else pure ()) >>= fun _=>_) _ _ _;rw[hl,YCP,YBi,YAI YAC];exact YAA (YAD (YAD h))
end
theorem Zfg {α:Type}{next:Nat->Nat}:∀(BN k:Nat) (left:List α) (out:Array α),left.length=BN->(pickOrder.go next BN k left out).toList.Perm (out.toList++left)
 | 0,k,left,out,h=>by
  have e:left=[]:=YDV h;subst e;unfold pickOrder.go;simp
 | BN+1,k,left,out,h=>by
  have BP:next k % left.length<left.length:=Nat.mod_lt _ (by omega)
  unfold pickOrder.go;rw[YAH BP];dsimp only;refine(Zfg BN (k+1) _ _ (by rw[YCJ BP,h];rfl)).trans ?_;rw[YBe,YAm];exact(Zcc left _ BP).append_left _
theorem Zbj {α:Type}{next:Nat->Nat}{xs:Array α}:(pickOrder next xs).toList.Perm xs.toList:=by unfold pickOrder;have:=Zfg (next:=next) xs.size 0 xs.toList #[] (by simp);simpa using this
theorem ZbK:Slot "set_iterator" "__iter__" "set_iterator.__iter__":=
 .of (owner:="set_iterator") (n:="__iter__") (by rw[typeLookup_type,builtinLookup_eq_fast];kernel_rfl) (by decide +kernel) (by decide +kernel) (by decide +kernel) (by first | exact .inl (by decide +kernel) | exact .inr (by decide +kernel)) (by rw[isSubtype_type];kernel_rfl)
theorem ZcF:entryFor table "set_iterator.__iter__"=some Builtin.«dict_keyiterator.__iter__»:=entryFor_alias (id':="dict_keyiterator.__iter__") (by kernel_rfl) rfl (by decide +kernel) (by kernel_rfl)
theorem ZcW (a:Value):argsOk "set_iterator.__iter__" ⟨[a],[]⟩:=by unfold argsOk;kernel_rfl
section
variable {prog:AG}{w:AI}{A:AH}{E:Q33}{s:AE}{I S:AD}{o:Obj}{es:Array (Int×Value)}{ep i n:Nat}{t:SetTable}
theorem ZdB {first:Value}{Q:Q33}(hi:SetIt s.heap I S first i n ep)(h:Q (.ref I) s):wpAny (model prog w) A (pyIter (.ref I)) Q E s:=by refine wpAny_pyIter_slot hi.typ ZbK (YCX ZbK hi.typ ZcF ?_ (ZcW _));show wpAny _ _ (ret (.ref I)) _ _ s;exact YAD ⟨_,rfl,"set_iterator",_,hi.typ,ZaC.lookup,h⟩
theorem Zca {h h':Heap}{o:Obj}(sb:Heap.SameBut I h h')(hne:S≠I)(ho:h.get? S=some o):h'.get? S=some o:=(sb.2 S hne).trans ho
theorem ZhZ (hh:A.handled=none)(hne:S≠I)(hd:o.data=.set es ep t)(hf:t.fits es.size=true)(hb:ZaK w=true):
  Walks prog w A I [I,S] [I] es.size (fun i v=>(((pickOrder (w.params.setOrder S ep) es).toList).map (·.2))[i]?=some v) (fun i h=>SetIt h I S (.int ((0:Nat):Int) 0) i es.size ep/\h.get? S=some o) where
 sub:=fun b hb=>by simp at hb;simp[hb]
 frame:=fun i h h' ⟨⟨oi,h1,r⟩,h2⟩ hk=>⟨⟨oi,hk I (by simp) _ h1,r⟩,hk S (by simp) _ h2⟩
 item:=fun i s Q E hi ⟨st,ho⟩ hQ=>by
  have hl:(pickOrder (w.params.setOrder S ep) es).size=es.size:=by rw[<-YAG,Zbj.length_eq,YAG]
  have he:(pickOrder (w.params.setOrder S ep) es)[i]?=some (pickOrder (w.params.setOrder S ep) es)[i]:=by simp[hl,hi]
  refine Zcv st ho hd hf (YAA (Zdi ho hd hf hb ?_));rw[he];dsimp only[Option.map_some];obtain⟨oi,g1,g2,g3⟩:=id st;refine YAA (YBn g1 g3 (by simp) ?_);obtain⟨o1,k1,k2,k3⟩:=Zd3 (v:=rawInt ((0:Nat):Int)) (k:=0) g1 g2 g3;refine YAA (YBn k1 k3 (by simp) ?_);obtain⟨o2,m1,m2,m3⟩:=Zd3 (v:=rawInt ((i:Int)+1)) (k:=1) k1 k2 k3;have sb:=(YAh s.heap I (Obj.mapFields (·.setIfInBounds 0 (rawInt ((0:Nat):Int))))).trans (YAh _ I (Obj.mapFields (·.setIfInBounds 1 (rawInt ((i:Int)+1)))));refine YAD ⟨_,rfl,hQ _ _ s.toks ?_ ⟨⟨o2,m1,m2,?_⟩,Zca sb hne ho⟩ fun b o hb e=>(sb.2 b (by simpa using hb)).trans e⟩
  .rw[YAc,YAl,he];rfl
  .rw[m3];simp[rawInt]
 done:=fun s Q E ⟨st,ho⟩ hQ=>by
  have hl:(pickOrder (w.params.setOrder S ep) es).size=es.size:=by rw[<-YAG,Zbj.length_eq,YAG]
  have he:(pickOrder (w.params.setOrder S ep) es)[es.size]?=none:=by simp[hl]
  refine Zcv st ho hd hf (YAA (Zdi ho hd hf hb ?_));rw[he];dsimp only[Option.map_none];obtain⟨oi,g1,g2,g3⟩:=id st;refine YAA (YBn g1 g3 (by simp) ?_);have sb:=YAh s.heap I (Obj.mapFields (·.setIfInBounds 2 Value.none));exact Zf6 (A:=A) hh fun h' k=>hQ h' s.toks fun b o hb e=>k b o ((sb.2 b (by simpa using hb)).trans e)
 self:=fun i s Q E ⟨st,_⟩ hQ=>ZdB st hQ
noncomputable def ZcT (t:SetTable)(i:Nat):Nat:=if i=0 then 0 else t.place.getD 0 0+1
theorem ZhX {xs:Array Nat}:SetTable.below xs 0=0:=by
 unfold SetTable.below;have all:∀BN hi,SetTable.below.go xs 0 BN 0 hi=0:=by
  intro BN;induction BN with
  | zero=>intro hi;unfold SetTable.below.go;rfl
  | succ f ih=>
   intro hi;unfold SetTable.below.go;split
   .rw[YAI (Nat.not_lt_zero _)];exact ih _
   .rfl
 exact all _ _
theorem Zjl {j:Nat}:SetTable.below #[j] (j+1)=1:=by unfold SetTable.below;show SetTable.below.go #[j] (j+1) 1 0 1=1;unfold SetTable.below.go;simp[SetTable.below.go]
theorem Znv {xs:Array Nat}(h:xs.size=1):∃j,xs=#[j]:=by
 obtain⟨l⟩:=xs
 match l,h with
 | [j],_=>exact⟨j,rfl⟩
theorem Zh0 (hh:A.handled=none)(hne:S≠I)(hd:o.data=.set es ep t)(hf:t.fits es.size=true)(hb:ZaK w=false)(hl:t.led=true)(h1:es.size<=1):
  Walks prog w A I [I,S] [I] es.size (fun i v=>(es.toList.map (·.2))[i]?=some v) (fun i h=>SetIt h I S (.int ((ZcT t i:Nat):Int) 0) i es.size ep/\h.get? S=some o) where
 sub:=fun b hb=>by simp at hb;simp[hb]
 frame:=fun i h h' ⟨⟨oi,h1,r⟩,h2⟩ hk=>⟨⟨oi,hk I (by simp) _ h1,r⟩,hk S (by simp) _ h2⟩
 item:=fun i s Q E hi ⟨st,ho⟩ hQ=>by
  have i0:i=0:=by omega
  subst i0;have ps:t.place.size=es.size:=by have:=hf;simp only[SetTable.fits,YAQ,beq_iff_eq]at this;exact this.1
  have he:es[0]?=some es[0]:=by simp[hi]
  have hp:t.place[0]?=some (t.place.getD 0 0):=by
   have:0<t.place.size:=by omega
   simp[this]
  refine Zcv st ho hd hf (YAA (Zdj ho hd hf hb hl h1 ?_));rw[show ZcT t 0=0 from rfl,ZhX,he,hp];dsimp only;obtain⟨oi,g1,g2,g3⟩:=id st;refine YAA (YBn g1 g3 (by simp) ?_);obtain⟨o1,k1,k2,k3⟩:=Zd3 (v:=rawInt ((t.place.getD 0 0+1:Nat):Int)) (k:=0) g1 g2 g3;refine YAA (YBn k1 k3 (by simp) ?_);obtain⟨o2,m1,m2,m3⟩:=Zd3 (v:=rawInt (((0:Nat):Int)+1)) (k:=1) k1 k2 k3;have sb:=(YAh s.heap I (Obj.mapFields (·.setIfInBounds 0 (rawInt ((t.place.getD 0 0+1:Nat):Int))))).trans (YAh _ I (Obj.mapFields (·.setIfInBounds 1 (rawInt (((0:Nat):Int)+1)))));refine YAD ⟨_,rfl,hQ _ _ s.toks ?_ ⟨⟨o2,m1,m2,?_⟩,Zca sb hne ho⟩ fun b o hb e=>(sb.2 b (by simpa using hb)).trans e⟩
  .rw[YAc,YAl,he];rfl
  .rw[m3];simp[rawInt,ZcT]
 done:=fun s Q E ⟨st,ho⟩ hQ=>by
  have ps:t.place.size=es.size:=by have:=hf;simp only[SetTable.fits,YAQ,beq_iff_eq]at this;exact this.1
  have hn:es[SetTable.below t.place (ZcT t es.size)]?=none:=by
   have hz:es.size=0\/es.size=1:=by omega
   rcases hz with z | z
   .simp[z]
   .have e1:∃j,t.place=#[j]:=by
     have:t.place.size=1:=by omega
     exact Znv this
    obtain⟨j,ej⟩:=e1;have:ZcT t es.size=j+1:=by unfold ZcT;rw[YAI (by omega),ej];rfl
    rw[this,ej,Zjl];simp[z]
  refine Zcv st ho hd hf (YAA (Zdj ho hd hf hb hl h1 ?_));rw[hn];dsimp only;obtain⟨oi,g1,g2,g3⟩:=id st;refine YAA (YBn g1 g3 (by simp) ?_);have sb:=YAh s.heap I (Obj.mapFields (·.setIfInBounds 2 Value.none));exact Zf6 (A:=A) hh fun h' k=>hQ h' s.toks fun b o hb e=>k b o ((sb.2 b (by simpa using hb)).trans e)
 self:=fun i s Q E ⟨st,_⟩ hQ=>ZdB st hQ
theorem ZhE {p:Nat}{e:Int×Value}{Q:Q33}(ho:s.heap.get? S=some o)(hd:o.data=.set es ep t)(hf:t.fits es.size=true)(he:es[p]?=some e)(h:Q e.2 s):wpAny (model prog w) A (setNextDrawn S p ep) Q E s:=by unfold setNextDrawn;refine YAA (YAy ho hd hf ?_);dsimp only;rw[YAI (by simp),he];exact YAD h
theorem ZfY {tp:AD}{ps:Q11}(hh:A.handled=none)(hne:S≠I)(hnt:tp≠I)(hd:o.data=.set es ep t)(hf:t.fits es.size=true)(hp:ps.Perm (List.range es.size)):
  Walks prog w A I [I,S,tp] [I] es.size (fun i v=>(ps.map fun p=>(es.getD p (0,.none)).2)[i]?=some v) (fun i h=>SetIt h I S (.ref tp) i es.size ep/\h.get? S=some o/\h.get? tp=some { cls:=.type "tuple",data:=.seq (ps.map (fun i=>Value.int ((i:Nat):Int) 0)).toArray }) where
 sub:=fun b hb=>by simp at hb;simp[hb]
 frame:=fun i h h' ⟨⟨oi,h1,r⟩,h2,h3⟩ hk=>⟨⟨oi,hk I (by simp) _ h1,r⟩,hk S (by simp) _ h2,hk tp (by simp) _ h3⟩
 item:=fun i s Q E hi ⟨st,ho,ht⟩ hQ=>by
  have hl:ps.length=es.size:=by rw[hp.length_eq,YBF]
  have hi':i<ps.length:=by omega
  have hpi:ps[i]?=some ps[i]:=YAH hi';have BP:ps[i]<es.size:=YAn.mp (hp.mem_iff.mp (YCA hi'));have he:es[ps[i]]?=some es[ps[i]]:=by simp[BP]
  refine Zd0 st ho hd hf (YAA (wpAny_seqItems ht rfl ?_));dsimp only;have hx:((ps.map (fun i=>Value.int ((i:Nat):Int) 0)).toArray)[i]?=some (Value.int ((ps[i]:Nat):Int) 0):=by simp[hpi]
  rw[hx];dsimp only;refine YAA (ZhE ho hd hf he ?_);obtain⟨oi,g1,g2,g3⟩:=id st;refine YAA (YBn g1 g3 (by simp) ?_);obtain⟨o2,m1,m2,m3⟩:=Zd3 (v:=rawInt ((i:Int)+1)) (k:=1) g1 g2 g3;have sb:=YAh s.heap I (Obj.mapFields (·.setIfInBounds 1 (rawInt ((i:Int)+1))));refine YAD ⟨_,rfl,hQ _ _ s.toks ?_ ⟨⟨o2,m1,m2,?_⟩,Zca sb hne ho,Zca sb hnt ht⟩ fun b o hb e=>(sb.2 b (by simpa using hb)).trans e⟩
  .rw[YAc,hpi];simp[BP]
  .rw[m3];simp[rawInt]
 done:=fun s Q E ⟨st,ho,ht⟩ hQ=>by
  have hl:ps.length=es.size:=by rw[hp.length_eq,YBF]
  refine Zd0 st ho hd hf (YAA (wpAny_seqItems ht rfl ?_));dsimp only;have hx:((ps.map (fun i=>Value.int ((i:Nat):Int) 0)).toArray)[es.size]?=none:=by simp[hl]
  rw[hx];dsimp only;obtain⟨oi,g1,g2,g3⟩:=id st;refine YAA (YBn g1 g3 (by simp) ?_);obtain⟨o1,k1,k2,k3⟩:=Zd3 (v:=rawInt 0) (k:=0) g1 g2 g3;refine YAA (YBn k1 k3 (by simp) ?_);have sb:=(YAh s.heap I (Obj.mapFields (·.setIfInBounds 0 (rawInt 0)))).trans (YAh _ I (Obj.mapFields (·.setIfInBounds 2 Value.none)));exact Zf6 (A:=A) hh fun h' k=>hQ h' s.toks fun b o hb e=>k b o ((sb.2 b (by simpa using hb)).trans e)
 self:=fun i s Q E ⟨st,_⟩ hQ=>ZdB st hQ
end
theorem Zfy:typeLookup (.type "set") "__len__"=pure (some (.builtin "set.__len__")):=by rw[typeLookup_type,builtinLookup_eq_fast];kernel_rfl
section
variable {prog:AG}{w:AI}{A:AH}{E:Q33}{s:AE}
theorem Zhn {es:Array (Int×Value)}{ps:Q11}(hp:ps.Perm (List.range es.size)):(ps.map fun p=>(es.getD p (0,.none)).2).Perm (es.toList.map (·.2)):=by
 have q:=hp.map (fun p=>(es.getD p (0,.none)).2);refine q.trans (.of_eq ?_);apply YCM
 .simp
 .intro n h1 h2;have hn:n<es.size:=by simpa using h2
  simp[hn]
theorem ZhN {S:AD}{ls:Q22}{Q:Q33}(hS:TxSet prog w s.heap S ls (!ZaK w))
  (h:∀(h2:Heap) (d:Drawn) (I:AD) (fp:List AD) (vs:AC) (ms:Q22) (St:Nat->Heap->Prop),(∀A':AH,A'.handled=none->Walks prog w A' I fp [I] ls.length (fun i v=>vs[i]?=some v) St)->St 0 h2 ->
   (∀b∈fp,b=S\/s.heap.objs.size<=b)->s.heap.objs.size<=I->(∀b o,s.heap.get? b=some o->h2.get? b=some o)->ms.Perm ls->Vals (ms.map tx) vs->Q (.ref I) { s with heap:=h2,drawn:=d }):
  wpAny (model prog w) A (pyIter (.ref S)) Q E s:=by
 obtain⟨o,es,ep,t,ms,ho,hex,hd,hel,hf,hled,hpl,hp,hv,hb⟩:=hS;have BH:es.size=ls.length:=by have q:=hv.length;rw[YAB,YAB]at q;rw[<-YAG,<-q,hp.length_eq]
 have BP:=YAN ho;refine Zkb ho hex hd hf (fits_of_scanBound hb) (fun hc=>?_) fun ps d pp=>?_
 .have nI:S≠s.heap.objs.size:=YAf BP;have st:(s.heap.push ({ cls:=.type "set_iterator",data:=.fields #[.int 0 0,.int 0 0,.ref S,.int es.size 0,.int ep 0] }:Obj)).get? s.heap.objs.size=some { cls:=.type "set_iterator",data:=.fields #[.int 0 0,.int 0 0,.ref S,.int es.size 0,.int ep 0] }:=YAU _ rfl;have fp:∀b∈[s.heap.objs.size,S],b=S\/s.heap.objs.size<=b:=fun b hb=>by
   rcases YAT.mp hb with z | z
   .exact .inr (YCU z.symm)
   .exact .inl (by simpa using z)
  cases hby:ZaK w with
  | true=>
   obtain⟨ms',p',r'⟩:=ZbX ((Zbj (next:=w.params.setOrder S ep) (xs:=es)).map (·.2)) hv;have W:∀A':AH,A'.handled=none->_:=fun A' hA=>ZhZ (prog:=prog) (w:=w) (A:=A') (I:=s.heap.objs.size) (S:=S) (o:=o) hA nI hd hf hby;rw[BH]at W;exact h _ s.drawn _ _ _ ms' _ W ⟨⟨_,st,rfl,by rw[BH];rfl⟩,YAE _ ho⟩ fp (YAS _) (fun b o e=>YAE _ e) (p'.trans hp) r'
  | false=>
   have h1:es.size<=1:=by
    rcases hc with z | z | z
    .rw[hby]at z;cases z
    .rw[hpl z];exact YAv _
    .exact z
   have hl:t.led=true:=by rw[hled,hby];rfl
   have W:∀A':AH,A'.handled=none->_:=fun A' hA=>Zh0 (prog:=prog) (w:=w) (A:=A') (I:=s.heap.objs.size) (S:=S) (o:=o) hA nI hd hf hby hl h1;rw[BH]at W;exact h _ s.drawn _ _ _ ms _ W ⟨⟨_,st,rfl,by rw[BH];rfl⟩,YAE _ ho⟩ fp (YAS _) (fun b o e=>YAE _ e) hp hv
 .have nI:S≠s.heap.objs.size+1:=YAf (YDJ BP);have nT:s.heap.objs.size≠s.heap.objs.size+1:=YAf (Nat.lt_succ_self _);obtain⟨ms',p',r'⟩:=ZbX (Zhn pp) hv;have W:∀A':AH,A'.handled=none->_:=fun A' hA=>ZfY (prog:=prog) (w:=w) (A:=A') (I:=s.heap.objs.size+1) (S:=S) (o:=o) (tp:=s.heap.objs.size) hA nI nT hd hf pp;rw[BH]at W;refine h _ d _ _ _ ms' _ W ⟨⟨{ cls:=.type "set_iterator",data:=.fields #[.ref s.heap.objs.size,.int 0 0,.ref S,.int es.size 0,.int ep 0] },?_,rfl,by rw[BH];rfl⟩,YAE _ (YAE _ ho),YAE _ (YAU _ rfl)⟩ ?_ (YDK _) (fun b o e=>YAE _ (YAE _ e)) (p'.trans hp) r'
  .rw[<-YBh];exact YAU _ rfl
  .intro b hb;rcases YAT.mp hb with z | z
   .exact .inr (by rw[z];exact YDK _)
   .rcases YAT.mp z with z | z
    .exact .inl z
    .have z:b=s.heap.objs.size:=by simpa using z
     exact .inr (YCU z.symm)
theorem ZdI {S:AD}{ls:Q22}{Q:AC->AE->Prop}(hh:A.handled=none)(hS:TxSet prog w s.heap S ls (!ZaK w))(hn:ls.length<=sizeLine)
  (hQ:∀(s':AE) (vs:AC) (ms:Q22),(∀b o,s.heap.get? b=some o->s'.heap.get? b=some o)->s'.gens=s.gens->s'.os=s.os->ms.Perm ls->Vals (ms.map tx) vs->Q vs s'):wpAny (model prog w) A (collect (.ref S)) Q E s:=by
 unfold collect;refine YAA (wpAny_runValue (codeAny_builtin F.entry_proto_collect ?_));rw[YCr F.plain_proto_collect _];show wpAny _ A.in1 (newList [] >>= fun l=>again (.builtin "list.__iadd__" ⟨[l,.ref S],[]⟩)) _ _ s;refine YAA (YBv (YAD ⟨plainId_quiet F.plain_list_iadd _,codeAny_builtin F.entry_list_iadd ?_⟩));rw[YCr F.plain_list_iadd _];generalize hH:s.heap.push { cls:=.type "list",data:=.seq ([]:AC).toArray }=H;have hHs:H.objs.size=s.heap.objs.size+1:=by rw[<-hH,YBh]
 have hL:H.get? s.heap.objs.size=some { cls:=.type "list",data:=.seq ([]:AC).toArray }:=hH▸YAU _ rfl;have k1:∀b o,s.heap.get? b=some o->H.get? b=some o:=fun b o e=>hH▸YAE _ e;have hS1:TxSet prog w H S ls (!ZaK w):=hS.keep fun o e=>k1 S o e;have hT:Shared.TypeIs { s with heap:=H } (.ref S) "set":=hS1.typ (s:={ s with heap:=H });have nS:S≠s.heap.objs.size:=by obtain⟨o,_,_,_,_,ho,_⟩:=hS;exact YAf (YAN ho)
 show wpAny _ A.in1 (Builtin.List.listExtendWith (.ref s.heap.objs.size) (.ref S) (.ref s.heap.objs.size)) _ _ { s with heap:=H };unfold Builtin.List.listExtendWith;refine YAA (wpAny_typeOf hT ?_);have h1:Builtin.List.listSameRef (.ref s.heap.objs.size) (.ref S)=false:=by simp[Builtin.List.listSameRef,YBM nS]
 have h2:(Value.type "set" == Value.type "list")=false:=by decide
 have h3:(Value.type "set" == Value.type "tuple")=false:=by decide
 simp only[h1,h2,h3,Bool.or_false,YCd,if_false];refine YAA (ZhN (s:={ s with heap:=H }) hS1 fun h2' d I fp vs ms St W st hfp hI k2 hp hv=>?_);have hT2:Shared.TypeIs { s with heap:=h2',drawn:=d } (.ref S) "set":=(hS1.keep fun o e=>k2 S o e).typ (s:={ s with heap:=h2',drawn:=d });refine YAA (YBT ?_);unfold Builtin.List.listLengthHint;refine YAA (wpAny_specialOf hT2 Zfy ?_)
 wp_delta
 refine YAA (wpAny_isInstance (T:="set") (v:=.ref S) (b:=true) hT2 (by rw[isSubtype_type];kernel_rfl) ?_);show wpAny _ A.in1 (typeOf (Value.ref S) >>= fun r=>_) _ _ _;refine YAA (wpAny_typeOf hT2 ?_);refine YAD ?_;rw[YAM (by decide)];refine YAA (YCG ?_);have hL2:h2'.get? s.heap.objs.size=some { cls:=.type "list",data:=.seq ([]:AC).toArray }:=k2 _ _ hL;refine YAA ?_;show wpAny _ A.in1 (updateSeq s.heap.objs.size (·.push .none) >>= fun _=>updateSeq s.heap.objs.size (·.pop)) _ _ _;refine YAA (wpAny_updateSeq hL2 rfl ?_);have hL3:=YBm (Obj.mapSeq (·.push Value.none)) hL2 rfl;refine wpAny_updateSeq hL3 rfl ?_;have hL4:=YBm (Obj.mapSeq (·.pop)) hL3 rfl;have oth:∀b o,b≠s.heap.objs.size->h2'.get? b=some o->((h2'.update s.heap.objs.size (Obj.mapSeq (·.push Value.none))).update s.heap.objs.size (Obj.mapSeq (·.pop))).get? b=some o:=
  fun b o hb e=>(YBg _ _ (YBM hb)).trans ((YBg _ _ (YBM hb)).trans e)
 have hle:s.heap.objs.size+1<=I:=by rw[<-hHs];exact hI
 have hSf:s.heap.objs.size∉fp:=fun z=>by
  rcases hfp _ z with q | q
  .exact nS q.symm
  .have q':H.objs.size<=s.heap.objs.size:=q;rw[hHs]at q';exact absurd q' (Nat.not_succ_le_self _)
 refine YAD ⟨plainId_quiet F.plain_extend_loop _,codeAny_extend_loopS (W A.in1 hh).toS hn _ hSf _ ls.length 0 _ _ _ rfl (YAv _) ((W A.in1 hh).frame 0 h2' _ st fun b hb o e=>oth b o (fun z=>hSf (z▸hb)) e) hL4 (ItemsOf.nil _) fun s' acc' c' hm hS' BI=>?_⟩;show wpAny _ A (load s.heap.objs.size >>= fun r=>_) _ _ s';refine YAA (wpAny_load hS' ?_);have hvs:acc'.toList=vs:=by
  have hl:vs.length=ls.length:=by rw[<-hv.length,YAB,hp.length_eq]
  apply YCm;intro j;rw[YAl];by_cases hj:j<ls.length
  .have hj':j<acc'.size:=by rw[BI.1];exact hj
   have e:acc'[j]?=some acc'[j]:=by simp[hj']
   rw[e,BI.2 j _ e]
  .rw[Array.getElem?_eq_none (by rw[BI.1];omega),YBI (by omega)]
 have done:=hQ s' vs ms (fun b o e=>by
  have BP:=YAN e;refine hm.heap b o (fun z=>?_) (oth b o (YAf BP) (k2 b o (k1 b o e)));rcases YAT.mp z with q | q
  .rw[q]at BP;exact YBA _ BP
  .have q:b=I:=by simpa using q
   rw[q]at BP;exact absurd BP (Nat.not_lt.mpr (Nat.le_of_succ_le hle))) hm.gens hm.os hp hv
 rw[<-hvs]at done;exact YAD done
end
noncomputable def leT (a b:Q11):Bool:=!decide (b<a)
noncomputable def Za3 (ls:Q22):Q22:=ls.mergeSort leT
theorem ZbI {a b:Q11}:leT a b=true↔a<=b:=by unfold leT;rw[Bool.not_eq_true',decide_eq_false_iff_not];exact List.not_lt
theorem ZaG (ls:Q22):(Za3 ls).Perm ls:=List.mergeSort_perm _ _
theorem Zbl (ls:Q22):(Za3 ls).Pairwise (fun a b=>leT a b=true):=
 List.pairwise_mergeSort (le:=leT) (fun a b c h1 h2=>ZbI.mpr (List.le_trans (ZbI.mp h1) (ZbI.mp h2))) (fun a b=>Bool.or_eq_true_iff.mpr ((List.le_total a b).imp ZbI.mpr ZbI.mpr)) ls
theorem Zb8 {ms ls:Q22}(p:ms.Perm ls)(h:ms.Pairwise (fun a b=>leT a b=true)):ms=Za3 ls:=
 List.Perm.eq_of_pairwise (fun a b _ _ h1 h2=>List.le_antisymm (ZbI.mp h1) (ZbI.mp h2)) h (Zbl ls) (p.trans (ZaG ls).symm)
theorem Zdg {ms ls:Q22}(p:ms.Perm ls):Za3 ms=Za3 ls:=Zb8 ((ZaG ms).trans p) (Zbl ms)
theorem Zf5:∀ {us:AC} {ss:AJ},StrsAre us ss->Vals ((ss.map fun x=>x.cps.toList).map tx) us
 | _,_,.nil=>.nil
 | _,_,.cons x t h=>.cons ⟨t,rfl⟩ (Zf5 h)
theorem Zcs:∀ {ss:AJ},sortedS ss=true->(ss.map fun x=>x.cps.toList).Pairwise (fun a b=>leT a b=true):=by
 have ris:∀(p:Str) (l:AJ),risingS p l=true->((p::l).map fun x=>x.cps.toList).Pairwise (fun a b=>leT a b=true):=by
  intro p l;induction l generalizing p with
  | nil=>intro _;simp
  | cons x r ih=>
   intro h;have h':(!ltCps x.cps.toList p.cps.toList&&risingS x r)=true:=h;rw[YAQ,ltCps_eq]at h';have q:=ih x h'.2;rw[YAi,YBW];refine⟨fun b hb=>?_,q⟩;have hx:leT p.cps.toList x.cps.toList=true:=h'.1;rw[YAi]at hb q;rcases YAT.mp hb with z | z
   .rw[z];exact hx
   .exact ZbI.mpr (List.le_trans (ZbI.mp hx) (ZbI.mp ((YBW.mp q).1 b z)))
 intro ss h;cases ss with
 | nil=>simp
 | cons x r=>exact ris x r h
theorem Ze1 {us:AC}{ls:Q22}(r:Vals (ls.map tx) us):StrsAre us (ls.map fun l=>(⟨l.toArray⟩:Str)):=ZcO r
theorem Zhj (ls:Q22):(ls.map fun l=>(⟨l.toArray⟩:Str)).map (fun x=>x.cps.toList)=ls:=by
 rw[YBS]
 conv=>rhs;rw[<-List.map_id ls]
 apply YCH;intro l _;simp
section
variable {prog:AG}{w:AI}{A:AH}{E:Q33}{s:AE}
theorem Ze4 {vs:AC}{ms:Q22}{Q:Q33}(hv:Vals (ms.map tx) vs)(h64:ms.length<64)
  (h:∀(h':Heap) (us:AC) (e:Nat),(∀b o,s.heap.get? b=some o->h'.get? b=some o)->h'.get? s.heap.objs.size=some { cls:=.type "list",data:=.seq us.toArray e }->Vals ((Za3 ms).map tx) us->Q (.ref s.heap.objs.size) { s with heap:=h' }):
  wpAny (model prog w) A (do let l <-newList vs;let _ <-holding [l] (call (.builtin "list.sort") [l] []);ret l) (fun fin s'=>∃v,fin=Fin.done (Flow.ret v)/\Q v s') E s:=by
 have hS:=Ze1 hv;have BH:vs.length<64:=by rw[<-hv.length,YAB];exact h64
 refine YAA (wpAny_newList ?_ ?_)
 .have hoL:(s.heap.push (seqObj "list" vs.toArray 0)).get? s.heap.objs.size=some (seqObj "list" vs.toArray 0):=YAU _ rfl;refine YAA (YBT (YCX slot_list_sort ⟨_,hoL,rfl⟩ entry_list_sort (list_sort_treeK strKind_oneLt hoL hS.keysOf (fun v9 v_2 rest e=>keyKind_strs (by rw[<-e];exact hS)) BH fun st' a1 a2=>⟨_,rfl,?_⟩) (args_list_sort _)));obtain⟨ss',b1,b2,b3⟩:=sorted_out_str hS a1 a2;obtain⟨e,he⟩:=sortedHeap_at (out:=(arrOf st').map (·.2)) hoL;refine YAD ⟨_,rfl,h _ ((arrOf st').map (·.2)).toList e (fun b o q=>?_) ?_ ?_⟩
  .have BP:=YAN q;have hlt':b<(s.heap.push (seqObj "list" vs.toArray 0)).objs.size:=by rw[YBh];exact YDJ BP
   exact(sortedHeap_old (YAf BP) hlt').trans (YAE _ q)
  .have q:((arrOf st').map (·.2)).toList.toArray=(arrOf st').map (·.2):=YCq;rw[q];exact he
  .have p1:(ss'.map fun x=>x.cps.toList).Perm ms:=by
    have:=b2.map (fun x:Str=>x.cps.toList)
    rwa [Zhj]at this
   have e1:=Zb8 p1 (Zcs b3);rw[<-e1];exact Zf5 b1
 .exact YAK (YCT BH) (by rw[sizeLine_eq];decide)
theorem Zhq {S:AD}{ls:Q22}{Q:Q33}(hh:A.handled=none)(hS:TxSet prog w s.heap S ls (!ZaK w))(h64:ls.length<64)
  (h:∀(s':AE) (a:AD) (us:AC) (e:Nat),s.heap.get? a=none->(∀b o,s.heap.get? b=some o->s'.heap.get? b=some o)->s'.gens=s.gens->s'.os=s.os->s'.heap.get? a=some { cls:=.type "list",data:=.seq us.toArray e }->Vals ((Za3 ls).map tx) us->Q (.ref a) s'):
  wpAny (model prog w) A (call (.builtin "sorted") [.ref S]) Q E s:=by
 refine Calls.call_function_entry kind_sorted plain_sorted entry_sorted (args_sorted1 _) ?_;unfold Builtin.«sorted»;refine YAA (m:=checkCount "sorted" 1 1 _) (YAD ?_);refine YAA (ZdI (by first | exact hh | simpa using hh) hS (YAK (YCT h64) (by rw[sizeLine_eq];decide)) fun s' vs ms k1 hg ho hp hv=>?_);have hl:ms.length<64:=by rw[hp.length_eq];exact h64
 refine Ze4 hv hl fun h' us e k2 he r=>?_;rw[Zdg hp]at r;exact h _ _ us e (by
  cases q:s.heap.get? s'.heap.objs.size with
  | none=>rfl
  | some o=>exact absurd (YAN (k1 _ _ q)) (YBA _)) (fun b o q=>k2 b o (k1 b o q)) hg ho he r
end
structure Fly (B:Heap)(l:List Env)(e:AD)(C:Value)(d:Option AD)(fl:Value)(h:Heap):Prop where
 st:B.StaysIn h
 ne:B.get? e=none
 fr:h.FunFrames B l
 tr:∃oe vs T oT ts,h.get? e=some oe/\oe.cls=C/\oe.dict=d/\oe.data=.fields vs/\vs[1]?=some (.ref T)/\B.get? T=none/\T≠e/\h.get? T=some oT/\oT.data=.fields ts/\ts[3]?=some fl
theorem Zkr (o:Obj)(f:Array Value->Array Value):(o.mapFields f).dict=o.dict:=by obtain⟨c,d,dt,sl⟩:=o;cases dt<;>rfl
section
variable {M:Model}{A:AH}{E:Q33}{s:AE}{B:Heap}{env:Env}{outer:List Env}{L e:AD}{C:Value}{d:Option AD}{Q:Unit->AE->Prop}
theorem Zfk {oe:Obj}{vs:Array Value}{head:Value}{hadNext:Bool}(hfr:A.frames=some (env::outer))(hl:s.heap.FunFrames B (env::outer))(hf:env.frame=some L)(he:s.heap.get? e=some oe)(hkb:B.StaysIn s.heap)(hen:B.get? e=none)
  (hc:oe.cls=C) (hdd:oe.dict=d) (hd:oe.data=.fields vs) (hsz:1<vs.size) (h:∀h',Fly B (env::outer) e C d (rawInt L) h'->s.heap.UpToSlots h'->Q () { s with heap:=h' }):
  wpAny M A (do let a <-frameOf env;let pl <-entryPlaceOf L hadNext;let b <-EntryCells.newEntry head a .none (rawInt L) .none pl;setField (.ref e) 1 b) Q E s:=by
 have hene:e∉(env::outer).filterMap (·.frame):=fun hm=>by obtain⟨_,o,ho,hnf⟩:=hl.mem hm;rw[he]at ho;cases ho;exact hnf vs hd
 refine YAA (wpAny_frameOf_fun hfr hl hf fun h1 hs=>YAA (wpAny_entryPlaceOf fun pl hpl=>?_));unfold EntryCells.newEntry newFields;refine YAA (YBv ?_ (hpl.sizeOk5 _ _ _ _ _));have e1:h1.get? e=some oe:=(hs.2.1 e hene).trans he;have k1:B.StaysIn h1:=fun b o hbo=>(hs.2.1 b fun hm=>by rw[(hl.mem hm).1]at hbo;cases hbo).trans (hkb b o hbo);generalize eT:({ cls:=.type "traceback",dict:=none,data:=.fields ([head,.ref L,.none,rawInt L,.none]++(if pl.isEmpty then List.replicate 6 Value.none else pl)).toArray }:Obj)=oT;have e2:(h1.push oT).get? e=some oe:=YAE _ e1;refine YBn e2 hd hsz ?_;have nT:h1.objs.size≠e:=Nat.ne_of_gt (YAN e1);have d3:=YDD hd (·.setIfInBounds 1 (Value.ref h1.objs.size));have e3:=YBm (Obj.mapFields (·.setIfInBounds 1 (Value.ref h1.objs.size))) e2 (Obj.isFreed_of_fields d3);have t3:((h1.push oT).update e (Obj.mapFields (·.setIfInBounds 1 (Value.ref h1.objs.size)))).get? h1.objs.size=some oT:=by rw[YBg _ _ (YBM nT)];refine YAU _ ?_;rw[<-eT];rfl
 have keep:∀b o,b≠e->h1.get? b=some o->((h1.push oT).update e (Obj.mapFields (·.setIfInBounds 1 (Value.ref h1.objs.size)))).get? b=some o:=fun b o hb q=>by rw[YBg _ _ (YBM hb)];exact YAE _ q
 have nrec:∀b o,s.heap.get? b=some o->(∀vs,o.data≠.fields vs)->b≠e:=fun b o q n z=>by rw[z,he]at q;cases q;exact n vs hd
 have dT:oT.data=.fields ([head,.ref L,.none,rawInt L,.none]++(if pl.isEmpty then List.replicate 6 Value.none else pl)).toArray:=by rw[<-eT]
 refine h _ ⟨fun b o q=>keep b o (fun z=>by rw[z,hen]at q;cases q) (k1 b o q),hen,hl.of_keeps fun b o q n=>?_,_,_,h1.objs.size,oT,_,e3,(Obj.cls_mapFields _ _).trans hc,(Zkr _ _).trans hdd,d3,?_,k1.fresh,nT,t3,dT,?_⟩ fun b o q n=>?_
 .obtain⟨sl,q2⟩:=hs.2.2 b o q;exact⟨_,keep b _ (nrec b o q n) q2,rfl⟩
 .simp[hsz]
 .simp
 .obtain⟨sl,q2⟩:=hs.2.2 b o q;exact⟨sl,keep b _ (nrec b o q n) q2⟩
theorem ZhD {oe:Obj}{vs:Array Value}(hfr:A.frames=some (env::outer))(hl:s.heap.FunFrames B (env::outer))(hf:env.frame=some L)(he:s.heap.get? e=some oe)(hkb:B.StaysIn s.heap)(hen:B.get? e=none)
  (hc:oe.cls=C) (hdd:oe.dict=d) (hd:oe.data=.fields vs) (h1:vs[1]?=some .none) (h:∀h',Fly B (env::outer) e C d (rawInt L) h'->s.heap.UpToSlots h'->Q () { s with heap:=h' }):wpAny M A (noteFrame (.ref e) env) Q E s:=by
 unfold noteFrame;simp only[hf];refine YAA (wpAny_field he hd h1 ?_);rw[YAI (by decide)];exact Zfk hfr hl hf he hkb hen hc hdd hd (YCK.mp h1).1 h
theorem Zfj (hfr:A.frames=some (env::outer))(hf:env.frame=some L)(x:Fly B (env::outer) e C d .none s.heap)(h:∀h',Fly B (env::outer) e C d (rawInt L) h'->s.heap.UpToSlots h'->Q () { s with heap:=h' }):
  wpAny M A (noteFrame (.ref e) env) Q E s:=by
 obtain⟨hkb,hen,hl,oe,vs,T,oT,ts,he,hc,hdd,hd,h1,hnT,hTe,hT,hdT,h3⟩:=x;unfold noteFrame;simp only[hf];refine YAA (wpAny_field he hd h1 ?_);rw[YAM (show (Value.ref T != Value.none)=true from by simp)];refine YAA (wpAny_field hT hdT h3 ?_);rw[YAI (show ¬((Value.none == rawInt L)=true) from by simp[rawInt])];refine YAA (YBn hT hdT (YCK.mp h3).1 ?_);have oth:∀b,b≠T->(s.heap.update T (Obj.mapFields (·.setIfInBounds 3 Value.none))).get? b=s.heap.get? b:=fun b hb=>YBg _ _ (YBM hb);have nrec:∀b o,s.heap.get? b=some o->(∀vs,o.data≠.fields vs)->b≠T:=fun b o q n z=>by rw[z,hT]at q;cases q;exact n ts hdT
 refine Zfk (s:={ s with heap:=s.heap.update T (Obj.mapFields (·.setIfInBounds 3 Value.none)) }) hfr (hl.of_keeps fun b o q n=>⟨o,(oth b (nrec b o q n)).trans q,rfl⟩) hf ((oth e (YBM hTe)).trans he)
  (fun b o q=>(oth b fun z=>by rw[z,hnT]at q;cases q).trans (hkb b o q)) hen hc hdd hd (YCK.mp h1).1 fun h' y u=>h h' y fun b o q n=>u b o ((oth b (nrec b o q n)).trans q) n
theorem ZbT {l:List Env}{fl:Value}(x:Fly B l e C d fl s.heap)(h:∀h',Fly B l e C d .none h'->s.heap.UpToSlots h'->Q () { s with heap:=h' }):wpAny M A (setFlight (.ref e) none) Q E s:=by
 obtain⟨hkb,hen,hl,oe,vs,T,oT,ts,he,hc,hdd,hd,h1,hnT,hTe,hT,hdT,h3⟩:=x;have hz:3<ts.size:=(YCK.mp h3).1;have oth:∀b,b≠T->(s.heap.update T (Obj.mapFields (·.setIfInBounds 3 ((none:Option AD).elim Value.none fun f=>rawInt f)))).get? b=s.heap.get? b:=fun b hb=>YBg _ _ (YBM hb);have nrec:∀b o,s.heap.get? b=some o->(∀vs,o.data≠.fields vs)->b≠T:=fun b o q n z=>by rw[z,hT]at q;cases q;exact n ts hdT
 unfold setFlight;refine YAA (wpAny_field he hd h1 ?_);rw[YAM (show (Value.ref T != Value.none)=true from by simp)];refine YBn hT hdT hz (h _ ⟨fun b o q=>(oth b fun z=>by rw[z,hnT]at q;cases q).trans (hkb b o q),hen,hl.of_keeps fun b o q n=>⟨o,(oth b (nrec b o q n)).trans q,rfl⟩,oe,vs,T,_,_,(oth e (YBM hTe)).trans he,hc,hdd,hd,h1,hnT,hTe,
  YBm _ hT (Obj.isFreed_of_fields (YDD hdT _)),YDD hdT _,by simp[hz]⟩ fun b o q n=>⟨o.slots,(oth b (nrec b o q n)).trans q⟩)
theorem Fly.pop {h:Heap}{fl:Value}(x:Fly B (env::outer) e C d fl h):Fly B outer e C d fl h:=⟨x.st,x.ne,x.fr.2.2,x.tr⟩
theorem Zgf {oe:Obj}{vs:Array Value}(hfr:A.frames=some (env::outer))(hl:s.heap.FunFrames B (env::outer))(hf:env.frame=some L)(he:s.heap.get? e=some oe)(hkb:B.StaysIn s.heap)(hen:B.get? e=none)
  (hc:oe.cls=C) (hdd:oe.dict=d) (hd:oe.data=.fields vs) (h1:vs[1]?=some .none) (h:∀h',Fly B outer e C d .none h'->s.heap.UpToSlots h'->Q () { s with heap:=h' }):wpAny M A (leaving env (.ref e)) Q E s:=by
 unfold leaving;refine YAA (ZhD hfr hl hf he hkb hen hc hdd hd h1 fun h1 x1 u1=>ZbT (s:={ s with heap:=h1 }) x1 fun h2 x2 u2=>h h2 x2.pop (u1.trans u2))
theorem ZhI (hfr:A.frames=some (env::outer))(hf:env.frame=some L)(x:Fly B (env::outer) e C d .none s.heap)(h:∀h',Fly B outer e C d .none h'->s.heap.UpToSlots h'->Q () { s with heap:=h' }):wpAny M A (leaving env (.ref e)) Q E s:=by unfold leaving;refine YAA (Zfj hfr hf x fun h1 x1 u1=>ZbT (s:={ s with heap:=h1 }) x1 fun h2 x2 u2=>h h2 x2.pop (u1.trans u2))
end
open PySem.W (Frag findIn typeIn mroIn clsIn InstAt Looks)
noncomputable def xr (a C:AD)(d:Option AD):HO:=.ext fun h=>∃(o:Obj) (vs:Array Value),h.get? a=some o/\o.cls=.ref C/\o.dict=d/\o.data=.fields vs
theorem Zmw {P:AG}{w:AI}{H:Hp}{h:Heap}{e C:AD}{d:Option AD}{o:Obj}{vs:Array Value}(h1:h.get? e=some o)(h2:o.cls=.ref C)(h3:o.dict=d)(h4:o.data=.fields vs):ObjOk P w H h e (xr e C d):=
 ⟨⟨o,vs,h1,h2,h3,h4⟩,⟨o,h1⟩,fun g1 g2 ⟨o',vs',q1,q⟩ k=>⟨o',vs',k _ q1,q⟩⟩
inductive XAny (H:Hp) (e C:AD):List (Str×V)->Prop where
 | un {fs:List (Str×V)}:XAt H e C fs->XAny H e C fs
 | bare:H e=some (xr e C none)->XAny H e C []
 | full {d:AD} {fs:List (Str×V)}:H e=some (xr e C (some d))->H d=some (xdO d fs)->d≠e->XAny H e C fs
section
variable {M:Model}{A:AH}{E:Q33}{s:AE}{env:Env}
theorem Zij {x:Sem Value}{Q:Flow->AE->Prop}(hh:A.handled=none)
  (h:wpAny M A x (fun v s_1=>∃(e t:AD) (od:Option AD) (sl:Array (Option Value)) (C:AD) (nm q:Str) (N:AD) (bs bm:AC) (BM:Bool) (sn:AJ) (sub:AC) (ab:Bool) (col:Option Bool) (dd:Option AD) (k0 k1 k2 k3 k5:Option Value) (newId:String),v=.ref e/\bm.contains (.type "BaseException")=true /\
   s_1.heap.get? C=some (excClassObj nm q C N bs bm BM sn sub ab col dd k0 k1 k2 k3 k5 newId)/\s_1.heap.get? e=some { cls:=.ref C,dict:=od,data:=.fields #[.ref t,.none,.none,.none,.bool false,.none],slots:=sl }/\E (.ref e) s_1) E s):wpAny M A (raiseStmt env (some x) none) Q E s:=by
 unfold raiseStmt;refine YAA (YBB h (fun v s_1 h9=>?_) fun _ _ x=>x);obtain⟨e,t,od,sl,C,nm,q,N,bs,bm,BM,sn,sub,ab,col,dd,k0,k1,k2,k3,k5,newId,rfl,hbase,hC,he,hE⟩:=h9;have hcB:(Value.ref C::bm).contains (.type "BaseException")=true:=by rw[YCc,hbase,Bool.or_true]
 obtain⟨hp,g,d,tk,os⟩:=s_1;repeat (first | with_reducible refine YBc he ?_ | with_reducible refine YBc hC ?_ | (with_reducible refine YCv hC ?_;rw[hcB]) | wp_step)
 exact wpAny_raiseNew_none hh hE
end
noncomputable def CXr (P:AG)(w:AI):CXT:=fun outer H s E ev s'=>∃(e C:AD) (d:Option AD) (H':Hp) (h1 B:Heap),ev=.ref e/\s'.os=s.os/\AllBare s'.gens/\Un (frs outer) [] H H' s.heap h1/\HOk P w H' h1/\H' e=some (xr e C d) /\
 (∀b o,h1.get? b=some o->b≠e->((∃u,H' b=some u)\/((∃o',s.heap.get? b=some o')/\b∉frs outer))->B.get? b=some o)/\Fly B outer e (.ref C) d .none s'.heap/\h1.UpToSlots s'.heap/\E (.ref C) (some e) H'
def Raises (X:Cx)(Ex:XK):Prop:=∀(BF:AA) (U:St) (H:Hp) (s:AE) (e C:AD) (d:Option AD),Inv X BF U H s->H e=some (xo e C d)->Ex (.ref C) (some e) (upd H e (xr e C d))->X.xe (.ref e) s
theorem Inv.raised {X:Cx}{BF:AA}{U:St}{H:Hp}{s:AE}{e C:AD}{d:Option AD}(I:Inv X BF U H s)(h:H e=some (xo e C d)):Inv X BF U (upd H e (xr e C d)) s:=by obtain⟨o,t,h1,h2,h3,h4⟩:=ZdR I h;exact I.write (x:=e) (e:=e) (o:=xr e C d) (h':=s.heap) (t':=s.toks) (by rw[h];exact trivial) (.inl rfl) (fun b u _ q=>q) ⟨o,h1⟩ (Zmw h1 h2 h3 h4)
theorem Zl1 {h:Heap}{as:List AD}{b:AD}{o:Obj}(e:(PySem.W.hideAll h as).get? b=some o):h.get? b=some o:=PySem.W.of_hideAll _ e
theorem Zjg {P:AG}{w:AI}{K:Frag}{mg:AB}{base:Heap}{N:AJ}{qual:Str}{scope:Scope}{f:AD}{cd:Value}{A:AH}{outer:List Env}{s0:AE}{H0:Hp}{E:XK}:
  Raises (cxOf (CXr P w) P w K mg base N qual scope f cd A outer s0 H0 E) E:=by
 intro BF U H s e C d I he hE;obtain⟨o,t,h1,h2,h3,h4⟩:=ZdR I he;have J:=I.raised he;generalize hX:cxOf (CXr P w) P w K mg base N qual scope f cd A outer s0 H0 E=X at I J ⊢;have eA:X.A=A.deeper (envOfC qual scope s0.heap.objs.size f cd):=by rw[<-hX];rfl
 have eS:X.stack=envOfC qual scope s0.heap.objs.size f cd::outer:=by rw[<-hX];rfl
 have eF:X.fs=frs outer:=by rw[<-hX];rfl
 have e0:X.s_0=s0:=by rw[<-hX];rfl
 have eH:X.H_0=H0:=by rw[<-hX];rfl
 have eX:X.ex=[]:=by rw[<-hX];rfl
 have eL:X.env=envOfC qual scope s0.heap.objs.size f cd:=by rw[<-hX];rfl
 have ePr:X.prog=P:=by rw[<-hX];rfl
 have eW:X.w=w:=by rw[<-hX];rfl
 have hxe:∀ev s',wpAny (model P w) (A.deeper (envOfC qual scope s0.heap.objs.size f cd)) (leaving (envOfC qual scope s0.heap.objs.size f cd) ev) (fun _ s''=>CXr P w outer H0 s0 E ev s'') (fun e' s''=>CXr P w outer H0 s0 E e' s'') s'->X.xe ev s':=by intro ev s' z;rw[<-hX];exact z
 refine hxe _ _ ?_;have hfr:(A.deeper (envOfC qual scope s0.heap.objs.size f cd)).frames=some (envOfC qual scope s0.heap.objs.size f cd::outer):=by rw[<-eA,<-eS];exact I.ok.frames
 have stk:s.heap.FunFrames X.base X.stack:=I.stack;have hin:∀env∈X.stack,∀a,env.frame=some a->a∈frs X.stack++[e]:=fun env henv a ha=>List.mem_append_left _ (List.mem_filterMap.mpr ⟨env,henv,ha⟩);have ff:=PySem.W.funFrames_hide (as:=frs X.stack++[e]) stk hin;rw[eS]at ff;have stays:(PySem.W.hideAll s.heap (frs (envOfC qual scope s0.heap.objs.size f cd::outer)++[e])).StaysIn s.heap:=fun b o q=>Zl1 q;refine Zgf (B:=PySem.W.hideAll s.heap (frs (envOfC qual scope s0.heap.objs.size f cd::outer)++[e])) (L:=s0.heap.objs.size) hfr ff rfl h1 stays (PySem.W.hideAll_none _ (by simp)) h2 h3 h4 (by simp) fun h' fl up=>?_;have os:s.os=s0.os:=by rw[<-e0];exact I.os
 have un:Un (frs outer) [] H0 (upd H e (xr e C d)) s0.heap s.heap:=by
  have:=J.base
  rwa [eF,eX,eH,e0]at this
 have ok:HOk P w (upd H e (xr e C d)) s.heap:=by
  have:=J.hok
  rwa [ePr,eW]at this
 refine⟨e,C,d,upd H e (xr e C d),s.heap,_,rfl,os,I.bare,un,ok,Zag,fun b o hb hne hc=>?_,fl,up,hE⟩;refine PySem.W.hideAll_get _ hb fun z=>?_;rcases YAW.mp z with z | z
 .have z':b∈frs X.stack:=by rw[eS];exact z
  rcases hc with⟨u,hu⟩|⟨⟨o',ho'⟩,hn⟩
  .rw[J.stkFree b z']at hu;cases hu
  .rcases YAT.mp (I.stkSub b z') with q | q
   .rw[q,eL]at ho';exact absurd (YAN ho') (YBA _)
   .rw[eF]at q;exact hn q
 .exact hne (by simpa using z)
def ZkE (K:Frag)(Ex:XK)(te:TE):TS:=fun _ U H=>te U H fun v H1=>∃e C d,v=.ref e/\H1 e=some (xo e C d)/\Xm K C/\Ex (.ref C) (some e) (upd H1 e (xr e C d))
theorem ZjM {X:Cx}{Ex:XK}{e:Expr}{te:TE}{pos:Pos}(hR:Raises X Ex)(hc:X.calm=true)(he:PE X e te):PS X (.Raise (some e) none pos) (ZkE X.K Ex te):=by intro BF s U H D I h;rw[arm_exec_Raise];show wpAny _ X.A (do standAt pos;raiseStmt X.env (some (do let v <-eval e X.env;standAt pos;pure v)) none) _ _ s;refine YAA (YCz ?_);refine Zij (I.ok.hd hc) (YAA (thn (he BF s U H _ I h) fun v s1 ⟨x,H1,I1,r1,a,C,d,ex,hx,m,q⟩=>YAA (YCz (YAD ?_))));subst ex;obtain rfl:v=Value.ref a:=r1;obtain⟨o,t,h1,h2,h3,h4⟩:=ZdR I1 hx;obtain⟨nm,q',N,bs,bm,BM,sn,sub,ab,col,dd,k0,k1,k2,k3,k5,hl,hxm⟩:=m.parts;obtain⟨oc,odi,oda,osl⟩:=o;dsimp only at h2 h3 h4;subst h2 h3 h4;have hb:(Value.ref C::bm).contains (.type "BaseException")=true:=Zb6 (by decide +kernel) hxm;rw[YCc]at hb;refine⟨a,t,_,_,C,nm,q',N,bs,bm,BM,sn,sub,ab,col,dd,k0,k1,k2,k3,k5,_,rfl,?_,I1.kIn _ _ hl,h1,hR BF U H1 s1 a C _ I1 hx q⟩;have z:(Value.type "BaseException" == Value.ref C)=false:=rfl;rw[z,Bool.false_or]at hb;exact hb
section
variable {P:AG}{w:AI}{K:Frag}{mg:AB}{base:Heap}
theorem Fun.okX {x qual:Str}{st:Stmt}{f:AD}{fd:AF}{N ps:AJ}{k:Nat}{sp:Sp}(F:Fun K x qual st f fd)(S:FnScope N ps (Zah st))(len:∀vs H Q E,sp vs H Q E->vs.length=ps.length)
  (hbody:∀(BG:Value) (A:AH) (outer:List Env) (s:AE) (H:Hp) (vs:List V) (Q:VK) (E:XK),Room k (A.deeper (envOfC qual (Zah st) s.heap.objs.size f BG))->sp vs H Q E ->
   ∃t,PSs (cxOf (CXr P w) P w K mg base N qual (Zah st) f BG A outer s H E) (ZbB st) t/\t { nx:=fun _ H'=>Q .non H',rt:=Q } (start N vs) H):FnOk P w K mg base (CXr P w) (k+1) f fd ps sp:=by
 obtain⟨oc,od,kV,doc,pm,an,BG,ct,osl,rfl,lk,hcd⟩:=F.ex;exact Zl7 lk hcd S len fun A outer s H vs Q E hr hsp=>hbody BG A outer s H vs Q E hr hsp
end
abbrev TX:=St->Hp->VK->XK->Prop
def PEx (X:Cx)(e:Expr)(t:TX):Prop:=∀(BF:AA) (s:AE) (U:St) (H:Hp) (Q:VK) (E:XK),Inv X BF U H s->t U H Q E ->
 wpAny (model X.prog X.w) X.A (eval e X.env) (EP X BF U Q) (fun ev s'=>∃H2 s2,Inv X BF U H2 s2/\CXr X.prog X.w X.stack H2 s2 E ev s') s
abbrev TSx:=Ends->(St->XK)->St->Hp->Prop
def XH (X:Cx)(BF:AA)(Ex:St->XK)(ev:Value)(s':AE):Prop:=∃U' H2 s2,Inv X BF U' H2 s2/\CXr X.prog X.w X.stack H2 s2 (Ex U') ev s'
def PSx (X:Cx)(st:Stmt)(t:TSx):Prop:=∀(BF:AA) (s:AE) (U:St) (H:Hp) (D:Ends) (Ex:St->XK),Inv X BF U H s->t D Ex U H->wpAny (model X.prog X.w) X.A (exec st X.env) (SP X BF D) (XH X BF Ex) s
def PSsx (X:Cx)(st:List Stmt)(t:TSx):Prop:=∀(BF:AA) (s:AE) (U:St) (H:Hp) (D:Ends) (Ex:St->XK),Inv X BF U H s->t D Ex U H->wpAny (model X.prog X.w) X.A (execs st X.env) (SP X BF D) (XH X BF Ex) s
section
variable {X:Cx}{CX:CXT}{k:Nat}{f C:AD}{fd:AF}{ps:AJ}{sp:Sp}{BO:List V}{ds:AC}{x m:Str}{p pos BK:Pos}{e o:Expr}{es:List Expr}{ta:TE}{t:TA}
theorem Zlv {BF:AA}{U:St}{H:Hp}{s:AE}{Q:VK}{E:XK}{us:AC}{vs:List V}(F:FnOk X.prog X.w X.K X.mg X.base (CXr X.prog X.w) k f fd ps sp)(hr:Room k X.A)(hb:Binds X.K fd ps ds)(hd:Vals BO ds)
  (I:Inv X BF U H s) (r:Vals vs us) (h:sp (vs++BO) H Q E):wpAny (model X.prog X.w) X.A (call (.ref f) us) (EP X BF U Q) (fun ev s'=>∃H2 s2,Inv X BF U H2 s2/\CXr X.prog X.w X.stack H2 s2 E ev s') s:=by
 have r2:Vals (vs++BO) (us++ds):=r.append hd;have hl:(us++ds).length=ps.length:=by rw[<-r2.length];exact F.len _ _ _ _ h
 refine YCx (codeAny_mono (F.run X.A X.stack s H ⟨us,[]⟩ (us++ds) (vs++BO) Q E hr I.env0 (hb s us I.kIn hl) r2 h) fun r s' hq=>?_);cases r with
 | error e=>exact⟨H,s,I,hq⟩
 | ok fl=>
  cases fl with
  | ret u=>exact I.after hq
  | next=>exact False.elim hq
  | brk=>exact False.elim hq
  | cont=>exact False.elim hq
def ZkF (sp:Sp)(BO:List V)(t:TA):TX:=fun U H Q E=>t U H fun vs H1=>sp (vs++BO) H1 Q E
theorem ZgP (F:FnOk X.prog X.w X.K X.mg X.base (CXr X.prog X.w) k f fd ps sp)(hr:Room k X.A)(hg:Gl X x)(hm:X.mg x=some (.ref f))(hk:PySem.W.keepIn X.K (.ref f)=true)(hb:Binds X.K fd ps ds)(hd:Vals BO ds)
  (ha:PA X.nox (e::es) t) (hdb:(x == ("__debug__":Str))=false:=by decide) (he:starEach (e::es) X.env=(false,eval e X.env)::starEach es X.env:=by rfl) (hpl:(backTo pos (starEach es X.env)).any (·.1)=false:=by rfl):
  PEx X (.Call (.Name x p) (e::es) [] pos) (ZkF sp BO t):=by
 intro BF s U H Q E I h;refine YBf (Zco I hg hm ?_ hdb);refine YCZ (h₀:=X.base) I.ok.mod.kin hk (YBB (ha pos BF s U H _ (I.wish _) h) (fun us s1 ⟨vs,H1,I1,r,q⟩=>⟨I1.kIn,?_⟩) fun _ _ z=>False.elim z) he hpl;exact Zlv F hr hb hd I1.unwish r q
def Zm3 (i:Nat)(te:TX):TSx:=fun D Ex U H=>te U H (fun y H1=>D.nx (U.set i (some y)) H1) (Ex U)
theorem Zqd {i:Nat}{te:TX}{pos':Pos}(hN:X.N.Nodup)(hi:X.N[i]?=some x)(hx:Loc X.env.scope x)(he:PEx X e te)(hs:swapsWith e (some (.Name x pos')) pos.line X.env=pure false:=by rfl)(hf:X.fn x=true\/X.env.scope.names.lookup x=some .local:=by first | exact .inl rfl | exact .inr rfl | assumption):
  PSx X (.Assign [.Name x pos'] e pos) (Zm3 i te):=by
 intro BF s U H D Ex I h;refine wpAny_Assign_Name (YBB (he BF s U H _ _ I h) (fun v s1 ⟨y,H1,I1,r1,q1⟩=>?_) fun ev s' ⟨H2,s2,I2,q⟩=>⟨U,H2,s2,I2,q⟩) hs;exact Zb7 I1 hN hi hx r1 (fun s2 I2=>⟨_,H1,I2,q1⟩) hf
def ZkH (te:TX):TSx:=fun D Ex U H=>te U H (fun _ H1=>D.nx U H1) (Ex U)
theorem ZgM {te:TX}(he:PEx X e te)(hs:swapsWith e none pos.line X.env=pure false:=by rfl):PSx X (.Expr e pos) (ZkH te):=by intro BF s U H D Ex I h;exact wpAny_Expr_any (YBB (he BF s U H _ _ I h) (fun v s1 ⟨y,H1,I1,r1,q1⟩=>⟨U,H1,I1,q1⟩) fun ev s' ⟨H2,s2,I2,q⟩=>⟨U,H2,s2,I2,q⟩) I.quiet hs
theorem Zeq {st:Stmt}{t:TSx}(h1:PSx X st t):PSsx X [st] t:=by
 intro BF s U H D Ex I h;refine wpAny_execs_cons (thn (h1 BF s U H D Ex I h) fun f s1 q=>?_);cases f with
 | next=>exact YDA q
 | ret v=>exact q
 | brk=>exact q
 | cont=>exact q
def sIfx (c:TT)(t u:TSx):TSx:=fun D Ex U H=>c U H fun b H1=>if b=true then t D Ex U H1 else u D Ex U H1
end
section
variable {X:Cx}{BF:AA}{U:St}{H H':Hp}{s s1:AE}{e C:AD}{d:Option AD}{h1 h5 B:Heap}
theorem ZhV (I:Inv X BF U H s)(os:s1.os=s.os)(bare:AllBare s1.gens)(un:Un (frs X.stack) [] H H' s.heap h1)(ok:HOk X.prog X.w H' h1)(he:H' e=some (xr e C d))
  (kept:∀b o,h1.get? b=some o->b≠e->((∃u,H' b=some u)\/((∃o',s.heap.get? b=some o')/\b∉frs X.stack))->B.get? b=some o) (fl:Fly B X.stack e (.ref C) d .none h5) (up:h1.UpToSlots h5):
  Inv X BF U H' { s1 with heap:=h5 }:=by
 have ne:∀b o,s.heap.get? b=some o->H b=none->b≠e:=fun b o q n z=>by have:=un.free b o q n (by simp);rw[z,he]at this;cases this
 have keep:∀b o,s.heap.get? b=some o->H b=none->b∉frs X.stack->h5.get? b=some o:=fun b o q n nf=>
  fl.st b o (kept b o (un.keep b o q n nf (by simp)) (ne b o q n) (.inr ⟨⟨o,q⟩,nf⟩))
 have slot:∀b o,s.heap.get? b=some o->H b=none->b∈frs X.stack->∃sl,h5.get? b=some { o with slots:=sl }:=fun b o q n hf=>by obtain⟨sl,q1⟩:=un.slot b o q n hf (by simp);obtain⟨_,o',ho',hnf⟩:=I.stack.mem hf;rw[q]at ho';cases ho';obtain⟨sl2,q2⟩:=up b _ q1 hnf;exact⟨sl2,q2⟩
 have trk:∀c u,(∃v,H' c=some v)->h1.get? c=some u->c≠e->h5.get? c=some u:=fun c u hv q n=>fl.st c u (kept c u q n (.inl hv));refine I.call' (s':={ s1 with heap:=h5 }) (ch:=[]) os ⟨fun b o q n nf _=>keep b o q n nf,fun b o q n hf _=>slot b o q n hf,fun b o q n _=>un.free b o q n (by simp),fun b o q _=>?_,un.tups,un.frzs,un.tbls⟩ (fun b ob hb=>?_) bare (fun b hb=>by cases hb)
 .by_cases hbe:b=e
  .obtain⟨oe,vs,T,oT,ts,h1,_⟩:=fl.tr;exact⟨oe,by rw[hbe];exact h1⟩
  .cases hH:H b with
   | none=>
    by_cases hf:b∈frs X.stack
    .obtain⟨sl,q2⟩:=slot b o q hH hf;exact⟨_,q2⟩
    .exact⟨o,keep b o q hH hf⟩
   | some u=>
    obtain⟨o',q1⟩:=un.there b o q (by simp);by_cases hf:b∈frs X.stack
    .rw[I.stkFree b hf]at hH;cases hH
    .exact⟨o',fl.st b o' (kept b o' q1 hbe (.inr ⟨⟨o,q⟩,hf⟩))⟩
 .by_cases hbe:b=e
  .subst hbe;rw[he]at hb;cases hb;obtain⟨oe,vs,T,oT,ts,g1,g2,g3,g4,_⟩:=fl.tr;exact Zmw g1 g2 g3 g4
  .refine(ok b ob hb).stay (fun c u hc q=>trk c u ?_ q ?_) (fun _ q=>q) fun _ _ q=>q
   .rcases hc with z | z
    .exact⟨ob,z▸hb⟩
    .exact⟨_,z⟩
   .rintro rfl;rcases hc with z | z
    .exact hbe z.symm
    .rw[he]at z;cases z
end
noncomputable def sux (X:Cx)(e:AD):Cx:={ X with A:=X.A.mark (some (.ref e)),calm:=false,xe:=fun _ _=>False }
section
variable {X:Cx}{BF:AA}{U:St}{H:Hp}{s:AE}{e:AD}
theorem Inv.sux (I:Inv X BF U H s)(e:AD):Inv (L2.sux X e) BF U H s:=
 ⟨⟨I.ok.mod,I.ok.kind,I.ok.glob,I.ok.blt,I.ok.above,I.ok.inj,I.ok.has,I.ok.cab,(fun z=>by cases z),I.ok.frames,I.ok.stk,I.ok.exf,I.ok.bs,I.ok.bsz,I.ok.noex,I.ok.exfs,I.ok.funs,I.ok.frf⟩,I.os,I.bare,I.base,I.loc,I.cell,I.free,I.freeC,I.pin,I.hok,I.len⟩
theorem Inv.unsux (hh:X.calm=true->X.A.handled=none)(I:Inv (L2.sux X e) BF U H s):Inv X BF U H s:=
 ⟨⟨I.ok.mod,I.ok.kind,I.ok.glob,I.ok.blt,I.ok.above,I.ok.inj,I.ok.has,I.ok.cab,hh,I.ok.frames,I.ok.stk,I.ok.exf,I.ok.bs,I.ok.bsz,I.ok.noex,I.ok.exfs,I.ok.funs,I.ok.frf⟩,I.os,I.bare,I.base,I.loc,I.cell,I.free,I.freeC,I.pin,I.hok,I.len⟩
theorem Inv.unbind {i:Nat}{x:Str}{v:Option Value}{m:AB}{h':Heap}{t':Nat}(I:Inv X BF U H s)(hN:X.N.Nodup)(hi:X.N[i]?=some x)(hm:∀(i:Nat) (x:Str) (v:V),X.N[i]?=some x->U[i]?=some (some v)->Vis X.env.scope x->∃u,RelV v u/\Look X.env s.heap m x u)
  (hn':h'.Ns X.env.locals (fun y=>if y=x then v else m y)) (hs:Heap.SameBut X.env.locals s.heap h'):Inv X BF (U.set i none) H { s with heap:=h',toks:=t' }:=by
 obtain⟨m0,hn,_⟩:=id I.loc;obtain⟨oL,_,_,hoL,_⟩:=id hn;have ab:∀b o,X.s_0.heap.get? b=some o->b≠X.env.locals:=fun b o e=>YAf (YAk (YAN e) I.ok.above);refine⟨I.ok,I.os,I.bare,⟨fun b o e n hb hx=>(hs.2 b (ab b o e)).trans (I.base.keep b o e n hb hx),fun b o e n hb hx=>?_,I.base.free,fun b o e hx=>?_,I.base.tups,I.base.frzs,I.base.tbls⟩,⟨_,hn',fun j y v' e1 e2 e3=>?_⟩,fun y c e=>?_,I.free,I.freeC,fun p hp=>?_,fun b ob e=>?_,by simpa using I.len⟩
 .obtain⟨sl,e1⟩:=I.base.slot b o e n hb hx;exact⟨sl,(hs.2 b (ab b o e)).trans e1⟩
 .obtain⟨o',e1⟩:=I.base.there b o e hx;exact⟨o',(hs.2 b (ab b o e)).trans e1⟩
 .have hj:j≠i:=by
   rintro rfl;by_cases hl:j<U.length
   .rw[List.getElem?_set_self hl]at e2;cases e2
   .rw[List.set_eq_of_length_le (Nat.le_of_not_lt hl),YBI (Nat.le_of_not_lt hl)]at e2;cases e2
  rw[List.getElem?_set_ne (YBM hj)]at e2;obtain⟨u',r',q⟩:=hm j y v' e1 e2 e3;refine⟨u',r',?_⟩;rcases q with⟨k,e⟩|⟨k,c,e,z⟩
  .refine .inl ⟨k,?_⟩;have:y≠x:=fun e=>hj (Zev hN e1 (e▸hi));simp[this,e]
  .exact .inr ⟨k,c,e,z.sameBut hs (I.cne y c e)⟩
 .obtain⟨w',z⟩:=I.cell y c e;exact⟨w',z.sameBut hs (I.cne y c e)⟩
 .obtain⟨e,n,ne,nf,d⟩:=I.pin p hp;exact⟨(hs.2 p.1 ne).trans e,n,ne,nf,d⟩
 .refine(I.hok b ob e).stay (fun c w' hc q=>(hs.2 c ?_).trans q) (fun _ q=>q) fun _ _ q=>q;rintro rfl;rcases hc with z | hc
  .rw[<-z,I.free]at e;cases e
  .rw[I.free]at hc;cases hc
end
abbrev TH:=Addr->AD->Ends->St->Hp->Prop
def PHs (X:Cx)(hs:List ExceptHandler)(th:TH):Prop:=∀(BF:AA) (s:AE) (U:St) (H:Hp) (D:Ends) (e C:AD) (d:Option AD) (B:Heap),(∀h5,Fly B X.stack e (.ref C) d .none h5->s.heap.UpToSlots h5->Inv X BF U H { s with heap:=h5 })->H e=some (xr e C d)->Fly B X.stack e (.ref C) d .none s.heap->th e C D U H ->
 wpAny (model X.prog X.w) X.A (handleBy (.ref e) X.env hs) (SP X BF D) X.xe s
noncomputable def unE (i:Nat)(D:Ends):Ends:={ nx:=fun U H=>D.nx (U.set i none) H,rt:=D.rt,bk:=fun U H=>D.bk (U.set i none) H,ct:=fun U H=>D.ct (U.set i none) H }
def hAs (K:Frag)(C0:AD)(i:Nat)(ts:TS)(tr:TH):TH:=fun e C D U H=>∃b,PySem.W.exmOne K (.ref C) (.ref C0)=some b/\if b=true then ts (unE i D) (U.set i (some (.ref e))) H else tr e C D U H
def hNone:TH:=fun _ _ _ _ _=>False
theorem Zng {X:Cx}:PHs X [] hNone:=fun _ _ _ _ _ _ _ _ _ _ _ _ h=>h.elim
theorem ZiJ {M:Model}{h:Heap}{e C:AD}{o:Obj}(h1:h.get? e=some o)(h2:o.cls=.ref C):Looks M h (typeOf (.ref e)) (.ref C):=by
 intro A Q E s k q;have h1':=k _ _ h1;obtain⟨hp,g,d,tk,os⟩:=s;unfold typeOf;repeat (first | (with_reducible refine YBc h1' ?_;rw[h2]) | wp_step)
 exact q
section
variable {X:Cx}{x n:Str}{np pos:Pos}{b0:Stmt}{suite:List Stmt}{rest:List ExceptHandler}{ts:TS}{tr:TH}{C0:AD}{i:Nat}
theorem Zqe (hc:X.calm=true->X.A.handled=none)(hg:Gl X x)(hm:X.mg x=some (.ref C0))(hN:X.N.Nodup)(hi:X.N[i]?=some n)(hl:X.env.scope.names.lookup n=some .local)(hs:∀e,PSs (sux X e) (b0::suite) ts)(hr:PHs X rest tr)
  (hdb:(x == ("__debug__":Str))=false:=by decide):PHs X (.ExceptHandler (some (.Name x np)) (some n) (b0::suite) pos::rest) (hAs X.K C0 i ts tr):=by
 intro BF s U H D e C d B cv he fl h;obtain⟨b,hb,h⟩:=h;have I:Inv X BF U H s:=cv s.heap fl (Heap.UpToSlots.refl _);have J:=I.sux e;refine wpAny_handleBy_cons (codeAny_handlers_test (Zco (X:=sux X e) J hg hm ?_ hdb)) (by intro q;cases q);obtain⟨oe,vs,T,oT,tt,g1,g2,_⟩:=id fl.tr;refine(PySem.W.exm_one (M:=model X.prog X.w) I.kIn (ZiJ g1 g2) hb).here ?_;have hp:(X.env.scope.kind == .class || (X.env.scope.kind == .module&&X.env.locals != X.env.globals))=false:=by rw[I.ok.kind];rfl
 cases b with
 | false=>exact hr BF s U H D e C d B cv he fl h
 | true=>
  refine codeAny_handlers_suite_as (ZbT fl fun h6 fl6 up6=>?_);have J6:=(cv h6 fl6 up6).sux e;refine Zb7 (X:=sux X e) (i:=i) J6 hN hi (.inl hl) (v:=.ref e) rfl (fun s7 I7=>?_) (.inr hl);refine YBB (hs e BF s7 _ H (unE i D) I7 h) (fun f s8 q=>?_) fun _ _ z=>False.elim z;have goes:∀ {U8:St} {H8:Hp} {Q:Unit->AE->Prop} (I8:Inv (sux X e) BF U8 H8 s8),(∀s9,Inv X BF (U8.set i none) H8 s9->Q () s9)->wpAny (model X.prog X.w) X.A (do bindName X.env n .none;unbindBehindTheSuite X.env n pos) Q X.xe s8:=fun {U8 H8 Q} I8 k=>by have I9:=I8.unsux hc;obtain⟨m,hn,hm'⟩:=I9.loc;exact wpAny_nameGoes_keeps hl hn hp fun h' v hn' sb=>k _ (I9.unbind hN hi hm' hn' sb)
  cases f with
  | next=>
   obtain⟨U8,H8,I8,q8⟩:=q;exact goes I8 fun s9 I9=>⟨_,H8,I9,q8⟩
  | brk=>
   obtain⟨U8,H8,I8,q8⟩:=q;exact goes I8 fun s9 I9=>⟨_,H8,I9,q8⟩
  | cont=>
   obtain⟨U8,H8,I8,q8⟩:=q;exact goes I8 fun s9 I9=>⟨_,H8,I9,q8⟩
  | ret u=>
   obtain⟨v,U8,H8,I8,r8,q8⟩:=q;exact goes I8 fun s9 I9=>⟨v,_,H8,I9,r8,q8⟩
def tTry (tb:TSx)(th:TH):TS:=fun D U H=>tb D (fun U' cls oe H'=>∃e C,cls=.ref C/\oe=some e/\th e C D U' H') U H
theorem Zne {body:List Stmt}{h₀:ExceptHandler}{hs:List ExceptHandler}{tb:TSx}{th:TH}(hst:X.stack=X.env::X.outer)(hfr:X.env.frame=some X.env.locals)(hb:PSsx X body tb)(hh:PHs X (h₀::hs) th):
  PS X (.Try body (h₀::hs) [] [] pos) (tTry tb th):=by
 intro BF s U H D I h;refine wpAny_Try_except (YBB (hb BF s U H D _ I h) (fun f s1 q=>?_) fun ev s1 q=>?_)
 .cases f with
  | next=>exact YDA q
  | ret v=>exact q
  | brk=>exact q
  | cont=>exact q
 .obtain⟨U',H2,s2,I2,e,C,d,H',h1,B,rfl,os,bare,un,ok,he,kept,fl,up,e',C',ec,ee,hth⟩:=q;cases ec;cases ee;have fr:X.A.frames=some (X.env::X.outer):=by rw[<-hst];exact I.ok.frames
  rw[hst]at fl;refine Zfj fr hfr fl fun h4 fl4 up4=>ZbT (s:={ s1 with heap:=h4 }) fl4 fun h5 fl5 up5=>?_;rw[<-hst]at fl5;exact hh BF { s1 with heap:=h5 } U' H' D e C d B (fun h6 fl6 up6=>ZhV (s1:=s1) I2 os bare un ok he kept fl6 (up.trans (up4.trans (up5.trans up6)))) he fl5 hth
end
open PySem.W (Frag findIn specialIn typeIn mroIn clsIn subIn kitOne kitCls InstAt Looks)
section
variable {X:Cx}{BF:AA}{U:St}{H:Hp}{s:AE}{e C:AD}{fs:List (Str×V)}{f:Str}{v:V}{A:AH}{E:Q33}
theorem Zkz {d:Option AD}(I:Inv X BF U H s)(h:H e=some (xr e C d)):∃(o:Obj) (vs:Array Value),s.heap.get? e=some o/\o.cls=.ref C/\o.dict=d/\o.data=.fields vs:=(I.hok e _ h).1
theorem XAny.inst (I:Inv X BF U H s)(x:XAny H e C fs):∃(ox:Obj) (od:Option Obj),InstAt s.heap e ox C od/\∀name,∃r,(match od with | some o=>PySem.W.lookIn name o | none=>some none)=some r/\RelO (fs.lookup name) r:=by
 cases x with
 | un h=>exact h.inst I
 | bare h=>
  obtain⟨o,vs,h1,h2,h3,h4⟩:=Zkz I h;exact⟨o,none,⟨h1,h2,by unfold PySem.W.notCls;rw[h4],by rw[h3];trivial⟩,fun name=>⟨none,rfl,by trivial⟩⟩
 | @full d _ h h' hne=>
  obtain⟨o,vs,h1,h2,h3,h4⟩:=Zkz I h;obtain⟨⟨_,mA,hn,hr,_⟩,_⟩:=I.hok d _ h';obtain⟨od,hod,hl⟩:=Zdv hn;exact⟨o,some od,⟨h1,h2,by unfold PySem.W.notCls;rw[h4],by rw[h3];exact hod⟩,fun name=>⟨mA name,hl name,hr name⟩⟩
end
inductive TyR (K:Frag) (H:Hp):V->Value->Prop where
 | ty {x:V} {t:Value} (h:TyX K H x t):TyR K H x t
 | exc {e C:AD} {fs:List (Str×V)} (x:XAny H e C fs) (i:Xi K C):TyR K H (.ref e) (.ref C)
theorem Za6 {X:Cx}{K:Frag}(hK:X.K=K):Zcg X (.builtin "isinstance") (fun xs H Q=>∃x c t k b,xs=[x,c]/\clsV c=some k/\TyR K H x t/\kitOne K t k=some b/\Q (.bl b) H):=by
 subst hK;rintro BF s U H xs us Q I r ⟨x,c,t,k,b,rfl,hk,ty,e,q⟩;cases ty with
 | ty h=>exact Zgt BF s U H _ us Q I r ⟨x,c,t,k,b,rfl,hk,h,e,q⟩
 | exc xa i=>
  obtain⟨u,v,rfl,ru,rv⟩:=r.two;have hv:v=k:=by
   cases c with
   | ref a=>cases hk;exact rv
   | ty n=>cases hk;exact rv
   | _=>cases hk
  subst hv;cases ru;obtain⟨ox,od,J,_⟩:=xa.inst I;exact YBP (Zg1 i) I.kIn J e (fun z=>nomatch z) fun tk=>⟨.bl b,H,I.tok _,rfl,q⟩
theorem Zmd {K:Frag} {C D:AD} {m1 m2:AC} {b:Bool} (c:ClsOk K C m1) (d:ClsOk K D m2) (hb:m2.contains (.type "BaseException")=true) (h:m1.contains (.ref D)=b):PySem.W.exmOne K (.ref C) (.ref D)=some b:=by
 obtain⟨cd,e1,e2⟩:=c.cd;obtain⟨cd',e3,e4⟩:=d.cd;have hs:PySem.W.subIn K (.ref D) (.type "BaseException")=some true:=by unfold PySem.W.subIn PySem.W.mroIn;dsimp only;rw[e3,YCL,e4,d.ne,hb];rfl
 unfold PySem.W.exmOne;rw[YAM (by rw[hs];rfl)];unfold PySem.W.kitCls;dsimp only;rw[e3,d.ty];simp only[Option.isSome_some,YCO,beq_self_eq_true,if_true];unfold PySem.W.subIn PySem.W.mroIn;dsimp only;rw[e1,YCL,e2,c.ne,h];rfl
open PySem.W (Frag)
theorem ObjOk.there {P:AG}{w:AI}{H:Hp}{h:Heap}{a:AD}:∀ {o:HO},ObjOk P w H h a o->∃u,h.get? a=some u
 | .lst _,x=>by obtain⟨_,_,_,_,e⟩:=x;exact⟨_,e⟩
 | .tup _,x=>by obtain⟨_,_,_,ob,e,_⟩:=x;exact⟨_,e⟩
 | .dK _,x=>by obtain⟨_,_,_,_,ob,_,_,e,_⟩:=x;exact⟨_,e⟩
 | .dT _,x=>by obtain⟨_,_,_,_,ob,_,_,e,_⟩:=x;exact⟨_,e⟩
 | .set _ _,x=>by obtain⟨ob,_,_,_,e,_⟩:=x;exact⟨_,e⟩
 | .ins _ _ _,x=>by obtain⟨_,_,_,e,_⟩:=x;exact⟨_,e⟩
 | .own _,x=>x
 | .xd _,x=>by obtain⟨_,⟨ob,_,_,e,_⟩,_⟩:=x;exact⟨_,e⟩
 | .met _ _,x=>⟨_,x⟩
 | .rng _ _,x=>by obtain⟨_,_,_,e⟩:=x;exact⟨_,e⟩
 | .frz _ _,x=>⟨_,x.1⟩
 | .tbl _,x=>⟨_,x⟩
 | .ext _,x=>x.2.1
theorem HOk.none_of {P:AG}{w:AI}{H:Hp}{h:Heap}{a:AD}(ok:HOk P w H h)(n:h.get? a=none):H a=none:=by
 cases q:H a with
 | none=>rfl
 | some o=>
  obtain⟨u,hu⟩:=(ok a o q).there;rw[n]at hu;cases hu
theorem Inv.laid2 {X:Cx}{BF:AA}{U:St}{H:Hp}{s s':AE}{a:AD}{o:HO}(I:Inv X BF U H s)(os:s'.os=s.os)(hg:s'.gens=s.gens)(k:∀b u,s.heap.get? b=some u->s'.heap.get? b=some u)(nw:s.heap.get? a=none)
  (new:ObjOk X.prog X.w (upd H a o) s'.heap a o):Inv X BF U (upd H a o) s':=by
 have hn:=I.hok.none_of nw;have ne:∀b u,s.heap.get? b=some u->b≠a:=fun b u q z=>by rw[z,nw]at q;cases q
 have neH:∀b u,H b=some u->b≠a:=fun b u q=>Zak q hn;refine I.call' (ch:=[]) os ⟨fun b u q _ _ _=>k b u q,fun b u q _ _ _=>⟨u.slots,k b u q⟩,fun b u q n _=>by rw[Zai (ne b u q)];exact n,fun b u q _=>⟨u,k b u q⟩,fun b xs q=>by rw[Zai (neH b _ q)];exact q,fun b u v q=>by rw[Zai (neH b _ q)];exact q,fun b ps q=>⟨#[],by rw[Zai (neH b _ q),Array.append_empty];exact q⟩⟩
  (fun b u q=>?_) (by rw[hg];exact I.bare) (fun b hb=>by cases hb)
 by_cases hb:b=a
 .subst hb;rw[Zag]at q;cases q;exact new
 .rw[Zai hb]at q;exact(I.hok b u q).stay (fun c w' _ q=>k c w' q) (fun c q=>by rw[Zai (neH c _ q)];exact q) fun c xs q=>by rw[Zai (neH c _ q)];exact q
section
variable {X:Cx}
noncomputable def signs (l:Q11):Q22:=l.map fun c=>[c]
theorem ZdC {l:Q11}{acc:Array Value}(h:ItemsOf (SignAt ⟨l.toArray⟩) acc (⟨l.toArray⟩:Str).cps.size):Vals ((signs l).map tx) acc.toList:=by
 obtain⟨h1,h2⟩:=h;have hl:(⟨l.toArray⟩:Str).cps.size=l.length:=by show l.toArray.size=_;simp
 rw[hl]at h1;have gen:∀(l:Q11) (us:AC),us.length=l.length->(∀(j:Nat) (v:Value),us[j]?=some v->∃(c:Nat) (u:Tok),l[j]?=some c/\v=Value.str ⟨#[c]⟩ u)->Vals ((signs l).map tx) us:=by
  intro l;induction l with
  | nil=>
   intro us hl _;have:us=[]:=YDV hl;subst this;exact .nil
  | cons c l ih=>
   intro us hl h;cases us with
   | nil=>cases hl
   | cons u us=>
    obtain⟨c',t,e,rfl⟩:=h 0 u rfl;cases e;refine .cons ⟨t,rfl⟩ (ih us (by simpa using hl) fun j v e=>h (j+1) v e)
 refine gen l acc.toList (by rw[YAG,h1]) fun j v e=>?_;rw[YAl]at e;obtain⟨c,u,e1,e2⟩:=h2 j v e;exact⟨c,u,by simpa using e1,e2⟩
theorem Zc2 (hc:X.calm=true):Zcg X (.type "list") (fun xs H Q=>∃l,xs=[tx l]/\l.length<=1000/\NewL ((signs l).map tx) H Q):=by
 rintro BF s U H xs us Q I r ⟨l,rfl,hz,q⟩;obtain⟨u,rfl,t,rfl⟩:=r.one;have hl:(⟨l.toArray⟩:Str).cps.size=l.length:=by show l.toArray.size=_;simp
 refine call_list_str (I.ok.hd hc) _ t (fun h' tk acc c k e it=>?_) (by rw[hl];exact YCT (Zdh hz));refine⟨.ref s.heap.objs.size,_,I.laid (t':=tk) k (YAS _) ?_,rfl,q _ I.fresh⟩;exact⟨by unfold signs;rw[YAB,YAB];exact YCT (Zdh hz),acc.toList,c,ZdC it,by rw[YCq];exact e⟩
theorem Zjk (hc:X.calm=true):Zcg X (.builtin "all") (fun xs H Q=>∃(a:AD) (bs:List Bool),xs=[.ref a]/\H a=some (.lst (bs.map V.bl))/\Q (.bl (bs.all id)) H):=by
 rintro BF s U H xs us Q I r ⟨a,bs,rfl,ha,q⟩;obtain⟨u,rfl,ru⟩:=r.one;cases ru;obtain⟨_,its,n,r',BH,e⟩:=I.lstM ha;have hl:s.heap.IsList a its.toArray:=PySem.IsL.isList e;have hne:a≠s.heap.objs.size:=YAf (YAN e);refine call_all_walkS (wpAny_pyIter_list hl ?_);have hL:its.toArray.size=bs.length:=by rw[YAJ,<-r'.length,YAB]
 have W:=(Walks.list (prog:=X.prog) (w:=X.w) (A:=X.A.in1) (by simpa using I.ok.hd hc) s.heap.objs.size a hne its.toArray).toS;refine⟨s.heap.objs.size,_,_,_,_,_,_,fun i=>bs.getD i true,rfl,W,⟨⟨_,YAU _ rfl,rfl,rfl⟩,hl.push _⟩,?_,fun s' hm=>?_⟩
 .intro i v s Q E hv hQ;have e':its[i]?=some v:=by simpa using hv
  obtain⟨x,hx,rx⟩:=Zej r' e';rw[YAc]at hx;cases hb:bs[i]? with
  | none=>rw[hb]at hx;cases hx
  | some b=>
   rw[hb]at hx;cases hx;obtain rfl:v=Value.bool b:=rx;have:bs.getD i true=b:=by rw[YAR,hb];rfl
   have hQ':Q (bs.getD i true) s:=hQ;rw[this]at hQ';exact YCF hQ'
 .have ea:(List.range its.toArray.size).all (fun i=>bs.getD i true)=bs.all id:=by
   rw[hL];rw[YBQ,YBO,YBO];constructor
   .intro h b hb;obtain⟨i,hi,rfl⟩:=YCW hb;have:=h i (YAn.mpr hi);rw[YAR,YAH hi]at this;exact this
   .intro h i hi;have hi:=YAn.mp hi;rw[YAR,YAH hi];exact h _ (YCA hi)
  rw[ea];have I2:Inv X BF U H s':=I.call' (ch:=[]) hm.os (Un.kept fun b o q=>hm.heap b o (fun z=>?_) (YAE _ q)) (I.hok.kept fun b o q=>hm.heap b o (fun z=>?_) (YAE _ q)) (by rw[show s'.gens=s.gens from hm.gens];exact I.bare) (fun b hb=>by cases hb)
  .exact⟨.bl _,H,I2,rfl,q⟩
  .have z:b=s.heap.objs.size:=by simpa using z
   rw[z]at q;exact absurd (YAN q) (YBA _)
  .have z:b=s.heap.objs.size:=by simpa using z
   rw[z]at q;exact absurd (YAN q) (YBA _)
noncomputable def tset (P:AG)(w:AI)(a:AD)(ls:Q22):HO:=.ext fun h=>TxSet P w h a ls (!ZaK w)
theorem Zh6 {P:AG}{w:AI}{H:Hp}{h:Heap}{a:AD}{ls:Q22}(x:TxSet P w h a ls (!ZaK w)):ObjOk P w H h a (tset P w a ls):=by obtain⟨o,es,ep,t,ms,h1,r⟩:=id x;exact⟨x,⟨o,h1⟩,fun g1 g2 y k=>y.keep k⟩
noncomputable def ddl (ls:Q22):Q22:=ls.foldl addT []
theorem ZeN {ls:Q22}:dd (fun i=>ls.getD i []) ls.length=ddl ls:=by
 unfold dd ddl;congr 1;apply YCM
 .simp
 .intro n h1 h2;simp[h2]
theorem ZbC (hc:X.calm=true):Zcg X (.type "set") (fun xs H Q=>∃ls:Q22,ls.length<=1000/\((∃l,xs=[tx l]/\ls=signs l)\/∃a,xs=[.ref a]/\SqL X.K H a (ls.map tx))/\∀p,H p=none->Q (.ref p) (upd H p (tset X.prog X.w p (ddl ls)))):=by
 rintro BF s U H xs us Q I r ⟨ls,hz,hx,q⟩;have hb:ls.length+1<scanBound:=by show _<4096;omega
 have fin:∀(h':Heap) (tk:Nat),TxSet X.prog X.w h' s.heap.objs.size (ddl ls) (!ZaK X.w)->(∀b o,s.heap.get? b=some o->h'.get? b=some o)->EP X BF U Q (.ref s.heap.objs.size) { s with heap:=h',toks:=tk }:=fun h' tk hS k=>
  ⟨.ref s.heap.objs.size,_,I.laid (t':=tk) k (YAS _) (Zh6 hS),rfl,q _ I.fresh⟩
 rcases hx with⟨l,rfl,rfl⟩|⟨a,rfl,hq⟩
 .obtain⟨u,rfl,t,rfl⟩:=r.one;have hl:(signs l).length=l.length:=by unfold signs;rw[YAB]
  have e0:dd (fun i=>[l.getD i 0]) l.length=ddl (signs l):=by
   unfold dd ddl signs;congr 1;apply YCM
   .simp
   .intro n h1 h2;have:n<l.length:=by simpa using h2
    simp[this]
  refine ZgD (I.ok.hd hc) (ZfZ (prog:=X.prog) (w:=X.w) (s:=s) (l:=l) (t:=t)) F.sub_str_set F.sub_str_frozenset (by decide) (by rw[<-hl];exact hb) fun h' tk hS k _=>?_;rw[e0]at hS;exact fin h' tk hS k
 .obtain⟨u,rfl,ru⟩:=r.one;cases ru;obtain⟨its,rv,p,_⟩:=I.list hq;refine ZgD (I.ok.hd hc) (Zf0 (prog:=X.prog) (w:=X.w) (s:=s) p.isList rv) F.sub_list_set F.sub_list_frozenset (by decide) hb fun h' tk hS k _=>?_;rw[ZeN]at hS;exact fin h' tk hS k
theorem Zb4 (hc:X.calm=true):Zcg X (.builtin "sorted") (fun xs H Q=>∃a ls,xs=[.ref a]/\H a=some (tset X.prog X.w a ls)/\ls.length<64/\NewL ((Za3 ls).map tx) H Q):=by
 rintro BF s U H xs us Q I r ⟨a,ls,rfl,ha,h64,q⟩;obtain⟨u,rfl,ru⟩:=r.one;cases ru;have hS:TxSet X.prog X.w s.heap a ls (!ZaK X.w):=(I.hok a _ ha).1;refine Zhq (I.ok.hd hc) hS h64 fun s' b us e nw k hg ho hb rv=>?_;have hl:(Za3 ls).length<=sizeLine:=by rw[(ZaG ls).length_eq];exact YAK (YCT h64) (by rw[sizeLine_eq];decide)
 exact⟨.ref b,_,I.laid2 (o:=.lst ((Za3 ls).map tx)) ho hg k nw ⟨by rw[YAB];exact hl,us,e,rv,hb⟩,rfl,q b (I.hok.none_of nw)⟩
end
theorem Za4 {X:Cx}{x:Str}{l:Q11}{j:Nat}{pos:Pos}(h:x=⟨l.toArray⟩):PE X (.Constant (.str x) j pos) (tC (tx l)):=by subst h;exact Znj
theorem ZjQ {X:Cx} {x y:Str} {pos:Pos} (hg:Gl X x) (hm:∃t,X.mg x=some (.str y t)) (hd:(x == ("__debug__":Str))=false:=by decide):PE X (.Name x pos) (tC (.str y)):=by obtain⟨t,h⟩:=hm;exact Zgc hg h ⟨t,rfl⟩ hd
theorem Zer {X:Cx} {x:Str} {y:Int} {pos:Pos} (hg:Gl X x) (hm:∃t,X.mg x=some (.int y t)) (hd:(x == ("__debug__":Str))=false:=by decide):PE X (.Name x pos) (tC (.int y)):=by obtain⟨t,h⟩:=hm;exact Zgc hg h ⟨t,rfl⟩ hd
section
variable {CX:CXT}{P:AG}{w:AI}{K:Q4}{mg:AB}{base:Heap}{N:AJ}{qual:Str}{scope:Scope}{f:AD}{cd:Value}{A:AH}{outer:List Env}{s:AE}{H:Hp}{E:XK}{X:Cx}{e:AD}
theorem cxPr:(cxOf CX P w K mg base N qual scope f cd A outer s H E).prog=P:=rfl
theorem cxWo:(cxOf CX P w K mg base N qual scope f cd A outer s H E).w=w:=rfl
theorem suxK:(sux X e).K=X.K:=rfl
theorem ZoO:(sux X e).prog=X.prog:=rfl
theorem ZoN:(sux X e).w=X.w:=rfl
end
open PySem.W (Frag KeqHits)
section
variable {X:Cx}{K:Frag}
end
open PySem.W (Frag)
theorem Ziu {P:AG}{w:AI}{K:Frag}{mg:AB}{base:Heap}{N:AJ}{qual:Str}{scope:Scope}{f:AD}{cd:Value}{A:AH}{outer:List Env}{s0:AE}{H0:Hp}{E:XK}:
  Zcl (CXr P w) (cxOf (CXr P w) P w K mg base N qual scope f cd A outer s0 H0 E) E:=by
 intro BF U H s ev s' I hx;generalize hX:cxOf (CXr P w) P w K mg base N qual scope f cd A outer s0 H0 E=X at I hx ⊢;have eA:X.A=A.deeper (envOfC qual scope s0.heap.objs.size f cd):=by rw[<-hX];rfl
 have eS:X.stack=envOfC qual scope s0.heap.objs.size f cd::outer:=by rw[<-hX];rfl
 have eF:X.fs=frs outer:=by rw[<-hX];rfl
 have e0:X.s_0=s0:=by rw[<-hX];rfl
 have eH:X.H_0=H0:=by rw[<-hX];rfl
 have eX:X.ex=[]:=by rw[<-hX];rfl
 have ePr:X.prog=P:=by rw[<-hX];rfl
 have eW:X.w=w:=by rw[<-hX];rfl
 have hxe:∀ev s',wpAny (model P w) (A.deeper (envOfC qual scope s0.heap.objs.size f cd)) (leaving (envOfC qual scope s0.heap.objs.size f cd) ev) (fun _ s''=>CXr P w outer H0 s0 E ev s'') (fun e' s''=>CXr P w outer H0 s0 E e' s'') s'->X.xe ev s':=by intro ev s' z;rw[<-hX];exact z
 obtain⟨e,C,d,H',h1,B,rfl,hos,hbare,un,ok,he,kept,fl,up,hE⟩:=hx;refine hxe _ _ ?_;have hfr:(A.deeper (envOfC qual scope s0.heap.objs.size f cd)).frames=some (envOfC qual scope s0.heap.objs.size f cd::outer):=by rw[<-eA,<-eS];exact I.ok.frames
 have J:Inv X BF U H' { s' with heap:=h1 }:=I.call' (s':={ s' with heap:=h1 }) (ch:=[]) hos un (by rw[ePr,eW];exact ok) hbare (fun b hb=>by cases hb);rw[eS]at fl;refine ZhI hfr rfl fl fun h' fl' up'=>?_;have os:s'.os=s0.os:=by rw[hos,<-e0];exact I.os
 have un':Un (frs outer) [] H0 H' s0.heap h1:=by
  have:=J.base
  rwa [eF,eX,eH,e0]at this
 refine⟨e,C,d,H',h1,B,rfl,os,hbare,un',ok,he,fun b o hb hne hc=>?_,fl',up.trans up',hE⟩;rcases hc with hu | ⟨⟨o',ho'⟩,hn⟩
 .exact kept b o hb hne (.inl hu)
 .refine kept b o hb hne (.inr ⟨?_,fun z=>?_⟩)
  .have:=I.base;rw[eF,eX,eH,e0]at this;exact this.there b o' ho' (by simp)
  .rw[eS]at z;have z':b=s0.heap.objs.size\/b∈frs outer:=by have:=z;unfold frs at this;rw[List.filterMap_cons]at this;simpa [envOfC,frs] using this
   rcases z' with z' | z'
   .rw[z']at ho';exact absurd (YAN ho') (YBA _)
   .exact hn z'
section
variable {prog:AG}{w:AI}{A:AH}{E:Q33}{s:AE}
variable {z TI TO i1 i2:AD}{f1 f2:List AD}{n i:Nat}{P1 P2:Nat->Value->Prop}{S1 S2:Nat->Heap->Prop}{a b:Value}
end
section
variable {prog:AG}{w:AI}{A:AH}{E:Q33}{s:AE}{z TI TO i1 i2:AD}{f1 f2:List AD}{n i:Nat}{P1 P2:Nat->Value->Prop}{S1 S2:Nat->Heap->Prop}{a b:Value}
end
noncomputable def Itz (K:Q4)(a b:AD):It:=
  ⟨fun i H=>∃xs ys x y,SqT K H a xs/\SqT K H b ys/\xs.length=ys.length/\xs[i]?=some x/\ys[i]?=some y,
   fun i H v H'=>∃p x y,H p=none/\v=.ref p/\H'=upd H p (.tup [x,y])/\(∀xs,SqT K H a xs->xs[i]?=some x)/\∀ys,SqT K H b ys->ys[i]?=some y,
   fun i H=>∃xs ys,SqT K H a xs/\SqT K H b ys/\xs.length=ys.length/\xs.length=i⟩
section
variable {X:Cx}{es:List Expr}{x1:Nat}{tp:Pos}
end
section
variable {prog:AG}{w:AI}{A:AH}{E:Q33}{s:AE}{l I S:AD}{ls:Q22}{vs:AC}{R:Result->AE->Prop}{Q:Q33}
end
section
variable {X:Cx}{e:Expr}{ta:TA}{p p2 pos kpos:Pos}
noncomputable def repT (l:Q11)(n:Int):Q11:=(List.replicate n.toNat l).flatten
theorem ZfE (a:Array Nat):∀(n:Nat) (acc:Array Nat),((List.replicate n a).foldl (·++·) acc).toList=acc.toList++(List.replicate n a.toList).flatten
 | 0,acc=>by simp
 | n+1,acc=>by rw[YCw,YBy,ZfE a n,YCw];simp
theorem ZnS (l:Q11)(n:Int):Txt.mul ⟨l.toArray⟩ n=⟨(repT l n).toArray⟩:=by
 unfold Txt.mul repT;by_cases h1:n<1
 .rw[YAM h1];have:n.toNat=0:=by omega
  rw[this];rfl
 .rw[YAI h1];split
  .rename_i h
   rw[Bool.or_eq_true]at h;rcases h with h | h
   .have:n=1:=by simpa using h
    subst this;simp
   .have:l=[]:=by have:=beq_iff_eq.mp h;rw[Zde]at this;exact YCV.mp this
    subst this;simp
  .congr 1;apply Array.ext';rw[ZfE];simp
theorem Ziw:OpR X (binaryOp .Mult) (fun x y H Q=>∃l n,x=tx l/\y=.int n/\0<=n/\n<=1000/\l.length<=1000/\Q (tx (repT l n)) H):=by
 rintro BF s U H x y v u Q I rx ry ⟨l,n,rfl,rfl,h0,h1,h2,q⟩;obtain⟨t,rfl⟩:=rx;obtain⟨t',rfl⟩:=ry;have e1:(⟨l.toArray⟩:Str).length=l.length:=Zde l;refine SB.mul ⟨?_,fun a b=>?_,fun a b=>?_⟩ fun t2 k=>?_
 .simp only[Bool.or_eq_false_iff,decide_eq_false_iff_not];omega
 .rw[e1];have e3:(1000:Int)<=(2 ^ 63-1)/n:=by rw[Int.le_ediv_iff_mul_le (by omega)];omega
  omega
 .rw[e1];have:l.length*n.toNat<=1000*1000:=YDM h2 (by omega);unfold Builtin.Str.tooLong;simp only[decide_eq_false_iff_not];rw[sizeLine_eq];omega
 .rw[ZnS];exact⟨tx _,H,I.tok _,⟨_,rfl⟩,q⟩
end
open PySem.W (Frag)
theorem ZkK {X:Cx} {K:Frag} {T id:String} {name:Str} {o e:Expr} {es:List Expr} {to:TE} {t:TA} {BK BL:Pos} {r:V->List V->Hp->VK->Prop} (hK:X.K=K) (pa:PlainAttrs T) (slot:Slot T name id) (hty:typeOf (.builtin id)=pure (.type "method_descriptor")) (hm:MtR X id r) (ho:PE X o to) (ha:PA X (e::es) t)
  (hbase:attributeBase o name X.env (eval o X.env)=eval o X.env:=by rfl)
  (hfew:((backTo BL (starEach (e::es) X.env)).all (fun x=>!x.1)&&(backToKw BL (keywordEach [] X.env)).all (fun x=>x.1.isSome)&&decide ((e::es).length+([]:List Keyword).length+(if ([]:List Keyword).isEmpty then 0 else 1)<30))=true:=by rfl)
  (hline:(BK.endLine == BL.line)=true:=by rfl) (hs:starEach (e::es) X.env=(false,eval e X.env)::starEach es X.env:=by rfl) (hplain:(backTo BL (starEach es X.env)).any (·.1)=false:=by rfl):PE X (.Call (.Attribute o name BK) (e::es) [] BL) (tBM K T r to t):=by
 subst hK;exact Zdp pa slot hty hm ho ha hbase hfew hline hs hplain
def sNo:TS:=fun _ _ _=>False
theorem Zip {X:Cx}{st:Stmt}:PS X st sNo:=fun _ _ _ _ _ _ h=>h.elim
section
variable {X:Cx}{CX:CXT}{k:Nat}{L f:AD}{fd:AF}{ps:AJ}{sp:Sp}{E:XK}{x:Str}{pos BK np:Pos}{e:Expr}{es:List Expr}{t:TA}{ds:AC}{BO:List V}
theorem ZgS {pl:Sem Bool} (hg:Gl X x) (hm:X.mg x=some (.ref L)) (cr:ClsRead X.K L "__init__" (.ref f)) (F:FnOk X.prog X.w X.K X.mg X.base CX k f fd ps sp) (hr:Room k X.A) (hk:PySem.W.keepIn X.K (.ref f)=true) (hb:Binds X.K fd ps ds) (hd:Vals BO ds) (hx:Zcl CX X E)
  (ha:PA X (e::es) t) (hdb:(x == ("__debug__":Str))=false:=by decide) (hst:starEach (e::es) X.env=(false,eval e X.env)::starEach es X.env:=by rfl) (hpl:(backTo pos (starEach es X.env)).any (·.1)=false:=by rfl)
  (ht:eval (.Call (.Attribute (.Name x np) "__init__" BK) (e::es) [] pos) X.env=(do
   let ov <-eval (.Name x np) X.env
   standAt BK.atName
   let (f,first) <-holding [ov] (getMethod ov "__init__" pl)
   callWith pos f first (backTo pos (starEach (e::es) X.env)) (backToKw pos (keywordEach [] X.env))):=by rfl):PE X (.Call (.Attribute (.Name x np) "__init__" BK) (e::es) [] pos) (Zlh sp BO E t):=by
 intro BF s U H Q I h;refine YDN (pl:=pl) (Zco I hg hm ?_ hdb) ht;refine PySem.W.method_cls I.kIn cr.sp (PySem.W.cls_value I.kIn cr.rd cr.fd cr.hn ?_);refine YCZ (first:=[]) (h₀:=X.base) I.ok.mod.kin hk (thn (ha pos BF _ U H _ (I.tok _) h) fun us s1 ⟨vs,H1,I1,r,q⟩=>⟨I1.kIn,?_⟩) hst hpl;exact ZgF F hr hb hd hx I1 r q
end
def WhileRun (c:TT)(tb:TS)(D:Ends)(U:St)(H:Hp):Prop:=Zh8 c tb D U H
theorem Zlw {c:TT}{tb:TS}{D:Ends}{U:St}{H:Hp}:Zh8 c tb D U H=WhileRun c tb D U H:=rfl
theorem WhileRun.by {c:TT}{tb:TS}{D:Ends}{U:St}{H:Hp}(Pv:St->Hp->Prop)(μ:St->Hp->Nat)(h0:Pv U H)
  (hs:∀U H,Pv U H->∃b:Bool,(∀Q:Bool->Hp->Prop,(∀H1,Same H H1->Q b H1)->c U H Q)/\∀H1,Same H H1->if b=true then tb { D with nx:=fun U' H'=>Pv U' H'/\μ U' H'<μ U H,ct:=fun U' H'=>Pv U' H'/\μ U' H'<μ U H,bk:=D.nx } U H1 else D.nx U H1):WhileRun c tb D U H:=by
 refine⟨fun m U H=>m=μ U H/\Pv U H,⟨_,rfl,h0⟩,?_⟩;rintro m U H ⟨rfl,p⟩;obtain⟨b,hc,hb⟩:=hs U H p;refine hc _ fun H1 s1=>?_;have q:=hb H1 s1;cases b with
 | true=>exact⟨_,fun U' H' ⟨p',l⟩=>⟨_,l,rfl,p'⟩,q⟩
 | false=>exact q
noncomputable def wordsOf (l:Q11)(n:Nat):Q22:=Za3 (ddl ((List.range (l.length+1-n)).map fun i=>(l.drop i).take n))
theorem Zcj {x:Q11}:∀(ls acc:Q22),x∈ls.foldl addT acc↔x∈acc\/x∈ls
 | [],acc=>by simp
 | y::ls,acc=>by
  rw[YBy,Zcj ls];have h:x∈addT acc y↔x∈acc\/x=y:=by
   unfold addT;split
   .rename_i h
    constructor
    .exact .inl
    .rintro (q | q)
     .exact q
     .rw[q];exact h
   .rw[YAW,YAL]
  rw[h,YAT,or_assoc]
theorem Zdt {x:Q11}{ls:Q22}:x∈ddl ls↔x∈ls:=by unfold ddl;rw[Zcj];simp
theorem ZbN (ls:Q22):(ddl ls).Nodup:=by rw[<-ZeN];exact ZcK _
open PySem.W (Frag)
def AtW (l w:Q11)(i:Nat):Prop:=i+w.length<=l.length/\(l.drop i).take w.length=w
def Inf (w l:Q11):Prop:=∃i,AtW l w i
theorem ZbZ (l w:Q11)(i:Nat):StrLaws.At ⟨l.toArray⟩ ⟨w.toArray⟩ (⟨l.toArray⟩:Str).length i↔AtW l w i:=by
 have e1:(⟨l.toArray⟩:Str).length=l.length:=Zde l;have e2:(⟨w.toArray⟩:Str).length=w.length:=Zde w;unfold StrLaws.At AtW Builtin.Str.subAt;rw[e1,e2];refine and_congr_right fun h=>?_;have e3:l.toArray.extract i (i+w.length)=((l.drop i).take w.length).toArray:=by
  apply Array.ext';simp only[List.extract_toArray,List.extract_eq_take_drop];have:i+w.length-i=w.length:=by omega
  rw[this]
 show (l.toArray.extract i (i+w.length) == w.toArray)=true↔_;rw[e3,beq_iff_eq];exact⟨fun z=>by simpa using congrArg Array.toList z,fun z=>by rw[z]⟩
theorem AtW.nil (l:Q11):AtW l [] 0:=⟨by simp,by simp⟩
theorem Inf.nil (l:Q11):Inf [] l:=⟨0,AtW.nil l⟩
theorem Inf.len {w l:Q11}(h:Inf w l):w.length<=l.length:=by obtain⟨i,h,_⟩:=h;omega
theorem Inf.mem {w l:Q11}(h:Inf w l){c:Nat}(hc:c∈w):c∈l:=by obtain⟨i,_,h⟩:=h;rw[<-h]at hc;exact YAe (YAb hc)
theorem Inf.refl (l:Q11):Inf l l:=⟨0,by simp,by simp⟩
theorem AtW.trans {u v w:Q11}{i j:Nat}(h1:AtW v u i)(h2:AtW w v j):AtW w u (j+i):=by
 obtain⟨a1,b1⟩:=h1;obtain⟨a2,b2⟩:=h2;refine⟨by omega,?_⟩;have e:(w.drop (j+i)).take u.length=((((w.drop j).take v.length).drop i).take u.length):=by rw[List.drop_take,YCE,YCY];congr 1;omega
 rw[e,b2,b1]
theorem Inf.trans {u v w:Q11}(h1:Inf u v)(h2:Inf v w):Inf u w:=by obtain⟨i,h1⟩:=h1;obtain⟨j,h2⟩:=h2;exact⟨_,h1.trans h2⟩
theorem ZeE (w:Q11):Inf w.tail w:=by
 cases w with
 | nil=>exact Inf.nil _
 | cons c w=>exact⟨1,by simp;omega,by simp⟩
theorem ZeF (w:Q11):Inf w.dropLast w:=⟨0,by simp,by rw[YBo,YBC,YDQ]⟩
theorem ZlX {v w:Q11}(h:Inf v w)(hl:v.length<w.length):Inf v w.dropLast\/Inf v w.tail:=by
 obtain⟨i,h1,h2⟩:=h;cases i with
 | zero=>
  refine .inl ⟨0,by rw[YBC];omega,?_⟩;rw[YBo]at h2 ⊢;rw[YDQ,YCY];have:min v.length (w.length-1)=v.length:=by omega
  rw[this];exact h2
 | succ i=>
  refine .inr ⟨i,by rw[YDU];omega,?_⟩;rw[List.drop_tail];exact h2
theorem ZiW {v w:Q11}(h:Inf v w)(hl:w.length<=v.length):v=w:=by
 obtain⟨i,h1,h2⟩:=h;have hi:i=0:=by omega
 subst hi;rw[YBo,YAu hl]at h2;exact h2.symm
theorem ZaX {l x:Q11}{n:Nat}(hn:n<=l.length+1):x∈wordsOf l n↔x.length=n/\Inf x l:=by
 unfold wordsOf;rw[(ZaG _).mem_iff,Zdt,YAg];constructor
 .rintro⟨i,hi,rfl⟩;have hi:=YAn.mp hi;have hl:((l.drop i).take n).length=n:=by rw[YAZ,YAj];omega
  exact⟨hl,i,by omega,by rw[hl]⟩
 .rintro⟨rfl,i,h1,h2⟩;exact⟨i,YAn.mpr (by omega),h2⟩
theorem Zdb (l:Q11)(n:Nat):(wordsOf l n).length<=l.length+1:=by
 unfold wordsOf;rw[(ZaG _).length_eq];have:∀(ls acc:Q22),(ls.foldl addT acc).length<=acc.length+ls.length:=by
  intro ls;induction ls with
  | nil=>intro acc;simp
  | cons x ls ih=>
   intro acc;rw[YBy];refine YAK (ih _) ?_;unfold addT;split<;>simp<;>omega
 have h:=this ((List.range (l.length+1-n)).map fun i=>(l.drop i).take n) [];rw[YAB,YBF]at h;unfold ddl;simp only[YCg]at h;omega
noncomputable def ZcB (sh st:Q22)(h:Q11)(c:Nat):Bool:=decide ((h++[c]).tail∈sh)&&!decide (h++[c]∈st)
noncomputable def ZeB (sh st:Q22)(m h:Q11):Q22:=(m.filter (ZcB sh st h)).map fun c=>h++[c]
noncomputable def ZdP (sh st:Q22)(m:Q11):Q22:=sh.flatMap (ZeB sh st m)
noncomputable def ZcA (l m:Q11)(i:Nat):Q22:=(List.range i).flatMap fun k=>ZdP (wordsOf l k) (wordsOf l (k+1)) m
noncomputable def Zan (l m:Q11):Q22:=ZcA l m (l.length+1)
theorem Zdz (l m:Q11)(i:Nat):ZcA l m (i+1)=ZcA l m i++ZdP (wordsOf l i) (wordsOf l (i+1)) m:=by unfold ZcA;rw[YBr,List.flatMap_append,List.flatMap_singleton]
theorem Zft (sh st:Q22)(m h:Q11):(ZeB sh st m h).length<=m.length:=by unfold ZeB;rw[YAB];exact YAt _ _
theorem ZbA {α β:Type}{f:α->List β}{b:Nat}(h:∀x,(f x).length<=b):∀l:List α,(l.flatMap f).length<=l.length*b
 | []=>by simp
 | x::l=>by rw[List.flatMap_cons,YAF,YAd,Nat.succ_mul];have:=h x;have:=ZbA h l;omega
theorem ZiP (sh st:Q22)(m:Q11):(ZdP sh st m).length<=sh.length*m.length:=ZbA (Zft sh st m) sh
theorem Zds {sh st:Q22}{m w:Q11}:w∈ZdP sh st m↔∃h c,h∈sh/\c∈m/\w=h++[c]/\w.tail∈sh/\w∉st:=by
 unfold ZdP ZeB ZcB;simp only[YDT,YAg,YAr,YAQ,Bool.not_eq_true',decide_eq_true_iff,decide_eq_false_iff_not];constructor
 .rintro⟨h,hh,c,⟨hc,h1,h2⟩,rfl⟩;exact⟨h,c,hh,hc,rfl,h1,h2⟩
 .rintro⟨h,c,hh,hc,rfl,h1,h2⟩;exact⟨h,hh,c,⟨hc,h1,h2⟩,rfl⟩
structure Miss (l w:Q11):Prop where
 ne:w≠[]
 init:Inf w.dropLast l
 tail:Inf w.tail l
 no:¬Inf w l
theorem Zay {l m w:Q11}:w∈Zan l m↔Miss l w/\∃c∈m,w.getLast?=some c:=by
 unfold Zan ZcA;rw[YDT];constructor
 .rintro⟨k,hk,hw⟩;have hk:=YAn.mp hk;obtain⟨h,c,h1,hc,rfl,h3,h4⟩:=Zds.mp hw;rw[ZaX (by omega)]at h1 h3;refine⟨⟨by simp,by simpa using h1.2,h3.2,fun z=>h4 ((ZaX (by omega)).mpr ⟨by simp[h1.1],z⟩)⟩,c,hc,by simp⟩
 .rintro⟨⟨ne,hi,ht,hn⟩,c,hc,hl⟩;have e:w.dropLast++[c]=w:=by rw[YBl ne]at hl;have h:=YDa ne;rw[Option.some.inj hl]at h;exact h
  have BH:w.dropLast.length=w.length-1:=YBC;have h1:1<=w.length:=YBK.mpr ne;refine⟨w.length-1,YAn.mpr (by have:=hi.len;omega),Zds.mpr ⟨w.dropLast,c,?_,hc,e.symm,?_,?_⟩⟩
  .rw[ZaX (by have:=hi.len;omega)];exact⟨BH,hi⟩
  .rw[ZaX (by have:=hi.len;omega)];exact⟨YDU,ht⟩
  .rw[ZaX (by have:=hi.len;omega)];exact fun z=>hn z.2
theorem ZeA {l m:Q11}:∀(n:Nat) (w:Q11),w.length=n->(∀c∈w,c∈m)->¬Inf w l->∃v,v∈Zan l m/\Inf v w:=by
 intro n;induction n with
 | zero=>
  intro w hw _ hn;have:w=[]:=YCV.mp hw;rw[this]at hn;exact absurd (Inf.nil l) hn
 | succ n ih=>
  intro w hw hm hn;have ne:w≠[]:=fun e=>by rw[e]at hw;simp at hw
  by_cases hi:Inf w.dropLast l
  .by_cases ht:Inf w.tail l
   .refine⟨w,Zay.mpr ⟨⟨ne,hi,ht,hn⟩,w.getLast ne,hm _ (List.getLast_mem ne),YBl ne⟩,Inf.refl w⟩
   .obtain⟨v,h1,h2⟩:=ih w.tail (by rw[YDU];omega) (fun c hc=>hm c (List.mem_of_mem_tail hc)) ht;exact⟨v,h1,h2.trans (ZeE w)⟩
  .obtain⟨v,h1,h2⟩:=ih w.dropLast (by rw[YBC];omega) (fun c hc=>hm c (YAb (by rw[<-YDQ];exact hc))) hi;exact⟨v,h1,h2.trans (ZeF w)⟩
theorem Zcz {l m w:Q11}(hm:∀c∈w,c∈m):Inf w l↔∀v∈Zan l m,¬Inf v w:=by
 constructor
 .intro h v hv hw;exact(Zay.mp hv).1.no (hw.trans h)
 .intro h;by_cases hi:Inf w l
  .exact hi
  .obtain⟨v,h1,h2⟩:=ZeA (m:=m) _ w rfl hm hi;exact absurd h2 (h v h1)
theorem same_upd3' {H H2:Hp}{e:AD}{o':HO}(h:H e=none)(s:Same H H2):Same H (upd H2 e o'):=fun b u hb=>by
 have:b≠e:=fun z=>by rw[z,h]at hb;cases hb
 rw[Zai this];exact s _ _ hb
section
variable {tt:TT}{te:TE}{Q:VK}{τ0:St}{H:Hp}{K:Frag}{a:AD}{xs:List V}
theorem CompRun.listL (b:Nat->Bool)(f:Nat->V)(hz:xs.length<=100000)(hx:SqL K H a xs)
  (ht:∀i H' Q' (h:i<xs.length),Same H H'->(∀H'',Same H' H''->Q' (b i) H'')->tt (τ0.set 0 (some (xs.getD i .non))) H' Q')
  (he:∀i H' Q' (h:i<xs.length),b i=true->Same H H'->(∀H'',Same H' H''->Q' (f i) H'')->te (τ0.set 0 (some (xs.getD i .non))) H' Q')
  (hQ:∀p H',Same H H'->H p=none->H' p=some (.lst (((List.range xs.length).filter b).map f))->Q (.ref p) H'):CompRun (Itl K a) τ0 (ZbW 0) tt te H Q:=by
 intro acc ha;refine⟨fun i m τ H2=>i<=xs.length/\m=xs.length-i/\(∀w:Option V,τ.set 0 w=τ0.set 0 w)/\Same H H2/\H2 acc=some (.lst (((List.range i).filter b).map f)),⟨xs.length,YAv _,rfl,fun _=>rfl,Zav ha,Zag⟩,?_⟩;rintro i m τ H2 ⟨hi,rfl,hτ,hs,BI⟩;by_cases BP:i<xs.length
 .refine .inr ⟨⟨xs,xs[i],hs.seq hx,by simp[BP]⟩,fun τ' H'=>(∀w:Option V,τ'.set 0 w=τ0.set 0 w)/\Same H H'/\H' acc=some (.lst (((List.range (i+1)).filter b).map f)),fun τ' H' q=>⟨xs.length-(i+1),by omega,BP,rfl,q⟩,fun x H3 y=>?_⟩;obtain⟨rfl,y⟩:=y;have ex:x=xs.getD i .non:=by rw[YAR,y xs (hs.seq hx)];rfl
  subst ex;show tt (τ.set 0 (some (xs.getD i .non))) _ _;rw[hτ];have hτ':∀w:Option V,(τ0.set 0 (some (xs.getD i .non))).set 0 w=τ0.set 0 w:=fun w=>by rw[List.set_set]
  refine ht i _ _ BP hs fun H4 s4=>?_;cases hb:b i with
  | false=>
   rw[YAI YAC];refine⟨hτ',hs.trans s4,?_⟩;rw[s4 _ _ BI,YBr,YBs];simp[hb]
  | true=>
   rw[YAM rfl];refine he i _ _ BP hb (hs.trans s4) fun H5 s5=>⟨_,s5 _ _ (s4 _ _ BI),?_,hτ',same_upd3' ha ((hs.trans s4).trans s5),?_⟩
   .rw[YAB];have:=YAt b (List.range i);rw[YBF]at this;rw[sizeLine_eq];omega
   .rw[Zag,YBr,YBs];simp[hb]
 .have e:i=xs.length:=by omega
  subst e;exact .inl ⟨⟨xs,hs.seq hx,YAS _⟩,hQ acc H2 hs ha BI⟩
theorem CompRun.tups (P:Nat->List V->Prop)(hz:xs.length<=100000)(hx:SqL K H a xs)
  (he:∀i H' Q' (h:i<xs.length),Same H H'->(∀p vs H'',Same H' H''->H'' p=some (.tup vs)->P i vs->Q' (.ref p) H'')->te (τ0.set 0 (some (xs.getD i .non))) H' Q')
  (hQ:∀p ys H',Same H H'->H p=none->H' p=some (.lst ys)->ys.length=xs.length->(∀i y,ys[i]?=some y->∃t vs,y=.ref t/\H' t=some (.tup vs)/\P i vs)->Q (.ref p) H'):CompRun (Itl K a) τ0 (ZbW 0) tAll te H Q:=by
 intro acc ha;refine⟨fun i m τ H2=>i<=xs.length/\m=xs.length-i/\(∀w:Option V,τ.set 0 w=τ0.set 0 w)/\Same H H2/\∃ys,H2 acc=some (.lst ys)/\ys.length=i/\∀i y,ys[i]?=some y->∃t vs,y=.ref t/\H2 t=some (.tup vs)/\P i vs,
  ⟨xs.length,YAv _,rfl,fun _=>rfl,Zav ha,[],Zag,rfl,fun i y h=>by simp at h⟩,?_⟩
 rintro i m τ H2 ⟨hi,rfl,hτ,hs,ys,BI,BH,hall⟩;by_cases BP:i<xs.length
 .refine .inr ⟨⟨xs,xs[i],hs.seq hx,by simp[BP]⟩,fun τ' H'=>(∀w:Option V,τ'.set 0 w=τ0.set 0 w)/\Same H H'/\∃ys,H' acc=some (.lst ys)/\ys.length=i+1/\∀i y,ys[i]?=some y->∃t vs,y=.ref t/\H' t=some (.tup vs)/\P i vs,fun τ' H' q=>⟨xs.length-(i+1),by omega,BP,rfl,q⟩,fun x H3 y=>?_⟩;obtain⟨rfl,y⟩:=y;have ex:x=xs.getD i .non:=by rw[YAR,y xs (hs.seq hx)];rfl
  subst ex;unfold ZbW tAll;dsimp only;rw[YAM rfl,hτ];have hτ':∀w:Option V,(τ0.set 0 (some (xs.getD i .non))).set 0 w=τ0.set 0 w:=fun w=>by rw[List.set_set]
  refine he i _ _ BP hs fun p vs H5 s5 hp hP=>⟨ys,s5 _ _ BI,by rw[BH,sizeLine_eq];omega,hτ',same_upd3' ha (hs.trans s5),ys++[.ref p],Zag,by simp[BH],fun j z hz'=>?_⟩;have ne:∀ {t:AD} {us:List V},H5 t=some (.tup us)->t≠acc:=fun h e=>by rw[e,s5 _ _ BI]at h;cases h
  by_cases hj:j<ys.length
  .rw[YAx hj]at hz';obtain⟨t,us,rfl,h1,h2⟩:=hall j z hz';have h1':=s5 _ _ h1;exact⟨t,us,rfl,by rw[Zai (ne h1')];exact h1',h2⟩
  .rw[YAw (by omega)]at hz';have hj':j-ys.length=0:=by
    rcases Nat.eq_zero_or_pos (j-ys.length) with h | h
    .exact h
    .rw[YBI (by simp;omega)]at hz';cases hz'
   rw[hj']at hz';cases hz';have:j=i:=by omega
   exact⟨p,vs,rfl,by rw[Zai (ne hp)];exact hp,by rw[this];exact hP⟩
 .have e:i=xs.length:=by omega
  subst e;exact .inl ⟨⟨xs,hs.seq hx,YAS _⟩,hQ acc ys H2 hs ha BI BH hall⟩
end
section
variable {te:TE}{Q:VK}{τ0:St}{H:Hp}{K:Frag}
theorem CompRun.inv {J:It}{n:Nat}(v:Nat->V)(hz:n<=100000)(Pv:AD->Nat->List V->Hp->Prop)(h0:∀acc,H acc=none->Pv acc 0 [] (upd H acc (.lst [])))
  (hgo:∀acc i ys H',i<n->Pv acc i ys H'->J.go i H') (hst:∀acc ys H',Pv acc n ys H'->J.stop n H') (hy:∀acc i ys H' x H3,i<n->Pv acc i ys H'->J.yld i H' x H3->H3=H'/\x=v i)
  (he:∀acc i ys H' (Q':VK),H acc=none->i<n->ys.length=i->Pv acc i ys H'->(∀y H6,H6 acc=some (.lst ys)->Pv acc (i+1) (ys++[y]) (upd H6 acc (.lst (ys++[y])))->Q' y H6)->te (τ0.set 0 (some (v i))) H' Q')
  (hQ:∀acc ys H',H acc=none->ys.length=n->Pv acc n ys H'->Q (.ref acc) H'):CompRun J τ0 (ZbW 0) tAll te H Q:=by
 intro acc ha;refine⟨fun i m τ H2=>i<=n/\m=n-i/\(∀w:Option V,τ.set 0 w=τ0.set 0 w)/\∃ys,ys.length=i/\Pv acc i ys H2,⟨n,YAv _,rfl,fun _=>rfl,[],rfl,h0 acc ha⟩,?_⟩;rintro i m τ H2 ⟨hi,rfl,hτ,ys,hl,hp⟩;by_cases BP:i<n
 .refine .inr ⟨hgo acc i ys H2 BP hp,fun τ' H'=>(∀w:Option V,τ'.set 0 w=τ0.set 0 w)/\∃ys,ys.length=i+1/\Pv acc (i+1) ys H',fun τ' H' q=>⟨n-(i+1),by omega,BP,rfl,q⟩,fun x H3 y=>?_⟩;obtain⟨rfl,rfl⟩:=hy acc i ys H2 x H3 BP hp y;show te (τ.set 0 (some (v i))) _ _;rw[hτ];have hτ':∀w:Option V,(τ0.set 0 (some (v i))).set 0 w=τ0.set 0 w:=fun w=>by rw[List.set_set]
  exact he acc i ys _ _ ha BP hl hp fun y H6 h1 h3=>⟨ys,h1,by rw[hl,sizeLine_eq];omega,hτ',_,by rw[YAF,hl];rfl,h3⟩
 .have e:i=n:=by omega
  subst e;exact .inl ⟨hst acc ys H2 hp,hQ acc ys H2 ha hl hp⟩
theorem CompRun.invR {lo:Int}{n:Nat}(hz:n<=100000)(Pv:AD->Nat->List V->Hp->Prop)(h0:∀acc,H acc=none->Pv acc 0 [] (upd H acc (.lst [])))
  (he:∀acc (i:Nat) ys H' (Q':VK),H acc=none->i<n->ys.length=i->Pv acc i ys H'->(∀y H6,H6 acc=some (.lst ys)->Pv acc (i+1) (ys++[y]) (upd H6 acc (.lst (ys++[y])))->Q' y H6)->te (τ0.set 0 (some (.int (lo+i)))) H' Q')
  (hQ:∀acc ys H',H acc=none->ys.length=n->Pv acc n ys H'->Q (.ref acc) H'):CompRun (Itr lo n) τ0 (ZbW 0) tAll te H Q:=
 .inv (fun i=>.int (lo+i)) hz Pv h0 (fun _ i _ _ h _=>h) (fun _ _ _ _=>YAS _) (fun _ i _ H' x H3 _ _ y=>y) he hQ
theorem CompRun.invL {a:AD}{xs:List V}(hz:xs.length<=100000)(Pv:AD->Nat->List V->Hp->Prop)(hx:∀acc i ys H',Pv acc i ys H'->SqL K H' a xs)(h0:∀acc,H acc=none->Pv acc 0 [] (upd H acc (.lst [])))
  (he:∀acc (i:Nat) ys H' (Q':VK),H acc=none->i<xs.length->ys.length=i->Pv acc i ys H'->(∀y H6,H6 acc=some (.lst ys)->Pv acc (i+1) (ys++[y]) (upd H6 acc (.lst (ys++[y])))->Q' y H6)->te (τ0.set 0 (some (xs.getD i .non))) H' Q')
  (hQ:∀acc ys H',H acc=none->ys.length=xs.length->Pv acc xs.length ys H'->Q (.ref acc) H'):CompRun (Itl K a) τ0 (ZbW 0) tAll te H Q:=
 .inv (fun i=>xs.getD i .non) hz Pv h0 (fun acc i ys H' h p=>⟨xs,xs[i],hx acc i ys H' p,by simp[h]⟩) (fun acc ys H' p=>⟨xs,hx acc _ ys H' p,YAS _⟩) (fun acc i ys H' x H3 h p y=>by obtain⟨e,y⟩:=y;refine⟨e,?_⟩;rw[YAR,y xs (hx acc i ys H' p)];rfl) he hQ
end
theorem Zf4:∀(j a b:Nat),b % 2=1->2 ^ j∣a*b->2 ^ j∣a
 | 0,a,b,_,_=>⟨a,by simp⟩
 | j+1,a,b,hb,⟨c,hc⟩=>by
  have ev:a % 2=0:=by
   have h2:a*b % 2=0:=by rw[hc,YCD,YBV,YCf,YBV];exact Nat.mul_mod_right 2 _
   rw[Nat.mul_mod,hb]at h2;omega
  obtain⟨a',rfl⟩:∃a',a=2*a':=⟨a/2,by omega⟩;have h3:2*(a'*b)=2*(2 ^ j*c):=by rw[<-YBV,hc,YCD,YCf (2 ^ j) 2,YBV]
  obtain⟨d,hd⟩:=Zf4 j a' b hb ⟨c,Nat.eq_of_mul_eq_mul_left (by decide) h3⟩;exact⟨d,by rw[hd,YCD,YCf (2 ^ j) 2,YBV]⟩
theorem ZeI:∀n:Nat,∃e,5 ^ n=4*e+1
 | 0=>⟨0,rfl⟩
 | n+1=>by obtain⟨e,he⟩:=ZeI n;exact⟨5*e+1,by rw[YCD,he];omega⟩
theorem Zg9:∀(k n c:Nat),5 ^ n=2 ^ (k+2)*c+1->2 ^ k∣n
 | 0,n,c,_=>⟨n,by simp⟩
 | k+1,n,c,h=>by
  obtain⟨e,he⟩:=ZeI (n/2);have sq:5 ^ (2*(n/2))=8*(e*(2*e+1))+1:=by
   rw[Nat.pow_mul',he];have:(4*e+1) ^ 2=8*(e*(2*e+1))+1:=by
    rw[YCD,Nat.pow_one,Nat.mul_add e,Nat.mul_one,Nat.mul_add (4*e+1),Nat.mul_one,Nat.add_mul,Nat.one_mul,Nat.mul_left_comm e 2 e];have:4*e*(4*e)=16*(e*e):=by rw[Nat.mul_mul_mul_comm]
    rw[this];omega
   exact this
  have p3:2 ^ (k+1+2)=8*2 ^ k:=by rw[show k+1+2=k+3 from rfl,Nat.pow_add,YCf]
  rw[p3]at h;by_cases ev:n % 2=0
  .have en:2*(n/2)=n:=by omega
   rw[en,h,YBV]at sq;have:2 ^ k*c=e*(2*e+1):=by omega
   obtain⟨d,hd⟩:=Zf4 k e (2*e+1) (by omega) ⟨c,this.symm⟩;have:=Zg9 k (n/2) d (by rw[he,hd,Nat.pow_add];rw[show (2:Nat) ^ 2=4 from rfl,YCf (2 ^ k) 4,YBV]);obtain⟨q,hq⟩:=this;exact⟨q,by rw[YCD,YCf (2 ^ k) 2,YBV,<-hq];exact en.symm⟩
  .exfalso;have en:n=2*(n/2)+1:=by omega
   rw[en,YCD,sq,YBV]at h;omega
noncomputable def hop (N:Nat):Nat->Nat->Nat
 | 0,i=>i
 | n+1,i=>hop N n ((i*5+1) % N)
theorem ZiY {N:Nat}(hN:0<N):∀(n i:Nat),i<N->hop N n i<N
 | 0,i,h=>h
 | n+1,i,h=>ZiY hN n _ (Nat.mod_lt _ hN)
theorem ZiZ {N:Nat}:∀(a b i:Nat),hop N (a+b) i=hop N b (hop N a i)
 | 0,b,i=>by rw[Nat.zero_add];rfl
 | a+1,b,i=>by rw[Nat.add_right_comm];exact ZiZ a b _
theorem Zg3 {N:Nat}:∀(n i:Nat),∃c d,4*hop N n i+1+4*N*c=5 ^ n*(4*i+1)+4*N*d
 | 0,i=>⟨0,0,by simp[hop]⟩
 | n+1,i=>by
  obtain⟨c,d,h⟩:=Zg3 (N:=N) n ((i*5+1) % N);have e:=Nat.div_add_mod (i*5+1) N;refine⟨c+5 ^ n*((i*5+1)/N),d,?_⟩;show 4*hop N n ((i*5+1) % N)+1+4*N*(c+5 ^ n*((i*5+1)/N))=_;have h5:5 ^ (n+1)*(4*i+1)=5 ^ n*(4*(i*5+1)+1):=by rw[YCD,YBV];congr 1;omega
  have h6:5 ^ n*(4*(i*5+1)+1)=5 ^ n*(4*((i*5+1) % N)+1)+4*N*(5 ^ n*((i*5+1)/N)):=by
   have:4*(i*5+1)+1=(4*((i*5+1) % N)+1)+4*(N*((i*5+1)/N)):=by omega
   rw[this,Nat.mul_add];congr 1;rw[Nat.mul_left_comm,YBV 4 N,Nat.mul_left_comm (5 ^ n) N]
  rw[h5,h6,Nat.mul_add];omega
theorem Zkd {k n i:Nat}(hi:i<2 ^ k)(h:hop (2 ^ k) n i=i):2 ^ k∣n:=by
 obtain⟨c,d,e⟩:=Zg3 (N:=2 ^ k) n i;rw[h]at e;obtain⟨q,hq⟩:=ZeI n;rw[hq,Nat.add_mul,Nat.one_mul]at e;have e2:2 ^ k*c=q*(4*i+1)+2 ^ k*d:=by have a1:4*2 ^ k*c=4*(2 ^ k*c):=YBV _ _ _;have a2:4*2 ^ k*d=4*(2 ^ k*d):=YBV _ _ _;have a3:4*q*(4*i+1)=4*(q*(4*i+1)):=YBV _ _ _;omega
 have dv:2 ^ k∣q*(4*i+1):=(Nat.dvd_add_iff_left ⟨d,rfl⟩).mpr ⟨c,e2.symm⟩;obtain⟨r,hr⟩:=Zf4 k q (4*i+1) (by omega) dv;refine Zg9 k n r ?_;rw[hq,hr,Nat.pow_add,show (2:Nat) ^ 2=4 from rfl,YCf (2 ^ k) 4,YBV]
theorem ZiB {N:Nat}{l:Q11}(nd:l.Nodup)(hl:l.length=N)(hb:∀x∈l,x<N){j:Nat}(hj:j<N):j∈l:=by
 refine Classical.byContradiction fun n=>?_;have len:∀(l m:Q11),l.Nodup->(∀x∈l,x∈m)->l.length<=m.length:=by
  intro l;induction l with
  | nil=>intro m _ _;exact YAv _
  | cons x l ih=>
   intro m nd h;have hx:=h x YAY;have nd':=YBU.mp nd;have:=ih (m.erase x) nd'.2 fun y hy=>(YDY (fun e=>by rw[e]at hy;exact nd'.1 hy)).mpr (h y (YAP _ hy));rw[List.length_erase_of_mem hx]at this;have pos:0<m.length:=List.length_pos_of_mem hx;rw[YAd];omega
 have:=len (j::l) (List.range N) (YBU.mpr ⟨n,nd⟩) fun x hx=>by
  rcases YAT.mp hx with z | z
  .rw[z];exact YAn.mpr hj
  .exact YAn.mpr (hb x z)
 rw[YAd,YBF]at this;omega
theorem Zl0 {k i j:Nat}(hi:i<2 ^ k)(hj:j<2 ^ k):∃n,n<2 ^ k/\hop (2 ^ k) n i=j:=by
 have pos:0<2 ^ k:=Nat.two_pow_pos k;have lt:∀a b,a<b->b<2 ^ k->hop (2 ^ k) a i≠hop (2 ^ k) b i:=fun a b ab bl e=>by
  have:b=a+(b-a):=by omega
  rw[this,ZiZ]at e;have dv:=Zkd (ZiY pos a i hi) e.symm;have:=Nat.le_of_dvd (by omega) dv;omega
 have nd:((List.range (2 ^ k)).map fun n=>hop (2 ^ k) n i).Nodup:=by unfold List.Nodup;rw[YBE];exact List.Pairwise.imp_of_mem (fun {a b} ha hb (h:a<b)=>lt a b h (YAn.mp hb)) (List.pairwise_lt_range (n:=2 ^ k))
 have:=ZiB nd (by simp) (fun x hx=>by obtain⟨n,_,rfl⟩:=YAg.mp hx;exact ZiY pos n i hi) hj
 obtain⟨n,hn,e⟩:=YAg.mp this;exact⟨n,YAn.mp hn,e⟩
section
variable {mask k j:Nat}{owner:Array (Option Nat)}
theorem Zm6 (mask i:Nat):0<SetTable.runEnd mask i+1-i:=by unfold SetTable.runEnd;split<;>omega
theorem ZfC {BN i p:Nat}{R:Option Nat->Prop}(h1:∀x,owner.getD x (some 0)=none->R (some x))(h2:owner.getD i (some 0)≠none->R (SetTable.layClean.free mask owner BN ((i*5+1+p/32) % (mask+1)) (p/32))):
  R (SetTable.layClean.free mask owner (BN+1) i p):=by
 unfold SetTable.layClean.free;cases hf:(List.range (SetTable.runEnd mask i+1-i)).find? fun k=>(owner.getD (i+k) (some 0)).isNone with
 | some d=>
  have:=List.find?_some hf;exact h1 (i+d) (Option.isNone_iff_eq_none.mp this)
 | none=>
  refine h2 fun e=>?_;have:=List.find?_eq_none.mp hf 0 (YAn.mpr (Zm6 mask i));rw[Nat.add_zero,e]at this;exact this rfl
theorem ZfB (hj:owner.getD j (some 0)=none):∀(BN n i:Nat),n<BN->hop (mask+1) n i=j->∃x,SetTable.layClean.free mask owner BN i 0=some x/\owner.getD x (some 0)=none
 | 0,n,i,h,_=>absurd h (Nat.not_lt_zero _)
 | BN+1,n,i,h,e=>by
  refine ZfC (R:=fun r=>∃x,r=some x/\owner.getD x (some 0)=none) (fun x hx=>⟨x,rfl,hx⟩) fun ne=>?_;cases n with
  | zero=>exact absurd (by rw[show i=j from e];exact hj) ne
  | succ n=>exact ZfB hj BN n _ (by omega) e
theorem Zi2 (hk:mask+1=2 ^ k)(hj:owner.getD j (some 0)=none)(hl:j<mask+1):∀(c BN i p:Nat),p<32 ^ c->c+mask+1<=BN->i<mask+1->∃x,SetTable.layClean.free mask owner BN i p=some x/\owner.getD x (some 0)=none
 | 0,BN,i,p,hp,hf,hi=>by
  have:p=0:=by simpa using hp
  subst this;obtain⟨n,hn,e⟩:=Zl0 (k:=k) (i:=i) (j:=j) (by omega) (by omega);rw[<-hk]at e hn;exact ZfB hj BN n i (by omega) e
 | c+1,0,i,p,hp,hf,hi=>by omega
 | c+1,BN+1,i,p,hp,hf,hi=>by refine ZfC (R:=fun r=>∃x,r=some x/\owner.getD x (some 0)=none) (fun x hx=>⟨x,rfl,hx⟩) fun _=>?_;exact Zi2 hk hj hl c BN _ _ (Nat.div_lt_of_lt_mul (by rw[YCD,YCf]at hp;exact hp)) (by omega) (Nat.mod_lt _ (Nat.succ_pos _))
theorem ZfD:∀ {l:List (Option Nat)},(l.filterMap id).length<l.length->∃j:Nat,l[j]?=some none
 | [],h=>by simp at h
 | none::l,_=>⟨0,rfl⟩
 | some x::l,h=>by have e:(some x::l).filterMap id=x::l.filterMap id:=rfl;rw[e,YAd,YAd]at h;obtain⟨j,e⟩:=ZfD (l:=l) (by omega);exact⟨j+1,e⟩
theorem ZmV {l:List (Option Nat)}{j x:Nat}(h:l[j]?=some none):((l.set j (some x)).filterMap id).Perm (l.filterMap id++[x]):=by
 obtain⟨hj,e⟩:=YAa.mp h;have e1:l=l.take j++none::l.drop (j+1):=by
  conv=>lhs;rw[<-YAq j l,YCs hj,e]
 have e2:l.set j (some x)=l.take j++some x::l.drop (j+1):=by rw[List.set_eq_take_append_cons_drop,YAM hj]
 have e3:l.filterMap id=(l.take j).filterMap id++(l.drop (j+1)).filterMap id:=by
  conv=>lhs;rw[e1]
  rw[List.filterMap_append];rfl
 have e4:(some x::l.drop (j+1)).filterMap id=x::(l.drop (j+1)).filterMap id:=rfl;rw[e2,e3,List.filterMap_append,e4,YAm];exact(List.perm_append_singleton x _).symm.append_left _
noncomputable def layF (mask:Nat)(acc:Option (Array (Option Nat)×Nat))(h:Int):Option (Array (Option Nat)×Nat):=do
 let (owner,k) <-acc
 let j <-SetTable.layClean.free mask owner (SetTable.turns mask) (SetTable.bits h % (mask+1)) (SetTable.bits h)
 pure (owner.setIfInBounds j (some k),k+1)
theorem Zg0 (hk:mask+1=2 ^ k):∀(hs:List Int) (owner:Array (Option Nat)) (n:Nat),owner.size=mask+1->(owner.toList.filterMap id).Perm (List.range n)->n+hs.length<=mask+1 ->
  ∃o',hs.foldl (layF mask) (some (owner,n))=some (o',n+hs.length)/\o'.size=mask+1/\(o'.toList.filterMap id).Perm (List.range (n+hs.length))
 | [],owner,n,h1,h2,_=>⟨owner,rfl,h1,h2⟩
 | h::hs,owner,n,h1,h2,h3=>by
  rw[YAd]at h3;obtain⟨j,hj⟩:=ZfD (l:=owner.toList) (by rw[h2.length_eq,YBF,YAG];omega);have jl:j<mask+1:=by have:=(YAa.mp hj).1;rw[YAG]at this;omega
  have hjd:owner.getD j (some 0)=none:=by rw[YAl]at hj;rw[Array.getD_eq_getD_getElem?,hj];rfl
  have bl:SetTable.bits h<32 ^ 13:=by
   unfold SetTable.bits;have a1:=YBJ h (show (2 ^ 64:Int)≠0 by decide);have a2:=YAz h (show (0:Int)<2 ^ 64 by decide);have:(32:Nat) ^ 13=36893488147419103232:=by decide
   rw[this];omega
  obtain⟨x,hx,hn⟩:=Zi2 hk hjd jl 13 (SetTable.turns mask) (SetTable.bits h % (mask+1)) (SetTable.bits h) bl (by unfold SetTable.turns;omega) (Nat.mod_lt _ (Nat.succ_pos _));have hx2:owner.toList[x]?=some none:=by
   rw[Array.getD_eq_getD_getElem?]at hn;rw[YAl];cases e:owner[x]? with
   | none=>rw[e]at hn;cases hn
   | some v=>rw[e]at hn;exact congrArg some hn
  have st:layF mask (some (owner,n)) h=some (owner.setIfInBounds x (some n),n+1):=by show (SetTable.layClean.free mask owner (SetTable.turns mask) (SetTable.bits h % (mask+1)) (SetTable.bits h) >>= fun j=>pure (owner.setIfInBounds j (some n),n+1))=_;rw[hx];rfl
  rw[YBy,st,YAd,show n+(hs.length+1)=n+1+hs.length by omega];refine Zg0 hk hs _ (n+1) (by rw[Array.size_setIfInBounds];exact h1) ?_ (by omega);rw[YCo,YBr];exact(ZmV hx2).trans (h2.append_right [n])
theorem Zn2 {hs:Array Int}(hk:mask+1=2 ^ k)(hn:hs.size<=mask+1):∃o,SetTable.layClean mask hs=some o/\o.size=mask+1/\(o.toList.filterMap id).Perm (List.range hs.size):=by obtain⟨o,e,h1,h2⟩:=Zg0 (k:=k) hk hs.toList (Array.replicate (mask+1) none) 0 (by simp) (by simp) (by rw[YAG];omega);refine⟨o,?_,h1,by rw[Nat.zero_add,YAG]at h2;exact h2⟩;unfold SetTable.layClean;rw[<-Array.foldl_toList];show (hs.toList.foldl (layF mask) (some (Array.replicate (mask+1) none,0))).map (·.1)=some o;rw[e];rfl
theorem ZiM {hs:Array Int}{finger moves:Nat}{led plain:Bool}(hk:mask+1=2 ^ k)(hn:hs.size<=mask+1):∃t order,SetTable.laid mask finger moves led plain hs=some (t,order)/\order.toList.Perm (List.range hs.size)/\t.mask=mask/\t.place.size=hs.size/\t.dummies=#[]/\t.led=led/\t.plain=plain:=by
 obtain⟨o,e,h1,h2⟩:=Zn2 (hs:=hs) hk hn;have e3:((List.range (mask+1)).filterMap fun j=>(o.getD j none).map (j,·)).map (·.2)=o.toList.filterMap id:=by
  have e4:o.toList=(List.range (mask+1)).map fun j=>o.getD j none:=by
   apply YCM (by simp[h1]);intro i a b;have:i<o.size:=by simpa using a
   simp[Array.getD_eq_getD_getElem?,this]
  rw[e4,List.filterMap_map,List.map_filterMap];congr 1;funext j;show _=o.getD j none;cases o.getD j none<;>rfl
 refine⟨{ mask,place:=(((List.range (mask+1)).filterMap fun j=>(o.getD j none).map (j,·)).map (·.1)).toArray,dummies:=#[],finger,led,moves,plain },(((List.range (mask+1)).filterMap fun j=>(o.getD j none).map (j,·)).map (·.2)).toArray,?_,?_,rfl,?_,rfl,rfl,rfl⟩
 .unfold SetTable.laid;rw[e];rfl
 .rw[List.toList_toArray,e3];exact h2
 .have:=congrArg List.length e3;rw[YAB,h2.length_eq,YBF]at this;rw[YAJ,YAB];exact this
end
theorem ZfW (n:Nat):∀(BN size:Nat),(∃k,size=2 ^ k)->∃k,SetTable.sizeAbove.go n BN size=2 ^ k
 | 0,size,h=>h
 | BN+1,size,⟨k,h⟩=>by
  unfold SetTable.sizeAbove.go;split
  .exact ZfW n BN _ ⟨k+1,by rw[h,YCD]⟩
  .exact⟨k,h⟩
theorem Zhl (n:Nat):∀(BN size:Nat),n<size*2 ^ BN->n<SetTable.sizeAbove.go n BN size
 | 0,size,h=>by simpa [SetTable.sizeAbove.go] using h
 | BN+1,size,h=>by
  unfold SetTable.sizeAbove.go;split
  .exact Zhl n BN _ (by rw[YCD]at h;rw[YBV,YCf 2];exact h)
  .omega
theorem Zhk (n:Nat):∀(BN size:Nat),SetTable.sizeAbove.go n BN size<=max size (2*n)
 | 0,size=>by unfold SetTable.sizeAbove.go;omega
 | BN+1,size=>by
  unfold SetTable.sizeAbove.go;split
  .have:=Zhk n BN (size*2);omega
  .omega
theorem ZcR {α:Type}{es:Array α}{order:Array Nat}(h:order.toList.Perm (List.range es.size)):(order.filterMap (es[·]?)).toList.Perm es.toList:=by rw[Array.toList_filterMap];exact(h.filterMap _).trans (by rw[filterMap_getElem?_range])
theorem ZgJ {h:Heap}{a:AD}{ob:Obj}{xs ys:Array (Int×Value)}{n:Nat}{t t':SetTable}(h1:h.get? a=some ob)(h2:ob.data=.set xs n t):(h.update a (Obj.putSet ys t')).get? a=some { ob with data:=.set ys (n+1) t' }:=by
 have q:=YBm (Obj.putSet ys t') h1 (by rw[putSet_of ys t' h2];rfl)
 rwa [putSet_of ys t' h2]at q
section
variable {prog:AG}{w:AI}{A:AH}{E:Q33}{s:AE}{r S:AD}{led:Bool}
theorem ZdW {es:Array (Int×Value)}{t:SetTable}{order:Array Nat}{Q:Array (Int×Value)×SetTable->AE->Prop}(h:order.toList.Perm (List.range es.size))(q:Q (order.filterMap (es[·]?),t) s):
  wpAny (model prog w) A (do
   let some (t,order):=some (t,order) | unsupported "internal:set-table-without-room"
   let es':=order.filterMap (es[·]?)
   if es'.size != es.size then unsupported "internal:set-table-lost-an-element"
   pure (es',t)) Q E s:=by
 have p:=ZcR h;have z:(order.filterMap (es[·]?)).size=es.size:=by rw[<-YAG,p.length_eq,YAG]
 show wpAny _ A (if ((order.filterMap (es[·]?)).size != es.size)=true then _ else _) _ _ _;rw[z,bne_self_eq_false,YAI YAC];exact YAD q
theorem ZjJ {n:Nat}{Q:Unit->AE->Prop}(ho:s.heap.get? r=some (ZbV led))(hn:n<scanBound)
  (h:∀h' ep t,Heap.SameBut r s.heap h'->h'.get? r=some { ZbV led with data:=.set #[] ep t }->t.fits 0=true->t.fill=0->t.led=led->t.plain=true->(∃k,t.mask+1=2 ^ k)->n<=t.mask->Q () { s with heap:=h' }):
  wpAny (model prog w) A (setRoomFor r n) Q E s:=by
 have n4:n<4096:=hn;have hd:(ZbV led).data=.set #[] 0 (.fresh 0 0 led):=rfl;have hf:(SetTable.fresh 0 0 led).fits (#[]:Array (Int×Value)).size=true:=rfl;unfold setRoomFor;refine YAA (YAy ho hd hf ?_);show wpAny _ A (match (SetTable.fresh 0 0 led).roomFor n with | some wanted=>setRelay r wanted | x=>pure PUnit.unit) _ _ _;have er:(SetTable.fresh 0 0 led).roomFor n=if (0+n)*5>=7*3 then some ((0+n)*2) else none:=rfl
 by_cases c:(0+n)*5>=7*3
 .rw[er,YAM c];show wpAny _ A (setRelay r ((0+n)*2)) _ _ _;have a1:=ZfW ((0+n)*2) 64 8 ⟨3,rfl⟩;have big:(8:Nat)*2 ^ 64=147573952589676412928:=by decide
  have a2:=Zhl ((0+n)*2) 64 8 (by rw[big];omega);have a3:=Zhk ((0+n)*2) 64 8;have a4:SetTable.sizeAbove ((0+n)*2)=SetTable.sizeAbove.go ((0+n)*2) 64 8:=rfl;rw[<-a4]at a1 a2 a3;unfold setRelay;refine YAA (YAy ho hd hf ?_);dsimp only;have hz:¬SetTable.sizeAbove ((0+n)*2)>sizeLine:=by
   have:40000<=sizeLine:=by rw[sizeLine_eq];decide
   omega
  rw[YAI hz];obtain⟨k,hk⟩:=a1;obtain⟨t,order,e,pm,m1,m2,m3,m4,m5⟩:=ZiM (mask:=SetTable.sizeAbove ((0+n)*2)-1) (k:=k) (hs:=(#[]:Array (Int×Value)).map (·.1)) (finger:=0) (moves:=(SetTable.fresh 0 0 led).movedTo (SetTable.sizeAbove ((0+n)*2)-1)) (led:=led) (plain:=true) (by omega) (by simp);have e':(SetTable.fresh 0 0 led).relaid ((#[]:Array (Int×Value)).map (·.1)) ((0+n)*2)=some (t,order):=e;rw[e'];refine YAA (ZdW (es:=#[]) (by simpa using pm) ?_);have oz:order.filterMap ((#[]:Array (Int×Value))[·]?)=#[]:=by have:=ZcR (es:=(#[]:Array (Int×Value))) (order:=order) (by simpa using pm);have l0:=this.length_eq;rw[YAG]at l0;exact Array.eq_empty_of_size_eq_zero (by simpa using l0)
  rw[oz];have z0:t.place.size=0:=by simpa using m2
  have tf:t.fill=0:=by unfold SetTable.fill;rw[z0,m3];rfl
  refine YCj ho hd ?_ (fits_of_scanBound (by show 0<4096;decide));refine h _ _ t (YAh _ _ _) (ZgJ ho hd) ?_ tf m4 m5 ⟨k,by rw[m1];omega⟩ (by rw[m1];omega);unfold SetTable.fits;rw[tf,z0];simp
 .rw[er,YAI c];exact YAD (h s.heap 0 _ (YCn _ _) ho rfl rfl rfl rfl ⟨3,rfl⟩ (by show n<=7;omega))
theorem Zic {ls:Q22}{each:Sem Unit}{Q:Unit->AE->Prop}(ho:s.heap.get? r=some (ZbV led))(hS:TxSet prog w s.heap S ls led)(ne:r≠S)
  (h:∀h',Heap.SameBut r s.heap h'->TxSet prog w h' r ls led->Q () { s with heap:=h' }):wpAny (model prog w) A (setMerge r S each) Q E s:=by
 obtain⟨o,es,ep,t,ms,hg,hex,hd,hel,hf,hled,hpl,hp,hv,hb⟩:=hS;have BH:es.size=ls.length:=by have q:=hv.length;rw[YAB,YAB]at q;rw[<-YAG,<-q,hp.length_eq]
 unfold setMerge;have e0:(r == S)=false:=by simpa using ne
 rw[e0,YAI YAC];refine YAA (YAy hg hd hf ?_);dsimp only;by_cases z:es.isEmpty=true
 .rw[YAM z];have:ls=[]:=YCV.mp (by rw[<-BH];simpa using z);subst this;exact YAD (h s.heap (YCn _ _) (ZeZ ho))
 rw[YAI z];have npl:t.plain=false:=by
  cases e:t.plain with
  | false=>rfl
  | true=>exact absurd (by simpa using hpl e) z
 refine YAA (ZjJ ho hb fun h1 ep1 t1 sb1 g1 f1 fl1 l1 p1 k1 n1=>?_);refine YAA (YAy (o:={ ZbV led with data:=.set #[] ep1 t1 }) g1 rfl f1 ?_);dsimp only;have fin:∀(es':Array (Int×Value)) (t':SetTable),es'.toList.Perm es.toList->t'.fits es'.size=true->t'.led=led->t'.plain=false->wpAny (model prog w) A (storeSet r es' t') Q E { s with heap:=h1 }:=fun es' t' pm ft lt pt=>by
  have sz:es'.size=es.size:=by rw[<-YAG,pm.length_eq,YAG]
  refine YCj g1 rfl ?_ (fits_of_scanBound (by rw[sz];exact hb));obtain⟨ms',pm',hv'⟩:=ZbX (us:=es.toList.map (·.2)) (us':=es'.toList.map (·.2)) (pm.map _) hv;exact h _ (sb1.trans (YAh _ _ _)) ⟨_,es',_,t',ms',ZgJ g1 rfl,⟨rfl,rfl,rfl⟩,rfl,hel.perm pm,ft,lt,fun e=>(by rw[pt]at e;cases e),pm'.trans hp,hv',by rw[sz];exact hb⟩
 unfold SetTable.road;rw[fl1,bne_self_eq_false,YAI YAC];by_cases c2:(t1.mask == t.mask&&t.dummies.isEmpty)=true
 .rw[YAM c2];dsimp only;exact fin es _ (.refl _) hf (by show (t1.led&&t.led)=led;rw[l1,hled,Bool.and_self]) (by show (t1.plain&&t.plain)=false;rw[npl,YBp])
 .rw[YAI c2];dsimp only;obtain⟨k,hk⟩:=k1;obtain⟨t2,order,e,pm,m1,m2,m3,m4,m5⟩:=ZiM (mask:=t1.mask) (k:=k) (hs:=es.map (·.1)) (finger:=t1.finger) (moves:=t1.moves) (led:=t1.led&&t.led) (plain:=t1.plain&&t.plain) hk (by rw[Array.size_map];omega);rw[e];rw[Array.size_map]at pm m2;refine YAA (ZdW pm ?_);have pp:=ZcR pm;have sz:(order.filterMap (es[·]?)).size=es.size:=by rw[<-YAG,pp.length_eq,YAG]
  refine fin _ t2 pp ?_ (by rw[m4,l1,hled,Bool.and_self]) (by rw[m5,npl,YBp]);unfold SetTable.fits SetTable.fill;rw[m1,m2,m3,sz];simp;omega
end
theorem Zcd {α:Type}(xs:Array α)(i:Nat):(SetTable.eraseAt xs i).toList=xs.toList.eraseIdx i:=by rw[List.eraseIdx_eq_take_drop_succ];simp[SetTable.eraseAt,List.extract_eq_take_drop,YAu]
theorem Zgj {α:Type}(xs:Array α)(p:Nat)(x:α):(SetTable.insertAt xs p x).size=xs.size+1:=by have:=(SetTable.insertAt_perm xs p x).length_eq;rw[YAG,YAG,Array.size_push]at this;exact this
theorem ZdT:∀ {vs:List V} {us:AC} (j:Nat),Vals vs us->Vals (vs.eraseIdx j) (us.eraseIdx j)
 | [],_,j,r=>by cases r;exact .nil
 | v::vs,us,j,r=>by
  cases r with
  | cons r1 r2=>
   cases j with
   | zero=>exact r2
   | succ j=>exact .cons r1 (ZdT j r2)
theorem Zdu {α β:Type}(f:α->β):∀(l:List α) (j:Nat),(l.eraseIdx j).map f=(l.map f).eraseIdx j
 | [],j=>rfl
 | x::l,0=>rfl
 | x::l,j+1=>by show f x::(l.eraseIdx j).map f=f x::(l.map f).eraseIdx j;rw[Zdu f l j]
noncomputable def Zb2 (ls:Q22)(l:Q11):Q22:=if l∈ls then ls.erase l else ls++[l]
noncomputable def xorT (a b:Q22):Q22:=a.filter (fun x=>decide (x∉b))++b.filter (fun x=>decide (x∉a))
theorem Zl8 {ls:Q22}{l:Q11}(h:ls.Nodup):(Zb2 ls l).Nodup:=by
 unfold Zb2;split
 .exact h.erase l
 .rename_i n
  rw[YBx];refine⟨h,by simp,fun a ha b hb e=>?_⟩;have:b=l:=by simpa using hb
  subst e this;exact n ha
theorem Zkk {ls:Q22}{l x:Q11}(h:ls.Nodup):x∈Zb2 ls l↔(if x=l then l∉ls else x∈ls):=by
 unfold Zb2;by_cases e:x=l
 .subst e;rw[YAM rfl];split
  .rename_i hm
   exact⟨fun z=>absurd z (h.not_mem_erase),fun z=>absurd hm z⟩
  .rename_i hm
   exact⟨fun _=>hm,fun _=>by simp⟩
 .rw[YAI e];split
  .exact YDY e
  .simp[e]
theorem Zkl {ls:Q22}{l:Q11}:(Zb2 ls l).length<=ls.length+1:=by
 unfold Zb2;split
 .exact Nat.le_succ_of_le (List.length_erase_le)
 .simp
theorem ZfF:∀(xs ls:Q22),ls.Nodup->xs.Nodup->(xs.foldl Zb2 ls).Nodup/\∀y,y∈xs.foldl Zb2 ls↔(if y∈xs then y∉ls else y∈ls)
 | [],ls,h,_=>⟨h,fun y=>by simp⟩
 | x::xs,ls,h,hx=>by
  have hx':=YBU.mp hx;obtain⟨a,b⟩:=ZfF xs (Zb2 ls x) (Zl8 h) hx'.2;refine⟨a,fun y=>?_⟩;rw[YBy,b y,Zkk h];by_cases e:y=x
  .subst e;rw[YAI hx'.1,YAM rfl,YAM YAY]
  .rw[YAI e];by_cases m:y∈xs
   .rw[YAM m,YAM (YAP _ m)]
   .rw[YAI m,YAI (fun z=>by rcases YAT.mp z with q | q;exact e q;exact m q)]
theorem Zkj {xs a b:Q22}(ha:a.Nodup)(hb:b.Nodup)(p:xs.Perm a):(xs.foldl Zb2 b).Perm (xorT a b):=by
 obtain⟨h1,h2⟩:=ZfF xs b hb (p.nodup_iff.mpr ha);have nd:(xorT a b).Nodup:=by unfold xorT;rw[YBx];refine⟨ha.filter _,hb.filter _,fun x hx y hy e=>?_⟩;subst e;have:=(YAr.mp hx).2;exact absurd (YAr.mp hy).1 (of_decide_eq_true this)
 refine(List.perm_ext_iff_of_nodup h1 nd).mpr fun y=>?_;have mx:y∈xs↔y∈a:=p.mem_iff;rw[h2];unfold xorT;rw[YAW,YAr,YAr,decide_eq_true_iff,decide_eq_true_iff];by_cases m:y∈a
 .rw[YAM (mx.mpr m)];simp[m]
 .rw[YAI (fun z=>m (mx.mp z))];simp[m]
theorem Zma {t:SetTable}{n:Nat}(h1:t.place.size=n)(h2:t.fill<=t.mask):t.fits n=true:=by unfold SetTable.fits;rw[h1,decide_eq_true h2];simp
theorem TxSet.perm {P:AG}{w:AI}{h:Heap}{a:AD}{ls ls':Q22}{led:Bool}(x:TxSet P w h a ls led)(p:ls.Perm ls'):TxSet P w h a ls' led:=by obtain⟨o,es,ep,t,ms,h1,h2,h3,h4,h5,h6,h7,h8,r⟩:=x;exact⟨o,es,ep,t,ms,h1,h2,h3,h4,h5,h6,h7,h8.trans p,r⟩
section
variable {prog:AG}{w:AI}{A:AH}{E:Q33}{s:AE}{r S:AD}{led:Bool}
theorem Zf9 {a:AD}{ls:Q22}{l:Q11}{tk:Tok}{Q:Bool->AE->Prop}(hS:TxSet prog w s.heap a ls led)
  (h1:∀h',Heap.SameBut a s.heap h'->l∈ls->TxSet prog w h' a (ls.erase l) led->Q true { s with heap:=h' }) (h2:l∉ls->Q false s):
  wpAny (model prog w) A (setDiscardHashed a (.str ⟨l.toArray⟩ tk) (keyH w (Sum.inr ⟨l.toArray⟩))) Q E s:=by
 obtain⟨o,es,ep,t,ms,ho,hex,hd,hel,hf,hled,hpl,hp,hv,hb⟩:=hS;have hkey:(Zaz prog w).is (Sum.inr (⟨l.toArray⟩:Str)) (.str ⟨l.toArray⟩ tk)=true:=Zcn prog w _ _;have hsc:(Value.str ⟨l.toArray⟩ tk).scannable=true:=rfl;have mem:=Zei (l:=l) hv;have hl:l∈ms↔l∈ls:=hp.mem_iff;unfold setDiscardHashed setFind setFindIn;refine YAA (YAA (YAy ho hd hf ?_));dsimp only;rw[byScan_of hsc hb hel,YAM rfl];refine YAA (YCG (YAA (wpAny_setScan_of (knd:=Zaz prog w) (k:=Sum.inr (⟨l.toArray⟩:Str)) hkey ho hd hf hel ?_)));cases hr:List.findIdx? (fun e=>(Zaz prog w).is (Sum.inr (⟨l.toArray⟩:Str)) e.2) es.toList with
 | none=>
  dsimp only;have hnin:l∉ls:=fun z=>by obtain⟨e,he,hk⟩:=mem.mpr (hl.mpr z);have q:=List.findIdx?_eq_none_iff.mp hr e he;rw[show (Zaz prog w).is (Sum.inr (⟨l.toArray⟩:Str)) e.2=true from hk]at q;cases q
  exact YAD (YAD (h2 hnin))
 | some j=>
  dsimp only;obtain⟨hj,hpj,_⟩:=List.findIdx?_eq_some_iff_getElem.mp hr;have hin:l∈ls:=hl.mp (mem.mp ⟨es.toList[j],YCA hj,hpj⟩);have hj':j<es.size:=by simpa using hj
  refine YAD ?_;rw[Nat.zero_add];refine YAA (YAy ho hd hf ?_);dsimp only;have mj:ms[j]?=some l:=by
   have e1:(es.toList.map (·.2))[j]?=some es.toList[j].2:=by rw[YAc,YAH hj];rfl
   obtain⟨v,hv1,rv⟩:=Zej hv e1;rw[YAc]at hv1;cases q:ms[j]? with
   | none=>rw[q]at hv1;cases hv1
   | some m=>
    rw[q]at hv1;cases hv1;have:=Zoc (l:=l) rv ⟨m,rfl⟩;rw[show ZcC (Sum.inr (⟨l.toArray⟩:Str):Key) es.toList[j].2=true from hpj,ZcJ]at this;rw[of_decide_eq_true this.symm]
  obtain⟨jm,em⟩:=YAa.mp mj;have sz:(SetTable.eraseAt es j).size=es.size-1:=by rw[<-YAG,Zcd,YCJ hj,YAG]
  have hfit:t.place.size=es.size/\t.fill<=t.mask:=by simp only[SetTable.fits,YAQ,beq_iff_eq,decide_eq_true_eq]at hf;exact hf
  have td:(t.drop j).fits (SetTable.eraseAt es j).size=true/\(t.drop j).led=t.led/\(t.drop j).plain=t.plain:=by
   unfold SetTable.drop;have e:t.place[j]?=some (t.place[j]'(by omega)):=getElem?_pos _ _ (by omega);rw[e];have ps:(SetTable.eraseAt t.place j).size=es.size-1:=by rw[<-YAG,Zcd,YCJ (by rw[YAG];omega),YAG,hfit.1]
   have h2:=hfit.2;unfold SetTable.fill at h2;refine⟨Zma (ps.trans sz.symm) ?_,rfl,rfl⟩;show (SetTable.eraseAt t.place j).size+(SetTable.insertAt t.dummies (SetTable.below t.dummies (t.place[j]'(by omega))) (t.place[j]'(by omega))).size<=t.mask;rw[ps,Zgj];omega
  refine YAA (YCj ho hd (YAA (wpAny_point (YAD (h1 _ (YAh _ _ _) hin ?_)))) (fits_of_scanBound (by rw[sz];omega)));refine⟨_,SetTable.eraseAt es j,_,t.drop j,ms.eraseIdx j,ZgJ ho hd,hex,rfl,fun e he=>hel e (List.mem_of_mem_eraseIdx (by rw[<-Zcd];exact he)),td.1,td.2.1.trans hled,fun e=>by rw[td.2.2]at e;have:=hpl e;rw[sz];omega,?_,?_,by rw[sz];omega⟩
  .have p1:(l::ms.eraseIdx j).Perm ms:=by have:=Zcc ms j jm;rw[em]at this;exact this
   exact(p1.trans (hp.trans (List.perm_cons_erase hin))).cons_inv
  .rw[Zcd,Zdu,Zdu];exact ZdT j hv
end
section
variable {prog:AG}{w:AI}{A:AH}{E:Q33}{s:AE}{r S:AD}{led:Bool}
theorem Zik {es:List (Int×Value)}{ms:Q22}(hv:Vals (ms.map tx) (es.map (·.2))){e:Int×Value}(he:e∈es):∃l t,l∈ms/\e.2=.str ⟨l.toArray⟩ t:=by
 obtain⟨i,hi,rfl⟩:=YCW he;have e1:(es.map (·.2))[i]?=some es[i].2:=by rw[YAc,YAH hi];rfl
 obtain⟨v,hv1,rv⟩:=Zej hv e1;rw[YAc]at hv1;cases q:ms[i]? with
 | none=>rw[q]at hv1;cases hv1
 | some m=>
  rw[q]at hv1;cases hv1;obtain⟨t,ht⟩:=rv;exact⟨m,t,YAo q,ht⟩
theorem ZjL {ls:List AD}{Q:Bool->AE->Prop}(h:∀a∈ls,∃led l2,TxSet prog w s.heap a l2 led)(q:Q true s):wpAny (model prog w) A (setsQuiet ls) Q E s:=by
 unfold setsQuiet;refine YAA (YBB (wpAny_forIn_list _ (fun rest (b:Option Bool×Unit) s'=>s'=s/\(∀a∈rest,a∈ls)/\b=(none,())) (fun (b:Option Bool×Unit) s'=>s'=s/\b=(none,())) ?_ ?_ _ _ ⟨rfl,fun a ha=>ha,rfl⟩) ?_ fun _ _ h'=>h')
 .rintro a rest b s' ⟨rfl,hm,rfl⟩;obtain⟨led,l2,o,es,ep,t,ms,hg,hex,hd,hel,hf,hled,hpl,hp,hv,hb⟩:=h a (hm a YAY);refine YAA (wpAny_setEntries_of hg hd hf ?_);refine YAA (YBB (wpAny_forIn_array' _ (fun rest (b:Option Bool×Unit) s2=>s2=s'/\(∀a∈rest,a∈es.toList)/\b=(none,())) (fun (b:Option Bool×Unit) s2=>s2=s'/\b=(none,())) ?_ ?_ _ _ ⟨rfl,fun a ha=>ha,rfl⟩) ?_ fun _ _ h'=>h')
  .rintro⟨hx,x⟩ rest2 b s2 ⟨rfl,hm2,rfl⟩;obtain⟨l,tk,_,e⟩:=Zik hv (hm2 _ YAY);have e':x=.str ⟨l.toArray⟩ tk:=e;subst e';exact YAD ⟨rfl,fun a ha=>hm2 a (YAP _ ha),rfl⟩
  .rintro b s2 ⟨rfl,_,rfl⟩;exact⟨rfl,rfl⟩
  .rintro b s2 ⟨rfl,rfl⟩;exact YAD ⟨rfl,fun a ha=>hm a (YAP _ ha),rfl⟩
 .rintro b s' ⟨rfl,_,rfl⟩;exact⟨rfl,rfl⟩
 .rintro b s' ⟨rfl,rfl⟩;exact YAD q
theorem Zf1 {lS lr:Q22}{Q:Array (Int×Value)->AE->Prop}(hS:TxSet prog w s.heap S lS (!ZaK w))(hr:TxSet prog w s.heap r lr (!ZaK w))(ne:r≠S)
  (h:∀(h':Heap) (es:Array (Int×Value)) (xs:Q22),Heap.SameBut r s.heap h'->TxSet prog w h' r lr (!ZaK w)->xs.Perm lS->Vals (xs.map tx) (es.toList.map (·.2))->ElemsOf (Zaz prog w) es.toList->Q es { s with heap:=h' }):
  wpAny (model prog w) A (setWalkUnseen S [r] (some r)) Q E s:=by
 obtain⟨o,es,ep,t,ms,hg,hex,hd,hel,hf,hled,hpl,hp,hv,hb⟩:=id hS;obtain⟨o2,es2,ep2,t2,ms2,hg2,hex2,hd2,hel2,hf2,hled2,hpl2,hp2,hv2,hb2⟩:=id hr;unfold setWalkUnseen;refine YAA (YAy hg hd hf ?_);dsimp only;unfold setsByText;refine YAA (YAA (YBt (YAD ?_)));show wpAny _ _ (if (ZaK w || t.led&&t.plain || decide (es.size<=1))=true then _ else _) _ _ _;by_cases c:(ZaK w || t.led&&t.plain || decide (es.size<=1))=true
 .rw[YAM c];unfold setWalk;refine YAA (YAy hg hd hf ?_);dsimp only;unfold setsByText;refine YAA (YAA (YBt (YAD ?_)));show wpAny _ _ (if ZaK w=true then _ else (if (!t.plain&&decide (es.size>1))=true then _ else _)) _ _ _;by_cases b:ZaK w=true
  .rw[YAM b];refine YAA (YBt (YAD ?_));have pp:=Zbj (next:=w.params.setOrder S ep) (xs:=es);obtain⟨ms',p',r'⟩:=ZbX (pp.map (·.2)) hv;exact h s.heap _ ms' (YCn _ _) hr (p'.trans hp) r' (hel.perm pp)
  .rw[YAI b];have sm:es.size<=1:=by
    rw[YBd.mpr b,Bool.false_or,Bool.or_eq_true,YAQ,decide_eq_true_iff]at c;rcases c with⟨_,z⟩ | z
    .rw[hpl z];exact YAv _
    .exact z
   have n1:decide (es.size>1)=false:=decide_eq_false (by omega);rw[n1,YBp,YAI YAC];show wpAny _ _ ((if (!t.led&&decide (es.size>1))=true then (do let _ <-(unsupported "set:maker-not-led":Sem Unit);pure ()) else pure ()) >>= fun _=>_) _ _ _;rw[n1,YBp,YAI YAC];exact YAA (YAD (YAD (h s.heap es ms (YCn _ _) hr hp hv hel)))
 .rw[YAI c];have c':=YBd.mpr c;rw[Bool.or_eq_false_iff,Bool.or_eq_false_iff,decide_eq_false_iff_not]at c';refine YAA (ZjL (s:=s) (fun a ha=>?_) ?_)
  .rcases YAT.mp ha with z | z
   .rw[z];exact⟨_,_,hS⟩
   .rw[YAL.mp z];exact⟨_,_,hr⟩
  rw[YCP,YAI YAC];refine YAA (YCG ?_);refine YAA (YAy hg2 hd2 hf2 ?_);dsimp only;split
  .have npl:t.plain=false:=by
    cases e:t.plain with
    | false=>rfl
    | true=>exact absurd (hpl e) (by omega)
   refine YAA (YCj hg2 hd2 (YAD ?_) (fits_of_scanBound hb2));refine h _ es ms (YAh _ _ _) ⟨_,es2,_,_,ms2,ZgJ hg2 hd2,hex2,rfl,hel2,hf2,?_,fun e=>?_,hp2,hv2,hb2⟩ hp hv hel
   .show (t2.led&&t.led)=_;rw[hled,hled2,Bool.and_self]
   .have e':(t2.plain&&t.plain)=true:=e;rw[npl,YBp]at e';cases e'
  .exact YAD (h s.heap es ms (YCn _ _) hr hp hv hel)
end
theorem ZeL:entryFor table "set.__xor__"=some Builtin.«frozenset.__xor__»:=entryFor_alias (id':="frozenset.__xor__") (by kernel_rfl) rfl (by decide +kernel) (by kernel_rfl)
section
variable {prog:AG}{w:AI}{A:AH}{E:Q33}{s:AE}{a b:AD}
theorem ZeU {v:AD}{ls:Q22}{led:Bool}{Q:Bool->AE->Prop}(h:TxSet prog w s.heap v ls led)(q:Q true s):wpAny (model prog w) A (Builtin.Frozenset.isAnySet (.ref v)) Q E s:=by unfold Builtin.Frozenset.isAnySet;refine YAA (wpAny_isInstance (T:="set") h.typ sub_set_self ?_);exact YAD q
theorem Zg8:∀(xs ls:Q22),(xs.foldl Zb2 ls).length<=ls.length+xs.length
 | [],ls=>YAS _
 | x::xs,ls=>by have h1:=Zg8 xs (Zb2 ls x);have h2:=Zkl (ls:=ls) (l:=x);rw[YBy,YAd];omega
theorem ZjB {r:AD}{ls:Q22}{led:Bool}{l:Q11}{tk:Tok}{Q:Unit->AE->Prop}(hS:TxSet prog w s.heap r ls led)(hn:ls.length+1<scanBound)
  (h:∀h',Heap.SameBut r s.heap h'->TxSet prog w h' r (Zb2 ls l) led->Q () { s with heap:=h' }):
  wpAny (model prog w) A (holding [.str ⟨l.toArray⟩ tk] (do
   if !(<-setDiscardHashed r (.str ⟨l.toArray⟩ tk) (keyH w (Sum.inr ⟨l.toArray⟩))) then
    let _ <-setAddHashed r (.str ⟨l.toArray⟩ tk) (keyH w (Sum.inr ⟨l.toArray⟩)))) Q E s:=by
 refine YBT (YAA (Zf9 hS (fun h' sb hin hS'=>?_) fun hnin=>?_))
 .rw[YCP,YAI YAC];refine YAD (h h' sb ?_);unfold Zb2;rw[YAM hin];exact hS'
 .rw[Bool.not_false,YAM rfl];refine YAA (Zid hS hn fun h' b sb hS'=>YAD (h h' sb ?_));unfold addT at hS';unfold Zb2;rw[YAI hnin]at hS' ⊢;exact hS'
theorem Zk7 {x:Value}{h:Int}{l:Q11}{tk:Tok}{es:List (Int×Value)}(hel:ElemsOf (Zaz prog w) es)(hm:(h,x)∈es)(e:x=.str ⟨l.toArray⟩ tk):h=keyH w (Sum.inr ⟨l.toArray⟩):=by
 obtain⟨⟨k,hk,eh⟩,_⟩:=hel _ hm;subst e;have:k=Sum.inr ⟨l.toArray⟩:=by
  cases k with
  | inl n=>exact absurd (show ZcC (Sum.inl n:Key) (Value.str ⟨l.toArray⟩ tk)=true from hk) (by simp[ZcC,Value.isInt])
  | inr y=>
   have hk':ZcC (Sum.inr y:Key) (Value.str ⟨l.toArray⟩ tk)=true:=hk;simp only[ZcC,Value.isStrOf]at hk';have:(⟨l.toArray⟩:Str)=y:=by simpa using hk'
   rw[this]
 subst this;exact eh
theorem Zlk {la lb:Q22}{Q:Q33}(ha:TxSet prog w s.heap a la (!ZaK w))(hb:TxSet prog w s.heap b lb (!ZaK w))(na:la.Nodup)(nb:lb.Nodup)(ne:a≠b)(hn:la.length+lb.length+1<scanBound)
  (h:∀(h':Heap),(∀c o,s.heap.get? c=some o->h'.get? c=some o)->TxSet prog w h' s.heap.objs.size (xorT la lb) (!ZaK w)->Q (.ref s.heap.objs.size) { s with heap:=h' }):
  wpAny (model prog w) A (binaryOp .BitXor (.ref a) (.ref b)) Q E s:=by
 refine wpAny_binaryOp_same ha.typ hb.typ F.fills_set_xor F.slot_set_xor (YCX F.slot_set_xor ha.typ ZeL ?_ (F.args_set_xor_2 _ _));unfold Builtin.«frozenset.__xor__»;show wpAny _ _ (Builtin.Frozenset.slot1 "__xor__" ⟨[.ref a,.ref b],[]⟩ >>= _) _ _ _;unfold Builtin.Frozenset.slot1 slotArgs;simp only[List.isEmpty_nil,YCP,YCd,↓reduceIte,bind_assoc,YAd,YCg,bne_self_eq_false];refine YAA (YAD ?_);dsimp only;refine YAA (YAD ?_);dsimp only;refine YAA ?_;show wpAny _ _ (Builtin.Frozenset.isAnySet (.ref a) >>= _) _ _ _;refine YAA (ZeU ha ?_);show wpAny _ _ (Builtin.Frozenset.isAnySet (.ref b)) _ _ _;refine ZeU hb ?_;rw[YCP,YAI YAC];refine YAA (show wpAny _ _ (Builtin.Frozenset.addrOf (.ref a)) _ _ _ from YAD ?_);refine YAA ?_;show wpAny _ _ (Builtin.Frozenset.baseOf a >>= fun cls=>Builtin.Frozenset.newFrom (toString "frozenset."++toString "__xor__") cls (.ref b) >>= fun result=>Builtin.Frozenset.addrOf result >>= fun x=>holding [result] (Builtin.Frozenset.symmetricDifferenceUpdate (toString "frozenset."++toString "__xor__") x (.ref a)) >>= fun _=>pure result) _ _ _;unfold Builtin.Frozenset.baseOf;refine YAA (YAA (wpAny_isInstance (T:="set") ha.typ sub_set_self (YAD ?_)));rw[YAM rfl];refine YAA ?_;unfold Builtin.Frozenset.newFrom newSet setsByText;refine YAA (YAA (YAA (YBt (YAD ?_))));dsimp only;simp only[newObj];refine YAA (wpAny_alloc (YAD ?_));have hN:(s.heap.push (ZbV (!ZaK w))).get? s.heap.objs.size=some (ZbV (!ZaK w)):=YAU _ rfl;have k1:∀c o,s.heap.get? c=some o->(s.heap.push (ZbV (!ZaK w))).get? c=some o:=fun c o e=>YAE _ e;have la_:a<s.heap.objs.size:=by obtain⟨o,_,_,_,_,ho,_⟩:=ha;exact YAN ho
 have lb_:b<s.heap.objs.size:=by obtain⟨o,_,_,_,_,ho,_⟩:=hb;exact YAN ho
 have ha1:=ha.keep (k1 a);have hb1:=hb.keep (k1 b);show wpAny _ _ (Builtin.Frozenset.addrOf (.ref s.heap.objs.size) >>= _) _ _ { s with heap:=s.heap.push (ZbV (!ZaK w)) };generalize s.heap.push (ZbV (!ZaK w))=H1 at hN k1 ha1 hb1;refine YAA (show wpAny _ _ (Builtin.Frozenset.addrOf (.ref s.heap.objs.size)) _ _ _ from YAD ?_);refine YAA (YBT ?_);unfold Builtin.Frozenset.updateFrom;refine YAA (ZeU (s:={ s with heap:=H1 }) hb1 ?_);rw[YAM rfl];refine YAA (show wpAny _ _ (Builtin.Frozenset.addrOf (.ref b)) _ _ _ from YAD ?_);unfold Builtin.Frozenset.merge;obtain⟨ob,eb,epb,tb,msb,gb,exb,db,elb,fb,rb⟩:=id hb1;refine YAA (YDI gb db fb ?_);refine Zic (s:={ s with heap:=H1 }) hN hb1 (YBM (YAf lb_)) fun H2 sb2 hr2=>?_;have k2:∀c o,c≠s.heap.objs.size->H1.get? c=some o->H2.get? c=some o:=fun c o n e=>(sb2.2 c n).trans e;have na_:a≠s.heap.objs.size:=YAf la_;have ha2:=ha1.keep fun o e=>k2 a o na_ e;refine YAD (YAA (show wpAny _ _ (Builtin.Frozenset.addrOf (.ref s.heap.objs.size)) _ _ _ from YAD ?_));refine YAA (YBT ?_);show wpAny _ _ _ _ _ { s with heap:=H2 };unfold Builtin.Frozenset.symmetricDifferenceUpdate;have e0:(Value.ref a == Value.ref s.heap.objs.size)=false:=by have:¬Value.ref a=Value.ref s.heap.objs.size:=fun z=>na_ (by injection z);simpa using this
 rw[e0,YAI YAC];refine YAA (wpAny_typeOf (s:={ s with heap:=H2 }) (T:="set") ha2.typ ?_);rw[show (Value.type "set" == Value.type "dict")=false by decide,YAI YAC];refine YAA (ZeU (s:={ s with heap:=H2 }) ha2 ?_);rw[YAM rfl];refine YAA (YAD ?_);refine YAA (show wpAny _ _ (Builtin.Frozenset.addrOf (.ref a)) _ _ _ from YAD ?_);obtain⟨oa,ea,epa,ta,msa,ga,exa,da,ela,fa,ra⟩:=id ha2;refine YAA (YDI (s:={ s with heap:=H2 }) ga da fa ?_);refine YBT ?_;refine YAA (Zf1 (s:={ s with heap:=H2 }) ha2 hr2 (YBM na_) fun H3 es xs sb3 hr3 px hv hel=>?_);show wpAny _ _ _ _ _ { s with heap:=H3 };have xl:xs.length=la.length:=px.length_eq;refine YAA (YBB (wpAny_forIn_array' _ (fun rest (_:PUnit) s'=>∃(h':Heap) (dn re:Q22),s'={ s with heap:=h' }/\Heap.SameBut s.heap.objs.size H2 h'/\xs=dn++re/\Vals (re.map tx) (rest.map (·.2))/\(∀e∈rest,e∈es.toList)/\TxSet prog w h' s.heap.objs.size (dn.foldl Zb2 lb) (!ZaK w))
  (fun (_:PUnit) s'=>∃h':Heap,s'={ s with heap:=h' }/\Heap.SameBut s.heap.objs.size H2 h'/\TxSet prog w h' s.heap.objs.size (xs.foldl Zb2 lb) (!ZaK w)) ?_ ?_ _ _ ⟨H3,[],xs,rfl,sb3,rfl,hv,fun e he=>he,hr3⟩) ?_ fun _ _ h'=>h')
 .rintro⟨hx,x⟩ rest _ s' ⟨h',dn,re,rfl,sb,ex,hv',hm,hr'⟩;cases re with
  | nil=>cases hv'
  | cons l re=>
   cases hv' with
   | cons r1 r2=>
    obtain⟨tk,e⟩:=r1;have e':x=.str ⟨l.toArray⟩ tk:=e;have ek:=Zk7 hel (hm _ YAY) e';subst e' ek;have dl:dn.length+(re.length+1)=la.length:=by rw[<-xl,ex,YAF,YAd]
    have fl:=Zg8 dn lb;refine YAA (ZjB (s:={ s with heap:=h' }) hr' (by omega) fun h2 sb2' hr2'=>?_);show wpAny _ _ _ _ _ { s with heap:=h2 };have sb4:=sb.trans sb2';have ga':h2.get? a=some oa:=(sb4.2 a na_).trans ga;unfold Builtin.Frozenset.unchanged;refine YAA (YAA (YDI (s:={ s with heap:=h2 }) ga' da fa ?_));rw[bne_self_eq_false,YAI YAC];refine YAD (YAD ⟨h2,dn++[l],re,rfl,sb4,by rw[ex];simp,r2,fun e he=>hm e (YAP _ he),?_⟩);rw[List.foldl_append];exact hr2'
 .rintro _ s' ⟨h',dn,re,rfl,sb,ex,hv',hm,hr'⟩;cases re with
  | cons l re=>cases hv'
  | nil=>
   rw[YCh]at ex;subst ex;exact⟨h',rfl,sb,hr'⟩
 .rintro _ s' ⟨h',rfl,sb,hr'⟩;refine YAD (YAD (YAD ⟨_,rfl,fun z=>(by cases z),h h' (fun c o e=>?_) (hr'.perm (Zkj na nb px))⟩));have nc:c≠s.heap.objs.size:=YAf (YAN e);exact(sb.2 c nc).trans (k2 c o nc (k1 c o e))
end
def rXor (P:AG)(w:AI):R2:=fun x y H Q=>∃a b la lb,x=.ref a/\y=.ref b/\H a=some (tset P w a la)/\H b=some (tset P w b lb)/\la.Nodup/\lb.Nodup/\a≠b/\la.length+lb.length<=4000/\∀p,H p=none->Q (.ref p) (upd H p (tset P w p (xorT la lb)))
theorem ZlG {X:Cx}{P:AG}{w:AI}(hP:X.prog=P)(hw:X.w=w):OpR X (binaryOp .BitXor) (rXor P w):=by subst hP hw;intro BF s U H x y v u Q I rx ry h;obtain⟨a,b,la,lb,rfl,rfl,ha,hb,na,nb,ne,hz,q⟩:=h;cases rx;cases ry;have hA:TxSet X.prog X.w s.heap a la (!ZaK X.w):=(I.hok a _ ha).1;have hB:TxSet X.prog X.w s.heap b lb (!ZaK X.w):=(I.hok b _ hb).1;exact Zlk hA hB na nb ne (by show _<4096;omega) fun h' k hS=>⟨.ref s.heap.objs.size,_,I.laid (t':=s.toks) k (YAS _) (Zh6 hS),rfl,q _ I.fresh⟩
section
variable {X:Cx}{e st:Expr}{te ts:TE}{p2 pos:Pos}
theorem ZfM (hc:X.calm=true):Zcg X (.builtin "sorted") (fun xs H Q=>∃l,xs=[tx l]/\l.length<64/\NewL ((Za3 (signs l)).map tx) H Q):=by
 rintro BF s U H xs us Q I r ⟨l,rfl,h64,q⟩;obtain⟨u,rfl,t,rfl⟩:=r.one;have sl:(signs l).length=l.length:=by unfold signs;rw[YAB]
 have hl:(Za3 (signs l)).length<=sizeLine:=by rw[(ZaG _).length_eq,sl];exact YAK (YCT h64) (by rw[sizeLine_eq];decide)
 refine Calls.call_function_entry kind_sorted plain_sorted entry_sorted (args_sorted1 _) ?_;unfold Builtin.«sorted»;refine YAA (m:=checkCount "sorted" 1 1 _) (YAD ?_);refine YAA (wpAny_collect_str (by have:=I.ok.hd hc;simpa using this) ⟨l.toArray⟩ t (fun s' acc k g1 _ g3 it=>?_) (by show l.toArray.size<=_;rw[YAJ];exact YAK (YCT h64) (by rw[sizeLine_eq];decide)));refine Ze4 (s:=s') (ZdC it) (by rw[sl];exact h64) fun h' us e k2 he rr=>?_;have nw:s.heap.get? s'.heap.objs.size=none:=by
  cases z:s.heap.get? s'.heap.objs.size with
  | none=>rfl
  | some o=>exact absurd (YAN (k _ _ z)) (YBA _)
 exact⟨.ref s'.heap.objs.size,_,I.laid2 (s':={ s' with heap:=h' }) (o:=.lst ((Za3 (signs l)).map tx)) g3 g1 (fun b o z=>k2 b o (k b o z)) nw ⟨by rw[YAB];exact hl,us,e,rr,he⟩,rfl,q _ (I.hok.none_of nw)⟩
end
noncomputable def gal:Bool->Keyed->Array Keyed->Nat->Nat->Nat->StateT SortSt Sem (Option Nat):=sortPriv% PySem.Builtin.gallop
noncomputable def galB (bey:Nat->StateT SortSt Sem (Option Bool)) (n h:Nat):StateT SortSt Sem (Option Nat):=do
  let mut la:=0
  let mut o:=1
  let mut lo:=0
  let mut hi:=0
  let some rt <-bey h | return none
  if rt then
   let mx:=n-h
   for _ in [0:n] do
    if o>=mx then break
    let some mo <-bey (h+o) | return none
    if !mo then break
    la:=o
    o:=2*o+1
   lo:=h+la+1
   hi:=h+min o mx
  else
   let mx:=h+1
   for _ in [0:n] do
    if o>=mx then break
    let some fo <-bey (h-o) | return none
    if fo then break
    la:=o
    o:=2*o+1
   lo:=h+1-min o mx
   hi:=h-la
  for _ in [0:n] do
   if lo>=hi then break
   let m:=lo+(hi-lo)/2
   let some mo <-bey m | return none
   if mo then lo:=m+1 else hi:=m
  return some hi
noncomputable def beyOf (lf:Bool) (ky:Keyed) (ar:Array Keyed) (bs:Nat) (i:Nat):StateT SortSt Sem (Option Bool):=do
 let x <-elem' ar (bs+i)
 if lf then lt' x ky else return (<-lt' ky x).map (!·)
theorem Zom (lf:Bool)(ky:Keyed)(ar:Array Keyed)(bs n h:Nat):gal lf ky ar bs n h=galB (beyOf lf ky ar bs) n h:=rfl
noncomputable def galT (bey:Nat->StateT SortSt Sem (Option Bool)) (n l0 h0:Nat):StateT SortSt Sem (Option Nat):=do
  let mut lo:=l0
  let mut hi:=h0
  for _ in [0:n] do
   if lo>=hi then break
   let m:=lo+(hi-lo)/2
   let some mo <-bey m | return none
   if mo then lo:=m+1 else hi:=m
  return some hi
section
variable {M:Model}{A:AH}{E:Q33}{s:AE}{bey:Nat->StateT SortSt Sem (Option Bool)}{B:Nat->Bool}{n h:Nat}{st:SortSt}{Q:Option Nat->SortSt->Prop}
noncomputable def Parts (B:Nat->Bool) (n lo hi:Nat):Prop:=(∀i,i<lo->B i=true)/\∀i,hi<=i->i<n->B i=false
theorem Zl3 {lo hi:Nat}(hb:∀i (Q:Option Bool->SortSt->Prop),i<n->Q (some (B i)) st->wpS M A E s (bey i) Q st)(mono:∀i j,i<=j->j<n->B j=true->B i=true)(h1:lo<=hi)(h2:hi<=n)(hp:Parts B n lo hi)
  (q:∀k,k<=n->Parts B n k k->Q (some k) st):wpS M A E s (galT bey n lo hi) Q st:=by
 unfold galT;refine YAO (YCI (YBZ (I:=fun i c st'=>st'=st/\∃lo hi,c=(none,lo,hi)/\lo<=hi/\hi<=n/\hi-lo<=n-i/\Parts B n lo hi) (Q:=fun c st'=>st'=st/\∃k,c=(none,k,k)/\k<=n/\Parts B n k k) ?step ?fin ⟨rfl,lo,hi,rfl,h1,h2,by omega,hp⟩) ?post)
 case step=>
  rintro i c st' _ hi' ⟨rfl,lo,hi,rfl,h1,h2,h3,hp⟩;dsimp only;by_cases hl:lo>=hi
  .have e:lo=hi:=by omega
   subst e;rw[YAM hl];exact YAX ⟨rfl,lo,rfl,h2,hp⟩
  .rw[YAI hl];have hm1:lo<=lo+(hi-lo)/2:=by omega
   have hm2:lo+(hi-lo)/2<hi:=by omega
   generalize lo+(hi-lo)/2=m at hm1 hm2;refine YAO (hb m _ (by omega) ?_);cases hB:B m with
   | true=>exact YAX ⟨rfl,m+1,hi,rfl,by omega,h2,by omega,fun i hi=>mono i m (by omega) (by omega) hB,hp.2⟩
   | false=>
    refine YAX ⟨rfl,lo,m,rfl,by omega,by omega,by omega,hp.1,fun i hi hn=>?_⟩;cases hx:B i with
    | false=>rfl
    | true=>rw[mono m i hi hn hx]at hB;cases hB
 case fin=>
  rintro c st' ⟨rfl,lo,hi,rfl,h1,h2,h3,hp⟩;have e:lo=hi:=by omega
  subst e;exact⟨rfl,lo,rfl,h2,hp⟩
 case post=>
  rintro c st' ⟨rfl,k,rfl,hk,hp⟩;exact YAX (q k hk hp)
theorem Zl4 (hh:h<n)
  (hb:∀i (Q:Option Bool->SortSt->Prop),i<n->Q (some (B i)) st->wpS M A E s (bey i) Q st) (mono:∀i j,i<=j->j<n->B j=true->B i=true)
  (q:∀k,k<=n->Parts B n k k->Q (some k) st):wpS M A E s (galB bey n h) Q st:=by
 have anti:∀ {i j},B i=false->i<=j->j<n->B j=false:=fun {i j} h1 h2 h3=>by
  cases hx:B j with
  | false=>rfl
  | true=>rw[mono i j h2 h3 hx]at h1;cases h1
 have jp:∀lo hi,lo<=hi->hi<=n->Parts B n lo hi->wpS M A E s (galT bey n lo hi) Q st:=fun lo hi a b c=>Zl3 hb mono a b c q;unfold galB;refine YAO (hb h _ hh ?_);cases hB:B h with
 | true=>
  dsimp only;rw[YAM rfl];refine YAO (YCI (YBZ (I:=fun i c st'=>st'=st/\∃la o,c=(none,la,o)/\i<o/\la<o/\h+la<n/\B (h+la)=true) (Q:=fun c st'=>st'=st/\∃la o,c=(none,la,o)/\la<o/\h+la<n/\B (h+la)=true/\(n-h<=o\/B (h+o)=false)) ?step ?fin ⟨rfl,0,1,rfl,by omega,by omega,by omega,hB⟩) ?post)
  case step=>
   rintro i c st' _ hi' ⟨rfl,la,o,rfl,h1,h2,h3,h4⟩;dsimp only;by_cases hl:o>=n-h
   .rw[YAM hl];exact YAX ⟨rfl,la,o,rfl,h2,h3,h4,.inl hl⟩
   .rw[YAI hl];refine YAO (hb (h+o) _ (by omega) ?_);cases hx:B (h+o) with
    | false=>exact YAX ⟨rfl,la,o,rfl,h2,h3,h4,.inr hx⟩
    | true=>exact YAX ⟨rfl,o,2*o+1,rfl,by omega,by omega,by omega,hx⟩
  case fin=>
   rintro c st' ⟨rfl,la,o,rfl,h1,h2,h3,h4⟩;exact⟨rfl,la,o,rfl,h2,h3,h4,.inl (by omega)⟩
  case post=>
   rintro c st' ⟨rfl,la,o,rfl,h2,h3,h4,h5⟩;refine jp (h+la+1) (h+min o (n-h)) (by omega) (by omega) ⟨fun i hi=>mono i (h+la) (by omega) h3 h4,fun i hi hn=>?_⟩;rcases h5 with h5 | h5
   .omega
   .exact anti h5 (by omega) hn
 | false=>
  dsimp only;rw[YAI YAC];refine YAO (YCI (YBZ (I:=fun i c st'=>st'=st/\∃la o,c=(none,la,o)/\i<o/\la<o/\la<=h/\B (h-la)=false) (Q:=fun c st'=>st'=st/\∃la o,c=(none,la,o)/\la<o/\la<=h/\B (h-la)=false/\(h+1<=o\/(o<=h/\B (h-o)=true))) ?step2 ?fin2 ⟨rfl,0,1,rfl,by omega,by omega,by omega,hB⟩) ?post2)
  case step2=>
   rintro i c st' _ hi' ⟨rfl,la,o,rfl,h1,h2,h3,h4⟩;dsimp only;by_cases hl:o>=h+1
   .rw[YAM hl];exact YAX ⟨rfl,la,o,rfl,h2,h3,h4,.inl hl⟩
   .rw[YAI hl];refine YAO (hb (h-o) _ (by omega) ?_);cases hx:B (h-o) with
    | true=>exact YAX ⟨rfl,la,o,rfl,h2,h3,h4,.inr ⟨by omega,hx⟩⟩
    | false=>exact YAX ⟨rfl,o,2*o+1,rfl,by omega,by omega,by omega,hx⟩
  case fin2=>
   rintro c st' ⟨rfl,la,o,rfl,h1,h2,h3,h4⟩;exact⟨rfl,la,o,rfl,h2,h3,h4,.inl (by omega)⟩
  case post2=>
   rintro c st' ⟨rfl,la,o,rfl,h2,h3,h4,h5⟩;refine jp (h+1-min o (h+1)) (h-la) (by omega) (by omega) ⟨fun i hi=>?_,fun i hi hn=>anti h4 hi hn⟩;rcases h5 with h5 | ⟨h5,h6⟩
   .omega
   .exact mono i (h-o) (by omega) (by omega) h6
end
structure Cmp (D:Keyed->Prop)(L:Keyed->Keyed->Bool):Prop where
 asym:∀x y,D x->D y->L x y=true->L y x=false
 tr:∀x y z,D x->D y->D z->L y x=false->L z y=false->L z x=false
abbrev Le (L:Keyed->Keyed->Bool)(x y:Keyed):Prop:=L y x=false
structure MS (D:Keyed->Prop)(L:Keyed->Keyed->Bool)(T:List Keyed)(o x y:List Keyed):Prop where
 perm:(o++(x++y)).Perm T
 so:o.Pairwise (Le L)
 ox:∀u∈o,∀v∈x,Le L u v
 oy:∀u∈o,∀v∈y,Le L u v
 sx:x.Pairwise (Le L)
 sy:y.Pairwise (Le L)
section
variable {D:Keyed->Prop}{L:Keyed->Keyed->Bool}{T o x y p:List Keyed}
theorem MS.movX (h:MS D L T o (p++x) y)(hp:∀u∈p,∀v∈y,Le L u v):MS D L T (o++p) x y:=by
 obtain⟨h1,h2,h3,h4,h5,h6⟩:=h;rw[YBN]at h5;refine⟨by simpa [YAm] using h1,YBN.mpr ⟨h2,h5.1,fun u hu v hv=>h3 u hu v (by simp[hv])⟩,?_,?_,h5.2.1,h6⟩
 .intro u hu v hv;rcases YAW.mp hu with hu | hu
  .exact h3 u hu v (by simp[hv])
  .exact h5.2.2 u hu v hv
 .intro u hu v hv;rcases YAW.mp hu with hu | hu
  .exact h4 u hu v hv
  .exact hp u hu v hv
theorem MS.swap (h:MS D L T o x y):MS D L T o y x:=
 ⟨(List.Perm.append_left o List.perm_append_comm).trans h.perm,h.so,h.oy,h.ox,h.sy,h.sx⟩
theorem MS.movY (h:MS D L T o x (p++y))(hp:∀u∈p,∀v∈x,Le L u v):MS D L T (o++p) x y:=(h.swap.movX hp).swap
theorem MS.fin (h:MS D L T o x []):(o++x).Perm T/\(o++x).Pairwise (Le L):=
 ⟨by simpa using h.perm,YBN.mpr ⟨h.so,h.sx,h.ox⟩⟩
theorem MS.all (h:MS D L T o x y)(hxy:∀u∈x,∀v∈y,Le L u v):(o++x++y).Perm T/\(o++x++y).Pairwise (Le L):=by have:=(MS.movX (x:=[]) (by simpa using h) hxy).swap.fin;simpa using this
end
noncomputable def mLo:Array Keyed->Array Keyed->StateT SortSt Sem (Array Keyed):=sortPriv% PySem.Builtin.mergeLo
noncomputable abbrev ZaB (st:SortSt)(g:Nat):SortSt:=SortSt.mk' (kindOf st) (arrOf st) (pendingOf st) g (failedOf st)
noncomputable def setG (g:Nat):StateT SortSt Sem Unit:=modify fun s=>ZaB s g
noncomputable def mLoB (p q:Array Keyed):StateT SortSt Sem (Array Keyed):=do
 rule "list.sort.merge-lo"
 let tt:=p.size+q.size
 let dn (o:Array Keyed) (i j:Nat):=o++p.extract i p.size++q.extract j q.size
 let lp (o:Array Keyed) (i j:Nat):=o++q.extract j q.size++p.extract i p.size
 let mut o:Array Keyed:=#[<-elem' q 0]
 let mut i:=0
 let mut j:=1
 if j == q.size then return dn o i j
 if i+1 == p.size then return lp o i j
 let mut mg:=gallopOf (<-get)
 for _ in [0:tt] do
  let mut ca:=0
  let mut cb:=0
  for _ in [0:tt] do
   let some wn <-lt' (<-elem' q j) (<-elem' p i) | return dn o i j
   if wn then
    o:=o.push (<-elem' q j);j:=j+1;cb:=cb+1;ca:=0
    if j == q.size then return dn o i j
    if cb>=mg then break
   else
    o:=o.push (<-elem' p i);i:=i+1;ca:=ca+1;cb:=0
    if i+1 == p.size then return lp o i j
    if ca>=mg then break
  rule "list.sort.gallop"
  mg:=mg+1
  for _ in [0:tt] do
   if mg>1 then mg:=mg-1
   setG mg
   let some k <-gal false (<-elem' q j) p i (p.size-i) 0 | return dn o i j
   ca:=k
   if k>0 then
    o:=o++p.extract i (i+k);i:=i+k
    if i+1 == p.size then return lp o i j
    if i == p.size then return dn o i j
   o:=o.push (<-elem' q j);j:=j+1
   if j == q.size then return dn o i j
   let some k <-gal true (<-elem' p i) q j (q.size-j) 0 | return dn o i j
   cb:=k
   if k>0 then
    o:=o++q.extract j (j+k);j:=j+k
    if j == q.size then return dn o i j
   o:=o.push (<-elem' p i);i:=i+1
   if i+1 == p.size then return lp o i j
   if ca<7&&cb<7 then break
  mg:=mg+1
  setG mg
 unsupported "internal:list.sort.merge-bound"
theorem ZnU (p q:Array Keyed):mLo p q=mLoB p q:=rfl
section
variable {M:Model}{A:AH}{E:Q33}{s:AE}{D:Keyed->Prop}{L:Keyed->Keyed->Bool}{kd:SortKind}
noncomputable def PureC (M:Model) (A:AH) (E:Q33) (s:AE) (D:Keyed->Prop) (L:Keyed->Keyed->Bool) (kd:SortKind):Prop:=
 ∀(st:SortSt) (x y:Keyed) (Q:Option Bool->SortSt->Prop),kindOf st=kd->D x->D y->Q (some (L x y)) st->wpS M A E s (lt' x y) Q st
theorem Za2 {ar:Array Keyed}{i:Nat}{x:Keyed}{Q:Keyed->SortSt->Prop}{st:SortSt}(h:ar[i]?=some x)(q:Q x st):wpS M A E s (elem' ar i) Q st:=by rw[elem'_eq,h];exact YAX q
theorem Zd7 (hC:Cmp D L)(hP:PureC M A E s D L kd){lf:Bool}{ky:Keyed}{ar:Array Keyed}{bs n h:Nat}{st:SortSt}{Q:Option Nat->SortSt->Prop}(hk:kindOf st=kd)
  (hn:bs+n<=ar.size) (hh:h<n) (hy:D ky) (hd:∀u∈ar.toList,D u) (hs:((ar.toList.drop bs).take n).Pairwise (Le L))
  (q:∀k,k<=n->(∀u∈((ar.toList.drop bs).take n).take k,if lf then L u ky=true else Le L u ky)->(∀u∈((ar.toList.drop bs).take n).drop k,if lf then Le L ky u else L ky u=true)->Q (some k) st):
  wpS M A E s (gal lf ky ar bs n h) Q st:=by
 rw[Zom];obtain⟨xs,hxs⟩:∃xs,xs=(ar.toList.drop bs).take n:=⟨_,rfl⟩;rw[<-hxs]at hs q;have BH:xs.length=n:=by rw[hxs,YAZ,YAj,YAG];omega
 have hat:∀i (hi:i<xs.length),ar[bs+i]?=some xs[i]:=by intro i hi;have:xs[i]?=some xs[i]:=YAH hi;rw[<-this,hxs,YDE,YAM (by omega),YCb,YAl]
 have hdx:∀u∈xs,D u:=fun u hu=>hd u (YAe (YAb (hxs▸hu)));refine Zl4 (B:=fun i=>if hi:i<xs.length then (if lf then L xs[i] ky else !L ky xs[i]) else false) hh ?_ ?_ ?_
 .intro i Q hi hq;have hi':i<xs.length:=by omega
  rw[dif_pos hi']at hq;refine YAO (Za2 (hat i hi') ?_);have hD:=hdx _ (YCA hi');cases lf with
  | true=>exact hP st _ _ _ hk hD hy hq
  | false=>exact YAO (hP st _ _ _ hk hy hD (YAX hq))
 .intro i j hij hj;have hj':j<xs.length:=by omega
  have hi':i<xs.length:=by omega
  rw[dif_pos hj',dif_pos hi'];by_cases e:i=j
  .subst e;exact id
  .have hle:Le L xs[i] xs[j]:=List.pairwise_iff_getElem.mp hs i j hi' hj' (by omega);have hDi:=hdx _ (YCA hi');have hDj:=hdx _ (YCA hj');cases lf with
   | true=>
    rw[YAM rfl,YAM rfl];intro h1;cases h2:L xs[i] ky with
    | true=>rfl
    | false=>rw[hC.tr ky _ _ hy hDi hDj h2 hle]at h1;cases h1
   | false=>
    rw[YAI YAC,YAI YAC];intro h1;rw[Bool.not_eq_true']at h1 ⊢;exact hC.tr _ _ ky hDi hDj hy hle h1
 .intro k hk' hp;refine q k hk' (fun u hu=>?_) (fun u hu=>?_)
  .obtain⟨i,hi,rfl⟩:=YCW hu;rw[YAZ]at hi;have:=hp.1 i (by omega);dsimp only at this;rw[dif_pos (by omega)]at this;rw[List.getElem_take];cases lf with
   | true=>exact this
   | false=>simpa using this
  .obtain⟨i,hi,rfl⟩:=YCW hu;rw[YAj]at hi;have:=hp.2 (k+i) (by omega) (by omega);dsimp only at this;rw[dif_pos (by omega)]at this;rw[List.getElem_drop];cases lf with
   | true=>exact this
   | false=>simpa using this
end
abbrev LoC:=Option (Array Keyed)×Array Keyed×Nat×Nat×Nat×Nat×Nat
noncomputable def dnf (p q o:Array Keyed) (i j:Nat):Array Keyed:=o++p.extract i p.size++q.extract j q.size
noncomputable def lpf (p q o:Array Keyed) (i j:Nat):Array Keyed:=o++q.extract j q.size++p.extract i p.size
noncomputable def loE (p q o:Array Keyed) (i j mg ca cb:Nat):StateT SortSt Sem (ForInStep LoC):=do
 let e <-elem' p i
 if (i+1+1 == p.size)=true then pure (ForInStep.done (some (lpf p q (o.push e) (i+1) j),o.push e,i+1,j,mg,ca,cb))
 else if (decide (ca<7)&&decide (cb<7))=true then pure (ForInStep.done (none,o.push e,i+1,j,mg,ca,cb))
 else pure (ForInStep.yield (none,o.push e,i+1,j,mg,ca,cb))
noncomputable def loD (p q o:Array Keyed) (i j mg ca cb:Nat):StateT SortSt Sem (ForInStep LoC):=do
 let e <-elem' q j
 if (j+1 == q.size)=true then pure (ForInStep.done (some (dnf p q (o.push e) i (j+1)),o.push e,i,j+1,mg,ca,cb))
 else do
  let some k <-gal true (<-elem' p i) q (j+1) (q.size-(j+1)) 0 | pure (ForInStep.done (some (dnf p q (o.push e) i (j+1)),o.push e,i,j+1,mg,ca,cb))
  if k>0 then
   if (j+1+k == q.size)=true then pure (ForInStep.done (some (dnf p q (o.push e++q.extract (j+1) (j+1+k)) i (j+1+k)),o.push e++q.extract (j+1) (j+1+k),i,j+1+k,mg,ca,k))
   else loE p q (o.push e++q.extract (j+1) (j+1+k)) i (j+1+k) mg ca k
  else loE p q (o.push e) i (j+1) mg ca k
noncomputable def loF (p q o:Array Keyed) (i j mg ca cb:Nat):StateT SortSt Sem (ForInStep LoC):=do
 setG mg
 let some k <-gal false (<-elem' q j) p i (p.size-i) 0 | pure (ForInStep.done (some (dnf p q o i j),o,i,j,mg,ca,cb))
 if k>0 then
  if (i+k+1 == p.size)=true then pure (ForInStep.done (some (lpf p q (o++p.extract i (i+k)) (i+k) j),o++p.extract i (i+k),i+k,j,mg,k,cb))
  else if (i+k == p.size)=true then pure (ForInStep.done (some (dnf p q (o++p.extract i (i+k)) (i+k) j),o++p.extract i (i+k),i+k,j,mg,k,cb))
  else loD p q (o++p.extract i (i+k)) (i+k) j mg k cb
 else loD p q o i j mg k cb
section
variable {M:Model}{A:AH}{E:Q33}{s:AE}{D:Keyed->Prop}{L:Keyed->Keyed->Bool}{kd:SortKind}{p q:Array Keyed}{T:List Keyed}{st:SortSt}
structure LoI (D:Keyed->Prop)(L:Keyed->Keyed->Bool)(p q:Array Keyed)(T:List Keyed)(o:Array Keyed)(i j:Nat):Prop where
 ms:MS D L T o.toList (p.toList.drop i) (q.toList.drop j)
 li:i+1<p.size
 lj:j<q.size
noncomputable def Fin1 (L:Keyed->Keyed->Bool) (T:List Keyed) (z:Array Keyed):Prop:=z.toList.Perm T/\z.toList.Pairwise (Le L)
theorem ZfI {p:Array Keyed}{i:Nat}{e:Keyed}(h:p[i]?=some e):p.toList.drop i=e::p.toList.drop (i+1):=by obtain⟨hi,rfl⟩:=YCK.mp h;rw[<-Array.getElem_toList];exact YCs (by simpa using hi)
theorem at? {p:Array Keyed}{i:Nat}(h:i<p.size):∃e,p[i]?=some e/\e∈p.toList:=⟨p[i],getElem?_pos p i h,by simp⟩
theorem Zkq (p q o:Array Keyed)(i j:Nat):(dnf p q o i j).toList=o.toList++p.toList.drop i++q.toList.drop j:=by unfold dnf;rw[YBL,YBL,YBD,YBD,List.extract,List.extract,YAu (by simp),YAu (by simp)]
theorem Zj4 (p q o:Array Keyed)(i j:Nat):(lpf p q o i j).toList=o.toList++q.toList.drop j++p.toList.drop i:=by unfold lpf;rw[YBL,YBL,YBD,YBD,List.extract,List.extract,YAu (by simp),YAu (by simp)]
theorem ZfH (p:Array Keyed)(i k:Nat):(p.extract i (i+k)).toList=(p.toList.drop i).take k:=by simp[YBD,List.extract]
theorem Zeb (l:List Keyed)(i k:Nat):l.drop i=(l.drop i).take k++l.drop (i+k):=by rw[<-YCE,YAq]
structure LoH (D:Keyed->Prop)(L:Keyed->Keyed->Bool)(p q:Array Keyed):Prop where
 dp:∀u∈p.toList,D u
 dq:∀u∈q.toList,D u
 sp:p.toList.Pairwise (Le L)
 sq:q.toList.Pairwise (Le L)
 last:∀u∈q.toList,∀v∈p.toList.drop (p.size-1),L u v=true
theorem LoH.fin_lp {o:Array Keyed}{i j:Nat}(hH:LoH D L p q)(hC:Cmp D L)(h:MS D L T o.toList (p.toList.drop i) (q.toList.drop j))(e:i+1=p.size):Fin1 L T (lpf p q o i j):=by
 unfold Fin1;rw[Zj4];refine h.swap.all fun u hu v hv=>?_;have hu:=YAe hu;have e':i=p.size-1:=by omega
 subst e';exact hC.asym _ _ (hH.dq u hu) (hH.dp v (YAe hv)) (hH.last u hu v hv)
theorem Zha {o:Array Keyed}{i j:Nat}(h:MS D L T o.toList (p.toList.drop i) (q.toList.drop j))(e:j=q.size):Fin1 L T (dnf p q o i j):=by unfold Fin1;rw[Zkq];have e2:q.toList.drop j=[]:=YBu (by simp;omega);rw[e2]at h ⊢;simpa using h.fin
noncomputable def LoQ (D:Keyed->Prop) (L:Keyed->Keyed->Bool) (p q:Array Keyed) (T:List Keyed) (w:Nat) (c:LoC):Prop:=
 ∃r o i j mg ca cb,c=(r,o,i,j,mg,ca,cb)/\((∃z,r=some z/\Fin1 L T z)\/(r=none/\LoI D L p q T o i j/\w<=i+j))
noncomputable def LoY (D:Keyed->Prop) (L:Keyed->Keyed->Bool) (p q:Array Keyed) (T:List Keyed) (w:Nat) (c:LoC):Prop:=
 ∃o i j mg ca cb,c=(none,o,i,j,mg,ca,cb)/\LoI D L p q T o i j/\w<=i+j
noncomputable def LoP (D:Keyed->Prop) (L:Keyed->Keyed->Bool) (p q:Array Keyed) (T:List Keyed) (w:Nat) (st:SortSt) (r:ForInStep LoC) (st':SortSt):Prop:=
 (∃g,st'=ZaB st g)/\match r with | .done c=>LoQ D L p q T w c | .yield c=>LoY D L p q T w c
theorem ZkL {o:Array Keyed}{i j mg ca cb w g:Nat}(hH:LoH D L p q)(hC:Cmp D L)(hi:i+1<p.size)(hj:j<q.size)(hw:w<=i+1+j)(h:MS D L T o.toList (p.toList.drop i) (q.toList.drop j))
  (hle:∀u∈(p.toList.drop i).take 1,∀v∈q.toList.drop j,Le L u v):wpS M A E s (loE p q o i j mg ca cb) (LoP D L p q T w st) (ZaB st g):=by
 obtain⟨e,he,hm⟩:=at? (p:=p) (i:=i) (by omega);have hd:=ZfI he;have h2:MS D L T (o.push e).toList (p.toList.drop (i+1)) (q.toList.drop j):=by rw[YBe];rw[hd]at h hle;exact MS.movX (p:=[e]) h (fun u hu v hv=>hle u (by simpa using hu) v hv)
 unfold loE;refine YAO (Za2 he ?_);by_cases c1:i+1+1=p.size
 .rw[YAM (by simpa using c1)];exact YAX ⟨⟨g,rfl⟩,_,_,_,_,_,_,_,rfl,.inl ⟨_,rfl,hH.fin_lp hC h2 c1⟩⟩
 .rw[YAI (by simpa using c1)];have hI:LoI D L p q T (o.push e) (i+1) j:=⟨h2,by omega,hj⟩;split
  .exact YAX ⟨⟨g,rfl⟩,_,_,_,_,_,_,_,rfl,.inr ⟨rfl,hI,hw⟩⟩
  .exact YAX ⟨⟨g,rfl⟩,_,_,_,_,_,_,rfl,hI,hw⟩
theorem ZkM {o:Array Keyed}{i j mg ca cb w g:Nat}(hH:LoH D L p q)(hC:Cmp D L)(hP:PureC M A E s D L kd)(hk:kindOf st=kd)(hi:i+1<p.size)(hj:j<q.size)(hw:w<=i+1+j)(h:MS D L T o.toList (p.toList.drop i) (q.toList.drop j))
  (hle:∀u∈(q.toList.drop j).take 1,∀v∈p.toList.drop i,Le L u v):wpS M A E s (loD p q o i j mg ca cb) (LoP D L p q T w st) (ZaB st g):=by
 obtain⟨e,he,hm⟩:=at? (p:=q) (i:=j) hj;obtain⟨x,hx,hxm⟩:=at? (p:=p) (i:=i) (by omega);have hd:=ZfI he;have h2:MS D L T (o.push e).toList (p.toList.drop i) (q.toList.drop (j+1)):=by rw[YBe];rw[hd]at h hle;exact MS.movY (p:=[e]) h (fun u hu v hv=>hle u (by simpa using hu) v hv)
 unfold loD;refine YAO (Za2 he ?_);by_cases c1:j+1=q.size
 .rw[YAM (by simpa using c1)];exact YAX ⟨⟨g,rfl⟩,_,_,_,_,_,_,_,rfl,.inl ⟨_,rfl,Zha h2 c1⟩⟩
 .rw[YAI (by simpa using c1)];refine YAO (Za2 hx ?_);have et:(q.toList.drop (j+1)).take (q.size-(j+1))=q.toList.drop (j+1):=YAu (by simp);refine YAO (Zd7 hC hP (by exact hk) (by omega) (by omega) (hH.dp x hxm) hH.dq (by rw[et];exact h2.sy) ?_);rw[et];intro k hkn ha hb;replace ha:∀u∈(q.toList.drop (j+1)).take k,L u x=true:=ha;replace hb:∀u∈(q.toList.drop (j+1)).drop k,Le L x u:=hb;dsimp only;have hpd:=ZfI hx;have hsx:=h2.sx;rw[hpd,YBW]at hsx;have xle:∀v∈p.toList.drop i,Le L x v:=by
   intro v hv;rw[hpd]at hv;rcases YAT.mp hv with rfl | hv
   .cases hx:L v v with
    | false=>exact hx
    | true=>exact hC.asym v v (hH.dp v hxm) (hH.dp v hxm) hx
   .exact hsx.1 v hv
  have h3:MS D L T (o.push e++q.extract (j+1) (j+1+k)).toList (p.toList.drop i) (q.toList.drop (j+1+k)):=by rw[YBL,ZfH];rw[Zeb q.toList (j+1) k]at h2;refine h2.movY fun u hu v hv=>?_;have hDu:=hH.dq u (YAe (YAb hu));exact hC.tr u x v hDu (hH.dp x hxm) (hH.dp v (YAe hv)) (hC.asym u x hDu (hH.dp x hxm) (ha u hu)) (xle v hv)
  have hle2:∀u∈(p.toList.drop i).take 1,∀v∈q.toList.drop (j+1+k),Le L u v:=by
   intro u hu v hv;rw[hpd]at hu;have:u=x:=by simpa using hu
   subst this;exact hb v (by rwa [YCE])
  by_cases hk0:k>0
  .rw[YAM hk0];by_cases c2:j+1+k=q.size
   .rw[YAM (by simpa using c2)];exact YAX ⟨⟨g,rfl⟩,_,_,_,_,_,_,_,rfl,.inl ⟨_,rfl,Zha h3 c2⟩⟩
   .rw[YAI (by simpa using c2)];exact ZkL hH hC hi (by omega) (by omega) h3 hle2
  .rw[YAI hk0];have:k=0:=by omega
   subst this;exact ZkL hH hC hi (by omega) (by omega) h2 hle2
theorem Zn1 {o:Array Keyed}{i j mg ca cb w g:Nat}(hH:LoH D L p q)(hC:Cmp D L)(hP:PureC M A E s D L kd)(hk:kindOf st=kd)(hw:w<=i+1+j)(hI:LoI D L p q T o i j):
  wpS M A E s (loF p q o i j mg ca cb) (LoP D L p q T w st) (ZaB st g):=by
 obtain⟨h,hi,hj⟩:=hI;obtain⟨x,hx,hxm⟩:=at? (p:=q) (i:=j) hj;have hqd:=ZfI hx;have hsy:=h.sy;rw[hqd,YBW]at hsy;have xle:∀v∈q.toList.drop j,Le L x v:=by
  intro v hv;rw[hqd]at hv;rcases YAT.mp hv with rfl | hv
  .cases hx:L v v with
   | false=>exact hx
   | true=>exact hC.asym v v (hH.dq v hxm) (hH.dq v hxm) hx
  .exact hsy.1 v hv
 unfold loF;refine YAO (YCQ ?_);refine YAO (Za2 hx ?_);have et:(p.toList.drop i).take (p.size-i)=p.toList.drop i:=YAu (by simp);refine YAO (Zd7 hC hP (by exact hk) (by omega) (by omega) (hH.dq x hxm) hH.dp (by rw[et];exact h.sx) ?_);rw[et];intro k hkn ha hb;replace ha:∀u∈(p.toList.drop i).take k,Le L u x:=ha;replace hb:∀u∈(p.toList.drop i).drop k,L x u=true:=hb;dsimp only;have h3:MS D L T (o++p.extract i (i+k)).toList (p.toList.drop (i+k)) (q.toList.drop j):=by rw[YBL,ZfH];rw[Zeb p.toList i k]at h;refine h.movX fun u hu v hv=>?_;exact hC.tr u x v (hH.dp u (YAe (YAb hu))) (hH.dq x hxm) (hH.dq v (YAe hv)) (ha u hu) (xle v hv)
 have hle2:∀u∈(q.toList.drop j).take 1,∀v∈p.toList.drop (i+k),Le L u v:=by
  intro u hu v hv;rw[hqd]at hu;have:u=x:=by simpa using hu
  subst this;have hv':v∈(p.toList.drop i).drop k:=by rwa [YCE]
  exact hC.asym u v (hH.dq u hxm) (hH.dp v (YAe hv)) (hb v hv')
 have hlast:i+k≠p.size:=by
  intro e;obtain⟨y,hy,hym⟩:=at? (p:=p) (i:=p.size-1) (by omega);have hyd:=ZfI hy;have h5:=hH.last x hxm y (by rw[hyd];simp);have hy2:y∈(p.toList.drop i).take k:=by
   rw[YAu (by simp;omega)];have:y∈p.toList.drop (p.size-1):=by rw[hyd];simp
   rw[show p.size-1=i+(p.size-1-i) by omega,<-YCE]at this;exact YAe this
  have h6:=ha y hy2;rw[show L x y=false from h6]at h5;cases h5
 by_cases hk0:k>0
 .rw[YAM hk0];by_cases c2:i+k+1=p.size
  .rw[YAM (by simpa using c2)];exact YAX ⟨⟨_,rfl⟩,_,_,_,_,_,_,_,rfl,.inl ⟨_,rfl,hH.fin_lp hC h3 c2⟩⟩
  .rw[YAI (by simpa using c2),YAI (by simpa using hlast)];exact ZkM hH hC hP hk (by omega) hj (by omega) h3 hle2
 .rw[YAI hk0];have:k=0:=by omega
  subst this;exact ZkM hH hC hP hk hi hj hw h hle2
theorem Zd6 {β γ:Type}{r:Std.Legacy.Range}{i:β}{F:Nat->β->StateT SortSt Sem (ForInStep β)}{G:β->StateT SortSt Sem γ}{M:Model}{A:AH}{E:Q33}{s:AE}{Q:γ->SortSt->Prop}{st:SortSt}(h:let F':=F;let G':=G;wpS M A E s (forIn r i F' >>= G') Q st):wpS M A E s (forIn r i F >>= G) Q st:=h
theorem ZnT {Q:Array Keyed->SortSt->Prop}(hH:LoH D L p q)(hC:Cmp D L)(hP:PureC M A E s D L kd)(hk:kindOf st=kd)(hp:0<p.size)(hq:0<q.size)
  (h0:∀u∈q.toList.take 1,∀v∈p.toList,Le L u v) (hQ:∀z g,Fin1 L (p.toList++q.toList) z->Q z (ZaB st g)):wpS M A E s (mLo p q) Q st:=by
 rw[ZnU];unfold mLoB;obtain⟨e,he,hm⟩:=at? (p:=q) (i:=0) hq;have hd:q.toList=e::q.toList.drop 1:=by simpa using ZfI he
 have h1:MS D L (p.toList++q.toList) (#[e]:Array Keyed).toList (p.toList.drop 0) (q.toList.drop 1):=by have:MS D L (p.toList++q.toList) [] p.toList ([e]++q.toList.drop 1):=⟨by rw[hd];simp,List.Pairwise.nil,by simp,by simp,hH.sp,by have:=hH.sq;rw[hd]at this;exact this⟩;refine this.movY fun u hu v hv=>h0 u ?_ v hv;rw[hd];simpa using hu
 refine YAO (wpS_lift (YCG ⟨rfl,?_⟩));refine YAO (Za2 he ?_);by_cases c1:1=q.size
 .rw[YAM (by simpa using c1)];exact YAX (hQ _ _ (Zha h1 c1))
 rw[YAI (by simpa using c1)];by_cases c2:0+1=p.size
 .rw[YAM (by simpa using c2)];exact YAX (hQ _ _ (hH.fin_lp hC h1 c2))
 rw[YAI (by simpa using c2)];refine YAO (YDc ?_);have hI:LoI D L p q (p.toList++q.toList) #[e] 0 1:=⟨h1,by omega,by omega⟩;generalize p.toList++q.toList=T at hI hQ;refine Zd6 ?_;intro F1 G1;refine YAO (YCI (YBZ (I:=fun x c st'=>∃g,st'=ZaB st g/\∃o i j mg,c=(none,o,i,j,mg)/\LoI D L p q T o i j/\x<=i+j)
  (Q:=fun c st'=>∃g,st'=ZaB st g/\∃z o i j mg,c=(some z,o,i,j,mg)/\Fin1 L T z) ?step ?fin ⟨gallopOf st,rfl,_,_,_,_,rfl,hI,by omega⟩) ?post)
 case post=>
  rintro c st' ⟨g,rfl,z,o,i,j,mg,rfl,hz⟩;exact YAX (hQ z g hz)
 case fin=>
  rintro c st' ⟨g,rfl,o,i,j,mg,rfl,hI,hx⟩;have:=hI.li;have:=hI.lj;omega
 case step=>
  rintro x c st' _ hx ⟨g,rfl,o,i,j,mg,rfl,hI,hxi⟩;dsimp only[F1];refine Zd6 ?_;intro F2 G2;refine YAO (YCI (YBZ (I:=fun y c st'=>st'=ZaB st g/\∃o i j ca cb,c=(none,o,i,j,ca,cb)/\LoI D L p q T o i j/\y+x<=i+j)
   (Q:=fun c st'=>st'=ZaB st g/\∃r o i j ca cb,c=(r,o,i,j,ca,cb)/\((∃z,r=some z/\Fin1 L T z)\/(r=none/\LoI D L p q T o i j/\x+1<=i+j))) ?s1 ?f1 ⟨rfl,_,_,_,_,_,rfl,hI,by omega⟩) ?p1)
  case f1=>
   rintro c st' ⟨rfl,o,i,j,ca,cb,rfl,hI,hx⟩;have:=hI.li;have:=hI.lj;omega
  case s1=>
   rintro y c st' _ hy ⟨rfl,o,i,j,ca,cb,rfl,hI,hxi⟩;obtain⟨h,hi,hj⟩:=hI;obtain⟨u,hu,hum⟩:=at? (p:=q) (i:=j) hj;obtain⟨v,hv,hvm⟩:=at? (p:=p) (i:=i) (by omega);have hDu:=hH.dq u hum;have hDv:=hH.dp v hvm;have hqd:=ZfI hu;have hpd:=ZfI hv;have hsx:=h.sx;have hsy:=h.sy;rw[hpd,YBW]at hsx;rw[hqd,YBW]at hsy;dsimp only[F2];refine YAO (Za2 hu (YAO (Za2 hv (YAO (hP _ _ _ _ hk hDu hDv ?_)))));dsimp only;cases hL:L u v with
   | true=>
    rw[YAM rfl];refine YAO (Za2 hu ?_);have h2:MS D L T (o.push u).toList (p.toList.drop i) (q.toList.drop (j+1)):=by
     rw[YBe];rw[hqd]at h;refine MS.movY (p:=[u]) h fun a ha b hb=>?_;have ha:a=u:=by simpa using ha
     subst ha;have hav:Le L a v:=hC.asym _ _ hDu hDv hL;rw[hpd]at hb;rcases YAT.mp hb with rfl | hb
     .exact hav
     .exact hC.tr a v b hDu hDv (hH.dp b (YAe hb)) hav (hsx.1 b hb)
    by_cases c3:j+1=q.size
    .rw[YAM (by simpa using c3)];exact YAX ⟨rfl,_,_,_,_,_,_,rfl,.inl ⟨_,rfl,Zha h2 c3⟩⟩
    .rw[YAI (by simpa using c3)];have hI:LoI D L p q T (o.push u) i (j+1):=⟨h2,hi,by omega⟩;split
     .exact YAX ⟨rfl,_,_,_,_,_,_,rfl,.inr ⟨rfl,hI,by omega⟩⟩
     .exact YAX ⟨rfl,_,_,_,_,_,rfl,hI,by omega⟩
   | false=>
    rw[YAI YAC];refine YAO (Za2 hv ?_);have h2:MS D L T (o.push v).toList (p.toList.drop (i+1)) (q.toList.drop j):=by
     rw[YBe];rw[hpd]at h;refine MS.movX (p:=[v]) h fun a ha b hb=>?_;have ha:a=v:=by simpa using ha
     subst ha;rw[hqd]at hb;rcases YAT.mp hb with rfl | hb
     .exact hL
     .exact hC.tr a u b hDv hDu (hH.dq b (YAe hb)) hL (hsy.1 b hb)
    by_cases c3:i+1+1=p.size
    .rw[YAM (by simpa using c3)];exact YAX ⟨rfl,_,_,_,_,_,_,rfl,.inl ⟨_,rfl,hH.fin_lp hC h2 c3⟩⟩
    .rw[YAI (by simpa using c3)];have hI:LoI D L p q T (o.push v) (i+1) j:=⟨h2,by omega,hj⟩;split
     .exact YAX ⟨rfl,_,_,_,_,_,_,rfl,.inr ⟨rfl,hI,by omega⟩⟩
     .exact YAX ⟨rfl,_,_,_,_,_,rfl,hI,by omega⟩
  case p1=>
   rintro c st' ⟨rfl,r,o,i,j,ca,cb,rfl,⟨z,rfl,hz⟩|⟨rfl,hI,hw⟩⟩
   .exact YAX ⟨g,rfl,z,o,i,j,mg,rfl,hz⟩
   .dsimp only[G2];refine YAO (wpS_lift (YCG ⟨rfl,?_⟩));refine Zd6 ?_;intro F3 G3;refine YAO (YCI (YBZ (I:=fun y c st'=>(∃g,st'=ZaB st g)/\LoY D L p q T (y+(x+1)) c)
     (Q:=fun c st'=>(∃g,st'=ZaB st g)/\LoQ D L p q T (x+1) c) ?s2 ?f2 ⟨⟨g,rfl⟩,_,_,_,_,_,_,rfl,hI,by omega⟩) ?p2)
    case f2=>
     rintro c st' ⟨_,o,i,j,mg,ca,cb,rfl,hI,hx⟩;have:=hI.li;have:=hI.lj;omega
    case p2=>
     rintro c st' ⟨⟨g,rfl⟩,r,o,i,j,mg,ca,cb,rfl,⟨z,rfl,hz⟩|⟨rfl,hI,hw⟩⟩
     .exact YAX ⟨g,rfl,z,o,i,j,mg,rfl,hz⟩
     .exact YAO (YCQ (YAX ⟨_,rfl,_,_,_,_,rfl,hI,hw⟩))
    case s2=>
     rintro y c st' _ hy ⟨⟨g,rfl⟩,o,i,j,mg,ca,cb,rfl,hI,hw⟩;have key:∀mg,wpS M A E s (loF p q o i j mg ca cb) (fun r st'=>match r with | .done c'=>(∃g,st'=ZaB st g)/\LoQ D L p q T (x+1) c' | .yield c'=>(∃g,st'=ZaB st g)/\LoY D L p q T (y+1+(x+1)) c') (ZaB st g):=by
      intro mg;refine YCI (Zn1 (w:=y+1+(x+1)) hH hC hP hk (by omega) hI) ?_;rintro r st' ⟨hg,hr⟩;cases r with
      | done c=>
       obtain⟨r,o,i,j,mg,ca,cb,rfl,h | ⟨rfl,hI,hw⟩⟩:=hr
       .exact⟨hg,r,o,i,j,mg,ca,cb,rfl,.inl h⟩
       .exact⟨hg,none,o,i,j,mg,ca,cb,rfl,.inr ⟨rfl,hI,by omega⟩⟩
      | yield c=>exact⟨hg,hr⟩
     have key2:wpS M A E s (if mg>1 then loF p q o i j (mg-1) ca cb else loF p q o i j mg ca cb) (fun r st'=>match r with | .done c'=>(∃g,st'=ZaB st g)/\LoQ D L p q T (x+1) c' | .yield c'=>(∃g,st'=ZaB st g)/\LoY D L p q T (y+1+(x+1)) c') (ZaB st g):=by
      split
      .exact key _
      .exact key _
     refine YCI (Q:=fun r st'=>match r with | .done c'=>(∃g,st'=ZaB st g)/\LoQ D L p q T (x+1) c' | .yield c'=>(∃g,st'=ZaB st g)/\LoY D L p q T (y+1+(x+1)) c') ?_ (fun r st' hr=>by cases r<;>exact hr);by_cases hmg:mg>1
     .dsimp only[F3];rw[YAM hmg];exact key (mg-1)
     .dsimp only[F3];rw[YAI hmg];exact key mg
end
noncomputable def mHi:Array Keyed->Array Keyed->StateT SortSt Sem (Array Keyed):=sortPriv% PySem.Builtin.mergeHi
noncomputable def mHiB (p q:Array Keyed):StateT SortSt Sem (Array Keyed):=do
 rule "list.sort.merge-hi"
 let tt:=p.size+q.size
 let dn (o:Array Keyed) (i j:Nat):=p.extract 0 i++q.extract 0 j++o.reverse
 let fb (o:Array Keyed) (i j:Nat):=q.extract 0 j++p.extract 0 i++o.reverse
 let mut i:=p.size-1
 let mut j:=q.size
 let mut o:Array Keyed:=#[<-elem' p i]
 if i == 0 then return dn o i j
 if j == 1 then return fb o i j
 let mut mg:=gallopOf (<-get)
 for _ in [0:tt] do
  let mut ca:=0
  let mut cb:=0
  for _ in [0:tt] do
   let some wn <-lt' (<-elem' q (j-1)) (<-elem' p (i-1)) | return dn o i j
   if wn then
    i:=i-1;o:=o.push (<-elem' p i);ca:=ca+1;cb:=0
    if i == 0 then return dn o i j
    if ca>=mg then break
   else
    j:=j-1;o:=o.push (<-elem' q j);cb:=cb+1;ca:=0
    if j == 1 then return fb o i j
    if cb>=mg then break
  rule "list.sort.gallop"
  mg:=mg+1
  for _ in [0:tt] do
   if mg>1 then mg:=mg-1
   setG mg
   let some a <-gal false (<-elem' q (j-1)) p 0 i (i-1) | return dn o i j
   let k:=i-a
   ca:=k
   if k>0 then
    o:=o++(p.extract a i).reverse;i:=a
    if i == 0 then return dn o i j
   j:=j-1;o:=o.push (<-elem' q j)
   if j == 1 then return fb o i j
   let some a <-gal true (<-elem' p (i-1)) q 0 j (j-1) | return dn o i j
   let k:=j-a
   cb:=k
   if k>0 then
    o:=o++(q.extract a j).reverse;j:=a
    if j == 1 then return fb o i j
    if j == 0 then return dn o i j
   i:=i-1;o:=o.push (<-elem' p i)
   if i == 0 then return dn o i j
   if ca<7&&cb<7 then break
  mg:=mg+1
  setG mg
 unsupported "internal:list.sort.merge-bound"
theorem ZnW (p q:Array Keyed):mHi p q=mHiB p q:=rfl
abbrev HiC:=Option (Array Keyed)×Nat×Nat×Array Keyed×Nat×Nat×Nat
noncomputable def dnh (p q o:Array Keyed) (i j:Nat):Array Keyed:=p.extract 0 i++q.extract 0 j++o.reverse
noncomputable def fbh (p q o:Array Keyed) (i j:Nat):Array Keyed:=q.extract 0 j++p.extract 0 i++o.reverse
noncomputable def hiE (p q o:Array Keyed) (i j mg ca cb:Nat):StateT SortSt Sem (ForInStep HiC):=do
 let e <-elem' p (i-1)
 if (i-1 == 0)=true then pure (ForInStep.done (some (dnh p q (o.push e) (i-1) j),i-1,j,o.push e,mg,ca,cb))
 else if (decide (ca<7)&&decide (cb<7))=true then pure (ForInStep.done (none,i-1,j,o.push e,mg,ca,cb))
 else pure (ForInStep.yield (none,i-1,j,o.push e,mg,ca,cb))
noncomputable def hiD (p q o:Array Keyed) (i j mg ca cb:Nat):StateT SortSt Sem (ForInStep HiC):=do
 let e <-elem' q (j-1)
 if (j-1 == 1)=true then pure (ForInStep.done (some (fbh p q (o.push e) i (j-1)),i,j-1,o.push e,mg,ca,cb))
 else do
  let some a <-gal true (<-elem' p (i-1)) q 0 (j-1) (j-1-1) | pure (ForInStep.done (some (dnh p q (o.push e) i (j-1)),i,j-1,o.push e,mg,ca,cb))
  if j-1-a>0 then
   if (a == 1)=true then pure (ForInStep.done (some (fbh p q (o.push e++(q.extract a (j-1)).reverse) i a),i,a,o.push e++(q.extract a (j-1)).reverse,mg,ca,j-1-a))
   else if (a == 0)=true then pure (ForInStep.done (some (dnh p q (o.push e++(q.extract a (j-1)).reverse) i a),i,a,o.push e++(q.extract a (j-1)).reverse,mg,ca,j-1-a))
   else hiE p q (o.push e++(q.extract a (j-1)).reverse) i a mg ca (j-1-a)
  else hiE p q (o.push e) i (j-1) mg ca (j-1-a)
noncomputable def hiF (p q o:Array Keyed) (i j mg ca cb:Nat):StateT SortSt Sem (ForInStep HiC):=do
 setG mg
 let some a <-gal false (<-elem' q (j-1)) p 0 i (i-1) | pure (ForInStep.done (some (dnh p q o i j),i,j,o,mg,ca,cb))
 if i-a>0 then
  if (a == 0)=true then pure (ForInStep.done (some (dnh p q (o++(p.extract a i).reverse) a j),a,j,o++(p.extract a i).reverse,mg,i-a,cb))
  else hiD p q (o++(p.extract a i).reverse) a j mg (i-a) cb
 else hiD p q o i j mg (i-a) cb
section
variable {M:Model}{A:AH}{E:Q33}{s:AE}{D:Keyed->Prop}{L:Keyed->Keyed->Bool}{kd:SortKind}{p q:Array Keyed}{T:List Keyed}{st:SortSt}
noncomputable abbrev Fl (L:Keyed->Keyed->Bool):Keyed->Keyed->Bool:=fun x y=>L y x
theorem ZkI {l:List Keyed}:l.reverse.Pairwise (Le (Fl L))↔l.Pairwise (Le L):=by rw[List.pairwise_reverse]
abbrev MR (D:Keyed->Prop)(L:Keyed->Keyed->Bool)(T:List Keyed)(p q o:Array Keyed)(i j:Nat):Prop:=MS D (Fl L) T o.toList (p.toList.take i).reverse (q.toList.take j).reverse
structure HiI (D:Keyed->Prop)(L:Keyed->Keyed->Bool)(p q:Array Keyed)(T:List Keyed)(o:Array Keyed)(i j:Nat):Prop where
 ms:MR D L T p q o i j
 li:0<i
 lj:1<j
 hi:i<=p.size
 hj:j<=q.size
structure HiH (D:Keyed->Prop)(L:Keyed->Keyed->Bool)(p q:Array Keyed):Prop where
 dp:∀u∈p.toList,D u
 dq:∀u∈q.toList,D u
 sp:p.toList.Pairwise (Le L)
 sq:q.toList.Pairwise (Le L)
 first:∀u∈q.toList.take 1,∀v∈p.toList,L u v=true
theorem Zhp {p:Array Keyed}{i:Nat}{e:Keyed}(hi:0<i)(h:p[i-1]?=some e):p.toList.take i=p.toList.take (i-1)++[e]:=by obtain⟨i,rfl⟩:∃k,i=k+1:=⟨i-1,by omega⟩;rw[Nat.add_sub_cancel]at h ⊢;rw[List.take_succ,YAl,h];rfl
theorem Zju {p:Array Keyed}{i:Nat}{e:Keyed}(hi:0<i)(h:p[i-1]?=some e):(p.toList.take i).reverse=[e]++(p.toList.take (i-1)).reverse:=by rw[Zhp hi h,List.reverse_append];rfl
theorem ZdV (l:List Keyed){a i:Nat}(h:a<=i):(l.take i).reverse=((l.take i).drop a).reverse++(l.take a).reverse:=by
 rw[<-List.reverse_append];congr 1;have:l.take a=(l.take i).take a:=by rw[YCY,YBq h]
 rw[this,YAq]
theorem Zoo (p:Array Keyed)(a i:Nat):(p.extract a i).reverse.toList=((p.toList.take i).drop a).reverse:=by rw[Array.toList_reverse,YBD,List.extract,List.drop_take]
theorem Zkp (p q o:Array Keyed)(i j:Nat):(dnh p q o i j).toList=p.toList.take i++q.toList.take j++o.toList.reverse:=by unfold dnh;rw[YBL,YBL,YBD,YBD,Array.toList_reverse,List.extract,List.extract];simp
theorem Zkn (p q o:Array Keyed)(i j:Nat):(fbh p q o i j).toList=q.toList.take j++p.toList.take i++o.toList.reverse:=by unfold fbh;rw[YBL,YBL,YBD,YBD,Array.toList_reverse,List.extract,List.extract];simp
theorem Zi4 {l m:List Keyed}(h:l.Perm T/\l.Pairwise (Le (Fl L)))(e:m=l.reverse):m.Perm T/\m.Pairwise (Le L):=by subst e;refine⟨(List.reverse_perm l).trans h.1,?_⟩;rw[List.pairwise_reverse];exact h.2
theorem Zhb {o:Array Keyed}{i j:Nat}(h:MR D L T p q o i j)(e:i=0):Fin1 L T (dnh p q o i j):=by unfold Fin1;rw[Zkp];subst e;have h':=h.swap;exact Zi4 (l:=o.toList++(q.toList.take j).reverse) (MS.fin (D:=D) (by simpa using h')) (by simp)
theorem HiH.fin_fb {o:Array Keyed}{i j:Nat}(hH:HiH D L p q)(hC:Cmp D L)(h:MR D L T p q o i j)(e:j=1):Fin1 L T (fbh p q o i j):=by unfold Fin1;rw[Zkn];subst e;refine Zi4 (h.all fun u hu v hv=>?_) (by simp);have hu:u∈p.toList:=YAb (YBk.mp hu);have hv:=YBk.mp hv;exact hC.asym v u (hH.dq v (YAb hv)) (hH.dp u hu) (hH.first v hv u hu)
noncomputable def HiQ (D:Keyed->Prop) (L:Keyed->Keyed->Bool) (p q:Array Keyed) (T:List Keyed) (w:Nat) (c:HiC):Prop:=
 ∃r o i j mg ca cb,c=(r,i,j,o,mg,ca,cb)/\((∃z,r=some z/\Fin1 L T z)\/(r=none/\HiI D L p q T o i j/\i+j<=w))
noncomputable def HiY (D:Keyed->Prop) (L:Keyed->Keyed->Bool) (p q:Array Keyed) (T:List Keyed) (w:Nat) (c:HiC):Prop:=
 ∃o i j mg ca cb,c=(none,i,j,o,mg,ca,cb)/\HiI D L p q T o i j/\i+j<=w
noncomputable def HiP (D:Keyed->Prop) (L:Keyed->Keyed->Bool) (p q:Array Keyed) (T:List Keyed) (w:Nat) (st:SortSt) (r:ForInStep HiC) (st':SortSt):Prop:=
 (∃g,st'=ZaB st g)/\match r with | .done c=>HiQ D L p q T w c | .yield c=>HiY D L p q T w c
theorem ZkR {o:Array Keyed}{i j mg ca cb w g:Nat}(hH:HiH D L p q)(hi:0<i)(hip:i<=p.size)(hj:1<j)(hjq:j<=q.size)(hw:i-1+j<=w)(h:MR D L T p q o i j)
  (hle:∀u∈(p.toList.take i).drop (i-1),∀v∈q.toList.take j,Le L v u):wpS M A E s (hiE p q o i j mg ca cb) (HiP D L p q T w st) (ZaB st g):=by
 obtain⟨e,he,hm⟩:=at? (p:=p) (i:=i-1) (by omega);have hd:=Zju hi he;have h2:MR D L T p q (o.push e) (i-1) j:=by
  unfold MR at h ⊢;rw[YBe];rw[hd]at h;refine MS.movX h fun u hu v hv=>?_;have hu:u=e:=by simpa using hu
  subst hu;refine hle u ?_ v (YBk.mp hv);rw[Zhp hi he,YCB (by simp;omega)];simp
 unfold hiE;refine YAO (Za2 he ?_);by_cases c1:i-1=0
 .rw[YAM (by simpa using c1)];exact YAX ⟨⟨g,rfl⟩,_,_,_,_,_,_,_,rfl,.inl ⟨_,rfl,Zhb h2 c1⟩⟩
 .rw[YAI (by simpa using c1)];have hI:HiI D L p q T (o.push e) (i-1) j:=⟨h2,by omega,hj,by omega,hjq⟩;split
  .exact YAX ⟨⟨g,rfl⟩,_,_,_,_,_,_,_,rfl,.inr ⟨rfl,hI,hw⟩⟩
  .exact YAX ⟨⟨g,rfl⟩,_,_,_,_,_,_,rfl,hI,hw⟩
theorem le_refl' (hC:Cmp D L){v:Keyed}(h:D v):Le L v v:=by
 cases hx:L v v with
 | false=>exact hx
 | true=>exact hC.asym v v h h hx
theorem Zez (hC:Cmp D L)(hd:∀u∈p.toList,D u)(hs:p.toList.Pairwise (Le L)){i:Nat}{x:Keyed}(hi:0<i)(hx:p[i-1]?=some x)(hm:x∈p.toList):∀v∈p.toList.take i,Le L v x:=by
 intro v hv;have h2:=hs.sublist (YCk i p.toList);rw[Zhp hi hx]at h2 hv;rcases YAW.mp hv with hv | hv
 .exact(YBN.mp h2).2.2 v hv x (by simp)
 .have:v=x:=by simpa using hv
  subst this;exact le_refl' hC (hd v hm)
theorem ZdH {i:Nat}{x u:Keyed}(hi:0<i)(hip:i<=p.size)(hx:p[i-1]?=some x):u∈(p.toList.take i).drop (i-1)↔u=x:=by rw[Zhp hi hx,YCB (by simp;omega),YBu (by simp;omega)];simp
theorem ZkS {o:Array Keyed}{i j mg ca cb w g:Nat}(hH:HiH D L p q)(hC:Cmp D L)(hP:PureC M A E s D L kd)(hk:kindOf st=kd)(hi:0<i)(hip:i<=p.size)(hj:1<j)(hjq:j<=q.size)(hw:i-1+j<=w)
  (h:MR D L T p q o i j) (hle:∀v∈(q.toList.take j).drop (j-1),∀u∈p.toList.take i,Le L u v):wpS M A E s (hiD p q o i j mg ca cb) (HiP D L p q T w st) (ZaB st g):=by
 obtain⟨e,he,hm⟩:=at? (p:=q) (i:=j-1) (by omega);obtain⟨x,hx,hxm⟩:=at? (p:=p) (i:=i-1) (by omega);have h2:MR D L T p q (o.push e) i (j-1):=by
  unfold MR at h ⊢;rw[YBe];rw[Zju (by omega) he]at h;refine MS.movY h fun u hu v hv=>?_;have hu:u=e:=by simpa using hu
  exact hle u ((ZdH (by omega) hjq he).mpr hu) v (YBk.mp hv)
 unfold hiD;refine YAO (Za2 he ?_);by_cases c1:j-1=1
 .rw[YAM (by simpa using c1)];exact YAX ⟨⟨g,rfl⟩,_,_,_,_,_,_,_,rfl,.inl ⟨_,rfl,hH.fin_fb hC h2 c1⟩⟩
 .rw[YAI (by simpa using c1)];refine YAO (Za2 hx ?_);refine YAO (Zd7 hC hP (by exact hk) (by omega) (by omega) (hH.dp x hxm) hH.dq (by rw[YBo];exact hH.sq.sublist (YCk _ _)) ?_);rw[YBo];intro a hkn ha hb;replace ha:∀u∈(q.toList.take (j-1)).take a,L u x=true:=ha;replace hb:∀u∈(q.toList.take (j-1)).drop a,Le L x u:=hb;rw[YCY,YBq hkn]at ha;dsimp only;have xge:=Zez hC hH.dp hH.sp hi hx hxm;have h3:MR D L T p q (o.push e++(q.extract a (j-1)).reverse) i a:=by unfold MR at h2 ⊢;rw[YBL,Zoo];rw[ZdV q.toList hkn]at h2;refine h2.movY fun u hu v hv=>?_;have hu:=YBk.mp hu;have hv:=YBk.mp hv;exact hC.tr v x u (hH.dp v (YAb hv)) (hH.dp x hxm) (hH.dq u (YAb (YAe hu))) (xge v hv) (hb u hu)
  have hle2:∀u∈(p.toList.take i).drop (i-1),∀v∈q.toList.take a,Le L v u:=by intro u hu v hv;have:=(ZdH hi hip hx).mp hu;subst this;exact hC.asym v u (hH.dq v (YAb hv)) (hH.dp u hxm) (ha v hv)
  have ha0:a≠0:=by
   rintro rfl;obtain⟨y,hy,hym⟩:=at? (p:=q) (i:=0) (by omega);have hyq:q.toList.take 1=[y]:=by have:=Zhp (p:=q) (i:=1) (by omega) hy;simpa using this
   have h5:=hH.first y (by rw[hyq];simp) x hxm
   have h6:y∈q.toList.take (j-1):=by
    have:q.toList.take 1=(q.toList.take (j-1)).take 1:=by rw[YCY,YBq (by omega)]
    rw[this]at hyq;exact YAb (i:=1) (by rw[hyq];simp)
   rw[show L y x=false from hb y h6]at h5;cases h5
  by_cases hk0:j-1-a>0
  .rw[YAM hk0];by_cases c2:a=1
   .rw[YAM (by simpa using c2)];exact YAX ⟨⟨g,rfl⟩,_,_,_,_,_,_,_,rfl,.inl ⟨_,rfl,hH.fin_fb hC h3 c2⟩⟩
   .rw[YAI (by simpa using c2),YAI (by simpa using ha0)];exact ZkR hH hi hip (by omega) (by omega) (by omega) h3 hle2
  .rw[YAI hk0];have:a=j-1:=by omega
   subst this;exact ZkR hH hi hip (by omega) (by omega) (by omega) h2 hle2
theorem Zok {o:Array Keyed}{i j mg ca cb w g:Nat}(hH:HiH D L p q)(hC:Cmp D L)(hP:PureC M A E s D L kd)(hk:kindOf st=kd)(hw:i-1+j<=w)(hI:HiI D L p q T o i j):
  wpS M A E s (hiF p q o i j mg ca cb) (HiP D L p q T w st) (ZaB st g):=by
 obtain⟨h,hi,hj,hip,hjq⟩:=hI;obtain⟨x,hx,hxm⟩:=at? (p:=q) (i:=j-1) (by omega);unfold hiF;refine YAO (YCQ ?_);refine YAO (Za2 hx ?_);refine YAO (Zd7 hC hP (by exact hk) (by omega) (by omega) (hH.dq x hxm) hH.dp (by rw[YBo];exact hH.sp.sublist (YCk _ _)) ?_);rw[YBo];intro a hkn ha hb;replace ha:∀u∈(p.toList.take i).take a,Le L u x:=ha;replace hb:∀u∈(p.toList.take i).drop a,L x u=true:=hb;rw[YCY,YBq hkn]at ha;dsimp only;have xge:=Zez hC hH.dq hH.sq (by omega) hx hxm;have h3:MR D L T p q (o++(p.extract a i).reverse) a j:=by unfold MR at h ⊢;rw[YBL,Zoo];rw[ZdV p.toList hkn]at h;refine h.movX fun u hu v hv=>?_;have hu:=YBk.mp hu;have hv:=YBk.mp hv;have hDu:=hH.dp u (YAb (YAe hu));exact hC.tr v x u (hH.dq v (YAb hv)) (hH.dq x hxm) hDu (xge v hv) (hC.asym x u (hH.dq x hxm) hDu (hb u hu))
 have hle2:∀v∈(q.toList.take j).drop (j-1),∀u∈p.toList.take a,Le L u v:=by intro v hv u hu;have:=(ZdH (by omega) hjq hx).mp hv;subst this;exact ha u hu
 by_cases hk0:i-a>0
 .rw[YAM hk0];by_cases c2:a=0
  .rw[YAM (by simpa using c2)];exact YAX ⟨⟨_,rfl⟩,_,_,_,_,_,_,_,rfl,.inl ⟨_,rfl,Zhb h3 c2⟩⟩
  .rw[YAI (by simpa using c2)];exact ZkS hH hC hP hk (by omega) (by omega) hj hjq (by omega) h3 hle2
 .rw[YAI hk0];have:a=i:=by omega
  subst this;exact ZkS hH hC hP hk hi hip hj hjq hw h hle2
theorem ZnV {Q:Array Keyed->SortSt->Prop}(hH:HiH D L p q)(hC:Cmp D L)(hP:PureC M A E s D L kd)(hk:kindOf st=kd)(hp:0<p.size)(hq:0<q.size)
  (h0:∀u∈p.toList.drop (p.size-1),∀v∈q.toList,Le L v u) (hQ:∀z g,Fin1 L (p.toList++q.toList) z->Q z (ZaB st g)):wpS M A E s (mHi p q) Q st:=by
 rw[ZnW];unfold mHiB;obtain⟨e,he,hm⟩:=at? (p:=p) (i:=p.size-1) (by omega);have hd:p.toList=p.toList.take (p.size-1)++[e]:=by
  have:=Zhp hp he
  rwa [YAu (by simp)]at this
 have h1:MR D L (p.toList++q.toList) p q #[e] (p.size-1) q.size:=by
  unfold MR;have e2:(q.toList.take q.size)=q.toList:=YAu (by simp);rw[e2];have:MS D (Fl L) (p.toList++q.toList) [] ([e]++(p.toList.take (p.size-1)).reverse) q.toList.reverse:=by
   have e3:[e]++(p.toList.take (p.size-1)).reverse=p.toList.reverse:=by
    conv=>rhs;rw[hd]
    simp
   rw[e3];exact⟨by simpa using (List.reverse_perm _).append (List.reverse_perm _),List.Pairwise.nil,by simp,by simp,ZkI.mpr hH.sp,ZkI.mpr hH.sq⟩
  refine this.movX fun u hu v hv=>h0 u ?_ v (YBk.mp hv);have hu:u=e:=by simpa using hu
  subst hu;rw[hd,YCB (by simp)];simp
 refine YAO (wpS_lift (YCG ⟨rfl,?_⟩));refine YAO (Za2 he ?_);by_cases c1:p.size-1=0
 .rw[YAM (by simpa using c1)];exact YAX (hQ _ _ (Zhb h1 c1))
 rw[YAI (by simpa using c1)];by_cases c2:q.size=1
 .rw[YAM (by simpa using c2)];exact YAX (hQ _ _ (hH.fin_fb hC h1 c2))
 rw[YAI (by simpa using c2)];refine YAO (YDc ?_);have hI:HiI D L p q (p.toList++q.toList) #[e] (p.size-1) q.size:=⟨h1,by omega,by omega,by omega,by omega⟩;generalize p.toList++q.toList=T at hI hQ;refine Zd6 ?_;intro F1 G1;refine YAO (YCI (YBZ (a:=0) (b:=p.size+q.size) (I:=fun x c st'=>∃g,st'=ZaB st g/\∃o i j mg,c=(none,i,j,o,mg)/\HiI D L p q T o i j/\x+(i+j)<=p.size+q.size)
  (Q:=fun c st'=>∃g,st'=ZaB st g/\∃z o i j mg,c=(some z,i,j,o,mg)/\Fin1 L T z) ?step ?fin ⟨gallopOf st,rfl,#[e],p.size-1,q.size,gallopOf st,rfl,hI,by omega⟩) ?post)
 case post=>
  rintro c st' ⟨g,rfl,z,o,i,j,mg,rfl,hz⟩;exact YAX (hQ z g hz)
 case fin=>
  rintro c st' ⟨g,rfl,o,i,j,mg,rfl,hI,hx⟩;have:=hI.li;have:=hI.lj;omega
 case step=>
  rintro x c st' _ hx ⟨g,rfl,o,i,j,mg,rfl,hI,hxi⟩;dsimp only[F1];refine Zd6 ?_;intro F2 G2;refine YAO (YCI (YBZ (I:=fun y c st'=>st'=ZaB st g/\∃o i j ca cb,c=(none,i,j,o,ca,cb)/\HiI D L p q T o i j/\y+x+(i+j)<=p.size+q.size)
   (Q:=fun c st'=>st'=ZaB st g/\∃r o i j ca cb,c=(r,i,j,o,ca,cb)/\((∃z,r=some z/\Fin1 L T z)\/(r=none/\HiI D L p q T o i j/\x+1+(i+j)<=p.size+q.size))) ?s1 ?f1 ⟨rfl,_,_,_,_,_,rfl,hI,by omega⟩) ?p1)
  case f1=>
   rintro c st' ⟨rfl,o,i,j,ca,cb,rfl,hI,hx⟩;have:=hI.li;have:=hI.lj;omega
  case s1=>
   rintro y c st' _ hy ⟨rfl,o,i,j,ca,cb,rfl,hI,hxi⟩;obtain⟨h,hi,hj,hip,hjq⟩:=hI;obtain⟨u,hu,hum⟩:=at? (p:=q) (i:=j-1) (by omega);obtain⟨v,hv,hvm⟩:=at? (p:=p) (i:=i-1) (by omega);have hDu:=hH.dq u hum;have hDv:=hH.dp v hvm;have uge:=Zez hC hH.dq hH.sq (by omega) hu hum;have vge:=Zez hC hH.dp hH.sp hi hv hvm;dsimp only[F2];refine YAO (Za2 hu (YAO (Za2 hv (YAO (hP _ _ _ _ hk hDu hDv ?_)))));dsimp only;cases hL:L u v with
   | true=>
    rw[YAM rfl];refine YAO (Za2 hv ?_);have h2:MR D L T p q (o.push v) (i-1) j:=by
     unfold MR at h ⊢;rw[YBe];rw[Zju hi hv]at h;refine MS.movX h fun a ha b hb=>?_;have ha:a=v:=by simpa using ha
     subst ha;have hb:=YBk.mp hb;exact hC.tr b u a (hH.dq b (YAb hb)) hDu hDv (uge b hb) (hC.asym _ _ hDu hDv hL)
    by_cases c3:i-1=0
    .rw[YAM (by simpa using c3)];exact YAX ⟨rfl,_,_,_,_,_,_,rfl,.inl ⟨_,rfl,Zhb h2 c3⟩⟩
    .rw[YAI (by simpa using c3)];have hI:HiI D L p q T (o.push v) (i-1) j:=⟨h2,by omega,by omega,by omega,by omega⟩;split
     .exact YAX ⟨rfl,_,_,_,_,_,_,rfl,.inr ⟨rfl,hI,by omega⟩⟩
     .exact YAX ⟨rfl,_,_,_,_,_,rfl,hI,by omega⟩
   | false=>
    rw[YAI YAC];refine YAO (Za2 hu ?_);have h2:MR D L T p q (o.push u) i (j-1):=by
     unfold MR at h ⊢;rw[YBe];rw[Zju (by omega) hu]at h;refine MS.movY h fun a ha b hb=>?_;have ha:a=u:=by simpa using ha
     subst ha;have hb:=YBk.mp hb;exact hC.tr b v a (hH.dp b (YAb hb)) hDv hDu (vge b hb) hL
    by_cases c3:j-1=1
    .rw[YAM (by simpa using c3)];exact YAX ⟨rfl,_,_,_,_,_,_,rfl,.inl ⟨_,rfl,hH.fin_fb hC h2 c3⟩⟩
    .rw[YAI (by simpa using c3)];have hI:HiI D L p q T (o.push u) i (j-1):=⟨h2,by omega,by omega,by omega,by omega⟩;split
     .exact YAX ⟨rfl,_,_,_,_,_,_,rfl,.inr ⟨rfl,hI,by omega⟩⟩
     .exact YAX ⟨rfl,_,_,_,_,_,rfl,hI,by omega⟩
  case p1=>
   rintro c st' ⟨rfl,r,o,i,j,ca,cb,rfl,⟨z,rfl,hz⟩|⟨rfl,hI,hw⟩⟩
   .exact YAX ⟨g,rfl,z,o,i,j,mg,rfl,hz⟩
   .dsimp only[G2];refine YAO (wpS_lift (YCG ⟨rfl,?_⟩));refine Zd6 ?_;intro F3 G3;refine YAO (YCI (YBZ (I:=fun y c st'=>(∃g,st'=ZaB st g)/\HiY D L p q T (p.size+q.size-y-(x+1)) c)
     (Q:=fun c st'=>(∃g,st'=ZaB st g)/\HiQ D L p q T (p.size+q.size-(x+1)) c) ?s2 ?f2 ⟨⟨g,rfl⟩,_,_,_,_,_,_,rfl,hI,by omega⟩) ?p2)
    case f2=>
     rintro c st' ⟨_,o,i,j,mg,ca,cb,rfl,hI,hx⟩;have:=hI.li;have:=hI.lj;omega
    case p2=>
     rintro c st' ⟨⟨g,rfl⟩,r,o,i,j,mg,ca,cb,rfl,⟨z,rfl,hz⟩|⟨rfl,hI,hw⟩⟩
     .exact YAX ⟨g,rfl,z,o,i,j,mg,rfl,hz⟩
     .exact YAO (YCQ (YAX ⟨_,rfl,o,i,j,mg+1,rfl,hI,by have:=hI.li;omega⟩))
    case s2=>
     rintro y c st' _ hy ⟨⟨g,rfl⟩,o,i,j,mg,ca,cb,rfl,hI,hw⟩;have key:∀mg,wpS M A E s (hiF p q o i j mg ca cb) (fun r st'=>match r with | .done c'=>(∃g,st'=ZaB st g)/\HiQ D L p q T (p.size+q.size-(x+1)) c' | .yield c'=>(∃g,st'=ZaB st g)/\HiY D L p q T (p.size+q.size-(y+1)-(x+1)) c') (ZaB st g):=by
      intro mg;have:=hI.li;refine YCI (Zok (w:=p.size+q.size-(y+1)-(x+1)) hH hC hP hk (by omega) hI) ?_;rintro r st' ⟨hg,hr⟩;cases r with
      | done c=>
       obtain⟨r,o,i,j,mg,ca,cb,rfl,h | ⟨rfl,hI,hw⟩⟩:=hr
       .exact⟨hg,r,o,i,j,mg,ca,cb,rfl,.inl h⟩
       .exact⟨hg,none,o,i,j,mg,ca,cb,rfl,.inr ⟨rfl,hI,by omega⟩⟩
      | yield c=>exact⟨hg,hr⟩
     refine YCI (Q:=fun r st'=>match r with | .done c'=>(∃g,st'=ZaB st g)/\HiQ D L p q T (p.size+q.size-(x+1)) c' | .yield c'=>(∃g,st'=ZaB st g)/\HiY D L p q T (p.size+q.size-(y+1)-(x+1)) c') ?_ (fun r st' hr=>by cases r<;>exact hr);by_cases hmg:mg>1
     .dsimp only[F3];rw[YAM hmg];exact key (mg-1)
     .dsimp only[F3];rw[YAI hmg];exact key mg
end
noncomputable def mAtB (i:Nat):StateT SortSt Sem Bool:=do
 let v <-get
 let (some (sa,na,pw),some (sb,nb,_)):=((pendingOf v)[i]?,(pendingOf v)[i+1]?) | unsupported "internal:list.sort.pending"
 set (setPending v (((pendingOf v).setIfInBounds i (sa,na+nb,pw)).eraseIdxIfInBounds (i+1)))
 let some k <-gal false (<-elem' (arrOf v) sb) (arrOf v) sa na 0 | return false
 let (sa,na):=(sa+k,na-k)
 if na == 0 then return true
 let some nb <-gal true (<-elem' (arrOf v) (sa+na-1)) (arrOf v) sb nb (nb-1) | return false
 if nb == 0 then return true
 let x:=(arrOf v).extract sa sb
 let y:=(arrOf v).extract sb (sb+nb)
 let mm <-if na<=nb then mLo x y else mHi x y
 modify fun u=>setArr u (mm.toList.zipIdx.foldl (fun a (p,j)=>a.setIfInBounds (sa+j) p) (arrOf u))
 return (failedOf (<-get)).isNone
theorem ZnY (i:Nat):mergeAt' i=mAtB i:=rfl
theorem Zla {M:Model}{A:AH}{E:Q33}{s:AE}{U:Type}{v:U}{Q:PUnit->U->Prop}{st:U}(h:Q ⟨⟩ v):wpS M A E s (set v:StateT U Sem PUnit) Q st:=by unfold wpS;rw[StateT.run_set];exact YAD ⟨rfl,h⟩
noncomputable def putL (a:Array Keyed) (b:Nat) (l:List Keyed):Array Keyed:=l.zipIdx.foldl (fun a (p,j)=>a.setIfInBounds (b+j) p) a
theorem Zio:∀(l:List Keyed) (n b:Nat) (a:Array Keyed) (x y z:List Keyed),a.toList=x++y++z->x.length=b+n->y.length=l.length ->
  ((l.zipIdx n).foldl (fun a (p,j)=>a.setIfInBounds (b+j) p) a).toList=x++l++z
 | [],n,b,a,x,y,z,h,hx,hy=>by
  have:y=[]:=YCV.mp hy;subst this;simpa using h
 | e::l,n,b,a,x,y,z,h,hx,hy=>by
  cases y with
  | nil=>simp at hy
  | cons f y=>
   rw[List.zipIdx_cons,YBy];have:=Zio l (n+1) b (a.setIfInBounds (b+n) e) (x++[e]) y z (by rw[YCo,h,<-hx,YAm,YCu,List.set_append_right _ _ (YAS _),Nat.sub_self];simp) (by simp;omega) (by simpa using hy)
   rw[this];simp
theorem Zin {l:List Keyed}{b:Nat}{a:Array Keyed}{x y z:List Keyed}(h:a.toList=x++y++z)(hx:x.length=b)(hy:y.length=l.length):(putL a b l).toList=x++l++z:=
 Zio l 0 b a x y z h (by omega) hy
section
variable {M:Model}{A:AH}{E:Q33}{s:AE}{D:Keyed->Prop}{L:Keyed->Keyed->Bool}{kd:SortKind}{st:SortSt}
theorem slice {a:Array Keyed}{x y z:List Keyed}{b n:Nat}(h:a.toList=x++y++z)(hb:b=x.length)(hn:n=y.length):(a.toList.drop b).take n=y:=by rw[h,hb,hn,YAm,List.drop_left,List.take_left]
theorem ZnX {i pw pw2:Nat}{W X Y Z:List Keyed}{Q:Bool->SortSt->Prop}(hC:Cmp D L)(hP:PureC M A E s D L kd)(hk:kindOf st=kd)(hf:failedOf st=none)
  (ha:(arrOf st).toList=W++X++Y++Z) (hd:∀u∈(arrOf st).toList,D u) (hX:X≠[]) (hY:Y≠[]) (sX:X.Pairwise (Le L)) (sY:Y.Pairwise (Le L))
  (h1:(pendingOf st)[i]?=some (W.length,X.length,pw)) (h2:(pendingOf st)[i+1]?=some (W.length+X.length,Y.length,pw2))
  (hQ:∀(V:List Keyed) (a:Array Keyed) g,a.toList=W++V++Z->V.Perm (X++Y)->V.Pairwise (Le L)->Q true (SortSt.mk' kd a (((pendingOf st).setIfInBounds i (W.length,X.length+Y.length,pw)).eraseIdxIfInBounds (i+1)) g none)):
  wpS M A E s (mergeAt' i) Q st:=by
 rw[ZnY];unfold mAtB;refine YAO (YDc ?_);rw[h1,h2];dsimp only;refine YAO (Zla ?_);have hsz:(arrOf st).size=W.length+X.length+Y.length+Z.length:=by rw[<-YAG,ha];simp;omega
 have hXp:0<X.length:=YBK.mpr hX;have hYp:0<Y.length:=YBK.mpr hY;have dX:∀u∈X,D u:=fun u hu=>hd u (by rw[ha];simp[hu]);have dY:∀u∈Y,D u:=fun u hu=>hd u (by rw[ha];simp[hu]);obtain⟨y0,Y',rfl⟩:∃y l,Y=y::l:=by cases Y with | nil=>exact absurd rfl hY | cons y l=>exact⟨y,l,rfl⟩
 have hy0:(arrOf st)[W.length+X.length]?=some y0:=by rw[<-YAl,ha,YAm,YAw (by simp)];simp
 have dy0:=dY y0 (by simp);refine YAO (Za2 hy0 ?_);have sl1:=slice (a:=arrOf st) (x:=W) (y:=X) (z:=y0::Y'++Z) (b:=W.length) (n:=X.length) (by rw[ha];simp) rfl rfl;have sl2:=slice (a:=arrOf st) (x:=W++X) (y:=y0::Y') (z:=Z) (b:=W.length+X.length) (n:=(y0::Y').length) (by rw[ha]) (by simp) rfl;refine YAO (Zd7 hC hP (by exact hk) (by omega) hXp dy0 hd (by rw[sl1];exact sX) ?_);rw[sl1];intro k hkn ha1 hb1;replace ha1:∀u∈X.take k,Le L u y0:=ha1;replace hb1:∀u∈X.drop k,L y0 u=true:=hb1;dsimp only;have y0le:∀v∈y0::Y',Le L y0 v:=by
  intro v hv;rcases YAT.mp hv with rfl | hv
  .exact le_refl' hC dy0
  .exact(YBW.mp sY).1 v hv
 have X1Y:∀u∈X.take k,∀v∈y0::Y',Le L u v:=fun u hu v hv=>hC.tr u y0 v (dX u (YAb hu)) dy0 (dY v hv) (ha1 u hu) (y0le v hv);by_cases c1:X.length-k=0
 .rw[YAM (by simpa using c1)];refine YAX ?_;have e:X.take k=X:=YAu (by omega);rw[e]at X1Y;have:=hQ (X++(y0::Y')) (arrOf st) (gallopOf st) (by rw[ha];simp) (List.Perm.refl _) (YBN.mpr ⟨sX,sY,X1Y⟩);rw[<-hk,<-hf]at this;exact this
 rw[YAI (by simpa using c1)];obtain⟨xl,hxl⟩:∃xl,X[X.length-1]?=some xl:=⟨X[X.length-1],YAH (by omega)⟩;have hxm:xl∈X:=YAo hxl;have hxl2:xl∈X.drop k:=by refine YAo (i:=X.length-1-k) ?_;rw[YCb,<-hxl];congr 1;omega
 have hxa:(arrOf st)[W.length+k+(X.length-k)-1]?=some xl:=by rw[<-YAl,ha,YAm,YAm,YAw (by omega),YAx (by omega),<-hxl];congr 1;omega
 refine YAO (Za2 hxa ?_);refine YAO (Zd7 hC hP (by exact hk) (by simp at hsz ⊢;omega) (by simp) (dX xl hxm) hd (by rw[sl2];exact sY) ?_);rw[sl2];intro n hnn ha2 hb2;replace ha2:∀u∈(y0::Y').take n,L u xl=true:=ha2;replace hb2:∀u∈(y0::Y').drop n,Le L xl u:=hb2;dsimp only;have hn0:n≠0:=by rintro rfl;have h5:=hb1 xl hxl2;rw[show L y0 xl=false from hb2 y0 (by simp)]at h5;cases h5
 rw[YAI (by simpa using hn0)];obtain⟨x,hx⟩:∃x,x=(arrOf st).extract (W.length+k) (W.length+X.length):=⟨_,rfl⟩;obtain⟨y,hy⟩:∃y,y=(arrOf st).extract (W.length+X.length) (W.length+X.length+n):=⟨_,rfl⟩;have xL:x.toList=X.drop k:=by rw[hx,YBD,List.extract];exact slice (x:=W++X.take k) (z:=y0::Y'++Z) (by rw[ha];simp only[YAm];rw[<-YAm (X.take k),YAq]) (by rw[YAF,YAZ,YBq hkn]) (by rw[YAj];omega)
 have yL:y.toList=(y0::Y').take n:=by rw[hy,YBD,List.extract];exact slice (x:=W++X) (z:=(y0::Y').drop n++Z) (by rw[ha];simp only[YAm];rw[<-YAm (List.take n _),YAq]) (by rw[YAF]) (by rw[YAZ,YBq hnn];omega)
 have xS:x.size=X.length-k:=by rw[<-YAG,xL,YAj]
 have yS:y.size=n:=by rw[<-YAG,yL,YAZ,YBq hnn]
 have y1:y.toList.take 1=[y0]:=by rw[yL,YCY,YBq (by omega)];simp
 have xd:∀v∈x.toList.drop (x.size-1),v=xl:=by
  intro v hv;rw[xL,xS,YCE]at hv;have:X.drop (k+(X.length-k-1))=[xl]:=by obtain⟨h5,h6⟩:=YAa.mp hxl;rw[show k+(X.length-k-1)=X.length-1 by omega,YCs h5,h6,YBu (by omega)]
  rw[this]at hv;simpa using hv
 have dx:∀u∈x.toList,D u:=fun u hu=>dX u (YAe (xL▸hu));have dy:∀u∈y.toList,D u:=fun u hu=>dY u (YAb (yL▸hu));have sx:x.toList.Pairwise (Le L):=by rw[xL];exact sX.sublist (List.drop_sublist _ _)
 have sy:y.toList.Pairwise (Le L):=by rw[yL];exact sY.sublist (YCk _ _)
 have y0x:∀v∈x.toList,L y0 v=true:=fun v hv=>hb1 v (xL▸hv);have yxl:∀u∈y.toList,L u xl=true:=fun u hu=>ha2 u (yL▸hu);have main:∀(z:Array Keyed) g,Fin1 L (x.toList++y.toList) z->wpS M A E s (do
   modify fun u=>setArr u (putL (arrOf u) (W.length+k) z.toList)
   return (failedOf (<-get)).isNone) Q (ZaB (setPending st (((pendingOf st).setIfInBounds i (W.length,X.length+(y0::Y').length,pw)).eraseIdxIfInBounds (i+1))) g):=by
  rintro z g ⟨hz1,hz2⟩;refine YAO (YCQ (YAO (YDc (YAX ?_))));show Q (failedOf st).isNone _;rw[hf];have hzl:(X.drop k++(y0::Y').take n).length=z.toList.length:=by rw[hz1.length_eq,xL,yL]
  have hp:(putL (arrOf st) (W.length+k) z.toList).toList=W++(X.take k++z.toList++(y0::Y').drop n)++Z:=by
   rw[Zin (x:=W++X.take k) (y:=X.drop k++(y0::Y').take n) (z:=(y0::Y').drop n++Z) (by rw[ha];simp only[YAm];rw[<-YAm (List.take n _),YAq,<-YAm (X.take k),YAq]) (by rw[YAF,YAZ,YBq hkn]) hzl]
   simp only[YAm]
  have zm:∀v∈z.toList,v∈X.drop k\/v∈(y0::Y').take n:=fun v hv=>by have:=hz1.mem_iff.mp hv;rw[xL,yL]at this;exact YAW.mp this
  have dxl:=dX xl hxm;have:=hQ (X.take k++z.toList++(y0::Y').drop n) _ g hp ?_ ?_
  .rw[<-hk,<-hf]at this;exact this
  .have e1:(X.take k++z.toList++(y0::Y').drop n).Perm (X.take k++(X.drop k++(y0::Y').take n)++(y0::Y').drop n):=by refine List.Perm.append_right _ (List.Perm.append_left _ ?_);rw[xL,yL]at hz1;exact hz1
   refine e1.trans (List.Perm.of_eq ?_);rw[<-YAm,YAq,YAm,YAq]
  .have zY2:∀u∈z.toList,∀v∈(y0::Y').drop n,Le L u v:=by
    intro u hu v hv;rcases zm u hu with h | h
    .have hux:Le L u xl:=by
      have e5:X=X.take (X.length-1)++[xl]:=by
       obtain⟨h5,h6⟩:=YAa.mp hxl
       conv=>lhs;rw[<-YAq (X.length-1) X,YCs h5,h6,YBu (by omega)]
      have hu':u∈X:=YAe h;rw[e5]at sX hu';rcases YAW.mp hu' with hu' | hu'
      .exact(YBN.mp sX).2.2 u hu' xl (by simp)
      .have:u=xl:=by simpa using hu'
       subst this;exact le_refl' hC dxl
     exact hC.tr u xl v (dX u (YAe h)) dxl (dY v (YAe hv)) hux (hb2 v hv)
    .have e5:=sY;rw[<-YAq n (y0::Y')]at e5;exact(YBN.mp e5).2.2 u h v hv
   rw[YBN,YBN];refine⟨⟨sX.sublist (YCk _ _),hz2,fun u hu v hv=>?_⟩,sY.sublist (List.drop_sublist _ _),fun u hu v hv=>?_⟩
   .rcases zm v hv with h | h
    .have e5:=sX;rw[<-YAq k X]at e5;exact(YBN.mp e5).2.2 u hu v h
    .exact X1Y u hu v (YAb h)
   .rcases YAW.mp hu with hu | hu
    .exact X1Y u hu v (YAe hv)
    .exact zY2 u hu v hv
 have xp:0<x.size:=by omega
 have yp:0<y.size:=by omega
 rw[<-hx,<-hy];by_cases c3:X.length-k<=n
 .rw[YAM c3];refine YAO (ZnT (st:=setPending st _) ⟨dx,dy,sx,sy,fun u hu v hv=>by rw[xd v hv];exact yxl u hu⟩ hC hP (by exact hk) xp yp (fun u hu v hv=>?_) fun z g hz=>main z g hz);have hu:u=y0:=by rw[y1]at hu;simpa using hu
  subst hu;exact hC.asym u v dy0 (dx v hv) (y0x v hv)
 .rw[YAI c3];refine YAO (ZnV (st:=setPending st _) ⟨dx,dy,sx,sy,fun u hu v hv=>by rw[y1]at hu;rw[show u=y0 by simpa using hu];exact y0x v hv⟩ hC hP (by exact hk) xp yp (fun u hu v hv=>?_) fun z g hz=>main z g hz);rw[xd u hu];exact hC.asym v xl (dy v hv) (dX xl hxm) (yxl v hv)
end
abbrev CmpT (L:Keyed->Keyed->Bool):Prop:=Cmp (fun _=>True) L
theorem CmpT.to {L:Keyed->Keyed->Bool}{D:Keyed->Prop}(h:CmpT L):Cmp D L:=⟨fun x y _ _=>h.asym x y trivial trivial,fun x y z _ _ _=>h.tr x y z trivial trivial trivial⟩
theorem CmpT.rf {L:Keyed->Keyed->Bool}(h:CmpT L)(x:Keyed):Le L x x:=le_refl' h trivial
theorem CmpT.le {L:Keyed->Keyed->Bool}(h:CmpT L){x y:Keyed}(e:L x y=true):Le L x y:=h.asym x y trivial trivial e
theorem CmpT.t {L:Keyed->Keyed->Bool}(h:CmpT L){x y z:Keyed}(e:Le L x y)(f:Le L y z):Le L x z:=h.tr x y z trivial trivial trivial e f
theorem CmpT.lt_le {L:Keyed->Keyed->Bool}(h:CmpT L){x y z:Keyed}(e:L x y=true)(f:Le L y z):L x z=true:=by
 cases hx:L x z with
 | true=>rfl
 | false=>rw[h.tr y z x trivial trivial trivial f hx]at e;cases e
noncomputable def at0 (a:Array Keyed) (i:Nat):Keyed:=(a[i]?).getD (.none,.none)
theorem ZdL {a b:Array Keyed}{i j:Nat}(h:a[i]?=b[j]?):at0 a i=at0 b j:=by unfold at0;rw[h]
noncomputable def SegU (L:Keyed->Keyed->Bool) (a:Array Keyed) (l h:Nat):Prop:=∀i j,l<=i->i<=j->j<h->Le L (at0 a i) (at0 a j)
noncomputable def SegD (L:Keyed->Keyed->Bool) (a:Array Keyed) (l h:Nat):Prop:=∀i j,l<=i->i<=j->j<h->Le L (at0 a j) (at0 a i)
structure Kept (lo:Nat)(a b:Array Keyed):Prop where
 perm:b.Perm a
 pre:∀k,k<lo->b[k]?=a[k]?
theorem Kept.rf (lo:Nat)(a:Array Keyed):Kept lo a a:=⟨Array.Perm.refl _,fun _ _=>rfl⟩
theorem Kept.tr {lo:Nat}{a b c:Array Keyed}(h:Kept lo a b)(k:Kept lo b c):Kept lo a c:=⟨k.perm.trans h.perm,fun i hi=>(k.pre i hi).trans (h.pre i hi)⟩
theorem Kept.sz {lo:Nat}{a b:Array Keyed}(h:Kept lo a b):b.size=a.size:=h.perm.size_eq
theorem Kept.d {lo:Nat}{a b:Array Keyed}{D:Keyed->Prop}(h:Kept lo a b)(hd:∀u∈a.toList,D u):∀u∈b.toList,D u:=fun u hu=>hd u ((YCp.mp h.perm).mem_iff.mp hu)
theorem Zjm {xs:Array Keyed}{src d:Nat}(hs:src<xs.size)(hd:d<=src)(k:Nat):
  at0 (bubble xs src d) k=if k=src-d then at0 xs src else if src-d<k/\k<=src then at0 xs (k-1) else at0 xs k:=by
 have e:=getElem?_bubble hs d hd k;repeat' split
 all_goals (refine ZdL (e.trans ?_);first | rw[YAM (by assumption)] | (rw[YAI (by assumption)];first | rw[YAM (by assumption)] | rw[YAI (by assumption)]))
theorem Zgw {xs:Array Keyed}{i j:Nat}(hj:j<=xs.size)(k:Nat):
  at0 (mirror xs i j ((j-i)/2)) k=if i<=k/\k<j then at0 xs (i+j-1-k) else at0 xs k:=by
 have e:=getElem?_mirror_all (i:=i) hj k;split
 .exact ZdL (e.trans (YAM (by assumption)))
 .exact ZdL (e.trans (YAI (by assumption)))
theorem Kept.bub {lo src d:Nat}{a:Array Keyed}(hs:src<a.size)(hd:lo+d<=src):Kept lo a (bubble a src d):=
 ⟨bubble_perm _ _ _,fun k hk=>by rw[getElem?_bubble hs d (by omega),YAI (by omega),YAI (by omega)]⟩
theorem Kept.mir {lo i j:Nat}{a:Array Keyed}(hj:j<=a.size)(hl:lo<=i):Kept lo a (mirror a i j ((j-i)/2)):=
 ⟨mirror_perm _ _ _ _,fun k hk=>by rw[getElem?_mirror_all hj,YAI (by omega)]⟩
section
variable {M:Model}{A:AH}{E:Q33}{s:AE}{D:Keyed->Prop}{L:Keyed->Keyed->Bool}{kd:SortKind}{st:SortSt}
theorem Zfp {a:Array Keyed}{i j:Nat}{Q:Option Bool->SortSt->Prop}(hP:PureC M A E s D L kd)(hk:kindOf st=kd)(hd:∀u∈a.toList,D u)(hi:i<a.size)(hj:j<a.size)
  (q:Q (some (L (at0 a i) (at0 a j))) (setArr st a)):wpS M A E s (ltAt' i j) Q (setArr st a):=by
 obtain⟨x,hx,hxm⟩:=at? hi;obtain⟨y,hy,hym⟩:=at? hj;have ex:at0 a i=x:=by unfold at0;rw[hx];rfl
 have ey:at0 a j=y:=by unfold at0;rw[hy];rfl
 rw[ex,ey]at q;rw[ltAt'_eq];refine YAO (YDc ?_);exact YAO (Za2 hx (YAO (Za2 hy (hP _ _ _ _ hk (hd x hxm) (hd y hym) q))))
theorem Zmm {a:Array Keyed}{lo n ok:Nat}{Q:Bool->SortSt->Prop}(hC:CmpT L)(hP:PureC M A E s D L kd)(hk:kindOf st=kd)(hd:∀u∈a.toList,D u)(hn:lo+n<=a.size)(hok:ok<=n)
  (hs:SegU L a lo (lo+ok)) (h:∀b,Kept lo a b->SegU L b lo (lo+n)->Q true (setArr st b)):wpS M A E s (binarySort' lo n ok) Q (setArr st a):=by
 rw[binarySort'_eq];refine YAO (YCI (YBZ (I:=fun k c st'=>c=(none,())/\∃b,st'=setArr st b/\Kept lo a b/\SegU L b lo (lo+min k n))
  (Q:=fun c st'=>c=(none,())/\∃b,st'=setArr st b/\Kept lo a b/\SegU L b lo (lo+n)) ?step ?fin ?init) ?post)
 case post=>
  rintro c st' ⟨rfl,b,rfl,hb,hs'⟩;exact YAX (h b hb hs')
 case init=>
  refine⟨rfl,a,rfl,Kept.rf _ _,fun i j hl hij hj=>?_⟩;by_cases h1:ok=0
  .have:i=j:=by omega
   subst this;exact hC.rf _
  .exact hs i j hl hij (by omega)
 case fin=>
  rintro c st' ⟨hc,b,hst,hb,hs'⟩;refine⟨hc,b,hst,hb,?_⟩
  rwa [show min (max (max ok 1) n) n=n by omega]at hs'
 case step=>
  rintro k c st' hak hkn ⟨rfl,b,rfl,hb,hs'⟩;rw[show min k n=k by omega]at hs';have hsz:=hb.sz;have hdb:=hb.d hd;refine YAO (YCI (YBZ (I:=fun x c st''=>st''=setArr st b/\∃l r,c=(none,l,r)/\l<=r/\r<=k/\r-l<=k-x /\
    (∀i,lo<=i->i<lo+l->Le L (at0 b i) (at0 b (lo+k)))/\(∀i,lo+r<=i->i<lo+k->L (at0 b (lo+k)) (at0 b i)=true))
   (Q:=fun c st''=>st''=setArr st b/\∃l r,c=(none,l,r)/\l<=k /\
    (∀i,lo<=i->i<lo+l->Le L (at0 b i) (at0 b (lo+k)))/\(∀i,lo+l<=i->i<lo+k->L (at0 b (lo+k)) (at0 b i)=true)) ?istep ?ifin ?iinit) ?ipost)
  case iinit=>exact⟨rfl,0,k,rfl,by omega,by omega,by omega,fun i h1 hi=>by omega,fun i h1 h2=>by omega⟩
  case ifin=>
   rintro c st'' ⟨rfl,l,r,rfl,hlr,hrk,hm,hlo,hhi⟩;have:l=r:=by omega
   subst this;exact⟨rfl,l,l,rfl,hrk,hlo,hhi⟩
  case istep=>
   rintro x c st'' _ hxk ⟨rfl,l,r,rfl,hlr,hrk,hm,hlo,hhi⟩;dsimp only;by_cases hge:l>=r
   .rw[YAM hge];have:l=r:=by omega
    subst this;exact YAX ⟨rfl,l,l,rfl,hrk,hlo,hhi⟩
   .rw[YAI hge];refine YAO (Zfp hP hk hdb (by omega) (by omega) ?_);cases hless:L (at0 b (lo+k)) (at0 b (lo+(l+r)/2)) with
    | true=>exact YAX ⟨rfl,l,(l+r)/2,rfl,by omega,by omega,by omega,hlo,fun i h1 h2=>hC.lt_le hless (hs' _ _ (by omega) h1 h2)⟩
    | false=>exact YAX ⟨rfl,(l+r)/2+1,r,rfl,by omega,by omega,by omega,fun i h0 h1=>hC.t (hs' i (lo+(l+r)/2) h0 (by omega) (by omega)) hless,hhi⟩
  case ipost=>
   rintro c st'' ⟨rfl,l,r,rfl,hlk,hlo,hhi⟩;show wpS _ _ _ _ (do moveDown' (lo+k) (lo+l);pure (ForInStep.yield (none,()))) _ _;rw[moveDown'_eq];have hks:lo+k<b.size:=by omega
   refine YAO (YCQ (YAX ⟨rfl,bubble b (lo+k) (lo+k-(lo+l)),rfl,hb.tr (Kept.bub hks (by omega)),?_⟩));rw[show min (k+1) n=k+1 by omega];intro i j hl hij hj;rw[Zjm hks (by omega),Zjm hks (by omega),show lo+k-(lo+k-(lo+l))=lo+l by omega];repeat' split
   all_goals first
    | (exfalso;omega)
    | exact hC.rf _
    | exact hlo _ (by omega) (by omega)
    | exact hC.le (hhi _ (by omega) (by omega))
    | exact hs' _ _ (by omega) (by omega) (by omega)
end
noncomputable def ascO (lo a nr:Nat):StateT SortSt Sem AscSt:=
 forIn [a:nr] ((none,a):AscSt) fun _ c=>do
  let x <-ltAt' (lo+c.snd) (lo+c.snd-1)
  match x with
  | some sm=>if sm=true then pure (ForInStep.done (none,c.snd)) else pure (ForInStep.yield (none,c.snd+1))
  | _=>pure (ForInStep.done (some none,c.snd))
noncomputable def tailO (lo n nr:Nat):StateT SortSt Sem (Option Nat):=do
 reverseSlice' lo (lo+n)
 let c <-ascO lo n nr
 match c.fst with
 | some r=>pure r
 | none=>pure (some c.snd)
noncomputable def descO (lo n nr:Nat):StateT SortSt Sem DescSt:=
 forIn [n:nr] ((none,n,0):DescSt) fun _ c=>do
  let x <-ltAt' (lo+c.snd.fst) (lo+c.snd.fst-1)
  match x with
  | some sm=>
   if sm=true then
    if c.snd.snd>0 then do
     reverseSlice' (lo+c.snd.fst-(c.snd.snd+1)) (lo+c.snd.fst)
     pure (ForInStep.yield (none,c.snd.fst+1,0))
    else pure (ForInStep.yield (none,c.snd.fst+1,0))
   else do
    let y <-ltAt' (lo+c.snd.fst-1) (lo+c.snd.fst)
    match y with
    | some lg=>
     if lg=true then pure (ForInStep.done (none,c.snd.fst,c.snd.snd))
     else pure (ForInStep.yield (none,c.snd.fst+1,c.snd.snd+1))
    | _=>pure (ForInStep.done (some none,c.snd.fst,c.snd.snd))
  | _=>pure (ForInStep.done (some none,c.snd.fst,c.snd.snd))
section
variable {M:Model}{A:AH}{E:Q33}{s:AE}{D:Keyed->Prop}{L:Keyed->Keyed->Bool}{kd:SortKind}{st:SortSt}
noncomputable def Eqv (L:Keyed->Keyed->Bool) (x y:Keyed):Prop:=Le L x y/\Le L y x
theorem Zdl {a:Array Keyed}{i j:Nat}{Q:Unit->SortSt->Prop}(q:Q () (setArr st (mirror a i j ((j-i)/2)))):wpS M A E s (reverseSlice' i j) Q (setArr st a):=by rw[reverseSlice'_eq];exact YCQ q
theorem Zjn {a:Array Keyed}{lo n0 nr:Nat}{Q:AscSt->SortSt->Prop}(hC:CmpT L)(hP:PureC M A E s D L kd)(hk:kindOf st=kd)(hd:∀u∈a.toList,D u)(hn:lo+nr<=a.size)(h1:1<=n0)(hnn:n0<=nr)
  (hs:SegU L a lo (lo+n0)) (h:∀n,n0<=n->n<=nr->SegU L a lo (lo+n)->(n=nr\/L (at0 a (lo+n)) (at0 a (lo+n-1))=true)->Q (none,n) (setArr st a)):wpS M A E s (ascO lo n0 nr) Q (setArr st a):=by
 unfold ascO;refine YBZ (I:=fun x c st'=>st'=setArr st a/\c=(none,x)/\SegU L a lo (lo+x)) ?step ?fin ⟨rfl,rfl,hs⟩
 case fin=>
  rintro c st' ⟨rfl,rfl,hs'⟩;rw[show max n0 nr=nr by omega]at hs' ⊢;exact h nr hnn (YAS _) hs' (.inl rfl)
 case step=>
  rintro x c st' hax hxn ⟨rfl,rfl,hs'⟩;dsimp only;refine YAO (Zfp hP hk hd (by omega) (by omega) ?_);cases hl:L (at0 a (lo+x)) (at0 a (lo+x-1)) with
  | true=>exact YAX (h x hax (by omega) hs' (.inr hl))
  | false=>
   refine YAX ⟨rfl,rfl,fun i j hli hij hj=>?_⟩;by_cases hjx:j<lo+x
   .exact hs' i j hli hij hjx
   .have hj':j=lo+x:=by omega
    subst hj';by_cases hi':i=lo+x
    .subst hi';exact hC.rf _
    .exact hC.t (hs' i (lo+x-1) hli (by omega) (by omega)) hl
theorem Zc7 {a:Array Keyed}{lo n nr:Nat}{Q:Option Nat->SortSt->Prop}(hC:CmpT L)(hP:PureC M A E s D L kd)(hk:kindOf st=kd)(hd:∀u∈a.toList,D u)(hn:lo+nr<=a.size)(h1:1<=n)(hnn:n<=nr)
  (hs:SegD L a lo (lo+n)) (h:∀b m,Kept lo a b->1<=m->m<=nr->SegU L b lo (lo+m)->Q (some m) (setArr st b)):wpS M A E s (tailO lo n nr) Q (setArr st a):=by
 unfold tailO;refine YAO (Zdl ?_);have hK:Kept lo a (mirror a lo (lo+n) ((lo+n-lo)/2)):=Kept.mir (by omega) (YAS _);refine YAO (Zjn hC hP hk (hK.d hd) (by rw[hK.sz];exact hn) h1 hnn ?_ fun m hm1 hm2 hsm _=>YAX (h _ m hK (by omega) hm2 hsm));intro i j hli hij hj;rw[Zgw (by omega),Zgw (by omega),YAM (by omega),YAM (by omega)];exact hs _ _ (by omega) (by omega) (by omega)
theorem Zew {a:Array Keyed}{i j:Nat}(hC:CmpT L)(hj:j<=a.size)(he:∀k,i<=k->k<j->Eqv L (at0 a k) (at0 a (j-1)))(k:Nat):Eqv L (at0 (mirror a i j ((j-i)/2)) k) (at0 a k):=by
 rw[Zgw hj];split
 .have e1:=he (i+j-1-k) (by omega) (by omega);have e2:=he k (by omega) (by omega);exact⟨hC.t e1.1 e2.2,hC.t e2.1 e1.2⟩
 .exact⟨hC.rf _,hC.rf _⟩
theorem SegD.eqv {a b:Array Keyed}{l h:Nat}(hC:CmpT L)(hs:SegD L a l h)(he:∀k,Eqv L (at0 b k) (at0 a k)):SegD L b l h:=
 fun i j h1 h2 h3=>hC.t (he j).1 (hC.t (hs i j h1 h2 h3) (he i).2)
theorem SegD.more {a:Array Keyed}{l x:Nat}(hC:CmpT L)(hs:SegD L a l x)(hle:l<x->Le L (at0 a x) (at0 a (x-1))):SegD L a l (x+1):=by
 intro i j hli hij hj;by_cases hjx:j<x
 .exact hs i j hli hij hjx
 .have hj':j=x:=by omega
  subst hj';by_cases hi':i=j
  .subst hi';exact hC.rf _
  .exact hC.t (hle (by omega)) (hs i (j-1) hli (by omega) (by omega))
theorem Zhh {a:Array Keyed}{lo n nr:Nat}{Q:DescSt->SortSt->Prop}(hC:CmpT L)(hP:PureC M A E s D L kd)(hk:kindOf st=kd)(hd:∀u∈a.toList,D u)(hn:lo+nr<=a.size)(h1:1<=n)(hnn:n<=nr)
  (hs:SegD L a lo (lo+n))
  (h:∀b m nq,Kept lo a b->n<=m->m<=nr->SegD L b lo (lo+m)->nq+1<=m->(∀i,lo+m-(nq+1)<=i->i<lo+m->Eqv L (at0 b i) (at0 b (lo+m-1)))->Q (none,m,nq) (setArr st b)):
  wpS M A E s (descO lo n nr) Q (setArr st a):=by
 unfold descO;refine YBZ (I:=fun x c st'=>∃b nq,st'=setArr st b/\c=(none,x,nq)/\Kept lo a b/\SegD L b lo (lo+x)/\nq+1<=x /\
   (∀i,lo+x-(nq+1)<=i->i<lo+x->Eqv L (at0 b i) (at0 b (lo+x-1)))) ?step ?fin ⟨a,0,rfl,rfl,Kept.rf _ _,hs,by omega,fun i h1 h2=>by rw[show i=lo+n-1 by omega];exact⟨hC.rf _,hC.rf _⟩⟩
 case fin=>
  rintro c st' ⟨b,nq,rfl,rfl,hK,hs',hq,he⟩;rw[show max n nr=nr by omega]at hs' hq he ⊢;exact h b nr nq hK hnn (YAS _) hs' hq he
 case step=>
  rintro x c st' hax hxn ⟨b,nq,rfl,rfl,hK,hs',hq,he⟩;have hbs:=hK.sz;have hdb:=hK.d hd;dsimp only;refine YAO (Zfp hP hk hdb (by omega) (by omega) ?_);cases hl:L (at0 b (lo+x)) (at0 b (lo+x-1)) with
  | true=>
   have hmore:SegD L b lo (lo+x+1):=hs'.more hC fun _=>hC.le hl;dsimp only;by_cases hq0:nq>0
   .rw[YAM rfl,YAM hq0];refine YAO (Zdl (YAX ⟨_,0,rfl,rfl,hK.tr (Kept.mir (by omega) (by omega)),hmore.eqv hC (Zew hC (by omega) he),by omega,fun i h1 h2=>?_⟩));rw[show i=lo+(x+1)-1 by omega];exact⟨hC.rf _,hC.rf _⟩
   .rw[YAM rfl,YAI hq0];refine YAX ⟨b,0,rfl,rfl,hK,hmore,by omega,fun i h1 h2=>?_⟩;rw[show i=lo+(x+1)-1 by omega];exact⟨hC.rf _,hC.rf _⟩
  | false=>
   dsimp only;rw[YAI YAC];refine YAO (Zfp hP hk hdb (by omega) (by omega) ?_);cases hg:L (at0 b (lo+x-1)) (at0 b (lo+x)) with
   | true=>exact YAX (h b x nq hK hax (by omega) hs' hq he)
   | false=>
    refine YAX ⟨b,nq+1,rfl,rfl,hK,hs'.more hC fun _=>hg,by omega,fun i h1 h2=>?_⟩;rw[show lo+(x+1)-1=lo+x by omega];by_cases hix:i=lo+x
    .subst hix;exact⟨hC.rf _,hC.rf _⟩
    .have e:=he i (by omega) (by omega);exact⟨hC.t e.1 hl,hC.t hg e.2⟩
theorem Zmj {a:Array Keyed}{lo nr:Nat}{Q:Option Nat->SortSt->Prop}(hC:CmpT L)(hP:PureC M A E s D L kd)(hk:kindOf st=kd)(hd:∀u∈a.toList,D u)(hn:lo+nr<=a.size)(h1:1<=nr)
  (h:∀b m,Kept lo a b->1<=m->m<=nr->SegU L b lo (lo+m)->Q (some m) (setArr st b)):wpS M A E s (countRun' lo nr) Q (setArr st a):=by
 rw[countRun'_eq];refine YAO (YCI (Zjn (Q:=fun c st'=>∃n,c=(none,n)/\st'=setArr st a/\1<=n/\n<=nr/\SegU L a lo (lo+n)/\(n=nr\/L (at0 a (lo+n)) (at0 a (lo+n-1))=true)) hC hP hk hd hn (YAS 1) h1 (fun i j hl hij hj=>by have:i=j:=(by omega);subst this;exact hC.rf _) fun n a1 a2 a3 a4=>⟨n,rfl,rfl,a1,a2,a3,a4⟩) ?_);rintro c st' ⟨n,rfl,rfl,hn1,hn2,hsn,hor⟩;dsimp only;by_cases hnn:n=nr
 .rw[YAM (by simpa using hnn)];exact YAX (h a n (Kept.rf _ _) hn1 hn2 hsn)
 .rw[YAI (by simpa using hnn)];have BP:=hor.resolve_left hnn;by_cases hgt:n>1
  .rw[YAM hgt];refine YAO (Zfp hP hk hd (by omega) (by omega) ?_);cases hrose:L (at0 a lo) (at0 a (lo+n-1)) with
   | true=>
    dsimp only;rw[YAM rfl];exact YAX (h a n (Kept.rf _ _) hn1 hn2 hsn)
   | false=>
    dsimp only;rw[YAI YAC];have hall:∀k,lo<=k->k<lo+n->Eqv L (at0 a k) (at0 a (lo+n-1)):=by intro k hk1 hk2;have a1:=hsn lo k (by omega) hk1 hk2;have a2:=hsn k (lo+n-1) hk1 (by omega) (by omega);exact⟨a2,hC.t hrose a1⟩
    have hsd:SegD L a lo (lo+(n+1)):=by refine SegD.more hC (fun i j h1 h2 h3=>?_) fun _=>hC.le BP;replace h3:j<lo+n:=h3;exact hC.t (hall j (by omega) h3).1 (hall i h1 (by omega)).2
    have hK:Kept lo a (mirror a lo (lo+n) ((lo+n-lo)/2)):=Kept.mir (by omega) (YAS _);refine YAO (Zdl ?_);obtain⟨b,hb,hKb,hsb⟩:∃b,b=mirror a lo (lo+n) ((lo+n-lo)/2)/\Kept lo a b/\SegD L b lo (lo+(n+1)):=⟨_,rfl,hK,hsd.eqv hC (Zew hC (by omega) hall)⟩;rw[<-hb];have hbs:=Kept.sz hKb;refine YAO (wpS_lift (YCG ⟨rfl,?_⟩));refine YAO (Zhh hC hP hk (Kept.d hKb hd) (by omega) (by omega) (by omega) hsb fun c m nq hK hm1 hm2 hs' hq he=>?_);have hcs:=hK.sz;have hdc:=hK.d (Kept.d hKb hd);dsimp only;by_cases hq0:nq>0
    .rw[YAM hq0];have hK2:Kept lo c (mirror c (lo+m-(nq+1)) (lo+m) ((lo+m-(lo+m-(nq+1)))/2)):=Kept.mir (by omega) (by omega);refine YAO (Zdl ?_);refine Eq.mp ?_ (Zc7 (Q:=Q) hC hP hk (hK2.d hdc) (by rw[hK2.sz];omega) (by omega) hm2 (hs'.eqv hC (Zew hC (by omega) he)) fun d k hc=>h d k (Kept.tr hKb (hK.tr (hK2.tr hc))));refine congrArg (fun m=>wpS _ _ _ _ m _ _) ?_;unfold tailO ascO;refine congrArg _ (funext fun _=>congrArg _ (funext fun c=>?_));obtain⟨r3,n3⟩:=c;cases r3<;>rfl
    .rw[YAI hq0];refine Eq.mp ?_ (Zc7 (Q:=Q) hC hP hk hdc (by omega) (by omega) hm2 hs' fun d k hc=>h d k (Kept.tr hKb (hK.tr hc)));refine congrArg (fun m=>wpS _ _ _ _ m _ _) ?_;unfold tailO ascO;refine congrArg _ (funext fun _=>congrArg _ (funext fun c=>?_));obtain⟨r3,n3⟩:=c;cases r3<;>rfl
  .rw[YAI hgt];obtain⟨b,hb,hKb,hsb⟩:∃b,b=a/\Kept lo a b/\SegD L b lo (lo+(n+1)):=⟨_,rfl,Kept.rf _ _,SegD.more hC (fun i j h1 h2 h3=>by replace h3:j<lo+n:=h3;rw[show i=j by omega];exact hC.rf _) fun _=>hC.le BP⟩
   rw[<-hb];have hbs:=Kept.sz hKb;refine YAO (wpS_lift (YCG ⟨rfl,?_⟩));refine YAO (Zhh hC hP hk (Kept.d hKb hd) (by omega) (by omega) (by omega) hsb fun c m nq hK hm1 hm2 hs' hq he=>?_);have hcs:=hK.sz;have hdc:=hK.d (Kept.d hKb hd);dsimp only;by_cases hq0:nq>0
   .rw[YAM hq0];have hK2:Kept lo c (mirror c (lo+m-(nq+1)) (lo+m) ((lo+m-(lo+m-(nq+1)))/2)):=Kept.mir (by omega) (by omega);refine YAO (Zdl ?_);refine Eq.mp ?_ (Zc7 (Q:=Q) hC hP hk (hK2.d hdc) (by rw[hK2.sz];omega) (by omega) hm2 (hs'.eqv hC (Zew hC (by omega) he)) fun d k hc=>h d k (Kept.tr hKb (hK.tr (hK2.tr hc))));refine congrArg (fun m=>wpS _ _ _ _ m _ _) ?_;unfold tailO ascO;refine congrArg _ (funext fun _=>congrArg _ (funext fun c=>?_));obtain⟨r3,n3⟩:=c;cases r3<;>rfl
   .rw[YAI hq0];refine Eq.mp ?_ (Zc7 (Q:=Q) hC hP hk hdc (by omega) (by omega) hm2 hs' fun d k hc=>h d k (Kept.tr hKb (hK.tr hc)));refine congrArg (fun m=>wpS _ _ _ _ m _ _) ?_;unfold tailO ascO;refine congrArg _ (funext fun _=>congrArg _ (funext fun c=>?_));obtain⟨r3,n3⟩:=c;cases r3<;>rfl
end
noncomputable def Pd (L:Keyed->Keyed->Bool):Nat->List (Nat×Nat×Nat)->List (List Keyed)->Prop
 | _,[],[]=>True
 | o,t::ps,r::rs=>t.1=o/\t.2.1=r.length/\r≠[]/\r.Pairwise (Le L)/\Pd L (o+r.length) ps rs
 | _,_,_=>False
section
variable {M:Model}{A:AH}{E:Q33}{s:AE}{D:Keyed->Prop}{L:Keyed->Keyed->Bool}{kd:SortKind}{st:SortSt}
theorem Pd.len:∀ {ps:List (Nat×Nat×Nat)} {rs:List (List Keyed)} {o:Nat},Pd L o ps rs->ps.length=rs.length
 | [],[],_,_=>rfl
 | t::ps,r::rs,o,h=>by have:=Pd.len h.2.2.2.2;simp[this]
 | [],_::_,_,h=>h.elim
 | _::_,[],_,h=>h.elim
theorem Pd.le:∀ {ps:List (Nat×Nat×Nat)} {rs:List (List Keyed)} {o:Nat},Pd L o ps rs->ps.length<=rs.flatten.length
 | [],[],_,_=>by simp
 | t::ps,r::rs,o,h=>by
  have h1:=Pd.le h.2.2.2.2;have h2:=YBK.mpr h.2.2.1;rw[YCR,YAF,YAd];omega
 | [],_::_,_,h=>h.elim
 | _::_,[],_,h=>h.elim
theorem Pd.app:∀ {ps:List (Nat×Nat×Nat)} {rs:List (List Keyed)} {o:Nat} {t:Nat×Nat×Nat} {r:List Keyed},Pd L o ps rs->t.1=o+rs.flatten.length->t.2.1=r.length->r≠[]->r.Pairwise (Le L)->Pd L o (ps++[t]) (rs++[r])
 | [],[],o,t,r,_,h1,h2,h3,h4=>⟨by simpa using h1,h2,h3,h4,trivial⟩
 | t::ps,r::rs,o,t',r',h,h1,h2,h3,h4=>⟨h.1,h.2.1,h.2.2.1,h.2.2.2.1,Pd.app h.2.2.2.2 (by rw[h1,YCR,YAF];omega) h2 h3 h4⟩
 | [],_::_,_,_,_,h,_,_,_,_=>h.elim
 | _::_,[],_,_,_,h,_,_,_,_=>h.elim
theorem Pd.pow:∀ {ps qs:List (Nat×Nat×Nat)} {rs:List (List Keyed)} {o:Nat},Pd L o ps rs->ps.map (fun t=>(t.1,t.2.1))=qs.map (fun t=>(t.1,t.2.1))->Pd L o qs rs
 | [],qs,[],_,_,e=>by
  have:qs=[]:=by simpa using e.symm
  subst this;trivial
 | t::ps,qs,r::rs,o,h,e=>by
  cases qs with
  | nil=>simp at e
  | cons u qs=>
   simp only[YAi,List.cons.injEq,Prod.mk.injEq]at e;exact⟨e.1.1▸h.1,e.1.2▸h.2.1,h.2.2.1,h.2.2.2.1,Pd.pow h.2.2.2.2 e.2⟩
 | [],_,_::_,_,h,_=>h.elim
 | _::_,_,[],_,h,_=>h.elim
theorem Pd.pick:∀ {ps:List (Nat×Nat×Nat)} {rs:List (List Keyed)} {o i:Nat},Pd L o ps rs->i+1<ps.length ->
  ∃ra X Y rb pw pw2,rs=ra++X::Y::rb/\ps[i]?=some (o+ra.flatten.length,X.length,pw)/\ps[i+1]?=some (o+ra.flatten.length+X.length,Y.length,pw2)/\X≠[]/\Y≠[]/\X.Pairwise (Le L)/\Y.Pairwise (Le L) /\
   ∀V:List Keyed,V.length=X.length+Y.length->V.Pairwise (Le L)->Pd L o ((ps.set i (o+ra.flatten.length,X.length+Y.length,pw)).eraseIdx (i+1)) (ra++V::rb)
 | t::u::ps,r::r2::rs,o,0,h,_=>by
  obtain⟨a1,a2,a3,a4,b1,b2,b3,b4,b5⟩:=h;obtain⟨t1,t2,t3⟩:=t;obtain⟨u1,u2,u3⟩:=u;dsimp only at a1 a2 b1 b2;subst a1 a2 b1 b2;refine⟨[],r,r2,rs,t3,u3,rfl,by simp,by simp,a3,b3,a4,b4,fun V hV hs=>?_⟩;refine⟨by simp,by simpa using hV.symm,?_,hs,?_⟩
  .intro e;rw[e]at hV;have:=YBK.mpr a3;simp at hV;omega
  .rw[hV,<-Nat.add_assoc];exact b5
 | t::ps,r::rs,o,i+1,h,hi=>by
  obtain⟨a1,a2,a3,a4,a5⟩:=h;obtain⟨ra,X,Y,rb,pw,pw2,h1,h2,h3,h4,h5,h6,h7,h8⟩:=Pd.pick a5 (i:=i) (by simpa using hi);refine⟨r::ra,X,Y,rb,pw,pw2,by rw[h1];rfl,?_,?_,h4,h5,h6,h7,fun V hV hs=>?_⟩
  .rw[List.getElem?_cons_succ,h2,YCR,YAF,Nat.add_assoc]
  .rw[List.getElem?_cons_succ,h3,YCR,YAF,Nat.add_assoc o]
  .have:=h8 V hV hs;rw[List.set_cons_succ,List.eraseIdx_cons_succ,YCR,YAF,<-Nat.add_assoc];exact⟨a1,a2,a3,a4,this⟩
 | [_],[_],_,0,_,h=>by simp at h
 | [],_,_,_,_,h=>by simp at h
 | _::_,[],_,_,h,_=>h.elim
 | _::_::_,[_],_,0,h,_=>h.2.2.2.2.elim
 | [_],_::_::_,_,0,h,_=>h.2.2.2.2.elim
structure SI (L:Keyed->Keyed->Bool)(kd:SortKind)(a0:List Keyed)(n:Nat)(Z:List Keyed)(st:SortSt):Prop where
 kind:kindOf st=kd
 fail:failedOf st=none
 perm:(arrOf st).toList.Perm a0
 runs:∃rs:List (List Keyed),(arrOf st).toList=rs.flatten++Z/\rs.flatten.length=n/\Pd L 0 (pendingOf st).toList rs
theorem SI.merge {a0 Z:List Keyed}{n i:Nat}{Q:Bool->SortSt->Prop}(hC:CmpT L)(hP:PureC M A E s D L kd)(hd:∀u∈a0,D u)(h:SI L kd a0 n Z st)(hi:i+1<(pendingOf st).size)
  (q:∀st',SI L kd a0 n Z st'->(pendingOf st').size+1=(pendingOf st).size->Q true st'):wpS M A E s (mergeAt' i) Q st:=by
 obtain⟨h1,h2,h3,rs,h4,h5,h6⟩:=h;obtain⟨ra,X,Y,rb,pw,pw2,rfl,p1,p2,p3,p4,p5,p6,p7⟩:=h6.pick (i:=i) (by simpa using hi);rw[Nat.zero_add]at p1 p2;have ha:(arrOf st).toList=ra.flatten++X++Y++(rb.flatten++Z):=by rw[h4];simp
 refine ZnX hC.to hP h1 h2 ha (fun u hu=>hd u (h3.mem_iff.mp hu)) p3 p4 p5 p6 (by rw[<-YAl];exact p1) (by rw[<-YAl];exact p2) fun V a g hV hp hs=>?_;have hl:=hp.length_eq;rw[YAF]at hl;refine q _ ⟨rfl,rfl,?_,ra++V::rb,?_,?_,?_⟩ ?_
 .show a.toList.Perm a0;refine List.Perm.trans ?_ h3;rw[hV,ha];have:=(List.Perm.append_left ra.flatten hp).append_right (rb.flatten++Z);simpa using this
 .show a.toList=_;rw[hV];simp
 .rw[<-h5];simp[hl];omega
 .show Pd L 0 (Array.eraseIdxIfInBounds _ _).toList _;have:=p7 V hl hs;rw[Nat.zero_add]at this;rw[Array.toList_eraseIdxIfInBounds,YCo];exact this
 .show (Array.eraseIdxIfInBounds _ _).size+1=_;rw[<-YAG,Array.toList_eraseIdxIfInBounds,YCo,YCJ (by simpa using hi),List.length_set,YAG];omega
end
theorem Kept.pref {lo:Nat}{a b:Array Keyed}{F Z:List Keyed}(h:Kept lo a b)(ha:a.toList=F++Z)(hF:F.length=lo):b.toList=F++b.toList.drop lo:=by
 have e:b.toList.take lo=F:=by
  refine YCm fun i=>?_;rw[YDE];by_cases hi:i<lo
  .rw[YAM hi,YAl,h.pre i hi,<-YAl,ha,YAx (by omega)]
  .rw[YAI hi,YBI (by omega)]
 conv=>lhs;rw[<-YAq lo b.toList,e]
theorem SegU.pw {L:Keyed->Keyed->Bool}{b:Array Keyed}{lo m:Nat}(h:SegU L b lo (lo+m)):((b.toList.drop lo).take m).Pairwise (Le L):=by
 rw[List.pairwise_iff_getElem];intro i j hi hj hij;rw[YAZ,YAj,YAG]at hi hj;have e:∀k (hk:k<((b.toList.drop lo).take m).length),at0 b (lo+k)=((b.toList.drop lo).take m)[k]:=by intro k hk;rw[YAZ,YAj,YAG]at hk;unfold at0;rw[getElem?_pos b (lo+k) (by omega)];simp
 rw[<-e i (by simp;omega),<-e j (by simp;omega)];exact h _ _ (by omega) (by omega) (by omega)
section
variable {M:Model}{A:AH}{E:Q33}{s:AE}{D:Keyed->Prop}{L:Keyed->Keyed->Bool}{kd:SortKind}{st:SortSt}
theorem SI.push {a0 R Z:List Keyed}{lo n p:Nat}(h:SI L kd a0 lo (R++Z) st)(h1:R.length=n)(h2:R≠[])(h3:R.Pairwise (Le L)):SI L kd a0 (lo+n) Z (setPending st ((pendingOf st).push (lo,n,p))):=by
 obtain⟨a1,a2,a3,rs,a4,a5,a6⟩:=h;refine⟨a1,a2,a3,rs++[R],?_,?_,?_⟩
 .show (arrOf st).toList=_;rw[a4];simp
 .simp[a5,h1]
 .show Pd L 0 ((pendingOf st).push (lo,n,p)).toList _;rw[YBe];exact a6.app (by simp[a5]) h1.symm h2 h3
theorem ZhF {α β:Type}(g:α->β)(f:α->α)(h:∀x,g (f x)=g x)(l:List α)(k:Nat):(l.modify k f).map g=l.map g:=by
 refine YCm fun i=>?_;rw[YAc,YAc,List.getElem?_modify];cases l[i]? with
 | none=>rfl
 | some x=>by_cases e:k=i<;>simp[e,h]
theorem SI.pow {a0 Z:List Keyed}{lo k w:Nat}(h:SI L kd a0 lo Z st):SI L kd a0 lo Z (setPending st ((pendingOf st).modify k fun x=>(x.1,x.2.1,w))):=by obtain⟨a1,a2,a3,rs,a4,a5,a6⟩:=h;refine⟨a1,a2,a3,rs,a4,a5,?_⟩;show Pd L 0 ((pendingOf st).modify k _).toList _;rw[Array.toList_modify];exact a6.pow (ZhF (fun t=>(t.1,t.2.1)) (fun x=>(x.1,x.2.1,w)) (fun _=>rfl) _ _).symm
theorem Zih {a0:List Keyed}{Q:Unit->SortSt->Prop}(hC:CmpT L)(hP:PureC M A E s D L kd)(hd:∀u∈a0,D u)(hk:kindOf st=kd)(hf:failedOf st=none)(hpe:pendingOf st=#[])(ha:(arrOf st).toList=a0)
  (q:∀st',(arrOf st').toList.Perm a0->(arrOf st').toList.Pairwise (Le L)->failedOf st'=none->Q () st'):wpS M A E s sortRuns' Q st:=by
 rw[sortRuns'_eq];refine YAO (YDc ?_);dsimp only;obtain⟨N,hN⟩:∃N,N=(arrOf st).size:=⟨_,rfl⟩;have hN':a0.length=N:=by rw[hN,<-ha,YAG]
 rw[<-hN];have hSI:SI L kd a0 0 a0 st:=⟨hk,hf,by rw[ha],[],by simpa using ha,rfl,by rw[hpe];trivial⟩;refine YAO (YCI (YBZ (a:=0) (b:=N) (I:=fun x c st'=>∃lo Z,c=(none,lo)/\SI L kd a0 lo Z st'/\x<=lo/\lo<=N)
  (Q:=fun c st'=>∃Z,c=(none,N)/\SI L kd a0 N Z st') ?step ?fin ⟨0,a0,rfl,hSI,by omega,by omega⟩) ?post)
 case fin=>
  rintro c st' ⟨lo,Z,rfl,hS,hx,hl⟩;have:lo=N:=by omega
  subst this;exact⟨Z,rfl,hS⟩
 case post=>
  rintro c st' ⟨Z,rfl,hS⟩;have hZ:∀st',SI L kd a0 N Z st'->Z=[]:=by intro st' hS;obtain⟨h1,h2,h3,rs,h4,h5,h6⟩:=hS;have:=h3.length_eq;rw[h4,YAF,h5,hN']at this;exact YCV.mp (by omega)
  dsimp only;refine YAO (YCI (YBZ (a:=0) (b:=N) (I:=fun x c st'=>c=(none,())/\SI L kd a0 N Z st'/\(pendingOf st').size+x<=N)
   (Q:=fun c st'=>c=(none,())/\SI L kd a0 N Z st'/\(pendingOf st').size<=1) ?s2 ?f2 ⟨rfl,hS,?_⟩) ?p2)
  case f2=>
   rintro c st' ⟨rfl,hS,hx⟩;exact⟨rfl,hS,by omega⟩
  case p2=>
   rintro c st' ⟨rfl,hS,hx⟩;obtain⟨h1,h2,h3,rs,h4,h5,h6⟩:=hS;have:=hZ st' ⟨h1,h2,h3,rs,h4,h5,h6⟩;subst this;refine YAX (q st' h3 ?_ h2);have hl:=h6.len;rw[YAG]at hl;rw[h4,YCh];cases rs with
   | nil=>exact List.Pairwise.nil
   | cons r rs=>
    cases rs with
    | nil=>
     cases hps:(pendingOf st').toList with
     | nil=>rw[hps]at h6;exact h6.elim
     | cons t ps=>rw[hps]at h6;simpa using h6.2.2.2.1
    | cons r2 rs=>simp at hl;omega
  case s2=>
   rintro x c st' _ hx ⟨rfl,hS,hpx⟩;refine YAO (YDc ?_);by_cases hp1:(pendingOf st').size<=1
   .rw[YAM hp1];exact YAX ⟨rfl,hS,hp1⟩
   .rw[YAI hp1];refine YAO (hS.merge hC hP hd ?_ fun st2 hS2 hp2=>?_)
    .have hle:∀(c:Prop) [Decidable c] (k:Nat),(if c then k-1 else k)<=k:=fun c _ k=>by split<;>omega
     exact YCa (YCt (hle _ _)) (by omega)
    .exact YAX ⟨rfl,hS2,by omega⟩
  .obtain⟨h1,h2,h3,rs,h4,h5,h6⟩:=hS;have:=h6.le;rw[YAG]at this;omega
 case step=>
  rintro x c st' _ hx ⟨lo,Z,rfl,hS,hxl,hl⟩;dsimp only;by_cases hlo:lo>=N
  .rw[YAM hlo];have:lo=N:=by omega
   subst this;exact YAX ⟨Z,rfl,hS⟩
  rw[YAI hlo];obtain⟨h1,h2,h3,rs,h4,h5,h6⟩:=hS;have hsz:(arrOf st').size=N:=by rw[<-YAG,h3.length_eq,hN']
  have hda:∀u∈(arrOf st').toList,D u:=fun u hu=>hd u (h3.mem_iff.mp hu);refine YAO (Eq.mp (congrArg (fun v=>wpS M A E s (countRun' lo (N-lo)) _ v) (show setArr st' (arrOf st')=st' from rfl)) (Zmj hC hP h1 hda (by omega) (by omega) fun b m hK hm1 hm2 hsm=>?_));dsimp only;have hbz:=hK.sz;by_cases hmr:m<minRun' N N 0
  .rw[YAM hmr];obtain⟨n,hn⟩:∃n,n=min (N-lo) (minRun' N N 0):=⟨_,rfl⟩;rw[<-hn];refine YAO (wpS_lift (YCG ⟨rfl,?_⟩));refine YAO (Zmm hC hP h1 (hK.d hda) (by omega) (by omega) hsm fun b2 hK2 hs2=>?_);rw[YAI (by simp)];have hKb:=hK.tr hK2;have hn1:1<=n:=by omega
   have hn2:n<=N-lo:=by omega
   have hbz2:=Kept.sz hKb;have hb1:=Kept.pref hKb h4 h5;obtain⟨R,hR⟩:∃R,R=(List.drop lo (Array.toList b2)).take n:=⟨_,rfl⟩;obtain⟨Z2,hZ2⟩:∃Z2,Z2=(List.drop lo (Array.toList b2)).drop n:=⟨_,rfl⟩;have hRZ:(List.drop lo (Array.toList b2))=R++Z2:=by rw[hR,hZ2,YAq]
   have hRl:R.length=n:=by rw[hR,YAZ,YAj,YAG];omega
   have hRn:R≠[]:=by intro e;rw[e]at hRl;simp at hRl;omega
   have hRs:R.Pairwise (Le L):=by rw[hR];exact SegU.pw hs2
   have hS:SI L kd a0 lo (R++Z2) (setArr st' b2):=⟨h1,h2,(YCp.mp (Kept.perm hKb)).trans h3,rs,by rw[<-hRZ];exact hb1,h5,h6⟩;refine YAO (YDc ?_);cases hb:(pendingOf (setArr st' b2)).back? with
   | none=>
    dsimp only;exact YAO (YCQ (YAX ⟨lo+n,Z2,rfl,hS.push hRl hRn hRs,by omega,by omega⟩))
   | some t=>
    obtain⟨s1,n1,p1⟩:=t;dsimp only;refine YAO (YCI (YBZ (a:=0) (b:=N) (I:=fun y c st2=>c=(none,())/\SI L kd a0 lo (R++Z2) st2) (Q:=fun c st2=>c=(none,())/\SI L kd a0 lo (R++Z2) st2) ?_ (fun _ _ h=>h) ⟨rfl,hS⟩) ?_)
    .rintro y c st2 _ _ ⟨hc,hS2⟩;subst hc;refine YAO (YDc ?_);by_cases hp:(pendingOf st2).size>1
     .rw[YAM hp];obtain⟨t,ht⟩:∃t,(pendingOf st2)[(pendingOf st2).size-2]?=some t:=⟨_,getElem?_pos _ _ (by omega)⟩;obtain⟨t1,t2,t3⟩:=t;rw[ht];dsimp only;split
      .exact YAX ⟨rfl,hS2⟩
      .exact YAO (hS2.merge hC hP hd (by omega) fun st3 hS3 _=>YAX ⟨rfl,hS3⟩)
     .rw[YAI hp];exact YAX ⟨rfl,hS2⟩
    .rintro c st2 ⟨hc,hS2⟩;subst hc;exact YAO (YCQ (YAO (YCQ (YAX ⟨lo+n,Z2,rfl,hS2.pow.push hRl hRn hRs,by omega,by omega⟩))))
  .rw[YAI hmr];have hKb:=hK;have hbz2:=Kept.sz hKb;have hb1:=Kept.pref hKb h4 h5;obtain⟨R,hR⟩:∃R,R=(List.drop lo (Array.toList b)).take m:=⟨_,rfl⟩;obtain⟨Z2,hZ2⟩:∃Z2,Z2=(List.drop lo (Array.toList b)).drop m:=⟨_,rfl⟩;have hRZ:(List.drop lo (Array.toList b))=R++Z2:=by rw[hR,hZ2,YAq]
   have hRl:R.length=m:=by rw[hR,YAZ,YAj,YAG];omega
   have hRn:R≠[]:=by intro e;rw[e]at hRl;simp at hRl;omega
   have hRs:R.Pairwise (Le L):=by rw[hR];exact SegU.pw hsm
   have hS:SI L kd a0 lo (R++Z2) (setArr st' b):=⟨h1,h2,(YCp.mp (Kept.perm hKb)).trans h3,rs,by rw[<-hRZ];exact hb1,h5,h6⟩;refine YAO (YDc ?_);cases hb:(pendingOf (setArr st' b)).back? with
   | none=>
    dsimp only;exact YAO (YCQ (YAX ⟨lo+m,Z2,rfl,hS.push hRl hRn hRs,by omega,by omega⟩))
   | some t=>
    obtain⟨s1,n1,p1⟩:=t;dsimp only;refine YAO (YCI (YBZ (a:=0) (b:=N) (I:=fun y c st2=>c=(none,())/\SI L kd a0 lo (R++Z2) st2) (Q:=fun c st2=>c=(none,())/\SI L kd a0 lo (R++Z2) st2) ?_ (fun _ _ h=>h) ⟨rfl,hS⟩) ?_)
    .rintro y c st2 _ _ ⟨hc,hS2⟩;subst hc;refine YAO (YDc ?_);by_cases hp:(pendingOf st2).size>1
     .rw[YAM hp];obtain⟨t,ht⟩:∃t,(pendingOf st2)[(pendingOf st2).size-2]?=some t:=⟨_,getElem?_pos _ _ (by omega)⟩;obtain⟨t1,t2,t3⟩:=t;rw[ht];dsimp only;split
      .exact YAX ⟨rfl,hS2⟩
      .exact YAO (hS2.merge hC hP hd (by omega) fun st3 hS3 _=>YAX ⟨rfl,hS3⟩)
     .rw[YAI hp];exact YAX ⟨rfl,hS2⟩
    .rintro c st2 ⟨hc,hS2⟩;subst hc;exact YAO (YCQ (YAO (YCQ (YAX ⟨lo+m,Z2,rfl,hS2.pow.push hRl hRn hRs,by omega,by omega⟩))))
end
noncomputable def keyD (κ:KeyKind) (p:Keyed):κ.α:=(κ.keyOf p.1).getD κ.dflt
noncomputable def ltD (κ:KeyKind) (x y:Keyed):Bool:=κ.blt (keyD κ x) (keyD κ y)
theorem ZlN (κ:KeyKind):CmpT (ltD κ):=
 ⟨fun x y _ _ h=>KeyOrd.klt_asymm (O:=κ.toKeyOrd) h,fun x y z _ _ _ h1 h2=>KeyOrd.kle_trans (O:=κ.toKeyOrd) h1 h2⟩
section
variable {prog:AG}{w:AI}{A:AH}{E:Q33}{s:AE}{κ:KeyKind}
theorem Zj3 (hO:κ.OneLt):PureC (model prog w) A E s (fun p=>∃a,κ.keyOf p.1=some a) (ltD κ) oneType':=by
 rintro st ⟨x,p⟩ ⟨y,r⟩ Q hk ⟨a,ha⟩ ⟨b,hb⟩ q;have e:ltD κ (x,p) (y,r)=κ.blt a b:=by unfold ltD keyD;rw[ha,hb];rfl
 rw[e]at q;rw[lt'_eq];refine YAO (YDc ?_);rw[hk,keyLt'_oneType];exact YAO (wpS_lift (YDB (hO prog w A _ s x y a b ha hb ⟨rfl,YAX q⟩)))
theorem Zjy {a0:Array Keyed}{st:SortSt}{Q:Unit->SortSt->Prop}(hO:κ.OneLt)(h0:KeysOf κ a0)(hk:kindOf st=oneType')(hf:failedOf st=none)(hp:pendingOf st=#[])(ha:arrOf st=a0)
  (q:∀st',(arrOf st').Perm a0->failedOf st'=none->SortedToK κ (arrOf st') a0.size->Q () st'):wpS (model prog w) A E s sortRuns' Q st:=by
 refine Zih (a0:=a0.toList) (ZlN κ) (Zj3 hO) h0 hk hf hp (by rw[ha]) fun st' p1 p2 p3=>q st' (YCp.mpr p1) p3 ?_;have hsz:(arrOf st').size=a0.size:=by rw[<-YAG,p1.length_eq,YAG]
 intro i j hij hj;have hK:∀k (hk:k<(arrOf st').size),KK κ (arrOf st') k=keyD κ ((arrOf st').toList[k]'(by simpa using hk)):=by intro k hk;unfold KK keyD;rw[getElem?_pos _ k hk];rfl
 rw[hK i (by omega),hK j (by omega)];by_cases e:i=j
 .subst e;exact KeyOrd.kle_refl _
 .exact List.pairwise_iff_getElem.mp p2 i j (by simp;omega) (by simp;omega) (by omega)
end
section
variable {prog:AG}{w:AI}{A:AH}{E:Q33}{s:AE}{κ:KeyKind}
theorem Zjx (hO:κ.OneLt) {a:AD} {vs:AC} {n:Nat} {P:Fin->AE->Prop} (ho:s.heap.get? a=some (seqObj "list" vs.toArray n))
  (h0:KeysOf κ (pairsOf vs)) (hkk:∀x y r,vs=x::y::r->keyKind' (x::y::r).toArray=pure oneType') (hN:vs.length<=sizeLine)
  (h:∀v:SortSt,(arrOf v).Perm (pairsOf vs)->SortedToK κ (arrOf v) (pairsOf vs).size->P (.done (.ret .none)) { s with heap:=sortedHeap s.heap a vs ((arrOf v).map (·.2)) }):
  wpAny (model prog w) A (Builtin.«list.sort» ⟨[.ref a],[]⟩) P E s:=by
 by_cases h64:vs.length<64
 .exact list_sort_treeK hO ho h0 hkk h64 h
 obtain⟨x,y,r,hv⟩:∃x y r,vs=x::y::r:=by
  match vs,h64 with
  | x::y::r,_=>exact⟨x,y,r,rfl⟩
  | [x],h=>simp at h
  | [],h=>simp at h
 have h2:¬vs.toArray.size<2:=by rw[YAJ];omega
 have BP:a<s.heap.objs.size:=YAN ho;have up:=get?_update_seq ho (fun _=>#[]);generalize hep:(if (#[]:Array Value).size == vs.toArray.size then n else n+1)=ep at up;have up3:(((s.heap.update a (Obj.mapSeq fun _=>#[])).push (seqObj "tuple" vs.toArray 0)).push (seqObj "list" #[] 0)).get? a=some (seqObj "list" #[] ep):=by
  rw[Heap.get?_push_ne,Heap.get?_push_ne]
  .exact up
  .rw[Heap.size_update];exact YAf BP
  .rw[size_push',Heap.size_update];exact YAf (YDJ BP)
 rw[list_sort_plain];refine YAA (listItems_at ho rfl (YAA (listUpdate_at ho rfl (YAA (seqEpoch_at up rfl (YAA (wpAny_newTuple (YAA (wpAny_newList (YBT ?_)))))) ) (hsz:=by rw[YAJ];exact hN))));dsimp only;rw[YAI h2,YAI h2];have hk1:keyKind' vs.toArray=pure oneType':=by rw[hv];exact hkk x y r hv
 rw[hk1];refine YAA (YAD (YAA (YBB (Zjy hO h0 (st:=SortSt.mk' oneType' (pairsOf vs) #[] 7 none) (Q:=fun _ v=>(arrOf v).Perm (pairsOf vs)/\failedOf v=none/\SortedToK κ (arrOf v) (pairsOf vs).size) rfl rfl rfl rfl fun v p1 p2 p3=>⟨p1,p2,p3⟩) ?_ fun _ _ e=>e)));rintro⟨⟨⟩,v⟩ s2 ⟨rfl,p1,p2,p3⟩;dsimp only;refine YAA (seqEpoch_at up3 rfl (YAA (listUpdate_at up3 rfl ?_ (hsz2:=?_))))
 .rw[p2,bne_self_eq_false];exact YAD (h v p1 p3)
 .rw[Array.size_map,p1.size_eq,pairsOf_size];omega
end
section
variable {prog:AG}{w:AI}{A:AH}{E:Q33}{s:AE}
theorem Zhs {vs:AC}{ms:Q22}{Q:Q33}(hv:Vals (ms.map tx) vs)(h64:ms.length<=sizeLine)
  (h:∀(h':Heap) (us:AC) (e:Nat),(∀b o,s.heap.get? b=some o->h'.get? b=some o)->h'.get? s.heap.objs.size=some { cls:=.type "list",data:=.seq us.toArray e }->Vals ((Za3 ms).map tx) us->Q (.ref s.heap.objs.size) { s with heap:=h' }):
  wpAny (model prog w) A (do let l <-newList vs;let _ <-holding [l] (call (.builtin "list.sort") [l] []);ret l) (fun fin s'=>∃v,fin=Fin.done (Flow.ret v)/\Q v s') E s:=by
 have hS:=Ze1 hv;have BH:vs.length<=sizeLine:=by rw[<-hv.length,YAB];exact h64
 refine YAA (wpAny_newList ?_ ?_)
 .have hoL:(s.heap.push (seqObj "list" vs.toArray 0)).get? s.heap.objs.size=some (seqObj "list" vs.toArray 0):=YAU _ rfl;refine YAA (YBT (YCX slot_list_sort ⟨_,hoL,rfl⟩ entry_list_sort (Zjx strKind_oneLt hoL hS.keysOf (fun v9 v_2 rest e=>keyKind_strs (by rw[<-e];exact hS)) BH fun st' a1 a2=>⟨_,rfl,?_⟩) (args_list_sort _)));obtain⟨ss',b1,b2,b3⟩:=sorted_out_str hS a1 a2;obtain⟨e,he⟩:=sortedHeap_at (out:=(arrOf st').map (·.2)) hoL;refine YAD ⟨_,rfl,h _ ((arrOf st').map (·.2)).toList e (fun b o q=>?_) ?_ ?_⟩
  .have BP:=YAN q;have hlt':b<(s.heap.push (seqObj "list" vs.toArray 0)).objs.size:=by rw[YBh];exact YDJ BP
   exact(sortedHeap_old (YAf BP) hlt').trans (YAE _ q)
  .have q:((arrOf st').map (·.2)).toList.toArray=(arrOf st').map (·.2):=YCq;rw[q];exact he
  .have p1:(ss'.map fun x=>x.cps.toList).Perm ms:=by
    have:=b2.map (fun x:Str=>x.cps.toList)
    rwa [Zhj]at this
   have e1:=Zb8 p1 (Zcs b3);rw[<-e1];exact Zf5 b1
 .exact BH
theorem Zf7 {S:AD}{ls:Q22}{Q:Q33}(hh:A.handled=none)(hS:TxSet prog w s.heap S ls (!ZaK w))(h64:ls.length<=sizeLine)
  (h:∀(s':AE) (a:AD) (us:AC) (e:Nat),s.heap.get? a=none->(∀b o,s.heap.get? b=some o->s'.heap.get? b=some o)->s'.gens=s.gens->s'.os=s.os->s'.heap.get? a=some { cls:=.type "list",data:=.seq us.toArray e }->Vals ((Za3 ls).map tx) us->Q (.ref a) s'):
  wpAny (model prog w) A (call (.builtin "sorted") [.ref S]) Q E s:=by
 refine Calls.call_function_entry kind_sorted plain_sorted entry_sorted (args_sorted1 _) ?_;unfold Builtin.«sorted»;refine YAA (m:=checkCount "sorted" 1 1 _) (YAD ?_);refine YAA (ZdI (by first | exact hh | simpa using hh) hS h64 fun s' vs ms k1 hg ho hp hv=>?_);have hl:ms.length<=sizeLine:=by rw[hp.length_eq];exact h64
 refine Zhs hv hl fun h' us e k2 he r=>?_;rw[Zdg hp]at r;exact h _ _ us e (by
  cases q:s.heap.get? s'.heap.objs.size with
  | none=>rfl
  | some o=>exact absurd (YAN (k1 _ _ q)) (YBA _)) (fun b o q=>k2 b o (k1 b o q)) hg ho he r
end
section
variable {X:Cx}{e:Expr}{ta:TA}{p p2 pos kpos:Pos}
end
theorem Zfw (b:Bool)(x y:Value):keyLt' (tuples' b) x y=(do
  let xs <-Builtin.List.listItems x
  let ys <-Builtin.List.listItems y
  for ((p,r),i) in (xs.toList.zip ys.toList).zipIdx do
   if !(<-eqBool p r) then return <-oneLt' (b&&i == 0) p r
  return xs.size<ys.size):=rfl
noncomputable def keyT (h:Heap):Value->Int×Q11
 | .ref a=>match h.get? a with
  | some o=>match o.data with
   | .seq xs _=>match xs.toList with
    | [.int n _,.str w _]=>(n,w.cps.toList)
    | _=>(0,[])
   | _=>(0,[])
  | none=>(0,[])
 | _=>(0,[])
noncomputable def ltP (a b:Int×Q11):Bool:=decide (a.1<b.1) || (a.1 == b.1&&decide (a.2<b.2))
noncomputable def ltT (h:Heap) (x y:Keyed):Bool:=ltP (keyT h x.1) (keyT h y.1)
theorem Zge {a b:Int×Q11}:ltP a b=true↔a.1<b.1\/(a.1=b.1/\a.2<b.2):=by unfold ltP;simp
theorem ZiH {a b:Int×Q11}:ltP b a=false↔a.1<b.1\/(a.1=b.1/\¬b.2<a.2):=by
 rw[<-Bool.not_eq_true,Zge];constructor
 .intro h;by_cases e:a.1=b.1
  .exact .inr ⟨e,fun k=>h (.inr ⟨e.symm,k⟩)⟩
  .exact .inl (by have:¬b.1<a.1:=fun k=>h (.inl k);omega)
 .rintro (h | ⟨h,k⟩) (l | ⟨l,m⟩)
  .omega
  .omega
  .omega
  .exact k m
theorem ZlM (h:Heap):CmpT (ltT h):=by
 refine⟨fun x y _ _ e=>?_,fun x y z _ _ _ e f=>?_⟩
 .unfold ltT at e ⊢;rw[Zge]at e;rw[ZiH];rcases e with e | ⟨e,f⟩
  .exact .inl e
  .exact .inr ⟨e,List.lt_asymm f⟩
 .unfold ltT at e f ⊢;rw[ZiH]at e f ⊢;rcases e with e | ⟨e,e2⟩<;>rcases f with f | ⟨f,f2⟩
  .exact .inl (by omega)
  .exact .inl (by omega)
  .exact .inl (by omega)
  .exact .inr ⟨by omega,List.not_lt.mpr (List.le_trans (List.not_lt.mp e2) (List.not_lt.mp f2))⟩
noncomputable def IsT (h:Heap) (v:Value) (n:Int) (c:Q11):Prop:=∃a t w u e,v=.ref a/\h.get? a=some (seqObj "tuple" #[.int n t,.str w u] e)/\w.cps.toList=c
theorem IsT.key {h:Heap}{v:Value}{n:Int}{c:Q11}(k:IsT h v n c):keyT h v=(n,c):=by obtain⟨a,t,w,u,e,rfl,ho,rfl⟩:=k;unfold keyT;dsimp only;rw[ho]
section
variable {prog:AG}{w:AI}{A:AH}{E:Q33}{s:AE}
theorem ZhC {a b:Str}{t u:Tok}{Q:Bool->AE->Prop}(h:Q (decide (a.cps.toList<b.cps.toList)) s):wpAny (model prog w) A (oneLt' false (.str a t) (.str b u)) Q E s:=by rw[oneLt'_eq];simp only[YCd,if_false];refine YAA (wpAny_richCompare_same (typeIs_str s a t) (typeIs_str s b u) slot_str_lt (call_str_lt ⟨(fun z=>nomatch z),?_⟩));exact YCF h
theorem Zj2:PureC (model prog w) A E s (fun p=>∃n c,IsT s.heap p.1 n c) (ltT s.heap) (tuples' true):=by
 rintro st ⟨x,p⟩ ⟨y,r⟩ Q hk ⟨n,c,hx⟩ ⟨m,d,hy⟩ q;have e:ltT s.heap (x,p) (y,r)=ltP (n,c) (m,d):=by unfold ltT;rw[hx.key,hy.key]
 rw[e]at q;obtain⟨a,t,v,u,ep,rfl,ho,rfl⟩:=hx;obtain⟨b,t2,v2,u2,ep2,rfl,ho2,rfl⟩:=hy;rw[lt'_eq];refine YAO (YDc ?_);rw[hk,Zfw];refine YAO (wpS_lift (YDB (YAA (listItems_at ho rfl (YAA (listItems_at ho2 rfl ?_))))));show wpAny _ _ (forIn [((Value.int n t,Value.int m t2),0),((Value.str v u,Value.str v2 u2),1)] _ _ >>= _) _ _ _;rw[List.forIn_cons];refine YAA (YAA (YAA (wpAny_eqBool_int ?_)));by_cases hnm:n=m
 .subst hnm;rw[YAI (by simp)];refine YAD ?_;dsimp only;rw[List.forIn_cons];refine YAA (YAA (eqBool_str ?_));by_cases hv:v=v2
  .subst hv;rw[YAI (by simp)];refine YAD ?_;dsimp only;rw[List.forIn_nil];refine YAD ?_;dsimp only;refine YAD ⟨rfl,YAX ?_⟩;have:ltP (n,v.cps.toList) (n,v.cps.toList)=false:=by unfold ltP;simp[List.lt_irrefl]
   rw[this]at q;simpa using q
  .rw[YAM (by simpa using hv)];refine YAA (ZhC (YAD (YAD ?_)));dsimp only;refine YAD ⟨rfl,YAX ?_⟩;have:ltP (n,v.cps.toList) (n,v2.cps.toList)=decide (v.cps.toList<v2.cps.toList):=by unfold ltP;simp
   rw[this]at q;exact q
 .rw[YAM (by simpa using hnm)];refine YAA (oneLt_int (YAD (YAD ?_)));dsimp only;refine YAD ⟨rfl,YAX ?_⟩;have:ltP (n,v.cps.toList) (m,v2.cps.toList)=decide (n<m):=by unfold ltP;simp[hnm]
  rw[this]at q;exact q
end
section
variable {prog:AG}{w:AI}{A:AH}{E:Q33}{s:AE}
theorem Zck:∀ {vs:AC} {Q:List (Option Value)->AE->Prop},(∀v∈vs,∃n c,IsT s.heap v n c) ->
  (∀us:AC,us.length=vs.length->(∀u∈us,∃n t,u=.int n t)->Q (us.map some) s)->wpAny (model prog w) A (vs.mapM firstOfTuple') Q E s
 | [],Q,_,q=>by rw[List.mapM_nil];exact YAD (q [] rfl (by simp))
 | v::vs,Q,h,q=>by
  obtain⟨n,c,a,t,x,u,e,rfl,ho,rfl⟩:=h v (by simp);rw[List.mapM_cons];refine YAA ?_;show wpAny _ _ (do
   if (<-typeOf (.ref a)) != .type "tuple" then return none
   return (<-Builtin.List.listItems (.ref a))[0]?) _ _ _
  refine YAA (wpAny_typeOf_ref ho ?_);rw[YAI (show ¬((Value.type "tuple" != Value.type "tuple")=true) by decide)];refine YAA (listItems_at ho rfl (YAD ?_));refine YAA (Zck (fun v hv=>h v (by simp[hv])) fun us hl hu=>YAD ?_);refine q (.int n t::us) (by simp[hl]) fun u hu'=>?_;rcases YAT.mp hu' with rfl | hu'
  .exact⟨n,t,rfl⟩
  .exact hu u hu'
theorem Zgh {vs:AC}{Q:SortKind->AE->Prop}(hv:∀v∈vs,∃n c,IsT s.heap v n c)(hne:vs≠[])(q:Q (tuples' true) s):wpAny (model prog w) A (keyKind' vs.toArray) Q E s:=by
 rw[keyKind'_eq,List.mapM_toArray,map_eq_pure_bind,bind_assoc];refine YAA (Zck hv fun us hl hu=>?_);rw[pure_bind,YAM (by simp)];refine YAA (YCG ?_);have hI:IntsAre us (us.map numOf):=intsAre_map us hu;have e1:((us.map some).toArray.filterMap id)=us.toArray:=by simp
 rw[e1,oneTypeOnly'_eq,List.mapM_toArray,mapM_typeOf_ints hI];cases us with
 | nil=>
  cases vs with
  | nil=>exact absurd rfl hne
  | cons v vs=>simp at hl
 | cons u us=>
  simp only[map_pure,pure_bind];have h0:(List.map (fun _=>Value.type "int") (u::us)).toArray[0]?=some (Value.type "int"):=by simp
  have hall:((List.map (fun _=>Value.type "int") (u::us)).toArray.all fun z=>z == Value.type "int")=true:=by rw[List.all_toArray,List.all_map,YBO];exact fun _ _=>rfl
  rw[h0];simp only[hall,if_true,pure_bind];exact YAD q
end
theorem Zhu (a g:AD):Builtin.«list.sort» ⟨[.ref a],[(Str.ofString "key",.ref g)]⟩=(do
  let its <-Builtin.List.listItems (.ref a)
  Builtin.List.listUpdate (.ref a) fun _=>#[]
  let be <-seqEpoch a
  let hd <-newTuple its.toList
  let ks <-newList []
  holding [hd,ks] do
   rule "list.sort.key"
   for x in its do
    match <-(call (.ref g) [x]).attempt with
    | .ok k=>Builtin.List.listUpdate ks (·.push k)
    | .error e=>
     rule "list.sort.key-raised"
     let md <-Builtin.List.listItems ks
     Builtin.List.listUpdate ks fun _=>#[]
     letGo md.toList.reverse [e]
     Builtin.List.listUpdate (.ref a) fun _=>its
     throw e
   let kys <-Builtin.List.listItems ks
   let kind <-if its.size<2 then pure general' else keyKind' kys
   let ((),v) <-(if its.size<2 then pure () else sortRuns').run (SortSt.mk' kind (kys.zip its) #[] 7 none)
   Builtin.List.listUpdate ks fun _=>#[]
   letGo ((arrOf v).map (·.1)).toList (failedOf v).toList
   let tch:=(<-seqEpoch a) != be
   Builtin.List.listUpdate (.ref a) fun _=>(arrOf v).map (·.2)
   if let some e:=failedOf v then rule "list.sort.comparison-raised";throw e
   if tch then rule "list.sort.modified";raiseError "ValueError" "list modified during sort"
   ret .none):=rfl
noncomputable def Kp (h g:Heap):Prop:=∀b o,h.get? b=some o->g.get? b=some o
noncomputable def KeyCall (M:Model) (A:AH) (g:AD) (vs:AC) (kf:Value->Int×Q11) (s:AE):Prop:=
 ∀(E:Q33) (s':AE) (v:Value) (Q:Q33),v∈vs->Kp s.heap s'.heap->s'.gens=s.gens->s'.os=s.os ->
  (∀(s2:AE) (k:Value),Kp s'.heap s2.heap->s2.gens=s'.gens->s2.os=s'.os->IsT s2.heap k (kf v).1 (kf v).2->Q k s2)->wpAny M A (call (.ref g) [v]) Q E s'
theorem IsT.kp {h g:Heap}{v:Value}{n:Int}{c:Q11}(k:IsT h v n c)(q:Kp h g):IsT g v n c:=by obtain⟨a,t,w,u,e,h1,h2,h3⟩:=k;exact⟨a,t,w,u,e,h1,q _ _ h2,h3⟩
theorem IsT.up {h:Heap} {v:Value} {n:Int} {c:Q11} {K:AD} {xs:Array Value} {m:Nat} {f:Obj->Obj} (k:IsT h v n c) (hK:h.get? K=some (seqObj "list" xs m)):IsT (h.update K f) v n c:=by
 obtain⟨a,t,w,u,e,h1,h2,h3⟩:=k;refine⟨a,t,w,u,e,h1,?_,h3⟩;rw[(YAh h K f).2 a ?_]
 .exact h2
 .rintro rfl;rw[h2]at hK;have:=congrArg Obj.cls (Option.some.inj hK);exact absurd (show Value.type "tuple"=Value.type "list" from this) (by decide)
noncomputable def KeysAre (h:Heap) (kf:Value->Int×Q11) (ks vs:AC):Prop:=ks.length=vs.length/\∀(i:Nat) (k v:Value),ks[i]?=some k->vs[i]?=some v->IsT h k (kf v).1 (kf v).2
section
variable {prog:AG}{w:AI}{A:AH}{E:Q33}{s:AE}
theorem ZiQ {g K a:AD}{vs:AC}{kf:Value->Int×Q11}{oa:Obj}{Q:PUnit->AE->Prop}{er:Value->Sem (ForInStep PUnit)}(hc:KeyCall (model prog w) A g vs kf s)(hK0:s.heap.get? K=none)(ha0:a≠K)(hN:vs.length<=sizeLine)
  (q:∀(s2:AE) ks n,Kp s.heap s2.heap->s2.gens=s.gens->s2.os=s.os->s2.heap.get? K=some (seqObj "list" ks.toArray n)->KeysAre s2.heap kf ks vs->s2.heap.get? a=some oa->Q ⟨⟩ s2):
  ∀(l dn ks:AC) (s':AE) (n:Nat),vs=dn++l->Kp s.heap s'.heap->s'.gens=s.gens->s'.os=s.os->s'.heap.get? K=some (seqObj "list" ks.toArray n)->KeysAre s'.heap kf ks dn->s'.heap.get? a=some oa ->
   wpAny (model prog w) A (forIn l PUnit.unit fun x _=>do
    match <-(call (.ref g) [x]).attempt with
    | .ok k=>do
     Builtin.List.listUpdate (.ref K) (·.push k)
     pure (ForInStep.yield PUnit.unit)
    | .error e=>er e) Q E s'
 | [],dn,ks,s',n,hv,h1,h2,h3,h4,h5,h6=>by
  rw[YCh]at hv;subst hv;rw[List.forIn_nil];exact YAD (q s' ks n h1 h2 h3 h4 h5 h6)
 | x::l,dn,ks,s',n,hv,h1,h2,h3,h4,h5,h6=>by
  rw[List.forIn_cons];refine YAA (YAA (YDB (hc _ s' x _ (by rw[hv];simp) h1 h2 h3 fun s2 k k1 k2 k3 k4=>?_)));have BH:ks.length<vs.length:=by rw[h5.1,hv];simp
  have hK2:=k1 _ _ h4;refine YAA (listUpdate_at hK2 rfl (YAD ?_) (hsz:=by rw[YAJ];omega) (hsz2:=by rw[Array.size_push,YAJ];omega));dsimp only;have sb:=YAh s2.heap K (Obj.mapSeq fun z=>z.push k);refine ZiQ hc hK0 ha0 hN q l (dn++[x]) (ks++[k]) _ _ (by rw[hv];simp) ?_ (k2.trans h2) (k3.trans h3) (by have:=get?_update_seq hK2 (fun z=>z.push k);rw[List.push_toArray]at this;exact this) ?_ ?_
  .intro b o hb;refine(sb.2 b ?_).trans (k1 b o (h1 b o hb));rintro rfl;rw[hK0]at hb;cases hb
  .refine⟨by simp[h5.1],fun i k' v' e1 e2=>?_⟩;by_cases hi:i<ks.length
   .rw[YAx hi]at e1;rw[YAx (by rw[<-h5.1];exact hi)]at e2;exact((h5.2 i k' v' e1 e2).kp k1).up hK2
   .have hi2:i=ks.length:=by have:=(YAa.mp e1).1;simp at this;omega
    subst hi2;rw[YAw (YAS _),Nat.sub_self]at e1;rw[h5.1,YAw (YAS _),Nat.sub_self]at e2;cases e1;cases e2;exact k4.up hK2
  .exact(sb.2 a ha0).trans (k1 a oa h6)
end
section
variable {prog:AG}{w:AI}{A:AH}{E:Q33}{s s0:AE}
theorem ZfX {h:Heap}{kf:Value->Int×Q11}{ks vs:AC}(hk:KeysAre h kf ks vs){p:Keyed}(hp:p∈ks.zip vs):keyT h p.1=kf p.2/\∃n c,IsT h p.1 n c:=by
 obtain⟨i,hi,rfl⟩:=YCW hp;rw[List.length_zip]at hi;have h1:i<ks.length:=by omega
 have h2:i<vs.length:=by omega
 have:=hk.2 i ks[i] vs[i] (YAH h1) (YAH h2);rw[List.getElem_zip];exact⟨this.key,_,_,this⟩
theorem Zht {a g:AD}{vs:AC}{kf:Value->Int×Q11}{n:Nat}{P:Fin->AE->Prop}(hc:KeyCall (model prog w) A g vs kf s0)(hb:Kp s0.heap s.heap)(hg:s.gens=s0.gens)(hos:s.os=s0.os)(ha0:s0.heap.get? a=none)
  (ho:s.heap.get? a=some (seqObj "list" vs.toArray n)) (hN:vs.length<=sizeLine)
  (h:∀(s':AE) (us:AC) (e:Nat),Kp s0.heap s'.heap->s'.gens=s0.gens->s'.os=s0.os->s'.heap.get? a=some (seqObj "list" us.toArray e)->us.Perm vs->us.Pairwise (fun x y=>ltP (kf y) (kf x)=false)->P (.done (.ret .none)) s'):
  wpAny (model prog w) A (Builtin.«list.sort» ⟨[.ref a],[(Str.ofString "key",.ref g)]⟩) P E s:=by
 have BP:a<s.heap.objs.size:=YAN ho;have up:=get?_update_seq ho (fun _=>#[]);generalize hep:(if (#[]:Array Value).size == vs.toArray.size then n else n+1)=ep at up;obtain⟨h1,hh1⟩:∃h1,h1=s.heap.update a (Obj.mapSeq fun _=>#[]):=⟨_,rfl⟩;have k1:Kp s0.heap h1:=by
  intro b o q;rw[hh1,(YAh s.heap a _).2 b ?_]
  .exact hb b o q
  .rintro rfl;rw[ha0]at q;cases q
 rw[<-hh1]at up;obtain⟨K,hK⟩:∃K,K=(h1.push (seqObj "tuple" vs.toArray 0)).objs.size:=⟨_,rfl⟩;obtain⟨h3,hh3⟩:∃h3,h3=(h1.push (seqObj "tuple" vs.toArray 0)).push (seqObj "list" #[] 0):=⟨_,rfl⟩;have k3:Kp h1 h3:=fun b o q=>by rw[hh3];exact YAE _ (YAE _ q)
 have oK:h3.get? K=some (seqObj "list" #[] 0):=by rw[hh3,hK];exact YAU _ rfl
 have nK:s0.heap.get? K=none:=by
  cases z:s0.heap.get? K with
  | none=>rfl
  | some o=>
   have:=YAN (k1 _ _ z);rw[hK,size_push']at this;exact absurd this (Nat.not_lt.mpr (YDK _))
 have aK:a≠K:=by rintro rfl;have h8:=YAN up;rw[hK,size_push']at h8;exact absurd h8 (Nat.not_lt.mpr (YDK _))
 subst hK;rw[Zhu];refine YAA (listItems_at ho rfl (YAA (listUpdate_at ho rfl ?_ (hsz:=by rw[YAJ];exact hN))));rw[<-hh1];refine YAA (seqEpoch_at up rfl (YAA (wpAny_newTuple (YAA (wpAny_newList (YBT ?_))))));refine YAA (YCG ?_);rw[List.forIn_toArray];show wpAny _ _ _ _ _ { s with heap:=(h1.push (seqObj "tuple" vs.toArray 0)).push (seqObj "list" #[] 0) };rw[<-hh3];refine YAA (ZiQ hc nK aK hN ?_ vs [] [] { s with heap:=h3 } 0 rfl (fun b o q=>k3 b o (k1 b o q)) hg hos oK ⟨rfl,fun i k v e _=>by simp at e⟩ (k3 a _ up));intro s2 ks m j1 j2 j3 j4 j5 j6;dsimp only;refine YAA (listItems_at j4 rfl ?_);have fin:∀v:SortSt,failedOf v=none->((arrOf v).map (·.2)).toList.Perm vs->((arrOf v).map (·.2)).toList.Pairwise (fun x y=>ltP (kf y) (kf x)=false) ->
   wpAny (model prog w) A (do
    Builtin.List.listUpdate (.ref (h1.push (seqObj "tuple" vs.toArray 0)).objs.size) fun _=>#[]
    letGo ((arrOf v).map (·.1)).toList (failedOf v).toList
    let tch:=(<-seqEpoch a) != ep
    Builtin.List.listUpdate (.ref a) fun _=>(arrOf v).map (·.2)
    if let some e:=failedOf v then rule "list.sort.comparison-raised";throw e
    if tch then rule "list.sort.modified";raiseError "ValueError" "list modified during sort"
    ret .none) P E s2:=by
  intro v f1 f2 f3;have hl:=j5.1;refine YAA (listUpdate_at j4 rfl (YAA (wpAny_letGo ?_)) (hsz:=by rw[YAJ];omega));have sb:=YAh s2.heap (h1.push (seqObj "tuple" vs.toArray 0)).objs.size (Obj.mapSeq fun _=>#[]);have a1:(s2.heap.update (h1.push (seqObj "tuple" vs.toArray 0)).objs.size (Obj.mapSeq fun _=>#[])).get? a=some (seqObj "list" #[] ep):=(sb.2 a aK).trans j6;refine YAA (seqEpoch_at a1 rfl (YAA (listUpdate_at a1 rfl ?_ (hsz2:=by have:=f2.length_eq;rw[YAG]at this;omega))))
  rw[f1,bne_self_eq_false];obtain⟨out,hout⟩:∃out,out=(arrOf v).map (·.2):=⟨_,rfl⟩;rw[<-hout]at f2 f3 ⊢;have a2:=get?_update_seq a1 (fun _=>out);generalize (if out.size == (#[]:Array Value).size then ep else ep+1)=e5 at a2;have e3:out.toList.toArray=out:=YCq;refine YAD (h _ out.toList e5 ?_ j2 j3 (by rw[e3];exact a2) f2 f3);intro b o q;refine((YAh _ a _).2 b ?_).trans ((sb.2 b ?_).trans (j1 b o q))
  .rintro rfl;rw[ha0]at q;cases q
  .rintro rfl;rw[nK]at q;cases q
 have zs:(ks.toArray.zip vs.toArray)=(ks.zip vs).toArray:=by simp
 have zm:((ks.zip vs).map (·.2))=vs:=List.map_snd_zip (by rw[j5.1];exact YAS _);by_cases h2:vs.toArray.size<2
 .rw[YAM h2,YAM h2];refine YAA (YAD ?_);rw[StateT.run_pure];refine YAA (YAD ?_);refine fin (SortSt.mk' general' (ks.toArray.zip vs.toArray) #[] 7 none) rfl ?_ ?_
  .show ((ks.toArray.zip vs.toArray).map (·.2)).toList.Perm vs;rw[zs,Array.toList_map,zm]
  .show ((ks.toArray.zip vs.toArray).map (·.2)).toList.Pairwise _;rw[zs,Array.toList_map,zm]
   match vs,h2 with
   | [],_=>exact List.Pairwise.nil
   | [x],_=>exact List.pairwise_singleton _ _
   | _::_::_,h2=>simp at h2;omega
 .rw[YAI h2,YAI h2];have hne:ks≠[]:=by intro e;have:=j5.1;rw[e]at this;rw[YAJ,<-this]at h2;simp at h2
  refine YAA (Zgh (fun v hv=>?_) hne ?_)
  .obtain⟨i,hi,rfl⟩:=YCW hv;have h2:i<vs.length:=by rw[<-j5.1];exact hi
   exact⟨_,_,j5.2 i ks[i] vs[i] (YAH hi) (YAH h2)⟩
  .refine YAA (YBB (Zih (a0:=ks.zip vs) (st:=SortSt.mk' (tuples' true) (ks.toArray.zip vs.toArray) #[] 7 none) (Q:=fun _ v=>(arrOf v).toList.Perm (ks.zip vs)/\(arrOf v).toList.Pairwise (Le (ltT s2.heap))/\failedOf v=none)
    (ZlM _) Zj2 (fun u hu=>(ZfX j5 hu).2) rfl rfl rfl (by show (ks.toArray.zip vs.toArray).toList=_;rw[zs]) fun v p1 p2 p3=>⟨p1,p2,p3⟩) ?_ fun _ _ e=>e)
   rintro⟨⟨⟩,v⟩ s3 ⟨rfl,p1,p2,p3⟩;refine fin v p3 ?_ ?_
   .rw[Array.toList_map];have:=p1.map (fun p:Keyed=>p.2);rw[zm]at this;exact this
   .rw[Array.toList_map,YBE];refine p2.imp_of_mem fun {x y} hx hy e=>?_;have e1:=(ZfX j5 (p1.mem_iff.mp hx)).1;have e2:=(ZfX j5 (p1.mem_iff.mp hy)).1;have e':ltP (keyT s3.heap y.1) (keyT s3.heap x.1)=false:=e;rw[e1,e2]at e';exact e'
end
section
variable {X:Cx}{k:Nat}{f C:AD}{fd:AF}{ps:AJ}{sp:Sp}{BO:List V}{ds:AC}{x m:Str}{p pos BK:Pos}{e o:Expr}{es:List Expr}{ta:TE}{t:TA}
theorem Znd {c:Expr}{a b:List Stmt}{tc:TT}{t u:TSx}(hc:PT X.nox c tc)(ha:PSsx X a t)(hb:PSsx X b u):PSx X (.If c a b pos) (sIfx tc t u):=by
 intro BF s U H D Ex I h;refine wpAny_If (YBB (hc BF s U H _ (I.wish _) h) (fun d s1 ⟨H1,I1,q1⟩=>?_) fun _ _ z=>False.elim z);cases d with
 | true=>exact ha BF s1 U H1 D Ex I1.unwish q1
 | false=>exact hb BF s1 U H1 D Ex I1.unwish q1
end
def EN:XK:=fun _ _ _=>False
theorem Zes {X:Cx}:Zcl (CXr X.prog X.w) X EN:=by intro _ _ _ _ _ _ _ h;obtain⟨_,_,_,_,_,_,_,_,_,_,_,_,_,_,_,z⟩:=h;exact z.elim
section
variable {X:Cx}
end
section
variable {X:Cx}{BF:AA}{U:St}{H:Hp}{s:AE}
def Zmt:HO->Prop
 | .tup _=>False
 | .tbl _=>False
 | .own _=>False
 | _=>True
theorem Inv.shift {a:AD}{u u':HO}(I:Inv X BF U H s)(ha:H a=some u)(hu:Zmt u)(hf:∀o v,X.H_0 a≠some (.frz o v))(new:ObjOk X.prog X.w (upd H a u') s.heap a u'):Inv X BF U (upd H a u') s:=by
 have nn:∀b,H b=none->b≠a:=fun b n z=>by rw[z,ha]at n;cases n
 refine⟨I.ok,I.os,I.bare,⟨I.base.keep,I.base.slot,fun b o e n hx=>?_,I.base.there,fun b xs e=>?_,fun b o v e=>?_,fun b ps e=>?_⟩,I.loc,I.cell,?_,fun x c e=>?_,fun p hp=>?_,fun b ob e=>?_,I.len⟩
 .have:=I.base.free b o e n hx;rw[Zai (nn b this)];exact this
 .have:=I.base.tups b xs e;have ne:b≠a:=fun z=>by rw[z,ha]at this;cases this;exact hu
  rw[Zai ne];exact this
 .have ne:b≠a:=fun z=>hf o v (by rw[<-z];exact e);rw[Zai ne];exact I.base.frzs b o v e
 .obtain⟨m,q⟩:=I.base.tbls b ps e;have ne:b≠a:=fun z=>by rw[z,ha]at q;cases q;exact hu
  exact⟨m,by rw[Zai ne];exact q⟩
 .rw[Zai (nn _ I.free)];exact I.free
 .rw[Zai (nn _ (I.freeC x c e))];exact I.freeC x c e
 .obtain⟨e,n,r⟩:=I.pin p hp;exact⟨e,by rw[Zai (nn _ n)];exact n,r⟩
 .by_cases hb:b=a
  .subst hb;rw[Zag]at e;cases e;exact new
  .rw[Zai hb]at e;refine(I.hok b ob e).stay (fun _ _ _ q=>q) (fun c q=>?_) fun c xs q=>?_
   .have ne:c≠a:=fun z=>by rw[z,ha]at q;cases q;exact hu
    rw[Zai ne];exact q
   .have ne:c≠a:=fun z=>by rw[z,ha]at q;cases q;exact hu
    rw[Zai ne];exact q
theorem Inv.notFrz {a:AD}{u:HO}(I:Inv X BF U H s)(ha:H a=some u)(hu:∀o v,u≠.frz o v):∀o v,X.H_0 a≠some (.frz o v):=fun o v e=>by have:=I.base.frzs a o v e;rw[ha]at this;exact hu o v (Option.some.inj this)
theorem Inv.freezeD {a:AD}{kvs:List (Key×V)}(I:Inv X BF U H s)(ha:H a=some (.dK kvs)):∃o es ep,o.data=.dict es ep/\s.heap.get? a=some o/\Inv X BF U (upd H a (.frz o (.dK kvs))) s:=by obtain⟨z,y,vs,r,ob,es,ep,e,c⟩:=I.hok a _ ha;refine⟨ob,es,ep,c.2.1,e,I.shift ha trivial (I.notFrz ha fun o v q=>by cases q) ⟨e,z,y,vs,r,ob,es,ep,e,c⟩⟩
theorem Inv.thawD {a:AD}{o:Obj}{kvs:List (Key×V)}(I:Inv X BF U H s)(ha:H a=some (.frz o (.dK kvs)))(hf:∀o v,X.H_0 a≠some (.frz o v)):Inv X BF U (upd H a (.dK kvs)) s:=by obtain⟨e,z,y,vs,r,c⟩:=I.hok a _ ha;exact I.shift ha trivial hf ⟨z,y,vs,r,c⟩
end
theorem Zod {P:AG}{w:AI}{k:Key}{u:Value}(h:(Zaz P w).is k u=true):RelV (kV k) u:=by
 cases k with
 | inl i=>
  have h':(intKind P w).is i u=true:=h;cases u<;>first | (exact absurd h' YAC) | skip
  rename_i j t
  have e:(i == j)=true\/(j == i)=true:=by first | exact .inl h' | exact .inr h'
  rcases e with e | e
  .exact⟨t,by rw[beq_iff_eq.mp e]⟩
  .exact⟨t,by rw[beq_iff_eq.mp e]⟩
 | inr x=>
  have h':(strKind P w).is x u=true:=h;cases u<;>first | (exact absurd h' YAC) | skip
  rename_i j t
  have e:(x == j)=true\/(j == x)=true:=by first | exact .inl h' | exact .inr h'
  rcases e with e | e
  .exact⟨t,by rw[beq_iff_eq.mp e]⟩
  .exact⟨t,by rw[beq_iff_eq.mp e]⟩
noncomputable def Itd (o:Obj)(kvs:List (Key×V))(a:AD):It:=
 ⟨fun i H=>H a=some (.frz o (.dK kvs))/\i<kvs.length,fun i H x H'=>H'=H/\∃p,kvs[i]?=some p/\x=kV p.1,fun i H=>H a=some (.frz o (.dK kvs))/\kvs.length<=i⟩
theorem KV.getK {kvs:List (Key×V)}{vs:List (Key×Value)}(r:KV kvs vs):∀ {i:Nat} {p:Key×V},kvs[i]?=some p->∃v,vs[i]?=some (p.1,v):=by
 intro i p h;have hk:=r.keys;have hl:=r.length;have hi:i<vs.length:=by rw[<-hl];exact(YAa.mp h).1
 have e1:(kvs.map (·.1))[i]?=some p.1:=by rw[YAc,h];rfl
 rw[hk,YAc,YAH hi]at e1;refine⟨vs[i].2,?_⟩;rw[YAH hi];have:vs[i].1=p.1:=Option.some.inj e1;rw[<-this]
theorem Zh5 {P:AG}{w:AI}{K:Q4}{tg:Expr}{o:Obj}{es:Array DictEntry}{ep:Nat}{kvs:List (Key×V)}(a it:AD)(hd:o.data=.dict es ep):Turn P w K tg (Itd o kvs a) [it] it (fun i h=>h.IsKeyIter it a i kvs.length ep) where
 mem:=by simp
 obj:=fun i h st b hb=>by
  have e:b=it:=by simpa using hb
  subst e;obtain⟨o,e,c,d⟩:=st;exact⟨o,e,fun v z=>by rw[d]at z;cases z⟩
 keep:=fun i h h' st k=>let ⟨o,ho,r⟩:=st;⟨o,k it (by simp) o ho,r⟩
 item:=by intro X hP hw hK hc i BF s U H E I hf st hg;subst hP hw hK;obtain⟨ha,hi⟩:=hg;obtain⟨e,z,y,vs,r,o',es',ep',e',c1,c2,c3⟩:=I.hok a _ ha;rw[e]at e';cases e';rw[hd]at c2;cases c2;obtain⟨v,hv⟩:=r.getK (YAH hi);obtain⟨f0,f1,f2,f3,f4,f5⟩:=hf it (by simp);rw[r.length]at st;refine wpAny_pyNext_dict_item st ⟨o,es,e,c1,hd,c3⟩ hv fun key h' hk st' sb=>?_;have I1:Inv X BF U H { s with heap:=h' }:=I.turned (t':=s.toks) (fun b o hb e=>(sb.2 b hb).trans e) f0 f1 f3 f4 f5;obtain⟨oi,ei,ci,di⟩:=id st';rw[<-r.length]at st';exact⟨key,rfl,Zke (s:={ s with heap:=h' }) ei ci di (by decide) ⟨kV kvs[i].1,H,I1,Zod hk,⟨rfl,_,YAH hi,rfl⟩,st',fun b hb=>(hf b hb).1⟩⟩
 done:=by intro X hP hw hK hc i BF s U H E I hf st hg;subst hP hw hK;obtain⟨ha,hi⟩:=hg;obtain⟨e,z,y,vs,r,o',es',ep',e',c1,c2,c3⟩:=I.hok a _ ha;rw[e]at e';cases e';rw[hd]at c2;cases c2;obtain⟨f0,f1,f2,f3,f4,f5⟩:=hf it (by simp);rw[r.length]at st hi;exact wpAny_pyNext_dict_end (I.ok.hd hc) st ⟨o,es,e,c1,hd,c3⟩ (YBI hi) fun h' eb=>⟨rfl,I.turned (t':=s.toks) (fun b o hb e=>eb b o hb e) f0 f1 f3 f4 f5⟩
 self:=fun _ _ _ _ _ st h=>wpAny_pyIter_keyiter st h
section
variable {X:Cx}{tg:Expr}
def Zoj (td:TE):TI:=fun U H R=>td U H fun x H1=>∃a kvs,x=.ref a/\H1 a=some (.dK kvs)/\∀o,R (Itd o kvs a) (upd H1 a (.frz o (.dK kvs)))
theorem ZlA {l:Expr}{tl:TE}(hl:PE X l tl):PI X tg l (Zoj tl):=by
 intro BF s U H R I h;refine thn (hl BF s U H _ I h) fun v s1 zz=>?_;obtain⟨x,H1,I1,r1,q1⟩:=zz;obtain⟨a,kvs,e,hq,q⟩:=q1;subst e;cases r1;obtain⟨z,y,vs,r,_⟩:=id (I1.hok a _ hq);obtain⟨o,es,ep,hd,ho,I2⟩:=I1.freezeD hq;obtain⟨_,z2,y2,vs2,r2,o',es',ep',e',c1,c2,c3⟩:=I2.hok a _ Zag;rw[ho]at e';cases e';rw[hd]at c2;cases c2;refine wpAny_pyIter_dict y2 ⟨o,es,ho,c1,hd,c3⟩ ?_;refine⟨s1.heap.objs.size,[s1.heap.objs.size],_,_,_,rfl,I2.kept (t':=s1.toks) fun b o e=>YAE _ e,Zh5 (kvs:=kvs) a _ hd,⟨_,YAU _ rfl,rfl,by rw[r2.length];rfl⟩,fun b hb=>?_,q o⟩;have e:b=s1.heap.objs.size:=by simpa using hb
 subst e;exact I2.fpOk (YAS _) (I2.hok.fresh (YAS _))
def Thw (a:AD)(P:Hp->Prop)(H':Hp):Prop:=∃o kvs,H' a=some (.frz o (.dK kvs))/\P (upd H' a (.dK kvs))
noncomputable def thD (a:AD)(D:Ends):Ends:={ nx:=fun U H=>Thw a (D.nx U) H,rt:=fun v H=>Thw a (D.rt v) H,bk:=fun U H=>Thw a (D.bk U) H,ct:=fun U H=>Thw a (D.ct U) H }
def Zm2 (ts:TS):TS:=fun D U H=>∃a kvs,H a=some (.dK kvs)/\ts (thD a D) U H
theorem Zlx {st:Stmt}{ts:TS}(h:PS X st ts):PS X st (Zm2 ts):=by
 intro BF s U H D I ⟨a,kvs,ha,hh⟩;have nf:=I.notFrz ha fun o v q=>by cases q
 refine YBB (h BF s U H _ I hh) (fun f s1 q=>?_) fun _ _ z=>z;cases f with
 | next=>obtain⟨U1,H1,I1,o,k1,e1,q1⟩:=q;exact⟨U1,_,I1.thawD e1 nf,q1⟩
 | brk=>obtain⟨U1,H1,I1,o,k1,e1,q1⟩:=q;exact⟨U1,_,I1.thawD e1 nf,q1⟩
 | cont=>obtain⟨U1,H1,I1,o,k1,e1,q1⟩:=q;exact⟨U1,_,I1.thawD e1 nf,q1⟩
 | ret u=>obtain⟨v,U1,H1,I1,r,o,k1,e1,q1⟩:=q;exact⟨v,U1,_,I1.thawD e1 nf,r,q1⟩
end
section
variable {g:TG}{tb:TS}{D:Ends}{U:St}{H:Hp}{o:Obj}{kvs:List (Key×V)}{a:AD}
theorem ForRun.dict (Pv:Nat->St->Hp->Prop)(h0:Pv 0 U H)(hl:∀i U H,Pv i U H->H a=some (.frz o (.dK kvs)))
  (hs:∀i p U H,kvs[i]?=some p->Pv i U H->g (kV p.1) U H fun U2 H2=>tb { D with nx:=Pv (i+1),ct:=Pv (i+1),bk:=D.nx } U2 H2) (hd:∀U H,Pv kvs.length U H->D.nx U H):ForRun (Itd o kvs a) g tb D U H:=by
 refine⟨fun i m U H=>m=kvs.length-i/\i<=kvs.length/\Pv i U H,⟨kvs.length,by simp,YAv _,h0⟩,?_⟩;rintro i m U H ⟨rfl,hi,p⟩;have q:=hl i U H p;by_cases BP:i<kvs.length
 .refine .inr ⟨⟨q,BP⟩,Pv (i+1),fun U' H' p'=>⟨kvs.length-(i+1),by omega,rfl,BP,p'⟩,fun x H' y=>?_⟩;obtain⟨e,p2,e2,e3⟩:=y;subst e e3;exact hs i p2 U _ e2 p
 .have e:i=kvs.length:=by omega
  subst e;exact .inl ⟨⟨q,YAS _⟩,hd U H p⟩
end
theorem Zdc:∀ {vs:List V} {us:AC},vs.length=us.length->(∀(i:Nat) (x:V) (u:Value),vs[i]?=some x->us[i]?=some u->RelV x u)->Vals vs us
 | [],[],_,_=>.nil
 | [],_::_,h,_=>by simp at h
 | _::_,[],h,_=>by simp at h
 | x::vs,u::us,h,r=>.cons (r 0 x u rfl rfl) (Zdc (by simpa using h) fun i y v h1 h2=>r (i+1) y v h1 h2)
section
variable {prog:AG}{w:AI}{A:AH}{E:Q33}{s:AE}
end
noncomputable def kTx (l:Q11):Key:=.inr ⟨l.toArray⟩
theorem ZqJ (l:Q11):kV (kTx l)=tx l:=rfl
section
variable {X:Cx}
end
open PySem.W (Frag)
noncomputable def infB (w l:Q11):Bool:=(List.range (l.length+1)).any fun i=>decide (i+w.length<=l.length)&&decide ((l.drop i).take w.length=w)
theorem Zbv {w l:Q11}:infB w l=true↔Inf w l:=by
 unfold infB Inf AtW;rw[YCC];constructor
 .rintro⟨i,_,h⟩;rw[YAQ,decide_eq_true_eq,decide_eq_true_eq]at h;exact⟨i,h⟩
 .rintro⟨i,h1,h2⟩;refine⟨i,YAn.mpr (by omega),?_⟩;rw[YAQ,decide_eq_true_eq,decide_eq_true_eq];exact⟨h1,h2⟩
theorem ZcE {w l:Q11}:infB w l=false↔¬Inf w l:=by rw[<-Zbv,Bool.not_eq_true]
theorem Zg7 (w l:Q11):(!(Builtin.Str.occurrences ⟨l.toArray⟩ ⟨w.toArray⟩ 0 (⟨l.toArray⟩:Str).length 1).isEmpty)=infB w l:=by rw[YBQ,StrLaws.found_iff,Zbv];exact⟨fun ⟨i,h⟩=>⟨i,(ZbZ l w i).mp h⟩,fun ⟨i,h⟩=>⟨i,(ZbZ l w i).mpr h⟩⟩
section
variable {X:Cx}
theorem ZgT:OpR X (compareOp .In) (fun x y H Q=>∃w l,x=tx w/\y=tx l/\Q (.bl (infB w l)) H):=by rintro BF s U H x y v u Q I rx ry ⟨w,l,rfl,rfl,q⟩;refine Zfi BF s U H _ _ v u Q I rx ry ⟨_,_,rfl,rfl,?_⟩;rw[Zg7];exact q
theorem Zdq:OpR X (compareOp .NotIn) (fun x y H Q=>∃w l,x=tx w/\y=tx l/\Q (.bl (!infB w l)) H):=by rintro BF s U H x y v u Q I rx ry ⟨w,l,rfl,rfl,q⟩;refine Zc0 BF s U H _ _ v u Q I rx ry ⟨_,_,rfl,rfl,?_⟩;rw[Zg7];exact q
end
section
variable {X:Cx}
end
section
variable {X:Cx}{BF:AA}{U:St}{H:Hp}{s:AE}{a b:AD}{kvs more:List (Key×V)}{A:AH}{E:Q33}
end
section
variable {prog:AG}{w:AI}{A:AH}{E:Q33}{s:AE}{l I S:AD}{ns:List Int}{vs:AC}{R:Result->AE->Prop}{Q:Q33}{d:Value}
end
section
variable {X:Cx}{e:Expr}{ta:TA}{p p2 pos kpos:Pos}
end
noncomputable def kfT:Value->Int×Q11
 | .str x _=>((x.length:Nat),x.cps.toList)
 | _=>(0,[])
noncomputable abbrev Zdx (x:Str)(p1 p2 p3 p4 p5:Pos)(k:Nat):Expr:=.Tuple [.Call (.Name "len" p1) [.Name x p2] [] p3,.Name x p4] k p5
structure LamSc (scope:Scope)(x:Str):Prop where
 kind:scope.kind=.function
 co:scope.isCoroutine=false
 gen:scope.isGenerator=false
 loc:scope.names.lookup x=some .local
 glb:scope.names.lookup ("len":Str)=some .globalImplicit
 nodbg:(x == ("__debug__":Str))=false
section
variable {prog:AG}{w:AI}{A:AH}{s:AE}
theorem ZfQ (f:Str->Option NameKind){x:Str}{v:Value}(h:f x=some .local):bindL f [(x,v)] (fun _=>none) x=some v:=by unfold bindL bindL;rw[YAM h,YAM rfl]
theorem ZlQ {g:AD}{o:Obj}{name qual x:Str}{params:Arguments}{scope:Scope}{pm cv ctv:Value}{mg mb:AB}{vs:AC}{p1 p2 p3 p4 p5:Pos}{k:Nat}
  (ho:s.heap.get? g=some o) (hod:o.data=.func (PySem.W.kla_fn name qual params (Zdx x p1 p2 p3 p4 p5 k) scope [] pm cv ctv)) (hcd:s.heap.CodeRec cv qual) (S:LamSc scope x)
  (hb:∀(s:AE) (u:Value),BindsTo s (PySem.W.kla_fn name qual params (Zdx x p1 p2 p3 p4 p5 k) scope [] pm cv ctv) ⟨[u],[]⟩ [(x,u)]) (hroom:A.depth<recursionLimit) (hlim:s.heap.NoLimit)
  (hg:s.heap.Ns mainGlobals mg) (hgl:mg "len"=none) (hbn:s.heap.Ns builtinsNs mb) (hbb:mb "len"=bootBuiltins "len") (hv:∀v∈vs,∃y t,v=.str y t/\y.length<=sizeLine):KeyCall (model prog w) A g vs kfT s:=by
 intro E s' v Q hvm hk hgen hos q;obtain⟨y,t,rfl,hy⟩:=hv v hvm;have hs:sizeLine=16777216:=sizeLine_eq;refine YCx (PySem.W.kla_callFunE hroom (hk _ _ ho) hod S.co S.gen rfl (let ⟨c,oc,ws,tq,e1,e2,r⟩:=hcd;⟨c,oc,ws,tq,e1,hk _ _ e2,r⟩) (hb _ _ _ _ _ _ ?_));refine wpAny_newFunctionEnv_cells S.kind (fun z hz=>.inl (by rw[YAL.mp hz];exact S.loc)) fun env he s1 X=>?_;refine⟨(hlim.keeps hk).keeps X.toInCall.keep,PySem.W.kla_codeExpr ?_⟩;subst he;obtain⟨h1,tk1,e1⟩:=X.toInCall.same;have kp1:Kp s'.heap s1.heap:=X.toInCall.keep;have lnm:∀(pp:Pos) (B:AH) (E2:Q33) (s2:AE) (Q2:Q33),Kp s1.heap s2.heap->Q2 (.str y t) s2->wpAny (model prog w) B (eval (.Name x pp) (newEnv scope s'.heap.objs.size mainGlobals (cellsFrom (s'.heap.objs.size+1) scope.names []) (qual++".<locals>.") (some g) cv none builtinsNs)) Q2 E2 s2:=fun pp B E2 s2 Q2 k2 q2=>
  wpAny_Name (wpAny_loadName_local S.kind S.loc (X.toInCall.ns.keeps k2) (by exact ZfQ _ S.loc) q2) S.nodbg
 refine wpAny_Tuple_spliced ?_;show wpAny _ _ (spliced ((false,eval (.Call (.Name "len" p1) [.Name x p2] [] p3) _)::backTo p5 (starEach [.Name x p4] _))) _ _ s1;refine YCN ?_;refine YBf (Calls.Name_function_global S.kind S.glb (Calls.loadGlobal_builtin (v:=.builtin "len") (show s1.heap.Ns mainGlobals mg from(hg.keeps hk).keeps kp1) hgl (show s1.heap.Ns builtinsNs mb from(hbn.keeps hk).keeps kp1) (hbb.trans rfl) ?_) (by decide));refine YDO ?_ rfl rfl;show wpAny _ _ (spliced ((false,eval (.Name x p2) _)::backTo p3 (starEach [] _))) _ _ s1;refine YCN (lnm p2 _ _ _ _ (fun _ _ e=>e) (YDL ?_));refine len_str (by omega) ?_;show wpAny _ _ (spliced ((false,eval (.Name x p4) _)::backTo p5 (starEach [] _))) _ _ _;refine YCN (lnm p4 _ _ _ _ (fun _ _ e=>e) (YDL ?_));refine⟨by rw[hs];show 2<=16777216;decide,?_⟩;rw[e1];refine q _ _ (fun b o e=>YAE _ (by have:=kp1 b o e;rw[e1]at this;exact this)) rfl rfl ⟨_,_,_,_,_,rfl,YAU _ rfl,rfl⟩
end
theorem ZdM (a v:Value):argsOk "sorted" ⟨[a],[(Str.ofString "key",v)]⟩:=by unfold argsOk;kernel_rfl
theorem ZcN (a v:Value):argsOk "list.sort" ⟨[a],[(Str.ofString "key",v)]⟩:=by unfold argsOk;kernel_rfl
section
variable {prog:AG}{w:AI}{A:AH}{E:Q33}{s:AE}
theorem Zdf {a g:AD} {its:AC} {n:Nat} {kf:Value->Int×Q11} {Q:Q33} (eo:s.heap.get? a=some (seqObj "list" its.toArray n)) (hc:KeyCall (model prog w) A.in1.in1 g its kf s) (hN:its.length<=sizeLine)
  (h:∀(s':AE) (r:AD) (us:AC) (e:Nat),s.heap.get? r=none->Kp s.heap s'.heap->s'.gens=s.gens->s'.os=s.os->s'.heap.get? r=some (seqObj "list" us.toArray e)->us.Perm its->us.Pairwise (fun x y=>ltP (kf y) (kf x)=false)->Q (.ref r) s'):
  wpAny (model prog w) A (call (.builtin "sorted") [.ref a] [(Str.ofString "key",.ref g)]) Q E s:=by
 refine call_function_entry_kw kind_sorted plain_sorted entry_sorted (ZdM _ _) ?_;unfold Builtin.«sorted»;refine YAA (m:=checkCount "sorted" 1 1 _) (YAD ?_);refine YAA (collect_list (PySem.IsL.isList eo) ?_ hN);have sb:=YAh (s.heap.push (seqObj "list" #[] 0)) s.heap.objs.size (Obj.mapSeq (·++its.toArray));have k1:Kp s.heap ((s.heap.push (seqObj "list" #[] 0)).update s.heap.objs.size (Obj.mapSeq (·++its.toArray))):=fun b o e=>(sb.2 b (YAf (YAN e))).trans (YAE _ e);generalize ((s.heap.push (seqObj "list" #[] 0)).update s.heap.objs.size (Obj.mapSeq (·++its.toArray)))=g1 at k1 ⊢;have nw:s.heap.get? g1.objs.size=none:=by
  cases z:s.heap.get? g1.objs.size with
  | none=>rfl
  | some o=>exact absurd (YAN (k1 _ _ z)) (YBA _)
 refine YAA (wpAny_newList ?_ hN);have hoL:(g1.push (seqObj "list" its.toArray 0)).get? g1.objs.size=some (seqObj "list" its.toArray 0):=YAU _ rfl;refine YAA (YBT (wpAny_call_entry_kw slot_list_sort ⟨_,hoL,rfl⟩ entry_list_sort (Zht (s0:=s) hc (fun b o e=>YAE _ (k1 b o e)) rfl rfl nw hoL hN fun s' us e k2 e1 e2 e3 e4 e5=>⟨_,rfl,?_⟩) (ZcN _ _)));exact YAD ⟨_,rfl,h s' _ us e nw k2 e1 e2 e3 e4 e5⟩
end
def BefW (a b:Q11):Prop:=a.length<b.length\/(a.length=b.length/\a<b)
theorem Zfo:∀ {a b:Q11} {x y:Q11},a.length=b.length->a<b->a++x<b++y
 | [],[],_,_,_,h=>by cases h
 | [],_::_,_,_,e,_=>by simp at e
 | _::_,[],_,_,e,_=>by simp at e
 | c::a,d::b,x,y,e,h=>by
  rw[YCu,YCu];cases h with
  | rel h=>exact List.Lex.rel h
  | cons h=>exact List.Lex.cons (Zfo (by simpa using e) h)
theorem ZiG:∀(a:Q11) {c d:Nat},c<d->a++[c]<a++[d]
 | [],_,_,h=>List.Lex.rel h
 | _::a,_,_,h=>List.Lex.cons (ZiG a h)
theorem ZiF:∀(a b:Q11),a<b\/a=b\/b<a
 | [],[]=>.inr (.inl rfl)
 | [],_::_=>.inl .nil
 | _::_,[]=>.inr (.inr .nil)
 | c::a,d::b=>by
  rcases Nat.lt_trichotomy c d with h | h | h
  .exact .inl (List.Lex.rel h)
  .subst h;rcases ZiF a b with h | h | h
   .exact .inl (List.Lex.cons h)
   .exact .inr (.inl (by rw[h]))
   .exact .inr (.inr (List.Lex.cons h))
  .exact .inr (.inr (List.Lex.rel h))
theorem ZeW (l:Q11)(n:Nat):(wordsOf l n).Pairwise (· < ·):=by
 have h1:(wordsOf l n).Pairwise (fun a b=>leT a b=true):=Zbl _;have h2:(wordsOf l n).Nodup:=(ZaG _).nodup_iff.mpr (by rw[<-ZeN];exact ZcK _);refine(h1.and h2).imp ?_;rintro a b ⟨x,y⟩;have x':¬b<a:=by simpa [leT] using x
 rcases ZiF a b with z | z | z
 .exact z
 .exact absurd z y
 .exact absurd z x'
theorem ZaI {l m:Q11}(hm:m.Pairwise (· < ·)):(Zan l m).Pairwise BefW:=by
 unfold Zan ZcA;have len:∀k w,k<=l.length->w∈ZdP (wordsOf l k) (wordsOf l (k+1)) m->w.length=k+1:=fun k w hk hw=>by obtain⟨h,c,h1,_,rfl,_⟩:=Zds.mp hw;rw[ZaX (by omega)]at h1;rw[YAF,h1.1];rfl
 rw[List.pairwise_flatMap];refine⟨fun k hk=>?_,?_⟩
 .have hk:=YAn.mp hk;unfold ZdP;rw[List.pairwise_flatMap];refine⟨fun h hh=>?_,?_⟩
  .unfold ZeB;rw[YBE];exact(hm.filter _).imp fun {c d} hcd=>.inr ⟨by simp,ZiG h hcd⟩
  .refine List.Pairwise.imp_of_mem ?_ (ZeW l k);intro a b ha hb hab x hx y hy;have la:=((ZaX (l:=l) (by omega)).mp ha).1;have lb:=((ZaX (l:=l) (by omega)).mp hb).1;unfold ZeB at hx hy;obtain⟨c,_,rfl⟩:=YAg.mp hx;obtain⟨d,_,rfl⟩:=YAg.mp hy;exact .inr ⟨by simp[la,lb],Zfo (by rw[la,lb]) hab⟩
 .refine List.Pairwise.imp_of_mem ?_ List.pairwise_lt_range;intro i j hi hj hij x hx y hy;have hi:=YAn.mp hi;have hj:=YAn.mp hj;exact .inl (by rw[len i x (by omega) hx,len j y (by omega) hy];omega)
theorem ZcM {a:Q11}:¬BefW a a:=fun h=>h.elim (fun h=>YBA _ h) fun h=>List.lt_irrefl _ h.2
theorem ZhJ {l m:Q11}(hm:m.Pairwise (· < ·)):(Zan l m).Nodup:=by unfold List.Nodup;exact(ZaI hm).imp fun {a b} h e=>by subst e;exact ZcM h
theorem ZbM {α:Type}[DecidableEq α]:∀(l m:List α),l.Nodup->(∀x∈l,x∈m)->l.length<=m.length
 | [],m,_,_=>YAv _
 | x::l,m,nd,h=>by have hx:=h x YAY;have nd':=YBU.mp nd;have:=ZbM l (m.erase x) nd'.2 fun y hy=>(YDY (fun e=>by rw[e]at hy;exact nd'.1 hy)).mpr (h y (YAP _ hy));rw[List.length_erase_of_mem hx]at this;have pos:0<m.length:=List.length_pos_of_mem hx;rw[YAd];omega
theorem ZhS {l u v:Q11}{i j:Nat}(hu:AtW l u i)(hv:AtW l v j)(e:i+u.length=j+v.length)(hl:v.length<=u.length):v=u.drop (u.length-v.length):=by
 obtain⟨a1,a2⟩:=hu;obtain⟨b1,b2⟩:=hv;have hj:j=i+(u.length-v.length):=by omega
 rw[<-a2,YAZ,YAj,YBq (by omega),List.drop_take,YCE,<-hj];rw[show u.length-(u.length-v.length)=v.length by omega];exact b2.symm
theorem Zko {u l:Q11}(h:Inf u l)(k:Nat):Inf (u.drop k) l:=by
 obtain⟨i,h1,h2⟩:=h;by_cases hk:k<=u.length
 .refine⟨i+k,by rw[YAj];omega,?_⟩;rw[YAj];have:(l.drop (i+k)).take (u.length-k)=((l.drop i).take u.length).drop k:=by rw[List.drop_take,YCE]
  rw[this,h2]
 .rw[YBu (by omega)];exact Inf.nil l
theorem Zd1 {w:Q11}{c:Nat}(h:w.getLast?=some c):w=w.dropLast++[c]:=by
 have ne:w≠[]:=fun e=>by rw[e]at h;cases h
 rw[YBl ne]at h;have h2:=YDa ne;rw[Option.some.inj h]at h2;exact h2.symm
theorem ZgZ {l w v:Q11}{c i j:Nat}(hw:Miss l w)(hv:Miss l v)(cw:w.getLast?=some c)(cv:v.getLast?=some c)(iw:AtW l w.dropLast i)(jv:AtW l v.dropLast j)(e:i+w.dropLast.length=j+v.dropLast.length)(hl:v.length<=w.length):v=w:=by
 have ew:=Zd1 cw;have ev:=Zd1 cv;have lw:w.dropLast.length=w.length-1:=YBC;have lv:v.dropLast.length=v.length-1:=YBC;have w1:1<=w.length:=YBK.mpr hw.ne;have v1:1<=v.length:=YBK.mpr hv.ne;have s:=ZhS iw jv e (by omega);rw[show w.dropLast.length-v.dropLast.length=w.length-v.length by omega]at s;have h2:(w.dropLast++[c]).drop (w.length-v.length)=w.dropLast.drop (w.length-v.length)++[c]:=YCB (by omega);have vs:v=w.drop (w.length-v.length):=by have h3:v.dropLast++[c]=w.dropLast.drop (w.length-v.length)++[c]:=congrArg (·++[c]) s;rw[<-h2,<-ew,<-ev]at h3;exact h3
 by_cases eq:v.length=w.length
 .rw[vs,eq,Nat.sub_self];rfl
 .exfalso;apply hv.no;have:v=w.tail.drop (w.length-v.length-1):=by rw[<-List.drop_one,YCE,show 1+(w.length-v.length-1)=w.length-v.length by omega];exact vs
  rw[this];exact Zko hw.tail _
noncomputable def endOf (l w:Q11):Nat:=((List.range (l.length+1)).find? fun e=>(List.range (l.length+1)).any fun i=>decide (i+w.dropLast.length=e)&&decide (i+w.dropLast.length<=l.length)&&decide ((l.drop i).take w.dropLast.length=w.dropLast)).getD 0
theorem ZeM {l w:Q11}(h:Inf w.dropLast l):∃i,AtW l w.dropLast i/\endOf l w=i+w.dropLast.length:=by
 unfold endOf;cases f:(List.range (l.length+1)).find? fun e=>(List.range (l.length+1)).any fun i=>decide (i+w.dropLast.length=e)&&decide (i+w.dropLast.length<=l.length)&&decide ((l.drop i).take w.dropLast.length=w.dropLast) with
 | none=>
  obtain⟨i,h1,h2⟩:=h;have:=List.find?_eq_none.mp f (i+w.dropLast.length) (YAn.mpr (by omega));exfalso;apply this;rw[YCC];exact⟨i,YAn.mpr (by omega),by rw[decide_eq_true rfl,decide_eq_true h1,decide_eq_true h2];rfl⟩
 | some e=>
  have:=List.find?_some f;rw[YCC]at this;obtain⟨i,_,hi⟩:=this;simp only[YAQ,decide_eq_true_iff]at hi;exact⟨i,⟨hi.1.2,hi.2⟩,hi.1.1.symm⟩
theorem Zfl {α β:Type}{f:α->β}:∀ {l:List α},l.Nodup->(∀x∈l,∀y∈l,f x=f y->x=y)->(l.map f).Nodup
 | [],_,_=>by simp
 | x::l,nd,h=>by have nd':=YBU.mp nd;rw[YAi,YBU];refine⟨fun z=>?_,Zfl nd'.2 fun a ha b hb=>h a (YAP _ ha) b (YAP _ hb)⟩;obtain⟨y,hy,e⟩:=YAg.mp z;have:=h y (YAP _ hy) x YAY e;rw[this]at hy;exact nd'.1 hy
theorem ZhK {l m:Q11}(hm:m.Pairwise (· < ·)):(Zan l m).length<=m.length*(l.length+1):=by
 have nd:=ZhJ (l:=l) hm;have inj:∀x∈Zan l m,∀y∈Zan l m,(x.getLast?,endOf l x)=(y.getLast?,endOf l y)->x=y:=by
  intro x hx y hy e;obtain⟨mx,c,hc,cx⟩:=Zay.mp hx;obtain⟨my,d,hd,cy⟩:=Zay.mp hy;have e1:x.getLast?=y.getLast?:=congrArg Prod.fst e;have e2:endOf l x=endOf l y:=congrArg Prod.snd e;obtain⟨i,hi,ei⟩:=ZeM mx.init;obtain⟨j,hj,ej⟩:=ZeM my.init;have cy':y.getLast?=some c:=by rw[<-e1];exact cx
  rcases Nat.le_total y.length x.length with h | h
  .exact(ZgZ mx my cx cy' hi hj (by omega) h).symm
  .exact ZgZ my mx cy' cx hj hi (by omega) h
 have nd2:=Zfl (f:=fun w:Q11=>(w.getLast?,endOf l w)) nd inj;have h:=ZbM _ (m.flatMap fun c=>(List.range (l.length+1)).map fun e=>(some c,e)) nd2 fun p hp=>by obtain⟨w,hw,rfl⟩:=YAg.mp hp;obtain⟨mw,c,hc,cw⟩:=Zay.mp hw;obtain⟨i,hi,ei⟩:=ZeM mw.init;rw[YDT];refine⟨c,hc,YAg.mpr ⟨endOf l w,YAn.mpr (by have:=hi.1;omega),by rw[cw]⟩⟩
 rw[YAB]at h;have e:(m.flatMap fun c=>(List.range (l.length+1)).map fun e=>(some c,e)).length=m.length*(l.length+1):=by
  rw[List.length_flatMap];have:(m.map fun c=>((List.range (l.length+1)).map fun e=>(some c,e)).length)=List.replicate m.length (l.length+1):=by apply YCM (by simp);intro i h1 h2;simp
  rw[this,List.sum_replicate_nat]
 rw[e]at h;exact h
end L2
namespace L2
open PySem PySem.Spec PyProof.Rows PySem.W
noncomputable def Zc6:HO->Bool
 | .tbl _=>true
 | _=>false
def SameL (H H':Hp):Prop:=∀b o,H b=some o->Zc6 o=false->H' b=some o
theorem SameL.refl (H:Hp):SameL H H:=fun _ _ e _=>e
theorem SameL.trans {H H1 H2:Hp}(a:SameL H H1)(b:SameL H1 H2):SameL H H2:=fun c o e n=>b c o (a c o e n) n
theorem Same.l {H H':Hp}(s:Same H H'):SameL H H':=fun b o e _=>s b o e
def ZeV (c:AD)(q:Str):HO:=.ext fun h=>h.CodeRec (.ref c) q
theorem Zkt {P:AG}{w:AI}{H:Hp}{h:Heap}{c:AD}{q:Str}(x:h.CodeRec (.ref c) q):ObjOk P w H h c (ZeV c q):=by obtain⟨c',o,vs,t,e,e1,r⟩:=id x;cases e;refine⟨x,⟨o,e1⟩,fun h1 h2 x1 k=>?_⟩;obtain⟨c',o,vs,t,e,e1,r⟩:=x1;cases e;exact⟨c,o,vs,t,rfl,k _ e1,r⟩
def TblOk (H:Hp)(P:AD)(pos:Pos)(q:Str):Prop:=∃ps,H P=some (.tbl ps)/\TriplesOk ps.toList/\(codeAmong pos ps.toList=none\/∃c,codeAmong pos ps.toList=some (.ref c)/\H c=some (ZeV c q))
theorem TblOk.same {H H':Hp}{P:AD}{pos:Pos}{q:Str}(t:TblOk H P pos q)(s:Same H H'):TblOk H' P pos q:=by obtain⟨ps,e,tr,h⟩:=t;exact⟨ps,s _ _ e,tr,h.imp id fun ⟨c,e1,e2⟩=>⟨c,e1,s _ _ e2⟩⟩
theorem tbl_new {P:AD}{pos:Pos}{q:Str}{H:Hp}(h:H P=some (.tbl #[])):TblOk H P pos q:=⟨#[],h,trivial,.inl rfl⟩
theorem ZdJ {pos pos':Pos}{c:Value}(hne:pos'.line≠pos.line\/pos'.col≠pos.col)(l:AC)(h:TriplesOk l):codeAmong pos' (l++[rawInt pos.line,rawInt pos.col,c])=codeAmong pos' l:=by
 fun_induction TriplesOk l with
 | case1=>
  simp only[List.nil_append,codeAmong,rawInt];rw[YAI];intro z;simp only[YAQ,beq_iff_eq]at z;rcases hne with n | n
  .exact n (by have:=z.1;omega)
  .exact n (by have:=z.2;omega)
 | case2 a t b u x rest ih=>
  simp only[YCu,codeAmong];rw[ih h]
 | case3 l h1 h2=>exact h.elim
def SameT (pos:Pos)(H H':Hp):Prop:=SameL H H'/\∀(P':AD) (pos':Pos) (q':Str),(pos'.line≠pos.line\/pos'.col≠pos.col)->TblOk H P' pos' q'->TblOk H' P' pos' q'
theorem SameT.then {pos:Pos}{H H1 H2:Hp}(s:SameT pos H H1)(t:Same H1 H2):SameT pos H H2:=⟨s.1.trans t.l,fun P' p' q' n T=>(s.2 P' p' q' n T).same t⟩
structure LamEnv (base:Heap)(mg:AB)(c P:AD):Prop where
 hd:CodeHd base c P
 bm:base.BuiltinsAt mg P
section
variable {X:Cx}{BF:AA}{U:St}{H:Hp}{s:AE}
theorem Inv.table {P c':AD}{ps more:Array Value}{q:Str}{h':Heap}{t':Nat}(I:Inv X BF U H s)(hP:H P=some (.tbl ps))(hx:Heap.ExtBut P s.heap h')(hc:s.heap.objs.size<=c')(hr:h'.CodeRec (.ref c') q)(ht:h'.get? P=some (tabObj (ps++more))):
  Inv X BF U (upd (upd H P (.tbl (ps++more))) c' (ZeV c' q)) { s with heap:=h',toks:=t' }:=by
 have fc:H c'=none:=I.hok.fresh hc;have nPc:P≠c':=Zak hP fc;have nt:∀ {b u},H b=some u->(∀ps,u≠.tbl ps)->b≠P:=fun e n z=>by rw[z,hP]at e;exact n _ (Option.some.inj e).symm
 have nc:∀ {b u},H b=some u->b≠c':=fun e=>Zak e fc;have hz:∀ {b o},s.heap.get? b=some o->b≠c':=fun e z=>absurd (YAN e) (by rw[z];exact Nat.not_lt.mpr hc);have nn:∀ {b},H b=none->b≠P:=fun e z=>by rw[z,hP]at e;cases e
 refine I.call' (s':={ s with heap:=h',toks:=t' }) (ch:=[]) rfl ⟨fun b o e n _ _=>hx b o (nn n) e,fun b o e n _ _=>⟨o.slots,hx b o (nn n) e⟩,fun b o e n _=>?_,fun b o e _=>?_,fun b xs e=>?_,fun b o u e=>?_,fun b qs e=>?_⟩ (fun b u e=>?_) I.bare (fun b z=>by cases z)
 .rw[Zai (hz e),Zai (nn n)];exact n
 .by_cases z:b=P
  .exact⟨_,by rw[z];exact ht⟩
  .exact⟨o,hx b o z e⟩
 .rw[Zai (nc e),Zai (nt e fun _ z=>by cases z)];exact e
 .rw[Zai (nc e),Zai (nt e fun _ z=>by cases z)];exact e
 .by_cases z:b=P
  .subst z;rw[hP]at e;cases e;exact⟨more,by rw[Zai nPc,Zag]⟩
  .exact⟨#[],by rw[Zai (nc e),Zai z,e];simp⟩
 .by_cases z1:b=c'
  .subst z1;rw[Zag]at e;cases e;exact Zkt hr
  .rw[Zai z1]at e;by_cases z2:b=P
   .subst z2;rw[Zag]at e;cases e;exact ht
   .rw[Zai z2]at e;refine(I.hok b u e).stay (fun d v hd k=>?_) (fun d k=>?_) fun d xs k=>?_
    .refine hx d v ?_ k;rcases hd with rfl | hd
     .exact z2
     .exact nt hd fun _ z=>by cases z
    .rw[Zai (nc k),Zai (nt k fun _ z=>by cases z)];exact k
    .rw[Zai (nc k),Zai (nt k fun _ z=>by cases z)];exact k
theorem ZiL {Q:Q33}{E:Q33}{c P:AD}{pos:Pos}{params:Arguments}{body:Expr}{scope:Scope}{q:Str}{clos:List (Str×AD)}(I:Inv X BF U H s)(L:LamEnv X.base X.mg c P)(hcode:X.env.code=.ref c)(hcl:closureFor scope X.env=pure clos)(hdef:defaultsOf params X.env=([],[]))
  (hq:X.env.qual++"<lambda>"=q) (T:TblOk H P pos q)
  (h:∀(H1:Hp) (h':Heap) (tk:Nat) (c':AD) (ctv:Value),SameT pos H H1->TblOk H1 P pos q->(∀b,H1 b=none->H b=none)->Inv X BF U H1 { s with heap:=h',toks:=tk }->h'.CodeRec (.ref c') q->H1 c'=some (ZeV c' q)->Q (.ref h'.objs.size) { s with heap:=h'.push (kla_obj "<lambda>" q params body scope clos ((X.mg "__name__").getD .none) c' ctv),toks:=tk }):
  wpAny (model X.prog X.w) X.A (eval (.Lambda params body scope pos) X.env) Q E s:=by
 obtain⟨ps,hP,tr,hc⟩:=T;have gP:s.heap.get? P=some (tabObj ps):=I.hok P _ hP;have C:CodeHd s.heap c P:=L.hd.keeps I.bk;have hg:s.heap.Ns mainGlobals X.mg:=I.mod.glob.keeps I.bk;have hgP:mainGlobals≠P:=fun z=>by obtain⟨o,es,ep,e,hd,_⟩:=hg;rw[z,gP]at e;cases e;cases hd
 have hbm:s.heap.BuiltinsAt X.mg P:=let ⟨bm,o,a1,a2,a3,a4,a5,r⟩:=L.bm;⟨bm,o,a1,a2,a3,a4,I.bk _ _ a5,r⟩;refine kla_eval hdef ?_;rw[hq];rcases hc with hn | ⟨c',hf,hc'⟩
 .refine kla_makeFunction hcl I.ok.glob hg hcode C gP tr hn hgP hbm fun c' ctv h' tk hx hge BP hrec htab=>?_;have fc:H c'=none:=I.hok.fresh hge;have J:=I.table (t':=tk) hP hx hge hrec htab;have nPc:P≠c':=Zak hP fc;have el:(ps++#[rawInt pos.line,rawInt pos.col,Value.ref c']).toList=ps.toList++[rawInt pos.line,rawInt pos.col,.ref c']:=by simp
  refine h _ _ _ c' ctv ⟨fun b o e n=>?_,fun P' pos' q' hne T'=>?_⟩ ⟨_,by rw[Zai nPc,Zag],by rw[el];exact TriplesOk_snoc _ _ _ _ tr,.inr ⟨c',by rw[el];exact codeAmong_snoc _ tr hn,Zag⟩⟩ (fun b e=>?_) J hrec Zag
  .rw[Zai (Zak e fc),Zai (fun z=>by rw[z,hP]at e;cases e;cases n)];exact e
  .obtain⟨ps',e1,t1,h1⟩:=T';have keep:∀d,H d=some (ZeV d q')->upd (upd H P (.tbl (ps++#[rawInt pos.line,rawInt pos.col,Value.ref c']))) c' (ZeV c' q) d=some (ZeV d q'):=fun d e=>by rw[Zai (Zak e fc),Zai (fun z=>by rw[z,hP]at e;cases e)];exact e
   by_cases z:P'=P
   .subst z;rw[hP]at e1;cases e1;refine⟨_,by rw[Zai nPc,Zag],by rw[el];exact TriplesOk_snoc _ _ _ _ tr,?_⟩;rw[el,ZdJ hne _ tr];exact h1.imp id fun ⟨d,f1,f2⟩=>⟨d,f1,keep d f2⟩
   .exact⟨ps',by rw[Zai (Zak e1 fc),Zai z];exact e1,t1,h1.imp id fun ⟨d,f1,f2⟩=>⟨d,f1,keep d f2⟩⟩
  .by_cases z1:b=c'
   .rw[z1];exact fc
   .rw[Zai z1]at e;by_cases z2:b=P
    .rw[z2,Zag]at e;cases e
    .rw[Zai z2]at e;exact e
 .refine kla_makeFunctionHit hcl I.ok.glob hg hcode C gP tr hf hbm fun ctv h' tk hk hsz=>?_;have hrec:s.heap.CodeRec (.ref c') q:=(I.hok c' _ hc').1;exact h H _ _ c' ctv ⟨SameL.refl _,fun _ _ _ _ T=>T⟩ ⟨ps,hP,tr,.inr ⟨c',hf,hc'⟩⟩ (fun b e=>e) (I.kept (t':=tk) hk) (hrec.keeps hk) hc'
theorem Zfr {Q:Q33}{E:Q33}{c P:AD}{pos:Pos}{params:Arguments}{body:Expr}{scope:Scope}{q:Str}(I:Inv X BF U H s)(L:LamEnv X.base X.mg c P)(hcode:X.env.code=.ref c)(hcl:closureFor scope X.env=pure [])(hdef:defaultsOf params X.env=([],[]))
  (hq:X.env.qual++"<lambda>"=q) (T:TblOk H P pos q)
  (h:∀(g:AD) (H1:Hp) (s1:AE) (cv ctv pm:Value),SameT pos H H1->TblOk H1 P pos q->(∀b,H1 b=none->H b=none)->Inv X BF U H1 s1->s1.heap.get? g=some { cls:=.type "function",data:=.func (kla_fn "<lambda>" q params body scope [] pm cv ctv) }->s1.heap.CodeRec cv q->Q (.ref g) s1):
  wpAny (model X.prog X.w) X.A (eval (.Lambda params body scope pos) X.env) Q E s:=
 ZiL I L hcode hcl hdef hq T fun H1 h' tk c' ctv st t1 fr J hrec _=>h _ H1 _ (.ref c') ctv _ st t1 fr (J.kept (t':=tk) fun b o e=>YAE _ e) (YAU _ rfl) (hrec.push _)
end
theorem Zeh:bootBuiltins "sorted"=some (.builtin "sorted"):=rfl
noncomputable def txV:Value->Q11
 | .str x _=>x.cps.toList
 | _=>[]
theorem Zh1:∀ {ws:Q22} {us:AC},Vals (ws.map tx) us->ws=us.map txV/\(∀v∈us,∃y t,v=.str y t/\y.length=(txV v).length)
 | [],_,.nil=>⟨rfl,fun v hv=>by cases hv⟩
 | w::ws,_,.cons ⟨t,e⟩ r=>by
  obtain⟨h1,h2⟩:=Zh1 (ws:=ws) r;subst e;refine⟨by rw[YAi,<-h1];simp[txV],fun v hv=>?_⟩;rcases YAT.mp hv with rfl | hv
  .exact⟨_,t,rfl,by simp[txV,Str.length]⟩
  .exact h2 v hv
theorem ZdS:∀(us:AC),(∀v∈us,∃y t,v=.str y t)->Vals ((us.map txV).map tx) us
 | [],_=>.nil
 | v::us,h=>by obtain⟨y,t,rfl⟩:=h v YAY;exact .cons ⟨t,by simp[txV]⟩ (ZdS us fun u hu=>h u (YAP _ hu))
def ZkD (P:AD)(lpos:Pos)(q:Str)(ta:TA):TE:=fun U H Q=>ta U H fun vs H1=>∃(a:AD) (ws:Q22),vs=[.ref a]/\H1 a=some (.lst (ws.map tx))/\(∀w∈ws,w.length<=sizeLine)/\TblOk H1 P lpos q /\
 ∀(ws':Q22) (r:AD) (H2:Hp),ws'.Perm ws->ws'.Pairwise (fun a b=>¬BefW b a)->SameT lpos H1 H2->TblOk H2 P lpos q->H1 r=none->H2 r=some (.lst (ws'.map tx))->Q (.ref r) H2
theorem ZiI {a b:Q11}:ltP ((b.length:Nat),b) ((a.length:Nat),a)=false↔¬BefW b a:=by
 rw[YBd,Ne,Zge];unfold BefW;dsimp only;have e1:((b.length:Int)<(a.length:Int))↔b.length<a.length:=by omega
 have e2:((b.length:Int)=(a.length:Int))↔b.length=a.length:=by omega
 rw[e1,e2]
section
variable {X:Cx}{e:Expr}{ta:TA}{p pos kpos lpos p1 p2 p3 p4 p5:Pos}{k kk:Nat}{c P:AD}{params:Arguments}{scope:Scope}{x q:Str}
theorem ZgQ (hr:Room k X.A) (L:LamEnv X.base X.mg c P) (hcode:X.env.code=.ref c) (hg:Gl X "sorted") (hm:X.mg "sorted"=none) (BH:X.mg "len"=none) (ha:PA X [e] ta) (hcl:closureFor scope X.env=pure []) (hdef:defaultsOf params X.env=([],[])) (hq:X.env.qual++"<lambda>"=q)
  (S:LamSc scope x) (hb:∀(s:AE) (u pm cv ctv:Value),BindsTo s (kla_fn "<lambda>" q params (Zdx x p1 p2 p3 p4 p5 kk) scope [] pm cv ctv) ⟨[u],[]⟩ [(x,u)])
  (he:backTo pos (starEach [e] X.env)=(false,eval e X.env)::backTo pos (starEach [] X.env):=by rfl) (hpl:(backTo pos (starEach [e] X.env)).any (·.1)=false:=by rfl):
  PE X (.Call (.Name "sorted" p) [e] [⟨some "key",.Lambda params (Zdx x p1 p2 p3 p4 p5 kk) scope lpos,kpos⟩] pos) (ZkD P lpos q ta):=by
 intro BF s U H Q I h;refine YBf (Zdy I hg hm Zeh ?_);refine PyProof.Rows.callWith_kw (thn (ha pos BF s U H _ I h) fun us s1 zz=>?_) he hpl;obtain⟨vs,H1,I1,r1,q1⟩:=zz;obtain⟨a,ws,rfl,hH,hw,T,q⟩:=q1;show wpAny _ _ (evalAll ((do let v <-eval (.Lambda params (Zdx x p1 p2 p3 p4 p5 kk) scope lpos) X.env;standAt pos;pure v)::[])) _ _ s1;refine wpAny_evalAll_cons (YAA (Zfr I1 L hcode hcl hdef hq T fun g H2 s2 cv ctv pm sl T2 fr I2 ho hcd=>YAA (YCz (YAD (wpAny_evalAll_nil ?_)))));obtain⟨u,rfl,ru⟩:=r1.one;cases ru;have hH2:=sl.1 _ _ hH rfl;obtain⟨hz,its,n,r,hlen',eo⟩:=I2.lstM hH2;obtain⟨ew,hs⟩:=Zh1 r;have hN:its.length<=sizeLine:=by rw[<-r.length];exact hz
 obtain⟨mb,b1,b2⟩:=I2.mod.blt;have key:=ZlQ (prog:=X.prog) (w:=X.w) (A:=X.A.in1.in1) (vs:=its) ho rfl hcd S (fun s u=>hb s u pm cv ctv) (show X.A.depth<recursionLimit by have:=hr.dp;omega) (I2.mod.nolimit.keeps I2.bk) (I2.mod.glob.keeps I2.bk) BH (b1.keeps I2.bk) (b2 _ (by decide)) (fun v hv=>by obtain⟨y,t,e1,e2⟩:=hs v hv;exact⟨y,t,e1,by rw[e2];exact hw _ (by rw[ew];exact YBa hv)⟩)
 refine Zdf eo key hN fun s' r' us e nr kp g1 o1 er pm2 pw=>?_;have hs2:∀v∈us,∃y t,v=.str y t/\y.length=(txV v).length:=fun v hv=>hs v (pm2.mem_iff.mp hv);have rv:Vals ((us.map txV).map tx) us:=ZdS us fun v hv=>let ⟨y,t,e,_⟩:=hs2 v hv;⟨y,t,e⟩;have hl2:us.length=its.length:=pm2.length_eq;have fr':H1 r'=none:=fr _ (I2.hok.none_of nr);have J:=I2.laid2 (s':=s') (a:=r') (o:=.lst ((us.map txV).map tx)) o1 g1 kp nr ⟨by rw[YAB,YAB];omega,us,e,rv,er⟩;have hr2:=I2.hok.none_of nr;refine⟨.ref r',_,J,rfl,q (us.map txV) r' _ (by rw[ew];exact pm2.map _) ?_ (sl.then (Zav hr2)) (T2.same (Zav hr2)) fr' Zag⟩;rw[YBE];refine pw.imp_of_mem fun {y z} hy hz e=>?_;rw[<-ZiI];obtain⟨y1,t1,e1,e2⟩:=hs2 y hy;obtain⟨z1,t2,e3,e4⟩:=hs2 z hz;subst e1 e3;have f1:kfT (.str y1 t1)=((((txV (.str y1 t1)).length:Nat):Int),txV (.str y1 t1)):=by rw[<-e2];rfl
 have f2:kfT (.str z1 t2)=((((txV (.str z1 t2)).length:Nat):Int),txV (.str z1 t2)):=by rw[<-e4];rfl
 rw[f1,f2]at e;exact e
end
def FirstT (h:Heap)(v:Value)(y:Str):Prop:=∃a items t,v=.ref a/\IsTup h a items/\items[0]?=some (.str y t)
theorem FirstT.one {h:Heap}{v:Value}{y z:Str}(h1:FirstT h v y)(h2:FirstT h v z):y=z:=by obtain⟨a,its,t,rfl,⟨o,g,_,n,d⟩,e⟩:=h1;obtain⟨a',its',t',e2,⟨o',g',_,n',d'⟩,e'⟩:=h2;cases e2;rw[g]at g';cases g';rw[d]at d';injection d' with d1 d2;subst d1;rw[e]at e';injection e' with e';injection e'
theorem FirstT.kp {h g:Heap}{v:Value}{y:Str}(h1:FirstT h v y)(k:Kp h g):FirstT g v y:=by obtain⟨a,its,t,e,⟨o,g1,c,d⟩,e1⟩:=h1;exact⟨a,its,t,e,⟨o,k _ _ g1,c,d⟩,e1⟩
open Classical in
noncomputable def kfR (h:Heap) (v:Value):Int×Q11:=if c:∃y,FirstT h v y then (((Classical.choose c).length:Nat),(Classical.choose c).cps.toList) else (0,[])
theorem ZkO {h:Heap}{v:Value}{y:Str}(e:FirstT h v y):kfR h v=(((y.length:Nat):Int),y.cps.toList):=by have c:∃y,FirstT h v y:=⟨y,e⟩;unfold kfR;rw[dif_pos c,(Classical.choose_spec c).one e]
noncomputable abbrev Zdk (x:Str)(p1 p2 p3 p4 p5 p6 p7 p8 p9:Pos)(k j1 j2:Nat):Expr:=.Tuple [.Call (.Name "len" p1) [.Subscript (.Name x p2) (.Constant (.int 0) j1 p6) p7] [] p3,.Subscript (.Name x p4) (.Constant (.int 0) j2 p8) p9] k p5
section
variable {prog:AG}{w:AI}{A:AH}{s:AE}
theorem Zj7 {g:AD}{o:Obj}{name qual x:Str}{params:Arguments}{scope:Scope}{pm cv ctv:Value}{mg mb:AB}{vs:AC}{p1 p2 p3 p4 p5 p6 p7 p8 p9:Pos}{k j1 j2:Nat}
  (ho:s.heap.get? g=some o) (hod:o.data=.func (PySem.W.kla_fn name qual params (Zdk x p1 p2 p3 p4 p5 p6 p7 p8 p9 k j1 j2) scope [] pm cv ctv)) (hcd:s.heap.CodeRec cv qual) (S:LamSc scope x)
  (hb:∀(s:AE) (u:Value),BindsTo s (PySem.W.kla_fn name qual params (Zdk x p1 p2 p3 p4 p5 p6 p7 p8 p9 k j1 j2) scope [] pm cv ctv) ⟨[u],[]⟩ [(x,u)]) (hroom:A.depth<recursionLimit) (hlim:s.heap.NoLimit)
  (hg:s.heap.Ns mainGlobals mg) (hgl:mg "len"=none) (hbn:s.heap.Ns builtinsNs mb) (hbb:mb "len"=bootBuiltins "len") (hv:∀v∈vs,∃y,FirstT s.heap v y/\y.length<=sizeLine):KeyCall (model prog w) A g vs (kfR s.heap) s:=by
 intro E s' v Q hvm hk hgen hos q;obtain⟨y,fy,hy⟩:=hv v hvm;rw[ZkO fy]at q;obtain⟨av,its,t,rfl,hits,h0⟩:=fy.kp hk;have hsz:0<its.size:=by
  cases z:its.size with
  | zero=>rw[Array.getElem?_eq_none (by omega)]at h0;cases h0
  | succ n=>omega
 have hs:sizeLine=16777216:=sizeLine_eq;refine YCx (PySem.W.kla_callFunE hroom (hk _ _ ho) hod S.co S.gen rfl (let ⟨c,oc,ws,tq,e1,e2,r⟩:=hcd;⟨c,oc,ws,tq,e1,hk _ _ e2,r⟩) (hb _ _ _ _ _ _ ?_));refine wpAny_newFunctionEnv_cells S.kind (fun z hz=>.inl (by rw[YAL.mp hz];exact S.loc)) fun env he s1 X=>?_;refine⟨(hlim.keeps hk).keeps X.toInCall.keep,PySem.W.kla_codeExpr ?_⟩;subst he;obtain⟨h1,tk1,e1⟩:=X.toInCall.same;have kp1:Kp s'.heap s1.heap:=X.toInCall.keep;have lnm:∀(pp:Pos) (B:AH) (E2:Q33) (s2:AE) (Q2:Q33),Kp s1.heap s2.heap->Q2 (.ref av) s2->wpAny (model prog w) B (eval (.Name x pp) (newEnv scope s'.heap.objs.size mainGlobals (cellsFrom (s'.heap.objs.size+1) scope.names []) (qual++".<locals>.") (some g) cv none builtinsNs)) Q2 E2 s2:=fun pp B E2 s2 Q2 k2 q2=>
  wpAny_Name (wpAny_loadName_local S.kind S.loc (X.toInCall.ns.keeps k2) (by exact ZfQ _ S.loc) q2) S.nodbg
 have lsub:∀(pp pc ps:Pos) (pj:Nat) (B:AH) (E2:Q33) (s2:AE) (Q2:Q33),Kp s1.heap s2.heap->Q2 (.str y t) { s2 with toks:=s2.toks+1 }->wpAny (model prog w) B (eval (.Subscript (.Name x pp) (.Constant (.int 0) pj pc) ps) (newEnv scope s'.heap.objs.size mainGlobals (cellsFrom (s'.heap.objs.size+1) scope.names []) (qual++".<locals>.") (some g) cv none builtinsNs)) Q2 E2 s2:=fun pp pc ps pj B E2 s2 Q2 k2 q2=>by have ht:IsTup s2.heap av its:=let ⟨o,g1,c,d⟩:=hits;⟨o,k2 _ _ (kp1 _ _ g1),c,d⟩;refine Subscript_ (lnm pp _ _ _ _ k2 (wpAny_Constant_int ?_));exact subscriptTail_builtinR (x:=.str y t) (IsTup.typeIs (s:={ s2 with toks:=s2.toks+1 }) ht) slot_tuple_getitem.lookup (getItem_tuple (j:=0) (Q:=fun r s'=>r=.str y t/\Q2 r s') (s:={ s2 with toks:=s2.toks+1 }) ht (by decide) (by decide) (by unfold seqIndex?;simp[hsz]) h0 ⟨rfl,q2⟩)
 refine wpAny_Tuple_spliced ?_;show wpAny _ _ (spliced ((false,eval (.Call (.Name "len" p1) [.Subscript (.Name x p2) (.Constant (.int 0) j1 p6) p7] [] p3) _)::backTo p5 (starEach [.Subscript (.Name x p4) (.Constant (.int 0) j2 p8) p9] _))) _ _ s1;refine YCN ?_;refine YBf (Calls.Name_function_global S.kind S.glb (Calls.loadGlobal_builtin (v:=.builtin "len") (show s1.heap.Ns mainGlobals mg from(hg.keeps hk).keeps kp1) hgl (show s1.heap.Ns builtinsNs mb from(hbn.keeps hk).keeps kp1) (hbb.trans rfl) ?_));refine YDO ?_ rfl rfl;show wpAny _ _ (spliced ((false,eval (.Subscript (.Name x p2) (.Constant (.int 0) j1 p6) p7) _)::backTo p3 (starEach [] _))) _ _ s1;refine YCN (lsub p2 p6 p7 j1 _ _ _ _ (fun _ _ e=>e) (YDL ?_));refine len_str (by omega) ?_;show wpAny _ _ (spliced ((false,eval (.Subscript (.Name x p4) (.Constant (.int 0) j2 p8) p9) _)::backTo p5 (starEach [] _))) _ _ _;refine YCN (lsub p4 p8 p9 j2 _ _ _ _ (fun _ _ e=>e) (YDL ?_));refine⟨by rw[hs];show 2<=16777216;decide,?_⟩;rw[e1];refine q _ _ (fun b o e=>YAE _ (by have:=kp1 b o e;rw[e1]at this;exact this)) rfl rfl ⟨_,_,_,_,_,rfl,YAU _ rfl,rfl⟩
end
def ZkC (P:AD)(lpos:Pos)(q:Str)(ta:TA):TE:=fun U H Q=>ta U H fun vs H1=>∃(a:AD) (rs:List (AD×Q11)),vs=[.ref a]/\H1 a=some (.lst (rs.map fun r=>.ref r.1))/\(∀r∈rs,r.2.length<=sizeLine/\∃us,H1 r.1=some (.tup (tx r.2::us)))/\TblOk H1 P lpos q /\
 ∀(rs':List (AD×Q11)) (r:AD) (H2:Hp),rs'.Perm rs->rs'.Pairwise (fun a b=>¬BefW b.2 a.2)->SameT lpos H1 H2->TblOk H2 P lpos q->H1 r=none->H2 r=some (.lst (rs'.map fun r=>.ref r.1))->Q (.ref r) H2
theorem ZeX:∀ {rs:List (AD×Q11)} {us:AC},Vals (rs.map fun r=>V.ref r.1) us->us=rs.map fun r=>Value.ref r.1
 | [],_,.nil=>rfl
 | r::rs,_,.cons e q=>by cases e;rw[ZeX (rs:=rs) q];rfl
theorem Zfd:∀(rs:List (AD×Q11)),Vals (rs.map fun r=>V.ref r.1) (rs.map fun r=>Value.ref r.1)
 | []=>.nil
 | r::rs=>.cons rfl (Zfd rs)
noncomputable def adV:Value->AD
 | .ref a=>a
 | _=>0
section
variable {X:Cx}{e:Expr}{ta:TA}{p pos kpos lpos p1 p2 p3 p4 p5 p6 p7 p8 p9:Pos}{k kk j1 j2:Nat}{c P:AD}{params:Arguments}{scope:Scope}{x q:Str}
theorem ZjO (hr:Room k X.A) (L:LamEnv X.base X.mg c P) (hcode:X.env.code=.ref c) (hg:Gl X "sorted") (hm:X.mg "sorted"=none) (BH:X.mg "len"=none) (ha:PA X [e] ta) (hcl:closureFor scope X.env=pure []) (hdef:defaultsOf params X.env=([],[])) (hq:X.env.qual++"<lambda>"=q)
  (S:LamSc scope x) (hb:∀(s:AE) (u pm cv ctv:Value),BindsTo s (kla_fn "<lambda>" q params (Zdk x p1 p2 p3 p4 p5 p6 p7 p8 p9 kk j1 j2) scope [] pm cv ctv) ⟨[u],[]⟩ [(x,u)])
  (he:backTo pos (starEach [e] X.env)=(false,eval e X.env)::backTo pos (starEach [] X.env):=by rfl) (hpl:(backTo pos (starEach [e] X.env)).any (·.1)=false:=by rfl):
  PE X (.Call (.Name "sorted" p) [e] [⟨some "key",.Lambda params (Zdk x p1 p2 p3 p4 p5 p6 p7 p8 p9 kk j1 j2) scope lpos,kpos⟩] pos) (ZkC P lpos q ta):=by
 intro BF s U H Q I h;refine YBf (Zdy I hg hm Zeh ?_);refine PyProof.Rows.callWith_kw (thn (ha pos BF s U H _ I h) fun us s1 zz=>?_) he hpl;obtain⟨vs,H1,I1,r1,q1⟩:=zz;obtain⟨a,rs,rfl,hH,hw,T,q⟩:=q1;show wpAny _ _ (evalAll ((do let v <-eval (.Lambda params (Zdk x p1 p2 p3 p4 p5 p6 p7 p8 p9 kk j1 j2) scope lpos) X.env;standAt pos;pure v)::[])) _ _ s1;refine wpAny_evalAll_cons (YAA (Zfr I1 L hcode hcl hdef hq T fun g H2 s2 cv ctv pm sl T2 fr I2 ho hcd=>YAA (YCz (YAD (wpAny_evalAll_nil ?_)))));obtain⟨u,rfl,ru⟩:=r1.one;cases ru;have hH2:=sl.1 _ _ hH rfl;obtain⟨hz,its,n,r,hlen',eo⟩:=I2.lstM hH2;obtain rfl:=ZeX r;have hN:(rs.map fun r=>Value.ref r.1).length<=sizeLine:=by rw[<-r.length];exact hz
 obtain⟨mb,b1,b2⟩:=I2.mod.blt;have first:∀r∈rs,FirstT s2.heap (.ref r.1) ⟨r.2.toArray⟩:=fun r hr=>by
  obtain⟨_,us,hu⟩:=hw r hr;obtain⟨its,v,pl,_⟩:=I2.tuple (a:=r.1) (xs:=tx r.2::us) (.mk (sl.1 _ _ hu rfl));cases v with
  | cons e0 q0=>
   obtain⟨t,rfl⟩:=e0;exact⟨r.1,_,t,rfl,pl,by simp⟩
 have key:=Zj7 (prog:=X.prog) (w:=X.w) (A:=X.A.in1.in1) (vs:=rs.map fun r=>Value.ref r.1) ho rfl hcd S (fun s u=>hb s u pm cv ctv) (show X.A.depth<recursionLimit by have:=hr.dp;omega) (I2.mod.nolimit.keeps I2.bk) (I2.mod.glob.keeps I2.bk) BH (b1.keeps I2.bk) (b2 _ (by decide)) (fun v hv=>by obtain⟨r,hr,rfl⟩:=YAg.mp hv;exact⟨_,first r hr,by have:=(hw r hr).1;simpa [Str.length] using this⟩)
 refine Zdf eo key hN fun s' r' us e nr kp g1 o1 er pm2 pw=>?_;have gk:∀r∈rs,kfR s2.heap (.ref r.1)=(((r.2.length:Nat):Int),r.2):=fun r hr=>by rw[ZkO (first r hr)];simp[Str.length]
 obtain⟨rs',ers⟩:∃rs',rs'=us.map fun v=>(adV v,(kfR s2.heap v).2):=⟨_,rfl⟩;have p1':rs'.Perm rs:=by have h1:=pm2.map (fun v=>(adV v,(kfR s2.heap v).2));rw[<-ers,YBS]at h1;refine h1.trans (List.Perm.of_eq ?_);refine(YCH (g:=id) fun r hr=>?_).trans (List.map_id _);show (r.1,(kfR s2.heap (.ref r.1)).2)=r;rw[gk r hr]
 have eus:us=rs'.map fun r=>Value.ref r.1:=by rw[ers,YBS];refine((YCH fun v hv=>?_).trans (List.map_id _)).symm;obtain⟨r,_,rfl⟩:=YAg.mp (pm2.mem_iff.mp hv);rfl
 have fr':H1 r'=none:=fr _ (I2.hok.none_of nr);have hl2:us.length=rs.length:=by rw[pm2.length_eq,YAB]
 have hl3:rs'.length=rs.length:=p1'.length_eq;rw[YAB]at hN;have J:=I2.laid2 (s':=s') (a:=r') (o:=.lst (rs'.map fun r=>.ref r.1)) o1 g1 kp nr ⟨by rw[YAB];omega,us,e,by rw[eus];exact Zfd rs',er⟩;have hr2:=I2.hok.none_of nr;refine⟨.ref r',_,J,rfl,q rs' r' _ p1' ?_ (sl.then (Zav hr2)) (T2.same (Zav hr2)) fr' Zag⟩;rw[eus,YBE]at pw;refine pw.imp_of_mem fun {y z} hy hz e=>?_;rw[<-ZiI];rw[gk y (p1'.mem_iff.mp hy),gk z (p1'.mem_iff.mp hz)]at e;exact e
end
end L2
namespace L2
open PySem PySem.Spec PyProof.Rows
open PySem.W (Frag)
section
variable {X:Cx}
end
theorem ZjY {K:Frag}{H:Hp}{Q:VK}{a b:AD}{vs:List V}(h1:SqT K H a vs)(h2:SqT K H b vs)(hf:vs.all Zbw=true)(q:Q (.bl false) H):rEqD K true (.ref a) (.ref b) H Q:=
 .inr ⟨_,_,datT h1 hf,datT h2 hf,fun z=>YAC z.1,(ownT h1 hf).2.2,by rw[(ownT h1 hf).2.1];exact q⟩
noncomputable def frT (a b:Int):Int:=a/(Int.gcd a b:Nat)
noncomputable def frB (a b:Int):Int:=b/(Int.gcd a b:Nat)
theorem ZbJ {a b:Int}(ha:0<=a)(hb:0<b):0<=frT a b/\frT a b<=a/\1<=frB a b/\frB a b<=b/\Int.gcd (frT a b) (frB a b)=1/\frT a b*b=frB a b*a:=by
 have hg:0<Int.gcd a b:=YDb a (by omega);have hg':(0:Int)<(Int.gcd a b:Nat):=by omega
 obtain⟨x,hx⟩:=Int.gcd_dvd_left a b;obtain⟨y,hy⟩:=Int.gcd_dvd_right a b;have e1:frT a b=x:=by unfold frT;exact Int.ediv_eq_of_eq_mul_right (by omega) hx
 have e2:frB a b=y:=by unfold frB;exact Int.ediv_eq_of_eq_mul_right (by omega) hy
 rw[e1,e2];have hy1:1<=y:=by
  rcases (by omega:y<1\/1<=y) with h | h
  .have:((Int.gcd a b:Nat):Int)*y<=0:=Int.mul_nonpos_of_nonneg_of_nonpos (by omega) (by omega);omega
  .exact h
 have hx0:0<=x:=by
  rcases (by omega:x<0\/0<=x) with h | h
  .have:((Int.gcd a b:Nat):Int)*x<0:=Int.mul_neg_of_pos_of_neg hg' h;omega
  .exact h
 refine⟨hx0,?_,hy1,?_,?_,?_⟩
 .have:1*x<=((Int.gcd a b:Nat):Int)*x:=YDR (by omega) hx0;omega
 .have:1*y<=((Int.gcd a b:Nat):Int)*y:=YDR (by omega) (by omega);omega
 .have h:=Int.gcd_mul_left ((Int.gcd a b:Nat):Int) x y;rw[<-hx,<-hy,Int.natAbs_natCast]at h;exact Nat.eq_of_mul_eq_mul_left hg (by omega)
 .generalize Int.gcd a b=g at hx hy;rw[hx,hy,<-YDG,<-YDG,Int.mul_comm x,Int.mul_comm y,YDG,YDG,Int.mul_comm x y]
def Bt (n:Nat)(i:Int):Prop:=0<=i/\i.toNat<2 ^ n
theorem Bt.mono {n k:Nat}{i:Int}(h:Bt n i)(l:n<=k):Bt k i:=⟨h.1,YAk h.2 (Nat.pow_le_pow_right (by decide) l)⟩
theorem Bt.le {n:Nat}{i j:Int}(h:Bt n j)(h0:0<=i)(l:i<=j):Bt n i:=⟨h0,YCa (by omega) h.2⟩
theorem Bt.mul {n k:Nat}{i j:Int}(h1:Bt n i)(h2:Bt k j):Bt (n+k) (i*j):=by obtain⟨a,rfl⟩:∃a:Nat,i=(a:Int):=⟨i.toNat,by have:=h1.1;omega⟩;obtain⟨b,rfl⟩:∃b:Nat,j=(b:Int):=⟨j.toNat,by have:=h2.1;omega⟩;have ha:a<2 ^ n:=h1.2;have hb:b<2 ^ k:=h2.2;rw[<-YCi];refine⟨by omega,?_⟩;show a*b<2 ^ (n+k);rw[Nat.pow_add];exact Nat.mul_lt_mul_of_lt_of_lt ha hb
theorem Bt.add {n:Nat}{i j:Int}(h1:Bt n i)(h2:Bt n j):Bt (n+1) (i+j):=by have a1:=h1.1;have a2:=h2.1;have b1:=h1.2;have b2:=h2.2;refine⟨by omega,?_⟩;rw[YCD];omega
theorem Bt.bits {n:Nat}{i:Int}(h:Bt n i)(l:n<=8000):Builtin.Int.intBits i<=2 ^ 20:=by
 have e:i.natAbs=i.toNat:=by have:=h.1;omega
 exact YAK (intBits_le (k:=n) (by rw[e];exact h.2)) (YAK l (by decide))
theorem Bt.log {n:Nat}{i:Int}(h:Bt n i)(l:n<=8000):i.natAbs.log2<9000:=by
 have e:i.natAbs=i.toNat:=by have:=h.1;omega
 rw[e];by_cases z:i.toNat=0
 .rw[z];decide
 .have:=(Nat.log2_lt z).mpr h.2;omega
def Zmv (i j:Int):Prop:=0<j/\∃n,n<=8000/\Bt n j
def ZqP (i j:Int):Prop:=∃n,n<=8000/\Bt n i/\Bt n j
section
variable {X:Cx}
theorem Zc8:OpR X (binaryOp .FloorDiv) (rI Zmv fun i j=>.int (i/j)):=opI fun i j _ _ _ _ _ hc q=>by obtain⟨h1,n,hn,h2⟩:=hc;have h1:(0:Int)<j:=h1;exact floordiv_int (by omega) (by rw[Int.fdiv_eq_ediv_of_nonneg i (by omega)];exact q) (.inl (PyProof.noPylong_of_log2 (h2.log hn)))
theorem Zbr:OpR X (binaryOp .Mult) (rI ZqP fun i j=>.int (i*j)):=opI fun _ _ _ _ _ _ _ hc q=>by obtain⟨n,hn,h1,h2⟩:=hc;exact mul_int q (.of_bits (h1.bits hn) (h2.bits hn))
end
structure Lin {α:Type}(lt:α->α->Bool):Prop where
 asym:∀a b,lt a b=true->lt b a=false
 trans:∀a b c,lt a b=true->lt b c=true->lt a c=true
 tri:∀a b,lt a b=false->lt b a=false->a=b
section
variable {prog:AG}{w:AI}{A:AH}{E:Q33}{s:AE}
end
section
variable {prog:AG}{w:AI}{A:AH}{E:Q33}{s:AE}
end
section
variable {X:Cx}
end
noncomputable def fpl (l w:Q11):Nat:=((List.range (l.length+1)).find? fun i=>decide (i+w.length<=l.length)&&decide ((l.drop i).take w.length=w)).getD 0
theorem ZkU {l w:Q11}{i:Nat}(h:AtW l w i)(hm:∀j,j<i->¬AtW l w j):fpl l w=i:=by
 unfold fpl;have:((List.range (l.length+1)).find? fun i=>decide (i+w.length<=l.length)&&decide ((l.drop i).take w.length=w))=some i:=by
  rw[List.find?_range_eq_some];refine⟨by rw[decide_eq_true h.1,decide_eq_true h.2];rfl,YAn.mpr (by have:=h.1;omega),fun j hj=>?_⟩;rw[Bool.not_eq_true',Bool.and_eq_false_iff,decide_eq_false_iff_not,decide_eq_false_iff_not];by_cases c:j+w.length<=l.length
  .exact .inr fun z=>hm j hj ⟨c,z⟩
  .exact .inl c
 rw[this];rfl
theorem ZfU {a b:Q11}(h1:BefW a b)(h2:BefW b a):False:=by
 rcases h1 with h1 | ⟨h1,k1⟩<;>rcases h2 with h2 | ⟨h2,k2⟩
 .omega
 .omega
 .omega
 .exact List.lt_asymm k1 k2
theorem Zba:∀ {a b:Q22},a.Pairwise BefW->b.Pairwise BefW->(∀x,x∈a↔x∈b)->a=b
 | [],[],_,_,_=>rfl
 | [],y::b,_,_,h=>by have:=(h y).mpr YAY;cases this
 | x::a,[],_,_,h=>by have:=(h x).mp YAY;cases this
 | x::a,y::b,ha,hb,h=>by
  have pa:=YBW.mp ha;have pb:=YBW.mp hb;have e:x=y:=by
   rcases YAT.mp ((h x).mp YAY) with z | z
   .exact z
   .rcases YAT.mp ((h y).mpr YAY) with z2 | z2
    .exact z2.symm
    .exact(ZfU (pb.1 x z) (pa.1 y z2)).elim
  subst e;congr 1;refine Zba pa.2 pb.2 fun z=>?_;constructor
  .intro hz;rcases YAT.mp ((h z).mp (YAP _ hz)) with e | e
   .rw[e]at hz;exact(ZcM (pa.1 x hz)).elim
   .exact e
  .intro hz;rcases YAT.mp ((h z).mpr (YAP _ hz)) with e | e
   .rw[e]at hz;exact(ZcM (pb.1 x hz)).elim
   .exact e
theorem Zcp {x y:Q11}(e:kTx x=kTx y):x=y:=by unfold kTx at e;injection e with e;injection e with e;injection e
def Ext (s L:Q11):Prop:=(∃c,L=s++[c])\/∃c,L=c::s
theorem Ext.len {s L:Q11}(h:Ext s L):L.length=s.length+1:=by rcases h with⟨c,rfl⟩|⟨c,rfl⟩<;>simp
theorem Ext.inf {s L:Q11}(h:Ext s L):Inf s L:=by
 rcases h with⟨c,rfl⟩|⟨c,rfl⟩
 .have:=ZeF (s++[c]);rwa [List.dropLast_concat]at this
 .exact ZeE (c::s)
def Frs (s L w:Q11):Prop:=Inf w L/\¬Inf w s
theorem Frs.ne {s L w:Q11}(h:Frs s L w):w≠[]:=fun e=>h.2 (e▸Inf.nil s)
theorem ZeD (l:Q11)(k:Nat):Inf (l.take k) l:=⟨0,by rw[YAZ];omega,by rw[YBo,List.take_eq_take_iff,YAZ];omega⟩
theorem ZeG (l:Q11)(k:Nat):Inf (l.drop k) l:=by
 by_cases h:k<=l.length
 .exact⟨k,by rw[YAj];omega,by rw[YBj]⟩
 .rw[YBu (by omega)];exact Inf.nil l
theorem Zc9 {s L w:Q11}(h:Ext s L)(f:Frs s L w):((∃c,L=s++[c])/\w=L.drop (L.length-w.length))\/((∃c,L=c::s)/\w=L.take w.length):=by
 obtain⟨⟨i,h1,h2⟩,hn⟩:=f;rcases h with⟨c,rfl⟩|⟨c,rfl⟩
 .refine .inl ⟨⟨c,rfl⟩,?_⟩;rw[YAF,YAs]at h1 ⊢;have hi:i+w.length=s.length+1:=by
   by_cases z:i+w.length<=s.length
   .refine absurd ⟨i,z,?_⟩ hn;rw[YCB (by omega),List.take_append_of_le_length (by rw[YAj];omega)]at h2;exact h2
   .omega
  have e:s.length+1-w.length=i:=by omega
  rw[e];rw[YAu (by rw[YAj,YAF,YAs];omega)]at h2;exact h2.symm
 .refine .inr ⟨⟨c,rfl⟩,?_⟩;cases i with
  | zero=>rw[YBo]at h2;exact h2.symm
  | succ i=>
   refine absurd ⟨i,?_,?_⟩ hn
   .rw[YAd]at h1;omega
   .rw[List.drop_succ_cons]at h2;exact h2
theorem Zi1 {s L w:Q11}(h:Ext s L):Frs s L w↔(∃k,1<=k/\k<=L.length/\(w=L.take k\/w=L.drop (L.length-k)))/\¬Inf w s:=by
 constructor
 .intro f;have h1:1<=w.length:=YBK.mpr f.ne;refine⟨⟨w.length,h1,f.1.len,?_⟩,f.2⟩;rcases Zc9 h f with⟨_,e⟩|⟨_,e⟩
  .exact .inr e
  .exact .inl e
 .rintro⟨⟨k,_,_,rfl | rfl⟩,hn⟩
  .exact⟨ZeD _ _,hn⟩
  .exact⟨ZeG _ _,hn⟩
theorem ZfA {s L u v:Q11}(h:Ext s L)(fu:Frs s L u)(fv:Frs s L v)(hl:u.length<=v.length):Inf u v:=by
 have l1:=fu.1.len;have l2:=fv.1.len;rcases Zc9 h fu with⟨⟨c,e⟩,eu⟩|⟨⟨c,e⟩,eu⟩
 .rcases Zc9 h fv with⟨_,ev⟩|⟨⟨d,e2⟩,ev⟩
  .have:u=v.drop (v.length-u.length):=by
    have:v.drop (v.length-u.length)=L.drop (L.length-u.length):=by
     conv=>lhs;rw[ev]
     rw[YCE,YAj];congr 1;omega
    rw[this];exact eu
   rw[this];exact ZeG _ _
  .
   have hv:v.length=L.length:=by
    by_cases z:v.length=L.length
    .exact z
    .exfalso;refine fv.2 ?_;have:v=s.take v.length:=by
      conv=>lhs;rw[ev,e]
      rw[List.take_append_of_le_length];have:=h.len;omega
     rw[this];exact ZeD _ _
   have:v=L:=by rw[ev,hv,YBj]
   rw[this];exact fu.1
 .rcases Zc9 h fv with⟨⟨d,e2⟩,ev⟩|⟨_,ev⟩
  .have hv:v.length=L.length:=by
    by_cases z:v.length=L.length
    .exact z
    .exfalso;refine fv.2 ?_;have:v=s.drop (s.length-v.length):=by
      have h3:=h.len
      conv=>lhs;rw[ev,e]
      have e4:(c::s).length-v.length=(s.length-v.length)+1:=by rw[YAd];omega
      rw[e4,List.drop_succ_cons]
     rw[this];exact ZeG _ _
   have:v=L:=by rw[ev,hv,Nat.sub_self,YBo]
   rw[this];exact fu.1
  .have:u=v.take u.length:=by
    have:v.take u.length=L.take u.length:=by
     conv=>lhs;rw[ev]
     rw[YCY];congr 1;omega
    rw[this];exact eu
   rw[this];exact ZeD _ _
theorem Zl5 {s L u v:Q11}(h:Ext s L)(fu:Frs s L u)(fv:Frs s L v)(hl:u.length=v.length):u=v:=ZiW (ZfA h fu fv (by omega)) (by omega)
theorem Zgk {s L w0:Q11}(h:Ext s L)(f0:Frs s L w0)(hm:∀w,Frs s L w->¬BefW w w0)(w:Q11):Miss s w/\Inf w L↔w=w0:=by
 have sh:∀w,Frs s L w->w0.length<=w.length:=fun w f=>by
  by_cases z:w.length<w0.length
  .exact absurd (.inl z) (hm w f)
  .omega
 have ne:=f0.ne;have l1:1<=w0.length:=YBK.mpr ne;constructor
 .rintro⟨ms,hi⟩;have fw:Frs s L w:=⟨hi,ms.no⟩;have hc:=ZfA h f0 fw (sh w fw);by_cases z:w0.length<w.length
  .rcases ZlX hc z with k | k
   .exact absurd (k.trans ms.init) f0.2
   .exact absurd (k.trans ms.tail) f0.2
  .exact(ZiW hc (by omega)).symm
 .rintro rfl;have small:∀u,Inf u L->u.length<w.length->Inf u s:=fun u hu hl=>by
   by_cases z:Inf u s
   .exact z
   .have:=sh u ⟨hu,z⟩;omega
  exact⟨⟨ne,small _ ((ZeF w).trans f0.1) (by rw[YBC];omega),small _ ((ZeE w).trans f0.1) (by rw[YDU];omega),f0.2⟩,f0.1⟩
noncomputable def shOf (s w:Q11)[Decidable (Inf w.dropLast s)]:Q11:=if Inf w.dropLast s then w.tail else w.dropLast
noncomputable instance (w l:Q11):Decidable (Inf w l):=decidable_of_iff (∃i,i<l.length+1/\i+w.length<=l.length/\(l.drop i).take w.length=w) ⟨fun ⟨i,_,h⟩=>⟨i,h⟩,fun ⟨i,h⟩=>⟨i,by have:=h.1;omega,h⟩⟩
def Opn (s L m w:Q11):Prop:=∃sh c,Frs s L sh/\c∈m/\(w=sh++[c]\/w=c::sh)/\Miss L w
theorem ZlF {s L m w:Q11}(h:Ext s L)(hm:∀x∈L,x∈m):Opn s L m w↔w∈Zan L m/\w∉Zan s m:=by
 constructor
 .rintro⟨sh,c,f,hc,e,ms⟩;refine⟨Zay.mpr ⟨ms,?_⟩,fun hw=>?_⟩
  .rcases e with rfl | rfl
   .exact⟨c,hc,by simp⟩
   .refine⟨sh.getLast f.ne,hm _ (f.1.mem (List.getLast_mem _)),?_⟩;rw[YBl (by simp),List.getLast_cons f.ne]
  .have k:=(Zay.mp hw).1;rcases e with rfl | rfl
   .exact f.2 (by have:=k.init;rwa [List.dropLast_concat]at this)
   .exact f.2 k.tail
 .rintro⟨hw,hn⟩;obtain⟨ms,c,hc,hl⟩:=Zay.mp hw;have ns:¬Inf w s:=fun z=>ms.no (z.trans h.inf);have hn':¬(Inf w.dropLast s/\Inf w.tail s):=fun ⟨a,b⟩=>hn (Zay.mpr ⟨⟨ms.ne,a,b,ns⟩,c,hc,hl⟩);by_cases z:Inf w.dropLast s
  .have z2:¬Inf w.tail s:=fun k=>hn' ⟨z,k⟩;have f:Frs s L w.tail:=⟨ms.tail,z2⟩
   match w,ms,f with
   | d::r,ms,f=>
    have f:Frs s L r:=f;refine⟨r,d,f,?_,.inr rfl,ms⟩
    match r,f.ne with
    | e::r,_=>exact hm _ (ms.init.mem (by simp))
  .refine⟨w.dropLast,c,⟨ms.init,z⟩,hc,.inl ?_,ms⟩;rw[YBl ms.ne]at hl;have h2:=YDa ms.ne;rw[Option.some.inj hl]at h2;exact h2.symm
theorem Znp {s L w sh:Q11}{c:Nat}(h:Ext s L)(f:Frs s L sh)(e:w=sh++[c]\/w=c::sh)(ms:Miss L w):shOf s w=sh:=by
 unfold shOf;rcases e with rfl | rfl
 .rw[List.dropLast_concat,YAI f.2]
 .by_cases z:Inf (c::sh).dropLast s
  .rw[YAM z];rfl
  .rw[YAI z];exact Zl5 h ⟨ms.init,z⟩ f (by rw[YBC];simp)
theorem Zfs {s L m w w0:Q11}(h:Ext s L)(f0:Frs s L w0)(hmn:∀w,Frs s L w->¬BefW w w0)(hw:w∈Zan s m):w∈Zan L m↔w≠w0:=by
 obtain⟨ms,hc⟩:=Zay.mp hw;constructor
 .rintro k rfl;exact(Zay.mp k).1.no ((Zgk h f0 hmn w).mpr rfl).2
 .intro k;have ni:¬Inf w L:=fun z=>k ((Zgk h f0 hmn w).mp ⟨ms,z⟩);exact Zay.mpr ⟨⟨ms.ne,ms.init.trans h.inf,ms.tail.trans h.inf,ni⟩,hc⟩
theorem Zmc {s L m w0:Q11}(h:Ext s L)(hm:∀x∈L,x∈m)(f0:Frs s L w0)(hmn:∀w,Frs s L w->¬BefW w w0):w0∈Zan s m:=by have k:=(Zgk h f0 hmn w0).mpr rfl;exact Zay.mpr ⟨k.1,w0.getLast k.1.ne,hm _ (k.2.mem (List.getLast_mem _)),YBl _⟩
noncomputable def opnL (s L m:Q11):Q22:=(Zan L m).filter fun w=>decide (w∉Zan s m)
noncomputable def filL (s L m:Q11):Q22:=(Zan s m).filter fun w=>decide (w∉Zan L m)
theorem Zex {s L m w:Q11}:w∈opnL s L m↔w∈Zan L m/\w∉Zan s m:=by unfold opnL;simp
theorem Zey {s L m w:Q11}:w∈filL s L m↔w∈Zan s m/\w∉Zan L m:=by unfold filL;simp
theorem Zkm {s L m w0:Q11}(h:Ext s L)(hm:∀x∈L,x∈m)(hr:m.Pairwise (· < ·))(f0:Frs s L w0)(hmn:∀w,Frs s L w->¬BefW w w0):filL s L m=[w0]:=by
 refine Zba ((ZaI hr).filter _) (by simp) fun w=>?_;rw[Zey,YAL];constructor
 .rintro⟨a,b⟩;by_cases z:w=w0
  .exact z
  .exact absurd ((Zfs h f0 hmn a).mpr z) b
 .rintro rfl;have k:=Zmc h hm f0 hmn;exact⟨k,fun z=>(Zfs h f0 hmn k).mp z rfl⟩
theorem Zbi {ws ws':Q22}(pm:ws'.Perm ws)(pw:ws'.Pairwise fun a b=>¬BefW b a)(nd:ws.Nodup):ws'.Pairwise BefW:=by
 refine(pw.and (pm.nodup_iff.mpr nd)).imp ?_;rintro a b ⟨h1,h2⟩;rcases Nat.lt_trichotomy a.length b.length with z | z | z
 .exact .inl z
 .rcases ZiF a b with k | k | k
  .exact .inr ⟨z,k⟩
  .exact absurd k h2
  .exact absurd (.inr ⟨z.symm,k⟩) h1
 .exact absurd (.inl z) h1
theorem Zbn {ws:Q22}(h:ws.Pairwise BefW):ws.Nodup:=h.imp fun hab e=>by rw[e]at hab;exact ZcM hab
theorem ZlS {old new came gone ws':Q22}(ho:old.Pairwise BefW)(hn:new.Pairwise BefW)(hc:∀w,w∈came↔w∈new/\w∉old)(nc:came.Nodup)(hg:∀w,w∈gone↔w∈old/\w∉new)(pm:ws'.Perm (old.filter (fun w=>decide (w∉gone))++came))(pw:ws'.Pairwise fun a b=>¬BefW b a):ws'=new:=by
 have nd:(old.filter (fun w=>decide (w∉gone))++came).Nodup:=by rw[YBx];refine⟨(Zbn ho).filter _,nc,fun a ha b hb e=>?_⟩;subst e;exact((hc a).mp hb).2 (YAr.mp ha).1
 refine Zba (Zbi pm pw nd) hn fun w=>?_;rw[pm.mem_iff,YAW,YAr,hc,decide_eq_true_iff,hg];constructor
 .rintro (⟨a,b⟩|⟨a,b⟩)
  .by_cases z:w∈new
   .exact z
   .exact absurd ⟨a,z⟩ b
  .exact a
 .intro a;by_cases z:w∈old
  .exact .inl ⟨z,fun k=>k.2 a⟩
  .exact .inr ⟨a,z⟩
theorem Zj8 {m:Q11}(hm:m.Pairwise (· < ·)):Zan [] m=signs m:=by
 unfold signs;refine Zba (ZaI hm) ?_ fun w=>?_
 .rw[YBE];exact hm.imp fun h=>.inr ⟨rfl,List.Lex.rel h⟩
 .rw[Zay,YAg];constructor
  .rintro⟨ms,c,hc,hl⟩;have h:=ms.init.len;rw[YBC,YCg]at h;have h1:1<=w.length:=YBK.mpr ms.ne
   match w,h,h1,hl with
   | [d],_,_,hl=>exact⟨c,hc,by simpa using hl.symm⟩
  .rintro⟨c,hc,rfl⟩;exact⟨⟨by simp,Inf.nil _,Inf.nil _,fun z=>by have:=z.len;simp at this⟩,c,hc,rfl⟩
end L2
namespace L2
noncomputable def DD:Nat:=33452526613163807108170062053440751665152000000000*33452526613163807108170062053440751665152000000000
noncomputable def wtN (n:Nat):Nat:=DD/(n*n)
theorem Zk9:∀n:Fin 42,n.val=0\/n.val*n.val*wtN n.val=DD:=by decide +kernel
theorem Zgy {n:Nat}(h1:1<=n)(h2:n<=41):n*n*wtN n=DD:=(Zk9 ⟨n,by omega⟩).resolve_left (by show ¬n=0;omega)
theorem ZdO:0<DD:=by decide +kernel
theorem Zk8 {n:Nat}(h1:1<=n)(h2:n<=41):0<wtN n:=by
 have a:=Zgy h1 h2;have b:=ZdO;cases z:wtN n with
 | zero=>rw[z,Nat.mul_zero]at a;omega
 | succ k=>omega
noncomputable def WS (ws:Q22):Nat:=(ws.map fun w=>wtN w.length).sum
theorem Zjp:WS []=0:=rfl
theorem Zjo (ws:Q22)(w:Q11):WS (ws++[w])=WS ws+wtN w.length:=by unfold WS;simp
theorem Zmr {xs ys:Q22}(h:xs.Perm ys):WS xs=WS ys:=by unfold WS;exact(h.map _).sum_nat
theorem Zoz (xs ys:Q22):WS (xs++ys)=WS xs+WS ys:=by unfold WS;simp
theorem Zmq {ws:Q22}(h:∀w∈ws,1<=w.length/\w.length<=41)(z:WS ws=0):ws=[]:=by
 cases ws with
 | nil=>rfl
 | cons w ws=>
  have:=Zk8 (h w (by simp)).1 (h w (by simp)).2;unfold WS at z;simp at z;omega
theorem Zky:∀ {xs ys:Q22},xs.Nodup->(∀w∈xs,w∈ys)->WS xs<=WS ys
 | [],_,_,_=>YAv _
 | x::xs,ys,nd,h=>by have hx:=h x (by simp);have p:=List.perm_cons_erase hx;rw[Zmr p];have ih:=Zky (xs:=xs) (ys:=ys.erase x) (YBU.mp nd).2 fun w hw=>(YDY (fun (e:w=x)=>(YBU.mp nd).1 (e▸hw))).mpr (h w (by simp[hw]));unfold WS at *;simp only[YAi,List.sum_cons];omega
structure IsDiff (a b ds:Q22):Prop where
 nd:ds.Nodup
 mem:∀w,w∈ds↔(w∈a/\w∉b)\/(w∈b/\w∉a)
theorem IsDiff.ws {a b ds es:Q22}(h:IsDiff a b ds)(g:IsDiff a b es):WS ds=WS es:=
 Nat.le_antisymm (Zky h.nd fun w hw=>(g.mem w).mpr ((h.mem w).mp hw)) (Zky g.nd fun w hw=>(h.mem w).mpr ((g.mem w).mp hw))
theorem tri {a b c x y z:Q22}(h1:IsDiff a b x)(h2:IsDiff b c y)(h3:IsDiff c a z):WS y<=WS x+WS z:=by rw[<-Zoz];refine Zky h2.nd fun w hw=>?_;rw[YAW,h1.mem,h3.mem];have:=(h2.mem w).mp hw;by_cases ha:w∈a<;>by_cases hb:w∈b<;>by_cases hc:w∈c<;>simp_all
theorem ZiN {l1 l2 m:Q11}(h1:∀c∈l1,c∈m)(h2:∀c∈l2,c∈m)(h:∀w,w∈Zan l1 m↔w∈Zan l2 m):l1=l2:=by have a:Inf l1 l2:=(Zcz h1).mpr fun v hv=>(Zcz h1).mp (Inf.refl l1) v ((h v).mpr hv);have b:Inf l2 l1:=(Zcz h2).mpr fun v hv=>(Zcz h2).mp (Inf.refl l2) v ((h v).mp hv);exact ZiW a b.len
theorem Zi7 {a b c:Int}(h:a∣b*c)(g:Int.gcd a b=1):a∣c:=by rw[<-Int.natAbs_dvd_natAbs]at h ⊢;rw[Int.natAbs_mul]at h;exact Nat.Coprime.dvd_of_dvd_mul_left g h
theorem ZeH {x y u v:Int}(hx:0<=x)(hy:0<y)(hu:0<=u)(hv:0<v)(h:x*v=u*y):frT x y=frT u v/\frB x y=frB u v:=by
 obtain⟨a1,a2,a3,a4,a5,a6⟩:=ZbJ hx hy;obtain⟨b1,b2,b3,b4,b5,b6⟩:=ZbJ hu hv;generalize frT x y=p at *;generalize frB x y=q at *;generalize frT u v=r at *;generalize frB u v=s at *;have yv:y*v≠0:=Int.ne_of_gt (Int.mul_pos hy hv);have e:p*s=r*q:=by
  apply Int.eq_of_mul_eq_mul_right yv;have l:p*s*(y*v)=(p*y)*(s*v):=by ac_rfl
  have k:r*q*(y*v)=(r*v)*(q*y):=by ac_rfl
  rw[l,k,a6,b6];have l2:q*x*(s*v)=q*s*(x*v):=by ac_rfl
  have k2:s*u*(q*y)=q*s*(u*y):=by ac_rfl
  rw[l2,k2,h]
 have d1:q∣s:=Zi7 (b:=p) (c:=s) ⟨r,by rw[e];ac_rfl⟩ (by rw[Int.gcd_comm];exact a5);have d2:s∣q:=Zi7 (b:=r) (c:=q) ⟨p,by rw[<-e];ac_rfl⟩ (by rw[Int.gcd_comm];exact b5);have qs:q=s:=Int.dvd_antisymm (by omega) (by omega) d1 d2;subst qs;exact⟨Int.eq_of_mul_eq_mul_right (by omega) e,rfl⟩
end L2
namespace L2
open PySem PySem.Spec PyProof.Rows
open PySem.W (Frag)
theorem ZgX {X:Cx}:MtM X "str.find" (fun x vs H Q=>∃l w,x=tx l/\vs=[tx w]/\∀r:Int,((r=-1/\¬Inf w l)\/∃i:Nat,r=(i:Int)/\AtW l w i/\∀j,j<i->¬AtW l w j)->Q (.int r) H):=by
 rintro BF s U H x vs v us Q I rx rv ⟨l,w,rfl,rfl,q⟩;obtain⟨t,rfl⟩:=rx;obtain⟨u,rfl,t',rfl⟩:=rv.one;refine SC.find ?_;refine⟨.int _,H,I.tok _,⟨_,rfl⟩,q _ ?_⟩;rcases find_whole (⟨l.toArray⟩:Str) ⟨w.toArray⟩ with⟨h1,h2⟩|⟨i,h1,h2,h3⟩
 .exact .inl ⟨h1,fun ⟨i,hi⟩=>h2 i ((ZbZ l w i).mpr hi)⟩
 .exact .inr ⟨i,h1,(ZbZ l w i).mp h2,fun j hj hA=>h3 j hj ((ZbZ l w j).mpr hA)⟩
section
variable {τ0:St}{tt:TT}{te:TE}{H:Hp}{Q:VK}
end
section
variable {X:Cx}{pos:Pos}
end
end L2
namespace L2
open PySem PySem.Spec PyProof.Rows PySem.Builtin.Str
def tOr2 (t1 t2:TE):TE:=fun U H Q=>t1 U H Q\/t2 U H Q
theorem ZgR {X:Cx}{e:Expr}{t1 t2:TE}(h1:PE X e t1)(h2:PE X e t2):PE X e (tOr2 t1 t2):=fun BF s U H Q I h=>h.elim (h1 BF s U H Q I) (h2 BF s U H Q I)
section
variable {X:Cx}
end
end L2
namespace L2
open PySem PySem.Spec PyProof.Rows
section
variable {prog:AG}{w:AI}{A:AH}{E:Q33}{s:AE}
end
section
variable {X:Cx}
def ZoB (H:Hp)(ys:List V)(xs:List (Key×V)):Prop:=ys.length=xs.length/\∀(i:Nat) (y:V),ys[i]?=some y->∃(x:Key×V) (b:AD),xs[i]?=some x/\y=.ref b/\H b=some (.tup [kV x.1,x.2])
end
end L2
namespace L2
open PySem PySem.Spec PyProof.Rows PySem.W
def Zoe (o:Obj):Bool:=match o.cls,o.data with
 | .none,.fields _=>true
 | _,_=>false
def ZjX (K:Frag):Bool:=K.all fun p=>!Zoe p.2
theorem Zfm {K:Frag}(h:ZjX K=true){b:AD}{o:Obj}(e:K.lookup b=some o):Zoe o=false:=by
 unfold ZjX at h;rw[YBO]at h;have:∀(l:AA),l.lookup b=some o->(b,o)∈l:=fun l=>by
  induction l with
  | nil=>intro e;cases e
  | cons q r ih=>
   intro e;obtain⟨b',o'⟩:=q;rw[YBz]at e;by_cases z:b=b'
   .subst z;simp at e;subst e;exact YAY
   .have z':(b == b')=false:=by simpa using z
    rw[z']at e;exact YAP _ (ih e)
 have:=h _ (this K e);simpa using this
structure TabOf (mg:AB)(h:Heap)(n:Str)(c P:AD):Prop where
 fn:∃a o fd,mg n=some (.ref a)/\h.get? a=some o/\o.data=.func fd/\fd.code=.ref c
 code:h.IsCode c P #[]
 tab:h.TableAt c P #[]
theorem TabOf.codeEq {mg:AB}{h:Heap}{n:Str}{c P a:AD}{o:Obj}{fd:AF}(t:TabOf mg h n c P)(e1:mg n=some (.ref a))(e2:h.get? a=some o)(e3:o.data=.func fd):fd.code=.ref c:=by obtain⟨a',o',fd',f1,f2,f3,f4⟩:=t.fn;rw[e1]at f1;cases f1;rw[e2]at f2;cases f2;rw[e3]at f3;cases f3;exact f4
theorem ZiK {P:AG}{w:AI}{K:Q4}{mg mb:AB}{CX:CXT}{k:Nat}{fa a:AD}{fd:AF}{x:Str}{sp:Sp}{s_1:AE}{vs:AC}{ns:List Int}{nms:AJ}{tb:Str->AD×AD}
  (KX:K.In s_1.heap) (hns:s_1.heap.Ns mainGlobals mg) (hb:s_1.heap.Ns builtinsNs mb) (hbb:∀x:Str,x≠"__name__"->mb x=bootBuiltins x) (hlim:s_1.heap.NoLimit) (hg:s_1.gens=#[])
  (ha:s_1.heap.get? a=some { cls:=.type "list",data:=.seq vs.toArray }) (hi:IntsAre vs ns) (hl:ns.length<=sizeLine) (hr:Room k callerA)
  (hT:∀n∈nms,TabOf mg s_1.heap n (tb n).1 (tb n).2) (hKt:ZjX K=true) (hbm:∃bm ob,mg "__builtins__"=some (.ref bm)/\bm≠builtinsNs/\s_1.heap.get? bm=some ob/\ob.cls=.type "module"/\ob.dict=some builtinsNs/\ob.data=.plain)
  (F:∀base:Heap,K.In base->base.Ns mainGlobals mg->(∀n∈nms,LamEnv base mg (tb n).1 (tb n).2)->FnOk P w K mg base CX k fa fd [x] sp) (hbind:∀(s:AE) (u:Value),BindsTo s fd ⟨[u],[]⟩ [(x,u)])
  (hsp:∀H:Hp,(∀n∈nms,H (tb n).2=some (.tbl #[]))->SqL K H a (ns.map V.int)->sp [.ref a] H (fun v _=>v=.bl true) fun _ _ _=>False)
  (hCX:∀H e s',CX [] H s_1 (fun _ _ _=>False) e s'->False):
  codeAny (model P w) callerA (.call (.ref fa) ⟨[.ref a],[]⟩) (fun r s'=>r=.ok (.ret (.bool true))/\OldK s_1.heap s'.heap/\s'.os=s_1.os/\AllBare s'.gens) s_1:=by
 have rv:=Zdd hi;have lenV:=hi.length;have hta:∀n∈nms,s_1.heap.get? (tb n).2=some (tabObj #[]):=fun n hn=>(hT n hn).tab.2;have aP:∀n∈nms,(tb n).2≠a:=fun n hn z=>by have e:=hta n hn;rw[z,ha]at e;have:=congrArg Obj.cls (Option.some.inj e);exact absurd (show Value.type "list"=Value.none from this) (by simp)
 let isP:AD->Prop:=fun b=>∃n∈nms,(tb n).2=b
 have core:∀H:Hp,SqL K H a (ns.map V.int)->HOk P w H s_1.heap->(∀b,H b≠none->(b=a/\∃o xs,H b=some (.frz o (.lst xs)))\/(isP b/\H b=some (.tbl #[])))->(∀b,isP b->H b=some (.tbl #[]))->(H a≠none->K.lookup a=none) ->
   codeAny (model P w) callerA (.call (.ref fa) ⟨[.ref a],[]⟩) (fun r s'=>r=.ok (.ret (.bool true))/\OldK s_1.heap s'.heap/\s'.os=s_1.os/\AllBare s'.gens) s_1:=by
  intro H hS hok hA hPt hK;have base_of:∀ {b:AD} {o:Obj},s_1.heap.get? b=some o->H b=none->(hidT s_1.heap H).get? b=some o:=fun e n=>Zg4 e n;have noT:∀ {b:AD} {o:Obj},s_1.heap.get? b=some o->o≠tabObj #[]->o.cls≠.type "list"->H b=none:=fun {b o} e n1 n2=>by
   cases q:H b with
   | none=>rfl
   | some u=>
    rcases hA b (by rw[q];simp) with⟨e',_⟩|⟨⟨n,hn,e'⟩,_⟩
    .subst e';rw[ha]at e;cases e;exact absurd rfl n2
    .subst e';rw[hta n hn]at e;cases e;exact absurd rfl n1
  have noA:∀ {b:AD} {o:Obj} {es:Array DictEntry} {ep:Nat},s_1.heap.get? b=some o->o.data=.dict es ep->H b=none:=fun {b o es ep} e d=>by
   cases q:H b with
   | none=>rfl
   | some u=>
    rcases hA b (by rw[q];simp) with⟨e',_⟩|⟨⟨n,hn,e'⟩,_⟩
    .subst e';rw[ha]at e;cases e;have d':Data.seq vs.toArray _=Data.dict es ep:=d;cases d'
    .subst e';rw[hta n hn]at e;cases e;cases d
  have nsK:∀ {b:AD} {m:AB},s_1.heap.Ns b m->(hidT s_1.heap H).Ns b m:=fun {b m} ⟨o,es,ep,e,d,r⟩=>⟨o,es,ep,base_of e (noA e d),d,r⟩;have hKb:K.In (hidT s_1.heap H):=fun b o e=>base_of (KX b o e) (by
   cases q:H b with
   | none=>rfl
   | some u=>
    rcases hA b (by rw[q];simp) with⟨e',_⟩|⟨⟨n,hn,e'⟩,_⟩
    .subst e';rw[hK (by rw[q];simp)]at e;cases e
    .subst e';have e1:=KX _ _ e;rw[hta n hn]at e1;have e2:=Zfm hKt e;rw[<-Option.some.inj e1]at e2;cases e2)
  have hM:Mod K mg (hidT s_1.heap H):=⟨hKb,nsK hns,⟨mb,nsK hb,hbb⟩,let ⟨mc,h1,h2⟩:=hlim;⟨mc,nsK h1,h2⟩⟩;have e0:Env0 P w K mg (hidT s_1.heap H) callerA [] s_1 H:=⟨rfl,hM,fun b o e=>ZiA e,YCU (Zfz _ _),trivial,fun b hb=>absurd (show b∈([]:List AD) from hb) (by simp),hok,.of_eq hg⟩;have hL:∀n∈nms,LamEnv (hidT s_1.heap H) mg (tb n).1 (tb n).2:=fun n hn=>by
   obtain⟨bm,ob,b1,b2,b3,b4,b5,b6⟩:=hbm;obtain⟨oc,vc,file,tf,flags,tg,inF,text,tt,c1,c2,c3,r⟩:=CodeHd.of (hT n hn).code (hT n hn).tab;refine⟨⟨oc,vc,file,tf,flags,tg,inF,text,tt,base_of c1 (noT c1 (fun z=>by rw[z]at c2;cases c2) (fun z=>by rw[c2]at z;exact absurd z (by decide))),c2,c3,r⟩,bm,ob,b1,b2,fun z=>?_,fun z=>?_,base_of b3 (noT b3 (fun z=>by rw[z]at b4;cases b4) (fun z=>by rw[b4]at z;exact absurd z (by decide))),b4,b5,b6⟩
   .obtain⟨o,es,ep,e,d,_⟩:=hns;rw[<-z,b3]at e;cases e;rw[b6]at d;cases d
   .rw[z,hta n hn]at b3;cases b3;cases b4
  refine codeAny_mono ((F _ hKb (nsK hns) hL).run callerA [] s_1 H ⟨[.ref a],[]⟩ [.ref a] [.ref a] _ _ hr e0 (hbind s_1 (.ref a)) (.cons rfl .nil) (hsp H (fun n hn=>hPt _ ⟨n,hn,rfl⟩) hS)) fun r s' h=>?_;cases r with
  | error e=>exact(hCX H e s' h).elim
  | ok fl=>
   cases fl with
   | next=>exact False.elim h
   | brk=>exact False.elim h
   | cont=>exact False.elim h
   | ret u=>
    obtain⟨v,H',os,bare,un,hok',r',q⟩:=h;have q':v=.bl true:=q;subst q';obtain rfl:u=Value.bool true:=r';refine⟨rfl,⟨fun b o e=>?_,fun b o e=>un.there b o e (by simp)⟩,os,bare⟩;cases q:H b with
    | none=>exact .inl (un.keep b o e q (by intro z;exact absurd (show b∈([]:List AD) from z) (by simp)) (by simp))
    | some u=>
     rcases hA b (by rw[q];simp) with⟨_,ob,xs,z⟩|⟨⟨n,hn,e'⟩,z⟩
     .have z2:=un.frzs b ob _ z;obtain⟨e1,_⟩:=hok b _ z;obtain⟨e2,_⟩:=hok' b _ z2;rw[e]at e1;cases e1;exact .inl e2
     .obtain⟨more,z2⟩:=un.tbls b _ z;have e1:s_1.heap.get? b=some (tabObj #[]):=hok b _ z;have e2:s'.heap.get? b=some (tabObj (#[]++more)):=hok' b _ z2;rw[e]at e1;cases e1;exact .inr (.inl ⟨by rw[<-e'];exact(hT n hn).tab.isCodeTable,rfl,#[],more,rfl,e2⟩)
 cases hk:K.lookup a with
 | some o=>
  have e:=KX a o hk;rw[ha]at e;cases e
  haveI:DecidablePred isP:=fun _=>Classical.propDecidable _
  refine core (fun b=>if isP b then some (.tbl #[]) else none) (.inr ⟨_,vs.toArray,_,hk,rfl,rfl,rfl,by rw[YAJ,lenV];exact hl,by simpa using rv⟩) (fun b u z=>?_) (fun b z=>?_) (fun b hb=>YAM hb) fun z=>?_
  .by_cases hb:isP b
   .have z':=(YAM hb).symm.trans z;cases z';obtain⟨n,hn,rfl⟩:=hb;exact hta n hn
   .have z':=(YAI hb).symm.trans z;cases z'
  .by_cases hb:isP b
   .exact .inr ⟨hb,YAM hb⟩
   .exact absurd (YAI hb) z
  .have:¬isP a:=fun ⟨n,hn,e⟩=>aP n hn e;exact absurd (YAI this) z
 | none=>
  haveI:DecidablePred isP:=fun _=>Classical.propDecidable _
  refine core (fun b=>if b=a then some (.frz { cls:=.type "list",data:=.seq vs.toArray } (.lst (ns.map V.int))) else if isP b then some (.tbl #[]) else none) (.inl (.inr ⟨{ cls:=.type "list",data:=.seq vs.toArray },YAM rfl⟩)) (fun b u z=>?_) (fun b z=>?_) (fun b hb=>?_) fun _=>hk
  .by_cases hb:b=a
   .have z':=(YAM hb).symm.trans z;cases z';subst hb;exact⟨ha,by rw[YAB];exact hl,vs,_,rv,ha⟩
   .have z':=(YAI hb).symm.trans z;by_cases hp:isP b
    .have z2:=(YAM hp).symm.trans z';cases z2;obtain⟨n,hn,rfl⟩:=hp;exact hta n hn
    .have z2:=(YAI hp).symm.trans z';cases z2
  .by_cases hb:b=a
   .exact .inl ⟨hb,_,_,YAM hb⟩
   .by_cases hp:isP b
    .exact .inr ⟨hp,by rw[YAI hb,YAM hp]⟩
    .exact absurd (by rw[YAI hb,YAI hp]) z
  .have nb:b≠a:=by obtain⟨n,hn,rfl⟩:=hb;exact aP n hn
   rw[YAI nb,YAM hb]
theorem walk_ofT {l:PySem.W.OpenLaw}{n k:Nat}{q:AG}{loose:AJ}{XP:(AB)->Heap->Prop}{YP:AI->Heap->Prop}{d:DefRec}{K:Params->Q4}{CX:CXT}{sp:Q4->(Str->AD×AD)->Sp}{x:Str}(nms:AJ)
  (hn:l.most=some n) (hn2:n<=sizeLine) (hdf:d.params.defaults=[]) (hr:Room k callerA)
  (hY:∀(w:AI) (h:Heap),YP w h->(K w.params).In h) (hKt:∀P:Params,ZjX (K P)=true) (hnm:(nms.all fun n=>(recsOf q).any fun e=>e.name == n)=true)
  (F:∀(w:AI) (mg:AB) (fa:AD) (h:Heap) (tb:Str->AD×AD),(K w.params).In h->h.Ns mainGlobals mg->mg d.name=some (.ref fa)->(∀n∈nms,TabOf mg h n (tb n).1 (tb n).2) ->
   ∃fd:AF,(∀(s:AE) (u:Value),BindsTo s fd ⟨[u],[]⟩ [(x,u)]) /\
    ∀base:Heap,(K w.params).In base->base.Ns mainGlobals mg->(∀n∈nms,LamEnv base mg (tb n).1 (tb n).2)->FnOk l.prog w (K w.params) mg base CX k fa fd [x] (sp (K w.params) tb))
  (hsp:∀(K:Q4) (tb:Str->AD×AD) (H:Hp) (a:AD) (ns:List Int),ns.length<=n->(∀n∈nms,H (tb n).2=some (.tbl #[]))->SqL K H a (ns.map V.int)->sp K tb [.ref a] H (fun v _=>v=.bl true) fun _ _ _=>False)
  (hCX:∀(H:Hp) (s:AE) (e:Value) (s':AE),CX [] H s (fun _ _ _=>False) e s'->False):
  PySem.W.WalkO q loose XP YP l.row.toRowW d [] (fun f vs=>PySem.call f vs):=by
 refine Att.attach_call hn hdf fun w s_0 s_1 mg mb fa o pm cd doc a vs ns G Y ho hd hcd hmg hobj hints BH hg=>?_;have KX:=hY w _ Y;have ex:∀n:Str,∃cp:AD×AD,n∈nms->TabOf mg s_1.heap n cp.1 cp.2:=fun n=>by
  by_cases h:n∈nms
  .rw[YBO]at hnm;have:=hnm n h;rw[YCC]at this;obtain⟨e,he,en⟩:=this;have en:e.name=n:=by simpa using en
   obtain⟨a',o',fd',c,P,h1,h2,h3,h4,h5,h6⟩:=G.T.tab e he;exact⟨(c,P),fun _=>⟨⟨a',o',fd',by rw[<-en];exact h1,h2,h3,h4⟩,h5,h6⟩⟩
  .exact⟨(0,0),fun z=>absurd z h⟩
 obtain⟨tb,htb⟩:=Classical.skolem.mp ex;obtain⟨fd,hb,hF⟩:=F w mg fa _ tb KX G.T.g hmg htb;exact ZiK KX G.T.g G.T.b G.T.builtins G.T.nolimit hg hobj hints (YAK BH hn2) hr htb (hKt _) G.T.bmain hF hb (fun H hP hS=>hsp (K w.params) tb H a ns BH hP hS) fun H e s'=>hCX H s_1 e s'
section
variable {P:AG}{w:AI}{K:Q4}{mg:AB}{base:Heap}
theorem Fun.okC {x qual:Str}{st:Stmt}{f:AD}{fd:AF}{N ps:AJ}{k:Nat}{sp:Sp}{c:Value}(F:Fun K x qual st f fd)(hc:fd.code=c)(S:FnScope N ps (Zah st))(len:∀vs H Q E,sp vs H Q E->vs.length=ps.length)
  (body:∀(A:AH) (outer:List Env) (s:AE) (H:Hp) (vs:List V) (Q:VK) (E:XK),Room k (A.deeper (envOfC qual (Zah st) s.heap.objs.size f c))->sp vs H Q E ->
   ∃t,PSs (cxOf CX0 P w K mg base N qual (Zah st) f c A outer s H E).nox (ZbB st) t/\t { nx:=fun _ H'=>Q .non H',rt:=Q } (start N vs) H):FnOk P w K mg base CX0 (k+1) f fd ps sp:=by
 obtain⟨⟨oc,od,kV,doc,pm,an,BG,ct,osl,rfl,l,cc⟩,_⟩:=F;obtain rfl:BG=c:=hc;refine Zl7 l cc S len fun A outer s H vs Q E hr hsp=>?_;obtain⟨t,h,q⟩:=body A outer s H vs Q E hr hsp;exact⟨t,h.nox,q⟩
theorem Fun.at {x qual:Str}{st:Stmt}{f:AD}{fd:AF}{h:Heap}(F:Fun K x qual st f fd)(KX:K.In h):∃o,h.get? f=some o/\o.data=.func fd:=by obtain⟨⟨oc,od,kV,doc,pm,an,BG,ct,osl,rfl,l,cc⟩,_⟩:=F;exact⟨_,KX _ _ l,rfl⟩
end
end L2
namespace L2
open PySem PySem.Spec PyProof.Rows
section
variable {X:Cx}{tg:Expr}
end
section
variable {X:Cx}{BF:AA}{U:St}{H:Hp}{s:AE}{a:AD}{kvs:List (Key×V)}{k:Key}{v:V}{u w:Value}{A:AH}{E:Q33}
end
end L2
namespace PySem
section
variable {prog:AG}{w:AI}{K:Type}[DecidableEq K]{knd:HeapKind prog w K}{A:AH}{E:Q33}{s:AE}
end
end PySem
namespace L2
open PySem PySem.Spec PyProof.Rows
section
variable {X:Cx}{BF:AA}{U:St}{H:Hp}{s:AE}{a b:AD}{kvs:List (List Key×V)}{k:List Key}{v:V}{w:Value}{A:AH}{E:Q33}
end
end L2
namespace L2
open PySem PySem.Spec PyProof.Rows PySem.W
section
variable {prog:AG}{w:AI}{A:AH}{E:Q33}{s:AE}
end
section
variable {X:Cx}{e:Expr}{ta:TA}{p pos kpos lpos p1 p2 p3 p4 p5:Pos}{k kk:Nat}{c P:AD}{params:Arguments}{scope:Scope}{x q:Str}
end
section
variable {X:Cx}{o:Expr}{td:TE}{p pos ap cp:Pos}
end
end L2
namespace L2
open PySem PySem.Spec PyProof.Rows
section
variable {X:Cx}{es:List Expr}{x1:Nat}{tp:Pos}
end
end L2
namespace L2
open PySem PySem.Spec PyProof.Rows PySem.W
noncomputable def Itv (o:Obj)(kvs:List (Key×V))(a:AD):It:=
 ⟨fun i H=>H a=some (.frz o (.dK kvs))/\i<kvs.length,fun i H x H'=>H'=H/\∃p,kvs[i]?=some p/\x=p.2,fun i H=>H a=some (.frz o (.dK kvs))/\kvs.length<=i⟩
section
variable {X:Cx}{tg:Expr}{o:Expr}{td:TE}{ap cp:Pos}
variable {els:List Expr}{x1:Nat}{tp:Pos}
end
section
variable {g:TG}{tb:TS}{D:Ends}{U:St}{H:Hp}{o:Obj}{kvs:List (Key×V)}{a:AD}
end
section
variable {Q:VK}{τ0:St}{H:Hp}{o:Obj}{kvs:List (Key×V)}{a:AD}{te:TE}
end
end L2
namespace PySem
noncomputable def RawD (h:Heap) (d:AD) (es:Array DictEntry) (ep:Nat):Prop:=∃o,h.get? d=some o/\o.ExactDict/\o.data=.dict es ep
section
variable {prog:AG}{w:AI}{A:AH}{E:Q33}{s:AE}{d v it i ep:Nat}{es:Array DictEntry}
theorem RawD.at {h h':Heap}(x:RawD h d es ep)(e:∀o,h.get? d=some o->h'.get? d=some o):RawD h' d es ep:=let ⟨o,ho,r⟩:=x;⟨o,e _ ho,r⟩
end
end PySem
namespace L2
open PySem PySem.Spec PyProof.Rows PySem.W
theorem KT.at {H:Hp}{kvs:List (List Key×V)}{xs:List (List Key×AD×Value)}(r:KT H kvs xs):∀(i:Nat) (x:List Key×V) (u:List Key×AD×Value),kvs[i]?=some x->xs[i]?=some u->RelV x.2 u.2.2:=by
 induction r with
 | nil=>intro i x u h;simp at h
 | cons hd _ ih=>
  intro i x u h1 h2;cases i with
  | zero=>
   have e1:=Option.some.inj h1;have e2:=Option.some.inj h2;rw[<-e1,<-e2];exact hd.2.2
  | succ i=>exact ih i x u (by simpa using h1) (by simpa using h2)
section
variable {X:Cx}{o:Expr}{td:TE}{p pos ap cp:Pos}
end
end L2
namespace L2
open PySem PySem.Spec PyProof.Rows
section
variable {tt:TT}{te:TE}{Q:VK}{τ0:St}{H:Hp}{o:Obj}{kvs:List (Key×V)}{a:AD}
end
section
variable {te:TE}{Q:VK}{τ0:St}{H:Hp}
end
end L2
namespace L2
open PySem PySem.W
def DG (K:Frag)(x:Str)(s:Stmt)(f:AD)(e:AF):Prop:=nsIn K mainGlobals x=some (some (.ref f))/\Fun K x x s f e
def MG (K:Frag)(x q:Str)(s:Stmt)(f:AD)(e:AF):Prop:=Fun K x q s f e/\PySem.W.isFn K (.ref f)=true
structure XG (K:Frag)(x:Str)(C:AD)(L:AC):Prop where
 a:nsIn K mainGlobals x=some (some (.ref C))
 m:Xm K C
 i:Xi K C
 k:ClsOk K C L
theorem xg_mk {K:Frag} {x:Str} {C:AD} {L:AC} {cd:ClassData} {nm qn:Str} {N:AD} {bs bm:AC} {BM:Bool} {sn:AJ} {sub:AC} {ab:Bool} {col:Option Bool} {dd:Option AD} {k0 k1 k2 k3 k5:Option Value} (a:nsIn K mainGlobals x=some (some (.ref C))) (q:clsIn K C=some cd) (r:cd.mro=L) (ty:typeIn K (.ref C)=some (.type "type"))
  (ga:findIn K (.ref C) "__getattribute__"=some (some (.builtin "BaseException.__getattribute__"))) (gr:findIn K (.ref C) "__getattr__"=some none) (sa:findIn K (.ref C) "__setattr__"=some (some (.builtin "object.__setattr__"))) (hd:PySem.W.hasDictIn K C=true)
  (ob:K.lookup C=some (excClassObj nm qn C N bs bm BM sn sub ab col dd k0 k1 k2 k3 k5 "ValueError.__new__")) (kp:PySem.W.keepIn K (.ref C)=true) (ha:findIn K (.ref C) "__class__"=some (some (.builtin "object.__class__")))
  (hn:specialIn K (.builtin "object.__class__") "__get__"=some (some (.builtin "getset_descriptor.__get__"))) (tk:PySem.W.takesIn K (.builtin "object.__class__")=some true) (x1:xmro L=true) (x2:L.isEmpty=false):XG K x C L:=
 have c:Xc K C:=⟨ga,gr,sa,hd,by rw[q];show xmro cd.mro=true;rw[r];exact x1⟩
 ⟨a,⟨c,⟨_,_,_,_,_,_,_,_,_,_,_,_,_,_,_,_,ob⟩,kp⟩,⟨c,ha,hn,tk⟩,⟨⟨_,q,r⟩,ty,x2⟩⟩
theorem dg_mk {K:Frag}{x:Str}{st:Stmt}{f:AD}{oc:Value}{od an:Option AD}{osl:Array (Option Value)}{kV doc pm BG ct:Value}(a:nsIn K mainGlobals x=some (some (.ref f)))(l:K.lookup f=some ⟨oc,od,.func (PySem.W.fnOf x x (Zb3 st) (ZbB st) (Zah st) .none kV doc pm an BG ct),osl⟩)
  (c:PySem.W.codeIn K BG x=true) (k:PySem.W.keepIn K (.ref f)=true):DG K x st f (PySem.W.fnOf x x (Zb3 st) (ZbB st) (Zah st) .none kV doc pm an BG ct):=⟨a,ZkT l c k⟩
theorem mg_mk {K:Frag}{x q:Str}{st:Stmt}{f:AD}{oc:Value}{od an:Option AD}{osl:Array (Option Value)}{kV doc pm BG ct:Value}(l:K.lookup f=some ⟨oc,od,.func (PySem.W.fnOf x q (Zb3 st) (ZbB st) (Zah st) .none kV doc pm an BG ct),osl⟩)
  (c:PySem.W.codeIn K BG q=true) (k:PySem.W.keepIn K (.ref f)=true) (n:PySem.W.isFn K (.ref f)=true):MG K x q st f (PySem.W.fnOf x q (Zb3 st) (ZbB st) (Zah st) .none kV doc pm an BG ct):=⟨ZkT l c k,n⟩
end L2
namespace L2
open PySem PySem.Spec PyProof.Rows
structure PAz (X:Cx)(es:List Expr)(t:TA):Prop where
 h:PA X es t
section
variable {prog:AG}{w:AI}{A:AH}{E:Q33}{s:AE}
end
section
variable {prog:AG}{w:AI}{A:AH}{E:Q33}{s:AE}
end
section
variable {X:Cx}
end
end L2
namespace L2
open PySem PySem.Spec PyProof.Rows PySem.W
section
variable {te:TE}{Q:VK}{τ0:St}{H:Hp}{K:Frag}{a:AD}{xs:List V}
end
end L2
namespace L2
open PySem PySem.Spec PyProof.Rows
open PySem.W (Frag)
section
variable {X:Cx}{es:List Expr}{x1:Nat}{tp:Pos}
end
def Zcf (t:TS):TS:=t
theorem Zaf {X:Cx}{st:List Stmt}{t:TS}(h:PSs X st t):PSs X st (Zcf t):=h
theorem Zaj {t:TS}{D:Ends}{U:St}{H:Hp}(h:t D U H):Zcf t D U H:=h
section
variable {X:Cx}
end
def Chg (S:List AD)(H H':Hp):Prop:=∀b o,H b=some o->b∉S->Zc6 o=false->H' b=some o
theorem SameL.chg {S:List AD}{H H':Hp}(s:SameL H H'):Chg S H H':=fun b o e _ t=>s b o e t
theorem Same.chg {S:List AD}{H H':Hp}(s:Same H H'):Chg S H H':=fun b o e _ _=>s b o e
theorem Chg.trans {S:List AD}{H H1 H2:Hp}(a:Chg S H H1)(b:Chg S H1 H2):Chg S H H2:=fun c o e n t=>b c o (a c o e n t) n t
theorem Chg.upd {S:List AD}{H:Hp}{a:AD}{o:HO}(h:a∈S):Chg S H (upd H a o):=fun b u e n _=>by rw[Zai (show b≠a from fun z=>n (by rw[z];exact h))];exact e
theorem Chg.mono {S S':List AD}{H H':Hp}(h:Chg S H H')(k:∀b∈S,b∈S'):Chg S' H H':=fun b o e n t=>h b o e (fun z=>n (k b z)) t
theorem Chg.l {H H':Hp}(h:Chg [] H H'):SameL H H':=fun b o e t=>h b o e (by simp) t
def Nw (H:Hp)(r:AD):Prop:=∀o,H r=some o->Zc6 o=true
theorem Nw.of {H:Hp}{r:AD}(h:H r=none):Nw H r:=fun o e=>by rw[h]at e;cases e
theorem Nw.ne {H:Hp}{r b:AD}{o:HO}(n:Nw H r)(h:H b=some o)(t:Zc6 o=false):b≠r:=fun z=>by rw[z]at h;rw[n o h]at t;cases t
theorem Nw.l {H H1:Hp}{r:AD}(n:Nw H1 r)(s:SameL H H1):Nw H r:=fun o e=>by
 cases t:Zc6 o with
 | true=>rfl
 | false=>rw[<-t];exact n o (s r o e t)
theorem Nw.same {H H1:Hp}{r:AD}(n:Nw H1 r)(s:Same H H1):Nw H r:=n.l s.l
theorem Nw.chg {S:List AD}{H H1:Hp}{r:AD}(n:Nw H1 r)(c:Chg S H H1)(hS:∀b∈S,∃o,H1 b=some o/\Zc6 o=false):Nw H r:=fun o e=>by
 by_cases z:r∈S
 .obtain⟨u,hu,tu⟩:=hS r z;exact absurd rfl (n.ne hu tu)
 .cases t:Zc6 o with
  | true=>rfl
  | false=>rw[<-t];exact n o (c r o e z t)
def Zkc:HO->Bool
 | .ext _=>true
 | _=>false
theorem TblOk.upd {H:Hp}{P a:AD}{pos:Pos}{q:Str}{o o':HO}(T:TblOk H P pos q)(h:H a=some o)(t:Zc6 o=false)(x:Zkc o=false):TblOk (L2.upd H a o') P pos q:=by
 obtain⟨ps,e,tr,hc⟩:=T;refine⟨ps,?_,tr,hc.imp id ?_⟩
 .rw[Zai (fun z=>by rw[z,h]at e;cases e;cases t)];exact e
 .rintro⟨c,e1,e2⟩;refine⟨c,e1,?_⟩;rw[Zai (fun z=>by rw[z,h]at e2;unfold ZeV at e2;cases e2;cases x)];exact e2
def RowA (H:Hp)(y:V)(r:Q11×List V):Prop:=∃a b,y=.ref a/\H a=some (.tup [tx r.1,.ref b])/\H b=some (.tup r.2)
def RowsA (H:Hp)(ys:List V)(rs:List (Q11×List V)):Prop:=ys.length=rs.length/\∀(i:Nat) (y:V),ys[i]?=some y->∃r,rs[i]?=some r/\RowA H y r
theorem RowsA.chg {S:List AD}{H H':Hp}{ys:List V}{rs:List (Q11×List V)}(h:RowsA H ys rs)(c:Chg S H H')(hS:∀b∈S,∀us,H b≠some (.tup us)):RowsA H' ys rs:=by refine⟨h.1,fun i y hy=>?_⟩;obtain⟨r,hr,a,b,e,h1,h2⟩:=h.2 i y hy;exact⟨r,hr,a,b,e,c _ _ h1 (fun z=>hS _ z _ h1) rfl,c _ _ h2 (fun z=>hS _ z _ h2) rfl⟩
theorem RowsA.l {H H':Hp}{ys:List V}{rs:List (Q11×List V)}(h:RowsA H ys rs)(s:SameL H H'):RowsA H' ys rs:=h.chg (S:=[]) s.chg (by simp)
theorem Zjd {K:Q4}{H:Hp}:∀ {ds:List DT} {vs:List V},vs.length=ds.length->(∀(i:Nat) (v:V),vs[i]?=some v->∃d,ds[i]?=some d/\DatOk K H d v)->DatsOk K H ds vs
 | [],[],_,_=>by unfold DatsOk;rfl
 | [],_::_,h,_=>by simp at h
 | _::_,[],h,_=>by simp at h
 | d::ds,v::vs,h,g=>by unfold DatsOk;obtain⟨d',e,hd⟩:=g 0 v rfl;cases e;exact⟨v,vs,rfl,hd,Zjd (by simpa using h) fun i u hu=>g (i+1) u hu⟩
theorem ZfK:∀ {ds:List DT},(∀d∈ds,deq d d=true)->deqs ds ds=true
 | [],_=>by unfold deqs;rfl
 | d::ds,h=>by unfold deqs;rw[h d YAY,ZfK fun e he=>h e (YAP _ he)];rfl
theorem Zi8 {n:Nat}:∀ {ds:List DT},(∀d∈ds,dep d<=n)->deps ds<=n
 | [],_=>by unfold deps;exact YAv _
 | d::ds,h=>by unfold deps;exact Nat.max_le.mpr ⟨h d YAY,Zi8 fun e he=>h e (YAP _ he)⟩
noncomputable def Zep (rs:Q11)(s L m:Q11):List (Q11×List V):=(opnL s L m).map fun w=>(w,[tx rs,tx (shOf s w),.int (fpl L (shOf s w):Nat)])
noncomputable def Zfc (rs:Q11)(s L m:Q11):List (Q11×List V):=(filL s L m).map fun w=>(w,[tx rs,.int (fpl L w:Nat)])
noncomputable def PUT:Q11:=[112,117,116]
noncomputable def DROP:Q11:=[100,114,111,112]
noncomputable def Zks (d:Bool×Nat):List V:=[tx (if d.1 then PUT else DROP),tx [d.2]]
def DeedsA (H:Hp)(ts:List V)(ds:List (Bool×Nat)):Prop:=ts.length=ds.length/\∀(i:Nat) (y:V),ts[i]?=some y->∃d,ds[i]?=some d/\∃t,y=.ref t/\H t=some (.tup (Zks d))
theorem DeedsA.chg {S:List AD}{H H':Hp}{ts:List V}{ds:List (Bool×Nat)}(h:DeedsA H ts ds)(c:Chg S H H')(hS:∀b∈S,∀us,H b≠some (.tup us)):DeedsA H' ts ds:=by refine⟨h.1,fun i y hy=>?_⟩;obtain⟨d,hd,t,e,ht⟩:=h.2 i y hy;exact⟨d,hd,t,e,c _ _ ht (fun z=>hS _ z _ ht) rfl⟩
theorem DeedsA.snoc {H:Hp}{ts:List V}{ds:List (Bool×Nat)}{t:AD}{d:Bool×Nat}(h:DeedsA H ts ds)(ht:H t=some (.tup (Zks d))):DeedsA H (ts++[.ref t]) (ds++[d]):=by
 refine⟨by rw[YAF,YAF,h.1];rfl,fun i y hy=>?_⟩;by_cases z:i<ts.length
 .rw[YAx z]at hy;obtain⟨d',hd,r⟩:=h.2 i y hy;exact⟨d',by rw[YAx (by rw[<-h.1];exact z)];exact hd,r⟩
 .rw[YAw (by omega)]at hy;have e:i-ts.length=0:=by
   rcases Nat.eq_zero_or_pos (i-ts.length) with q | q
   .exact q
   .rw[YBI (by simp;omega)]at hy;cases hy
  rw[e]at hy;cases hy;refine⟨d,?_,t,rfl,ht⟩;rw[YAw (by rw[<-h.1];omega),<-h.1,e];rfl
inductive Run (m:Q11):List (Bool×Nat)->Q11->Prop
 | nil:Run m [] []
 | put {ds:List (Bool×Nat)} {l:Q11} {c:Nat} (h:Run m ds l) (hc:c∈m) (hl:l.length<40):Run m (ds++[(true,c)]) (l++[c])
 | drop {ds:List (Bool×Nat)} {l:Q11} {c:Nat} (h:Run m ds (c::l)):Run m (ds++[(false,c)]) l
theorem Run.len {m:Q11}{ds:List (Bool×Nat)}{l:Q11}(h:Run m ds l):l.length<=40:=by
 induction h with
 | nil=>simp
 | put h hc hl ih=>simp;omega
 | drop h ih=>simp at ih;omega
theorem Run.mem {m:Q11}{ds:List (Bool×Nat)}{l:Q11}(h:Run m ds l):∀x∈l,x∈m:=by
 induction h with
 | nil=>intro x hx;cases hx
 | put h hc hl ih=>
  intro x hx;rcases YAW.mp hx with hx | hx
  .exact ih x hx
  .rw[YAL.mp hx];exact hc
 | drop h ih=>exact fun x hx=>ih x (YAP _ hx)
noncomputable def sF (l m:Q11)(la da:AD):List (Str×V):=[("own_text",tx l),("own_kinds",tx m),("own_lacking",.ref la),("own_deeds",.ref da)]
theorem f_tk:¬(("own_text":Str)="own_kinds"):=by decide +kernel
theorem f_tl:¬(("own_text":Str)="own_lacking"):=by decide +kernel
theorem f_td:¬(("own_text":Str)="own_deeds"):=by decide +kernel
theorem f_kl:¬(("own_kinds":Str)="own_lacking"):=by decide +kernel
theorem f_kd:¬(("own_kinds":Str)="own_deeds"):=by decide +kernel
theorem f_ld:¬(("own_lacking":Str)="own_deeds"):=by decide +kernel
theorem ZgL {f:Str}{v x:V}{r:List (Str×V)}:putF f v ((f,x)::r)=(f,v)::r:=by unfold putF;rw[YAM rfl]
theorem Zbm {f g:Str}{v x:V}{r:List (Str×V)}(h:¬g=f):putF f v ((g,x)::r)=(g,x)::putF f v r:=by
 conv=>lhs;unfold putF
 rw[YAI h]
theorem Zlt {l l' m:Q11}{la da:AD}:putF "own_text" (tx l') (sF l m la da)=sF l' m la da:=ZgL
theorem Zlu {l m:Q11}{la la' da:AD}:putF "own_lacking" (.ref la') (sF l m la da)=sF l m la' da:=by unfold sF;rw[Zbm f_tl,Zbm f_kl,ZgL]
theorem ZkG {l m:Q11}{la da:AD}:putF "own_deeds" (.ref da) (putF "own_lacking" (.ref la) (putF "own_kinds" (tx m) (putF "own_text" (tx l) [])))=sF l m la da:=by have e2:∀(f:Str) (v:V),putF f v []=[(f,v)]:=fun _ _=>rfl;rw[e2,Zbm f_tk,e2,Zbm f_tl,Zbm f_kl,e2,Zbm f_td,Zbm f_kd,Zbm f_ld,e2];rfl
theorem Zfa {l m:Q11}{la da:AD}:sF l m la da=putF "own_deeds" (.ref da) (putF "own_lacking" (.ref la) (putF "own_kinds" (tx m) (putF "own_text" (tx l) []))):=ZkG.symm
theorem Zbt {l m:Q11}{la da:AD}:(sF l m la da).lookup ("own_text":Str)=some (tx l):=by rw[Zfa,Zar,YAI f_td,Zar,YAI f_tl,Zar,YAI f_tk,Zar,YAM rfl]
theorem Zcr {l m:Q11}{la da:AD}:(sF l m la da).lookup ("own_kinds":Str)=some (tx m):=by rw[Zfa,Zar,YAI f_kd,Zar,YAI f_kl,Zar,YAM rfl]
theorem ZgE {l m:Q11}{la da:AD}:(sF l m la da).lookup ("own_lacking":Str)=some (.ref la):=by rw[Zfa,Zar,YAI f_ld,Zar,YAM rfl]
theorem Zfb {l m:Q11}{la da:AD}:(sF l m la da).lookup ("own_deeds":Str)=some (.ref da):=by rw[Zfa,Zar,YAM rfl]
theorem Zp5 {l m:Q11} {la da:AD} {x:Str} (h1:¬x="own_text") (h2:¬x="own_kinds") (h3:¬x="own_lacking") (h4:¬x="own_deeds"):(sF l m la da).lookup x=none:=by rw[Zfa,Zar,YAI h4,Zar,YAI h3,Zar,YAI h2,Zar,YAI h1];rfl
noncomputable def LETx:Q11:=[97,98,99,100,101,102,103,104,105,106,107,108,109,110,111,112,113,114,115,116,117,118,119,120,121,122]
noncomputable def iskx (l:Q11):Bool:=decide (1<=l.length)&&decide (l.length<=4)&&(l.all fun c=>LETx.contains c)&&decide (signs l=Za3 (ddl (signs l)))
def Zc3 (C:AD)(H:Hp)(p la da:AD)(l m:Q11):Prop:=∃dx,H p=some (.ins C dx (sF l m la da))
structure KindsOk (m:Q11):Prop where
 k:iskx m=true
 m1:1<=m.length
 m4:m.length<=4
 rise:m.Pairwise (· < ·)
structure StripAt (C:AD)(H:Hp)(p la da:AD)(l m:Q11)(ds:List (Bool×Nat)):Prop where
 fld:Zc3 C H p la da l m
 lack:H la=some (.lst ((Zan l m).map tx))
 deed:∃ts,H da=some (.lst ts)/\DeedsA H ts ds
 run:Run m ds l
 ok:KindsOk m
 ne:la≠da
theorem StripAt.chg {S:List AD}{C:AD}{H H':Hp}{p la da:AD}{l m:Q11}{ds:List (Bool×Nat)}(h:StripAt C H p la da l m ds)(c:Chg S H H')(hS:∀b∈S,∀us,H b≠some (.tup us))(n1:p∉S)(n2:la∉S)(n3:da∉S):StripAt C H' p la da l m ds:=by obtain⟨⟨dx,f⟩,k,⟨ts,d1,d2⟩,r,o,n⟩:=h;exact⟨⟨dx,c _ _ f n1 rfl⟩,c _ _ k n2 rfl,⟨ts,c _ _ d1 n3 rfl,d2.chg c hS⟩,r,o,n⟩
theorem StripAt.l {C:AD}{H H':Hp}{p la da:AD}{l m:Q11}{ds:List (Bool×Nat)}(h:StripAt C H p la da l m ds)(s:SameL H H'):StripAt C H' p la da l m ds:=h.chg (S:=[]) s.chg (by simp) (by simp) (by simp) (by simp)
theorem StripAt.upd {C:AD}{H:Hp}{p la da a:AD}{l m:Q11}{ds:List (Bool×Nat)}{xs:List V}{o:HO}(h:StripAt C H p la da l m ds)(e:H a=some (.lst xs))(n2:a≠la)(n3:a≠da):StripAt C (L2.upd H a o) p la da l m ds:=by obtain⟨dx,f⟩:=h.fld;exact h.chg (S:=[a]) (Chg.upd (by simp)) (fun b hb us z=>by rw[YAL.mp hb,e]at z;cases z) (fun z=>by rw[YAL.mp z,e]at f;cases f) (fun z=>n2 (YAL.mp z).symm) (fun z=>n3 (YAL.mp z).symm)
structure AnsS (H H2:Hp)(t c g la:AD)(rc rg:List (Q11×List V)):Prop where
 tup:H2 t=some (.tup [.ref c,.ref g])
 came:∃ys,H2 c=some (.lst ys)/\RowsA H2 ys rc
 went:∃zs,H2 g=some (.lst zs)/\RowsA H2 zs rg
 nc:Nw H c
 ng:Nw H g
 nl:Nw H la
 ncg:c≠g
 ncl:c≠la
 ngl:g≠la
open PySem.W (Frag)
section
variable {tt:TT}{te:TE}{Q:VK}{τ0:St}{H:Hp}{K:Frag}{a:AD}{xs:List V}
theorem CompRun.dataF (b:Nat->Bool)(D:Hp->V->Nat->Prop)(mono:∀H H' y i,(∀c us,H c=some (.tup us)->H' c=some (.tup us))->D H y i->D H' y i)(hz:xs.length<=100000)(hx:SqL K H a xs)
  (ht:∀i H' Q' (h:i<xs.length),Same H H'->(∀H'',Same H' H''->Q' (b i) H'')->tt (τ0.set 0 (some (xs.getD i .non))) H' Q')
  (he:∀i H' Q' (h:i<xs.length),b i=true->Same H H'->(∀y H'',Same H' H''->D H'' y i->Q' y H'')->te (τ0.set 0 (some (xs.getD i .non))) H' Q')
  (hQ:∀p ys H',Same H H'->H p=none->H' p=some (.lst ys)->ys.length=((List.range xs.length).filter b).length->(∀(k:Nat) (y:V),ys[k]?=some y->∃i,((List.range xs.length).filter b)[k]?=some i/\D H' y i)->Q (.ref p) H'):CompRun (Itl K a) τ0 (ZbW 0) tt te H Q:=by
 intro acc ha;refine⟨fun i m τ H2=>i<=xs.length/\m=xs.length-i/\(∀w:Option V,τ.set 0 w=τ0.set 0 w)/\Same H H2/\∃ys,H2 acc=some (.lst ys)/\ys.length=((List.range i).filter b).length/\∀(k:Nat) (y:V),ys[k]?=some y->∃j,((List.range i).filter b)[k]?=some j/\D H2 y j,
  ⟨xs.length,YAv _,rfl,fun _=>rfl,Zav ha,[],Zag,rfl,fun i y h=>by simp at h⟩,?_⟩
 rintro i m τ H2 ⟨hi,rfl,hτ,hs,ys,BI,BH,hall⟩;by_cases BP:i<xs.length
 .refine .inr ⟨⟨xs,xs[i],hs.seq hx,by simp[BP]⟩,fun τ' H'=>(∀w:Option V,τ'.set 0 w=τ0.set 0 w)/\Same H H'/\∃ys,H' acc=some (.lst ys)/\ys.length=((List.range (i+1)).filter b).length/\∀(k:Nat) (y:V),ys[k]?=some y->∃j,((List.range (i+1)).filter b)[k]?=some j/\D H' y j,fun τ' H' q=>⟨xs.length-(i+1),by omega,BP,rfl,q⟩,fun x H3 y=>?_⟩;obtain⟨rfl,y⟩:=y;have ex:x=xs.getD i .non:=by rw[YAR,y xs (hs.seq hx)];rfl
  subst ex;show tt (τ.set 0 (some (xs.getD i .non))) _ _;rw[hτ];have hτ':∀w:Option V,(τ0.set 0 (some (xs.getD i .non))).set 0 w=τ0.set 0 w:=fun w=>by rw[List.set_set]
  refine ht i _ _ BP hs fun H4 s4=>?_;cases hb:b i with
  | false=>
   rw[YAI YAC];have ef:(List.range (i+1)).filter b=(List.range i).filter b:=by rw[YBr,YBs];simp[hb]
   refine⟨hτ',hs.trans s4,ys,s4 _ _ BI,by rw[ef];exact BH,fun k y hy=>?_⟩;obtain⟨j,h1,h2⟩:=hall k y hy;exact⟨j,by rw[ef];exact h1,mono _ _ _ _ (fun c us e=>s4 _ _ e) h2⟩
  | true=>
   rw[YAM rfl];have ef:(List.range (i+1)).filter b=(List.range i).filter b++[i]:=by rw[YBr,YBs];simp[hb]
   have fl:=YAt b (List.range i);rw[YBF]at fl;refine he i _ _ BP hb (hs.trans s4) fun y H5 s5 hD=>⟨ys,s5 _ _ (s4 _ _ BI),by rw[BH,sizeLine_eq];omega,hτ',same_upd3' ha ((hs.trans s4).trans s5),ys++[y],Zag,by rw[ef,YAF,YAF,BH];rfl,fun k z hz'=>?_⟩;have ne:∀c us,H5 c=some (.tup us)->upd H5 acc (.lst (ys++[y])) c=some (.tup us):=fun c us h=>by rw[Zai (fun e=>by rw[e,s5 _ _ (s4 _ _ BI)]at h;cases h)];exact h
   rw[ef];by_cases hk:k<ys.length
   .rw[YAx hk]at hz';obtain⟨j,h1,h2⟩:=hall k z hz';exact⟨j,by rw[YAx (by rw[<-BH];exact hk)];exact h1,mono _ _ _ _ ne (mono _ _ _ _ (fun c us e=>s5 _ _ (s4 _ _ e)) h2)⟩
   .rw[YAw (by omega)]at hz';have hk':k-ys.length=0:=by
     rcases Nat.eq_zero_or_pos (k-ys.length) with h | h
     .exact h
     .rw[YBI (by simp;omega)]at hz';cases hz'
    rw[hk']at hz';cases hz';exact⟨i,by rw[YAw (by rw[<-BH];omega),<-BH,hk'];rfl,mono _ _ _ _ ne hD⟩
 .have e:i=xs.length:=by omega
  subst e;exact .inl ⟨⟨xs,hs.seq hx,YAS _⟩,hQ acc ys H2 hs ha BI BH hall⟩
end
end L2
namespace L2
open PySem PySem.Spec PyProof.Rows
section
variable {X:Cx}{tg:Expr}
end
section
variable {te:TE}{Q:VK}{τ0:St}{H:Hp}{K:Q4}{a:AD}{xs:List V}
end
section
variable {X:Cx}
end
section
variable {X:Cx}
theorem ZbU (hc:X.calm=true):Zcg X (.builtin "sorted") (fun xs H Q=>∃a ls,xs=[.ref a]/\H a=some (tset X.prog X.w a ls)/\ls.length<=sizeLine/\NewL ((Za3 ls).map tx) H Q):=by
 rintro BF s U H xs us Q I r ⟨a,ls,rfl,ha,h64,q⟩;obtain⟨u,rfl,ru⟩:=r.one;cases ru;have hS:TxSet X.prog X.w s.heap a ls (!ZaK X.w):=(I.hok a _ ha).1;refine Zf7 (I.ok.hd hc) hS h64 fun s' b us e nw k hg ho hb rv=>?_;have hl:(Za3 ls).length<=sizeLine:=by rw[(ZaG ls).length_eq];exact h64
 exact⟨.ref b,_,I.laid2 (o:=.lst ((Za3 ls).map tx)) ho hg k nw ⟨by rw[YAB];exact hl,us,e,rv,hb⟩,rfl,q b (I.hok.none_of nw)⟩
theorem ZhW (hc:X.calm=true):Zcg X (.type "list") (fun xs H Q=>∃a kvs,xs=[.ref a]/\Rd H a (.dK kvs)/\NewL (kvs.map fun p=>kV p.1) H Q):=by
 rintro BF s U H xs us Q I r ⟨a,kvs,rfl,ha,q⟩;obtain⟨u,rfl,ru⟩:=r.one;cases ru;obtain⟨z,y,vs,rr,o,es,ep,eo⟩:=ha.ok I.hok;have hm:s.heap.DictAt (Zaz X.prog X.w) a vs ep:=⟨o,es,eo⟩;have hl:vs.length<=sizeLine:=by rw[<-rr.length];exact z
 refine PySem.W.kdl_call (PySem.W.kdl_dict y) (I.ok.hd hc) hm hl fun h' tk acc' c' hk hS BI=>?_;have hv:Vals (kvs.map fun p=>kV p.1) acc'.toList:=by
  have e1:(kvs.map fun p=>kV p.1)=(vs.map fun p=>kV p.1):=by
   have e2:(kvs.map fun p=>kV p.1)=(kvs.map (·.1)).map kV:=by rw[YBS];rfl
   have e3:(vs.map fun p=>kV p.1)=(vs.map (·.1)).map kV:=by rw[YBS];rfl
   rw[e2,e3,rr.keys]
  rw[e1];refine Zdc (by rw[YAB];exact(Array.length_toList.trans BI.1).symm) fun i x u h1 h2=>?_;rw[YAl]at h2;obtain⟨k,v,e,hk⟩:=BI.2 i u h2;rw[YAc,e]at h1;cases h1;exact Zod hk
 exact⟨.ref s.heap.objs.size,_,I.laid (t':=tk) (o:=.lst (kvs.map fun p=>kV p.1)) hk (YAS _) ⟨by rw[YAB];exact z,acc'.toList,c',hv,by rw[YCq];exact hS⟩,rfl,q _ I.fresh⟩
end
end L2
set_option maxHeartbeats 400000000
namespace Pk82
open PySem L2
noncomputable def top (i:Nat):Stmt:=PySem.Challenge.pw_lackword_k82_whole_distances.main.body.getD i (.Pass ⟨0,0,0,0⟩)
noncomputable abbrev s_K2:Stmt:=top 10
noncomputable abbrev s_LG:Stmt:=top 11
noncomputable abbrev s_LV:Stmt:=top 13
noncomputable abbrev s_K0:Stmt:=top 14
noncomputable abbrev s_LX:Stmt:=top 15
noncomputable abbrev s_KS:Stmt:=top 17
noncomputable abbrev s_K8:Stmt:=top 18
noncomputable abbrev s_KZ:Stmt:=top 19
noncomputable abbrev s_K1:Stmt:=top 25
noncomputable abbrev s_K3:Stmt:=top 26
noncomputable abbrev s_K4:Stmt:=top 27
noncomputable abbrev s_KW:Stmt:=top 28
noncomputable abbrev s_KR:Stmt:=top 29
noncomputable abbrev s_KX:Stmt:=top 30
noncomputable abbrev s_KH:Stmt:=top 31
noncomputable abbrev s_LJ:Stmt:=top 33
noncomputable abbrev s_LL:Stmt:=top 37
noncomputable abbrev s_LK:Stmt:=top 39
noncomputable abbrev s_LA:Stmt:=top 40
noncomputable abbrev s_LF:Stmt:=top 41
noncomputable abbrev s_LN:Stmt:=top 44
noncomputable abbrev s_LT:Stmt:=top 45
noncomputable abbrev s_LR:Stmt:=top 46
noncomputable abbrev s_LC:Stmt:=top 47
noncomputable abbrev s_K5:Stmt:=top 48
noncomputable abbrev s_LQ:Stmt:=top 49
noncomputable abbrev s_K7:Stmt:=top 50
noncomputable abbrev s_LE:Stmt:=top 51
noncomputable abbrev s_LM:Stmt:=top 52
noncomputable abbrev s_LW:Stmt:=top 53
noncomputable abbrev s_LB:Stmt:=top 54
noncomputable abbrev s_LD:Stmt:=top 55
noncomputable abbrev s_LO:Stmt:=top 56
noncomputable abbrev s_LP:Stmt:=top 57
noncomputable abbrev s_LS:Stmt:=top 58
noncomputable abbrev s_K6:Stmt:=top 59
noncomputable abbrev s_KY:Stmt:=top 60
noncomputable abbrev Zls:Stmt:=top 61
noncomputable abbrev s_KT:Stmt:=inClass (top 34) 0
noncomputable abbrev s_KI:Stmt:=inClass (top 34) 1
noncomputable abbrev s_KA:Stmt:=inClass (top 34) 3
noncomputable abbrev s_KK:Stmt:=inClass (top 34) 4
noncomputable abbrev s_KJ:Stmt:=inClass (top 34) 7
noncomputable abbrev s_KE:Stmt:=inClass (top 34) 8
noncomputable abbrev s_KN:Stmt:=inClass (top 35) 0
noncomputable abbrev s_KQ:Stmt:=inClass (top 42) 0
noncomputable abbrev s_KD:Stmt:=inClass (top 42) 1
noncomputable abbrev s_KV:Stmt:=inClass (top 42) 3
noncomputable abbrev s_KO:Stmt:=inClass (top 42) 4
noncomputable abbrev s_KP:Stmt:=inClass (top 42) 6
noncomputable abbrev s_KG:Stmt:=inClass (top 42) 7
noncomputable abbrev s_KF:Stmt:=inClass (top 42) 8
set_option genInjectivity false
set_option genSizeOf false
structure Ad where
 (c_KU c_K9 c_LU c_LH c_LI g_KT g_KI g_KA g_KK g_KJ g_KE g_KN g_KQ g_KD g_KV g_KO g_KP g_KG g_KF f_K2 f_LG f_LV f_K0 f_LX f_KS f_K8 f_KZ f_K1 f_K3 f_K4 f_KW f_KR f_KX f_KH f_LJ f_LL f_LK f_LA f_LF f_LN f_LT f_LR f_LC f_K5 f_LQ f_K7 f_LE f_LM f_LW f_LB f_LD f_LO f_LP f_LS f_K6 f_KY f_law t_K2 k_K2 t_K7 k_K7 t_LP k_LP:AD)
 (e_KT e_KI e_KA e_KK e_KJ e_KE e_KN e_KQ e_KD e_KV e_KO e_KP e_KG e_KF d_K2 d_LG d_LV d_K0 d_LX d_KS d_K8 d_KZ d_K1 d_K3 d_K4 d_KW d_KR d_KX d_KH d_LJ d_LL d_LK d_LA d_LF d_LN d_LT d_LR d_LC d_K5 d_LQ d_K7 d_LE d_LM d_LW d_LB d_LD d_LO d_LP d_LS d_K6 d_KY d_law:AF)
structure Txt (K:Q4)(mg:AB)(a:Ad):Prop where
 m_K2:mg "in_order"=some (.ref a.f_K2)
 f_K2:Fun K "in_order" "in_order" s_K2 a.f_K2 a.d_K2
 b_K2:Binds K a.d_K2 ["words"] []
 m_LG:mg "pieces"=some (.ref a.f_LG)
 f_LG:Fun K "pieces" "pieces" s_LG a.f_LG a.d_LG
 b_LG:Binds K a.d_LG ["text","length"] []
 m_LV:mg "greatest_divisor"=some (.ref a.f_LV)
 f_LV:Fun K "greatest_divisor" "greatest_divisor" s_LV a.f_LV a.d_LV
 b_LV:Binds K a.d_LV ["one","other"] []
 m_K0:mg "fraction"=some (.ref a.f_K0)
 f_K0:Fun K "fraction" "fraction" s_K0 a.f_K0 a.d_K0
 b_K0:Binds K a.d_K0 ["top","bottom"] []
 m_LX:mg "plus"=some (.ref a.f_LX)
 f_LX:Fun K "plus" "plus" s_LX a.f_LX a.d_LX
 b_LX:Binds K a.d_LX ["one","other"] []
 m_KS:mg "need_same_kinds"=some (.ref a.f_KS)
 f_KS:Fun K "need_same_kinds" "need_same_kinds" s_KS a.f_KS a.d_KS
 b_KS:Binds K a.d_KS ["one","other"] []
 m_K8:mg "reasons"=some (.ref a.f_K8)
 f_K8:Fun K "reasons" "reasons" s_K8 a.f_K8 a.d_K8
 b_K8:Binds K a.d_K8 ["one","other"] []
 m_KZ:mg "distance"=some (.ref a.f_KZ)
 f_KZ:Fun K "distance" "distance" s_KZ a.f_KZ a.d_KZ
 b_KZ:Binds K a.d_KZ ["one","other"] []
 m_K1:mg "has_only"=some (.ref a.f_K1)
 f_K1:Fun K "has_only" "has_only" s_K1 a.f_K1 a.d_K1
 b_K1:Binds K a.d_K1 ["text","letters"] []
 m_K3:mg "is_kinds"=some (.ref a.f_K3)
 f_K3:Fun K "is_kinds" "is_kinds" s_K3 a.f_K3 a.d_K3
 b_K3:Binds K a.d_K3 ["thing"] []
 m_K4:mg "is_word"=some (.ref a.f_K4)
 f_K4:Fun K "is_word" "is_word" s_K4 a.f_K4 a.d_K4
 b_K4:Binds K a.d_K4 ["thing","kinds","most"] []
 m_KW:mg "is_letter"=some (.ref a.f_KW)
 f_KW:Fun K "is_letter" "is_letter" s_KW a.f_KW a.d_KW
 b_KW:Binds K a.d_KW ["thing","kinds"] []
 m_KR:mg "need_kinds"=some (.ref a.f_KR)
 f_KR:Fun K "need_kinds" "need_kinds" s_KR a.f_KR a.d_KR
 b_KR:Binds K a.d_KR ["thing"] []
 m_KX:mg "need_word"=some (.ref a.f_KX)
 f_KX:Fun K "need_word" "need_word" s_KX a.f_KX a.d_KX
 b_KX:Binds K a.d_KX ["thing","kinds","most"] []
 m_KH:mg "need_letter"=some (.ref a.f_KH)
 f_KH:Fun K "need_letter" "need_letter" s_KH a.f_KH a.d_KH
 b_KH:Binds K a.d_KH ["thing","kinds"] []
 m_LJ:mg "lacking_among"=some (.ref a.f_LJ)
 f_LJ:Fun K "lacking_among" "lacking_among" s_LJ a.f_LJ a.d_LJ
 b_LJ:Binds K a.d_LJ ["shorter","standing","kinds"] []
 m_LL:mg "lacks"=some (.ref a.f_LL)
 f_LL:Fun K "lacks" "lacks" s_LL a.f_LL a.d_LL
 b_LL:Binds K a.d_LL ["text","word"] []
 m_LK:mg "fresh_words"=some (.ref a.f_LK)
 f_LK:Fun K "fresh_words" "fresh_words" s_LK a.f_LK a.d_LK
 b_LK:Binds K a.d_LK ["lesser","longer"] []
 m_LA:mg "filled"=some (.ref a.f_LA)
 f_LA:Fun K "filled" "filled" s_LA a.f_LA a.d_LA
 b_LA:Binds K a.d_LA ["lesser","longer","reason"] []
 m_LF:mg "opened"=some (.ref a.f_LF)
 f_LF:Fun K "opened" "opened" s_LF a.f_LF a.d_LF
 b_LF:Binds K a.d_LF ["lesser","longer","kinds","reason"] []
 m_LN:mg "_law_cell"=some (.ref a.f_LN)
 f_LN:Fun K "_law_cell" "_law_cell" s_LN a.f_LN a.d_LN
 b_LN:Binds K a.d_LN ["_law_script","_law_k"] []
 m_LT:mg "_law_whole"=some (.ref a.f_LT)
 f_LT:Fun K "_law_whole" "_law_whole" s_LT a.f_LT a.d_LT
 b_LT:Binds K a.d_LT ["_law_thing"] []
 m_LR:mg "_law_mixed"=some (.ref a.f_LR)
 f_LR:Fun K "_law_mixed" "_law_mixed" s_LR a.f_LR a.d_LR
 b_LR:Binds K a.d_LR ["_law_cell_here","_law_k"] []
 m_LC:mg "_law_kinds"=some (.ref a.f_LC)
 f_LC:Fun K "_law_kinds" "_law_kinds" s_LC a.f_LC a.d_LC
 b_LC:Binds K a.d_LC ["_law_cell_here"] []
 m_K5:mg "_law_letters"=some (.ref a.f_K5)
 f_K5:Fun K "_law_letters" "_law_letters" s_K5 a.f_K5 a.d_K5
 b_K5:Binds K a.d_K5 ["_law_way","_law_cell_here","_law_kinds_here","_law_size"] []
 m_LQ:mg "_law_text"=some (.ref a.f_LQ)
 f_LQ:Fun K "_law_text" "_law_text" s_LQ a.f_LQ a.d_LQ
 b_LQ:Binds K a.d_LQ ["_law_script","_law_at","_law_kinds_here"] []
 m_K7:mg "_law_missing"=some (.ref a.f_K7)
 f_K7:Fun K "_law_missing" "_law_missing" s_K7 a.f_K7 a.d_K7
 b_K7:Binds K a.d_K7 ["_law_text_here","_law_kinds_here"] []
 m_LE:mg "_law_strip"=some (.ref a.f_LE)
 f_LE:Fun K "_law_strip" "_law_strip" s_LE a.f_LE a.d_LE
 b_LE:Binds K a.d_LE ["_law_text_here","_law_kinds_here","_law_cell_here"] []
 m_LM:mg "_law_band"=some (.ref a.f_LM)
 f_LM:Fun K "_law_band" "_law_band" s_LM a.f_LM a.d_LM
 b_LM:Binds K a.d_LM ["_law_text_here","_law_kinds_here","_law_cell_here"] []
 m_LW:mg "_law_sum"=some (.ref a.f_LW)
 f_LW:Fun K "_law_sum" "_law_sum" s_LW a.f_LW a.d_LW
 b_LW:Binds K a.d_LW ["_law_words"] []
 m_LB:mg "_law_apart"=some (.ref a.f_LB)
 f_LB:Fun K "_law_apart" "_law_apart" s_LB a.f_LB a.d_LB
 b_LB:Binds K a.d_LB ["_law_mine","_law_yours"] []
 m_LD:mg "_law_share"=some (.ref a.f_LD)
 f_LD:Fun K "_law_share" "_law_share" s_LD a.f_LD a.d_LD
 b_LD:Binds K a.d_LD ["_law_found","_law_due"] []
 m_LO:mg "_law_near"=some (.ref a.f_LO)
 f_LO:Fun K "_law_near" "_law_near" s_LO a.f_LO a.d_LO
 b_LO:Binds K a.d_LO ["_law_script","_law_at","_law_kinds_here","_law_text_here"] []
 m_LP:mg "_law_rows"=some (.ref a.f_LP)
 f_LP:Fun K "_law_rows" "_law_rows" s_LP a.f_LP a.d_LP
 b_LP:Binds K a.d_LP ["_law_mine","_law_yours"] []
 m_LS:mg "_law_right"=some (.ref a.f_LS)
 f_LS:Fun K "_law_right" "_law_right" s_LS a.f_LS a.d_LS
 b_LS:Binds K a.d_LS ["_law_one","_law_other","_law_mine","_law_yours","_law_alike"] []
 m_K6:mg "_law_unlike"=some (.ref a.f_K6)
 f_K6:Fun K "_law_unlike" "_law_unlike" s_K6 a.f_K6 a.d_K6
 b_K6:Binds K a.d_K6 ["_law_one","_law_other"] []
 m_KY:mg "_law_no_longer"=some (.ref a.f_KY)
 f_KY:Fun K "_law_no_longer" "_law_no_longer" s_KY a.f_KY a.d_KY
 b_KY:Binds K a.d_KY ["_law_near_here","_law_far","_law_way"] []
 m_law:mg "law"=some (.ref a.f_law)
 f_law:Fun K "law" "law" Zls a.f_law a.d_law
 b_law:Binds K a.d_law ["_law_script"] []
 m_KU:mg "LackError"=some (.ref a.c_KU)
 x_KU:Xm K a.c_KU
 xi_KU:Xi K a.c_KU
 k_KU:ClsOk K a.c_KU [.ref a.c_KU,.type "ValueError",.type "Exception",.type "BaseException",.type "object"]
 i_KU:PySem.W.findIn K (.ref a.c_KU) "__init__"=some (some (.builtin "ValueError.__init__"))
 r_KU:ClsRead K a.c_KU "__init__" (.builtin "ValueError.__init__")
 m_K9:mg "Unlike"=some (.ref a.c_K9)
 x_K9:Xm K a.c_K9
 xi_K9:Xi K a.c_K9
 k_K9:ClsOk K a.c_K9 [.ref a.c_K9,.ref a.c_KU,.type "ValueError",.type "Exception",.type "BaseException",.type "object"]
 i_K9:PySem.W.findIn K (.ref a.c_K9) "__init__"=some (some (.builtin "ValueError.__init__"))
 r_K9:ClsRead K a.c_K9 "__init__" (.builtin "ValueError.__init__")
 m_LU:mg "Band"=some (.ref a.c_LU)
 cr_LU:ClsRead K a.c_LU "__init__" (.ref a.g_KT)
 cl_LU:Cls K a.c_LU
 m_LH:mg "Plain"=some (.ref a.c_LH)
 cr_LH:ClsRead K a.c_LH "__init__" (.ref a.g_KN)
 cl_LH:Cls K a.c_LH
 mk_LH:Mk K a.c_LH a.g_KN
 me_Plain_kinds:Meth K a.c_LH "kinds" a.g_KI
 me_Plain_words:Meth K a.c_LH "words" a.g_KK
 me_Plain_laid_out:Meth K a.c_LH "laid_out" a.g_KA
 me_Plain_reach:Meth K a.c_LH "reach" a.g_KJ
 me_Plain_lacking:Meth K a.c_LH "lacking" a.g_KE
 n_Plain_own_text:NoAttr K a.c_LH "own_text"
 n_Plain_own_kinds:NoAttr K a.c_LH "own_kinds"
 n_Plain_own_lacking:NoAttr K a.c_LH "own_lacking"
 n_Plain_own_deeds:NoAttr K a.c_LH "own_deeds"
 ty_LH:∀ {H:Hp} {x dx:AD} {fs:List (Str×V)},H x=some (.ins a.c_LH dx fs)->TyOf K H (.ref x) (.ref a.c_LH)
 m_LI:mg "Strip"=some (.ref a.c_LI)
 cr_LI:ClsRead K a.c_LI "__init__" (.ref a.g_KQ)
 cl_LI:Cls K a.c_LI
 mk_LI:Mk K a.c_LI a.g_KQ
 me_Strip_kinds:Meth K a.c_LI "kinds" a.g_KI
 me_KD:Meth K a.c_LI "lacking" a.g_KD
 me_KV:Meth K a.c_LI "put" a.g_KV
 me_KO:Meth K a.c_LI "drop" a.g_KO
 me_KP:Meth K a.c_LI "grow" a.g_KP
 me_KG:Meth K a.c_LI "shrink" a.g_KG
 me_KF:Meth K a.c_LI "change" a.g_KF
 n_Strip_own_text:NoAttr K a.c_LI "own_text"
 n_Strip_own_kinds:NoAttr K a.c_LI "own_kinds"
 n_Strip_own_lacking:NoAttr K a.c_LI "own_lacking"
 n_Strip_own_deeds:NoAttr K a.c_LI "own_deeds"
 ty_LI:∀ {H:Hp} {x dx:AD} {fs:List (Str×V)},H x=some (.ins a.c_LI dx fs)->TyOf K H (.ref x) (.ref a.c_LI)
 fm_KT:Fun K "__init__" "Band.__init__" s_KT a.g_KT a.e_KT
 kp_KT:PySem.W.keepIn K (.ref a.g_KT)=true
 b_KT:Binds K a.e_KT ["self","text","kinds"] []
 fm_KI:Fun K "kinds" "Band.kinds" s_KI a.g_KI a.e_KI
 kp_KI:PySem.W.keepIn K (.ref a.g_KI)=true
 b_KI:Binds K a.e_KI ["self"] []
 fm_KA:Fun K "laid_out" "Band.laid_out" s_KA a.g_KA a.e_KA
 kp_KA:PySem.W.keepIn K (.ref a.g_KA)=true
 b_KA:Binds K a.e_KA ["self","length"] []
 fm_KK:Fun K "words" "Band.words" s_KK a.g_KK a.e_KK
 kp_KK:PySem.W.keepIn K (.ref a.g_KK)=true
 b_KK:Binds K a.e_KK ["self","length"] []
 fm_KJ:Fun K "reach" "Band.reach" s_KJ a.g_KJ a.e_KJ
 kp_KJ:PySem.W.keepIn K (.ref a.g_KJ)=true
 b_KJ:Binds K a.e_KJ ["self"] []
 fm_KE:Fun K "lacking" "Band.lacking" s_KE a.g_KE a.e_KE
 kp_KE:PySem.W.keepIn K (.ref a.g_KE)=true
 b_KE:Binds K a.e_KE ["self"] []
 fm_KN:Fun K "__init__" "Plain.__init__" s_KN a.g_KN a.e_KN
 kp_KN:PySem.W.keepIn K (.ref a.g_KN)=true
 b_KN:Binds K a.e_KN ["self","text","kinds"] []
 fm_KQ:Fun K "__init__" "Strip.__init__" s_KQ a.g_KQ a.e_KQ
 kp_KQ:PySem.W.keepIn K (.ref a.g_KQ)=true
 b_KQ:Binds K a.e_KQ ["self","kinds"] []
 fm_KD:Fun K "lacking" "Strip.lacking" s_KD a.g_KD a.e_KD
 kp_KD:PySem.W.keepIn K (.ref a.g_KD)=true
 b_KD:Binds K a.e_KD ["self"] []
 fm_KV:Fun K "put" "Strip.put" s_KV a.g_KV a.e_KV
 kp_KV:PySem.W.keepIn K (.ref a.g_KV)=true
 b_KV:Binds K a.e_KV ["self","letter"] []
 fm_KO:Fun K "drop" "Strip.drop" s_KO a.g_KO a.e_KO
 kp_KO:PySem.W.keepIn K (.ref a.g_KO)=true
 b_KO:Binds K a.e_KO ["self"] []
 fm_KP:Fun K "grow" "Strip.grow" s_KP a.g_KP a.e_KP
 kp_KP:PySem.W.keepIn K (.ref a.g_KP)=true
 b_KP:Binds K a.e_KP ["self","longer"] []
 fm_KG:Fun K "shrink" "Strip.shrink" s_KG a.g_KG a.e_KG
 kp_KG:PySem.W.keepIn K (.ref a.g_KG)=true
 b_KG:Binds K a.e_KG ["self","lesser"] []
 fm_KF:Fun K "change" "Strip.change" s_KF a.g_KF a.e_KF
 kp_KF:PySem.W.keepIn K (.ref a.g_KF)=true
 b_KF:Binds K a.e_KF ["self","text","came","went"] []
 nd:[a.c_KU,a.c_K9].Nodup
 z_len:mg "len"=none
 z_range:mg "range"=none
 z_isinstance:mg "isinstance"=none
 z_all:mg "all"=none
 z_min:mg "min"=none
 z_list:mg "list"=none
 z_tuple:mg "tuple"=none
 z_set:mg "set"=none
 z_sorted:mg "sorted"=none
 z_str:mg "str"=none
 z_int:mg "int"=none
 z_bool:mg "bool"=none
 z_ValueError:mg "ValueError"=none
 c_KC:∃t,mg "SMALL_LETTERS"=some (.str (Str.ofString "abcdefghijklmnopqrstuvwxyz") t)
 c_KM:∃t,mg "MOST_KINDS"=some (.int 4 t)
 c_KB:∃t,mg "MOST_IN_STRIP"=some (.int 40 t)
 c_KL:∃t,mg "MOST_ASKED"=some (.int 60 t)
 bl:∀(s:AE) (u:Value),BindsTo s a.d_law ⟨[u],[]⟩ [("_law_script",u)]
structure TL (K:Q4)(mg:AB)(base:Heap)(a:Ad)(tb:Str->AD×AD):Prop extends Txt K mg a where
 L_in_order:LamEnv base mg a.k_K2 a.t_K2
 cd_K2:a.d_K2.code=.ref a.k_K2
 e_K2:a.t_K2=(tb "in_order").2
 L_missing:LamEnv base mg a.k_K7 a.t_K7
 cd_K7:a.d_K7.code=.ref a.k_K7
 e_K7:a.t_K7=(tb "_law_missing").2
 L_lrows:LamEnv base mg a.k_LP a.t_LP
 cd_LP:a.d_LP.code=.ref a.k_LP
 e_LP:a.t_LP=(tb "_law_rows").2
theorem lenA {P:AC->Prop}(h:∀a,P [a]):∀us:AC,us.length=1->P us:=by
 intro us ee;cases us with
 | nil=>cases ee
 | cons a us=>
  cases us with
  | nil=>exact h a
  | cons _ _=>cases ee
local macro_rules | `(tactic| walk_at "b1") => `(tactic| (intro _ _ _ _ _ _; refine lenA ?_; intros; rfl))
theorem lenB {P:AC->Prop}(h:∀a b,P [a,b]):∀us:AC,us.length=2->P us:=by
 intro us ee;cases us with
 | nil=>cases ee
 | cons a us=>
  cases us with
  | nil=>cases ee
  | cons b us=>
   cases us with
   | nil=>exact h a b
   | cons _ _=>cases ee
local macro_rules | `(tactic| walk_at "b2") => `(tactic| (intro _ _ _ _ _ _; refine lenB ?_; intros; rfl))
theorem lenC {P:AC->Prop}(h:∀a b c,P [a,b,c]):∀us:AC,us.length=3->P us:=by
 intro us ee;cases us with
 | nil=>cases ee
 | cons a us=>
  cases us with
  | nil=>cases ee
  | cons b us=>
   cases us with
   | nil=>cases ee
   | cons c us=>
    cases us with
    | nil=>exact h a b c
    | cons _ _=>cases ee
local macro_rules | `(tactic| walk_at "b3") => `(tactic| (intro _ _ _ _ _ _; refine lenC ?_; intros; rfl))
theorem lenD {P:AC->Prop}(h:∀a b c d,P [a,b,c,d]):∀us:AC,us.length=4->P us:=by
 intro us ee;cases us with
 | nil=>cases ee
 | cons a us=>
  cases us with
  | nil=>cases ee
  | cons b us=>
   cases us with
   | nil=>cases ee
   | cons c us=>
    cases us with
    | nil=>cases ee
    | cons d us=>
     cases us with
     | nil=>exact h a b c d
     | cons _ _=>cases ee
local macro_rules | `(tactic| walk_at "b4") => `(tactic| (intro _ _ _ _ _ _; refine lenD ?_; intros; rfl))
theorem lenE {P:AC->Prop}(h:∀a b c d e,P [a,b,c,d,e]):∀us:AC,us.length=5->P us:=by
 intro us ee;cases us with
 | nil=>cases ee
 | cons a us=>
  cases us with
  | nil=>cases ee
  | cons b us=>
   cases us with
   | nil=>cases ee
   | cons c us=>
    cases us with
    | nil=>cases ee
    | cons d us=>
     cases us with
     | nil=>cases ee
     | cons e us=>
      cases us with
      | nil=>exact h a b c d e
      | cons _ _=>cases ee
local macro_rules | `(tactic| walk_at "b5") => `(tactic| (intro _ _ _ _ _ _; refine lenE ?_; intros; rfl))
theorem txt_mk {K:Q4}{h:Heap}{mg:AB}(X:K.In h)(G:h.Ns mainGlobals mg){c_KU c_K9 g_KT g_KI g_KA g_KK g_KJ g_KE g_KN g_KQ g_KD g_KV g_KO g_KP g_KG g_KF c_LU c_LH c_LI f_K2 f_LG f_LV f_K0 f_LX f_KS f_K8 f_KZ f_K1 f_K3 f_K4 f_KW f_KR f_KX f_KH f_LJ f_LL f_LK f_LA f_LF f_LN f_LT f_LR f_LC f_K5 f_LQ f_K7 f_LE f_LM f_LW f_LB f_LD f_LO f_LP f_LS f_K6 f_KY f_law t_K2 k_K2 t_K7 k_K7 t_LP k_LP:AD}{e_KT e_KI e_KA e_KK e_KJ e_KE e_KN e_KQ e_KD e_KV e_KO e_KP e_KG e_KF d_K2 d_LG d_LV d_K0 d_LX d_KS d_K8 d_KZ d_K1 d_K3 d_K4 d_KW d_KR d_KX d_KH d_LJ d_LL d_LK d_LA d_LF d_LN d_LT d_LR d_LC d_K5 d_LQ d_K7 d_LE d_LM d_LW d_LB d_LD d_LO d_LP d_LS d_K6 d_KY d_law:AF}{tk_KC tk_KM tk_KB tk_KL:Tok}
  (BD:XG K "LackError" c_KU [.ref c_KU,.type "ValueError",.type "Exception",.type "BaseException",.type "object"])
  (i_KU:PySem.W.findIn K (.ref c_KU) "__init__"=some (some (.builtin "ValueError.__init__")))
  (rs_KU:PySem.W.specialIn K (.ref c_KU) "__getattribute__"=some (some (.builtin "type.__getattribute__")))
  (rr_KU:PySem.W.readsIn K c_KU (.type "type")=true)
  (rf_KU:PySem.W.findCls K (.ref c_KU) (.type "type") "__init__"=some (.val (.builtin "ValueError.__init__")))
  (BE:XG K "Unlike" c_K9 [.ref c_K9,.ref c_KU,.type "ValueError",.type "Exception",.type "BaseException",.type "object"])
  (i_K9:PySem.W.findIn K (.ref c_K9) "__init__"=some (some (.builtin "ValueError.__init__")))
  (rs_K9:PySem.W.specialIn K (.ref c_K9) "__getattribute__"=some (some (.builtin "type.__getattribute__")))
  (rr_K9:PySem.W.readsIn K c_K9 (.type "type")=true)
  (rf_K9:PySem.W.findCls K (.ref c_K9) (.type "type") "__init__"=some (.val (.builtin "ValueError.__init__")))
  (ow_hn:PySem.W.specialIn K (.builtin "object.__class__") "__get__"=some (some (.builtin "getset_descriptor.__get__")))
  (ow_tk:PySem.W.takesIn K (.builtin "object.__class__")=some true)
  (a_LU:PySem.W.nsIn K mainGlobals "Band"=some (some (.ref c_LU)))
  (pg_LU:PySem.W.plainGet K c_LU Str.empty=true)
  (hd_LU:PySem.W.hasDictIn K c_LU=true)
  (po_LU:PySem.W.plainOver K c_LU=true)
  (sa_LU:PySem.W.findIn K (.ref c_LU) "__setattr__"=some (some (.builtin "object.__setattr__")))
  (rs_LU:PySem.W.specialIn K (.ref c_LU) "__getattribute__"=some (some (.builtin "type.__getattribute__")))
  (rr_LU:PySem.W.readsIn K c_LU (.type "type")=true)
  (rf_LU:PySem.W.findCls K (.ref c_LU) (.type "type") "__init__"=some (.val (.ref g_KT)))
  (a_LH:PySem.W.nsIn K mainGlobals "Plain"=some (some (.ref c_LH)))
  (pg_LH:PySem.W.plainGet K c_LH Str.empty=true)
  (hd_LH:PySem.W.hasDictIn K c_LH=true)
  (po_LH:PySem.W.plainOver K c_LH=true)
  (sa_LH:PySem.W.findIn K (.ref c_LH) "__setattr__"=some (some (.builtin "object.__setattr__")))
  (rs_LH:PySem.W.specialIn K (.ref c_LH) "__getattribute__"=some (some (.builtin "type.__getattribute__")))
  (rr_LH:PySem.W.readsIn K c_LH (.type "type")=true)
  (rf_LH:PySem.W.findCls K (.ref c_LH) (.type "type") "__init__"=some (.val (.ref g_KN)))
  (mk_LH:PySem.W.makesIn K c_LH=true)
  (in_LH:PySem.W.findIn K (.ref c_LH) "__init__"=some (some (.ref g_KN)))
  (kc_LH:PySem.W.keepIn K (.ref c_LH)=true)
  (ha_LH:PySem.W.findIn K (.ref c_LH) "__class__"=some (some (.builtin "object.__class__")))
  (mo_LH:PySem.W.mroIn K c_LH (.type "object")=some true)
  (me_Plain_kinds:PySem.W.findIn K (.ref c_LH) "kinds"=some (some (.ref g_KI)))
  (me_Plain_words:PySem.W.findIn K (.ref c_LH) "words"=some (some (.ref g_KK)))
  (me_Plain_laid_out:PySem.W.findIn K (.ref c_LH) "laid_out"=some (some (.ref g_KA)))
  (me_Plain_reach:PySem.W.findIn K (.ref c_LH) "reach"=some (some (.ref g_KJ)))
  (me_Plain_lacking:PySem.W.findIn K (.ref c_LH) "lacking"=some (some (.ref g_KE)))
  (n_Plain_own_text:PySem.W.findIn K (.ref c_LH) "own_text"=some none)
  (n_Plain_own_kinds:PySem.W.findIn K (.ref c_LH) "own_kinds"=some none)
  (n_Plain_own_lacking:PySem.W.findIn K (.ref c_LH) "own_lacking"=some none)
  (n_Plain_own_deeds:PySem.W.findIn K (.ref c_LH) "own_deeds"=some none)
  (a_LI:PySem.W.nsIn K mainGlobals "Strip"=some (some (.ref c_LI)))
  (pg_LI:PySem.W.plainGet K c_LI Str.empty=true)
  (hd_LI:PySem.W.hasDictIn K c_LI=true)
  (po_LI:PySem.W.plainOver K c_LI=true)
  (sa_LI:PySem.W.findIn K (.ref c_LI) "__setattr__"=some (some (.builtin "object.__setattr__")))
  (rs_LI:PySem.W.specialIn K (.ref c_LI) "__getattribute__"=some (some (.builtin "type.__getattribute__")))
  (rr_LI:PySem.W.readsIn K c_LI (.type "type")=true)
  (rf_LI:PySem.W.findCls K (.ref c_LI) (.type "type") "__init__"=some (.val (.ref g_KQ)))
  (mk_LI:PySem.W.makesIn K c_LI=true)
  (in_LI:PySem.W.findIn K (.ref c_LI) "__init__"=some (some (.ref g_KQ)))
  (kc_LI:PySem.W.keepIn K (.ref c_LI)=true)
  (ha_LI:PySem.W.findIn K (.ref c_LI) "__class__"=some (some (.builtin "object.__class__")))
  (mo_LI:PySem.W.mroIn K c_LI (.type "object")=some true)
  (me_Strip_kinds:PySem.W.findIn K (.ref c_LI) "kinds"=some (some (.ref g_KI)))
  (me_KD:PySem.W.findIn K (.ref c_LI) "lacking"=some (some (.ref g_KD)))
  (me_KV:PySem.W.findIn K (.ref c_LI) "put"=some (some (.ref g_KV)))
  (me_KO:PySem.W.findIn K (.ref c_LI) "drop"=some (some (.ref g_KO)))
  (me_KP:PySem.W.findIn K (.ref c_LI) "grow"=some (some (.ref g_KP)))
  (me_KG:PySem.W.findIn K (.ref c_LI) "shrink"=some (some (.ref g_KG)))
  (me_KF:PySem.W.findIn K (.ref c_LI) "change"=some (some (.ref g_KF)))
  (n_Strip_own_text:PySem.W.findIn K (.ref c_LI) "own_text"=some none)
  (n_Strip_own_kinds:PySem.W.findIn K (.ref c_LI) "own_kinds"=some none)
  (n_Strip_own_lacking:PySem.W.findIn K (.ref c_LI) "own_lacking"=some none)
  (n_Strip_own_deeds:PySem.W.findIn K (.ref c_LI) "own_deeds"=some none)
  (Az:MG K "__init__" "Band.__init__" s_KT g_KT e_KT)
  (A0:MG K "kinds" "Band.kinds" s_KI g_KI e_KI)
  (A2:MG K "laid_out" "Band.laid_out" s_KA g_KA e_KA)
  (A4:MG K "words" "Band.words" s_KK g_KK e_KK)
  (A3:MG K "reach" "Band.reach" s_KJ g_KJ e_KJ)
  (A1:MG K "lacking" "Band.lacking" s_KE g_KE e_KE)
  (A5:MG K "__init__" "Plain.__init__" s_KN g_KN e_KN)
  (A9:MG K "__init__" "Strip.__init__" s_KQ g_KQ e_KQ)
  (BA:MG K "lacking" "Strip.lacking" s_KD g_KD e_KD)
  (BB:MG K "put" "Strip.put" s_KV g_KV e_KV)
  (A7:MG K "drop" "Strip.drop" s_KO g_KO e_KO)
  (A8:MG K "grow" "Strip.grow" s_KP g_KP e_KP)
  (BC:MG K "shrink" "Strip.shrink" s_KG g_KG e_KG)
  (A6:MG K "change" "Strip.change" s_KF g_KF e_KF)
  (nd:[c_KU,c_K9].Nodup)
  (AS:DG K "in_order" s_K2 f_K2 d_K2)
  (As:DG K "pieces" s_LG f_LG d_LG)
  (AQ:DG K "greatest_divisor" s_LV f_LV d_LV)
  (AN:DG K "fraction" s_K0 f_K0 d_K0)
  (Au:DG K "plus" s_LX f_LX d_LX)
  (Ax:DG K "need_same_kinds" s_KS f_KS d_KS)
  (Av:DG K "reasons" s_K8 f_K8 d_K8)
  (AL:DG K "distance" s_KZ f_KZ d_KZ)
  (AR:DG K "has_only" s_K1 f_K1 d_K1)
  (AT:DG K "is_kinds" s_K3 f_K3 d_K3)
  (AV:DG K "is_word" s_K4 f_K4 d_K4)
  (AU:DG K "is_letter" s_KW f_KW d_KW)
  (An:DG K "need_kinds" s_KR f_KR d_KR)
  (Ap:DG K "need_word" s_KX f_KX d_KX)
  (Ao:DG K "need_letter" s_KH f_KH d_KH)
  (AK:DG K "lacking_among" s_LJ f_LJ d_LJ)
  (AW:DG K "lacks" s_LL f_LL d_LL)
  (AO:DG K "fresh_words" s_LK f_LK d_LK)
  (AM:DG K "filled" s_LA f_LA d_LA)
  (Ar:DG K "opened" s_LF f_LF d_LF)
  (Aa:DG K "_law_cell" s_LN f_LN d_LN)
  (Ay:DG K "_law_whole" s_LT f_LT d_LT)
  (Am:DG K "_law_mixed" s_LR f_LR d_LR)
  (Ac:DG K "_law_kinds" s_LC f_LC d_LC)
  (Ab:DG K "_law_letters" s_K5 f_K5 d_K5)
  (Aj:DG K "_law_text" s_LQ f_LQ d_LQ)
  (Al:DG K "_law_missing" s_K7 f_K7 d_K7)
  (Ah:DG K "_law_strip" s_LE f_LE d_LE)
  (AZ:DG K "_law_band" s_LM f_LM d_LM)
  (Ai:DG K "_law_sum" s_LW f_LW d_LW)
  (AX:DG K "_law_apart" s_LB f_LB d_LB)
  (Ag:DG K "_law_share" s_LD f_LD d_LD)
  (Ae:DG K "_law_near" s_LO f_LO d_LO)
  (Af:DG K "_law_rows" s_LP f_LP d_LP)
  (Aw:DG K "_law_right" s_LS f_LS d_LS)
  (Ak:DG K "_law_unlike" s_K6 f_K6 d_K6)
  (Aq:DG K "_law_no_longer" s_KY f_KY d_KY)
  (AY:DG K "law" Zls f_law d_law)
  (z_len:PySem.W.nsIn K mainGlobals "len"=some none)
  (z_range:PySem.W.nsIn K mainGlobals "range"=some none)
  (z_isinstance:PySem.W.nsIn K mainGlobals "isinstance"=some none)
  (z_all:PySem.W.nsIn K mainGlobals "all"=some none)
  (z_min:PySem.W.nsIn K mainGlobals "min"=some none)
  (z_list:PySem.W.nsIn K mainGlobals "list"=some none)
  (z_tuple:PySem.W.nsIn K mainGlobals "tuple"=some none)
  (z_set:PySem.W.nsIn K mainGlobals "set"=some none)
  (z_sorted:PySem.W.nsIn K mainGlobals "sorted"=some none)
  (z_str:PySem.W.nsIn K mainGlobals "str"=some none)
  (z_int:PySem.W.nsIn K mainGlobals "int"=some none)
  (z_bool:PySem.W.nsIn K mainGlobals "bool"=some none)
  (z_ValueError:PySem.W.nsIn K mainGlobals "ValueError"=some none)
  (c_KC:PySem.W.nsIn K mainGlobals "SMALL_LETTERS"=some (some (.str (Str.ofString "abcdefghijklmnopqrstuvwxyz") tk_KC)))
  (c_KM:PySem.W.nsIn K mainGlobals "MOST_KINDS"=some (some (.int 4 tk_KM)))
  (c_KB:PySem.W.nsIn K mainGlobals "MOST_IN_STRIP"=some (some (.int 40 tk_KB)))
  (c_KL:PySem.W.nsIn K mainGlobals "MOST_ASKED"=some (some (.int 60 tk_KL))):∃a,Txt K mg a/\a.t_K2=t_K2/\a.k_K2=k_K2/\a.t_K7=t_K7/\a.k_K7=k_K7/\a.t_LP=t_LP/\a.k_LP=k_LP:=by
 obtain⟨_,_,_,_,_,_,_,_,_,rfl,_⟩:=id AY.2.ex;refine⟨{ c_KU,c_K9,c_LU,c_LH,c_LI,g_KT,e_KT,g_KI,e_KI,g_KA,e_KA,g_KK,e_KK,g_KJ,e_KJ,g_KE,e_KE,g_KN,e_KN,g_KQ,e_KQ,g_KD,e_KD,g_KV,e_KV,g_KO,e_KO,g_KP,e_KP,g_KG,e_KG,g_KF,e_KF,f_K2,d_K2,f_LG,d_LG,f_LV,d_LV,f_K0,d_K0,f_LX,d_LX,f_KS,d_KS,f_K8,d_K8,f_KZ,d_KZ,f_K1,d_K1,f_K3,d_K3,f_K4,d_K4,f_KW,d_KW,f_KR,d_KR,f_KX,d_KX,f_KH,d_KH,f_LJ,d_LJ,f_LL,d_LL,f_LK,d_LK,f_LA,d_LA,f_LF,d_LF,f_LN,d_LN,f_LT,d_LT,f_LR,d_LR,f_LC,d_LC,f_K5,d_K5,f_LQ,d_LQ,f_K7,d_K7,f_LE,d_LE,f_LM,d_LM,f_LW,d_LW,f_LB,d_LB,f_LD,d_LD,f_LO,d_LO,f_LP,d_LP,f_LS,d_LS,f_K6,d_K6,f_KY,d_KY,f_law,t_K2,k_K2,t_K7,k_K7,t_LP,k_LP,d_law:=_ },{ m_K2:=YAV X G AS.1,f_K2:=AS.2,b_K2:=AS.2.binds (by walk_at "b1"),m_LG:=YAV X G As.1,f_LG:=As.2,b_LG:=As.2.binds (by walk_at "b2"),m_LV:=YAV X G AQ.1,f_LV:=AQ.2,b_LV:=AQ.2.binds (by walk_at "b2"),m_K0:=YAV X G AN.1,f_K0:=AN.2,b_K0:=AN.2.binds (by walk_at "b2"),m_LX:=YAV X G Au.1,f_LX:=Au.2,b_LX:=Au.2.binds (by walk_at "b2"),m_KS:=YAV X G Ax.1,f_KS:=Ax.2,b_KS:=Ax.2.binds (by walk_at "b2"),m_K8:=YAV X G Av.1,f_K8:=Av.2,b_K8:=Av.2.binds (by walk_at "b2"),m_KZ:=YAV X G AL.1,f_KZ:=AL.2,b_KZ:=AL.2.binds (by walk_at "b2"),m_K1:=YAV X G AR.1,f_K1:=AR.2,b_K1:=AR.2.binds (by walk_at "b2"),m_K3:=YAV X G AT.1,f_K3:=AT.2,b_K3:=AT.2.binds (by walk_at "b1"),m_K4:=YAV X G AV.1,f_K4:=AV.2,b_K4:=AV.2.binds (by walk_at "b3"),m_KW:=YAV X G AU.1,f_KW:=AU.2,b_KW:=AU.2.binds (by walk_at "b2"),m_KR:=YAV X G An.1,f_KR:=An.2,b_KR:=An.2.binds (by walk_at "b1"),m_KX:=YAV X G Ap.1,f_KX:=Ap.2,b_KX:=Ap.2.binds (by walk_at "b3"),m_KH:=YAV X G Ao.1,f_KH:=Ao.2,b_KH:=Ao.2.binds (by walk_at "b2"),m_LJ:=YAV X G AK.1,f_LJ:=AK.2,b_LJ:=AK.2.binds (by walk_at "b3"),m_LL:=YAV X G AW.1,f_LL:=AW.2,b_LL:=AW.2.binds (by walk_at "b2"),m_LK:=YAV X G AO.1,f_LK:=AO.2,b_LK:=AO.2.binds (by walk_at "b2"),m_LA:=YAV X G AM.1,f_LA:=AM.2,b_LA:=AM.2.binds (by walk_at "b3"),m_LF:=YAV X G Ar.1,f_LF:=Ar.2,b_LF:=Ar.2.binds (by walk_at "b4"),m_LN:=YAV X G Aa.1,f_LN:=Aa.2,b_LN:=Aa.2.binds (by walk_at "b2"),m_LT:=YAV X G Ay.1,f_LT:=Ay.2,b_LT:=Ay.2.binds (by walk_at "b1"),m_LR:=YAV X G Am.1,f_LR:=Am.2,b_LR:=Am.2.binds (by walk_at "b2"),m_LC:=YAV X G Ac.1,f_LC:=Ac.2,b_LC:=Ac.2.binds (by walk_at "b1"),m_K5:=YAV X G Ab.1,f_K5:=Ab.2,b_K5:=Ab.2.binds (by walk_at "b4"),m_LQ:=YAV X G Aj.1,f_LQ:=Aj.2,b_LQ:=Aj.2.binds (by walk_at "b3"),m_K7:=YAV X G Al.1,f_K7:=Al.2,b_K7:=Al.2.binds (by walk_at "b2"),m_LE:=YAV X G Ah.1,f_LE:=Ah.2,b_LE:=Ah.2.binds (by walk_at "b3"),m_LM:=YAV X G AZ.1,f_LM:=AZ.2,b_LM:=AZ.2.binds (by walk_at "b3"),m_LW:=YAV X G Ai.1,f_LW:=Ai.2,b_LW:=Ai.2.binds (by walk_at "b1"),m_LB:=YAV X G AX.1,f_LB:=AX.2,b_LB:=AX.2.binds (by walk_at "b2"),m_LD:=YAV X G Ag.1,f_LD:=Ag.2,b_LD:=Ag.2.binds (by walk_at "b2"),m_LO:=YAV X G Ae.1,f_LO:=Ae.2,b_LO:=Ae.2.binds (by walk_at "b4"),m_LP:=YAV X G Af.1,f_LP:=Af.2,b_LP:=Af.2.binds (by walk_at "b2"),m_LS:=YAV X G Aw.1,f_LS:=Aw.2,b_LS:=Aw.2.binds (by walk_at "b5"),m_K6:=YAV X G Ak.1,f_K6:=Ak.2,b_K6:=Ak.2.binds (by walk_at "b2"),m_KY:=YAV X G Aq.1,f_KY:=Aq.2,b_KY:=Aq.2.binds (by walk_at "b3"),m_law:=YAV X G AY.1,f_law:=AY.2,b_law:=AY.2.binds (by walk_at "b1"),m_KU:=YAV X G BD.a,x_KU:=BD.m,xi_KU:=BD.i,k_KU:=BD.k,i_KU,r_KU:=⟨rs_KU,rr_KU,rf_KU,rfl⟩,m_K9:=YAV X G BE.a,x_K9:=BE.m,xi_K9:=BE.i,k_K9:=BE.k,i_K9,r_K9:=⟨rs_K9,rr_K9,rf_K9,rfl⟩,m_LU:=YAV X G a_LU,cr_LU:=⟨rs_LU,rr_LU,rf_LU,rfl⟩,cl_LU:=⟨pg_LU,hd_LU,po_LU,sa_LU⟩,m_LH:=YAV X G a_LH,cr_LH:=⟨rs_LH,rr_LH,rf_LH,rfl⟩,cl_LH:=⟨pg_LH,hd_LH,po_LH,sa_LH⟩,mk_LH:=⟨mk_LH,in_LH,A5.2,kc_LH⟩,me_Plain_kinds:=⟨me_Plain_kinds,A0.2,A0.1.kp⟩,me_Plain_words:=⟨me_Plain_words,A4.2,A4.1.kp⟩,me_Plain_laid_out:=⟨me_Plain_laid_out,A2.2,A2.1.kp⟩,me_Plain_reach:=⟨me_Plain_reach,A3.2,A3.1.kp⟩,me_Plain_lacking:=⟨me_Plain_lacking,A1.2,A1.1.kp⟩,n_Plain_own_text,n_Plain_own_kinds,n_Plain_own_lacking,n_Plain_own_deeds,ty_LH:=fun e=>.ins e ⟨pg_LH,hd_LH,po_LH,sa_LH⟩ ha_LH ow_hn ow_tk mo_LH,m_LI:=YAV X G a_LI,cr_LI:=⟨rs_LI,rr_LI,rf_LI,rfl⟩,cl_LI:=⟨pg_LI,hd_LI,po_LI,sa_LI⟩,mk_LI:=⟨mk_LI,in_LI,A9.2,kc_LI⟩,me_Strip_kinds:=⟨me_Strip_kinds,A0.2,A0.1.kp⟩,me_KD:=⟨me_KD,BA.2,BA.1.kp⟩,me_KV:=⟨me_KV,BB.2,BB.1.kp⟩,me_KO:=⟨me_KO,A7.2,A7.1.kp⟩,me_KP:=⟨me_KP,A8.2,A8.1.kp⟩,me_KG:=⟨me_KG,BC.2,BC.1.kp⟩,me_KF:=⟨me_KF,A6.2,A6.1.kp⟩,n_Strip_own_text,n_Strip_own_kinds,n_Strip_own_lacking,n_Strip_own_deeds,ty_LI:=fun e=>.ins e ⟨pg_LI,hd_LI,po_LI,sa_LI⟩ ha_LI ow_hn ow_tk mo_LI,fm_KT:=Az.1,kp_KT:=Az.1.kp,b_KT:=Az.1.binds (by walk_at "b3"),fm_KI:=A0.1,kp_KI:=A0.1.kp,b_KI:=A0.1.binds (by walk_at "b1"),fm_KA:=A2.1,kp_KA:=A2.1.kp,b_KA:=A2.1.binds (by walk_at "b2"),fm_KK:=A4.1,kp_KK:=A4.1.kp,b_KK:=A4.1.binds (by walk_at "b2"),fm_KJ:=A3.1,kp_KJ:=A3.1.kp,b_KJ:=A3.1.binds (by walk_at "b1"),fm_KE:=A1.1,kp_KE:=A1.1.kp,b_KE:=A1.1.binds (by walk_at "b1"),fm_KN:=A5.1,kp_KN:=A5.1.kp,b_KN:=A5.1.binds (by walk_at "b3"),fm_KQ:=A9.1,kp_KQ:=A9.1.kp,b_KQ:=A9.1.binds (by walk_at "b2"),fm_KD:=BA.1,kp_KD:=BA.1.kp,b_KD:=BA.1.binds (by walk_at "b1"),fm_KV:=BB.1,kp_KV:=BB.1.kp,b_KV:=BB.1.binds (by walk_at "b2"),fm_KO:=A7.1,kp_KO:=A7.1.kp,b_KO:=A7.1.binds (by walk_at "b1"),fm_KP:=A8.1,kp_KP:=A8.1.kp,b_KP:=A8.1.binds (by walk_at "b2"),fm_KG:=BC.1,kp_KG:=BC.1.kp,b_KG:=BC.1.binds (by walk_at "b2"),fm_KF:=A6.1,kp_KF:=A6.1.kp,b_KF:=A6.1.binds (by walk_at "b4"),nd,z_len:=YBG X G z_len,z_range:=YBG X G z_range,z_isinstance:=YBG X G z_isinstance,z_all:=YBG X G z_all,z_min:=YBG X G z_min,z_list:=YBG X G z_list,z_tuple:=YBG X G z_tuple,z_set:=YBG X G z_set,z_sorted:=YBG X G z_sorted,z_str:=YBG X G z_str,z_int:=YBG X G z_int,z_bool:=YBG X G z_bool,z_ValueError:=YBG X G z_ValueError,c_KC:=⟨_,YAV X G c_KC⟩,c_KM:=⟨_,YAV X G c_KM⟩,c_KB:=⟨_,YAV X G c_KB⟩,c_KL:=⟨_,YAV X G c_KL⟩,bl:=fun s u=>.of_eq rfl },rfl,rfl,rfl,rfl,rfl,rfl⟩
end Pk82
namespace Pk82
open PySem L2
noncomputable def lpos:Pos:=⟨25,29,25,59⟩
noncomputable def lq:Str:="in_order.<locals>.<lambda>"
def Zn0:Pos:=⟨257,34,257,79⟩
noncomputable def lqM:Str:="_law_missing.<locals>.<lambda>"
def ZnZ:Pos:=⟨305,34,305,82⟩
noncomputable def lqR:Str:="_law_rows.<locals>.<lambda>"
noncomputable def LET:Q11:=[97,98,99,100,101,102,103,104,105,106,107,108,109,110,111,112,113,114,115,116,117,118,119,120,121,122]
noncomputable def isk (l:Q11):Bool:=decide (1<=l.length)&&decide (l.length<=4)&&(l.all fun c=>LET.contains c)&&decide (signs l=Za3 (ddl (signs l)))
noncomputable def isw (l m:Q11)(most:Int):Bool:=decide ((l.length:Int)<=most)&&l.all fun c=>m.contains c
noncomputable def Zel:Q11->Q11->Bool
 | _,[]=>true
 | last,c::r=>decide (c∈LET)&&decide (last < [c])&&Zel [c] r
noncomputable def Ze0 (l:Q11):Bool:=decide (1<=l.length)&&decide (l.length<=4)&&Zel [] l
theorem ZgW {a b:Nat}:([a] < [b])↔a<b:=by
 constructor
 .intro h;cases h with
  | rel h=>exact h
  | cons h=>cases h
 .exact fun h=>List.Lex.rel h
theorem ZgA:∀(l:Q11) (d:Nat),Zel [d] l=true↔(∀c∈l,c∈LET)/\(d::l).Pairwise (· < ·)
 | [],d=>by simp[Zel]
 | c::r,d=>by
  rw[Zel,YAQ,YAQ,decide_eq_true_iff,decide_eq_true_iff,ZgW,ZgA r c];simp only[YBW,YAT,forall_eq_or_imp];constructor
  .rintro⟨⟨h1,h2⟩,h3,h4,h5⟩;exact⟨⟨h1,h3⟩,⟨h2,fun x hx=>Nat.lt_trans h2 (h4 x hx)⟩,h4,h5⟩
  .rintro⟨⟨h1,h3⟩,⟨h2,_⟩,h4,h5⟩;exact⟨⟨h1,h2⟩,h3,h4,h5⟩
theorem Zcq (l:Q11):Zel [] l=true↔(∀c∈l,c∈LET)/\l.Pairwise (· < ·):=by
 cases l with
 | nil=>simp[Zel]
 | cons c r=>
  rw[Zel,YAQ,YAQ,decide_eq_true_iff,decide_eq_true_iff,ZgA r c];simp only[YAT,forall_eq_or_imp];constructor
  .rintro⟨⟨h1,_⟩,h3,h4⟩;exact⟨⟨h1,h3⟩,h4⟩
  .rintro⟨⟨h1,h3⟩,h4⟩;exact⟨⟨h1,by simp⟩,h3,h4⟩
theorem Zd8:∀(ls acc:Q22),(acc++ls).Nodup->ls.foldl addT acc=acc++ls
 | [],acc,_=>by simp
 | x::ls,acc,h=>by
  have hx:¬x∈acc:=by rw[YBx]at h;exact fun hm=>h.2.2 x hm x YAY rfl
  rw[YBy,addT,YAI hx,Zd8 ls (acc++[x]) (by simpa using h)];simp
theorem Zf8 {l:Q11}(h:l.Pairwise (· < ·)):(signs l).Nodup:=by unfold signs List.Nodup;rw[YBE];exact h.imp fun hab e=>by injection e with e;omega
theorem Zjc (ls:Q22):(ddl ls).Nodup:=by rw[<-ZeN];exact ZcK _
theorem Zhr (l:Q11):signs l=Za3 (ddl (signs l))↔l.Pairwise (· < ·):=by
 constructor
 .intro e;have h1:(signs l).Pairwise (fun a b=>leT a b=true):=by rw[e];exact Zbl _
  have h2:(signs l).Nodup:=by rw[e];exact(ZaG _).nodup_iff.mpr (Zjc _)
  unfold signs at h1;unfold signs List.Nodup at h2;rw[YBE]at h1 h2;refine(h1.and h2).imp ?_;rintro a b ⟨x,y⟩;have y':a≠b:=fun e=>y (by rw[e]);have x':¬([b] < [a]):=by simpa [leT] using x
  rw[ZgW]at x';omega
 .intro h;have e:ddl (signs l)=signs l:=by unfold ddl;rw[Zd8 _ _ (by simpa using Zf8 h)];simp
  rw[e];refine Zb8 (List.Perm.refl _) ?_;unfold signs;rw[YBE];refine h.imp fun {a b} hab=>?_;have:¬([b] < [a]):=by rw[ZgW];omega
  simpa [leT] using this
theorem ZdD (l:Q11):isk l=Ze0 l:=by
 have h1:(l.all fun c=>LET.contains c)=decide (∀c∈l,c∈LET):=by rw[YBQ,YBO,decide_eq_true_iff];simp
 have h2:decide (signs l=Za3 (ddl (signs l)))=decide (l.Pairwise (· < ·)):=by rw[YBQ,decide_eq_true_iff,decide_eq_true_iff,Zhr]
 have h3:Zel [] l=(decide (∀c∈l,c∈LET)&&decide (l.Pairwise (· < ·))):=by rw[YBQ,YAQ,decide_eq_true_iff,decide_eq_true_iff,Zcq]
 unfold isk Ze0;rw[h1,h2,h3,Bool.and_assoc]
theorem all_range (l m:Q11):((List.range l.length).map (fun i=>decide (l.getD i 0∈m))).all id=l.all fun c=>m.contains c:=by
 rw[YBQ,YBO,YBO];constructor
 .intro h c hc;obtain⟨i,hi,rfl⟩:=List.mem_iff_getElem.mp hc;have:=h _ (YBa (YAn.mpr hi));simpa [YAR,YAH hi] using this
 .intro h b hb;obtain⟨i,hi,rfl⟩:=YAg.mp hb;have hi:=YAn.mp hi;have:=h _ (YCA hi);simpa [YAR,YAH hi] using this
noncomputable def cell (ns:List Int)(k:Int):Int:=ns.getD k.toNat 0
theorem Zmo {ns:List Int}{k:Int}(h0:0<=k)(h1:k<ns.length):atI (ns.map V.int) k=some (.int (cell ns k)):=by
 have hk:k.toNat<ns.length:=by omega
 unfold atI ixN cell;rw[YAB,YAM h0,YAM h1,YCL,YAc,YAR,YAH hk];rfl
theorem Zbg {K:Q4}{H:Hp}{l:Q11}(h:l.length<=1000):LenV K (tx l) H l.length:=by
 have e:(⟨l.toArray⟩:Str).length=l.length:=by simp[Str.length]
 have:l.length<=sizeLine:=YAK h (by rw[sizeLine_eq];decide);exact⟨by rw[e];exact this,e.symm⟩
theorem cm {x y m:Int}(h:0<m)(h2:m<=2 ^ 64):CMul (x % m) y:=.inl ⟨by have:=YBJ x (show m≠0 by omega);omega,by have:=YAz x h;omega⟩
theorem Zfv {K:Q4}{t:Value}:PySem.W.kitOne K t t=some true:=by unfold PySem.W.kitOne;simp
theorem ZfV {α:Type}{xs:List α}{i:Int}(h0:0<=i)(h1:i<xs.length):∃v,atI xs i=some v/\v∈xs:=by
 have hi:i.toNat<xs.length:=by omega
 refine⟨xs[i.toNat],?_,YCA hi⟩;unfold atI ixN;rw[YAM h0,YAM h1,YCL,YAH hi]
theorem Zbs (xs:Q22):(xs.map tx).all Zbw=true:=by rw[YBO];intro v hv;obtain⟨x,_,rfl⟩:=YAg.mp hv;rfl
theorem same_upd3 {H H2:Hp}{e:AD}{o':HO}(s:Same H H2)(h:H e=none):Same H (upd H2 e o'):=fun b u hb=>by
 have:b≠e:=fun z=>by rw[z,h]at hb;cases hb
 rw[Zai this];exact s _ _ hb
theorem ZgV:∀ {ls:Q22},(∀m∈ls,m.length=1)->ls.flatten.length=ls.length
 | [],_=>rfl
 | m::ls,h=>by rw[YCR,YAF,ZgV fun x hx=>h x (YAP _ hx),h m YAY,YAd];omega
theorem Zcb {α:Type}(p:α->Bool)(d:α)(ls:List α):((List.range ls.length).filter fun i=>p (ls.getD i d)).map (fun i=>ls.getD i d)=ls.filter p:=by
 have e:(List.range ls.length).map (fun i=>ls.getD i d)=ls:=by
  apply YCM
  .simp
  .intro i h1 h2;simp[h2]
 have h:=List.filter_map (p:=p) (f:=fun i=>ls.getD i d) (l:=List.range ls.length);rw[e]at h;rw[h];rfl
theorem Zbz {ls:Q22}{k:Nat}(h:k<ls.length):(ls.map tx).getD k V.non=tx (ls.getD k []):=by rw[YAR,YAc,YAR,YAH h];rfl
theorem Zd5 {x:Q11}{ls:Q22}:inV (tx x) (ls.map tx)=decide (x∈ls):=by
 unfold inV;rw[YBQ,YCC,decide_eq_true_iff];constructor
 .rintro⟨y,hy,e⟩;obtain⟨l,hl,rfl⟩:=YAg.mp hy;rw[ZkV,decide_eq_true_iff,ZdU]at e;rw[<-e];exact hl
 .intro h;exact⟨tx x,YBa h,by rw[ZkV];exact decide_eq_true rfl⟩
theorem Zgn:∀(xs ys:Q22),deqs ((xs.map tx).map DT.f) ((ys.map tx).map DT.f)=decide (xs=ys)
 | [],[]=>by unfold deqs;rfl
 | [],y::ys=>by simp only[YAi,List.map_nil];unfold deqs;rfl
 | x::xs,[]=>by simp only[YAi,List.map_nil];unfold deqs;rfl
 | x::xs,y::ys=>by
  simp only[YAi];unfold deqs;rw[Zgn xs ys];have e:deq (DT.f (tx x)) (DT.f (tx y))=decide (x=y):=by unfold deq;rw[<-ZcJ];show ((⟨x.toArray⟩:Str) == ⟨y.toArray⟩)=_;rw[YBQ,beq_iff_eq,decide_eq_true_iff];exact⟨fun h=>by unfold tx;rw[h],fun h=>by unfold tx at h;injection h⟩
  rw[e,YBQ,YAQ,decide_eq_true_iff,decide_eq_true_iff,decide_eq_true_iff,List.cons.injEq]
theorem ZnR {K:Q4}{H:Hp}{Q:VK}{a b:AD}{xs:Q22}(h1:SqL K H a (xs.map tx))(h2:SqL K H b (xs.map tx))(q:Q (.bl false) H):rEqD K true (.ref a) (.ref b) H Q:=
 .inr ⟨_,_,datL h1 (Zbs _),datL h2 (Zbs _),fun z=>YAC z.1,(ownL h1 (Zbs _)).2.2,by unfold deq;rw[Zgn,decide_eq_true rfl];exact q⟩
theorem Zop {K:Q4}{H:Hp}{Q:VK}{a b:AD}{xs ys:Q22}(h1:SqL K H a (xs.map tx))(h2:SqL K H b (ys.map tx))(q:Q (.bl (decide (xs=ys))) H):rEqD K false (.ref a) (.ref b) H Q:=
 .inr ⟨_,_,datL h1 (Zbs _),datL h2 (Zbs _),fun z=>YAC z.1,(ownL h1 (Zbs _)).2.2,by unfold deq;rw[Zgn];exact q⟩
theorem ZlO:V.str (Str.ofString "abcdefghijklmnopqrstuvwxyz")=tx LET:=congrArg V.str (by decide +kernel)
theorem Zmg (l:Q11):(ddl (signs l)).length<=l.length:=by
 have:∀(ls acc:Q22),(ls.foldl addT acc).length<=acc.length+ls.length:=by
  intro ls;induction ls with
  | nil=>intro acc;simp
  | cons x ls ih=>
   intro acc;rw[YBy];refine YAK (ih _) ?_;unfold addT;split<;>simp<;>omega
 have h:=this (signs l) [];unfold ddl;unfold signs at h ⊢;simpa using h
theorem signs_length (l:Q11):(signs l).length=l.length:=by unfold signs;rw[YAB]
theorem Zn3 {K:Q4}:PySem.W.kitOne K (.type "int") (.type "bool")=some false:=by rfl
noncomputable def flds (l m:Q11):List (Str×V):=putF "own_kinds" (tx m) (putF "own_text" (tx l) [])
theorem kt:¬(("own_text":Str)="own_kinds"):=by decide +kernel
theorem ZfG {l m:Q11}:(flds l m).lookup ("own_text":Str)=some (tx l):=by unfold flds;rw[Zar,YAI kt,Zar,YAM rfl]
theorem Zd9 {l m:Q11}:(flds l m).lookup ("own_kinds":Str)=some (tx m):=by unfold flds;rw[Zar,YAM rfl]
theorem ZdF {l m:Q11} {x:Str} (h1:¬x="own_text") (h2:¬x="own_kinds"):(flds l m).lookup x=none:=by unfold flds;rw[Zar,YAI h2,Zar,YAI h1];rfl
def RingAt (C:AD)(H:Hp)(p:AD)(l m:Q11):Prop:=∃dx,H p=some (.ins C dx (flds l m))
theorem RingAt.same {C:AD}{H H':Hp}{p:AD}{l m:Q11}(r:RingAt C H p l m)(s:Same H H'):RingAt C H' p l m:=let ⟨dx,h⟩:=r;⟨dx,s _ _ h⟩
structure StripOk (l m:Q11):Prop where
 k:isk m=true
 m1:1<=m.length
 m4:m.length<=4
 l40:l.length<=40
 mem:∀x∈l,x∈m
theorem Zos (ls:Q22):(ddl ls).length<=ls.length:=by
 have:∀(ls acc:Q22),(ls.foldl addT acc).length<=acc.length+ls.length:=by
  intro ls;induction ls with
  | nil=>intro acc;simp
  | cons x ls ih=>
   intro acc;rw[YBy];refine YAK (ih _) ?_;unfold addT;split<;>simp<;>omega
 simpa [ddl] using this ls []
theorem Zoa {l m:Q11}(h:StripOk l m):isw l m 40=true:=by have h2:=h.l40;unfold isw;rw[YAQ,decide_eq_true_iff,YBO];exact⟨by omega,fun x hx=>by simpa using h.mem x hx⟩
theorem ZkN:∀k,k<26->LET[k]?=some (97+k):=by decide
theorem ZlP {c:Nat}(h1:97<=c)(h2:c<=122):c∈LET:=by
 have:=ZkN (c-97) (by omega);have e:97+(c-97)=c:=by omega
 rw[e]at this;exact YAo this
theorem ZkP {m:Q11}(h1:1<=m.length)(h4:m.length<=4)(hm:∀c∈m,c∈LET)(hp:m.Pairwise (· < ·)):isk m=true:=by rw[ZdD];unfold Ze0;rw[(Zcq m).mpr ⟨hm,hp⟩];simp[h1,h4]
theorem Zot (l:Q11){i:Int}(h:0<=i):cut l none (some i)=l.take i.toNat:=by obtain⟨k,rfl⟩:∃k:Nat,i=(k:Int):=⟨i.toNat,by omega⟩;rw[Zec,YCS]
theorem Zmi (l:Q11){i:Int}(h:0<=i):cut l (some i) none=l.drop i.toNat:=by obtain⟨k,rfl⟩:∃k:Nat,i=(k:Int):=⟨i.toNat,by omega⟩;rw[ZcL,YCS]
theorem iteT' {p q:Prop}[Decidable True](h:p):if True then p else q:=by rw[YAM True.intro];exact h
theorem ZkA {c:TT}{tb:TS}{D:Ends}{U:St}{H:Hp}(Pv:St->Prop)(μ:St->Nat)(h0:Pv U)
  (hs:∀U,Pv U->∃b:Bool,(∀Q:Bool->Hp->Prop,Q b H->c U H Q)/\if b=true then tb { D with nx:=fun U' H'=>(H'=H/\Pv U')/\μ U'<μ U,ct:=fun U' H'=>(H'=H/\Pv U')/\μ U'<μ U,bk:=D.nx } U H else D.nx U H):WhileRun c tb D U H:=by
 refine⟨fun m U H'=>m=μ U/\H'=H/\Pv U,⟨_,rfl,rfl,h0⟩,?_⟩;rintro m U _ ⟨rfl,rfl,p⟩;obtain⟨b,hc,hb⟩:=hs U p;refine hc _ ?_;cases b with
 | true=>exact⟨_,fun U' H' ⟨p',l⟩=>⟨_,l,rfl,p'⟩,hb⟩
 | false=>exact hb
theorem ZgH (l:Q11)(n:Int):(repT l n).length=n.toNat*l.length:=by unfold repT;simp
theorem ZjK {l:Q11}{n:Int}{x:Nat}(h:x∈repT l n):x∈l:=by unfold repT at h;obtain⟨y,hy,hx⟩:=List.mem_flatten.mp h;rw[(List.mem_replicate.mp hy).2]at hx;exact hx
theorem fill {f m:Q11}{n:Nat}{e:Int}(hn:0<n)(hf:f.length=n)(hm:∀x∈f,x∈m)(he:1<=e):(cut (repT (cut f none (some e)) (n:Nat)) none (some ((n:Nat):Int))).length=n/\∀x∈cut (repT (cut f none (some e)) (n:Nat)) none (some ((n:Nat):Int)),x∈m:=by
 rw[Zec,Zot f (by omega)];have ht:1<=(f.take e.toNat).length:=by rw[YAZ];omega
 have hl:n<=(repT (f.take e.toNat) (n:Nat)).length:=by rw[ZgH,YCS];exact Nat.le_mul_of_pos_right n ht
 refine⟨by rw[YAZ];omega,fun x hx=>?_⟩;exact hm x (YAb (ZjK (YAb hx)))
theorem put1 {f m:Q11}{n c:Nat}{i:Int}(hf:f.length=n)(hm:∀x∈f,x∈m)(hc:c∈m)(h0:0<=i)(h1:i<(n:Nat)):(cut f none (some i)++[c]++cut f (some (i+1)) none).length=n/\∀x∈cut f none (some i)++[c]++cut f (some (i+1)) none,x∈m:=by
 rw[Zot f h0,Zmi f (by omega)];refine⟨by rw[YAF,YAF,YAZ,YAj,YAs];omega,fun x hx=>?_⟩;rcases YAW.mp hx with hx | hx
 .rcases YAW.mp hx with hx | hx
  .exact hm x (YAb hx)
  .rw[YAL.mp hx];exact hc
 .exact hm x (YAe hx)
theorem ZqH {K:Q4}{H:Hp}{Q:VK}{x:Q11}(h:Q (.bl false) H):rEqD K true (tx x) (tx x) H Q:=.inl ⟨rfl,by rw[YAM rfl,decide_eq_true rfl];exact h⟩
theorem Zjh (w:Q11):cut w none (some (-1))=w.dropLast:=by
 unfold cut;have e1:HT.sIx w.length w.length (some (-1))=w.length-1:=by unfold HT.sIx;simp only[];rw[YAM (by decide)];omega
 have e2:HT.sIx w.length 0 none=0:=rfl;rw[e1,e2,YBo,YDQ];rfl
theorem ZeP (w:Q11):cut w (some 1) none=w.tail:=by have:=ZcL w 1;rw[List.drop_one]at this;exact this
theorem ZdZ:∀ {ls:Q22},(∀m∈ls,m.length=1)->ls=signs ls.flatten
 | [],_=>rfl
 | m::ls,h=>by
  have h1:=h m YAY
  match m,h1 with
  | [c],_=>
   have ih:=ZdZ (ls:=ls) fun x hx=>h x (YAP _ hx);rw[YCR];show [c]::ls=[c]::signs ls.flatten;rw[<-ih]
theorem ZhO {F:Q11}(nd:F.Nodup)(sub:∀c∈F,c∈LET)(h1:1<=F.length)(h4:F.length<=4):isk (Za3 (signs F)).flatten=true/\(Za3 (signs F)).flatten.length=F.length:=by
 have pm:=ZaG (signs F);have one:∀m∈Za3 (signs F),m.length=1:=fun m hm=>by obtain⟨c,_,rfl⟩:=YAg.mp (pm.mem_iff.mp hm);rfl
 have e:=ZdZ one;have hl:(Za3 (signs F)).flatten.length=F.length:=by rw[ZgV one,pm.length_eq];unfold signs;rw[YAB]
 have so:=Zbl (signs F);have nd2:(Za3 (signs F)).Nodup:=pm.nodup_iff.mpr (by unfold signs List.Nodup;rw[YBE];exact nd.imp fun hab z=>hab (by injection z))
 have mem:∀c∈(Za3 (signs F)).flatten,c∈LET:=fun c hc=>by obtain⟨x,hx,hcx⟩:=List.mem_flatten.mp hc;obtain⟨d,hd,rfl⟩:=YAg.mp (pm.mem_iff.mp hx);rw[YAL.mp hcx];exact sub d hd
 generalize (Za3 (signs F)).flatten=S at e hl mem;rw[e]at so nd2;unfold signs at so nd2;unfold List.Nodup at nd2;rw[YBE]at so nd2;refine⟨ZkP (by omega) (by omega) mem ((so.and nd2).imp ?_),hl⟩;rintro a b ⟨x,y⟩;have y':a≠b:=fun z=>y (by rw[z]);have x':¬([b] < [a]):=by simpa [leT] using x
 rw[ZgW]at x';omega
theorem ZcU {l m:Q11}{i:Nat}(hm:m.length<=4)(hl:l.length<=40)(hi:i<=41):(ZcA l m i).length<=6724:=by have h1:∀k,(ZdP (wordsOf l k) (wordsOf l (k+1)) m).length<=164:=fun k=>YAK (ZiP _ _ _) (YAK (YDM (Zdb l k) hm) (by omega));have h2:=ZbA (f:=fun k=>ZdP (wordsOf l k) (wordsOf l (k+1)) m) h1 (List.range i);rw[YBF]at h2;have:i*164<=41*164:=YDX _ hi;unfold ZcA;omega
theorem Zcy {l m w:Q11}(hl:l.length<=40)(h:w∈Zan l m):w.length<=41:=by have:=(Zay.mp h).1.init.len;rw[YBC]at this;omega
theorem ZbY {α:Type}{l:List α}{i:Nat}{x:α}(h:l[i]?=some x):l.take (i+1)=l.take i++[x]:=by rw[List.take_succ,h];rfl
structure KOk (m:Q11):Prop where
 k:isk m=true
 m1:1<=m.length
 m4:m.length<=4
theorem Zob {l:Q11}(h:isk l=true):1<=l.length/\l.length<=4/\l.Pairwise (· < ·):=by rw[ZdD]at h;unfold Ze0 at h;rw[YAQ,YAQ,decide_eq_true_eq,decide_eq_true_eq]at h;exact⟨h.1.1,h.1.2,((Zcq l).mp h.2).2⟩
theorem ZlV {l m:Q11}{most:Int}(h:(l.length:Int)<=most)(hm:∀x∈l,x∈m):isw l m most=true:=by unfold isw;rw[YAQ,decide_eq_true_iff,YBO];exact⟨h,fun x hx=>by simpa using hm x hx⟩
theorem Ze9 {H:Hp}{e:AD}{o o':HO}(h:H e=none):Same H (upd (upd H e o) e o'):=fun b u hb=>by
 have:b≠e:=fun z=>by rw[z,h]at hb;cases hb
 rw[Zai this,Zai this];exact hb
noncomputable def ZiO (l x:Q11):Bool:=!infB x l&&(infB x.tail l&&infB x.dropLast l)
theorem ZoE {w l:Q11}{r:Int}(h:(r=-1/\¬Inf w l)\/∃i:Nat,r=(i:Int)/\AtW l w i):decide (0<=r)=infB w l:=by
 rcases h with⟨rfl,h⟩|⟨i,rfl,h⟩
 .rw[ZcE.mpr h];rfl
 .rw[Zbv.mpr ⟨i,h⟩];exact decide_eq_true (by omega)
theorem atI0 {α:Type}{x:α}{xs:List α}:atI (x::xs) 0=some x:=by unfold atI ixN;rw[YAM (Int.le_refl _),YAM (by rw[YAd];omega)];rfl
def RowF (H:Hp)(l w:Q11)(y:V):Prop:=∃t:AD,y=.ref t/\H t=some (.tup [tx w,.int (fpl l w.dropLast:Nat),.int (fpl l w.tail:Nat)])
def ZoA (H:Hp)(l:Q11)(ws:Q22)(ys:List V):Prop:=ys.length=ws.length/\∀(i:Nat) (y:V),ys[i]?=some y->∃w,ws[i]?=some w/\RowF H l w y
def ZqO (H:Hp)(x y:V):Prop:=(x=y/\((∃l,x=tx l)\/∃i,x=.int i))\/∃(px py:AD) (vs:List V),x=.ref px/\y=.ref py/\H px=some (.tup vs)/\H py=some (.tup vs)/\vs.length<=1000/\∀v∈vs,(∃l,v=tx l)\/∃i,v=.int i
theorem ZcD {m:Q11}(h:isk m=true):m.Pairwise (· < ·):=by rw[ZdD]at h;unfold Ze0 at h;rw[YAQ]at h;exact((Zcq m).mp h.2).2
theorem Zm1 {H:Hp}{l:Q11}{W:Q22}{zs ys:List V}(hZ:ZoA H l W zs)(hR:ZoA H l W ys)(i:Nat)(x y:V)(hx:zs[i]?=some x)(hy:ys[i]?=some y):ZqO H x y:=by
 obtain⟨w,hw,t,e,h⟩:=hZ.2 i x hx;obtain⟨w2,hw2,t2,e2,h2⟩:=hR.2 i y hy;obtain rfl:w=w2:=Option.some.inj (hw.symm.trans hw2);refine .inr ⟨t,t2,_,e,e2,h,h2,by simp,fun v hv=>?_⟩;simp only[YAT,List.not_mem_nil,or_false]at hv;rcases hv with rfl | rfl | rfl
 .exact .inl ⟨_,rfl⟩
 .exact .inr ⟨_,rfl⟩
 .exact .inr ⟨_,rfl⟩
noncomputable def isl (l m:Q11):Bool:=isw l m 1&&decide ((l.length:Int)=1)
theorem Zno {CX:CXT}{P:AG}{w:AI}{K:Q4}{mg:AB}{base:Heap}{N:AJ}{qual:Str}{scope:Scope}{f:AD}{cd:Value}{A:AH}{outer:List Env}{s:AE}{H:Hp}{E:XK}:
  PassesOwn (model (cxOf CX P w K mg base N qual scope f cd A outer s H E).prog (cxOf CX P w K mg base N qual scope f cd A outer s H E).w) (cxOf CX P w K mg base N qual scope f cd A outer s H E).A (cxOf CX P w K mg base N qual scope f cd A outer s H E).env (cxOf CX P w K mg base N qual scope f cd A outer s H E).xe:=PassesOwn.leaving
def XN0 (C:AD)(E:XK)(H:Hp):Prop:=∀e H2,Same H H2->XAny H2 e C []->E (.ref C) (some e) H2
theorem XN0.same {C:AD}{E:XK}{H H':Hp}(x:XN0 C E H)(s:Same H H'):XN0 C E H':=fun e H2 s2 h=>x e H2 (s.trans s2) h
theorem KOk.kinds {m:Q11}(h:KOk m):KindsOk m:=⟨h.k,h.m1,h.m4,ZcD h.k⟩
theorem ZlW {c:Nat}{m:Q11}(h:c∈m):isl [c] m=true:=by unfold isl;rw[ZlV (by show ((1:Nat):Int)<=1;decide) (fun x hx=>by rw[YAL.mp hx];exact h)];rfl
theorem Zfu {l x:Q11}(ne:x≠[]):ZiO l x=true↔Miss l x:=by
 unfold ZiO;rw[YAQ,YAQ,Bool.not_eq_true',ZcE,Zbv,Zbv];constructor
 .rintro⟨a,b,c⟩;exact⟨ne,c,b,a⟩
 .rintro⟨_,c,b,a⟩;exact⟨a,b,c⟩
noncomputable def Za1 (L:Q11)(i:Nat):Q22:=(List.range i).flatMap fun k=>[L.take (k+1),L.drop (L.length-(k+1))]
theorem Zea (L:Q11)(i:Nat):Za1 L (i+1)=Za1 L i++[L.take (i+1),L.drop (L.length-(i+1))]:=by unfold Za1;rw[YBr,List.flatMap_append,List.flatMap_singleton]
theorem ZcG (L:Q11):∀i,(Za1 L i).length=2*i
 | 0=>rfl
 | i+1=>by rw[Zea,YAF,ZcG L i];simp;omega
theorem Zfn {L w:Q11}{i:Nat}:w∈Za1 L i↔∃k,1<=k/\k<=i/\(w=L.take k\/w=L.drop (L.length-k)):=by
 unfold Za1;rw[YDT];constructor
 .rintro⟨k,hk,h⟩;have hk:=YAn.mp hk;simp only[YAT,List.not_mem_nil,or_false]at h;exact⟨k+1,by omega,by omega,h⟩
 .rintro⟨k,h1,h2,h⟩;refine⟨k-1,YAn.mpr (by omega),?_⟩;have e:k-1+1=k:=by omega
  rw[e];simpa using h
theorem ZgG {H:Hp}{zs:List V}{rs:List (Q11×List V)}(h:RowsA H zs rs){i:Nat}(hi:i<zs.length):∃t u,zs.getD i .non=.ref t/\H t=some (.tup [tx ((rs.map (·.1)).getD i []),u]):=by obtain⟨r,hr,t,b,e,h1,_⟩:=h.2 i zs[i] (YAH hi);refine⟨t,.ref b,by rw[YAR,YAH hi];exact e,?_⟩;rw[h1,YAR,YAc,hr];rfl
theorem Zji {rs:List (Q11×List V)}{n:Nat}(h:n=rs.length):((List.range n).filter fun _=>true).map (fun i=>tx ((rs.map (·.1)).getD i []))=(rs.map (·.1)).map tx:=by
 subst h;rw[List.filter_eq_self.mpr (fun _ _=>rfl)];apply YCM (by simp);intro i h1 h2;have hi:i<rs.length:=by simpa using h2
 simp[YAR,YAH hi]
theorem Zgg {kvs:List (Key×V)}{k:Key}{v:V}(h:valV kvs k=some v):k∈kvs.map (·.1):=by
 unfold valV at h;obtain⟨p,hp,_⟩:=YDH.mp h;have e:p.1=k:=by simpa using List.find?_some hp
 rw[<-e];exact YBa (List.mem_of_find?_eq_some hp)
theorem Zka {k:Key}(l:List (Key×V))(v:V)(h:k∈l.map (·.1)):(putK l k v).map (·.1)=l.map (·.1):=by
 unfold putK;have ha:(l.any fun kv=>decide (kv.1=k))=true:=by obtain⟨p,hp,e⟩:=YAg.mp h;exact YCC.mpr ⟨p,hp,decide_eq_true e⟩
 rw[YAM ha,YBS];refine YCH fun p _=>?_;show (if p.1=k then (p.1,v) else p).1=p.1;split<;>rfl
structure DI (H:Hp)(s L rs:Q11)(S:Q11->Prop)(kvs:List (Key×V))(ws:Q22):Prop where
 keys:kvs.map (·.1)=ws.map kTx
 nd:ws.Nodup
 mem:∀w,w∈ws↔Miss L w/\S w
 val:∀w∈ws,∃b,valV kvs (kTx w)=some (.ref b)/\H b=some (.tup [tx rs,tx (shOf s w),.int (fpl L (shOf s w):Nat)])
theorem DI.grow {H H':Hp}{s L rs:Q11}{S S':Q11->Prop}{kvs:List (Key×V)}{ws:Q22}(h:DI H s L rs S kvs ws)(sm:∀b us,H b=some (.tup us)->H' b=some (.tup us))(hS:∀w,Miss L w->(S w↔S' w)):DI H' s L rs S' kvs ws:=
 ⟨h.keys,h.nd,fun w=>(h.mem w).trans ⟨fun ⟨a,b⟩=>⟨a,(hS w a).mp b⟩,fun ⟨a,b⟩=>⟨a,(hS w a).mpr b⟩⟩,fun w hw=>let ⟨b,h1,h2⟩:=h.val w hw;⟨b,h1,sm _ _ h2⟩⟩
theorem DI.put {H:Hp}{s L rs:Q11}{S:Q11->Prop}{kvs:List (Key×V)}{ws:Q22}{x:Q11}{b:AD}(h:DI H s L rs S kvs ws)(mx:Miss L x)(hb:H b=some (.tup [tx rs,tx (shOf s x),.int (fpl L (shOf s x):Nat)])):
  ∃ws',DI H s L rs (fun w=>S w\/w=x) (putK kvs (kTx x) (.ref b)) ws':=by
 by_cases hx:x∈ws
 .refine⟨ws,?_,h.nd,fun w=>?_,fun w hw=>?_⟩
  .rw[Zka,h.keys];rw[h.keys];exact YBa hx
  .rw[h.mem];constructor
   .rintro⟨a,c⟩;exact⟨a,.inl c⟩
   .rintro⟨a,c | rfl⟩
    .exact⟨a,c⟩
    .exact(h.mem w).mp hx
  .rw[Zek];by_cases e:w=x
   .subst e;exact⟨b,by rw[YAM rfl],hb⟩
   .rw[YAI (fun z=>e (Zcp z))];exact h.val w hw
 .have hv:valV kvs (kTx x)=none:=by
   cases e:valV kvs (kTx x) with
   | none=>rfl
   | some v=>
    exfalso;have:=Zgg e;rw[h.keys]at this;obtain⟨y,hy,e2⟩:=YAg.mp this;exact hx (Zcp e2▸hy)
  refine⟨ws++[x],?_,?_,fun w=>?_,fun w hw=>?_⟩
  .rw[ZgK _ hv,YBb,h.keys,YBb];rfl
  .rw[YBx];refine⟨h.nd,by simp,fun a ha c hc e=>?_⟩;rw[YAL.mp hc]at e;exact hx (e▸ha)
  .rw[YAW,YAL,h.mem];constructor
   .rintro (⟨a,c⟩ | rfl)
    .exact⟨a,.inl c⟩
    .exact⟨mx,.inr rfl⟩
   .rintro⟨a,c | rfl⟩
    .exact .inl ⟨a,c⟩
    .exact .inr rfl
  .rw[Zek];by_cases e:w=x
   .subst e;exact⟨b,by rw[YAM rfl],hb⟩
   .rw[YAI (fun z=>e (Zcp z))];rcases YAW.mp hw with z | z
    .exact h.val w z
    .exact absurd (YAL.mp z) e
theorem Zem {H H':Hp}{P pd:AD}{pos:Pos}{q:Str}{o0:HO}(T:TblOk H P pos q)(k:∀b o,H b=some o->b≠pd->H' b=some o)(h:H pd=some o0)(t:Zc6 o0=false)(x:Zkc o0=false):TblOk H' P pos q:=by obtain⟨ps,e,tr,hc⟩:=T;refine⟨ps,k _ _ e (fun z=>by rw[z,h]at e;cases e;cases t),tr,hc.imp id ?_⟩;rintro⟨c,e1,e2⟩;exact⟨c,e1,k _ _ e2 (fun z=>by rw[z,h]at e2;unfold ZeV at e2;cases e2;cases x)⟩
theorem Zb0 (rs s L m:Q11):(Zep rs s L m).map (·.1)=opnL s L m:=by unfold Zep;rw[YBS];exact List.map_id' _
theorem Zb1 (rs s L m:Q11):(Zfc rs s L m).map (·.1)=filL s L m:=by unfold Zfc;rw[YBS];exact List.map_id' _
theorem ZbO {l m:Q11}(hm:m.length<=4)(hl:l.length<=40):(Zan l m).length<=6724:=ZcU hm hl (by omega)
theorem ZgY {C:AD}{H H3 H4:Hp}{p la da t c g la2:AD}{l l2 m:Q11}{ds ds2:List (Bool×Nat)}{ts2:List V}{rc rg:List (Q11×List V)}
  (hp:StripAt C H p la da l m ds) (c3:Chg [da] H H3) (d3:H3 da=some (.lst ts2)) (e3:DeedsA H3 ts2 ds2) (ch:Chg [p] H3 H4) (f4:Zc3 C H4 p la2 da l2 m) (l4:H4 la2=some (.lst ((Zan l2 m).map tx))) (an:AnsS H3 H4 t c g la2 rc rg) (run:Run m ds2 l2):
  Chg [p,da] H H4/\StripAt C H4 p la2 da l2 m ds2/\AnsS H H4 t c g la2 rc rg:=by
 obtain⟨⟨dx,f⟩,hk,⟨ts,d1,d2⟩,_,ok,nld⟩:=id hp;have npd:p≠da:=fun z=>by rw[z,d1]at f;cases f
 have f3:=c3 _ _ f (by simpa using npd) rfl;have nw:∀r,Nw H3 r->Nw H r:=fun r n=>n.chg c3 fun b hb=>by obtain rfl:=YAL.mp hb;exact⟨_,d3,rfl⟩
 refine⟨(c3.mono (by simp)).trans (ch.mono (by simp)),⟨f4,l4,⟨ts2,ch _ _ d3 (by simpa using YBM npd) rfl,e3.chg ch fun b hb us z=>by rw[YAL.mp hb,f3]at z;cases z⟩,run,ok,YBM (an.nl.ne d3 rfl)⟩,⟨an.tup,an.came,an.went,nw _ an.nc,nw _ an.ng,nw _ an.nl,an.ncg,an.ncl,an.ngl⟩⟩
noncomputable def okN (x:Str):Bool:=!decide (x="own_text")&&!decide (x="own_kinds")&&!decide (x="own_lacking")&&!decide (x="own_deeds")
theorem sN {l m:Q11}{la da:AD}{x:Str}(h:okN x=true):(sF l m la da).lookup x=none:=by unfold okN at h;simp only[YAQ,Bool.not_eq_true',decide_eq_false_iff_not]at h;exact Zp5 h.1.1.1 h.1.1.2 h.1.2 h.2
structure RingOk (l m:Q11):Prop where
 k:isk m=true
 m1:1<=m.length
 m4:m.length<=4
 l1:1<=l.length
 l20:l.length<=20
 mem:∀x∈l,x∈m
theorem Zg6 {x y:Int}(hx:0<=x)(hy:0<y):Int.gcd y (x % y)=Int.gcd x y:=by obtain⟨m,rfl⟩:∃m:Nat,x=(m:Int):=⟨x.toNat,by omega⟩;obtain⟨n,rfl⟩:∃n:Nat,y=(n:Int):=⟨y.toNat,by omega⟩;have e:((m:Int) % (n:Int))=((m % n:Nat):Int):=(Int.natCast_emod m n).symm;rw[e];show Nat.gcd _ _=Nat.gcd _ _;simp only[Int.natAbs_natCast];rw[Nat.gcd_comm m n,Nat.gcd_rec n m,Nat.gcd_comm]
theorem at2 {x y:Int}{k:Bool}:∃z:Int,atI [V.int x,V.int y] (if k then 1 else 0)=some (.int z):=by
 cases k
 .exact⟨x,rfl⟩
 .exact⟨y,rfl⟩
def TT (a:Ad)(H:Hp):Prop:=TblOk H a.t_K2 lpos lq/\TblOk H a.t_K7 Zn0 lqM/\TblOk H a.t_LP ZnZ lqR
theorem TT.same {a:Ad}{H H':Hp}(t:TT a H)(s:Same H H'):TT a H':=⟨t.1.same s,t.2.1.same s,t.2.2.same s⟩
theorem TT.upd {a:Ad}{H:Hp}{b:AD}{o o':HO}(t:TT a H)(h:H b=some o)(n1:Zc6 o=false)(n2:Zkc o=false):TT a (upd H b o'):=⟨t.1.upd h n1 n2,t.2.1.upd h n1 n2,t.2.2.upd h n1 n2⟩
theorem Zlb {a:Ad}{H H':Hp}{pd:AD}{o0:HO}(T:TT a H)(k:∀b o,H b=some o->b≠pd->H' b=some o)(h:H pd=some o0)(t:Zc6 o0=false)(x:Zkc o0=false):TT a H':=⟨Zem T.1 k h t x,Zem T.2.1 k h t x,Zem T.2.2 k h t x⟩
def BandA (a:Ad)(H:Hp)(p:AD)(l m:Q11):Prop:=RingAt a.c_LH H p l m\/∃la da ds,StripAt a.c_LI H p la da l m ds
theorem BandA.l {a:Ad}{H H':Hp}{p:AD}{l m:Q11}(h:BandA a H p l m)(s:SameL H H'):BandA a H' p l m:=by
 rcases h with⟨dx,h⟩|⟨la,da,ds,h⟩
 .exact .inl ⟨dx,s _ _ h rfl⟩
 .exact .inr ⟨la,da,ds,h.l s⟩
def Zjq (H:Hp)(zs:List V)(ds xs:Q22):Prop:=zs.length=ds.length/\∀(i:Nat) (y:V),zs[i]?=some y->∃w t,ds[i]?=some w/\y=.ref t/\H t=some (.tup [tx w,.int (if w∈xs then 0 else 1)])
structure LsOk (xs:Q22):Prop where
 srt:xs.Pairwise BefW
 len:xs.length<=200
 w:∀w∈xs,1<=w.length/\w.length<=41
theorem ZeT {a:Ad} {H:Hp} {p:AD} {l m:Q11} {x:Str} {R1 R2:Prop} (h:BandA a H p l m) (n1:¬x="own_text") (n2:¬x="own_kinds") (n3:okN x=true) (r1:RingAt a.c_LH H p l m->R1) (r2:∀la da ds,StripAt a.c_LI H p la da l m ds->R2):
  (∃(a_1 dx:AD) (fs:List (Str×V)),V.ref p=V.ref a_1/\H a_1=some (HO.ins a.c_LH dx fs)/\fs.lookup x=none/\R1)\/∃(a_1 dx:AD) (fs:List (Str×V)),V.ref p=V.ref a_1/\H a_1=some (HO.ins a.c_LI dx fs)/\fs.lookup x=none/\R2:=by
 rcases h with⟨dx,f⟩|⟨la,da,ds,h⟩
 .exact .inl ⟨p,dx,_,rfl,f,ZdF n1 n2,r1 ⟨dx,f⟩⟩
 .obtain⟨dx,f⟩:=id h.fld;exact .inr ⟨p,dx,_,rfl,f,sN n3,r2 la da ds h⟩
theorem ZnQ {K:Q4}{H:Hp}{Q:VK}{x y:Q11}(n:x≠y)(h:Q (.bl true) H):rEqD K true (tx x) (tx y) H Q:=.inl ⟨rfl,by rw[YAM rfl,ZcJ,decide_eq_false n];exact h⟩
theorem lsOk {l m:Q11}(ok:StripOk l m):LsOk (Zan l m):=by refine⟨ZaI (ZcD ok.k),YAK (ZhK (ZcD ok.k)) (YAK (YDM ok.m4 (YCt ok.l40)) (by decide)),fun w hw=>?_⟩;have ms:=(Zay.mp hw).1;have h1:=ms.tail.len;rw[YDU]at h1;have h2:=YBK.mpr ms.ne;have:=ok.l40;omega
theorem ZfJ {a b ds:Q22}(h:ds.Perm (Za3 (xorT (ddl a) (ddl b)))):IsDiff a b ds:=by
 have h:=h.trans (ZaG _);refine⟨h.nodup_iff.mpr ?_,fun w=>?_⟩
 .unfold xorT;rw[YBx];refine⟨(ZbN _).filter _,(ZbN _).filter _,fun x hx y hy e=>?_⟩;subst e;have h1:=(YAr.mp hx).1;have h2:=of_decide_eq_true (YAr.mp hy).2;exact h2 h1
 .rw[h.mem_iff];unfold xorT;simp[YAW,YAr,Zdt]
theorem Zcm {C T:AD->Hp->Prop}{R:Prop}(h1:(∀r H,C r H->T r H)->R)(h2:∀r H,C r H->T r H):R:=h1 h2
theorem Zk0 (ls:Q22):(ddl ls).length<=ls.length:=ZbM _ _ (ZbN ls) fun _ h=>Zdt.mp h
theorem Zc1 {a b ds:Q22}(h:IsDiff a b ds)(ha:LsOk a)(hb:LsOk b){w:Q11}(hw:w∈ds):1<=w.length/\w.length<=41:=((h.mem w).mp hw).elim (fun z=>ha.w w z.1) (fun z=>hb.w w z.1)
theorem Zce {a b ds:Q22}(h:IsDiff a b ds)(ha:LsOk a)(hb:LsOk b):ds.length<=400:=by have:=ZbM ds (a++b) h.nd fun w hw=>YAW.mpr (((h.mem w).mp hw).imp (fun z=>z.1) (fun z=>z.1));rw[YAF]at this;have:=ha.len;have:=hb.len;omega
theorem ZoD:Bt 340 ((400*DD:Nat):Int):=⟨by omega,by show 400*DD<2 ^ 340;decide +kernel⟩
theorem Zkg {W:Nat}(h:W<=400*DD):Bt 340 (frT (W:Nat) (DD:Nat))/\Bt 340 (frB (W:Nat) (DD:Nat))/\0<frB (W:Nat) (DD:Nat):=by have dp:=ZdO;obtain⟨a1,a2,a3,a4,_⟩:=ZbJ (a:=(W:Nat)) (b:=(DD:Nat)) (by omega) (by omega);exact⟨ZoD.le a1 (by omega),ZoD.le (by omega) (by omega),by omega⟩
theorem Zms {ws:Q22}(h:∀w∈ws,1<=w.length/\w.length<=41):WS ws<=ws.length*DD:=by
 induction ws with
 | nil=>exact YAv _
 | cons w ws ih=>
  have i:=ih fun u hu=>h u (by simp[hu]);obtain⟨h1,h2⟩:=h w (by simp);have e:=Zgy h1 h2;have k:wtN w.length<=DD:=by rw[<-e];exact Nat.le_mul_of_pos_left _ (Nat.mul_pos h1 h1)
  unfold WS at *;simp only[YAi,List.sum_cons,YAd,Nat.add_mul,Nat.one_mul];omega
theorem Zl6 {W n:Nat}{s:Int}(h1:1<=n)(h2:n<=41)(hs:s=((n*n:Nat):Int)):
  frT (frT (W:Nat) (DD:Nat)*frB 1 s+frT 1 s*frB (W:Nat) (DD:Nat)) (frB (W:Nat) (DD:Nat)*frB 1 s)=frT ((W+wtN n:Nat):Int) (DD:Nat)/\frB (frT (W:Nat) (DD:Nat)*frB 1 s+frT 1 s*frB (W:Nat) (DD:Nat)) (frB (W:Nat) (DD:Nat)*frB 1 s)=frB ((W+wtN n:Nat):Int) (DD:Nat):=by
 have dp:=ZdO;have sp:0<s:=by rw[hs];have:=Nat.mul_pos h1 h1;omega
 have e:s*(wtN n:Nat)=(DD:Nat):=by rw[hs,<-YCi,Zgy h1 h2]
 obtain⟨a1,a2,a3,a4,a5,a6⟩:=ZbJ (a:=(W:Nat)) (b:=(DD:Nat)) (by omega) (by omega);obtain⟨b1,b2,b3,b4,b5,b6⟩:=ZbJ (a:=1) (b:=s) (by decide) sp;generalize frT (W:Nat) (DD:Nat)=x at *;generalize frB (W:Nat) (DD:Nat)=y at *;generalize frT 1 s=z at *;generalize frB 1 s=u at *;refine ZeH (Int.add_nonneg (Int.mul_nonneg a1 (by omega)) (Int.mul_nonneg b1 (by omega))) (Int.mul_pos (by omega) (by omega)) (by omega) (by omega) ?_;have q1:(x*u+z*y)*(DD:Nat)=(x*(DD:Nat))*u+z*y*(DD:Nat):=by rw[Int.add_mul];congr 1;ac_rfl
 have q2:z*y*(DD:Nat)=(z*s)*(y*(wtN n:Nat)):=by rw[<-e];ac_rfl
 rw[q1,q2,a6,b6,Int.natCast_add,Int.add_mul,Int.mul_one];congr 1<;>ac_rfl
theorem Zmb (p:Q11->Bool)(xs:Q22):((List.range (xs.map tx).length).filter fun i=>p (xs.getD i [])).map (fun i=>tx (xs.getD i []))=(xs.filter p).map tx:=by rw[YAB,<-Zcb p [] xs,YBS];rfl
theorem Zhe {xs ys:Q22}(hx:xs.Nodup)(hy:ys.Nodup):IsDiff xs ys ((xs.filter fun v=>!decide (v∈ys))++ys.filter fun v=>!decide (v∈xs)):=by refine⟨?_,fun w=>by simp[YAW,YAr]⟩;rw[YBx];refine⟨hx.filter _,hy.filter _,fun x h y k e=>?_⟩;subst e;have h1:=(YAr.mp h).1;have h2:=(YAr.mp k).2;rw[decide_eq_true h1]at h2;cases h2
theorem ZqN {ws:Q22}{i:Nat}{x:V}(h:(ws.map tx)[i]?=some x):∃w,ws[i]?=some w/\x=tx w:=by rw[YAc]at h;obtain⟨w,h1,h2⟩:=YDH.mp h;exact⟨w,h1,h2.symm⟩
theorem Zii {H:Hp}{v:V}:∀ {ys:List V} {ws:Q22},ys.length=ws.length->(∀(k:Nat) (y:V),ys[k]?=some y->∃t w,y=.ref t/\ws[k]?=some w/\H t=some (.tup [tx w,v]))->∃rs:List (AD×Q11),ys=rs.map (fun r=>.ref r.1)/\ws=rs.map (·.2)/\∀r∈rs,H r.1=some (.tup [tx r.2,v])
 | [],[],_,_=>⟨[],rfl,rfl,fun r h=>by cases h⟩
 | [],_::_,hl,_=>by cases hl
 | _::_,[],hl,_=>by cases hl
 | y::ys,w::ws,hl,h=>by
  obtain⟨t,w',rfl,e,ht⟩:=h 0 y rfl;cases e;obtain⟨rs,e1,e2,hr⟩:=Zii (ys:=ys) (ws:=ws) (by simpa using hl) fun k y hk=>h (k+1) y (by simpa using hk);refine⟨(t,w)::rs,by rw[e1];rfl,by rw[e2];rfl,fun r hr'=>?_⟩;rcases YAT.mp hr' with rfl | z
  .exact ht
  .exact hr r z
theorem Zmy {C:AD}{l:AC}:(Value.ref C::l).contains (.ref C)=true:=by simp[YCc]
noncomputable def Zgl (ds xs:Q22):DT:=.l (ds.map fun w=>.t ([tx w,.int (if w∈xs then 0 else 1)].map .f))
theorem Zda {K:Q4}{H:Hp}{r:AD}{zs:List V}{ds xs:Q22}(h:SqL K H r zs)(d:Zjq H zs ds xs):DatOk K H (Zgl ds xs) (.ref r):=by unfold Zgl DatOk;refine⟨r,zs,rfl,h,Zjd (by rw[YAB];exact d.1) fun i y hy=>?_⟩;obtain⟨w,t,e1,rfl,e2⟩:=d.2 i y hy;exact⟨_,by rw[YAc,e1];rfl,datT (.mk e2) rfl⟩
theorem Zhf (ds xs:Q22):deq (Zgl ds xs) (Zgl ds xs)=true:=by unfold Zgl deq;refine ZfK fun d hd=>?_;obtain⟨w,_,rfl⟩:=YAg.mp hd;unfold deq;exact ZcH rfl
theorem Zhg (ds xs:Q22):dep (Zgl ds xs)<=60:=by unfold Zgl dep;refine YAK (YCt (Zi8 (n:=1) fun d hd=>?_)) (by decide);obtain⟨w,_,rfl⟩:=YAg.mp hd;unfold dep;rw[ZcI];exact YAS _
theorem ZiC {l1 l2 m:Q11}{ds:Q22}(ok1:StripOk l1 m)(ok2:StripOk l2 m)(df:IsDiff (Zan l1 m) (Zan l2 m) ds):(frT (WS ds:Nat) (DD:Nat)=0/\frB (WS ds:Nat) (DD:Nat)=1)↔l1=l2:=by
 have dp:=ZdO;constructor
 .rintro⟨h,_⟩;obtain⟨a1,a2,a3,a4,a5,a6⟩:=ZbJ (a:=(WS ds:Nat)) (b:=(DD:Nat)) (by omega) (by omega);rw[h,Int.zero_mul]at a6;have z:WS ds=0:=by rcases Int.mul_eq_zero.mp a6.symm with k | k<;>omega
  have e:=Zmq (fun w hw=>Zc1 df (lsOk ok1) (lsOk ok2) hw) z;refine ZiN ok1.mem ok2.mem fun w=>?_;have k:=df.mem w;rw[e]at k;by_cases h1:w∈Zan l1 m<;>by_cases h2:w∈Zan l2 m<;>simp_all
 .rintro rfl;have e:ds=[]:=List.eq_nil_iff_forall_not_mem.mpr fun w hw=>by rcases (df.mem w).mp hw with z | z<;>exact z.2 z.1
  subst e;have:=ZeH (x:=0) (y:=1) (u:=((WS []:Nat):Int)) (v:=(DD:Nat)) (by decide) (by decide) (by omega) (by omega) (by rw[Zjp];simp);rw[<-this.1,<-this.2];exact⟨by decide,by decide⟩
theorem Zmf (x y u v:Int):deq (.t ([V.int x,V.int y].map .f)) (.t ([V.int u,V.int v].map .f))=(decide (x=u)&&decide (y=v)):=by show (eqV (.int x) (.int u)&&(eqV (.int y) (.int v)&&true))=_;rw[Bool.and_true];congr 1<;>simp[eqV]
def ZoC (l:Q11)(kvs:List (Key×V)):Prop:=(∀kv∈kvs,∃x:Q11,kv.1=kTx x/\Inf x l)/\∀x:Q11,(valV kvs (kTx x)).isSome=infB x l
theorem ZlY {l:Q11}{s e:Nat}(h:s<=e)(he:e<=l.length):Inf ((l.drop s).take (e-s)) l:=by
 refine⟨s,?_,?_⟩
 .rw[YAZ,YAj];omega
 .rw[YAZ,YAj,YBq (by omega)]
theorem Zof {l x:Q11}(h:Inf x l):∃s e,s<=e/\e<=l.length/\x=(l.drop s).take (e-s):=by obtain⟨i,h1,h2⟩:=h;exact⟨i,i+x.length,by omega,h1,by rw[show i+x.length-i=x.length by omega];exact h2.symm⟩
def Sound (l:Q11)(kvs:List (Key×V)):Prop:=∀kv∈kvs,∃x:Q11,kv.1=kTx x/\Inf x l
theorem Sound.put {l x:Q11}{kvs:List (Key×V)}{v:V}(h:Sound l kvs)(hx:Inf x l):Sound l (putK kvs (kTx x) v):=by
 intro kv hkv;unfold putK at hkv;split at hkv
 .obtain⟨k0,h0,rfl⟩:=YAg.mp hkv;obtain⟨y,e,hy⟩:=h k0 h0;refine⟨y,?_,hy⟩;show (if k0.1=kTx x then (k0.1,v) else k0).1=kTx y;split<;>exact e
 .rcases YAW.mp hkv with h1 | h1
  .exact h kv h1
  .rw[YAL.mp h1];exact⟨x,rfl,hx⟩
theorem Zct {kvs:List (Key×V)}{k k':Key}{v:V}(h:(valV kvs k').isSome=true\/k'=k):(valV (putK kvs k v) k').isSome=true:=by
 rw[Zek];split
 .rfl
 .rcases h with h | h
  .exact h
  .exact absurd h (by assumption)
theorem Zj9 {l:Q11}{kvs:List (Key×V)}(h1:Sound l kvs)(h0:(valV kvs (kTx [])).isSome=true)(h2:∀s e,s<l.length->s<=e->e<=l.length->(valV kvs (kTx ((l.drop s).take (e-s)))).isSome=true):ZoC l kvs:=by
 refine⟨h1,fun x=>?_⟩;rw[YBQ,Zbv];constructor
 .intro h;obtain⟨v,hv⟩:=YCy.mp h;obtain⟨kv,hk,ek⟩:=YAg.mp (Zf3 hv);obtain⟨y,ey,hy⟩:=h1 kv hk;rw[<-Zcp (ek.symm.trans ey)]at hy;exact hy
 .intro h;obtain⟨s,e,a,b,rfl⟩:=Zof h;by_cases c:s<l.length
  .exact h2 s e c a b
  .have:(l.drop s).take (e-s)=[]:=by rw[YBu (by omega)];simp
   rw[this];exact h0
theorem ZjZ {kvs:List (Key×V)}{k:Key}(v:V)(hn:(kvs.map (·.1)).Nodup):((putK kvs k v).map (·.1)).Nodup:=by
 cases h:valV kvs k with
 | none=>exact ZlJ v hn h
 | some x=>
  have e:(putK kvs k v).map (·.1)=kvs.map (·.1):=by unfold putK;rw[YAM (by obtain⟨kv,hk,ek⟩:=YAg.mp (Zf3 h);exact YCC.mpr ⟨kv,hk,decide_eq_true ek⟩),YBS];refine YCH fun p _=>?_;show (if p.1=k then (p.1,v) else p).1=p.1;split<;>rfl
  rw[e];exact hn
def Zk5 (l:Q11)(kvs:List (Key×V)):Prop:=ZoC l kvs/\(kvs.map (·.1)).Nodup/\kvs.length<=3000
def SoundD (l:Q11)(kvs:List (Key×V)):Prop:=Sound l kvs/\(kvs.map (·.1)).Nodup
theorem SoundD.put {l x:Q11}{kvs:List (Key×V)}{v:V}(h:SoundD l kvs)(hx:Inf x l):SoundD l (putK kvs (kTx x) v):=⟨h.1.put hx,ZjZ v h.2⟩
theorem Zg2:∀ {kvs:List (Key×V)},(∀kv∈kvs,∃x:Q11,kv.1=kTx x)->∃ss:Q22,ss.map kTx=kvs.map (·.1)
 | [],_=>⟨[],rfl⟩
 | kv::kvs,h=>by obtain⟨ss,e⟩:=Zg2 (kvs:=kvs) fun p hp=>h p (YAP _ hp);obtain⟨x,ex⟩:=h kv YAY;exact⟨x::ss,by rw[YAi,YAi,e,ex]⟩
noncomputable def Zbo (kvs:List (Key×V))(w:Q11)(c:Nat):Bool:=!(valV kvs (kTx (c::w))).isSome&&(valV kvs (kTx (c::w).dropLast)).isSome
noncomputable def ZbD (kvs:List (Key×V))(m w:Q11):Q22:=(m.filter (Zbo kvs w)).map fun c=>c::w
theorem Zjt {α:Type}{es:List α}{n:Nat}{r:α}(h:es[n]?=some r):es.take (n+1)=es.take n++[r]:=by rw[YCl,h];rfl
theorem Zkw {l m:Q11}{kvs:List (Key×V)}(ok:StripOk l m)(kn:Zk5 l kvs){ss:Q22}(hs:ss.map kTx=kvs.map (·.1)):(ss.flatMap (ZbD kvs m)).Nodup/\∀w,w∈ss.flatMap (ZbD kvs m)↔w∈Zan l m:=by
 have nds:ss.Nodup:=by have:=kn.2.1;rw[<-hs]at this;exact List.Pairwise.imp (fun h e=>h (by rw[e])) (YBE.mp this)
 have hm:m.Pairwise (· < ·):=ZcD ok.k;have mem:∀u,u∈ss↔Inf u l:=fun u=>by
  have e:=kn.1.2 u;constructor
  .intro h;have:kTx u∈kvs.map (·.1):=by rw[<-hs];exact YBa h
   obtain⟨kv,hk,ek⟩:=YAg.mp this;obtain⟨x,ex,hx⟩:=kn.1.1 kv hk;rw[Zcp (ek.symm.trans ex)];exact hx
  .intro h;rw[<-Zbv,<-e]at h;obtain⟨v,hv⟩:=YCy.mp h;obtain⟨kv,hk,ek⟩:=YAg.mp (Zf3 hv);have:kTx u∈ss.map kTx:=by rw[hs,<-ek];exact YBa hk
   obtain⟨x,hx,ex⟩:=YAg.mp this;rw[<-Zcp ex];exact hx
 refine⟨?_,fun w=>?_⟩
 .unfold List.Nodup;rw[List.pairwise_flatMap];refine⟨fun u _=>?_,nds.imp fun {u v} huv x hx y hy e=>?_⟩
  .unfold ZbD;rw[YBE];exact List.Pairwise.imp (fun {a b} (h:a<b) (e:a::u=b::u)=>YAf h (by simpa using e)) (hm.filter (Zbo kvs u))
  .unfold ZbD at hx hy;obtain⟨c,_,rfl⟩:=YAg.mp hx;obtain⟨d,_,rfl⟩:=YAg.mp hy;exact huv (List.cons.inj e).2
 .rw[Zay,YDT];constructor
  .rintro⟨u,hu,hw⟩;unfold ZbD at hw;obtain⟨c,hc,rfl⟩:=YAg.mp hw;obtain⟨hcm,hb⟩:=YAr.mp hc;unfold Zbo at hb;rw[kn.1.2,kn.1.2,YAQ,Bool.not_eq_true']at hb;have hu:=(mem u).mp hu;refine⟨⟨by simp,Zbv.mp hb.2,hu,ZcE.mp hb.1⟩,?_⟩;cases hr:u.getLast? with
   | none=>rw[List.getLast?_eq_none_iff.mp hr];exact⟨c,hcm,rfl⟩
   | some d=>
    obtain⟨u',rfl⟩:=List.getLast?_eq_some_iff.mp hr;exact⟨d,ok.mem d (hu.mem (by simp)),by rw[<-YCu,List.getLast?_concat]⟩
  .rintro⟨ms,c,hc,hl⟩;obtain⟨d,u,rfl⟩:=List.exists_cons_of_ne_nil ms.ne;refine⟨u,(mem u).mpr ms.tail,?_⟩;unfold ZbD Zbo;refine YAg.mpr ⟨d,YAr.mpr ⟨?_,?_⟩,rfl⟩
   .by_cases z:u=[]
    .subst z;cases hl;exact hc
    .obtain⟨y,u',rfl⟩:=List.exists_cons_of_ne_nil z;exact ok.mem d (ms.init.mem (by simp))
   .rw[kn.1.2,kn.1.2,YAQ,Bool.not_eq_true'];exact⟨ZcE.mpr ms.no,Zbv.mpr ms.init⟩
def BandN (a:Ad)(H0 H:Hp)(p:AD)(l m:Q11):Prop:=RingAt a.c_LH H p l m\/∃la da ds,StripAt a.c_LI H p la da l m ds/\Nw H0 la/\Nw H0 da
def BandX (a:Ad)(H:Hp)(c p:AD)(l m:Q11):Prop:=RingAt a.c_LH H p l m\/∃la da ds,StripAt a.c_LI H p la da l m ds/\c≠la/\c≠da
theorem BandN.x {a:Ad}{H0 H:Hp}{p c:AD}{l m:Q11}{xs:List V}(h:BandN a H0 H p l m)(e:H0 c=some (.lst xs)):BandX a H c p l m:=by
 rcases h with h | ⟨la,da,ds,h,n1,n2⟩
 .exact .inl h
 .exact .inr ⟨la,da,ds,h,n1.ne e rfl,n2.ne e rfl⟩
theorem BandX.a {a:Ad}{H:Hp}{c p:AD}{l m:Q11}(h:BandX a H c p l m):BandA a H p l m:=h.imp id fun ⟨la,da,ds,h,_,_⟩=>⟨la,da,ds,h⟩
theorem BandX.l {a:Ad}{H H':Hp}{c p:AD}{l m:Q11}(h:BandX a H c p l m)(s:SameL H H'):BandX a H' c p l m:=by
 rcases h with⟨dx,h⟩|⟨la,da,ds,h,n1,n2⟩
 .exact .inl ⟨dx,s _ _ h rfl⟩
 .exact .inr ⟨la,da,ds,h.l s,n1,n2⟩
theorem BandX.upd {a:Ad}{H:Hp}{c p:AD}{l m:Q11}{xs:List V}{o:HO}(h:BandX a H c p l m)(e:H c=some (.lst xs)):BandX a (upd H c o) c p l m:=by
 rcases h with⟨dx,h⟩|⟨la,da,ds,h,n1,n2⟩
 .exact .inl ⟨dx,by rw[Zai (fun z=>by rw[z,e]at h;cases h)];exact h⟩
 .exact .inr ⟨la,da,ds,h.upd e n1 n2,n1,n2⟩
theorem Zlj {ys:List V}{y z:V}{k:Nat}(h:(ys++[y])[k]?=some z):ys[k]?=some z\/(k=ys.length/\z=y):=by
 by_cases hk:k<ys.length
 .rw[YAx hk]at h;exact .inl h
 .rw[YAw (by omega)]at h;rcases Nat.eq_zero_or_pos (k-ys.length) with e | e
  .rw[e]at h;cases h;exact .inr ⟨by omega,rfl⟩
  .rw[YBI (by simp;omega)]at h;cases h
theorem Ze3 {K:Q4}{H H':Hp}{a:AD}{xs:List V}(h:SqL K H a xs)(s:SameL H H'):SqL K H' a xs:=by
 rcases h with h | h
 .rcases h with h | ⟨o,h⟩
  .exact .inl (.inl (s _ _ h rfl))
  .exact .inl (.inr ⟨o,s _ _ h rfl⟩)
 .exact .inr h
theorem Zi5 {α β:Type}(d:α)(P:α->Bool)(g:α->β)(l:List α):((List.range l.length).filter fun i=>P (l.getD i d)).map (fun i=>g (l.getD i d))=(l.filter P).map g:=by
 have e:l=(List.range l.length).map fun i=>l.getD i d:=by apply YCM (by simp);intro i h1 h2;simp[YAR,h1]
 conv=>rhs;rw[e]
 rw[List.filter_map,YBS];rfl
theorem ZhL {F m:Q11}{c:Nat}(nd:F.Nodup)(sub:∀x∈F,x∈LET)(h1:1<=F.length)(h4:F.length<=4)(hc:c∈F)(hm:c∉m):KOk (Za3 (signs F)).flatten/\(Za3 (signs F)).flatten≠m:=by obtain⟨a,b⟩:=ZhO nd sub h1 h4;refine⟨⟨a,by omega,by omega⟩,fun e=>hm ?_⟩;rw[<-e,List.mem_flatten];refine⟨[c],(ZaG _).mem_iff.mpr ?_,by simp⟩;unfold signs;exact YAg.mpr ⟨c,hc,rfl⟩
theorem KOk.let {m:Q11}(h:KOk m):∀c∈m,c∈LET:=fun c hc=>by have hk:=h.k;unfold isk at hk;simp only[YAQ]at hk;have:=YBO.mp hk.1.2 c hc;simpa using this
theorem Ze5 {m:Q11}(h:m.length<=4):([97,122,98,121,99]:Q11).filter (fun c=>!decide (c∈m))≠[]:=by
 intro e;have all:∀c∈([97,122,98,121,99]:Q11),c∈m:=fun c hc=>by have:=List.filter_eq_nil_iff.mp e c hc;simpa using this
 have:=ZbM _ m (by decide) all;simp at this;omega
theorem Zib (F:Q11):((Za3 (signs F)).map List.length).sum=F.length:=by
 rw[((ZaG (signs F)).map _).sum_nat];unfold signs;rw[YBS];induction F with
 | nil=>rfl
 | cons x F ih=>rw[YAi,List.sum_cons,ih,YAd];simp;omega
def ZpB (K:Q4)(a:Ad):Sp:=fun vs H Q _=>∃l m,vs=[tx l,tx m]/\l.length<=1000/\∀H2,Same H H2->Q (.bl (l.all fun c=>m.contains c)) H2
def Zpz (K:Q4)(a:Ad):Sp:=fun vs H Q _=>∃l,vs=[tx l]/\l.length<=1000/\∀H2,Same H H2->Q (.bl (isk l)) H2
def Zpy (K:Q4)(a:Ad):Sp:=fun vs H Q _=>∃l m most,vs=[tx l,tx m,.int most]/\l.length<=1000/\∀H2,Same H H2->Q (.bl (isw l m most)) H2
def Zph (K:Q4)(a:Ad):Sp:=fun vs H Q _=>∃l,vs=[tx l]/\l.length<=1000/\isk l=true/\∀H2,Same H H2->Q .non H2
def Zpc (K:Q4)(a:Ad):Sp:=fun vs H Q _=>∃l m most,vs=[tx l,tx m,.int most]/\l.length<=1000/\isw l m most=true/\∀H2,Same H H2->Q .non H2
def Zo3 (K:Q4)(a:Ad):Sp:=fun vs H Q _=>∃(l:Q11) (n:Nat),vs=[tx l,.int n]/\l.length<=200/\n<=l.length+1/\l.length<n+63/\∀p H2,Same H H2->H p=none->H2 p=some (.lst ((wordsOf l n).map tx))->Q (.ref p) H2
def Zo2 (K:Q4)(a:Ad):Sp:=fun vs H Q _=>∃(b1 b2:AD) (sh st:Q22) (m:Q11),vs=[.ref b1,.ref b2,tx m]/\H b1=some (.lst (sh.map tx))/\H b2=some (.lst (st.map tx))/\sh.length<=100/\m.length<=4/\(∀w∈sh,w.length<=100)/\∀p H2,Same H H2->H p=none->H2 p=some (.lst ((ZdP sh st m).map tx))->Q (.ref p) H2
def Zpl (K:Q4)(a:Ad):Sp:=fun vs H Q _=>∃(p dx:AD) (l m:Q11),vs=[.ref p,tx l,tx m]/\H p=some (.ins a.c_LH dx [])/\StripOk l m/\∀H2,RingAt a.c_LH H2 p l m->(∀b o,H b=some o->b≠p->H2 b=some o)->Q .non H2
def Zpt (K:Q4)(a:Ad):Sp:=fun vs H Q _=>∃(p:AD) (l m:Q11) (n:Nat),vs=[.ref p,.int n]/\RingAt a.c_LH H p l m/\Q (tx l) H
def Zpm (K:Q4)(a:Ad):Sp:=fun vs H Q _=>∃(p:AD) (l m:Q11) (n:Nat),vs=[.ref p,.int n]/\RingAt a.c_LH H p l m/\StripOk l m/\n<=l.length+1/\∀q H2,Same H H2->H q=none->H2 q=some (.lst ((wordsOf l n).map tx))->Q (.ref q) H2
def Zpn (K:Q4)(a:Ad):Sp:=fun vs H Q _=>∃(p:AD) (l m:Q11),vs=[.ref p]/\RingAt a.c_LH H p l m/\StripOk l m/\Q (.int ((l.length:Nat)+1)) H
def Zpr (K:Q4)(a:Ad):Sp:=fun vs H Q _=>∃(p:AD) (l m:Q11),vs=[.ref p]/\RingAt a.c_LH H p l m/\StripOk l m/\∀q H2,Same H H2->H2 q=some (.lst ((Zan l m).map tx))->Q (.ref q) H2
def ZpA (K:Q4)(a:Ad):Sp:=fun vs H Q _=>∃(p:AD) (ws:Q22),vs=[.ref p]/\H p=some (.lst (ws.map tx))/\(∀w∈ws,w.length<=1000)/\TT a H/\∀(ws':Q22) (r:AD) (H2:Hp),ws'.Perm ws->ws'.Pairwise (fun a b=>¬BefW b a)->SameL H H2->TT a H2->H r=none->H2 r=some (.lst (ws'.map tx))->Q (.ref r) H2
def Zo0 (K:Q4)(a:Ad):Sp:=fun vs H Q _=>∃(l x:Q11),vs=[tx l,tx x]/\l.length<=1000/\x.length<=1000/\Q (.bl (ZiO l x)) H
def Zo1 (K:Q4)(a:Ad):Sp:=fun vs H Q _=>∃(s L:Q11),vs=[tx s,tx L]/\L.length<=41/\Ext s L/\TT a H/\∀(F:Q22) (r:AD) (H2:Hp),F.Pairwise BefW->(∀w,w∈F↔Frs s L w)->SameL H H2->TT a H2->Nw H r->H2 r=some (.lst (F.map tx))->Q (.ref r) H2
def Zo9 (K:Q4)(a:Ad):Sp:=fun vs H Q _=>∃(s L rs m:Q11),vs=[tx s,tx L,tx rs]/\L.length<=41/\Ext s L/\(∀x∈L,x∈m)/\m.Pairwise (· < ·)/\TT a H/\∀(ys:List V) (r:AD) (H2:Hp),SameL H H2->TT a H2->Nw H r->H2 r=some (.lst ys)->RowsA H2 ys (Zfc rs s L m)->Q (.ref r) H2
def Zo4 (K:Q4)(a:Ad):Sp:=fun vs H Q _=>∃(s L rs m:Q11),vs=[tx s,tx L,tx m,tx rs]/\L.length<=41/\Ext s L/\(∀x∈L,x∈m)/\m.Pairwise (· < ·)/\m.length<=4/\TT a H/\∀(ys:List V) (r:AD) (H2:Hp),SameL H H2->TT a H2->Nw H r->H2 r=some (.lst ys)->RowsA H2 ys (Zep rs s L m)->Q (.ref r) H2
def Zps (K:Q4)(a:Ad):Sp:=fun vs H Q _=>∃(p la da:AD) (l m:Q11) (ds:List (Bool×Nat)),vs=[.ref p]/\StripAt a.c_LI H p la da l m ds/\∀r,H r=none->Q (.ref r) (upd H r (.lst ((Zan l m).map tx)))
def Zpq (K:Q4)(a:Ad):Sp:=fun vs H Q _=>∃(p la da c g:AD) (l l2 m:Q11) (old new:Q22) (ys zs:List V) (rc rg:List (Q11×List V)),vs=[.ref p,tx l2,.ref c,.ref g]/\Zc3 a.c_LI H p la da l m/\H la=some (.lst (old.map tx))/\H c=some (.lst ys)/\RowsA H ys rc/\H g=some (.lst zs)/\RowsA H zs rg/\old.Pairwise BefW/\new.Pairwise BefW/\(rc.map (·.1)).Nodup/\(∀w,w∈rc.map (·.1)↔w∈new/\w∉old)/\(∀w,w∈rg.map (·.1)↔w∈old/\w∉new)/\old.length<=9000/\rc.length<=9000/\rg.length<=9000/\(∀w∈old,w.length<=1000)/\(∀w∈new,w.length<=1000)/\TT a H/\∀(t la2:AD) (H2:Hp),Chg [p] H H2->Zc3 a.c_LI H2 p la2 da l2 m->Nw H la2->H2 la2=some (.lst (new.map tx))->H2 t=some (.tup [.ref c,.ref g])->TT a H2->Q (.ref t) H2
def Zpj (K:Q4)(a:Ad):Sp:=fun vs H Q _=>∃(p la da:AD) (s L m:Q11),vs=[.ref p,tx L]/\Zc3 a.c_LI H p la da s m/\H la=some (.lst ((Zan s m).map tx))/\L.length<=40/\Ext s L/\(∀x∈L,x∈m)/\KindsOk m/\TT a H/\∀(t c g la2:AD) (H2:Hp),Chg [p] H H2->Zc3 a.c_LI H2 p la2 da L m->H2 la2=some (.lst ((Zan L m).map tx))->AnsS H H2 t c g la2 (Zep [102,105,114,115,116] s L m) (Zfc [115,116,97,110,100,115] s L m)->TT a H2->Q (.ref t) H2
def Zpp (K:Q4)(a:Ad):Sp:=fun vs H Q _=>∃(p la da:AD) (s L m:Q11),vs=[.ref p,tx s]/\Zc3 a.c_LI H p la da L m/\H la=some (.lst ((Zan L m).map tx))/\L.length<=40/\Ext s L/\(∀x∈L,x∈m)/\KindsOk m/\TT a H/\∀(t c g la2:AD) (H2:Hp),Chg [p] H H2->Zc3 a.c_LI H2 p la2 da s m->H2 la2=some (.lst ((Zan s m).map tx))->AnsS H H2 t c g la2 (Zfc [115,116,111,111,100] s L m) (Zep [108,97,115,116] s L m)->TT a H2->Q (.ref t) H2
def Zpf (K:Q4)(a:Ad):Sp:=fun vs H Q _=>∃(p dx C:AD) (l m:Q11),vs=[.ref p,tx l,tx m]/\(C=a.c_LH\/C=a.c_LI)/\H p=some (.ins C dx [])/\∀H2,H2 p=some (.ins C dx (putF "own_kinds" (tx m) (putF "own_text" (tx l) [])))->(∀b o,H b=some o->b≠p->H2 b=some o)->Q .non H2
def Zpd (K:Q4)(a:Ad):Sp:=fun vs H Q _=>∃l m,vs=[tx l,tx m]/\l.length<=1000/\∀H2,Same H H2->Q (.bl (isl l m)) H2
def Zpo (K:Q4)(a:Ad):Sp:=fun vs H Q _=>∃l m,vs=[tx l,tx m]/\l.length<=1000/\isl l m=true/\∀H2,Same H H2->Q .non H2
def Zpi (K:Q4)(a:Ad):Sp:=fun vs H Q _=>∃(p dx:AD) (m:Q11),vs=[.ref p,tx m]/\H p=some (.ins a.c_LI dx [])/\KOk m/\∀la da H2,StripAt a.c_LI H2 p la da [] m []->H la=none->H da=none->(∀b o,H b=some o->b≠p->H2 b=some o)->Q .non H2
def Zpe (K:Q4)(a:Ad):Sp:=fun vs H Q _=>∃(p la da:AD) (l m:Q11) (ds:List (Bool×Nat)) (c0:Nat),vs=[.ref p,tx [c0]]/\StripAt a.c_LI H p la da l m ds/\ds.length<=9000/\TT a H/\c0∈m/\l.length<40/\∀(t c g la2:AD) (H2:Hp),Chg [p,da] H H2->StripAt a.c_LI H2 p la2 da (l++[c0]) m (ds++[(true,c0)])->AnsS H H2 t c g la2 (Zep [102,105,114,115,116] l (l++[c0]) m) (Zfc [115,116,97,110,100,115] l (l++[c0]) m)->TT a H2->Q (.ref t) H2
def Zpk (K:Q4)(a:Ad):Sp:=fun vs H Q _=>∃(p la da:AD) (c0:Nat) (l0 m:Q11) (ds:List (Bool×Nat)),vs=[.ref p]/\StripAt a.c_LI H p la da (c0::l0) m ds/\ds.length<=9000/\TT a H/\∀(t c g la2:AD) (H2:Hp),Chg [p,da] H H2->StripAt a.c_LI H2 p la2 da l0 m (ds++[(false,c0)])->AnsS H H2 t c g la2 (Zfc [115,116,111,111,100] l0 (c0::l0) m) (Zep [108,97,115,116] l0 (c0::l0) m)->TT a H2->Q (.ref t) H2
def ZoY (K:Q4)(a:Ad):Sp:=fun vs H Q _=>∃(b:AD) (ns:List Int) (k:Int),vs=[.ref b,.int k]/\SqL K H b (ns.map V.int)/\0<=k/\k<=1000/\∀r:Int,Q (.int r) H
def ZoU (K:Q4)(a:Ad):Sp:=fun vs H Q _=>∃c k,vs=[.int c,.int k]/\∀r:Int,0<=r->Q (.int r) H
def Zo7 (K:Q4)(a:Ad):Sp:=fun vs H Q _=>∃c,vs=[.int c]/\∀m,isk m=true->1<=m.length->m.length<=4->Q (tx m) H
def Zpx (K:Q4)(a:Ad):Sp:=fun vs H Q _=>∃(w c:Int) (m:Q11) (n:Nat),vs=[.int w,.int c,tx m,.int n]/\1<=m.length/\m.length<=4/\n<=60/\∀(l:Q11) H2,l.length=n->(∀x∈l,x∈m)->Same H H2->Q (tx l) H2
def ZoS (K:Q4)(a:Ad):Sp:=fun vs H Q _=>∃i:Int,vs=[.int i]/\Q (.bl true) H
def ZoR (K:Q4)(a:Ad):Sp:=fun vs H Q _=>∃(x y:Int),vs=[.int x,.int y]/\0<=x/\0<=y/\Q (.int (Int.gcd x y:Nat)) H
def ZpC (K:Q4)(a:Ad):Sp:=fun vs H Q _=>∃(x y:Int) (n:Nat),vs=[.int x,.int y]/\0<=x/\0<y/\Bt n y/\n<=8000/\∀p H2,Same H H2->H2 p=some (.tup [.int (frT x y),.int (frB x y)])->Q (.ref p) H2
def ZoP (K:Q4)(a:Ad):Sp:=fun vs H Q _=>∃(p q:AD) (x y z u:Int) (n:Nat),vs=[.ref p,.ref q]/\H p=some (.tup [.int x,.int y])/\H q=some (.tup [.int z,.int u])/\0<y/\0<u/\Bt n x/\Bt n y/\Bt n z/\Bt n u/\n<=3900/\∀p H2,Same H H2->H2 p=some (.tup [.int (frT (x*u+z*y) (y*u)),.int (frB (x*u+z*y) (y*u))])->Q (.ref p) H2
def ZmU (K:Q4)(a:Ad):Sp:=fun vs H Q _=>∃(p:AD) (l m:Q11),vs=[.ref p]/\BandA a H p l m/\Q (tx m) H
def Zpg (K:Q4)(a:Ad):Sp:=fun vs H Q E=>∃(p1 p2:AD) (l1 m1 l2 m2:Q11),vs=[.ref p1,.ref p2]/\BandA a H p1 l1 m1/\BandA a H p2 l2 m2/\((m1=m2/\Q .non H)\/(m1≠m2/\XN0 a.c_K9 E H))
def Zpu (K:Q4)(a:Ad):Sp:=fun vs H Q E=>∃(p1 p2:AD) (l1 m1 l2 m2:Q11),vs=[.ref p1,.ref p2]/\BandA a H p1 l1 m1/\BandA a H p2 l2 m2/\TT a H/\((m1=m2/\StripOk l1 m1/\StripOk l2 m1/\∀(r:AD) (zs:List V) (ds:Q22) (H2:Hp),SameL H H2->TT a H2->Nw H r->H2 r=some (.lst zs)->Zjq H2 zs ds (Zan l1 m1)->IsDiff (Zan l1 m1) (Zan l2 m1) ds->ds.Pairwise BefW->Q (.ref r) H2)\/(m1≠m2/\XN0 a.c_K9 E H))
def Zpa (K:Q4)(a:Ad):Sp:=fun vs H Q E=>∃(p1 p2:AD) (l1 m1 l2 m2:Q11),vs=[.ref p1,.ref p2]/\BandA a H p1 l1 m1/\BandA a H p2 l2 m2/\TT a H/\((m1=m2/\StripOk l1 m1/\StripOk l2 m1/\∀(t:AD) (ds:Q22) (H2:Hp),SameL H H2->TT a H2->IsDiff (Zan l1 m1) (Zan l2 m1) ds->H2 t=some (.tup [.int (frT (WS ds:Nat) (DD:Nat)),.int (frB (WS ds:Nat) (DD:Nat))])->Q (.ref t) H2)\/(m1≠m2/\XN0 a.c_K9 E H))
def ZoV (K:Q4)(a:Ad):Sp:=fun vs H Q _=>∃(b:AD) (ns:List Int) (k:Int) (m:Q11),vs=[.ref b,.int k,tx m]/\SqL K H b (ns.map V.int)/\0<=k/\k<=900/\1<=m.length/\m.length<=4/\∀(l:Q11) H2,l.length<=40->(∀x∈l,x∈m)->Same H H2->Q (tx l) H2
def Zpv (K:Q4)(a:Ad):Sp:=fun vs H Q _=>∃(l m:Q11),vs=[tx l,tx m]/\StripOk l m/\TT a H/\∀r H2,SameL H H2->TT a H2->Nw H r->H2 r=some (.lst ((Zan l m).map tx))->Q (.ref r) H2
def Zo5 (K:Q4)(a:Ad):Sp:=fun vs H Q _=>∃(l m:Q11) (c:Int),vs=[tx l,tx m,.int c]/\StripOk l m/\TT a H/\∀p la da ds H2,SameL H H2->TT a H2->StripAt a.c_LI H2 p la da l m ds->Nw H la->Nw H da->Q (.ref p) H2
def ZoZ (K:Q4)(a:Ad):Sp:=fun vs H Q _=>∃(l m:Q11) (c:Int),vs=[tx l,tx m,.int c]/\StripOk l m/\TT a H/\∀p H2,SameL H H2->TT a H2->BandN a H H2 p l m->Q (.ref p) H2
def ZoQ (K:Q4)(a:Ad):Sp:=fun vs H Q _=>∃(b:AD) (ws:Q22),vs=[.ref b]/\H b=some (.lst (ws.map tx))/\ws.length<=400/\(∀w∈ws,1<=w.length/\w.length<=41)/\∀t H2,Same H H2->H2 t=some (.tup [.int (frT (WS ws:Nat) (DD:Nat)),.int (frB (WS ws:Nat) (DD:Nat))])->Q (.ref t) H2
def Zo8 (K:Q4)(a:Ad):Sp:=fun vs H Q _=>∃(b c:AD) (xs ys:Q22),vs=[.ref b,.ref c]/\H b=some (.lst (xs.map tx))/\H c=some (.lst (ys.map tx))/\LsOk xs/\LsOk ys/\∀(r:AD) (ds:Q22) (H2:Hp),Same H H2->H r=none->H2 r=some (.lst (ds.map tx))->IsDiff xs ys ds->ds.length<=400->Q (.ref r) H2
def Zo6 (K:Q4)(a:Ad):Sp:=fun vs H Q _=>∃(t u:AD) (x y:Int),vs=[.ref t,.ref u]/\H t=some (.tup [.int x,.int y])/\H u=some (.tup [.int x,.int y])/\Q (.bl true) H
def ZoX (K:Q4)(a:Ad):Sp:=fun vs H Q _=>∃(b:AD) (ns:List Int) (k:Int) (l m:Q11),vs=[.ref b,.int k,tx m,tx l]/\SqL K H b (ns.map V.int)/\0<=k/\k<=800/\StripOk l m/\∀(l2:Q11) H2,StripOk l2 m->Same H H2->Q (tx l2) H2
def ZoW (K:Q4)(a:Ad):Sp:=fun vs H Q _=>∃(b c:AD) (xs ys:Q22),vs=[.ref b,.ref c]/\H b=some (.lst (xs.map tx))/\H c=some (.lst (ys.map tx))/\LsOk xs/\LsOk ys/\TT a H/\∀(r:AD) (zs:List V) (ds:Q22) (H2:Hp),SameL H H2->TT a H2->Nw H r->H2 r=some (.lst zs)->Zjq H2 zs ds xs->IsDiff xs ys ds->ds.Pairwise BefW->Q (.ref r) H2
def ZoT (K:Q4)(a:Ad):Sp:=fun vs H Q _=>∃(p1 p2 b c:AD) (l1 l2 m:Q11) (al:Bool),vs=[.ref p1,.ref p2,.ref b,.ref c,.bl al]/\BandA a H p1 l1 m/\BandA a H p2 l2 m/\StripOk l1 m/\StripOk l2 m/\H b=some (.lst ((Zan l1 m).map tx))/\H c=some (.lst ((Zan l2 m).map tx))/\al=decide (l1=l2)/\TT a H/\∀H2,SameL H H2->TT a H2->Q (.bl true) H2
def Zpw (K:Q4)(a:Ad):Sp:=fun vs H Q _=>∃(p1 p2:AD) (l1 m1 l2 m2:Q11),vs=[.ref p1,.ref p2]/\BandA a H p1 l1 m1/\BandA a H p2 l2 m2/\TT a H/\m1≠m2/\∀H2,Same H H2->Q (.bl true) H2
def Zpb (K:Q4)(a:Ad):Sp:=fun vs H Q _=>∃(t u v:AD) (x y z:Nat),vs=[.ref t,.ref u,.ref v]/\H t=some (.tup [.int (frT (x:Nat) (DD:Nat)),.int (frB (x:Nat) (DD:Nat))])/\H u=some (.tup [.int (frT (y:Nat) (DD:Nat)),.int (frB (y:Nat) (DD:Nat))])/\H v=some (.tup [.int (frT (z:Nat) (DD:Nat)),.int (frB (z:Nat) (DD:Nat))])/\y<=x+z/\x<=400*DD/\y<=400*DD/\z<=400*DD/\Q (.bl true) H
def spLaw (K:Q4)(tb:Str->AD×AD):Sp:=fun vs H Q _=>∃(b:AD) (ns:List Int),vs=[.ref b]/\SqL K H b (ns.map V.int)/\ns.length<=63/\TblOk H (tb "in_order").2 lpos lq/\TblOk H (tb "_law_missing").2 Zn0 lqM/\TblOk H (tb "_law_rows").2 ZnZ lqR/\∀H2,Q (.bl true) H2
section
variable {P:AG}{w:AI}{K:Q4}{mg:AB}{base:Heap}{a:Ad}{tb:Str->AD×AD}
local macro_rules | `(tactic| walk_at "r0") => `(tactic| simp only [tSeq, tAsg, tPar, tOp, tUn, tVar, tC, ZbW, gNil, Zon, tRet, tIfS, Zjv, tB, tNot, tAnd, tOr, ZmT, ZmG, tIf, ZmL, tNil, Zjw, Zqb, Zp8, Zqa, Zp9, Znc, Zlh, tCB, tBM, tBM0, tSl, ZmF, tNoPart, tNext, L2.start, cxK, bxK, cxPr, cxWo, suxK, ZoO, ZoN, ZkE, tTry, ZkF, Zm3, ZkH, sIfx, hAs, hNone, unE, ZmM, ZgB, Zqc, Znb, Zoi, Zoh, ZlZ, Zog, gTup, pick, Option.bind_some, Option.bind_none, Option.join_some, Option.join_none, List.map_cons, List.map_nil, List.length_cons, List.length_nil, Nat.zero_add, Nat.reduceAdd, Nat.reduceSub, List.replicate_succ, List.replicate_zero, List.cons_append, List.nil_append, List.append_nil, List.getElem?_cons_zero, List.getElem?_cons_succ, List.set_cons_zero, List.set_cons_succ, q_I, q_I0, q_U, q_T, q_b, q_var, q_var', Zlw, ZmJ, Zle, tFld, sFld, sNo, tDNewK, Zm4, ZkD, ZmR, tDIn, Zh9, Zm2, Zoj, ZkC, tOr2])
local macro_rules | `(tactic| walk_at "r1") => do
 let some t <-Lean.Macro.expandMacro? (<-`(tactic| walk_at "r0")) | Lean.Macro.throwUnsupported
 match (⟨t⟩:Lean.TSyntax `tactic) with
 | `(tactic| simp only[$l,*])=>let d:=⟨l.elemsAndSeps⟩;`(tactic| dsimp only[$d,*])
 | _=>Lean.Macro.throwUnsupported
theorem Zj5 {s t:TS}{D:Ends}{U:St}{H:Hp}(h:let T:=Zcf t;tSeq s T D U H):tSeq s (Zcf t) D U H:=h
local macro_rules | `(tactic| walk_at "rd") => `(tactic| ((try (with_reducible refine Zj5 ?_; intro)); first | (walk_at "r1"; try walk_at "r0") | walk_at "r0"))
local macro_rules | `(tactic| walk_at "sc") => `(tactic| exact ⟨rfl, rfl, rfl, by decide +kernel, rfl, by decide +kernel, by decide +kernel⟩)
local macro_rules | `(tactic| walk_at "rd?") => `(tactic| (try walk_at "rd"))
theorem Zp2:FnScope ["words"] ["words"] (Zah s_K2):=by walk_at "sc"
theorem ZjU (T:TL K mg base a tb):FnOk P w K mg base CX0 1 a.f_K2 a.d_K2 ["words"] (ZpA K a):=by
 refine T.f_K2.okC T.cd_K2 Zp2 (fun vs H Q E h=>?_) (fun A outer s H vs Q E hr h=>?_)
 .obtain⟨_,_,rfl,_⟩:=h;rfl
 .obtain⟨p,ws,rfl,hp,hw,tk,q⟩:=h;refine⟨_,(Zae (Zaq (ZgQ (q:="in_order.<locals>.<lambda>") hr T.L_in_order rfl rfl T.z_sorted T.z_len (Zaa (pv 0) Zac) rfl rfl (by kernel_rfl) ⟨rfl,rfl,rfl,rfl,rfl,rfl⟩ (fun _ _ _ _ _=>.of_eq rfl)))),?_⟩;have sz:∀k:Nat,k<=1000->k<=sizeLine:=fun k h=>YAK h (by rw[sizeLine_eq];decide);walk_at "rd";exact⟨p,ws,rfl,hp,fun w h=>sz _ (hw w h),tk.1,fun ws' r H2 a b c d=>q ws' r H2 a b c.1 ⟨d,c.2 _ _ _ (by decide) tk.2.1,c.2 _ _ _ (by decide) tk.2.2⟩⟩
theorem ZpJ:FnScope ["text","length"] ["text","length"] (Zah s_LG):=by walk_at "sc"
theorem Zqp (T:TL K mg base a tb):FnOk P w K mg base CX0 1 a.f_LG a.d_LG ["text","length"] (Zo3 K a):=by
 refine T.f_LG.ok ZpJ (fun vs H Q E h=>?_) (fun BG A outer s H vs Q E hr h=>?_)
 .obtain⟨_,_,rfl,_⟩:=h;rfl
 .obtain⟨l,n,rfl,hl,hn,h63,q⟩:=h;refine⟨_,(Zae (Zaq (Zap (Zb4 rfl) rfl T.z_sorted Zb5 (Zaa (Zbe (ZbC rfl) rfl T.z_set ZfO (Zaa (Zbp (N:=["start","length","text"]) (ix:=[none,some 1,some 0]) rfl (ZaQ rfl) rfl (Za9 rfl T.z_range (Zaa (Zam ZaO (Zam Ziv (Zap (Zat (K:=K) rfl) rfl T.z_len ZaV (Zaa (pv 0) Zac)) (pv 1)) Zad) Zac)) (fun _ _ _ _=>(Zau (i:=0) (show (["start","length","text"]:AJ).Nodup from by decide +kernel) rfl (Or.inl rfl) (Or.inr rfl))) (fun _ _ _ _=>Zbu) (fun _ _ _ _=>(ZaA ZbE (pv 2) (ZaJ (pv 0)) (ZaJ (Zam ZaO (pv 0) (pv 1)))))) Zac)) Zac)))),?_⟩;walk_at "rd";have sz:l.length<=sizeLine:=YAK hl (by rw[sizeLine_eq];decide);have ec:((l.length:Int)-(n:Nat)+1).toNat=l.length+1-n:=by omega
  refine⟨_,_,rfl,Zbg (by omega),_,rfl,by omega,by omega,?_⟩;rw[ec];refine CompRun.rangeA (fun i=>tx ((l.drop i).take n)) (by omega) ?_ ?_
  .intro i H1 Q1 hi s1 q1;walk_at "rd";refine⟨_,rfl,_,rfl,l,rfl,sz,?_⟩;have e1:(0+(i:Int))=((i:Nat):Int):=by omega
   have e2:((i:Nat):Int)+(n:Nat)=((i+n:Nat):Int):=by omega
   rw[e1,e2,Zk2];have e3:i+n-i=n:=by omega
   rw[e3];exact q1 H1 (Same.refl _)
  .intro p H1 s1 n1 l1;refine⟨(List.range (l.length+1-n)).map (fun i=>(l.drop i).take n),by simp;omega,.inr ⟨p,rfl,.mk (by rw[l1,YBS];rfl)⟩,fun p2 n2=>⟨p2,_,rfl,Zag,?_,NewL.of fun p3 H3 s3 n3 l3=>q p3 H3 (s1.trans ((Zav n2).trans s3)) ((s1.trans (Zav n2)).free n3) l3⟩⟩;refine YCa (Zos _) ?_;rw[YAB,YBF];omega
theorem ZjC:FnScope ["one","other","rest"] ["one","other"] (Zah s_LV):=by walk_at "sc"
theorem Zqj (T:TL K mg base a tb):FnOk P w K mg base CX0 1 a.f_LV a.d_LV ["one","other"] (ZoR K a):=by
 refine T.f_LV.ok ZjC (fun vs H Q E h=>?_) (fun BG A outer s H vs Q E hr h=>?_)
 .obtain⟨_,_,rfl,_⟩:=h;rfl
 .obtain⟨x,y,rfl,hx,hy,q⟩:=h;refine⟨_,(Zab (ZgN YAp (Zaw ZjS (pv 1) Zad (ZaL _))
   (Zab (Zao (i:=2) ZjC.nd rfl (Or.inl rfl) (Zam ZaE (pv 0) (pv 1)))
   (Zab (Zao (i:=0) ZjC.nd rfl (Or.inl rfl) (pv 1))
   (Zae (Zao (i:=1) ZjC.nd rfl (Or.inl rfl) (pv 2))))))
   (Zae (Zaq (pv 0)))),?_⟩
  walk_at "rd";refine ZkA (fun U=>∃(u v:Int) (r:Option V),U=[some (.int u),some (.int v),r]/\0<=u/\0<=v/\Int.gcd u v=Int.gcd x y) (fun U=>match U with | [_,some (.int s),_]=>s.toNat | _=>0) ⟨x,y,none,rfl,hx,hy,rfl⟩ ?_;rintro U ⟨u,v,r,rfl,hu,hv,hg⟩;refine⟨decide (v>0),fun Q1 h1=>?_,?_⟩
  .walk_at "rd";exact h1
  .walk_at "rd";by_cases h:v>0
   .rw[decide_eq_true h];have m0:=YBJ u (show v≠0 by omega);have m1:=YAz u h;exact iteT ⟨h,⟨trivial,_,_,_,rfl,by omega,m0,(Zg6 hu h).trans hg⟩,by omega⟩
   .rw[decide_eq_false h];have e:v=0:=by omega
    subst e;refine iteF ?_;rw[<-hg,Int.gcd_zero_right]at q;have:((u.natAbs:Nat):Int)=u:=by omega
    rw[this]at q;exact q
theorem ZpW:FnScope ["self"] ["self"] (Zah s_KI):=by walk_at "sc"
theorem ZjT (T:TL K mg base a tb):FnOk P w K mg base CX0 1 a.g_KI a.e_KI ["self"] (ZmU K a):=by
 refine T.fm_KI.ok ZpW (fun vs H Q E h=>?_) (fun BG A outer s H vs Q E hr h=>?_)
 .obtain⟨_,_,_,rfl,_⟩:=h;rfl
 .obtain⟨p,l,m,rfl,hp,q⟩:=h;refine⟨_,(Zae (Zaq (ZaT (K:=K) rfl (pv 0) rfl))),?_⟩;walk_at "rd";rcases hp with⟨dx,f⟩|⟨la,da,ds,⟨dx,f⟩,_⟩
  .exact⟨p,_,dx,_,_,rfl,f,T.cl_LH,T.n_Plain_own_kinds,Zd9,q⟩
  .exact⟨p,_,dx,_,_,rfl,f,T.cl_LI,T.n_Strip_own_kinds,Zcr,q⟩
theorem ZpV:FnScope ["self"] ["self"] (Zah s_KJ):=by walk_at "sc"
theorem ZqA (T:TL K mg base a tb):FnOk P w K mg base CX0 1 a.g_KJ a.e_KJ ["self"] (Zpn K a):=by
 refine T.fm_KJ.ok ZpV (fun vs H Q E h=>?_) (fun BG A outer s H vs Q E hr h=>?_)
 .obtain⟨_,_,_,rfl,_⟩:=h;rfl
 .obtain⟨p,l,m,rfl,hp,ok,q⟩:=h;refine⟨_,(Zae (Zaq (Zam ZaO (Zap (Zat (K:=K) rfl) rfl T.z_len ZaV (Zaa (ZaT (K:=K) rfl (pv 0) rfl) Zac)) Zad))),?_⟩;obtain⟨dx,hp⟩:=hp;have l40:=ok.l40;walk_at "rd";exact⟨p,_,dx,_,_,rfl,hp,T.cl_LH,T.n_Plain_own_text,ZfG,_,_,rfl,Zbg (by omega),q⟩
theorem ZpZ:FnScope ["self","length"] ["self","length"] (Zah s_KA):=by walk_at "sc"
theorem ZqD (T:TL K mg base a tb):FnOk P w K mg base CX0 1 a.g_KA a.e_KA ["self","length"] (Zpt K a):=by
 refine T.fm_KA.ok ZpZ (fun vs H Q E h=>?_) (fun BG A outer s H vs Q E hr h=>?_)
 .obtain⟨_,_,_,_,rfl,_⟩:=h;rfl
 .obtain⟨p,l,m,n,rfl,hp,q⟩:=h;refine⟨_,(Zae (Zaq (ZaT (K:=K) rfl (pv 0) rfl))),?_⟩;obtain⟨dx,hp⟩:=hp;walk_at "rd";exact⟨p,_,dx,_,_,rfl,hp,T.cl_LH,T.n_Plain_own_text,ZfG,q⟩
theorem Zif:FnScope ["shorter","standing","kinds","found","head","letter","word"] ["shorter","standing","kinds"] (Zah s_LJ):=by walk_at "sc"
theorem Zqo (T:TL K mg base a tb):FnOk P w K mg base CX0 1 a.f_LJ a.d_LJ ["shorter","standing","kinds"] (Zo2 K a):=by
 refine T.f_LJ.ok Zif (fun vs H Q E h=>?_) (fun BG A outer s H vs Q E hr h=>?_)
 .obtain⟨_,_,_,_,_,rfl,_⟩:=h;rfl
 .obtain⟨b1,b2,sh,st,m,rfl,hb1,hb2,hsh,hm,hw,q⟩:=h;refine⟨_,(Zab (Zao (i:=3) Zif.nd rfl (Or.inl rfl) (ZbL Zac))
   (Zab (Za8 YAp rfl (ZaP (K:=K) rfl (pv 0)) (Zau (i:=4) Zif.nd rfl (Or.inl rfl))
   (Zae (Za8 YAp rfl (ZcP (pv 2)) (Zau (i:=5) Zif.nd rfl (Or.inl rfl))
   (Zab (Zao (i:=6) Zif.nd rfl (Or.inl rfl) (Zam ZaN (pv 4) (pv 5)))
   (Zae (Zbh (PW.pt (Zim (Zaw (ZcS (K:=K) rfl) (ZaA ZbE (pv 6) (ZaJ Zad) ZaS) (pv 0) rfl) (Zga (Zaw (Za7 (K:=K) rfl) (pv 6) (pv 1) rfl)))) (Zae (ZaR (Zdp YBH YBY YBX Zbf (pv 3) (Zaa (pv 6) Zac)))) ZaD))))))
   (Zae (Zaq (pv 3))))),?_⟩
  walk_at "rd";refine⟨YAv _,NewL.of fun pf H1 s1 nf lf=>⟨b1,rfl,⟨_,.mk (s1 _ _ hb1)⟩,ForRun.list (xs:=sh.map tx) (fun i U H'=>∃v4 v5 v6,U=[some (.ref b1),some (.ref b2),some (tx m),some (.ref pf),v4,v5,v6]/\Same H H'/\H' pf=some (.lst (((sh.take i).flatMap (ZeB sh st m)).map tx))) ⟨_,_,_,rfl,s1,lf⟩ (fun i U H' _ ⟨_,_,_,_,s',_⟩=>.mk (s' _ _ hb1)) ?_ ?_⟩⟩
  .rintro i x U H2 hx ⟨v4,v5,v6,rfl,s2,l2⟩;obtain⟨h,hh,rfl⟩:∃h,sh[i]?=some h/\x=tx h:=by
    rw[YAc]at hx;cases e:sh[i]? with
    | none=>rw[e]at hx;cases hx
    | some h=>rw[e]at hx;exact⟨h,rfl,(Option.some.inj hx).symm⟩
   have hw1:=hw h (YAo hh);have fl:=ZbA (f:=ZeB sh st m) (b:=4) (fun x=>YAK (Zft _ _ _ _) hm) (sh.take i);have tl:(sh.take i).length<=100:=by rw[YAZ];omega
   walk_at "rd";refine⟨m,rfl,ForRun.text (fun j U H'=>∃v5 v6,U=[some (.ref b1),some (.ref b2),some (tx m),some (.ref pf),some (tx h),v5,v6]/\Same H H'/\H' pf=some (.lst (((sh.take i).flatMap (ZeB sh st m)++((m.take j).filter (ZcB sh st h)).map (fun c=>h++[c])).map tx))) ⟨_,_,rfl,s2,by simpa using l2⟩ ?_ ?_⟩
   .rintro j c U H3 hc ⟨v5,v6,rfl,s3,l3⟩;have fj:=YAt (ZcB sh st h) (m.take j);rw[YAZ]at fj;have fe:(m.take (j+1)).filter (ZcB sh st h)=(m.take j).filter (ZcB sh st h)++if ZcB sh st h c=true then [c] else []:=by
     rw[ZbY hc,YBs];congr 1;by_cases z:ZcB sh st h c=true
     .rw[YAM z,List.filter_cons_of_pos z];rfl
     .rw[YAI z,List.filter_cons_of_neg z];rfl
    rw[fe];walk_at "rd";refine⟨by rw[sizeLine_eq];omega,_,rfl,_,rfl,by rw[YAF,YAs,sizeLine_eq];omega,?_⟩;rw[ZeP];refine⟨b1,_,rfl,.inl (.mk (s3 _ _ hb1)),rfl,Zbs _,_,rfl,?_⟩;rw[YAI YAC,Zd5];by_cases t1:(h++[c]).tail∈sh
    .rw[decide_eq_true t1];refine iteT ⟨b2,_,rfl,.inl (.mk (s3 _ _ hb2)),rfl,Zbs _,_,rfl,?_⟩;rw[YAM rfl,Zd5];by_cases t2:h++[c]∈st
     .have e:¬ZcB sh st h c=true:=by unfold ZcB;rw[decide_eq_true t2];simp
      rw[decide_eq_true t2,YCP,YAI e,YCh];exact iteF ⟨_,_,rfl,s3,l3⟩
     .have e:ZcB sh st h c=true:=by unfold ZcB;rw[decide_eq_true t1,decide_eq_false t2];rfl
      rw[decide_eq_false t2,Bool.not_false,YAM e];refine iteT ⟨.inl ⟨rfl,_,.mk l3⟩,pf,_,_,rfl,rfl,l3,by rw[YAB,YAF,YAB,sizeLine_eq];omega,_,_,rfl,same_upd3 s3 nf,?_⟩;rw[Zag];simp
    .have e:¬ZcB sh st h c=true:=by unfold ZcB;rw[decide_eq_false t1];simp
     rw[decide_eq_false t1,YAI e,YCh];exact iteF (iteF ⟨_,_,rfl,s3,l3⟩)
   .rintro U H3 ⟨v5,v6,rfl,s3,l3⟩;refine⟨_,_,_,rfl,s3,?_⟩;rw[l3,ZbY hh,List.flatMap_append,List.flatMap_singleton,YBj];rfl
  .rintro U H2 ⟨v4,v5,v6,rfl,s2,l2⟩;walk_at "rd";rw[YAB,YBj]at l2;exact q pf H2 s2 nf l2
theorem ZpY:FnScope ["self"] ["self"] (Zah s_KD):=by walk_at "sc"
theorem ZnM (T:TL K mg base a tb):FnOk P w K mg base CX0 1 a.g_KD a.e_KD ["self"] (Zps K a):=by
 refine T.fm_KD.ok ZpY (fun vs H Q E h=>?_) (fun BG A outer s H vs Q E hr h=>?_)
 .obtain⟨_,_,_,_,_,_,rfl,_⟩:=h;rfl
 .obtain⟨p,la,da,l,m,ds,rfl,hp,q⟩:=h;refine⟨_,(Zae (Zaq (Zbe (ZeS (K:=K) rfl) rfl T.z_list ZdK (Zaa (ZaT (K:=K) rfl (pv 0) rfl) Zac)))),?_⟩;obtain⟨dx,f⟩:=hp.fld;walk_at "rd";exact⟨p,_,dx,_,_,rfl,f,T.cl_LI,T.n_Strip_own_lacking,ZgE,la,_,rfl,.inl (.mk hp.lack),q⟩
theorem Zp3:FnScope ["text","letters"] ["text","letters"] (Zah s_K1):=by walk_at "sc"
theorem ZnP (T:TL K mg base a tb):FnOk P w K mg base CX0 1 a.f_K1 a.d_K1 ["text","letters"] (ZpB K a):=by
 refine T.f_K1.ok Zp3 (fun vs H Q E h=>?_) (fun BG A outer s H vs Q E hr h=>?_)
 .obtain⟨_,_,rfl,_⟩:=h;rfl
 .obtain⟨l,m,rfl,hl,q⟩:=h;refine⟨_,(Zae (Zaq (Zap (Zjk rfl) rfl T.z_all Zoy (Zaa (Zbp (N:=["sign","letters"]) (ix:=[none,some 1]) rfl (ZaQ rfl) rfl (ZcP (pv 0)) (fun _ _ _ _=>(Zau (i:=0) (show (["sign","letters"]:AJ).Nodup from by decide +kernel) rfl (Or.inl rfl) (Or.inr rfl))) (fun _ _ _ _=>Zbu) (fun _ _ _ _=>(Zbq ZhA (pv 0) (pv 1) rfl))) Zac)))),?_⟩;walk_at "rd";refine⟨l,rfl,CompRun.text (fun _=>true) (fun i=>.bl (decide (l.getD i 0∈m))) hl ?_ ?_ ?_⟩
  .intro i H1 Q1 hi s1 q1;exact q1 H1 (Same.refl _)
  .intro i H1 Q1 hi _ s1 q1;walk_at "rd";exact⟨_,m,rfl,rfl,q1 H1 (Same.refl _)⟩
  .intro p H1 s1 n1 l1;refine⟨p,(List.range l.length).map (fun i=>decide (l.getD i 0∈m)),rfl,?_,?_⟩
   .rw[l1,filter_all,YBS];rfl
   .rw[all_range];exact q H1 s1
theorem ZpI:FnScope ["text","word"] ["text","word"] (Zah s_LL):=by walk_at "sc"
theorem Zqn (T:TL K mg base a tb):FnOk P w K mg base CX0 1 a.f_LL a.d_LL ["text","word"] (Zo0 K a):=by
 refine T.f_LL.ok ZpI (fun vs H Q E h=>?_) (fun BG A outer s H vs Q E hr h=>?_)
 .obtain⟨_,_,rfl,_⟩:=h;rfl
 .obtain⟨l,x,rfl,hl,hx,q⟩:=h;refine⟨_,(Zae (Zaq (Zci (Zbq Zdq (pv 1) (pv 0) rfl) (Zci (Zbq ZgT (ZaA ZbE (pv 1) (ZaJ Zad) ZaS) (pv 0) rfl) (ZcZ (Zbq ZgT (ZaA ZbE (pv 1) ZaS (ZaJ (ZlC Zh2 Zad))) (pv 0) rfl)))))),?_⟩;walk_at "rd";have sx:x.length<=sizeLine:=YAK hx (by rw[sizeLine_eq];decide);unfold ZiO at q;refine⟨x,l,rfl,rfl,ite2 (fun h1=>⟨_,rfl,x,rfl,sx,_,l,rfl,rfl,ite2 (fun h2=>⟨_,rfl,x,rfl,sx,_,l,rfl,rfl,?_⟩) (fun h2=>?_)⟩) (fun h1=>?_)⟩
  .rw[ZeP]at h2;rw[Zjh];rw[h1,h2,YCO,YCO]at q;exact q
  .rw[ZeP]at h2;rw[h1,YBd.mpr h2,YBi,YBp]at q;exact q
  .rw[YBd.mpr h1,YBi]at q;exact q
theorem ZpG:FnScope ["_law_script","_law_k"] ["_law_script","_law_k"] (Zah s_LN):=by walk_at "sc"
theorem Zeu (T:TL K mg base a tb):FnOk P w K mg base CX0 1 a.f_LN a.d_LN ["_law_script","_law_k"] (ZoY K a):=by
 refine T.f_LN.ok ZpG (fun vs H Q E h=>?_) (fun BG A outer s H vs Q E hr h=>?_)
 .obtain⟨_,_,_,rfl,_⟩:=h;rfl
 .obtain⟨b,ns,k,rfl,hS,hk,hk1,q⟩:=h;refine⟨_,(Zab (Zbh (Zaw Zns (pv 1) (Zap (Zat (K:=K) rfl) rfl T.z_len ZaV (Zaa (pv 0) Zac)) (ZaL _)) (Zae (Zaq (ZaH (Zax (K:=K) rfl) (pv 0) (pv 1) (fun _ _=>rfl)))) ZaD)
   (Zae (Zaq Zad))),?_⟩
  walk_at "rd";refine⟨_,_,rfl,.inl ⟨_,hS,rfl⟩,?_⟩;rw[YAB];refine ite2 (fun h=>?_) (fun h=>?_)
  .have h':k<ns.length:=of_decide_eq_true h;exact⟨b,_,k,_,rfl,rfl,hS,Zmo hk h',q _⟩
  .exact q _
theorem ZpF:FnScope ["_law_thing"] ["_law_thing"] (Zah s_LT):=by walk_at "sc"
theorem ZlH (T:TL K mg base a tb):FnOk P w K mg base CX0 1 a.f_LT a.d_LT ["_law_thing"] (ZoS K a):=by
 refine T.f_LT.ok ZpF (fun vs H Q E h=>?_) (fun BG A outer s H vs Q E hr h=>?_)
 .obtain⟨_,rfl,_⟩:=h;rfl
 .obtain⟨i,rfl,q⟩:=h;refine⟨_,(Zae (Zaq (Zci (Zap (Za6 (K:=K) rfl) rfl T.z_isinstance ZaZ (Zaa (pv 0) (Zaa (ZcQ (v:=.ty "int") rfl T.z_int Zox rfl) Zac))) (ZcZ (Znk (Zap (Za6 (K:=K) rfl) rfl T.z_isinstance ZaZ (Zaa (pv 0) (Zaa (ZcQ (v:=.ty "bool") rfl T.z_bool Zml rfl) Zac)))))))),?_⟩;walk_at "rd";exact⟨_,_,_,_,true,rfl,rfl,.ty (.pl (.int _)),Zfv,iteT ⟨_,_,_,_,false,rfl,rfl,.ty (.pl (.int _)),Zn3,q⟩⟩
theorem Zln:FnScope ["_law_cell_here","_law_k","_law_number"] ["_law_cell_here","_law_k"] (Zah s_LR):=by walk_at "sc"
theorem Zql (T:TL K mg base a tb):FnOk P w K mg base CX0 1 a.f_LR a.d_LR ["_law_cell_here","_law_k"] (ZoU K a):=by
 refine T.f_LR.ok Zln (fun vs H Q E h=>?_) (fun BG A outer s H vs Q E hr h=>?_)
 .obtain⟨_,_,rfl,_⟩:=h;rfl
 .obtain⟨c,k,rfl,q⟩:=h;refine⟨_,(Zab (Zao (i:=2) Zln.nd rfl (Or.inl rfl) (Zam ZaE (Zam ZaO (Zam ZaO (Zam ZdY (pv 0) Zad) (Zam ZdY (pv 1) Zad)) Zad) Zad))
   (Zab (Zao (i:=2) Zln.nd rfl (Or.inl rfl) (Zam ZaE (Zam ZaO (Zam ZaO (Zam ZdY (Zam ZaE (Zam ZdY (pv 2) (pv 2)) Zad) Zad) (Zam ZdY (pv 1) Zad)) Zad) Zad))
   (Zae (Zaq (Zam ZaE (Zam ZdY (pv 2) (pv 2)) Zad))))),?_⟩
  walk_at "rd";exact⟨.inr ⟨by decide,by decide⟩,.inr ⟨by decide,by decide⟩,by decide,cm (by decide) (by decide),by decide,.inr ⟨by decide,by decide⟩,.inr ⟨by decide,by decide⟩,by decide,cm (by decide) (by decide),by decide,q _ (YBJ _ (by decide))⟩
theorem Ze7:FnScope ["_law_cell_here","_law_letters_here","_law_at","_law_left","_law_k"] ["_law_cell_here"] (Zah s_LC):=by walk_at "sc"
theorem Zqs (T:TL K mg base a tb):FnOk P w K mg base CX0 1 a.f_LC a.d_LC ["_law_cell_here"] (Zo7 K a):=by
 refine T.f_LC.ok Ze7 (fun vs H Q E h=>?_) (fun BG A outer s H vs Q E hr h=>?_)
 .obtain⟨_,rfl,_⟩:=h;rfl
 .obtain⟨c,rfl,q⟩:=h;refine⟨_,(Zab (Zao (i:=1) Ze7.nd rfl (Or.inl rfl) (Za4 (l:=[]) (by decide +kernel)))
   (Zab (Zao (i:=2) Ze7.nd rfl (Or.inl rfl) (Zam ZaE (Zam Za5 (pv 0) Zad) Zad))
   (Zab (Zao (i:=3) Ze7.nd rfl (Or.inl rfl) (Zam Za5 (pv 0) Zad))
   (Zab (Za8 YAp rfl (Za9 rfl T.z_range (Zaa (Zam ZaO Zad (Zam ZaE (pv 0) Zad)) Zac)) (Zau (i:=4) Ze7.nd rfl (Or.inl rfl))
   (Zab (Zao (i:=1) Ze7.nd rfl (Or.inl rfl) (Zam ZaN (pv 1) (ZaH ZhM (Za4 (l:=[97,98,99,100,101,102,103,104,105,106,107,108,109,110,111,112,113,114,115,116,117,118,119,120,121,122]) (by decide +kernel)) (pv 2) (fun _ _=>rfl))))
   (Zab (Zao (i:=2) Ze7.nd rfl (Or.inl rfl) (Zam ZaO (Zam ZaO (pv 2) Zad) (Zam ZaE (pv 3) Zad)))
   (Zae (Zao (i:=3) Ze7.nd rfl (Or.inl rfl) (Zam Za5 (pv 3) Zad))))))
   (Zae (Zaq (pv 1))))))),?_⟩
  walk_at "rd";have b1:=YBJ c (show (4:Int)≠0 by decide);have b2:=YAz c (show (0:Int)<4 by decide);generalize c % 4=c4 at b1 b2;refine⟨⟨by decide,by decide⟩,by decide,⟨by decide,by decide⟩,by decide,_,rfl,by omega,by omega,ForRun.range (fun i U H'=>H'=H/\∃(l:Q11) (at_ le:Int) (v4:Option V),U=[some (.int c),some (tx l),some (.int at_),some (.int le),v4]/\l.length=i/\0<=at_/\at_<=7+5*i/\(∀x∈l,97<=x/\(x:Int)<97+at_)/\(∀x∈l,x<=122)/\l.Pairwise (· < ·)) ⟨rfl,[],_,_,none,rfl,rfl,by omega,by omega,by simp,by simp,List.Pairwise.nil⟩ ?_ ?_⟩
  .rintro i U H1 hi ⟨rfl,l,at_,le,v4,rfl,hl,h0,h7,hx,hy,hp⟩;have hi4:i<4:=by omega
   have hk:at_.toNat<26:=by omega
   walk_at "rd";refine⟨LET,_,97+at_.toNat,rfl,rfl,by rw[sizeLine_eq];decide,?_,by rw[sizeLine_eq];omega,by decide,⟨by decide,by decide⟩,by trivial,l++[97+at_.toNat],_,_,_,rfl,by simp[hl],by omega,by omega,?_,?_,?_⟩
   .unfold atI ixN;rw[YAM h0,YAM (show at_<((LET.length:Nat):Int) by show at_<26;omega),YCL,ZkN _ hk]
   .intro x hm;rcases YAW.mp hm with hm | hm
    .have:=hx x hm;omega
    .rw[YAL.mp hm];omega
   .intro x hm;rcases YAW.mp hm with hm | hm
    .exact hy x hm
    .rw[YAL.mp hm];omega
   .rw[YBN];refine⟨hp,List.pairwise_singleton _ _,fun x hm y hy=>?_⟩;rw[YAL.mp hy];have:=hx x hm;omega
  .rintro U H1 ⟨rfl,l,at_,le,v4,rfl,hl,h0,h7,hx,hy,hp⟩;walk_at "rd";exact q l (ZkP (by omega) (by omega) (fun x hm=>ZlP (hx x hm).1 (hy x hm)) hp) (by omega) (by omega)
theorem Ze8:FnScope ["_law_text_here","_law_kinds_here","_law_stands","_law_start","_law_end","_law_found","_law_word","_law_letter","_law_longer"] ["_law_text_here","_law_kinds_here"] (Zah s_K7):=by walk_at "sc"
theorem ZqE (T:TL K mg base a tb):FnOk P w K mg base CX0 1 a.f_K7 a.d_K7 ["_law_text_here","_law_kinds_here"] (Zpv K a):=by
 refine T.f_K7.okC T.cd_K7 Ze8 (fun vs H Q E h=>?_) (fun A outer s H vs Q E hr h=>?_)
 .obtain⟨_,_,rfl,_⟩:=h;rfl
 .have BJ:=hr.units;have hu1:=ZaF hr;obtain⟨l,m,rfl,ok,tk,q⟩:=h;refine⟨_,(Zab (Zao (i:=2) Ze8.nd rfl (Or.inl rfl) (ZlD (ZjN (Za4 (l:=[]) (by decide +kernel)) Zc5 Zly) rfl rfl (by simp) (by decide)))
   (Zaf (Zab (Za8 YAp rfl (Za9 rfl T.z_range (Zaa (Zap (Zat (K:=K) rfl) rfl T.z_len ZaV (Zaa (pv 0) Zac)) Zac)) (Zau (i:=3) Ze8.nd rfl (Or.inl rfl))
   (Zae (Za8 YAp rfl (Zdo rfl T.z_range (Zaa (Zam ZaO (pv 3) Zad) (Zaa (Zam ZaO (Zap (Zat (K:=K) rfl) rfl T.z_len ZaV (Zaa (pv 0) Zac)) Zad) Zac))) (Zau (i:=4) Ze8.nd rfl (Or.inl rfl))
   (Zae (Ziq hu1 (pv 2) (ZaA ZbE (pv 0) (ZaJ (pv 3)) (ZaJ (pv 4))) Zc5 rfl)))))
   (Zab (Zao (i:=5) Ze8.nd rfl (Or.inl rfl) (ZbL Zac))
   (Zaf (Zab (Zlx (Za8 YAp rfl (ZlA (pv 2)) (Zau (i:=6) Ze8.nd rfl (Or.inl rfl))
   (Zae (Za8 YAp rfl (ZcP (pv 1)) (Zau (i:=7) Ze8.nd rfl (Or.inl rfl))
   (Zab (Zao (i:=8) Ze8.nd rfl (Or.inl rfl) (Zam ZaN (pv 7) (pv 6)))
   (Zae (Zbh (PW.pt (Zim (ZkJ (Zit hu1 (pv 8) (pv 2))) (Zga (PW.pt (Zil (Zaw (Za0 (K:=K) rfl BJ) (pv 6) (Za4 (l:=[]) (by decide +kernel)) (ZaL _)) (Zfe (ZkJ (Znn hu1 (ZaA ZbE (pv 8) ZaS (ZaJ (ZlC Zh2 Zad))) (pv 2))))))))) (Zae (ZaR (Zdp YBH YBY YBX Zbf (pv 5) (Zaa (pv 8) Zac)))) ZaD)))))))
   (Zae (Zaq (ZgQ (q:="_law_missing.<locals>.<lambda>") hr T.L_missing rfl rfl T.z_sorted T.z_len (Zaa (pv 5) Zac) rfl rfl (by kernel_rfl) ⟨rfl,rfl,rfl,rfl,rfl,rfl⟩ (fun _ _ _ _ _=>.of_eq rfl)))))))))),?_⟩
  have sz:∀k:Nat,k<=100000->k<=sizeLine:=fun k h=>YAK h (by rw[sizeLine_eq];decide);have l40:=ok.l40;have m4:=ok.m4;walk_at "rd";intro p hp;refine⟨Zag,[(kTx [],.bl true)],rfl,by show (1:Nat)<=15;decide,Zaj ?_⟩;have s1:Same H (upd (upd H p (.dK [])) p (.dK (ZbG [] [(kTx [],.bl true)]))):=Ze9 hp;have h1:upd (upd H p (.dK [])) p (.dK (ZbG [] [(kTx [],.bl true)])) p=some (.dK (ZbG [] [(kTx [],.bl true)])):=Zag;have k1:SoundD l (ZbG [] [(kTx [],.bl true)]):=by show SoundD l (putK [] (kTx []) (.bl true));exact SoundD.put ⟨fun _ h=>(by cases h),List.nodup_nil⟩ (Inf.nil l)
  have l1:(ZbG [] [(kTx [],.bl true)]).length<=1:=ZbS _ _;have z1:(valV (ZbG [] [(kTx [],.bl true)]) (kTx [])).isSome=true:=by show (valV (putK [] (kTx []) (.bl true)) (kTx [])).isSome=true;exact Zct (.inr rfl)
  generalize ZbG [] [(kTx [],.bl true)]=kv0 at s1 h1 k1 l1 z1;generalize upd (upd H p (.dK [])) p (.dK kv0)=H1 at s1 h1;walk_at "rd";refine⟨_,_,rfl,Zbg (by omega),_,rfl,by omega,by omega,?_⟩;rw[YCS];refine ForRun.range (fun i U H'=>∃v2 v3 kvs,U=[some (tx l),some (tx m),some (.ref p),v2,v3,none,none,none,none]/\Same H H'/\H' p=some (.dK kvs)/\SoundD l kvs/\kvs.length<=1+40*i/\(valV kvs (kTx [])).isSome=true/\∀s e,s<i->s<=e->e<=l.length->(valV kvs (kTx ((l.drop s).take (e-s)))).isSome=true) ⟨_,_,_,rfl,s1,h1,k1,by omega,z1,fun s e h=>by omega⟩ ?_ ?_
  .rintro i U H2 hi ⟨v2,v3,kvs,rfl,s2,h2,k2,n2,z2,c2⟩;walk_at "rd";refine⟨_,_,rfl,Zbg (by omega),_,_,rfl,⟨by omega,by omega,by omega,by omega⟩,?_⟩;refine ForRun.range (fun j U H'=>∃v3 kvs,U=[some (tx l),some (tx m),some (.ref p),some (.int (0+(i:Int))),v3,none,none,none,none]/\Same H H'/\H' p=some (.dK kvs)/\SoundD l kvs/\kvs.length<=1+40*i+j/\(valV kvs (kTx [])).isSome=true/\(∀s e,s<i->s<=e->e<=l.length->(valV kvs (kTx ((l.drop s).take (e-s)))).isSome=true)/\∀e,i<e->e<=i+j->(valV kvs (kTx ((l.drop i).take (e-i)))).isSome=true) ⟨_,_,rfl,s2,h2,k2,by omega,z2,c2,fun e a b=>by omega⟩ ?_ ?_
   .rintro j U H3 hj ⟨v3,kvs,rfl,s3,h3,k3,n3,z3,c3,e3⟩;have q1:(0+(i:Int))=((i:Nat):Int):=by omega
    have q2:(0+(i:Int)+1+(j:Int))=((i+1+j:Nat):Int):=by omega
    walk_at "rd";refine⟨_,rfl,_,rfl,l,rfl,sz _ (by omega),?_⟩;rw[q2,q1,Zk2];refine⟨p,_,rfl,DPut.k (k:=kTx ((l.drop i).take (i+1+j-i))) h3 (YAk (show _<3000 by omega) (sz 3000 (by decide))),_,_,rfl,same_upd3 s3 hp,Zag,k3.put (ZlY (by omega) (by omega)),?_,Zct (.inl z3),fun s e a b d=>Zct (.inl (c3 s e a b d)),fun e a b=>?_⟩
    .have:=Zby kvs (kTx ((l.drop i).take (i+1+j-i))) (.bl true);omega
    .by_cases ee:e=i+1+j
     .rw[ee];exact Zct (.inr rfl)
     .exact Zct (.inl (e3 e a (by omega)))
   .rintro U H3 ⟨v3,kvs,rfl,s3,h3,k3,n3,z3,c3,e3⟩;refine⟨_,_,_,rfl,s3,h3,k3,by omega,z3,fun s e a b d=>?_⟩;by_cases hs:s<i
    .exact c3 s e hs b d
    .have hsi:s=i:=by omega
     subst hsi;by_cases he:e=s
     .rw[he];simpa using z3
     .exact e3 e (by omega) (by omega)
  .rintro U H2 ⟨v2,v3,kvs,rfl,s2,h2,k2,n2,z2,c2⟩;have kn:Zk5 l kvs:=⟨Zj9 k2.1 z2 c2,k2.2,by omega⟩;walk_at "rd";refine⟨YAv _,NewL.of fun pf H3 s3 n3 l3=>Zaj ?_⟩;have ne:p≠pf:=Zak h2 n3;have nfH:H pf=none:=s2.free n3;obtain⟨ss,hs⟩:∃ss:Q22,ss.map kTx=kvs.map (·.1):=Zg2 fun kv hk=>let ⟨x,e,_⟩:=kn.1.1 kv hk;⟨x,e⟩;have sl:ss.length=kvs.length:=by have:=congrArg List.length hs;simpa using this
   have al4:∀u,(ZbD kvs m u).length<=4:=fun u=>by unfold ZbD;rw[YAB];exact YAK (YAt _ _) m4
   walk_at "rd";refine⟨p,kvs,s3 _ _ h2,p,kvs,rfl,s3 _ _ h2,fun o=>ForRun.dict (fun i U H'=>∃(v5 v6 v7:Option V),U=[some (tx l),some (tx m),some (.ref p),v2,v3,some (.ref pf),v5,v6,v7]/\Same H H'/\H' p=some (.frz o (.dK kvs))/\H' pf=some (.lst (((ss.take i).flatMap (ZbD kvs m)).map tx))) ⟨_,_,_,rfl,same_upd3 (s2.trans s3) hp,Zag,by rw[Zai (YBM ne)];exact l3⟩ (fun i U H' ⟨_,_,_,_,_,h,_⟩=>h) ?_ ?_⟩
   .rintro i kv U H4 hkv ⟨v5,v6,v7,rfl,s4,h4,f4⟩;have hi:i<kvs.length:=(YAa.mp hkv).1;obtain⟨x,hx⟩:∃x,ss[i]?=some x:=⟨_,YAH (by omega)⟩;have ex:kv.1=kTx x:=by have:=congrArg (fun l=>l[i]?) hs;simp only[YAc,hx,hkv,YDC]at this;exact(Option.some.inj this).symm
    have xi:Inf x l:=by obtain⟨y,ey,hy⟩:=kn.1.1 kv (YAo hkv);rw[Zcp (ex.symm.trans ey)];exact hy
    have xl0:=xi.len;have fl:((ss.take i).flatMap (ZbD kvs m)).length<=12000:=by have:=ZbA (f:=ZbD kvs m) (b:=4) al4 (ss.take i);rw[YAZ]at this;omega
    rw[ex,ZqJ];walk_at "rd";refine⟨m,rfl,ForRun.text (fun j U H'=>∃(v6 v7:Option V),U=[some (tx l),some (tx m),some (.ref p),v2,v3,some (.ref pf),some (tx x),v6,v7]/\Same H H'/\H' p=some (.frz o (.dK kvs))/\H' pf=some (.lst (((ss.take i).flatMap (ZbD kvs m)++((m.take j).filter (Zbo kvs x)).map fun c=>c::x).map tx))) ⟨_,_,rfl,s4,h4,by rw[List.take_zero];simpa using f4⟩ ?_ ?_⟩
    .rintro j c U H5 hc ⟨v6,v7,rfl,s5,h5,f5⟩;have hj:j<m.length:=(YAa.mp hc).1;have xl:(c::x).length<=41:=by rw[YAd];omega
     have fl2:((m.take j).filter (Zbo kvs x)).length<=4:=YAK (YAt _ _) (by rw[YAZ];omega);have tk:m.take (j+1)=m.take j++[c]:=by rw[YCl,hc];rfl
     walk_at "rd";have no:Zbo kvs x c=false->((m.take (j+1)).filter (Zbo kvs x))=(m.take j).filter (Zbo kvs x):=fun h=>by rw[tk,YBs,List.filter_cons,h];simp
     have c1:cut (c::x) none (some (-1))=(c::x).dropLast:=Zjh _;have fin:Zbo kvs x c=true->tyV K "list" (V.ref pf) H5/\rAppend (V.ref pf) [tx (c::x)] H5 fun x_1 H1=>∃v6 v7,[some (tx l),some (tx m),some (V.ref p),v2,v3,some (V.ref pf),some (tx x),some (tx [c]),some (tx (c::x))]=[some (tx l),some (tx m),some (V.ref p),v2,v3,some (V.ref pf),some (tx x),v6,v7]/\Same H H1/\H1 p=some (HO.frz o (HO.dK kvs))/\H1 pf=some (HO.lst (List.map tx (List.flatMap (ZbD kvs m) (List.take i ss)++List.map (fun c=>c::x) (List.filter (Zbo kvs x) (List.take (j+1) m))))):=fun yes=>by refine⟨.inl ⟨rfl,_,.mk f5⟩,pf,_,_,rfl,rfl,f5,by rw[YAB,YAF,YAB];exact YAk (show _<100000 by omega) (sz 100000 (YAS _)),_,_,rfl,same_upd3 s5 nfH,by rw[Zai ne];exact h5,?_⟩;rw[Zag,tk,YBs,List.filter_cons,yes];simp
     have stay:Zbo kvs x c=false->∃v6 v7,[some (tx l),some (tx m),some (V.ref p),v2,v3,some (V.ref pf),some (tx x),some (tx [c]),some (tx (c::x))]=[some (tx l),some (tx m),some (V.ref p),v2,v3,some (V.ref pf),some (tx x),v6,v7]/\Same H H5/\H5 p=some (HO.frz o (HO.dK kvs))/\H5 pf=some (HO.lst (List.map tx (List.flatMap (ZbD kvs m) (List.take i ss)++List.map (fun c=>c::x) (List.filter (Zbo kvs x) (List.take (j+1) m))))):=fun n0=>⟨_,_,rfl,s5,h5,by rw[no n0];exact f5⟩;refine⟨sz _ (by simp only[YAd,YCg]at xl ⊢;omega),?_⟩;walk_at "rd?";refine⟨p,_,rfl,.inl ⟨kvs,kTx (c::x),.inr ⟨o,h5⟩,rfl,rfl⟩,ite2 (fun h=>?_) (fun h=>?_)⟩
     .refine .inl ⟨rfl,?_⟩;rw[YAI YAC,ZcJ];refine⟨_,rfl,ite2 (fun h2=>iteT' (fin ?_)) (fun h2=>?_)⟩
      .have ex0:=of_decide_eq_true h2;unfold Zbo;rw[h,ex0];exact z2
      .refine⟨_,rfl,c::x,rfl,sz _ (by omega),?_⟩;rw[c1];refine⟨p,_,rfl,.inl ⟨kvs,kTx (c::x).dropLast,.inr ⟨o,h5⟩,rfl,rfl⟩,ite2 (fun h3=>fin ?_) (fun h3=>stay ?_)⟩
       .unfold Zbo;rw[h,h3];rfl
       .unfold Zbo;rw[YBd.mpr h3,YBp]
     .exact iteF (stay (by unfold Zbo;rw[YBd.mpr h,YBi]))
    .rintro U H5 ⟨v6,v7,rfl,s5,h5,f5⟩;refine⟨_,_,_,rfl,s5,h5,?_⟩;rw[f5,YBj,Zjt hx,List.flatMap_append];simp[ZbD]
   .rintro U H4 ⟨v5,v6,v7,rfl,s4,h4,f4⟩;refine⟨o,kvs,h4,?_⟩;walk_at "rd";rw[<-sl,YBj]at f4;obtain⟨nd,me⟩:=Zkw ok kn hs;have s5:Same H (upd H4 p (.dK kvs)):=same_upd3 s4 hp;refine⟨pf,_,rfl,by rw[Zai (YBM ne)];exact f4,fun w hw=>sz _ (by have:=(lsOk ok).w w ((me w).mp hw);omega),tk.2.1.same s5,fun ws' r H6 pm pw s6 t6 n6 e6=>?_⟩;have ew:ws'=Zan l m:=Zba (Zbi pm pw nd) (ZaI (ZcD ok.k)) fun w=>by rw[pm.mem_iff];exact me w
    rw[ew]at e6;exact q r H6 (s5.l.trans s6.1) ⟨s6.2 _ _ _ (by decide) (tk.1.same s5),t6,s6.2 _ _ _ (by decide) (tk.2.2.same s5)⟩ (Nw.of (s5.free n6)) e6
theorem ZpO:FnScope ["self","text","kinds"] ["self","text","kinds"] (Zah s_KT):=by walk_at "sc"
theorem ZnG (T:TL K mg base a tb):FnOk P w K mg base CX0 1 a.g_KT a.e_KT ["self","text","kinds"] (Zpf K a):=by
 refine T.fm_KT.ok ZpO (fun vs H Q E h=>?_) (fun BG A outer s H vs Q E hr h=>?_)
 .obtain⟨_,_,_,_,_,rfl,_⟩:=h;rfl
 .obtain⟨p,dx,C,l,m,rfl,hC,hp,q⟩:=h;refine⟨_,(Zab (ZdX (pv 0) (pv 1) rfl)
   (Zae (ZdX (pv 0) (pv 2) rfl))),?_⟩
  walk_at "rd";rcases hC with rfl | rfl
  .exact⟨p,a.c_LH,dx,[],rfl,hp,T.cl_LH,T.n_Plain_own_text,(by show 0<1000;decide),p,a.c_LH,dx,_,rfl,Zag,T.cl_LH,T.n_Plain_own_kinds,(by show 1<1000;decide),q _ Zag (fun b o e ne=>by rw[Zai ne,Zai ne];exact e)⟩
  .exact⟨p,a.c_LI,dx,[],rfl,hp,T.cl_LI,T.n_Strip_own_text,(by show 0<1000;decide),p,a.c_LI,dx,_,rfl,Zag,T.cl_LI,T.n_Strip_own_kinds,(by show 1<1000;decide),q _ Zag (fun b o e ne=>by rw[Zai ne,Zai ne];exact e)⟩
theorem Zeo:FnScope ["_law_words","_law_top","_law_bottom","_law_word","_law_one","_law_other"] ["_law_words"] (Zah s_LW):=by walk_at "sc"
theorem Znw (T:TL K mg base a tb):FnOk P w K mg base CX0 1 a.f_LW a.d_LW ["_law_words"] (ZoQ K a):=by
 refine T.f_LW.ok Zeo (fun vs H Q E h=>?_) (fun BG A outer s H vs Q E hr h=>?_)
 .obtain⟨_,_,rfl,_⟩:=h;rfl
 .obtain⟨b,ws,rfl,hb,hn,hw,q⟩:=h;refine⟨_,(Zab (Zao (i:=1) Zeo.nd rfl (Or.inl rfl) Zad)
   (Zaf (Zab (Zao (i:=2) Zeo.nd rfl (Or.inl rfl) Zad)
   (Zaf (Zab (Za8 YAp rfl (ZaP (K:=K) rfl (pv 0)) (Zau (i:=3) Zeo.nd rfl (Or.inl rfl))
   (Zab (Zao (i:=1) Zeo.nd rfl (Or.inl rfl) (Zam ZaO (Zam Zbr (Zam Zbr (pv 1) (Zap (Zat (K:=K) rfl) rfl T.z_len ZaV (Zaa (pv 3) Zac))) (Zap (Zat (K:=K) rfl) rfl T.z_len ZaV (Zaa (pv 3) Zac))) (pv 2)))
   (Zae (Zao (i:=2) Zeo.nd rfl (Or.inl rfl) (Zam Zbr (Zam Zbr (pv 2) (Zap (Zat (K:=K) rfl) rfl T.z_len ZaV (Zaa (pv 3) Zac))) (Zap (Zat (K:=K) rfl) rfl T.z_len ZaV (Zaa (pv 3) Zac)))))))
   (Zaf (Zab (Zao (i:=4) Zeo.nd rfl (Or.inl rfl) (pv 1))
   (Zaf (Zab (Zao (i:=5) Zeo.nd rfl (Or.inl rfl) (pv 2))
   (Zaf (Zab (ZgN YAp (Zaw ZjS (pv 5) Zad (ZaL _))
   (Zae (Znf (i:=4) (j:=5) rfl Zeo.nd rfl rfl (by decide) rfl rfl (Zaa (pv 5) (Zaa (Zam ZaE (pv 4) (pv 5)) Zac)) rfl)))
   (Zaf (Zae (Zaq (Zbd (Zaa (Zam Zc8 (pv 1) (pv 4)) (Zaa (Zam Zc8 (pv 2) (pv 4)) Zac))))))))))))))))),?_⟩
  have sz:∀k:Nat,k<=9000->k<=sizeLine:=fun k h=>YAK h (by rw[sizeLine_eq];decide);have dp:=ZdO;walk_at "rd";refine Zaj ?_;walk_at "rd";refine Zaj ?_;walk_at "rd";refine⟨b,rfl,⟨_,.mk hb⟩,ForRun.list (xs:=ws.map tx) (fun i U H'=>∃(tp bt:Int) (v3:Option V),U=[some (.ref b),some (.int tp),some (.int bt),v3,none,none]/\H'=H/\0<=tp/\0<bt/\Bt (11*i+1) bt/\tp*(DD:Nat)=(WS (ws.take i):Nat)*bt) ⟨0,1,_,rfl,rfl,by decide,by decide,⟨by decide,by decide⟩,by rw[List.take_zero,Zjp];simp⟩ (fun i U H' _ ⟨_,_,_,_,e,_⟩=>by rw[e];exact .mk hb) ?_ ?_⟩
  .rintro i x U H1 hx ⟨tp,bt,v3,rfl,rfl,h0,h1,hb1,he⟩;obtain⟨w_,hw1,rfl⟩:=ZqN hx;obtain⟨w1,w41⟩:=hw w_ (YAo hw1);have hi:i<ws.length:=(YAa.mp hw1).1;have wb:=Zms (ws:=ws.take i) fun u hu=>hw u (YAb hu);have wl:(ws.take i).length<=400:=by rw[YAZ];omega
   have wb2:WS (ws.take i)<=400*DD:=YAK wb (YDX _ wl);have le:tp<=400*bt:=by
    refine Int.le_of_mul_le_mul_right (a:=((DD:Nat):Int)) ?_ (by omega);rw[he];have:(400*bt)*(DD:Nat)=((400*DD:Nat):Int)*bt:=by rw[YCi];ac_rfl
    rw[this];exact YDR (by omega) (by omega)
   have b4:Bt 9 400:=⟨by decide,by decide⟩;have bt1:Bt (9+(11*i+1)) tp:=(b4.mul hb1).le h0 le;have bl:Bt 6 ((w_.length:Nat):Int):=⟨by omega,by show w_.length<2 ^ 6;omega⟩;walk_at "rd";have s1:Bt 11 ((w_.length:Nat)*(w_.length:Nat):Int):=by rw[<-YCi];have:=YDM w41 w41;exact⟨by omega,by show w_.length*w_.length<2 ^ 11;omega⟩
   have wp:(0:Int)<(w_.length:Nat)*(w_.length:Nat):=Int.mul_pos (by omega) (by omega);refine⟨_,_,rfl,Zbg (by omega),⟨9+(11*i+1),by omega,bt1,bl.mono (by omega)⟩,_,_,rfl,Zbg (by omega),⟨9+(11*i+1)+6,by omega,bt1.mul bl,bl.mono (by omega)⟩,_,_,rfl,Zbg (by omega),⟨11*i+6,by omega,hb1.mono (by omega),bl.mono (by omega)⟩,_,_,rfl,Zbg (by omega),⟨11*i+1+6,by omega,hb1.mul bl,bl.mono (by omega)⟩,_,_,_,rfl,trivial,?_,?_,?_,?_⟩
   .rw[YDG];exact Int.add_nonneg (Int.mul_nonneg h0 (Int.le_of_lt wp)) (by omega)
   .rw[YDG];exact Int.mul_pos h1 wp
   .rw[YDG];exact(hb1.mul s1).mono (by omega)
   .have e:=Zgy w1 w41;have e2:((DD:Nat):Int)=(w_.length:Nat)*(w_.length:Nat)*(wtN w_.length:Nat):=by rw[<-e,YCi,YCi]
    rw[YCl,hw1];show _=((WS (ws.take i++[w_]):Nat):Int)*_;rw[Zjo,Int.natCast_add,Int.add_mul,Int.add_mul];congr 1
    .have:tp*(w_.length:Nat)*(w_.length:Nat)*(DD:Nat)=(tp*(DD:Nat))*((w_.length:Nat)*(w_.length:Nat)):=by ac_rfl
     rw[this,he];ac_rfl
    .rw[e2];ac_rfl
  .rintro U H1 ⟨tp,bt,v3,rfl,rfl,h0,h1,hb1,he⟩;rw[YAB,YBj]at he;rw[YAB]at hb1;obtain⟨f1,f2⟩:=ZeH h0 h1 (u:=((WS ws:Nat):Int)) (v:=(DD:Nat)) (by omega) (by omega) he;walk_at "rd?";refine Zaj ?_;walk_at "rd";refine Zaj ?_;walk_at "rd";refine Zaj ?_;walk_at "rd";refine ZkA (fun U=>∃(u v:Int),U=[some (.ref b),some (.int tp),some (.int bt),v3,some (.int u),some (.int v)]/\0<=u/\0<=v/\Int.gcd u v=Int.gcd tp bt) (fun U=>match U with | [_,_,_,_,_,some (.int s)]=>s.toNat | _=>0) ⟨tp,bt,rfl,h0,by omega,rfl⟩ ?_;rintro U ⟨u,v,rfl,hu,hv,hg⟩;refine⟨decide (v>0),fun Q1 h1=>?_,?_⟩
   .walk_at "rd";exact h1
   .walk_at "rd";by_cases h:v>0
    .rw[decide_eq_true h];have m0:=YBJ u (show v≠0 by omega);have m1:=YAz u h;exact iteT ⟨h,_,_,rfl,⟨trivial,_,_,rfl,by omega,m0,(Zg6 hu h).trans hg⟩,by show (u % v).toNat<v.toNat;omega⟩
    .rw[decide_eq_false h];have e:v=0:=by omega
     subst e;rw[Int.gcd_zero_right]at hg;have eu:u=((Int.gcd tp bt:Nat):Int):=by rw[<-hg];omega
     have g0:0<Int.gcd tp bt:=YDb tp (by omega);have g1:((Int.gcd tp bt:Nat):Int)<=bt:=Int.le_of_dvd h1 (Int.gcd_dvd_right tp bt);have cd:∀z:Int,Zmv z u:=fun z=>⟨by omega,_,by omega,hb1.le hu (by omega)⟩;refine iteF (Zaj ?_);walk_at "rd";refine⟨cd _,cd _,sz 2 (by decide),NewT.of fun t H2 s2 n2 l2=>q t H2 s2 ?_⟩;rw[l2,<-f1,<-f2,eu];rfl
theorem ZmX:FnScope ["_law_mine","_law_yours","_law_here"] ["_law_mine","_law_yours"] (Zah s_LB):=by walk_at "sc"
theorem ZnC (T:TL K mg base a tb):FnOk P w K mg base CX0 1 a.f_LB a.d_LB ["_law_mine","_law_yours"] (Zo8 K a):=by
 refine T.f_LB.ok ZmX (fun vs H Q E h=>?_) (fun BG A outer s H vs Q E hr h=>?_)
 .obtain⟨_,_,_,_,rfl,_⟩:=h;rfl
 .obtain⟨b,c,xs,ys,rfl,hb,hc,okx,oky,q⟩:=h;refine⟨_,(Zab (Zdn (i:=2) (N:=["_law_word","_law_yours"]) (ix:=[none,some 1]) rfl ZmX.nd rfl rfl rfl (ZaQ rfl) rfl (ZaP (K:=K) rfl (pv 0)) (fun _ _ _ _=>(Zau (i:=0) (show (["_law_word","_law_yours"]:AJ).Nodup from by decide +kernel) rfl (Or.inl rfl) (Or.inr rfl))) (fun _ _ _ _=>(ZbF (Zaw (Za7 (K:=K) rfl) (pv 0) (pv 1) rfl))) (fun _ _ _ _=>(pv 0)))
   (Zaf (Zae (Zaq (Zam ZgU (pv 2) (Zbp (N:=["_law_word","_law_mine"]) (ix:=[none,some 0]) rfl (ZaQ rfl) rfl (ZaP (K:=K) rfl (pv 1)) (fun _ _ _ _=>(Zau (i:=0) (show (["_law_word","_law_mine"]:AJ).Nodup from by decide +kernel) rfl (Or.inl rfl) (Or.inr rfl))) (fun _ _ _ _=>(ZbF (Zaw (Za7 (K:=K) rfl) (pv 0) (pv 1) rfl))) (fun _ _ _ _=>(pv 0)))))))),?_⟩
  have nx:=okx.len;have ny:=oky.len;have half:∀ {a1 a2:AD} {us vs:Q22} {H1:Hp} {τ:V} (Q1:VK),us.length<=200->H1 a1=some (.lst (us.map tx))->H1 a2=some (.lst (vs.map tx))->(∀p H',Same H1 H'->H1 p=none->H' p=some (.lst ((us.filter fun v=>!decide (v∈vs)).map tx))->Q1 (.ref p) H')->CompRun (Itl K a1) [none,some (V.ref a2)] (ZbW 0) (Zjv (tOp (rIn K true) (tVar 0) (tVar 1))) (tVar 0) H1 Q1:=fun {a1 a2 us vs H1 τ} Q1 hl h1 h2 hq=>by
   refine CompRun.listL (xs:=us.map tx) (fun i=>!decide (us.getD i []∈vs)) (fun i=>tx (us.getD i [])) (by rw[YAB];omega) (.mk h1) ?_ ?_ ?_
   .intro i H2 Q2 hi s2 q2;rw[YAB]at hi;rw[Zbz hi];walk_at "rd";refine⟨a2,_,rfl,.inl (.mk (s2 _ _ h2)),rfl,Zbs _,_,rfl,?_⟩;rw[YAM rfl,Zd5];exact q2 H2 (Same.refl _)
   .intro i H2 Q2 hi _ s2 q2;rw[YAB]at hi;rw[Zbz hi];walk_at "rd";exact q2 H2 (Same.refl _)
   .intro p H2 s2 n2 l2;rw[Zmb (fun v=>!decide (v∈vs))]at l2;exact hq p H2 s2 n2 l2
  walk_at "rd";refine⟨b,rfl,⟨_,.mk hb⟩,half (τ:=.non) _ nx hb hc fun r1 H1 s1 n1 e1=>Zaj ?_⟩;walk_at "rd";refine⟨c,rfl,⟨_,.mk (s1 _ _ hc)⟩,half (τ:=.non) _ ny (s1 _ _ hc) (s1 _ _ hb) fun r2 H2 s2 n2 e2=>?_⟩;have d:=Zhe (Zbn okx.srt) (Zbn oky.srt);have dl:=Zce d okx oky;refine⟨r1,r2,_,_,rfl,rfl,s2 _ _ e1,e2,?_,fun r3 n3=>?_⟩
  .rw[YAF]at dl;rw[YAB,YAB];exact YAK dl (by rw[sizeLine_eq];decide)
  .exact q r3 _ _ (s1.trans (s2.trans (Zav n3))) (s1.free (s2.free n3)) (by rw[Zag,YBb]) d dl
theorem ZmW:FnScope ["_law_mine","_law_yours","_law_found"] ["_law_mine","_law_yours"] (Zah s_LP):=by walk_at "sc"
theorem Zny (T:TL K mg base a tb):FnOk P w K mg base CX0 1 a.f_LP a.d_LP ["_law_mine","_law_yours"] (ZoW K a):=by
 refine T.f_LP.okC T.cd_LP ZmW (fun vs H Q E h=>?_) (fun A outer s H vs Q E hr h=>?_)
 .obtain⟨_,_,_,_,rfl,_⟩:=h;rfl
 .obtain⟨b,c,xs,ys,rfl,hb,hc,okx,oky,tk,q⟩:=h;refine⟨_,(Zab (Zao (i:=2) ZmW.nd rfl (Or.inl rfl) (Zam ZgU (Zbp (N:=["_law_word","_law_yours"]) (ix:=[none,some 1]) rfl (ZaQ rfl) rfl (ZaP (K:=K) rfl (pv 0)) (fun _ _ _ _=>(Zau (i:=0) (show (["_law_word","_law_yours"]:AJ).Nodup from by decide +kernel) rfl (Or.inl rfl) (Or.inr rfl))) (fun _ _ _ _=>(ZbF (Zaw (Za7 (K:=K) rfl) (pv 0) (pv 1) rfl))) (fun _ _ _ _=>(Zbd (Zaa (pv 0) (Zaa Zad Zac))))) (Zbp (N:=["_law_word","_law_mine"]) (ix:=[none,some 0]) rfl (ZaQ rfl) rfl (ZaP (K:=K) rfl (pv 1)) (fun _ _ _ _=>(Zau (i:=0) (show (["_law_word","_law_mine"]:AJ).Nodup from by decide +kernel) rfl (Or.inl rfl) (Or.inr rfl))) (fun _ _ _ _=>(ZbF (Zaw (Za7 (K:=K) rfl) (pv 0) (pv 1) rfl))) (fun _ _ _ _=>(Zbd (Zaa (pv 0) (Zaa Zad Zac)))))))
   (Zaf (Zae (Zaq (ZjO (q:="_law_rows.<locals>.<lambda>") hr T.L_lrows rfl rfl T.z_sorted T.z_len (Zaa (pv 2) Zac) rfl rfl (by kernel_rfl) ⟨rfl,rfl,rfl,rfl,rfl,rfl⟩ (fun _ _ _ _ _=>.of_eq rfl)))))),?_⟩
  have sz:∀k:Nat,k<=9000->k<=sizeLine:=fun k h=>YAK h (by rw[sizeLine_eq];decide);have nx:=okx.len;have ny:=oky.len;have half:∀ {a1 a2:AD} {us vs:Q22} {H1:Hp} (n:Int) (Q1:VK),us.length<=200->H1 a1=some (.lst (us.map tx))->H1 a2=some (.lst (vs.map tx))->(∀(p:AD) (rs:List (AD×Q11)) (H':Hp),Same H1 H'->H1 p=none->H' p=some (.lst (rs.map fun r=>.ref r.1))->(us.filter fun v=>!decide (v∈vs))=rs.map (·.2)->(∀r∈rs,H' r.1=some (.tup [tx r.2,.int n]))->Q1 (.ref p) H')->CompRun (Itl K a1) [none,some (V.ref a2)] (ZbW 0) (Zjv (tOp (rIn K true) (tVar 0) (tVar 1))) (tTup (Zjw (tVar 0) (Zjw (tC (V.int n)) tNil))) H1 Q1:=fun {a1 a2 us vs H1} n Q1 hl h1 h2 hq=>by
   refine CompRun.dataF (xs:=us.map tx) (fun i=>!decide (us.getD i []∈vs)) (fun H y i=>∃t,y=.ref t/\H t=some (.tup [tx (us.getD i []),.int n])) (fun _ _ _ _ k ⟨t,e,h⟩=>⟨t,e,k _ _ h⟩) (by rw[YAB];omega) (.mk h1) ?_ ?_ ?_
   .intro i H2 Q2 hi s2 q2;rw[YAB]at hi;rw[Zbz hi];walk_at "rd";refine⟨a2,_,rfl,.inl (.mk (s2 _ _ h2)),rfl,Zbs _,_,rfl,?_⟩;rw[YAM rfl,Zd5];exact q2 H2 (Same.refl _)
   .intro i H2 Q2 hi _ s2 q2;rw[YAB]at hi;rw[Zbz hi];walk_at "rd";exact⟨sz 2 (by decide),NewT.of fun t H3 s3 n3 l3=>q2 _ _ s3 ⟨t,rfl,l3⟩⟩
   .intro p ys H2 s2 n2 l2 e2 al;rw[YAB]at e2 al;have ef:(us.filter fun v=>!decide (v∈vs))=((List.range us.length).filter fun i=>!decide (us.getD i []∈vs)).map fun i=>us.getD i []:=(Zcb (fun v=>!decide (v∈vs)) [] us).symm;obtain⟨rs,e3,e4,hr⟩:=Zii (H:=H2) (v:=.int n) (ys:=ys) (ws:=us.filter fun v=>!decide (v∈vs)) (by rw[ef,YAB];exact e2) fun k y hk=>by obtain⟨j,hj,t,e5,h5⟩:=al k y hk;exact⟨t,us.getD j [],e5,by rw[ef,YAc,hj];rfl,h5⟩
    rw[e3]at l2;exact hq p rs H2 s2 n2 l2 e4 hr
  walk_at "rd";refine⟨b,rfl,⟨_,.mk hb⟩,half 0 _ nx hb hc fun r1 rs1 H1 s1 n1 e1 w1 t1=>?_⟩;refine⟨c,rfl,⟨_,.mk (s1 _ _ hc)⟩,half 1 _ ny (s1 _ _ hc) (s1 _ _ hb) fun r2 rs2 H2 s2 n2 e2 w2 t2=>?_⟩;have d:=Zhe (Zbn okx.srt) (Zbn oky.srt);have dl:=Zce d okx oky;rw[w1,w2,<-YBb]at d dl;rw[YAB]at dl;refine⟨r1,r2,_,_,rfl,rfl,s2 _ _ e1,e2,?_,fun r3 n3=>Zaj ?_⟩
  .rw[YAF]at dl;rw[YAB,YAB];exact sz _ (by omega)
  rw[<-YBb];have s3:Same H2 (upd H2 r3 (.lst ((rs1++rs2).map fun r=>.ref r.1))):=Zav n3;have h3:upd H2 r3 (.lst ((rs1++rs2).map fun r=>.ref r.1)) r3=some (.lst ((rs1++rs2).map fun r=>.ref r.1)):=Zag;generalize upd H2 r3 (.lst ((rs1++rs2).map fun r=>.ref r.1))=H3 at s3 h3;have tup:∀r∈rs1++rs2,H3 r.1=some (.tup [tx r.2,.int (if r.2∈xs then 0 else 1)]):=fun r hr=>by
   rcases YAW.mp hr with z | z
   .have k:r.2∈rs1.map (·.2):=YBa z;rw[<-w1]at k;rw[YAM (YAr.mp k).1];exact s3 _ _ (s2 _ _ (t1 r z))
   .have k:r.2∈rs2.map (·.2):=YBa z;rw[<-w2]at k;have k2:=(YAr.mp k).2;rw[YAI (by simpa using k2)];exact s3 _ _ (t2 r z)
  have s03:=s1.trans (s2.trans s3);walk_at "rd";refine⟨r3,rs1++rs2,rfl,h3,fun r hr=>⟨sz _ (by have:=(Zc1 d okx oky (YBa hr)).2;omega),_,tup r hr⟩,tk.2.2.same s03,fun rs' r4 H4 pm pw s4 t4 n4 e4=>?_⟩;have d':IsDiff xs ys (rs'.map (·.2)):=⟨(pm.map _).nodup_iff.mpr d.nd,fun w=>by rw[(pm.map _).mem_iff];exact d.mem w⟩;refine q r4 _ (rs'.map (·.2)) H4 (s03.l.trans s4.1) ⟨s4.2 _ _ _ (by decide) (tk.1.same s03),s4.2 _ _ _ (by decide) (tk.2.1.same s03),t4⟩ (Nw.of (s03.free n4)) e4 ⟨by rw[YAB,YAB],fun i y hy=>?_⟩ d' (Zbi (List.Perm.refl _) (by rw[YBE];exact pw) d'.nd);rw[YAc]at hy;obtain⟨r,hr,rfl⟩:=YDH.mp hy;exact⟨r.2,r.1,by rw[YAc,hr];rfl,rfl,s4.1 _ _ (tup r (pm.mem_iff.mp (YAo hr))) rfl⟩
theorem ZmZ:FnScope ["_law_near_here","_law_far","_law_way","_law_most"] ["_law_near_here","_law_far","_law_way"] (Zah s_KY):=by walk_at "sc"
theorem Zqt (T:TL K mg base a tb):FnOk P w K mg base CX0 1 a.f_KY a.d_KY ["_law_near_here","_law_far","_law_way"] (Zpb K a):=by
 refine T.f_KY.ok ZmZ (fun vs H Q E h=>?_) (fun BG A outer s H vs Q E hr h=>?_)
 .obtain⟨_,_,_,_,_,_,rfl,_⟩:=h;rfl
 .obtain⟨t,u,v,x,y,z,rfl,ht,hu_,hv,le,bx,by_,bz,q⟩:=h;refine⟨_,(Zab (Zao (i:=3) ZmZ.nd rfl (Or.inl rfl) (Zam ZaO (Zam Zbr (ZaH (ZaU (K:=K) rfl) (pv 0) Zad (fun _ _=>rfl)) (ZaH (ZaU (K:=K) rfl) (pv 2) Zad (fun _ _=>rfl))) (Zam Zbr (ZaH (ZaU (K:=K) rfl) (pv 2) Zad (fun _ _=>rfl)) (ZaH (ZaU (K:=K) rfl) (pv 0) Zad (fun _ _=>rfl)))))
   (Zaf (Zae (Zaq (Zbq Znt (Zam Zbr (Zam Zbr (ZaH (ZaU (K:=K) rfl) (pv 1) Zad (fun _ _=>rfl)) (ZaH (ZaU (K:=K) rfl) (pv 0) Zad (fun _ _=>rfl))) (ZaH (ZaU (K:=K) rfl) (pv 2) Zad (fun _ _=>rfl))) (Zam Zbr (pv 3) (ZaH (ZaU (K:=K) rfl) (pv 1) Zad (fun _ _=>rfl))) (ZaL _)))))),?_⟩
  have dp:=ZdO;obtain⟨x1,x2,x3⟩:=Zkg bx;obtain⟨y1,y2,y3⟩:=Zkg by_;obtain⟨z1,z2,z3⟩:=Zkg bz;have ex:=(ZbJ (a:=(x:Nat)) (b:=(DD:Nat)) (by omega) (by omega)).2.2.2.2.2;have ey:=(ZbJ (a:=(y:Nat)) (b:=(DD:Nat)) (by omega) (by omega)).2.2.2.2.2;have ez:=(ZbJ (a:=(z:Nat)) (b:=(DD:Nat)) (by omega) (by omega)).2.2.2.2.2;generalize frT (x:Nat) (DD:Nat)=a1 at *;generalize frB (x:Nat) (DD:Nat)=b1 at *;generalize frT (y:Nat) (DD:Nat)=a2 at *;generalize frB (y:Nat) (DD:Nat)=b2 at *;generalize frT (z:Nat) (DD:Nat)=a3 at *;generalize frB (z:Nat) (DD:Nat)=b3 at *;have m1:Bt 680 (a1*b3):=x1.mul z2;have m2:Bt 680 (a3*b1):=z1.mul x2;have m3:Bt 681 (a1*b3+a3*b1):=m1.add m2;have m4:Bt 680 (a2*b1):=y1.mul x2;walk_at "rd";refine⟨t,_,0,_,rfl,rfl,.mk ht,rfl,v,_,1,_,rfl,rfl,.mk hv,rfl,_,_,rfl,rfl,⟨340,by decide,x1,z2⟩,v,_,0,_,rfl,rfl,.mk hv,rfl,t,_,1,_,rfl,rfl,.mk ht,rfl,_,_,rfl,rfl,⟨340,by decide,z1,x2⟩,_,_,rfl,rfl,Zaj ?_⟩;walk_at "rd";refine⟨u,_,0,_,rfl,rfl,.mk hu_,rfl,t,_,1,_,rfl,rfl,.mk ht,rfl,_,_,rfl,rfl,⟨340,by decide,y1,x2⟩,v,_,1,_,rfl,rfl,.mk hv,rfl,_,_,rfl,rfl,⟨680,by decide,m4,z2.mono (by decide)⟩,u,_,1,_,rfl,rfl,.mk hu_,rfl,_,_,rfl,rfl,⟨681,by decide,m3,y2.mono (by decide)⟩,_,_,rfl,rfl,?_⟩;have key:a2*b1*b3<=(a1*b3+a3*b1)*b2:=by
   refine Int.le_of_mul_le_mul_right (a:=((DD:Nat):Int)) ?_ (by omega);have l1:a2*b1*b3*(DD:Nat)=(b1*b2*b3)*(y:Nat):=by
    have:a2*b1*b3*(DD:Nat)=(a2*(DD:Nat))*(b1*b3):=by ac_rfl
    rw[this,ey];ac_rfl
   have l2:(a1*b3+a3*b1)*b2*(DD:Nat)=(b1*b2*b3)*((x:Nat)+(z:Nat)):=by
    have:(a1*b3+a3*b1)*b2*(DD:Nat)=(a1*(DD:Nat))*(b3*b2)+(a3*(DD:Nat))*(b1*b2):=by rw[Int.add_mul,Int.add_mul];congr 1<;>ac_rfl
    rw[this,ex,ez,Int.mul_add];congr 1<;>ac_rfl
   rw[l1,l2];exact Int.mul_le_mul_of_nonneg_left (by omega) (Int.le_of_lt (Int.mul_pos (Int.mul_pos x3 y3) z3))
  show Q (V.bl (decide _)) H;rw[decide_eq_true key];exact q
theorem Zm0:FnScope ["top","bottom","divisor"] ["top","bottom"] (Zah s_K0):=by walk_at "sc"
theorem ZlI (T:TL K mg base a tb):FnOk P w K mg base CX0 2 a.f_K0 a.d_K0 ["top","bottom"] (ZpC K a):=by
 refine T.f_K0.ok Zm0 (fun vs H Q E h=>?_) (fun BG A outer s H vs Q E hr h=>?_)
 .obtain⟨_,_,_,rfl,_⟩:=h;rfl
 .obtain⟨x,y,n,rfl,hx,hy,hy1,n8,q⟩:=h;refine⟨_,(Zab (Zao (i:=2) Zm0.nd rfl (Or.inl rfl) (Zal (Zqj T) (hr.mono (by decide)) rfl T.m_LV T.f_LV.kp T.b_LV .nil Zas (Zaa (pv 0) (Zaa (pv 1) Zac))))
   (Zae (Zaq (Zbd (Zaa (Zam Zc8 (pv 0) (pv 2)) (Zaa (Zam Zc8 (pv 1) (pv 2)) Zac)))))),?_⟩
  walk_at "rd";have hg:0<Int.gcd x y:=YDb x (by omega);have hg1:Int.gcd x y<=y:=Int.le_of_dvd hy (Int.gcd_dvd_right x y);have cd:∀z:Int,Zmv z (Int.gcd x y:Nat):=fun z=>⟨by omega,n,n8,hy1.le (by omega) hg1⟩;exact⟨x,y,rfl,hx,by omega,_,_,rfl,rfl,cd _,_,_,rfl,rfl,cd _,by rw[sizeLine_eq];decide,NewT.of fun p H2 s2 n2 l2=>q p H2 s2 l2⟩
theorem ZpP:FnScope ["one","other"] ["one","other"] (Zah s_KS):=by walk_at "sc"
theorem Zqw (T:TL K mg base a tb):FnOk P w K mg base (CXr P w) 2 a.f_KS a.d_KS ["one","other"] (Zpg K a):=by
 refine T.f_KS.okX ZpP (fun vs H Q E h=>?_) (fun BG A outer s H vs Q E hr h=>?_)
 .obtain⟨_,_,_,_,_,_,rfl,_⟩:=h;rfl
 .have BJ:=hr.units;obtain⟨p1,p2,l1,m1,l2,m2,rfl,h1,h2,q⟩:=h;refine⟨_,(Zae (Zbh (Zaw (Zdr (K:=K) rfl BJ) (ZgR (Zbk (pv 0) T.cl_LH T.me_Plain_kinds (ZjT T) (hr.mono (by decide)) T.b_KI .nil Zas) (Zbk (pv 0) T.cl_LI T.me_Strip_kinds (ZjT T) (hr.mono (by decide)) T.b_KI .nil Zas)) (ZgR (Zbk (pv 1) T.cl_LH T.me_Plain_kinds (ZjT T) (hr.mono (by decide)) T.b_KI .nil Zas) (Zbk (pv 1) T.cl_LI T.me_Strip_kinds (ZjT T) (hr.mono (by decide)) T.b_KI .nil Zas)) (ZaL _)) (Zae (ZjM Zjg rfl (Zis T.x_K9 T.i_K9 rfl T.m_K9 (Zaa (Za4 (l:=[116,104,101,32,107,105,110,100,115,32,97,114,101,32,110,111,116,32,116,104,101,32,115,97,109,101]) (by decide +kernel)) Zac)))) ZaD)),?_⟩;have fin:∀(H':Hp),H'=H->rEqD K true (tx m1) (tx m2) H' fun x H'=>∃k,x=V.bl k/\if k=true then 1<=1000/\Mk0 a.c_K9 H' fun v H1=>∃e C d,v=V.ref e/\H1 e=some (xo e C d)/\Xm K C/\E (Value.ref C) (some e) (upd H1 e (xr e C d)) else Q V.non H':=fun H' eH=>by
   subst eH;rcases q with⟨rfl,q⟩|⟨ne,x⟩
   .exact ZqH ⟨false,rfl,iteF q⟩
   .exact ZnQ ne ⟨true,rfl,iteT ⟨by decide,fun e he=>⟨e,_,none,rfl,Zag,T.x_K9,x e _ (Ze9 he) (.bare Zag)⟩⟩⟩
  have two:∀(H':Hp),H'=H->ZmU K a [V.ref p2] H' (fun y H2=>rEqD K true (tx m1) y H2 fun x H'=>∃k,x=V.bl k/\if k=true then 1<=1000/\Mk0 a.c_K9 H' fun v H1=>∃e C d,v=V.ref e/\H1 e=some (xo e C d)/\Xm K C/\E (Value.ref C) (some e) (upd H1 e (xr e C d)) else Q V.non H') E0:=fun H' eH=>by subst eH;exact⟨p2,l2,m2,rfl,h2,fin _ rfl⟩
  walk_at "rd";have or2:=fun R (r:R)=>ZeT (R1:=R) (R2:=R) (x:=Str.ofString "kinds") h2 (by decide +kernel) (by decide +kernel) (by decide +kernel) (fun _=>r) (fun _ _ _ _=>r);exact ZeT h1 (by decide +kernel) (by decide +kernel) (by decide +kernel) (fun _=>⟨p1,l1,m1,rfl,h1,or2 _ (two _ rfl)⟩) (fun _ _ _ _=>⟨p1,l1,m1,rfl,h1,or2 _ (two _ rfl)⟩)
theorem ZpU:FnScope ["self","length"] ["self","length"] (Zah s_KK):=by walk_at "sc"
theorem ZnJ (T:TL K mg base a tb):FnOk P w K mg base CX0 2 a.g_KK a.e_KK ["self","length"] (Zpm K a):=by
 refine T.fm_KK.ok ZpU (fun vs H Q E h=>?_) (fun BG A outer s H vs Q E hr h=>?_)
 .obtain⟨_,_,_,_,rfl,_⟩:=h;rfl
 .obtain⟨p,l,m,n,rfl,hp,ok,hn,q⟩:=h;refine⟨_,(Zae (Zaq (Zal (Zqp T) (hr.mono (by decide)) rfl T.m_LG T.f_LG.kp T.b_LG .nil Zas (Zaa (ZbR (pv 0) T.cl_LH T.me_Plain_laid_out (ZqD T) (hr.mono (by decide)) T.b_KA .nil Zas (Zaa (pv 1) Zac)) (Zaa (pv 1) Zac))))),?_⟩;obtain⟨dx,hp⟩:=hp;have l40:=ok.l40;walk_at "rd";exact⟨p,dx,_,rfl,hp,ZdF (by decide +kernel) (by decide +kernel),p,l,m,n,rfl,⟨dx,hp⟩,l,n,rfl,by omega,by omega,by omega,q⟩
theorem Zp1:FnScope ["thing"] ["thing"] (Zah s_K3):=by walk_at "sc"
theorem ZqG (T:TL K mg base a tb):FnOk P w K mg base CX0 2 a.f_K3 a.d_K3 ["thing"] (Zpz K a):=by
 refine T.f_K3.ok Zp1 (fun vs H Q E h=>?_) (fun BG A outer s H vs Q E hr h=>?_)
 .obtain⟨_,rfl,_⟩:=h;rfl
 .have BJ:=hr.units;obtain⟨l,rfl,hl,q⟩:=h;refine⟨_,(Zab (Zbh (Zcu (Zch (Zap (Za6 (K:=K) rfl) rfl T.z_isinstance ZaZ (Zaa (pv 0) (Zaa (ZcQ (v:=.ty "str") rfl T.z_str Zk4 rfl) Zac))))) (Zae (Zaq Zc5)) ZaD)
   (Zab (Zbh (PW.pt (Zil (Zaw Zns (Zap (Zat (K:=K) rfl) rfl T.z_len ZaV (Zaa (pv 0) Zac)) Zad (ZaL _)) (Zfe (Zaw ZjS (Zap (Zat (K:=K) rfl) rfl T.z_len ZaV (Zaa (pv 0) Zac)) (Zer rfl T.c_KM) (ZaL _))))) (Zae (Zaq Zc5)) ZaD)
   (Zae (Zaq (Zci (Zal (ZnP T) (hr.mono (by decide)) rfl T.m_K1 T.f_K1.kp T.b_K1 .nil Zas (Zaa (pv 0) (Zaa (ZjQ rfl T.c_KC) Zac))) (ZcZ (Zbq (Za0 (K:=K) rfl BJ) (Zbe (Zc2 rfl) rfl T.z_list ZdK (Zaa (pv 0) Zac)) (Zap (Zb4 rfl) rfl T.z_sorted Zb5 (Zaa (Zbe (ZbC rfl) rfl T.z_set ZfO (Zaa (pv 0) Zac)) Zac)) (ZaL _)))))))),?_⟩
  walk_at "rd";refine⟨_,_,_,_,true,rfl,rfl,.ty (.pl (.str _)),Zfv,iteF ?_⟩;refine⟨_,_,rfl,Zbg hl,?_⟩;refine ite2 (fun h=>iteT' ?_) (fun h=>?_)
  .have h1:¬1<=l.length:=by have:=of_decide_eq_true h;omega
   have e:=q H (Same.refl _);unfold isk at e;rw[decide_eq_false h1,YBi,YBi,YBi]at e;exact e
  .have h1:1<=l.length:=by have:¬((l.length:Nat):Int)<1:=fun z=>h (decide_eq_true z);omega
   refine⟨_,_,rfl,Zbg hl,?_⟩;refine ite2 (fun h'=>?_) (fun h'=>?_)
   .have h4:¬l.length<=4:=by have:=of_decide_eq_true h';omega
    have e:=q H (Same.refl _);unfold isk at e;rw[decide_eq_false h4,YBp,YBi,YBi]at e;exact e
   .have h4:l.length<=4:=by have:¬4<((l.length:Nat):Int):=fun z=>h' (decide_eq_true z);omega
    refine⟨l,LET,by rw[ZlO],hl,fun H2 s2=>⟨_,rfl,?_⟩⟩;refine ite2 (fun ha=>?_) (fun ha=>?_)
    .refine⟨l,rfl,hl,NewL.of fun p1 H3 s3 n3 l3=>?_⟩;refine⟨signs l,by rw[signs_length];exact hl,.inl ⟨l,rfl,rfl⟩,fun p4 n4=>?_⟩;refine⟨p4,ddl (signs l),rfl,Zag,YCa (Zmg l) (by omega),NewL.of fun p5 H5 s5 n5 l5=>?_⟩;refine Zop (.mk ((Zav n4).trans s5 _ _ l3)) (.mk l5) ?_;have e:=q H5 (s2.trans (s3.trans ((Zav n4).trans s5)));unfold isk at e;rw[decide_eq_true h1,decide_eq_true h4,ha,YCO,YCO,YCO]at e;exact e
    .have e:=q H2 s2;unfold isk at e;rw[YBd.mpr ha,YBp,YBi]at e;exact e
theorem Zp0:FnScope ["thing","kinds","most"] ["thing","kinds","most"] (Zah s_K4):=by walk_at "sc"
theorem ZnO (T:TL K mg base a tb):FnOk P w K mg base CX0 2 a.f_K4 a.d_K4 ["thing","kinds","most"] (Zpy K a):=by
 refine T.f_K4.ok Zp0 (fun vs H Q E h=>?_) (fun BG A outer s H vs Q E hr h=>?_)
 .obtain⟨_,_,_,rfl,_⟩:=h;rfl
 .obtain⟨l,m,most,rfl,hl,q⟩:=h;refine⟨_,(Zae (Zaq (Zci (Zap (Za6 (K:=K) rfl) rfl T.z_isinstance ZaZ (Zaa (pv 0) (Zaa (ZcQ (v:=.ty "str") rfl T.z_str Zk4 rfl) Zac))) (Zci (Zbq Znt (Zap (Zat (K:=K) rfl) rfl T.z_len ZaV (Zaa (pv 0) Zac)) (pv 2) (ZaL _)) (ZcZ (Zal (ZnP T) (hr.mono (by decide)) rfl T.m_K1 T.f_K1.kp T.b_K1 .nil Zas (Zaa (pv 0) (Zaa (pv 1) Zac)))))))),?_⟩;walk_at "rd";refine⟨_,_,_,_,true,rfl,rfl,.ty (.pl (.str _)),Zfv,iteT ?_⟩;refine⟨_,_,rfl,Zbg hl,?_⟩;refine ite2 (fun h=>?_) (fun h=>?_)
  .refine⟨l,m,rfl,hl,fun H2 s2=>?_⟩;have e:=q H2 s2;unfold isw at e;rw[h,YCO]at e;exact e
  .have e:=q H (Same.refl _);unfold isw at e;rw[YBd.mpr h,YBi]at e;exact e
theorem Zlo:FnScope ["lesser","longer","edges","size"] ["lesser","longer"] (Zah s_LK):=by walk_at "sc"
theorem ZnA (T:TL K mg base a tb):FnOk P w K mg base CX0 2 a.f_LK a.d_LK ["lesser","longer"] (Zo1 K a):=by
 refine T.f_LK.ok Zlo (fun vs H Q E h=>?_) (fun BG A outer s H vs Q E hr h=>?_)
 .obtain⟨_,_,rfl,_⟩:=h;rfl
 .obtain⟨s_,L,rfl,hL,ex,tk,q⟩:=h;refine⟨_,(Zab (Zao (i:=2) Zlo.nd rfl (Or.inl rfl) (ZbL Zac))
   (Zaf (Zab (Za8 YAp rfl (Zdo rfl T.z_range (Zaa Zad (Zaa (Zam ZaO (Zap (Zat (K:=K) rfl) rfl T.z_len ZaV (Zaa (pv 1) Zac)) Zad) Zac))) (Zau (i:=3) Zlo.nd rfl (Or.inl rfl))
   (Zab (ZaR (Zdp YBH YBY YBX Zbf (pv 2) (Zaa (ZaA ZbE (pv 1) ZaS (ZaJ (pv 3))) Zac)))
   (Zae (ZaR (Zdp YBH YBY YBX Zbf (pv 2) (Zaa (ZaA ZbE (pv 1) (ZaJ (Zam Ziv (Zap (Zat (K:=K) rfl) rfl T.z_len ZaV (Zaa (pv 1) Zac)) (pv 3))) ZaS) Zac))))))
   (Zaf (Zae (Zaq (Zal (ZjU T) (hr.mono (by decide)) rfl T.m_K2 T.f_K2.kp T.b_K2 .nil Zas (Zaa (Zap (ZbU rfl) rfl T.z_sorted Zb5 (Zaa (Zbe (ZbC rfl) rfl T.z_set ZfO (Zaa (Zbp (N:=["word","lesser"]) (ix:=[none,some 0]) rfl (ZaQ rfl) rfl (ZaP (K:=K) rfl (pv 2)) (fun _ _ _ _=>(Zau (i:=0) (show (["word","lesser"]:AJ).Nodup from by decide +kernel) rfl (Or.inl rfl) (Or.inr rfl))) (fun _ _ _ _=>(ZbF (Zaw Zdq (pv 0) (pv 1) rfl))) (fun _ _ _ _=>(pv 0))) Zac)) Zac)) Zac)))))))),?_⟩
  have sz:∀k:Nat,k<=9000->k<=sizeLine:=fun k h=>YAK h (by rw[sizeLine_eq];decide);walk_at "rd";refine⟨YAv _,NewL.of fun pe H1 s1 ne le=>?_⟩;refine Zaj ?_;walk_at "rd";refine⟨_,_,rfl,Zbg (by omega),_,_,rfl,⟨by decide,by decide,by omega,by omega⟩,?_⟩;have ej:((L.length:Int)+1-1).toNat=L.length:=by omega
  rw[ej];refine ForRun.range (fun i U H'=>∃v3,U=[some (tx s_),some (tx L),some (.ref pe),v3]/\Same H H'/\H' pe=some (.lst ((Za1 L i).map tx))) ⟨_,rfl,s1,le⟩ ?_ ?_
  .rintro i U H2 hi ⟨v3,rfl,s2,h2⟩;have el:=ZcG L i;have e1:(1+(i:Int))=((i+1:Nat):Int):=by omega
   have e2:(L.length:Int)-(1+(i:Int))=((L.length-(i+1):Nat):Int):=by omega
   walk_at "rd";refine⟨.inl ⟨rfl,_,.mk h2⟩,_,rfl,L,rfl,sz _ (by omega),pe,_,_,rfl,rfl,h2,by rw[YAB];exact sz _ (by omega),.inl ⟨rfl,_,.mk Zag⟩,_,_,rfl,Zbg (by omega),_,rfl,L,rfl,sz _ (by omega),pe,_,_,rfl,rfl,Zag,by rw[YAF,YAB];exact sz _ (by rw[YAs];omega),_,rfl,?_,?_⟩
   .exact same_upd3 (same_upd3 s2 ne) ne
   .rw[Zag,e1,Zec,<-e1,e2,ZcL,Zea,YBb,YAm];rfl
  .rintro U H2 ⟨v3,rfl,s2,h2⟩;walk_at "rd?";refine Zaj ?_;walk_at "rd";have el:=ZcG L L.length;refine⟨pe,rfl,⟨_,.mk h2⟩,CompRun.listL (xs:=(Za1 L L.length).map tx) (fun i=>!infB ((Za1 L L.length).getD i []) s_) (fun i=>tx ((Za1 L L.length).getD i [])) (by rw[YAB];omega) (.mk h2) ?_ ?_ ?_⟩
   .intro i H3 Q3 hi s3 q3;rw[YAB]at hi;rw[Zbz hi];walk_at "rd";exact⟨_,_,rfl,rfl,q3 H3 (Same.refl _)⟩
   .intro i H3 Q3 hi _ s3 q3;rw[YAB]at hi;rw[Zbz hi];walk_at "rd";exact q3 H3 (Same.refl _)
   .intro p3 H3 s3 n3 l3;have eh:((List.range ((Za1 L L.length).map tx).length).filter fun i=>!infB ((Za1 L L.length).getD i []) s_).map (fun i=>tx ((Za1 L L.length).getD i []))=((Za1 L L.length).filter fun v=>!infB v s_).map tx:=by rw[YAB,<-Zcb (fun v=>!infB v s_) [] (Za1 L L.length),YBS];rfl
    rw[eh]at l3;have fl:=YAt (fun v=>!infB v s_) (Za1 L L.length);generalize hF:(Za1 L L.length).filter (fun v=>!infB v s_)=F0 at l3 fl;have mF:∀w,w∈F0↔Frs s_ L w:=fun w=>by rw[<-hF,YAr,Zfn,Zi1 ex,Bool.not_eq_true',ZcE]
    have dl:=Zos F0;refine⟨F0,by omega,.inr ⟨p3,rfl,.mk l3⟩,fun p4 n4=>⟨p4,_,rfl,Zag,sz _ (by omega),NewL.of fun p5 H5 s5 n5 l5=>?_⟩⟩;have s25:Same H H5:=s2.trans (s3.trans ((Zav n4).trans s5));have pm0:=ZaG (ddl F0);refine⟨p5,_,rfl,l5,fun w hw=>?_,tk.same s25,fun ws r H6 pm pw sl tk6 nr lr=>?_⟩
    .have:=((mF w).mp (Zdt.mp (pm0.mem_iff.mp hw))).1.len;omega
    .refine q ws r H6 (Zbi pm pw (pm0.nodup_iff.mpr (ZbN F0))) (fun w=>?_) (fun b o e t=>sl _ _ (s25 _ _ e) t) tk6 ((Nw.of nr).same s25) lr;rw[pm.mem_iff,pm0.mem_iff,Zdt,mF]
theorem Zc4:FnScope ["_law_way","_law_cell_here","_law_kinds_here","_law_size","_law_found","_law_left","_law_k","_law_number","_law_at","_law_letter"] ["_law_way","_law_cell_here","_law_kinds_here","_law_size"] (Zah s_K5):=by walk_at "sc"
theorem ZqF (T:TL K mg base a tb):FnOk P w K mg base CX0 2 a.f_K5 a.d_K5 ["_law_way","_law_cell_here","_law_kinds_here","_law_size"] (Zpx K a):=by
 refine T.f_K5.ok Zc4 (fun vs H Q E h=>?_) (fun BG A outer s H vs Q E hr h=>?_)
 .obtain⟨_,_,_,_,rfl,_⟩:=h;rfl
 .have BJ:=hr.units;obtain⟨w_,c,m,n,rfl,hm,h4,hn,q⟩:=h;refine⟨_,(Zab (Zao (i:=4) Zc4.nd rfl (Or.inl rfl) (Za4 (l:=[]) (by decide +kernel)))
   (Zab (Zao (i:=5) Zc4.nd rfl (Or.inl rfl) (pv 1))
   (Zab (Za8 YAp rfl (Za9 rfl T.z_range (Zaa (pv 3) Zac)) (Zau (i:=6) Zc4.nd rfl (Or.inl rfl))
   (Zab (Zao (i:=7) Zc4.nd rfl (Or.inl rfl) (pv 5))
   (Zab (Zbh (PW.pt (Zil (Zaw (Za0 (K:=K) rfl BJ) (Zam ZaE (pv 0) Zad) Zad (ZaL _)) (Zfe (Zaw (ZcS (K:=K) rfl) (pv 5) (Zbd (Zaa Zad (Zaa (ZlC Zh2 Zad) Zac))) rfl)))) (Zae (Zao (i:=7) Zc4.nd rfl (Or.inl rfl) (Zal (Zql T) (hr.mono (by decide)) rfl T.m_LR T.f_LR.kp T.b_LR .nil Zas (Zaa (pv 1) (Zaa (Zam ZaO Zad (pv 6)) Zac))))) ZaD)
   (Zab (Zao (i:=4) Zc4.nd rfl (Or.inl rfl) (Zam ZaN (pv 4) (ZaH ZhM (pv 2) (Zam ZaE (pv 7) (Zap (Zat (K:=K) rfl) rfl T.z_len ZaV (Zaa (pv 2) Zac))) (fun _ _=>rfl))))
   (Zae (Zao (i:=5) Zc4.nd rfl (Or.inl rfl) (Zam Za5 (pv 5) (Zap (Zat (K:=K) rfl) rfl T.z_len ZaV (Zaa (pv 2) Zac)))))))))
   (Zab (Zbh (PW.pt (Zim (Zaw (Za0 (K:=K) rfl BJ) (Zam ZaE (Zam Za5 (pv 0) Zad) Zad) Zad (ZaL _)) (Zga (Zaw ZjS (pv 3) Zad (ZaL _))))) (Zab (Zao (i:=8) Zc4.nd rfl (Or.inl rfl) (Zam ZaE (Zam Za5 (pv 0) Zad) (pv 3)))
   (Zab (Zao (i:=4) Zc4.nd rfl (Or.inl rfl) (ZaA ZbE (Zam Ziw (ZaA ZbE (pv 4) ZaS (ZaJ (Zam ZaO Zad (Zam ZaE (Zam Za5 (pv 0) Zad) Zad)))) (pv 3)) ZaS (ZaJ (pv 3))))
   (Zab (Zao (i:=9) Zc4.nd rfl (Or.inl rfl) (ZaH ZhM (pv 2) (Zam ZaE (Zam Za5 (pv 0) Zad) (Zap (Zat (K:=K) rfl) rfl T.z_len ZaV (Zaa (pv 2) Zac))) (fun _ _=>rfl)))
   (Zae (Zbh (Zaw (Za0 (K:=K) rfl BJ) (Zam ZaE (Zam Za5 (pv 0) Zad) Zad) Zad (ZaL _)) (Zae (Zao (i:=4) Zc4.nd rfl (Or.inl rfl) (Zam ZaN (Zam ZaN (ZaA ZbE (pv 4) ZaS (ZaJ (pv 8))) (pv 9)) (ZaA ZbE (pv 4) (ZaJ (Zam ZaO (pv 8) Zad)) ZaS)))) ZaD))))) ZaD)
   (Zae (Zaq (pv 4))))))),?_⟩
  walk_at "rd";have hM:m.length<=1000:=by omega
  have sz:m.length<=sizeLine:=YAK hM (by rw[sizeLine_eq];decide);have pm:(0:Int)<m.length:=by omega
  have at_:∀x:Int,∃v,atI m (x % m.length)=some v/\v∈m:=fun x=>ZfV (YBJ _ (by omega)) (YAz _ pm);refine⟨_,rfl,by omega,by omega,ForRun.range (fun i U H'=>Same H H'/\∃(f:Q11) (le:Int) (v6 v7:Option V),U=[some (.int w_),some (.int c),some (tx m),some (.int (n:Nat)),some (tx f),some (.int le),v6,v7,none,none]/\f.length=i/\∀x∈f,x∈m) ⟨Same.refl _,[],c,none,none,rfl,rfl,fun x hx=>by cases hx⟩ ?_ ?_⟩
  .rintro i U H1 hi ⟨s1,f,le,v6,v7,rfl,hf,hfm⟩;have sf:f.length+1<=sizeLine:=by rw[sizeLine_eq];omega
   have cd:CDiv le m.length:=⟨pm,by omega⟩;have mem:∀ {v:Nat},v∈m->∀x∈f++[v],x∈m:=fun hv x hx=>(YAW.mp hx).elim (hfm x) fun h=>by rw[YAL.mp h];exact hv
   walk_at "rd";refine⟨by decide,.inl ⟨rfl,_,rfl,ite2 (fun h=>iteT' ?_) (fun h=>⟨by rw[sizeLine_eq];decide,NewT.of fun p2 H2 s2 n2 l2=>⟨p2,_,rfl,.inr (.mk l2),rfl,rfl,_,rfl,ite2 (fun h=>?_) (fun h=>?_)⟩⟩)⟩⟩
   .refine⟨_,_,rfl,fun r hr=>?_⟩;walk_at "rd";obtain⟨c1,hc1,hm1⟩:=at_ r;exact⟨_,_,rfl,Zbg hM,pm,m,_,c1,rfl,rfl,sz,hc1,sf,_,_,rfl,Zbg hM,cd,s1,_,_,_,_,rfl,by simp[hf],mem hm1⟩
   .refine⟨_,_,rfl,fun r hr=>?_⟩;walk_at "rd";obtain⟨c1,hc1,hm1⟩:=at_ r;exact⟨_,_,rfl,Zbg hM,pm,m,_,c1,rfl,rfl,sz,hc1,sf,_,_,rfl,Zbg hM,cd,s1.trans s2,_,_,_,_,rfl,by simp[hf],mem hm1⟩
   .obtain⟨c1,hc1,hm1⟩:=at_ le;exact⟨_,_,rfl,Zbg hM,pm,m,_,c1,rfl,rfl,sz,hc1,sf,_,_,rfl,Zbg hM,cd,s1.trans s2,_,_,_,_,rfl,by simp[hf],mem hm1⟩
  .rintro U H1 ⟨s1,f,le,v6,v7,rfl,hf,hfm⟩;rw[YCS]at hf;walk_at "rd";refine⟨⟨by decide,by decide⟩,by decide,.inl ⟨rfl,_,rfl,ite2 (fun h=>ite2 (fun h2=>?_) (fun h2=>q f H1 hf hfm s1)) (fun h=>iteF (q f H1 hf hfm s1))⟩⟩;have hn0:0<n:=by have:=of_decide_eq_true h2;omega
   obtain⟨c1,hc1,hm1⟩:=at_ (w_/2000);have cl:=Zed f none (some (1+w_/6 % 4));obtain⟨g1,g2⟩:=fill (e:=1+w_/6 % 4) hn0 hf hfm (by omega);have gl:(repT (cut f none (some (1+w_/6 % 4))) (n:Nat)).length<=60*60:=by rw[ZgH,YCS];exact YDM hn (by omega)
   have m0:=YBJ (w_/24) (show ((n:Nat):Int)≠0 by omega);have m1:=YAz (w_/24) (show (0:Int)<(n:Nat) by omega);refine⟨⟨by decide,by decide⟩,by omega,⟨by decide,by decide⟩,by decide,_,rfl,f,rfl,by rw[sizeLine_eq];omega,_,_,rfl,rfl,by omega,by omega,by omega,_,rfl,_,rfl,by rw[sizeLine_eq];omega,⟨by decide,by decide⟩,_,_,rfl,Zbg hM,pm,m,_,c1,rfl,rfl,sz,hc1,⟨by decide,by decide⟩,by decide,.inl ⟨rfl,_,rfl,ite2 (fun h3=>?_) (fun h3=>q _ H1 g1 g2 s1)⟩⟩;generalize cut (repT (cut f none (some (1+w_/6 % 4))) (n:Nat)) none (some ((n:Nat):Int))=g at g1 g2;obtain⟨k1,k2⟩:=put1 (c:=c1) (i:=w_/24 % (n:Nat)) g1 g2 hm1 m0 m1;have e1:=k1;rw[YAF,YAF,YAs]at e1;refine⟨_,rfl,g,rfl,by rw[sizeLine_eq];omega,by rw[sizeLine_eq];omega,_,rfl,g,rfl,by rw[sizeLine_eq];omega,by rw[sizeLine_eq,YAF,YAs];omega,q _ H1 k1 k2 s1⟩
theorem Zlr:FnScope ["self","text","came","went","gone","kept"] ["self","text","came","went"] (Zah s_KF):=by walk_at "sc"
theorem ZnK (T:TL K mg base a tb):FnOk P w K mg base CX0 2 a.g_KF a.e_KF ["self","text","came","went"] (Zpq K a):=by
 refine T.fm_KF.ok Zlr (fun vs H Q E h=>?_) (fun BG A outer s H vs Q E hr h=>?_)
 .obtain⟨_,_,_,_,_,_,_,_,_,_,_,_,_,_,rfl,_⟩:=h;rfl
 .obtain⟨p,la,da,c,g,l,l2,m,old,new,ys,zs,rc,rg,rfl,hp,hla,hc,rwc,hg,rwg,ho,hn,nd,mc,mg_,lo,lc,lg,wo,wn,tk,q⟩:=h;refine⟨_,(Zaf (Zab (Zao (i:=4) Zlr.nd rfl (Or.inr rfl) (Zbp (N:=["told"]) (ix:=[none]) rfl (ZaQ rfl) rfl (ZaP (K:=K) rfl (pv 3)) (fun _ _ _ _=>(Zau (i:=0) (show (["told"]:AJ).Nodup from by decide +kernel) rfl (Or.inl rfl) (Or.inr rfl))) (fun _ _ _ _=>Zbu) (fun _ _ _ _=>(ZaH (ZaU (K:=K) rfl) (pv 0) Zad (fun _ _=>rfl)))))
   (Zaf (Zab (Zdn (i:=5) (N:=["word","gone"]) (ix:=[none,some 4]) rfl Zlr.nd rfl rfl rfl (ZaQ rfl) rfl (ZaP (K:=K) rfl (ZaT (K:=K) rfl (pv 0) rfl)) (fun _ _ _ _=>(Zau (i:=0) (show (["word","gone"]:AJ).Nodup from by decide +kernel) rfl (Or.inl rfl) (Or.inr rfl))) (fun _ _ _ _=>(ZbF (Zaw (Za7 (K:=K) rfl) (pv 0) (pv 1) rfl))) (fun _ _ _ _=>(pv 0)))
   (Zaf (Zab (ZdX (pv 0) (Zal (ZjU T) (hr.mono (by decide)) rfl T.m_K2 T.f_K2.kp T.b_K2 .nil Zas (Zaa (Zam ZgU (pv 5) (Zbp (N:=["told"]) (ix:=[none]) rfl (ZaQ rfl) rfl (ZaP (K:=K) rfl (pv 2)) (fun _ _ _ _=>(Zau (i:=0) (show (["told"]:AJ).Nodup from by decide +kernel) rfl (Or.inl rfl) (Or.inr rfl))) (fun _ _ _ _=>Zbu) (fun _ _ _ _=>(ZaH (ZaU (K:=K) rfl) (pv 0) Zad (fun _ _=>rfl))))) Zac)) rfl)
   (Zaf (Zab (ZdX (pv 0) (pv 1) rfl)
   (Zae (Zaq (Zbd (Zaa (pv 2) (Zaa (pv 3) Zac))))))))))))),?_⟩
  have sz:∀k:Nat,k<=30000->k<=sizeLine:=fun k h=>YAK h (by rw[sizeLine_eq];decide);obtain⟨dx,f⟩:=hp;walk_at "rd";refine Zaj ?_;walk_at "rd";have zl:=rwg.1;have yl:=rwc.1;refine⟨g,rfl,⟨_,.mk hg⟩,CompRun.listL (xs:=zs) (fun _=>true) (fun i=>tx ((rg.map (·.1)).getD i [])) (by omega) (.mk hg) (fun i H' Q' _ _ q=>q H' (Same.refl _)) ?_ ?_⟩
  .intro i H1 Q1 hi _ s1 q1;obtain⟨t,u,e1,e2⟩:=ZgG rwg hi;rw[e1];walk_at "rd";exact⟨t,_,_,_,rfl,rfl,.mk (s1 _ _ e2),atI0,q1 H1 (Same.refl _)⟩
  .intro pg H1 s1 n1 l1;rw[Zji zl]at l1;refine Zaj ?_;walk_at "rd";refine⟨p,_,dx,_,_,rfl,s1 _ _ f,T.cl_LI,T.n_Strip_own_lacking,ZgE,la,rfl,⟨_,.mk (s1 _ _ hla)⟩,CompRun.listL (xs:=old.map tx) (fun i=>!decide (old.getD i []∈rg.map (·.1))) (fun i=>tx (old.getD i [])) (by rw[YAB];omega) (.mk (s1 _ _ hla)) ?_ ?_ ?_⟩
   .intro i H2 Q2 hi s2 q2;rw[YAB]at hi;rw[Zbz hi];walk_at "rd";refine⟨pg,_,rfl,.inl (.mk (s2 _ _ l1)),rfl,Zbs _,_,rfl,?_⟩;rw[YAM rfl,Zd5];exact q2 H2 (Same.refl _)
   .intro i H2 Q2 hi _ s2 q2;rw[YAB]at hi;rw[Zbz hi];walk_at "rd";exact q2 H2 (Same.refl _)
   .intro pk H2 s2 n2 l2k;have eh:((List.range (old.map tx).length).filter fun i=>!decide (old.getD i []∈rg.map (·.1))).map (fun i=>tx (old.getD i []))=(old.filter fun v=>!decide (v∈rg.map (·.1))).map tx:=by rw[YAB,<-Zcb (fun v=>!decide (v∈rg.map (·.1))) [] old,YBS];rfl
    have e2:(old.filter fun v=>!decide (v∈rg.map (·.1)))=old.filter fun v=>decide (v∉rg.map (·.1)):=by congr 1;funext v;rw[decide_not]
    rw[eh,e2]at l2k;have fl:=YAt (fun v=>decide (v∉rg.map (·.1))) old;generalize hk:old.filter (fun v=>decide (v∉rg.map (·.1)))=kept at l2k fl;have s02:=s1.trans s2;refine Zaj ?_;walk_at "rd";refine⟨c,rfl,⟨_,.mk (s02 _ _ hc)⟩,CompRun.listL (xs:=ys) (fun _=>true) (fun i=>tx ((rc.map (·.1)).getD i [])) (by omega) (.mk (s02 _ _ hc)) (fun i H' Q' _ _ q=>q H' (Same.refl _)) ?_ ?_⟩
    .intro i H3 Q3 hi _ s3 q3;obtain⟨t,u,e1,e2⟩:=ZgG rwc hi;rw[e1];walk_at "rd";exact⟨t,_,_,_,rfl,rfl,.mk ((s02.trans s3) _ _ e2),atI0,q3 H3 (Same.refl _)⟩
    .intro pc H3 s3 n3 l3;rw[Zji yl]at l3;rw[Znc];refine⟨_,_,s3 _ _ l2k,l3,by rw[YAB,YAB,YAB];exact sz _ (by omega),NewL.of fun pw H4 s4 n4 l4=>?_⟩;have s04:Same H H4:=s02.trans (s3.trans s4);rw[<-YBb]at l4;refine⟨pw,_,rfl,l4,fun w hw=>?_,tk.same s04,fun ws r H5 pm pw5 sl tk5 nr lr=>?_⟩
     .rcases YAW.mp hw with h | h
      .rw[<-hk]at h;exact wo w (YAr.mp h).1
      .exact wn w ((mc w).mp h).1
     .rw[<-hk]at pm;have en:=ZlS ho hn mc nd mg_ pm pw5;rw[en]at lr;have f5:=sl _ _ (s04 _ _ f) rfl;refine⟨p,_,dx,_,rfl,f5,T.cl_LI,T.n_Strip_own_lacking,(by show 4<1000;decide),?_⟩;rw[show putF (Str.ofString "own_lacking") (.ref r) (sF l m la da)=sF l m r da from Zlu];refine Zaj ?_;walk_at "rd";refine⟨p,_,dx,_,rfl,Zag,T.cl_LI,T.n_Strip_own_text,(by show 4<1000;decide),sz _ (by decide),NewT.of fun t H7 s7 n7 l7=>?_⟩;rw[show putF (Str.ofString "own_text") (tx l2) (sF l m r da)=sF l2 m r da from Zlt]at s7;have nrp:p≠r:=Zak (s04 _ _ f) nr;refine q t r H7 ?_ ⟨dx,s7 _ _ Zag⟩ ((Nw.of nr).same s04) (s7 _ _ (by rw[Zai (YBM nrp),Zai (YBM nrp)];exact lr)) l7 ?_
      .exact s04.chg.trans (sl.chg.trans ((Chg.upd (by simp)).trans ((Chg.upd (by simp)).trans s7.chg)))
      .exact((tk5.upd f5 rfl rfl).upd Zag rfl rfl).same s7
theorem ZpK:FnScope ["_law_found","_law_due"] ["_law_found","_law_due"] (Zah s_LD):=by walk_at "sc"
theorem Zqr (T:TL K mg base a tb):FnOk P w K mg base CX0 2 a.f_LD a.d_LD ["_law_found","_law_due"] (Zo6 K a):=by
 refine T.f_LD.ok ZpK (fun vs H Q E h=>?_) (fun BG A outer s H vs Q E hr h=>?_)
 .obtain⟨_,_,_,_,rfl,_⟩:=h;rfl
 .have BJ:=hr.units;obtain⟨t,u,x,y,rfl,ht,hu_,q⟩:=h;refine⟨_,(Zab (Zbh (PW.pt (Zil (Zcu (Zch (Zap (Za6 (K:=K) rfl) rfl T.z_isinstance ZaZ (Zaa (pv 0) (Zaa (ZcQ (v:=.ty "tuple") rfl T.z_tuple Zkv rfl) Zac))))) (Zfe (Zaw (Zdr (K:=K) rfl BJ) (pv 0) (pv 1) (ZaL _))))) (Zae (Zaq Zc5)) ZaD)
   (Zae (Zaq (Zci (Zal (ZlH T) (hr.mono (by decide)) rfl T.m_LT T.f_LT.kp T.b_LT .nil Zas (Zaa (ZaH (ZaU (K:=K) rfl) (pv 0) Zad (fun _ _=>rfl)) Zac)) (ZcZ (Zal (ZlH T) (hr.mono (by decide)) rfl T.m_LT T.f_LT.kp T.b_LT .nil Zas (Zaa (ZaH (ZaU (K:=K) rfl) (pv 0) Zad (fun _ _=>rfl)) Zac))))))),?_⟩
  walk_at "rd";exact⟨_,_,_,_,true,rfl,rfl,.ty (.seqT (.mk ht)),Zfv,iteF (ZjY (.mk ht) (.mk hu_) rfl ⟨false,rfl,iteF ⟨t,_,0,_,rfl,rfl,.mk ht,rfl,x,rfl,true,rfl,iteT ⟨t,_,1,_,rfl,rfl,.mk ht,rfl,y,rfl,q⟩⟩⟩)⟩
theorem ZpE:FnScope ["one","other"] ["one","other"] (Zah s_LX):=by walk_at "sc"
theorem Zqi (T:TL K mg base a tb):FnOk P w K mg base CX0 3 a.f_LX a.d_LX ["one","other"] (ZoP K a):=by
 refine T.f_LX.ok ZpE (fun vs H Q E h=>?_) (fun BG A outer s H vs Q E hr h=>?_)
 .obtain⟨_,_,_,_,_,_,_,rfl,_⟩:=h;rfl
 .obtain⟨p,r,x,y,z,u,n,rfl,hp,hr_,hy,hu,bx,by_,bz,bu,n8,q⟩:=h;refine⟨_,(Zae (Zaq (Zal (ZlI T) (hr.mono (by decide)) rfl T.m_K0 T.f_K0.kp T.b_K0 .nil Zas (Zaa (Zam ZaO (Zam Zbr (ZaH (ZaU (K:=K) rfl) (pv 0) Zad (fun _ _=>rfl)) (ZaH (ZaU (K:=K) rfl) (pv 1) Zad (fun _ _=>rfl))) (Zam Zbr (ZaH (ZaU (K:=K) rfl) (pv 1) Zad (fun _ _=>rfl)) (ZaH (ZaU (K:=K) rfl) (pv 0) Zad (fun _ _=>rfl)))) (Zaa (Zam Zbr (ZaH (ZaU (K:=K) rfl) (pv 0) Zad (fun _ _=>rfl)) (ZaH (ZaU (K:=K) rfl) (pv 1) Zad (fun _ _=>rfl))) Zac))))),?_⟩;walk_at "rd";have b2:Bt (n+n) (x*u):=bx.mul bu;have b3:Bt (n+n) (z*y):=bz.mul by_;have b4:Bt (n+n) (y*u):=by_.mul bu;refine⟨p,_,_,_,rfl,rfl,.mk hp,rfl,r,_,_,_,rfl,rfl,.mk hr_,rfl,_,_,rfl,rfl,⟨n,by omega,bx,bu⟩,r,_,_,_,rfl,rfl,.mk hr_,rfl,p,_,_,_,rfl,rfl,.mk hp,rfl,_,_,rfl,rfl,⟨n,by omega,bz,by_⟩,_,_,rfl,rfl,p,_,_,_,rfl,rfl,.mk hp,rfl,r,_,_,_,rfl,rfl,.mk hr_,rfl,_,_,rfl,rfl,⟨n,by omega,by_,bu⟩,?_⟩;exact⟨_,_,n+n,rfl,Int.add_nonneg b2.1 b3.1,Int.mul_pos hy hu,b4,by omega,q⟩
theorem Zhy:FnScope ["self","found","shorter","length","standing"] ["self"] (Zah s_KE):=by walk_at "sc"
theorem ZnL (T:TL K mg base a tb):FnOk P w K mg base CX0 3 a.g_KE a.e_KE ["self"] (Zpr K a):=by
 refine T.fm_KE.ok Zhy (fun vs H Q E h=>?_) (fun BG A outer s H vs Q E hr h=>?_)
 .obtain⟨_,_,_,rfl,_⟩:=h;rfl
 .obtain⟨p,l,m,rfl,hp,ok,q⟩:=h;refine⟨_,(Zab (Zao (i:=1) Zhy.nd rfl (Or.inl rfl) (ZbL Zac))
   (Zab (Zao (i:=2) Zhy.nd rfl (Or.inl rfl) (ZbR (pv 0) T.cl_LH T.me_Plain_words (ZnJ T) (hr.mono (by decide)) T.b_KK .nil Zas (Zaa Zad Zac)))
   (Zab (Za8 YAp rfl (Zdo rfl T.z_range (Zaa Zad (Zaa (Zam ZaO (Zbk (pv 0) T.cl_LH T.me_Plain_reach (ZqA T) (hr.mono (by decide)) T.b_KJ .nil Zas) Zad) Zac))) (Zau (i:=3) Zhy.nd rfl (Or.inl rfl))
   (Zab (Zao (i:=4) Zhy.nd rfl (Or.inl rfl) (ZbR (pv 0) T.cl_LH T.me_Plain_words (ZnJ T) (hr.mono (by decide)) T.b_KK .nil Zas (Zaa (pv 3) Zac)))
   (Zab (ZaR (Zdp YBH PySem.F.slot_list_extend PySem.F.type_list_extend ZiE (pv 1) (Zaa (Zal (Zqo T) (hr.mono (by decide)) rfl T.m_LJ T.f_LJ.kp T.b_LJ .nil Zas (Zaa (pv 2) (Zaa (pv 4) (Zaa (ZaT (K:=K) rfl (pv 0) rfl) Zac)))) Zac)))
   (Zae (Zao (i:=2) Zhy.nd rfl (Or.inl rfl) (pv 4))))))
   (Zae (Zaq (pv 1)))))),?_⟩
  obtain⟨dx,hp⟩:=hp;have l40:=ok.l40;have m4:=ok.m4;walk_at "rd";refine⟨YAv _,NewL.of fun pf H1 s1 nf lf=>?_⟩;refine⟨p,dx,_,rfl,s1 _ _ hp,ZdF (by decide +kernel) (by decide +kernel),p,l,m,0,rfl,⟨dx,s1 _ _ hp⟩,ok,YAv _,fun q0 H2 s2 n2 e2=>?_⟩;refine⟨p,dx,_,rfl,(s1.trans s2) _ _ hp,ZdF (by decide +kernel) (by decide +kernel),p,l,m,rfl,⟨dx,(s1.trans s2) _ _ hp⟩,ok,?_⟩;walk_at "rd";have ej:((l.length:Nat)+1+1-1:Int).toNat=l.length+1:=by omega
  refine⟨_,_,rfl,⟨by omega,by omega,by omega,by omega⟩,?_⟩;rw[ej];refine ForRun.range (fun i U H'=>∃(v3 v4:Option V) (q0:AD),U=[some (.ref p),some (.ref pf),some (.ref q0),v3,v4]/\Same H H'/\H' pf=some (.lst ((ZcA l m i).map tx))/\H' q0=some (.lst ((wordsOf l i).map tx))/\pf≠q0) ⟨_,_,q0,rfl,s1.trans s2,s2 _ _ lf,e2,Zak lf n2⟩ ?_ ?_
  .rintro i U H3 hi ⟨v3,v4,q0,rfl,s3,h3,h4,ne0⟩;have e1:(1+(i:Int))=((i+1:Nat):Int):=by omega
   have ll:=ZcU (l:=l) (m:=m) (i:=i) m4 l40 (by omega);have la:=ZcU (l:=l) (m:=m) (i:=i+1) m4 l40 (by omega);rw[Zdz,YAF]at la;rw[e1];walk_at "rd";refine⟨p,dx,_,rfl,s3 _ _ hp,ZdF (by decide +kernel) (by decide +kernel),p,l,m,i+1,rfl,⟨dx,s3 _ _ hp⟩,ok,by omega,fun q1 H4 s4 n4 e4=>?_⟩;have h3':=s4 _ _ h3;have ne1:pf≠q1:=Zak h3 n4;refine⟨.inl ⟨rfl,_,.mk h3'⟩,p,_,dx,_,_,rfl,(s3.trans s4) _ _ hp,T.cl_LH,T.n_Plain_own_kinds,Zd9,?_⟩;refine⟨q0,q1,wordsOf l i,wordsOf l (i+1),m,rfl,s4 _ _ h4,e4,by have:=Zdb l i;omega,m4,fun w hw=>by have:=(ZaX (l:=l) (by omega)).mp hw;omega,fun r H5 s5 n5 e5=>?_⟩;refine⟨pf,r,_,_,rfl,rfl,s5 _ _ h3',e5,by rw[YAB,YAB,sizeLine_eq];omega,_,_,q1,rfl,same_upd3 (s3.trans (s4.trans s5)) nf,?_,?_,ne1⟩
   .rw[Zag,Zdz,YBb]
   .rw[Zai (YBM ne1)];exact s5 _ _ e4
  .rintro U H3 ⟨v3,v4,q0,rfl,s3,h3,h4,ne0⟩;walk_at "rd";exact q pf H3 s3 h3
theorem ZpM:FnScope ["thing","kinds"] ["thing","kinds"] (Zah s_KW):=by walk_at "sc"
theorem Zqv (T:TL K mg base a tb):FnOk P w K mg base CX0 3 a.f_KW a.d_KW ["thing","kinds"] (Zpd K a):=by
 refine T.f_KW.ok ZpM (fun vs H Q E h=>?_) (fun BG A outer s H vs Q E hr h=>?_)
 .obtain⟨_,_,rfl,_⟩:=h;rfl
 .have BJ:=hr.units;obtain⟨l,m,rfl,hl,q⟩:=h;refine⟨_,(Zae (Zaq (Zci (Zal (ZnO T) (hr.mono (by decide)) rfl T.m_K4 T.f_K4.kp T.b_K4 .nil Zas (Zaa (pv 0) (Zaa (pv 1) (Zaa Zad Zac)))) (ZcZ (Zbq (Za0 (K:=K) rfl BJ) (Zap (Zat (K:=K) rfl) rfl T.z_len ZaV (Zaa (pv 0) Zac)) Zad (ZaL _)))))),?_⟩;walk_at "rd";refine⟨l,m,1,rfl,hl,fun H1 s1=>⟨_,rfl,ite2 (fun h=>?_) (fun h=>?_)⟩⟩
  .refine⟨_,_,rfl,Zbg hl,.inl ⟨rfl,?_⟩⟩;have e:=q H1 s1;unfold isl at e;rw[h,YCO]at e;rw[YAI YAC];simpa using e
  .have e:=q H1 s1;unfold isl at e;rw[YBd.mpr h,YBi]at e;exact e
theorem ZpQ:FnScope ["thing"] ["thing"] (Zah s_KR):=by walk_at "sc"
theorem ZnH (T:TL K mg base a tb):FnOk P w K mg base CX0 3 a.f_KR a.d_KR ["thing"] (Zph K a):=by
 refine T.f_KR.ok ZpQ (fun vs H Q E h=>?_) (fun BG A outer s H vs Q E hr h=>?_)
 .obtain⟨_,rfl,_⟩:=h;rfl
 .obtain⟨l,rfl,hl,hk,q⟩:=h;refine⟨_,(Zae (Zbh (Zcu (Zch (Zal (ZqG T) (hr.mono (by decide)) rfl T.m_K3 T.f_K3.kp T.b_K3 .nil Zas (Zaa (pv 0) Zac)))) (Zae Zip) ZaD)),?_⟩;walk_at "rd";refine⟨l,rfl,hl,fun H2 s2=>⟨_,rfl,?_⟩⟩;rw[hk,YCP];exact iteF (q H2 s2)
theorem ZpL:FnScope ["thing","kinds","most"] ["thing","kinds","most"] (Zah s_KX):=by walk_at "sc"
theorem Zqu (T:TL K mg base a tb):FnOk P w K mg base CX0 3 a.f_KX a.d_KX ["thing","kinds","most"] (Zpc K a):=by
 refine T.f_KX.ok ZpL (fun vs H Q E h=>?_) (fun BG A outer s H vs Q E hr h=>?_)
 .obtain⟨_,_,_,rfl,_⟩:=h;rfl
 .obtain⟨l,m,most,rfl,hl,hk,q⟩:=h;refine⟨_,(Zae (Zbh (Zcu (Zch (Zal (ZnO T) (hr.mono (by decide)) rfl T.m_K4 T.f_K4.kp T.b_K4 .nil Zas (Zaa (pv 0) (Zaa (pv 1) (Zaa (pv 2) Zac)))))) (Zae Zip) ZaD)),?_⟩;walk_at "rd";refine⟨l,m,most,rfl,hl,fun H2 s2=>⟨_,rfl,?_⟩⟩;rw[hk,YCP];exact iteF (q H2 s2)
theorem ZmY:FnScope ["lesser","longer","reason","word"] ["lesser","longer","reason"] (Zah s_LA):=by walk_at "sc"
theorem ZnD (T:TL K mg base a tb):FnOk P w K mg base CX0 3 a.f_LA a.d_LA ["lesser","longer","reason"] (Zo9 K a):=by
 refine T.f_LA.ok ZmY (fun vs H Q E h=>?_) (fun BG A outer s H vs Q E hr h=>?_)
 .obtain⟨_,_,_,_,rfl,_⟩:=h;rfl
 .obtain⟨s_,L,rs,m,rfl,hL,ex,hm,hrise,tk,q⟩:=h;refine⟨_,(Zab (Zao (i:=3) ZmY.nd rfl (Or.inl rfl) (ZaH (Zax (K:=K) rfl) (Zal (ZnA T) (hr.mono (by decide)) rfl T.m_LK T.f_LK.kp T.b_LK .nil Zas (Zaa (pv 0) (Zaa (pv 1) Zac))) Zad (fun _ _=>rfl)))
   (Zae (Zaq (ZbL (Zaa (Zbd (Zaa (pv 3) (Zaa (Zbd (Zaa (pv 2) (Zaa (ZkK (K:=K) rfl PySem.F.plainAttrs_str PySem.F.slot_str_find PySem.F.type_str_find ZgX (pv 1) (Zaa (pv 3) Zac)) Zac))) Zac))) Zac))))),?_⟩
  have sz:∀k:Nat,k<=9000->k<=sizeLine:=fun k h=>YAK h (by rw[sizeLine_eq];decide);walk_at "rd";refine⟨s_,L,rfl,hL,ex,tk,fun F r H1 pw mF sl tk1 nr lr=>?_⟩;walk_at "rd?";obtain⟨w0,F',rfl⟩:∃w0 F',F=w0::F':=by
   have:L∈F:=(mF L).mpr ⟨Inf.refl L,fun z=>by have:=z.len;have:=ex.len;omega⟩;cases F with
   | nil=>cases this
   | cons x F'=>exact⟨x,F',rfl⟩
  have f0:=(mF w0).mp YAY;have hmn:∀w,Frs s_ L w->¬BefW w w0:=fun w hw hb=>by
   rcases YAT.mp ((mF w).mpr hw) with rfl | h
   .exact ZcM hb
   .exact ZfU hb ((YBW.mp pw).1 w h)
  have eF:=Zkm ex hm hrise f0 hmn;refine⟨r,_,_,_,rfl,rfl,.mk lr,atI0,rfl,L,w0,rfl,rfl,fun k hk=>⟨sz _ (by decide),NewT.of fun t1 H2 s2 n2 l2=>⟨sz _ (by decide),NewT.of fun t2 H3 s3 n3 l3=>⟨sz _ (by decide),NewL.of fun p4 H4 s4 n4 l4=>?_⟩⟩⟩⟩;have ek:k=((fpl L w0:Nat):Int):=by
   rcases hk with⟨_,no⟩|⟨i,rfl,at_,mn⟩
   .exact absurd f0.1 no
   .rw[ZkU at_ mn]
  have s14:=s2.trans (s3.trans s4);refine q [.ref t2] p4 H4 (sl.trans s14.l) (tk1.same s14) ((((Nw.of n4).same s3).same s2).l sl) l4 ?_;subst ek;unfold Zfc;rw[eF];refine⟨rfl,fun i y hy=>?_⟩
  match i,hy with
  | 0,hy=>
   cases hy;exact⟨_,rfl,t2,t1,rfl,s4 _ _ l3,(s3.trans s4) _ _ l2⟩
theorem Zhw:FnScope ["lesser","longer","kinds","reason","found","shorter","told","letter","word"] ["lesser","longer","kinds","reason"] (Zah s_LF):=by walk_at "sc"
theorem ZnB (T:TL K mg base a tb):FnOk P w K mg base CX0 3 a.f_LF a.d_LF ["lesser","longer","kinds","reason"] (Zo4 K a):=by
 refine T.f_LF.ok Zhw (fun vs H Q E h=>?_) (fun BG A outer s H vs Q E hr h=>?_)
 .obtain⟨_,_,_,_,rfl,_⟩:=h;rfl
 .have hu1:=ZaF hr;obtain⟨s_,L,rs,m,rfl,hL,ex,hm,hrise,m4,tk,q⟩:=h;refine⟨_,(Zab (Zao (i:=4) Zhw.nd rfl (Or.inr rfl) ZjR)
   (Zaf (Zab (Za8 YAp rfl (ZaP (K:=K) rfl (Zal (ZnA T) (hr.mono (by decide)) rfl T.m_LK T.f_LK.kp T.b_LK .nil Zas (Zaa (pv 0) (Zaa (pv 1) Zac)))) (Zau (i:=5) Zhw.nd rfl (Or.inl rfl))
   (Zab (Zao (i:=6) Zhw.nd rfl (Or.inl rfl) (Zbd (Zaa (pv 3) (Zaa (pv 5) (Zaa (ZkK (K:=K) rfl PySem.F.plainAttrs_str PySem.F.slot_str_find PySem.F.type_str_find ZgX (pv 1) (Zaa (pv 5) Zac)) Zac)))))
   (Zae (Za8 YAp rfl (ZcP (pv 2)) (Zau (i:=7) Zhw.nd rfl (Or.inl rfl))
   (Zae (Za8 YAp rfl (ZaP (K:=K) rfl (ZbL (Zaa (Zam ZaN (pv 5) (pv 7)) (Zaa (Zam ZaN (pv 7) (pv 5)) Zac)))) (Zau (i:=8) Zhw.nd rfl (Or.inl rfl))
   (Zae (Zbh (Zch (Zal (Zqn T) (hr.mono (by decide)) rfl T.m_LL T.f_LL.kp T.b_LL .nil Zas (Zaa (pv 1) (Zaa (pv 8) Zac)))) (Zaf (Zae (Ziq hu1 (pv 4) (pv 8) (pv 6) rfl))) ZaD))))))))
   (Zae (Zaq (Zbp (N:=["word","found"]) (ix:=[none,some 4]) rfl (ZaQ rfl) rfl (ZaP (K:=K) rfl (Zal (ZjU T) (hr.mono (by decide)) rfl T.m_K2 T.f_K2.kp T.b_K2 .nil Zas (Zaa (Zbe (ZhW rfl) rfl T.z_list ZdK (Zaa (pv 4) Zac)) Zac))) (fun _ _ _ _=>(Zau (i:=0) (show (["word","found"]:AJ).Nodup from by decide +kernel) rfl (Or.inl rfl) (Or.inr rfl))) (fun _ _ _ _=>Zbu) (fun _ _ _ _=>(Zbd (Zaa (pv 0) (Zaa (ZlE hu1 (pv 1) (pv 0) (fun _ _=>rfl)) Zac)))))))))),?_⟩
  have sz:∀k:Nat,k<=9000->k<=sizeLine:=fun k h=>YAK h (by rw[sizeLine_eq];decide);walk_at "rd";intro pd hpd;refine Zaj ?_;walk_at "rd";have s0:Same H (upd H pd (.dK [])):=Zav hpd;have h0:upd H pd (.dK []) pd=some (.dK []):=Zag;generalize upd H pd (.dK [])=H0 at s0 h0;refine⟨s_,L,rfl,hL,ex,tk.same s0,fun F pF H1 pw mF sl tk1 nF lF=>?_⟩;have d1:=sl _ _ h0 rfl;have nFd:pd≠pF:=fun z=>by rw[z,lF]at d1;cases d1
  have FL:F.length<=82:=by have nd:F.Nodup:=Zbn pw;have hs:∀w∈F,w∈Za1 L L.length:=fun w hw=>Zfn.mpr ((Zi1 ex).mp ((mF w).mp hw)).1;have:=ZbM F _ nd hs;rw[ZcG]at this;omega
  refine⟨pF,rfl,⟨_,.mk lF⟩,ForRun.list (xs:=F.map tx) (fun i U H'=>∃v5 v6 v7 v8 kvs ws,U=[some (tx s_),some (tx L),some (tx m),some (tx rs),some (.ref pd),v5,v6,v7,v8]/\(∀b o,H1 b=some o->b≠pd->H' b=some o)/\H' pd=some (.dK kvs)/\DI H' s_ L rs (fun w=>∃sh∈F.take i,∃c∈m,w=sh++[c]\/w=c::sh) kvs ws/\kvs.length<=i*8) ⟨_,_,_,_,[],[],rfl,fun b o e _=>e,d1,⟨rfl,by simp,fun w=>by simp,by simp⟩,by simp⟩ (fun i U H' _ ⟨_,_,_,_,_,_,_,k',_⟩=>.mk (k' _ _ lF (YBM nFd))) ?_ ?_⟩
  .rintro i x U H2 hx ⟨v5,v6,v7,v8,kvs,ws,rfl,k2,d2,i2,n2⟩;obtain⟨sh,hsh,rfl⟩:∃sh,F[i]?=some sh/\x=tx sh:=by
    rw[YAc]at hx;cases e:F[i]? with
    | none=>rw[e]at hx;cases hx
    | some sh=>rw[e]at hx;exact⟨sh,rfl,(Option.some.inj hx).symm⟩
   have fsh:=(mF sh).mp (YAo hsh);have shl:=fsh.1.len;have hi:i<F.length:=(YAa.mp hsh).1;walk_at "rd";refine⟨rfl,L,sh,rfl,rfl,fun r hr=>⟨sz _ (by decide),NewT.of fun t1 H3 s3 n3 l3=>?_⟩⟩;have er:r=((fpl L sh:Nat):Int):=by
    rcases hr with⟨_,no⟩|⟨i,rfl,at_,mn⟩
    .exact absurd fsh.1 no
    .rw[ZkU at_ mn]
   subst er;have d3:=s3 _ _ d2;refine⟨m,rfl,ForRun.text (fun j U H'=>∃v7 v8 kvs ws,U=[some (tx s_),some (tx L),some (tx m),some (tx rs),some (.ref pd),some (tx sh),some (.ref t1),v7,v8]/\(∀b o,H1 b=some o->b≠pd->H' b=some o)/\H' t1=some (.tup [tx rs,tx sh,.int ((fpl L sh:Nat):Int)])/\H' pd=some (.dK kvs)/\DI H' s_ L rs (fun w=>(∃sh∈F.take i,∃c∈m,w=sh++[c]\/w=c::sh)\/∃c∈m.take j,w=sh++[c]\/w=c::sh) kvs ws/\kvs.length<=i*8+2*j) ⟨_,_,_,_,rfl,fun b o e nb=>s3 _ _ (k2 b o e nb),l3,d3,i2.grow (fun b us e=>s3 _ _ e) (fun w _=>by simp),by omega⟩ ?_ ?_⟩
   .rintro j c U H4 hc ⟨v7,v8,kvs,ws,rfl,k4,t4,d4,i4,n4⟩;have hcm:c∈m:=YAo hc;have hj:j<m.length:=(YAa.mp hc).1;walk_at "rd";refine⟨sz _ (by omega),sz _ (by omega),sz _ (by decide),NewL.of fun pl H5 s5 n5 l5=>?_⟩;have nl:pd≠pl:=Zak d4 n5;refine⟨pl,rfl,⟨_,.mk l5⟩,ForRun.list (xs:=[tx (sh++[c]),tx (c::sh)]) (fun k U H'=>∃v8 kvs ws,U=[some (tx s_),some (tx L),some (tx m),some (tx rs),some (.ref pd),some (tx sh),some (.ref t1),some (tx [c]),v8]/\(∀b o,H1 b=some o->b≠pd->H' b=some o)/\H' t1=some (.tup [tx rs,tx sh,.int ((fpl L sh:Nat):Int)])/\H' pl=some (.lst [tx (sh++[c]),tx (c::sh)])/\H' pd=some (.dK kvs)/\DI H' s_ L rs (fun w=>((∃sh∈F.take i,∃c∈m,w=sh++[c]\/w=c::sh)\/∃c∈m.take j,w=sh++[c]\/w=c::sh)\/w∈[sh++[c],c::sh].take k) kvs ws/\kvs.length<=i*8+2*j+k) ⟨_,_,_,rfl,fun b o e nb=>s5 _ _ (k4 b o e nb),s5 _ _ t4,l5,s5 _ _ d4,i4.grow (fun b us e=>s5 _ _ e) (fun w _=>by simp),by omega⟩ (fun k U H' _ ⟨_,_,_,_,_,_,l',_⟩=>.mk l') ?_ ?_⟩
    .rintro k y U H6 hy ⟨v8,kvs,ws,rfl,k6,t6,l6,d6,i6,n6⟩;obtain⟨z,hz,rfl,ez⟩:∃z,[sh++[c],c::sh][k]?=some z/\y=tx z/\(z=sh++[c]\/z=c::sh):=by
      match k,hy with
      | 0,hy=>cases hy;exact⟨_,rfl,rfl,.inl rfl⟩
      | 1,hy=>cases hy;exact⟨_,rfl,rfl,.inr rfl⟩
     have zl:z.length=sh.length+1:=by rcases ez with rfl | rfl<;>simp
     have zne:z≠[]:=fun e=>by rw[e]at zl;simp at zl
     have hk:k<2:=(YAa.mp hz).1;walk_at "rd";refine⟨L,z,rfl,by omega,by omega,_,rfl,?_⟩;have tkS:∀w,w∈[sh++[c],c::sh].take (k+1)↔(w∈[sh++[c],c::sh].take k\/w=z):=fun w=>by rw[ZbY hz,YAW,YAL]
     cases hb:ZiO L z with
     | false=>
      have nm:¬Miss L z:=fun h=>by rw[(Zfu zne).mpr h]at hb;cases hb
      refine iteF ⟨_,kvs,ws,rfl,k6,t6,l6,d6,i6.grow (fun _ _ e=>e) (fun w mw=>?_),by omega⟩;rw[tkS];constructor
      .rintro (h | h)
       .exact .inl h
       .exact .inr (.inl h)
      .rintro (h | h | h)
       .exact .inl h
       .exact .inr h
       .exact absurd (h▸mw) nm
     | true=>
      have mz:=(Zfu zne).mp hb;refine iteT ?_;refine Zaj ?_;walk_at "rd";have es:shOf s_ z=sh:=Znp ex fsh ez mz;obtain⟨ws',i7⟩:=i6.put (x:=z) (b:=t1) mz (by rw[es];exact t6);have np:pd≠pl:=fun e=>by rw[e,l6]at d6;cases d6
      have nt:t1≠pd:=fun e=>by rw[e,d6]at t6;cases t6
      have lp:=Zby kvs (kTx z) (.ref t1);refine⟨pd,_,rfl,DPut.k (k:=kTx z) d6 (YAk (show _<9000 by omega) (sz 9000 (YAS _))),_,putK kvs (kTx z) (.ref t1),ws',rfl,fun b o e nb=>by rw[Zai nb];exact k6 b o e nb,by rw[Zai nt];exact t6,by rw[Zai (YBM np)];exact l6,Zag,i7.grow (fun b us e=>?_) (fun w _=>?_),by omega⟩
      .rw[Zai (fun e2=>by rw[e2,d6]at e;cases e)];exact e
      .rw[tkS];constructor
       .rintro ((h | h) | h)
        .exact .inl h
        .exact .inr (.inl h)
        .exact .inr (.inr h)
       .rintro (h | h | h)
        .exact .inl (.inl h)
        .exact .inl (.inr h)
        .exact .inr h
    .rintro U H6 ⟨v8,kvs,ws,rfl,k6,t6,l6,d6,i6,n6⟩;refine⟨_,_,kvs,ws,rfl,k6,t6,d6,i6.grow (fun _ _ e=>e) (fun w _=>?_),by simp at n6;omega⟩;rw[ZbY hc];simp only[YAW,YAL];constructor
     .rintro ((h | ⟨d,hd,h⟩) | h)
      .exact .inl h
      .exact .inr ⟨d,.inl hd,h⟩
      .exact .inr ⟨c,.inr rfl,by simpa using h⟩
     .rintro (h | ⟨d,hd | rfl,h⟩)
      .exact .inl (.inl h)
      .exact .inl (.inr ⟨d,hd,h⟩)
      .exact .inr (by simpa using h)
   .rintro U H4 ⟨v7,v8,kvs,ws,rfl,k4,t4,d4,i4,n4⟩;refine⟨_,_,_,_,kvs,ws,rfl,k4,d4,i4.grow (fun _ _ e=>e) (fun w _=>?_),by omega⟩;rw[YBj,ZbY hsh];simp only[YAW,YAL];constructor
    .rintro (⟨s',hs,h⟩ | h)
     .exact⟨s',.inl hs,h⟩
     .exact⟨sh,.inr rfl,h⟩
    .rintro⟨s',hs | rfl,h⟩
     .exact .inl ⟨s',hs,h⟩
     .exact .inr h
  .rintro U H2 ⟨v5,v6,v7,v8,kvs,ws,rfl,k2,d2,i2,n2⟩;walk_at "rd";rw[YAB,YBj]at i2;have e3:kvs.map (fun p=>kV p.1)=ws.map tx:=by
    have:kvs.map (fun p=>kV p.1)=(kvs.map (·.1)).map kV:=by rw[YBS];rfl
    rw[this,i2.keys,YBS];rfl
   refine⟨pd,kvs,rfl,.inl d2,NewL.of fun p3 H3 s3 n3 l3=>?_⟩;rw[e3]at l3;have mws:∀w,w∈ws↔w∈opnL s_ L m:=fun w=>by
    rw[i2.mem,Zex,<-ZlF ex hm];constructor
    .rintro⟨ms,sh,h1,c,h2,h3⟩;exact⟨sh,c,(mF sh).mp h1,h2,h3,ms⟩
    .rintro⟨sh,c,h1,h2,h3,ms⟩;exact⟨ms,sh,(mF sh).mpr h1,c,h2,h3⟩
   have tk2:=Zlb tk1 k2 d1 rfl rfl;refine⟨p3,ws,rfl,l3,fun w hw=>?_,tk2.same s3,fun ws' r H4 pm pw4 sl4 tk4 nr lr=>?_⟩
   .have:=((i2.mem w).mp hw).1.init.len;rw[YBC]at this;omega
   .have ew:ws'=opnL s_ L m:=Zba (Zbi pm pw4 i2.nd) ((ZaI hrise).filter _) fun w=>by rw[pm.mem_iff,mws]
    subst ew;have d4:=sl4 _ _ (s3 _ _ d2) rfl;have ol:(opnL s_ L m).length<=9000:=by have:=pm.length_eq;have e5:=congrArg List.length e3;rw[YAB,YAB]at e5;rw[YAB]at n2;omega
    refine⟨r,rfl,⟨_,.mk lr⟩,CompRun.tups (xs:=(opnL s_ L m).map tx) (fun i vs=>∃w b,(opnL s_ L m)[i]?=some w/\vs=[tx w,.ref b]/\valV kvs (kTx w)=some (.ref b)) (by rw[YAB];omega) (.mk lr) ?_ ?_⟩
    .intro i H5 Q5 hi s5 q5;rw[YAB]at hi;rw[Zbz hi];have hw:(opnL s_ L m)[i]?=some ((opnL s_ L m).getD i []):=by rw[YAR,YAH hi];rfl
     obtain⟨b,hv,_⟩:=i2.val _ ((mws _).mpr (YAo hw));walk_at "rd";have dg:=DGet.k (k:=kTx ((opnL s_ L m).getD i [])) (s5 _ _ d4);rw[hv]at dg;refine⟨pd,_,rfl,dg,sz _ (by decide),NewT.of fun t6 H6 s6 n6 l6=>q5 t6 _ H6 s6 l6 ⟨_,b,hw,rfl,hv⟩⟩
    .intro p5 ys H5 s5 n5 l5 yl hys;have n4':Nw H p5:=((((Nw.of n5).l sl4).same s3).chg (S:=[pd]) (H:=H1) (fun b o e nb _=>k2 b o e (by simpa using nb)) (fun b hb=>by obtain rfl:=YAL.mp hb;exact⟨_,d2,rfl⟩)).l (s0.l.trans sl);refine q ys p5 H5 (fun b o e t=>?_) (tk4.same s5) n4' l5 ⟨?_,fun i y hy=>?_⟩
     .have nb:b≠pd:=Zak e hpd;exact s5 _ _ (sl4 _ _ (s3 _ _ (k2 _ _ (sl _ _ (s0 _ _ e) t) nb)) t)
     .unfold Zep;rw[YAB,yl,YAB]
     .obtain⟨t,vs,rfl,ht,w,b,hw,rfl,hv⟩:=hys i y hy;obtain⟨b',hv',hb'⟩:=i2.val w ((mws w).mpr (YAo hw));obtain rfl:b=b':=by rw[hv]at hv';injection hv' with e;injection e
      refine⟨_,by unfold Zep;rw[YAc,hw];rfl,t,b,rfl,ht,s5 _ _ (sl4 _ _ (s3 _ _ hb') rfl)⟩
theorem ZjE:FnScope ["_law_script","_law_at","_law_kinds_here","_law_cell_here","_law_size"] ["_law_script","_law_at","_law_kinds_here"] (Zah s_LQ):=by walk_at "sc"
theorem Znx (T:TL K mg base a tb):FnOk P w K mg base CX0 3 a.f_LQ a.d_LQ ["_law_script","_law_at","_law_kinds_here"] (ZoV K a):=by
 refine T.f_LQ.ok ZjE (fun vs H Q E h=>?_) (fun BG A outer s H vs Q E hr h=>?_)
 .obtain⟨_,_,_,_,rfl,_⟩:=h;rfl
 .have BJ:=hr.units;obtain⟨b,ns,k,m,rfl,hS,hk,hk1,hm,h4,q⟩:=h;refine⟨_,(Zab (Zao (i:=3) ZjE.nd rfl (Or.inl rfl) (Zal (Zeu T) (hr.mono (by decide)) rfl T.m_LN T.f_LN.kp T.b_LN .nil Zas (Zaa (pv 0) (Zaa (pv 1) Zac))))
   (Zaf (Zab (Zao (i:=4) ZjE.nd rfl (Or.inl rfl) (Zam ZaE (pv 3) Zad))
   (Zab (Zbh (Zaw (Za0 (K:=K) rfl BJ) (Zam ZaE (Zam Za5 (pv 3) Zad) Zad) Zad (ZaL _)) (Zaf (Zae (Zao (i:=4) ZjE.nd rfl (Or.inl rfl) (Zam ZaE (Zam Za5 (pv 3) Zad) Zad)))) ZaD)
   (Zaf (Zae (Zaq (Zal (ZqF T) (hr.mono (by decide)) rfl T.m_K5 T.f_K5.kp T.b_K5 .nil Zas (Zaa (Zal (Zeu T) (hr.mono (by decide)) rfl T.m_LN T.f_LN.kp T.b_LN .nil Zas (Zaa (pv 0) (Zaa (Zam ZaO (pv 1) Zad) Zac))) (Zaa (Zal (Zeu T) (hr.mono (by decide)) rfl T.m_LN T.f_LN.kp T.b_LN .nil Zas (Zaa (pv 0) (Zaa (Zam ZaO (pv 1) Zad) Zac))) (Zaa (pv 2) (Zaa (pv 4) Zac)))))))))))),?_⟩
  walk_at "rd";refine⟨b,ns,k,rfl,hS,hk,by omega,fun r0=>?_⟩;show Zcf _ _ _ _;refine Zaj ?_;walk_at "rd";have md:∀(x y:Int),0<y->y<=41->∃n:Nat,x % y=(n:Int)/\n<=40:=fun x y h1 h2=>⟨(x % y).toNat,by have:=YBJ x (show y≠0 by omega);omega,by have:=YAz x h1;have:=YBJ x (show y≠0 by omega);omega⟩;obtain⟨n1,e1,l1⟩:=md r0 13 (by decide) (by decide);obtain⟨n2,e2,l2⟩:=md (r0/104) 41 (by decide) (by decide);refine⟨by decide,⟨by decide,by decide⟩,by decide,.inl ⟨rfl,_,rfl,ite2 (fun _=>Zaj ?_) (fun _=>Zaj ?_)⟩⟩
  .walk_at "rd";rw[e2];refine⟨⟨by decide,by decide⟩,by decide,Zaj ?_⟩;walk_at "rd";exact⟨b,ns,_,rfl,hS,by omega,by omega,fun r1=>⟨b,ns,_,rfl,hS,by omega,by omega,fun r2=>⟨_,_,m,n2,rfl,hm,h4,by omega,fun l H2 ll lm s2=>q l H2 (by omega) lm s2⟩⟩⟩
  .rw[e1];walk_at "rd";exact⟨b,ns,_,rfl,hS,by omega,by omega,fun r1=>⟨b,ns,_,rfl,hS,by omega,by omega,fun r2=>⟨_,_,m,n1,rfl,hm,h4,by omega,fun l H2 ll lm s2=>q l H2 (by omega) lm s2⟩⟩⟩
theorem ZjH:FnScope ["one","other","first","second","words"] ["one","other"] (Zah s_K8):=by walk_at "sc"
theorem Ziy (T:TL K mg base a tb):FnOk P w K mg base (CXr P w) 4 a.f_K8 a.d_K8 ["one","other"] (Zpu K a):=by
 refine T.f_K8.okX ZjH (fun vs H Q E h=>?_) (fun BG A outer s H vs Q E hr h=>?_)
 .obtain⟨_,_,_,_,_,_,rfl,_⟩:=h;rfl
 .obtain⟨p1,p2,l1,m1,l2,m2,rfl,h1,h2,tk,q⟩:=h;refine⟨_,(Zab (ZaR (Zal (Zqw T) (hr.mono (by decide)) rfl T.m_KS T.f_KS.kp T.b_KS .nil Ziu (Zaa (pv 0) (Zaa (pv 1) Zac))))
   (Zaf (Zab (Zao (i:=2) ZjH.nd rfl (Or.inr rfl) (ZgR (Zbk (pv 0) T.cl_LH T.me_Plain_lacking (ZnL T) (hr.mono (by decide)) T.b_KE .nil Zas) (Zbk (pv 0) T.cl_LI T.me_KD (ZnM T) (hr.mono (by decide)) T.b_KD .nil Zas)))
   (Zaf (Zab (Zao (i:=3) ZjH.nd rfl (Or.inl rfl) (ZgR (Zbk (pv 1) T.cl_LH T.me_Plain_lacking (ZnL T) (hr.mono (by decide)) T.b_KE .nil Zas) (Zbk (pv 1) T.cl_LI T.me_KD (ZnM T) (hr.mono (by decide)) T.b_KD .nil Zas)))
   (Zaf (Zab (Zao (i:=4) ZjH.nd rfl (Or.inl rfl) (Zal (ZjU T) (hr.mono (by decide)) rfl T.m_K2 T.f_K2.kp T.b_K2 .nil Zas (Zaa (Zap (ZbU rfl) rfl T.z_sorted Zb5 (Zaa (Zam (ZlG (P:=P) (w:=w) rfl rfl) (Zbe (ZbC rfl) rfl T.z_set ZfO (Zaa (pv 2) Zac)) (Zbe (ZbC rfl) rfl T.z_set ZfO (Zaa (pv 3) Zac))) Zac)) Zac)))
   (Zaf (Zae (Zaq (Zbp (N:=["word","first"]) (ix:=[none,some 2]) rfl (ZaQ rfl) rfl (ZaP (K:=K) rfl (pv 4)) (fun _ _ _ _=>(Zau (i:=0) (show (["word","first"]:AJ).Nodup from by decide +kernel) rfl (Or.inl rfl) (Or.inr rfl))) (fun _ _ _ _=>Zbu) (fun _ _ _ _=>(Zbd (Zaa (pv 0) (Zaa (ZjP (Zaw (ZcS (K:=K) rfl) (pv 0) (pv 1) rfl) Zad Zad) Zac))))))))))))))),?_⟩
  have sz:∀k:Nat,k<=9000->k<=sizeLine:=fun k h=>YAK h (by rw[sizeLine_eq];decide);walk_at "rd";rcases q with⟨rfl,ok1,ok2,q⟩|⟨ne,x⟩
  .have o1:=lsOk ok1;have o2:=lsOk ok2;have n1:=o1.len;have n2:=o2.len;refine⟨p1,p2,l1,m1,l2,m1,rfl,h1,h2,.inl ⟨rfl,?_⟩⟩;show Zcf _ _ _ _;refine Zaj ?_;walk_at "rd";apply Zcm (C:=fun r H'=>Same H H'/\H' r=some (.lst ((Zan l1 m1).map tx)))
   .intro tail;exact ZeT h1 (by decide +kernel) (by decide +kernel) (by decide +kernel) (fun r=>⟨p1,l1,m1,rfl,r,ok1,fun q H2 s e=>tail q H2 ⟨s,e⟩⟩) (fun la da ds h=>⟨p1,la,da,l1,m1,ds,rfl,h,fun r n=>tail r _ ⟨Zav n,Zag⟩⟩)
   rintro r1 H1 ⟨s1,e1⟩;refine Zaj ?_;walk_at "rd";have h2:=h2.l s1.l;apply Zcm (C:=fun r H'=>Same H1 H'/\H' r=some (.lst ((Zan l2 m1).map tx)))
   .intro tail;exact ZeT h2 (by decide +kernel) (by decide +kernel) (by decide +kernel) (fun r=>⟨p2,l2,m1,rfl,r,ok2,fun q H2 s e=>tail q H2 ⟨s,e⟩⟩) (fun la da ds h=>⟨p2,la,da,l2,m1,ds,rfl,h,fun r n=>tail r _ ⟨Zav n,Zag⟩⟩)
   rintro r2 H2 ⟨s2,e2⟩;have e1:=s2 _ _ e1;have s02:=s1.trans s2;refine Zaj ?_;walk_at "rd";refine⟨Zan l1 m1,by omega,.inr ⟨r1,rfl,.mk e1⟩,fun t1 f1=>⟨Zan l2 m1,by omega,.inr ⟨r2,rfl,.mk (Zav f1 _ _ e2)⟩,fun t2 f2=>?_⟩⟩;have l1':=Zk0 (Zan l1 m1);have l2':=Zk0 (Zan l2 m1);have ne12:t1≠t2:=fun z=>by rw[<-z,Zag]at f2;cases f2
   refine⟨t1,t2,_,_,rfl,rfl,by rw[Zai ne12,Zag],Zag,ZbN _,ZbN _,ne12,by omega,fun t3 f3=>⟨t3,_,rfl,Zag,sz _ ?_,NewL.of fun t4 H4 s4 f4 e4=>?_⟩⟩
   .unfold xorT;rw[YAF];have:=YAt (fun x=>decide (x∉ddl (Zan l2 m1))) (ddl (Zan l1 m1));have:=YAt (fun x=>decide (x∉ddl (Zan l1 m1))) (ddl (Zan l2 m1));omega
   have s24:Same H2 H4:=((Zav f1).trans ((Zav f2).trans (Zav f3))).trans s4;have s04:=s02.trans s24;have dx:=ZfJ (a:=Zan l1 m1) (b:=Zan l2 m1) (List.Perm.refl _);refine⟨t4,_,rfl,e4,fun w hw=>by have:=(Zc1 dx o1 o2 hw).2;omega,tk.same s04,fun ws' r H5 pm pw s5 tk5 n5 e5=>?_⟩;have df:=ZfJ pm;have bw:=Zbi pm pw dx.nd;have nw:=Zce df o1 o2;have e15:=s5 _ _ (s24 _ _ e1) rfl;show Zcf _ _ _ _;refine Zaj ?_;walk_at "rd";refine⟨r,rfl,⟨_,.mk e5⟩,CompRun.dataF (xs:=ws'.map tx) (fun _=>true) (fun H y i=>∃t,y=.ref t/\H t=some (.tup [tx (ws'.getD i []),.int (if ws'.getD i []∈Zan l1 m1 then 0 else 1)])) (fun _ _ _ _ k ⟨t,e,h⟩=>⟨t,e,k _ _ h⟩) (by rw[YAB];omega) (.mk e5) (fun i H' Q' h s' q'=>q' _ (Same.refl _)) (fun i H' Q' h _ s' q'=>?_) (fun p6 ys6 H6 s6 n6 h6 e6 al6=>?_)⟩
   .rw[Zbz (by simpa using h)];walk_at "rd";refine⟨r1,(Zan l1 m1).map tx,rfl,.inl (.mk (s' _ _ e15)),rfl,Zbs _,decide (ws'.getD i []∈Zan l1 m1),by rw[YAI YAC,Zd5],?_⟩;by_cases z:ws'.getD i []∈Zan l1 m1
    .rw[decide_eq_true z];exact iteT ⟨sz 2 (by decide),NewT.of fun t H7 s7 n7 l7=>q' _ _ s7 ⟨t,rfl,by rw[l7,YAM z]⟩⟩
    .rw[decide_eq_false z];exact iteF ⟨sz 2 (by decide),NewT.of fun t H7 s7 n7 l7=>q' _ _ s7 ⟨t,rfl,by rw[l7,YAI z]⟩⟩
   .rw[List.filter_eq_self.mpr (fun _ _=>rfl),YBF,YAB]at e6;refine q p6 ys6 ws' H6 ((s04.l.trans s5).trans s6.l) (tk5.same s6) (((Nw.of n6).l s5).same s04) h6 ⟨e6,fun i y hy=>?_⟩ df bw;obtain⟨j,hj,t,e7,h7⟩:=al6 i y hy;rw[List.filter_eq_self.mpr (fun _ _=>rfl)]at hj;have hi:=(YAa.mp hy).1;rw[e6]at hi;rw[List.getElem?_range (by rw[YAB];exact hi)]at hj;cases hj;exact⟨ws'.getD i [],t,by rw[YAR,YAH hi];rfl,e7,h7⟩
  .exact⟨p1,p2,l1,m1,l2,m2,rfl,h1,h2,.inr ⟨ne,x⟩⟩
theorem ZpX:FnScope ["thing","kinds"] ["thing","kinds"] (Zah s_KH):=by walk_at "sc"
theorem ZqB (T:TL K mg base a tb):FnOk P w K mg base CX0 4 a.f_KH a.d_KH ["thing","kinds"] (Zpo K a):=by
 refine T.f_KH.ok ZpX (fun vs H Q E h=>?_) (fun BG A outer s H vs Q E hr h=>?_)
 .obtain⟨_,_,rfl,_⟩:=h;rfl
 .obtain⟨l,m,rfl,hl,hk,q⟩:=h;refine⟨_,(Zae (Zbh (Zcu (Zch (Zal (Zqv T) (hr.mono (by decide)) rfl T.m_KW T.f_KW.kp T.b_KW .nil Zas (Zaa (pv 0) (Zaa (pv 1) Zac))))) (Zae Zip) ZaD)),?_⟩;walk_at "rd";refine⟨l,m,rfl,hl,fun H2 s2=>⟨_,rfl,?_⟩⟩;rw[hk,YCP];exact iteF (q H2 s2)
theorem ZpR:FnScope ["self","kinds"] ["self","kinds"] (Zah s_KQ):=by walk_at "sc"
theorem Zqx (T:TL K mg base a tb):FnOk P w K mg base CX0 4 a.g_KQ a.e_KQ ["self","kinds"] (Zpi K a):=by
 refine T.fm_KQ.ok ZpR (fun vs H Q E h=>?_) (fun BG A outer s H vs Q E hr h=>?_)
 .obtain⟨_,_,_,rfl,_⟩:=h;rfl
 .obtain⟨p,dx,m,rfl,hp,kok,q⟩:=h;refine⟨_,(Zab (ZaR (Zal (ZnH T) (hr.mono (by decide)) rfl T.m_KR T.f_KR.kp T.b_KR .nil Zas (Zaa (pv 1) Zac)))
   (Zaf (Zab (ZaR (ZgS rfl T.m_LU T.cr_LU (ZnG T) (hr.mono (by decide)) T.kp_KT T.b_KT .nil Zas (Zaa (pv 0) (Zaa (Za4 (l:=[]) (by decide +kernel)) (Zaa (pv 1) Zac)))))
   (Zaf (Zab (ZdX (pv 0) (Zbe (Zc2 rfl) rfl T.z_list ZdK (Zaa (pv 1) Zac)) rfl)
   (Zaf (Zae (ZdX (pv 0) (ZbL Zac) rfl)))))))),?_⟩
  walk_at "rd";have m4:=kok.m4;refine⟨m,rfl,by omega,kok.k,fun H1 s1=>?_⟩;show Zcf _ _ _ _;refine Zaj ?_;walk_at "rd";refine⟨p,dx,_,[],m,rfl,.inr rfl,s1 _ _ hp,fun H2 f2 k2=>?_⟩;show Zcf _ _ _ _;refine Zaj ?_;walk_at "rd";refine⟨m,rfl,by omega,NewL.of fun la H3 s3 n3 l3=>?_⟩;have f3:=s3 _ _ f2;refine⟨p,_,dx,_,rfl,f3,T.cl_LI,T.n_Strip_own_lacking,(by show 2<1000;decide),?_⟩;refine Zaj ?_;walk_at "rd";refine⟨YAv _,NewL.of fun da H4 s4 n4 l4=>?_⟩;have nla:p≠la:=Zak f2 n3;have kr:=kok.kinds;have f4:=s4 _ _ (Zag (H:=H3) (a:=p) (o:=.ins a.c_LI dx (putF (Str.ofString "own_lacking") (.ref la) (putF "own_kinds" (tx m) (putF "own_text" (tx []) [])))));have l4':upd H3 p (.ins a.c_LI dx (putF (Str.ofString "own_lacking") (.ref la) (putF "own_kinds" (tx m) (putF "own_text" (tx []) [])))) la=some (.lst ((signs m).map tx)):=by rw[Zai (YBM nla)];exact l3
  have nda:p≠da:=Zak Zag n4;have ned:la≠da:=Zak l4' n4;have n3':H3 da=none:=by rw[Zai (YBM nda)]at n4;exact n4
  have back:∀b,b≠p->H2 b=none->H b=none:=fun b hb e=>by
   cases z:H1 b with
   | none=>exact s1.free z
   | some o=>rw[k2 b o z hb]at e;cases e
  refine⟨p,_,dx,_,rfl,f4,T.cl_LI,T.n_Strip_own_deeds,(by show 3<1000;decide),q la da _ ⟨⟨dx,?_⟩,?_,⟨[],?_,rfl,fun i y h=>by simp at h⟩,.nil,kr,ned⟩ (back la (YBM nla) n3) (back da (YBM nda) (s3.free n3')) fun b o hb nb=>?_⟩
  .rw[Zag];exact congrArg (fun z=>some (HO.ins a.c_LI dx z)) ZkG
  .rw[Zai (YBM nla),Zj8 kr.rise];exact s4 _ _ l4'
  .rw[Zai (YBM nda)];exact l4
  .rw[Zai nb];exact s4 _ _ (by rw[Zai nb];exact s3 _ _ (k2 _ _ (s1 _ _ hb) nb))
theorem Zlp:FnScope ["self","longer","came","went"] ["self","longer"] (Zah s_KP):=by walk_at "sc"
theorem Zqy (T:TL K mg base a tb):FnOk P w K mg base CX0 4 a.g_KP a.e_KP ["self","longer"] (Zpj K a):=by
 refine T.fm_KP.ok Zlp (fun vs H Q E h=>?_) (fun BG A outer s H vs Q E hr h=>?_)
 .obtain⟨_,_,_,_,_,_,rfl,_⟩:=h;rfl
 .obtain⟨p,la,da,s_,L,m,rfl,hp,hla,hL,ex,hm,ok,tk,q⟩:=h;refine⟨_,(Zaf (Zab (Zao (i:=2) Zlp.nd rfl (Or.inl rfl) (Zal (ZnB T) (hr.mono (by decide)) rfl T.m_LF T.f_LF.kp T.b_LF .nil Zas (Zaa (ZaT (K:=K) rfl (pv 0) rfl) (Zaa (pv 1) (Zaa (ZaT (K:=K) rfl (pv 0) rfl) (Zaa (Za4 (l:=[102,105,114,115,116]) (by decide +kernel)) Zac))))))
   (Zaf (Zab (Zao (i:=3) Zlp.nd rfl (Or.inl rfl) (Zal (ZnD T) (hr.mono (by decide)) rfl T.m_LA T.f_LA.kp T.b_LA .nil Zas (Zaa (ZaT (K:=K) rfl (pv 0) rfl) (Zaa (pv 1) (Zaa (Za4 (l:=[115,116,97,110,100,115]) (by decide +kernel)) Zac)))))
   (Zaf (Zae (Zaq (ZbR (pv 0) T.cl_LI T.me_KF (ZnK T) (hr.mono (by decide)) T.b_KF .nil Zas (Zaa (pv 1) (Zaa (pv 2) (Zaa (pv 3) Zac))))))))))),?_⟩
  obtain⟨dx,f⟩:=hp;have m4:=ok.m4;walk_at "rd";refine Zaj ?_;walk_at "rd";refine⟨p,_,dx,_,_,rfl,f,T.cl_LI,T.n_Strip_own_text,Zbt,p,_,dx,_,_,rfl,f,T.cl_LI,T.n_Strip_own_kinds,Zcr,?_⟩;refine⟨s_,L,_,m,rfl,by omega,ex,hm,ok.rise,m4,tk,fun ys c H1 sl1 tk1 n1 l1 r1=>?_⟩;refine Zaj ?_;walk_at "rd";have f1:=sl1 _ _ f rfl;refine⟨p,_,dx,_,_,rfl,f1,T.cl_LI,T.n_Strip_own_text,Zbt,?_⟩;refine⟨s_,L,_,m,rfl,by omega,ex,hm,ok.rise,tk1,fun zs g H2 sl2 tk2 n2 l2 r2=>?_⟩;refine Zaj ?_;walk_at "rd";have f2:=sl2 _ _ f1 rfl;have l12:=sl2 _ _ l1 rfl;have la2:=sl2 _ _ (sl1 _ _ hla rfl) rfl;have sl02:=sl1.trans sl2;have ncg:c≠g:=n2.ne l1 rfl;refine⟨p,dx,_,rfl,f2,sN (by decide +kernel),p,la,da,c,g,s_,L,m,Zan s_ m,Zan L m,ys,zs,_,_,rfl,⟨dx,f2⟩,la2,l12,r1.l sl2,l2,r2,ZaI ok.rise,ZaI ok.rise,?_,?_,?_,?_,?_,?_,?_,?_,tk2,?_⟩
  .rw[Zb0];exact Zbn ((ZaI ok.rise).filter _)
  .intro w;rw[Zb0,Zex]
  .intro w;rw[Zb1,Zey]
  .exact YAK (ZbO m4 (by have:=ex.len;omega)) (by decide)
  .rw[<-YAB (f:=(·.1)),Zb0];exact YAK (YAt _ _) (YAK (ZbO m4 (by omega)) (by decide))
  .rw[<-YAB (f:=(·.1)),Zb1];exact YAK (YAt _ _) (YAK (ZbO m4 (by have:=ex.len;omega)) (by decide))
  .intro w hw;have:=Zcy (by have:=ex.len;omega) hw;omega
  .intro w hw;have:=Zcy hL hw;omega
  .intro t la3 H3 ch3 f3 nl3 e3 t3 tk3;have np:∀us,H2 p≠some (.tup us):=fun us z=>by rw[f2]at z;cases z
   have ncp:p≠c:=n1.ne f rfl;have ngp:p≠g:=n2.ne f1 rfl;refine q t c g la3 H3 (sl02.chg.trans ch3) f3 e3 ⟨t3,⟨ys,ch3 _ _ l12 (by simpa using YBM ncp) rfl,(r1.l sl2).chg ch3 (fun b hb us=>by rw[YAL.mp hb];exact np us)⟩,⟨zs,ch3 _ _ l2 (by simpa using YBM ngp) rfl,r2.chg ch3 (fun b hb us=>by rw[YAL.mp hb];exact np us)⟩,n1,n2.l sl1,nl3.l sl02,ncg,nl3.ne l12 rfl,nl3.ne l2 rfl⟩ tk3
theorem Zlq:FnScope ["self","lesser","came","went"] ["self","lesser"] (Zah s_KG):=by walk_at "sc"
theorem ZqC (T:TL K mg base a tb):FnOk P w K mg base CX0 4 a.g_KG a.e_KG ["self","lesser"] (Zpp K a):=by
 refine T.fm_KG.ok Zlq (fun vs H Q E h=>?_) (fun BG A outer s H vs Q E hr h=>?_)
 .obtain⟨_,_,_,_,_,_,rfl,_⟩:=h;rfl
 .obtain⟨p,la,da,s_,L,m,rfl,hp,hla,hL,ex,hm,ok,tk,q⟩:=h;refine⟨_,(Zab (Zao (i:=2) Zlq.nd rfl (Or.inl rfl) (Zal (ZnD T) (hr.mono (by decide)) rfl T.m_LA T.f_LA.kp T.b_LA .nil Zas (Zaa (pv 1) (Zaa (ZaT (K:=K) rfl (pv 0) rfl) (Zaa (Za4 (l:=[115,116,111,111,100]) (by decide +kernel)) Zac)))))
   (Zab (Zao (i:=3) Zlq.nd rfl (Or.inl rfl) (Zal (ZnB T) (hr.mono (by decide)) rfl T.m_LF T.f_LF.kp T.b_LF .nil Zas (Zaa (pv 1) (Zaa (ZaT (K:=K) rfl (pv 0) rfl) (Zaa (ZaT (K:=K) rfl (pv 0) rfl) (Zaa (Za4 (l:=[108,97,115,116]) (by decide +kernel)) Zac))))))
   (Zae (Zaq (ZbR (pv 0) T.cl_LI T.me_KF (ZnK T) (hr.mono (by decide)) T.b_KF .nil Zas (Zaa (pv 1) (Zaa (pv 2) (Zaa (pv 3) Zac)))))))),?_⟩
  obtain⟨dx,f⟩:=hp;have m4:=ok.m4;walk_at "rd";refine⟨p,_,dx,_,_,rfl,f,T.cl_LI,T.n_Strip_own_text,Zbt,?_⟩;refine⟨s_,L,_,m,rfl,by omega,ex,hm,ok.rise,tk,fun ys c H1 sl1 tk1 n1 l1 r1=>?_⟩;walk_at "rd?";have f1:=sl1 _ _ f rfl;refine⟨p,_,dx,_,_,rfl,f1,T.cl_LI,T.n_Strip_own_text,Zbt,p,_,dx,_,_,rfl,f1,T.cl_LI,T.n_Strip_own_kinds,Zcr,?_⟩;refine⟨s_,L,_,m,rfl,by omega,ex,hm,ok.rise,m4,tk1,fun zs g H2 sl2 tk2 n2 l2 r2=>?_⟩;walk_at "rd?";have f2:=sl2 _ _ f1 rfl;have l12:=sl2 _ _ l1 rfl;have la2:=sl2 _ _ (sl1 _ _ hla rfl) rfl;have sl02:=sl1.trans sl2;have ncg:c≠g:=n2.ne l1 rfl;refine⟨p,dx,_,rfl,f2,sN (by decide +kernel),p,la,da,c,g,L,s_,m,Zan L m,Zan s_ m,ys,zs,_,_,rfl,⟨dx,f2⟩,la2,l12,r1.l sl2,l2,r2,ZaI ok.rise,ZaI ok.rise,?_,?_,?_,?_,?_,?_,?_,?_,tk2,?_⟩
  .rw[Zb1];exact Zbn ((ZaI ok.rise).filter _)
  .intro w;rw[Zb1,Zey]
  .intro w;rw[Zb0,Zex]
  .exact YAK (ZbO m4 (by omega)) (by decide)
  .rw[<-YAB (f:=(·.1)),Zb1];exact YAK (YAt _ _) (YAK (ZbO m4 (by have:=ex.len;omega)) (by decide))
  .rw[<-YAB (f:=(·.1)),Zb0];exact YAK (YAt _ _) (YAK (ZbO m4 (by omega)) (by decide))
  .intro w hw;have:=Zcy hL hw;omega
  .intro w hw;have:=Zcy (by have:=ex.len;omega) hw;omega
  .intro t la3 H3 ch3 f3 nl3 e3 t3 tk3;have np:∀us,H2 p≠some (.tup us):=fun us z=>by rw[f2]at z;cases z
   have ncp:p≠c:=n1.ne f rfl;have ngp:p≠g:=n2.ne f1 rfl;refine q t c g la3 H3 (sl02.chg.trans ch3) f3 e3 ⟨t3,⟨ys,ch3 _ _ l12 (by simpa using YBM ncp) rfl,(r1.l sl2).chg ch3 (fun b hb us=>by rw[YAL.mp hb];exact np us)⟩,⟨zs,ch3 _ _ l2 (by simpa using YBM ngp) rfl,r2.chg ch3 (fun b hb us=>by rw[YAL.mp hb];exact np us)⟩,n1,n2.l sl1,nl3.l sl02,ncg,nl3.ne l12 rfl,nl3.ne l2 rfl⟩ tk3
theorem ZpT:FnScope ["self","text","kinds"] ["self","text","kinds"] (Zah s_KN):=by walk_at "sc"
theorem ZnI (T:TL K mg base a tb):FnOk P w K mg base CX0 4 a.g_KN a.e_KN ["self","text","kinds"] (Zpl K a):=by
 refine T.fm_KN.ok ZpT (fun vs H Q E h=>?_) (fun BG A outer s H vs Q E hr h=>?_)
 .obtain⟨_,_,_,_,rfl,_⟩:=h;rfl
 .obtain⟨p,dx,l,m,rfl,hp,ok,q⟩:=h;refine⟨_,(Zab (ZaR (Zal (ZnH T) (hr.mono (by decide)) rfl T.m_KR T.f_KR.kp T.b_KR .nil Zas (Zaa (pv 2) Zac)))
   (Zab (ZaR (Zal (Zqu T) (hr.mono (by decide)) rfl T.m_KX T.f_KX.kp T.b_KX .nil Zas (Zaa (pv 1) (Zaa (pv 2) (Zaa (Zer rfl T.c_KB) Zac)))))
   (Zae (ZaR (ZgS rfl T.m_LU T.cr_LU (ZnG T) (hr.mono (by decide)) T.kp_KT T.b_KT .nil Zas (Zaa (pv 0) (Zaa (pv 1) (Zaa (pv 2) Zac)))))))),?_⟩
  walk_at "rd";have m4:=ok.m4;have l40:=ok.l40;refine⟨m,rfl,by omega,ok.k,fun H1 s1=>?_⟩;walk_at "rd?";refine⟨l,m,40,rfl,by omega,Zoa ok,fun H2 s2=>?_⟩;walk_at "rd?";exact⟨p,dx,_,l,m,rfl,.inl rfl,s1.trans s2 _ _ hp,fun H3 r k=>q H3 ⟨dx,r⟩ fun b o e ne=>k b o (s1.trans s2 _ _ e) ne⟩
theorem ZjF:FnScope ["_law_script","_law_at","_law_kinds_here","_law_text_here","_law_cell_here","_law_place","_law_letter"] ["_law_script","_law_at","_law_kinds_here","_law_text_here"] (Zah s_LO):=by walk_at "sc"
theorem Znz (T:TL K mg base a tb):FnOk P w K mg base CX0 4 a.f_LO a.d_LO ["_law_script","_law_at","_law_kinds_here","_law_text_here"] (ZoX K a):=by
 refine T.f_LO.ok ZjF (fun vs H Q E h=>?_) (fun BG A outer s H vs Q E hr h=>?_)
 .obtain⟨_,_,_,_,_,rfl,_⟩:=h;rfl
 .have BJ:=hr.units;obtain⟨b,ns,k,l,m,rfl,hS,hk,hk1,ok,q⟩:=h;refine⟨_,(Zab (Zao (i:=4) ZjF.nd rfl (Or.inl rfl) (Zal (Zeu T) (hr.mono (by decide)) rfl T.m_LN T.f_LN.kp T.b_LN .nil Zas (Zaa (pv 0) (Zaa (pv 1) Zac))))
   (Zaf (Zab (Zao (i:=5) ZjF.nd rfl (Or.inl rfl) (Zam ZaE (Zam Za5 (pv 4) Zad) (Zam ZaO (Zap (Zat (K:=K) rfl) rfl T.z_len ZaV (Zaa (pv 3) Zac)) Zad)))
   (Zaf (Zab (Zao (i:=6) ZjF.nd rfl (Or.inl rfl) (ZaH ZhM (pv 2) (Zam ZaE (Zam Za5 (pv 4) Zad) (Zap (Zat (K:=K) rfl) rfl T.z_len ZaV (Zaa (pv 2) Zac))) (fun _ _=>rfl)))
   (Zaf (Zab (Zbh (Zaw (Za0 (K:=K) rfl BJ) (Zam ZaE (pv 4) Zad) Zad (ZaL _)) (Zae (Zaq (ZaA ZbE (Zam ZaN (Zam ZaN (ZaA ZbE (pv 3) ZaS (ZaJ (pv 5))) (pv 6)) (ZaA ZbE (pv 3) (ZaJ (Zam ZaO (pv 5) Zad)) ZaS)) ZaS (ZaJ Zad)))) ZaD)
   (Zaf (Zab (Zbh (Zaw (Za0 (K:=K) rfl BJ) (Zam ZaE (pv 4) Zad) Zad (ZaL _)) (Zae (Zaq (Zam ZaN (ZaA ZbE (pv 3) ZaS (ZaJ (pv 5))) (ZaA ZbE (pv 3) (ZaJ (Zam ZaO (pv 5) Zad)) ZaS)))) ZaD)
   (Zaf (Zab (Zbh (Zaw (Za0 (K:=K) rfl BJ) (Zam ZaE (pv 4) Zad) Zad (ZaL _)) (Zae (Zaq (ZaA ZbE (Zam ZaN (Zam ZaN (ZaA ZbE (pv 3) ZaS (ZaJ (pv 5))) (pv 6)) (ZaA ZbE (pv 3) (ZaJ (pv 5)) ZaS)) ZaS (ZaJ Zad)))) ZaD)
   (Zaf (Zab (Zbh (Zaw (Za0 (K:=K) rfl BJ) (Zam ZaE (pv 4) Zad) Zad (ZaL _)) (Zae (Zaq (pv 3))) ZaD)
   (Zaf (Zae (Zaq (Zal (Znx T) (hr.mono (by decide)) rfl T.m_LQ T.f_LQ.kp T.b_LQ .nil Zas (Zaa (pv 0) (Zaa (Zam ZaO (pv 1) Zad) (Zaa (pv 2) Zac)))))))))))))))))))),?_⟩
  have sz:∀k:Nat,k<=9000->k<=sizeLine:=fun k h=>YAK h (by rw[sizeLine_eq];decide);have l40:=ok.l40;have m1:=ok.m1;have m4:=ok.m4;have pm:(0:Int)<m.length:=by omega
  walk_at "rd";refine⟨b,ns,k,rfl,hS,hk,by omega,fun r0=>?_⟩;show Zcf _ _ _ _;refine Zaj ?_;walk_at "rd";obtain⟨P_,eP,lP⟩:∃P_:Nat,r0/5 % ((l.length:Nat)+1)=(P_:Int)/\P_<=l.length:=⟨(r0/5 % ((l.length:Nat)+1)).toNat,by have:=YBJ (r0/5) (show ((l.length:Nat):Int)+1≠0 by omega);omega,by have:=YAz (r0/5) (show (0:Int)<((l.length:Nat):Int)+1 by omega);omega⟩;refine⟨⟨by decide,by decide⟩,_,_,rfl,Zbg (by omega),by omega,Zaj ?_⟩;rw[eP];obtain⟨c1,hc1,mc1⟩:=ZfV (xs:=m) (i:=r0/205 % m.length) (YBJ _ (by omega)) (YAz _ pm);walk_at "rd";refine⟨⟨by decide,by decide⟩,_,_,rfl,Zbg (by omega),pm,m,_,c1,rfl,rfl,sz _ (by omega),hc1,Zaj ?_⟩;walk_at "rd";have cl:∀(w:Q11) (lo hi:Option Int),(cut w lo hi).length<=w.length:=fun w lo hi=>by unfold cut;rw[YAZ,YAj];omega
  have cm:∀(w:Q11) (lo hi:Option Int) (x:Nat),x∈cut w lo hi->x∈w:=fun w lo hi x h=>by unfold cut at h;exact YAe (YAb h)
  have okk:∀l2:Q11,l2.length<=40->(∀x∈l2,x∈m)->StripOk l2 m:=fun l2 h1 h2=>⟨ok.k,m1,m4,h1,h2⟩;have c40:∀w:Q11,(cut w none (some 40)).length<=40:=fun w=>by have:=Zec w 40;rw[show (some (40:Int))=some ((40:Nat):Int) from rfl,Zec,YAZ];omega
  have lm:=ok.mem;have a1:=cl l none (some (P_:Int));have a2:=cl l (some ((P_:Int)+1)) none;have a3:=cl l (some (P_:Int)) none;refine⟨by decide,.inl ⟨rfl,_,rfl,ite2 (fun _=>?_) (fun _=>Zaj ?_)⟩⟩
  .refine⟨_,rfl,l,rfl,sz _ (by omega),sz _ (by omega),_,rfl,l,rfl,sz _ (by omega),sz _ (by rw[YAF,YAs];omega),_,rfl,_,rfl,sz _ (by rw[YAF,YAF,YAs];omega),q _ H (okk _ (c40 _) fun x hx=>?_) (Same.refl _)⟩;have hx:=cm _ _ _ _ hx;simp only[YAW,YAL]at hx;rcases hx with (z | z) | z
   .exact lm x (cm _ _ _ _ z)
   .rw[z];exact mc1
   .exact lm x (cm _ _ _ _ z)
  walk_at "rd";refine⟨by decide,.inl ⟨rfl,_,rfl,ite2 (fun _=>?_) (fun _=>Zaj ?_)⟩⟩
  .refine⟨_,rfl,l,rfl,sz _ (by omega),_,rfl,l,rfl,sz _ (by omega),sz _ (by omega),q _ H (okk _ ?_ fun x hx=>?_) (Same.refl _)⟩
   .have e2:cut l (some ((P_:Int)+1)) none=l.drop (P_+1):=ZcL l (P_+1);rw[YAF,Zec,e2,YAZ,YAj];omega
   .exact(YAW.mp hx).elim (fun z=>lm x (cm _ _ _ _ z)) (fun z=>lm x (cm _ _ _ _ z))
  walk_at "rd";refine⟨by decide,.inl ⟨rfl,_,rfl,ite2 (fun _=>?_) (fun _=>Zaj ?_)⟩⟩
  .refine⟨_,rfl,l,rfl,sz _ (by omega),sz _ (by omega),_,rfl,l,rfl,sz _ (by omega),sz _ (by rw[YAF,YAs];omega),_,rfl,_,rfl,sz _ (by rw[YAF,YAF,YAs];omega),q _ H (okk _ (c40 _) fun x hx=>?_) (Same.refl _)⟩;have hx:=cm _ _ _ _ hx;simp only[YAW,YAL]at hx;rcases hx with (z | z) | z
   .exact lm x (cm _ _ _ _ z)
   .rw[z];exact mc1
   .exact lm x (cm _ _ _ _ z)
  walk_at "rd";refine⟨by decide,.inl ⟨rfl,_,rfl,ite2 (fun _=>q l H ok (Same.refl _)) (fun _=>Zaj ?_)⟩⟩;walk_at "rd";exact⟨b,ns,_,m,rfl,hS,by omega,by omega,m1,m4,fun l2 H2 ll lm2 s2=>q l2 H2 (okk l2 ll lm2) s2⟩
theorem ZjG:FnScope ["one","other","total","reason"] ["one","other"] (Zah s_KZ):=by walk_at "sc"
theorem ZnE (T:TL K mg base a tb):FnOk P w K mg base (CXr P w) 5 a.f_KZ a.d_KZ ["one","other"] (Zpa K a):=by
 refine T.f_KZ.okX ZjG (fun vs H Q E h=>?_) (fun BG A outer s H vs Q E hr h=>?_)
 .obtain⟨_,_,_,_,_,_,rfl,_⟩:=h;rfl
 .obtain⟨p1,p2,l1,m1,l2,m2,rfl,h1,h2,tk,q⟩:=h;refine⟨_,(Zab (Zao (i:=2) ZjG.nd rfl (Or.inl rfl) (Zal (ZlI T) (hr.mono (by decide)) rfl T.m_K0 T.f_K0.kp T.b_K0 .nil Zas (Zaa Zad (Zaa Zad Zac))))
   (Zaf (Zab (Za8 Zno rfl (ZaP (K:=K) rfl (Zal (Ziy T) (hr.mono (by decide)) rfl T.m_K8 T.f_K8.kp T.b_K8 .nil Ziu (Zaa (pv 0) (Zaa (pv 1) Zac)))) (Zau (i:=3) ZjG.nd rfl (Or.inl rfl))
   (Zae (Zao (i:=2) ZjG.nd rfl (Or.inl rfl) (Zal (Zqi T) (hr.mono (by decide)) rfl T.m_LX T.f_LX.kp T.b_LX .nil Zas (Zaa (pv 2) (Zaa (Zal (ZlI T) (hr.mono (by decide)) rfl T.m_K0 T.f_K0.kp T.b_K0 .nil Zas (Zaa Zad (Zaa (Zam Znq (Zap (Zat (K:=K) rfl) rfl T.z_len ZaV (Zaa (ZaH (ZaU (K:=K) rfl) (pv 3) Zad (fun _ _=>rfl)) Zac)) Zad) Zac))) Zac))))))
   (Zaf (Zae (Zaq (pv 2))))))),?_⟩
  have sz:∀k:Nat,k<=9000->k<=sizeLine:=fun k h=>YAK h (by rw[sizeLine_eq];decide);have dp:=ZdO;walk_at "rd";refine⟨0,1,1,rfl,by decide,by decide,⟨by decide,by decide⟩,by decide,fun t0 H1 s1 e1=>?_⟩;show Zcf _ _ _ _;refine Zaj ?_;walk_at "rd";rcases q with⟨rfl,ok1,ok2,q⟩|⟨ne,x⟩
  .have o1:=lsOk ok1;have o2:=lsOk ok2;refine⟨p1,p2,l1,m1,l2,m1,rfl,h1.l s1.l,h2.l s1.l,tk.same s1,.inl ⟨rfl,ok1,ok2,fun r zs ds H2 s2 tk2 n2 e2 da df bw=>?_⟩⟩;have dl:=Zce df o1 o2;have zl:=da.1;have i0:(0:Int)=frT ((WS (ds.take 0):Nat):Int) (DD:Nat)/\(1:Int)=frB ((WS (ds.take 0):Nat):Int) (DD:Nat):=by rw[List.take_zero];have:=ZeH (x:=0) (y:=1) (u:=((WS []:Nat):Int)) (v:=(DD:Nat)) (by decide) (by decide) (by omega) (by omega) (by rw[Zjp];simp);rw[<-this.1,<-this.2];exact⟨rfl,rfl⟩
   refine⟨r,rfl,⟨_,.mk e2⟩,ForRun.list (xs:=zs) (fun i U H'=>∃t v3,U=[some (.ref p1),some (.ref p2),some (.ref t),v3]/\Same H2 H'/\H' t=some (.tup [.int (frT (WS (ds.take i):Nat) (DD:Nat)),.int (frB (WS (ds.take i):Nat) (DD:Nat))])) ⟨t0,_,rfl,Same.refl _,by rw[<-i0.1,<-i0.2];exact s2 _ _ e1 rfl⟩ (fun i U H' _ ⟨_,_,_,s',_⟩=>.mk (s' _ _ e2)) ?_ ?_⟩
   .rintro i x U H3 hx ⟨t,v3,rfl,s3,e3⟩;obtain⟨w_,tw,hw,rfl,ew⟩:=da.2 i x hx;obtain⟨w1,w41⟩:=Zc1 df o1 o2 (YAo hw);have wb:=Zms (ws:=ds.take i) fun u hu=>Zc1 df o1 o2 (YAb hu);have wl:(ds.take i).length<=400:=by rw[YAZ];omega
    have wb2:WS (ds.take i)<=400*DD:=YAK wb (YDX _ wl);obtain⟨f1,f2,f3⟩:=Zkg wb2;have hs:((w_.length:Nat):Int) ^ Int.toNat 2=((w_.length*w_.length:Nat):Int):=by show ((w_.length:Nat):Int) ^ 2=_;rw[YCi,Int.pow_succ,Int.pow_succ,Int.pow_zero,Int.one_mul]
    have sm:w_.length*w_.length<=41*41:=YDM w41 w41;have sp:0<w_.length*w_.length:=Nat.mul_pos w1 w1;have bs:Bt 11 (((w_.length*w_.length:Nat)):Int):=⟨by omega,by show w_.length*w_.length<2 ^ 11;omega⟩;obtain⟨c1,c2,c3,c4,_⟩:=ZbJ (a:=1) (b:=(((w_.length*w_.length:Nat)):Int)) (by decide) (by omega);have st:=Zl6 (W:=WS (ds.take i)) w1 w41 rfl;walk_at "rd";refine⟨tw,_,0,_,rfl,rfl,.mk (s3 _ _ ew),rfl,_,_,rfl,Zbg (by omega),⟨by decide,by decide,by show w_.length<2 ^ 64;omega⟩,?_⟩;rw[hs];refine⟨1,_,11,rfl,by decide,by omega,bs,by decide,fun tf H4 s4 e4=>⟨t,tf,_,_,_,_,340,rfl,s4 _ _ e3,e4,f3,by omega,f1,f2,(bs.le c1 (by omega)).mono (by decide),(bs.le (by omega) c4).mono (by decide),by decide,fun tp H5 s5 e5=>⟨tp,_,rfl,s3.trans (s4.trans s5),?_⟩⟩⟩;rw[e5,st.1,st.2,YCl,hw];show _=some (HO.tup [V.int (frT (WS (ds.take i++[w_]):Nat) (DD:Nat)),V.int (frB (WS (ds.take i++[w_]):Nat) (DD:Nat))]);rw[Zjo]
   .rintro U H3 ⟨t,v3,rfl,s3,e3⟩;rw[zl,YBj]at e3;walk_at "rd?";refine Zaj ?_;walk_at "rd";exact q t ds H3 ((s1.l.trans s2).trans s3.l) (tk2.same s3) df e3
  .exact⟨p1,p2,l1,m1,l2,m2,rfl,h1.l s1.l,h2.l s1.l,tk.same s1,.inr ⟨ne,x.same s1⟩⟩
theorem ZpN:FnScope ["self","letter"] ["self","letter"] (Zah s_KV):=by walk_at "sc"
theorem ZnF (T:TL K mg base a tb):FnOk P w K mg base CX0 5 a.g_KV a.e_KV ["self","letter"] (Zpe K a):=by
 refine T.fm_KV.ok ZpN (fun vs H Q E h=>?_) (fun BG A outer s H vs Q E hr h=>?_)
 .obtain⟨_,_,_,_,_,_,_,rfl,_⟩:=h;rfl
 .obtain⟨p,la,da,l,m,ds,c0,rfl,hp,hd,tk,hc,hl,q⟩:=h;refine⟨_,(Zaf (Zab (ZaR (Zal (ZqB T) (hr.mono (by decide)) rfl T.m_KH T.f_KH.kp T.b_KH .nil Zas (Zaa (pv 1) (Zaa (ZaT (K:=K) rfl (pv 0) rfl) Zac))))
   (Zab (Zbh (Zaw Zqg (Zap (Zat (K:=K) rfl) rfl T.z_len ZaV (Zaa (ZaT (K:=K) rfl (pv 0) rfl) Zac)) (Zer rfl T.c_KB) (ZaL _)) (Zaf (Zae Zip)) ZaD)
   (Zaf (Zab (ZaR (Zdp YBH YBY YBX Zbf (ZaT (K:=K) rfl (pv 0) rfl) (Zaa (Zbd (Zaa (Za4 (l:=[112,117,116]) (by decide +kernel)) (Zaa (pv 1) Zac))) Zac)))
   (Zae (Zaq (ZbR (pv 0) T.cl_LI T.me_KP (Zqy T) (hr.mono (by decide)) T.b_KP .nil Zas (Zaa (Zam ZaN (ZaT (K:=K) rfl (pv 0) rfl) (pv 1)) Zac))))))))),?_⟩
  have sz:∀k:Nat,k<=30000->k<=sizeLine:=fun k h=>YAK h (by rw[sizeLine_eq];decide);obtain⟨⟨dx,f⟩,hk,⟨ts,d1,d2⟩,run,ok,nld⟩:=id hp;have m4:=ok.m4;have l40:=run.len;have tl:=d2.1;have npd:p≠da:=fun z=>by rw[z,d1]at f;cases f
  walk_at "rd";refine Zaj ?_;walk_at "rd";refine⟨p,_,dx,_,_,rfl,f,T.cl_LI,T.n_Strip_own_kinds,Zcr,?_⟩;refine⟨[c0],m,rfl,by simp,ZlW hc,fun H1 s1=>?_⟩;walk_at "rd?";refine⟨p,_,dx,_,_,rfl,s1 _ _ f,T.cl_LI,T.n_Strip_own_text,Zbt,_,_,rfl,Zbg (by omega),?_⟩;rw[decide_eq_false (by omega)];refine iteF ?_;refine Zaj ?_;walk_at "rd";refine⟨p,_,dx,_,_,rfl,s1 _ _ f,T.cl_LI,T.n_Strip_own_deeds,Zfb,.inl ⟨rfl,_,.mk (s1 _ _ d1)⟩,sz _ (by decide),NewT.of fun td H2 s2 n2 l2=>?_⟩;have s02:=s1.trans s2;refine⟨da,_,_,rfl,rfl,s02 _ _ d1,by rw[tl];exact sz _ (by omega),?_⟩;have c3:Chg [da] H (upd H2 da (.lst (ts++[.ref td]))):=s02.chg.trans (Chg.upd (by simp));have d3:upd H2 da (.lst (ts++[.ref td])) da=some (.lst (ts++[.ref td])):=Zag;have t3:upd H2 da (.lst (ts++[.ref td])) td=some (.tup (Zks (true,c0))):=by rw[Zai (fun z=>by rw[z,s02 _ _ d1]at l2;cases l2)];exact l2
  have tk3:=(tk.same s02).upd (o':=.lst (ts++[.ref td])) (s02 _ _ d1) rfl rfl;generalize upd H2 da (.lst (ts++[.ref td]))=H3 at c3 d3 t3 tk3;have e3:DeedsA H3 (ts++[.ref td]) (ds++[(true,c0)]):=(d2.chg c3 (fun b hb us z=>by rw[YAL.mp hb,d1]at z;cases z)).snoc t3;have f3:=c3 _ _ f (by simpa using npd) rfl;have k3:=c3 _ _ hk (by simpa using nld) rfl;have r3:=run.put hc hl;refine⟨p,dx,_,rfl,f3,sN (by decide +kernel),p,_,dx,_,_,rfl,f3,T.cl_LI,T.n_Strip_own_text,Zbt,l,[c0],rfl,rfl,sz _ (by rw[YAs];omega),?_⟩;refine⟨p,la,da,l,l++[c0],m,rfl,⟨dx,f3⟩,k3,r3.len,.inl ⟨c0,rfl⟩,r3.mem,ok,tk3,fun t c g la2 H4 ch f4 l4 an tk4=>?_⟩;obtain⟨q1,q2,q3⟩:=ZgY hp c3 d3 e3 ch f4 l4 an r3;exact q t c g la2 H4 q1 q2 q3 tk4
theorem ZpS:FnScope ["self"] ["self"] (Zah s_KO):=by walk_at "sc"
theorem Zqz (T:TL K mg base a tb):FnOk P w K mg base CX0 5 a.g_KO a.e_KO ["self"] (Zpk K a):=by
 refine T.fm_KO.ok ZpS (fun vs H Q E h=>?_) (fun BG A outer s H vs Q E hr h=>?_)
 .obtain⟨_,_,_,_,_,_,_,rfl,_⟩:=h;rfl
 .have BJ:=hr.units;obtain⟨p,la,da,c0,l0,m,ds,rfl,hp,hd,tk,q⟩:=h;refine⟨_,(Zaf (Zab (Zbh (Zaw (Za0 (K:=K) rfl BJ) (ZaT (K:=K) rfl (pv 0) rfl) (Za4 (l:=[]) (by decide +kernel)) (ZaL _)) (Zae Zip) ZaD)
   (Zaf (Zab (ZaR (Zdp YBH YBY YBX Zbf (ZaT (K:=K) rfl (pv 0) rfl) (Zaa (Zbd (Zaa (Za4 (l:=[100,114,111,112]) (by decide +kernel)) (Zaa (ZaH ZhM (ZaT (K:=K) rfl (pv 0) rfl) Zad (fun _ _=>rfl)) Zac))) Zac)))
   (Zae (Zaq (ZbR (pv 0) T.cl_LI T.me_KG (ZqC T) (hr.mono (by decide)) T.b_KG .nil Zas (Zaa (ZaA ZbE (ZaT (K:=K) rfl (pv 0) rfl) (ZaJ Zad) ZaS) Zac)))))))),?_⟩
  have sz:∀k:Nat,k<=30000->k<=sizeLine:=fun k h=>YAK h (by rw[sizeLine_eq];decide);obtain⟨⟨dx,f⟩,hk,⟨ts,d1,d2⟩,run,ok,nld⟩:=id hp;have m4:=ok.m4;have l40:=run.len;have tl:=d2.1;have npd:p≠da:=fun z=>by rw[z,d1]at f;cases f
  walk_at "rd";refine Zaj ?_;walk_at "rd";refine⟨p,_,dx,_,_,rfl,f,T.cl_LI,T.n_Strip_own_text,Zbt,.inl ⟨rfl,?_⟩⟩;rw[YAI YAC,ZcJ];rw[decide_eq_false (by simp)];refine⟨_,rfl,iteF ?_⟩;refine Zaj ?_;walk_at "rd";refine⟨p,_,dx,_,_,rfl,f,T.cl_LI,T.n_Strip_own_deeds,Zfb,.inl ⟨rfl,_,.mk d1⟩,p,_,dx,_,_,rfl,f,T.cl_LI,T.n_Strip_own_text,Zbt,c0::l0,0,c0,rfl,rfl,sz _ (by omega),atI0,sz _ (by decide),NewT.of fun td H2 s2 n2 l2=>?_⟩;refine⟨da,_,_,rfl,rfl,s2 _ _ d1,by rw[tl];exact sz _ (by omega),?_⟩;have c3:Chg [da] H (upd H2 da (.lst (ts++[.ref td]))):=s2.chg.trans (Chg.upd (by simp));have d3:upd H2 da (.lst (ts++[.ref td])) da=some (.lst (ts++[.ref td])):=Zag;have t3:upd H2 da (.lst (ts++[.ref td])) td=some (.tup (Zks (false,c0))):=by rw[Zai (fun z=>by rw[z,s2 _ _ d1]at l2;cases l2)];exact l2
  have tk3:=(tk.same s2).upd (o':=.lst (ts++[.ref td])) (s2 _ _ d1) rfl rfl;generalize upd H2 da (.lst (ts++[.ref td]))=H3 at c3 d3 t3 tk3;have e3:DeedsA H3 (ts++[.ref td]) (ds++[(false,c0)]):=(d2.chg c3 (fun b hb us z=>by rw[YAL.mp hb,d1]at z;cases z)).snoc t3;have f3:=c3 _ _ f (by simpa using npd) rfl;have k3:=c3 _ _ hk (by simpa using nld) rfl;refine⟨p,dx,_,rfl,f3,sN (by decide +kernel),p,_,dx,_,_,rfl,f3,T.cl_LI,T.n_Strip_own_text,Zbt,_,rfl,c0::l0,rfl,sz _ (by omega),?_⟩;rw[ZeP];refine⟨p,la,da,l0,c0::l0,m,rfl,⟨dx,f3⟩,k3,l40,.inr ⟨c0,rfl⟩,run.mem,ok,tk3,fun t c g la2 H4 ch f4 l4 an tk4=>?_⟩;obtain⟨q1,q2,q3⟩:=ZgY hp c3 d3 e3 ch f4 l4 an run.drop;exact q t c g la2 H4 q1 q2 q3 tk4
theorem Zhx:FnScope ["_law_text_here","_law_kinds_here","_law_cell_here","_law_strip_here","_law_many","_law_k","_law_letter"] ["_law_text_here","_law_kinds_here","_law_cell_here"] (Zah s_LE):=by walk_at "sc"
theorem Zqq (T:TL K mg base a tb):FnOk P w K mg base CX0 6 a.f_LE a.d_LE ["_law_text_here","_law_kinds_here","_law_cell_here"] (Zo5 K a):=by
 refine T.f_LE.ok Zhx (fun vs H Q E h=>?_) (fun BG A outer s H vs Q E hr h=>?_)
 .obtain⟨_,_,_,rfl,_⟩:=h;rfl
 .obtain⟨l,m,c,rfl,ok,tk,q⟩:=h;refine⟨_,(Zab (Zao (i:=3) Zhx.nd rfl (Or.inl rfl) (Zgb T.mk_LI (Zqx T) (hr.mono (by decide)) rfl T.m_LI T.b_KQ .nil Zas (Zaa (pv 1) Zac)))
   (Zaf (Zab (Zao (i:=4) Zhx.nd rfl (Or.inl rfl) (Zap (Zjj rfl) rfl T.z_min Zow (Zaa (Zam Ziv Zad (Zap (Zat (K:=K) rfl) rfl T.z_len ZaV (Zaa (pv 0) Zac))) (Zaa (Zam ZaE (pv 2) Zad) Zac))))
   (Zaf (Zab (Za8 YAp rfl (Za9 rfl T.z_range (Zaa (pv 4) Zac)) (Zau (i:=5) Zhx.nd rfl (Or.inl rfl))
   (Zae (ZaR (ZbR (pv 3) T.cl_LI T.me_KV (ZnF T) (hr.mono (by decide)) T.b_KV .nil Zas (Zaa (ZaH ZhM (pv 1) (Zam ZaE (Zam Za5 (pv 2) Zad) (Zap (Zat (K:=K) rfl) rfl T.z_len ZaV (Zaa (pv 1) Zac))) (fun _ _=>rfl)) Zac)))))
   (Zaf (Zab (Za8 YAp rfl (ZcP (pv 0)) (Zau (i:=6) Zhx.nd rfl (Or.inl rfl))
   (Zae (ZaR (ZbR (pv 3) T.cl_LI T.me_KV (ZnF T) (hr.mono (by decide)) T.b_KV .nil Zas (Zaa (pv 6) Zac)))))
   (Zaf (Zab (Za8 YAp rfl (Za9 rfl T.z_range (Zaa (pv 4) Zac)) (Zau (i:=5) Zhx.nd rfl (Or.inl rfl))
   (Zae (ZaR (Zbk (pv 3) T.cl_LI T.me_KO (Zqz T) (hr.mono (by decide)) T.b_KO .nil Zas))))
   (Zaf (Zae (Zaq (pv 3))))))))))))),?_⟩
  have sz:∀k:Nat,k<=9000->k<=sizeLine:=fun k h=>YAK h (by rw[sizeLine_eq];decide);have l40:=ok.l40;have kok:KOk m:=⟨ok.k,ok.m1,ok.m4⟩;walk_at "rd";intro p dx np ndx ne;refine⟨p,dx,m,rfl,Zag,kok,fun la0 da H1 at1 nla nda k1=>⟨rfl,Zaj ?_⟩⟩;have s1:Same H H1:=fun b o e=>k1 b o (by rw[Zai (Zak e np),Zai (Zak e ndx)];exact e) (Zak e np);have tk1:=tk.same s1;have nda0:H da=none:=by
   cases e:H da with
   | none=>rfl
   | some o=>rw[Zai (Zak e np),Zai (Zak e ndx),e]at nda;cases nda
  have nla0:H la0=none:=by
   cases e:H la0 with
   | none=>rfl
   | some o=>rw[Zai (Zak e np),Zai (Zak e ndx),e]at nla;cases nla
  walk_at "rd";have keepN:∀ {H':Hp} {r:AD},SameL H H'->Nw H' r->Nw H r:=fun s n o e=>by
   cases z:Zc6 o with
   | true=>rfl
   | false=>rw[<-n o (s _ _ e z),z]
  have keepL:∀ {H' H'':Hp},SameL H H'->Chg [p,da] H' H''->SameL H H'':=fun sl ch bb o e t=>ch _ _ (sl _ _ e t) (by
   simp only[YAT,List.not_mem_nil,or_false,not_or];refine⟨fun z=>?_,fun z=>?_⟩
   .rw[z,np]at e;cases e
   .rw[z,nda0]at e;cases e) t
  have m1:=ok.m1;have m4:=ok.m4;have pm:(0:Int)<m.length:=by omega
  obtain⟨N,eN,hN⟩:∃N:Nat,(if c % 4<40-(l.length:Nat) then c % 4 else 40-(l.length:Nat))=(N:Int)/\N+l.length<=40:=by
   have a1:=YBJ c (show (4:Int)≠0 by decide);have a2:=YAz c (show (0:Int)<4 by decide);by_cases z:c % 4<40-(l.length:Nat)
   .rw[YAM z];exact⟨(c % 4).toNat,by omega,by omega⟩
   .rw[YAI z];exact⟨40-l.length,by omega,by omega⟩
  obtain⟨c1,hc1,mc1⟩:=ZfV (xs:=m) (i:=c/4 % m.length) (YBJ _ (by omega)) (YAz _ pm);refine⟨_,_,rfl,Zbg (by omega),by decide,_,_,rfl,Zaj ?_⟩;rw[eN];walk_at "rd";refine⟨_,rfl,by omega,by omega,?_⟩;rw[show ((N:Nat):Int).toNat=N by omega];refine ForRun.range (fun i U H'=>∃v5 la ds,U=[some (tx l),some (tx m),some (.int c),some (.ref p),some (.int (N:Nat)),v5,none]/\StripAt a.c_LI H' p la da (List.replicate i c1) m ds/\ds.length<=i/\TT a H'/\SameL H H'/\Nw H la) ⟨_,la0,[],rfl,at1,YAS _,tk1,s1.l,Nw.of nla0⟩ ?_ ?_
  .rintro i U H2 hi ⟨v5,la,ds,rfl,at2,dl,tk2,sl2,nw2⟩;obtain⟨dx2,f2⟩:=id at2.fld;walk_at "rd";refine⟨p,dx2,_,rfl,f2,sN (by decide +kernel),⟨by decide,by decide⟩,_,_,rfl,Zbg (by omega),pm,m,_,c1,rfl,rfl,sz _ (by omega),hc1,p,la,da,_,m,ds,c1,rfl,at2,by omega,tk2,mc1,by rw[YDP];omega,fun t c g la2 H3 q1 q2 q3 q4=>⟨_,la2,ds++[(true,c1)],rfl,?_,by rw[YAF];exact YCt dl,q4,keepL sl2 q1,keepN sl2 q3.nl⟩⟩;rw[show List.replicate i c1++[c1]=c1::List.replicate i c1 by rw[<-List.replicate_succ',YCw]]at q2;exact q2
  .rintro U H2 ⟨v5,la,ds,rfl,at2,dl,tk2,sl2,nw2⟩;walk_at "rd?";refine Zaj ?_;walk_at "rd";refine⟨l,rfl,ForRun.text (fun i U H'=>∃v6 la ds,U=[some (tx l),some (tx m),some (.int c),some (.ref p),some (.int (N:Nat)),v5,v6]/\StripAt a.c_LI H' p la da (List.replicate N c1++l.take i) m ds/\ds.length<=N+i/\TT a H'/\SameL H H'/\Nw H la) ⟨_,la,ds,rfl,by rw[List.take_zero,YCh];exact at2,dl,tk2,sl2,nw2⟩ ?_ ?_⟩
   .rintro i x U H3 hx ⟨v6,la,ds,rfl,at3,dl,tk3,sl3,nw3⟩;have hi:i<l.length:=(YAa.mp hx).1;obtain⟨dx3,f3⟩:=id at3.fld;walk_at "rd";refine⟨p,dx3,_,rfl,f3,sN (by decide +kernel),p,la,da,_,m,ds,x,rfl,at3,by omega,tk3,ok.mem x (YAo hx),by rw[YAF,YDP,YAZ];omega,fun t c g la2 H4 q1 q2 q3 q4=>⟨_,la2,ds++[(true,x)],rfl,?_,by rw[YAF];exact YCt dl,q4,keepL sl3 q1,keepN sl3 q3.nl⟩⟩;rw[YCl,hx];rw[YAm]at q2;exact q2
   .rintro U H3 ⟨v6,la,ds,rfl,at3,dl,tk3,sl3,nw3⟩;rw[YBj]at at3;walk_at "rd?";refine Zaj ?_;walk_at "rd";refine⟨_,rfl,by omega,by omega,?_⟩;rw[show ((N:Nat):Int).toNat=N by omega];refine ForRun.range (fun i U H'=>∃v5 la ds,U=[some (tx l),some (tx m),some (.int c),some (.ref p),some (.int (N:Nat)),v5,v6]/\StripAt a.c_LI H' p la da (List.replicate (N-i) c1++l) m ds/\ds.length<=100+i/\TT a H'/\SameL H H'/\Nw H la) ⟨_,la,ds,rfl,at3,by omega,tk3,sl3,nw3⟩ ?_ ?_
    .rintro i U H4 hi ⟨v5,la,ds,rfl,at4,dl,tk4,sl4,nw4⟩;obtain⟨dx4,f4⟩:=id at4.fld;obtain⟨k,ek⟩:∃k,N-i=k+1:=⟨N-i-1,by omega⟩;have ek2:N-(i+1)=k:=by omega
     rw[ek,YCw]at at4;walk_at "rd";refine⟨p,dx4,_,rfl,f4,sN (by decide +kernel),p,la,da,c1,_,m,ds,rfl,at4,by omega,tk4,fun t c g la2 H5 q1 q2 q3 q4=>⟨_,la2,ds++[(false,c1)],rfl,?_,by rw[YAF];exact YCt dl,q4,keepL sl4 q1,keepN sl4 q3.nl⟩⟩;rw[ek2];exact q2
    .rintro U H4 ⟨v5,la,ds,rfl,at4,dl,tk4,sl4,nw4⟩;rw[Nat.sub_self]at at4;walk_at "rd?";refine Zaj ?_;walk_at "rd";exact q p la da ds H4 sl4 tk4 at4 nw4 (Nw.of nda0)
theorem ZjD:FnScope ["_law_one","_law_other","_law_mine","_law_yours","_law_alike","_law_found","_law_due","_law_near_here"] ["_law_one","_law_other","_law_mine","_law_yours","_law_alike"] (Zah s_LS):=by walk_at "sc"
theorem Zqk (T:TL K mg base a tb):FnOk P w K mg base CX0 6 a.f_LS a.d_LS ["_law_one","_law_other","_law_mine","_law_yours","_law_alike"] (ZoT K a):=by
 refine T.f_LS.ok ZjD (fun vs H Q E h=>?_) (fun BG A outer s H vs Q E hr h=>?_)
 .obtain⟨_,_,_,_,_,_,_,_,rfl,_⟩:=h;rfl
 .have BJ:=hr.units;obtain⟨p1,p2,b,c,l1,l2,m,al,rfl,h1,h2,ok1,ok2,hb,hc,ea,tk,q⟩:=h;refine⟨_,(Zab (Zao (i:=5) ZjD.nd rfl (Or.inl rfl) (Zal (Ziy T) (hr.mono (by decide)) rfl T.m_K8 T.f_K8.kp T.b_K8 .nil Zes (Zaa (pv 0) (Zaa (pv 1) Zac))))
   (Zaf (Zab (Zao (i:=6) ZjD.nd rfl (Or.inl rfl) (Zal (Zny T) (hr.mono (by decide)) rfl T.m_LP T.f_LP.kp T.b_LP .nil Zas (Zaa (pv 2) (Zaa (pv 3) Zac))))
   (Zaf (Zab (Zbh (PW.pt (Zil (Zcu (Zch (Zap (Za6 (K:=K) rfl) rfl T.z_isinstance ZaZ (Zaa (pv 5) (Zaa (ZcQ (v:=.ty "list") rfl T.z_list ZdK rfl) Zac))))) (Zfe (Zaw (Zdr (K:=K) rfl BJ) (pv 5) (pv 6) (ZaL _))))) (Zae (Zaq Zc5)) ZaD)
   (Zaf (Zab (Zbh (Zaw (Zdr (K:=K) rfl BJ) (Zbp (N:=["_law_row"]) (ix:=[none]) rfl (ZaQ rfl) rfl (ZaP (K:=K) rfl (pv 5)) (fun _ _ _ _=>(Zau (i:=0) (show (["_law_row"]:AJ).Nodup from by decide +kernel) rfl (Or.inl rfl) (Or.inr rfl))) (fun _ _ _ _=>(ZbF (Zcu (Zch (Zal (ZlH T) (hr.mono (by decide)) rfl T.m_LT T.f_LT.kp T.b_LT .nil Zas (Zaa (ZaH (ZaU (K:=K) rfl) (pv 0) Zad (fun _ _=>rfl)) Zac)))))) (fun _ _ _ _=>(pv 0))) (ZbL Zac) (ZaL _)) (Zae (Zaq Zc5)) ZaD)
   (Zaf (Zab (Zao (i:=7) ZjD.nd rfl (Or.inl rfl) (Zal (ZnE T) (hr.mono (by decide)) rfl T.m_KZ T.f_KZ.kp T.b_KZ .nil Zes (Zaa (pv 0) (Zaa (pv 1) Zac))))
   (Zaf (Zae (Zaq (Zci (Zal (Zqr T) (hr.mono (by decide)) rfl T.m_LD T.f_LD.kp T.b_LD .nil Zas (Zaa (pv 7) (Zaa (Zal (Znw T) (hr.mono (by decide)) rfl T.m_LW T.f_LW.kp T.b_LW .nil Zas (Zaa (Zal (ZnC T) (hr.mono (by decide)) rfl T.m_LB T.f_LB.kp T.b_LB .nil Zas (Zaa (pv 2) (Zaa (pv 3) Zac))) Zac)) Zac))) (ZcZ (Zbq (Za0 (K:=K) rfl BJ) (Zbq (Za0 (K:=K) rfl BJ) (pv 7) (Zbd (Zaa Zad (Zaa Zad Zac))) (ZaL _)) (pv 4) (ZaL _)))))))))))))))),?_⟩
  have sz:∀k:Nat,k<=9000->k<=sizeLine:=fun k h=>YAK h (by rw[sizeLine_eq];decide);have o1:=lsOk ok1;have o2:=lsOk ok2;walk_at "rd";refine⟨p1,p2,l1,m,l2,m,rfl,h1,h2,tk,.inl ⟨rfl,ok1,ok2,fun r zs ds H1 s1 tk1 n1 e1 da df bw=>?_⟩⟩;show Zcf _ _ _ _;refine Zaj ?_;walk_at "rd";have hb1:=s1 _ _ hb rfl;have hc1:=s1 _ _ hc rfl;refine⟨b,c,_,_,rfl,hb1,hc1,o1,o2,tk1,fun r2 zs2 ds2 H2 s2 tk2 n2 e2 da2 df2 bw2=>?_⟩;have ed:ds2=ds:=Zba bw2 bw fun w=>by rw[df2.mem,df.mem]
  subst ed;show Zcf _ _ _ _;refine Zaj ?_;walk_at "rd";have e12:=s2 _ _ e1 rfl;have da':Zjq H2 zs ds2 (Zan l1 m):=⟨da.1,fun i y hy=>let ⟨w,t,k1,k2,k3⟩:=da.2 i y hy;⟨w,t,k1,k2,s2 _ _ k3 rfl⟩⟩;refine⟨_,_,_,_,true,rfl,rfl,.ty (.seqL (.mk e12)),Zfv,iteF (.inr ⟨_,_,Zda (.mk e12) da',Zda (.mk e2) da2,fun z=>YAC z.1,Zhg _ _,?_⟩)⟩;rw[YAM rfl,Zhf];refine⟨false,rfl,iteF (Zaj ?_)⟩;walk_at "rd";have zl:=da.1;have dl:=Zce df o1 o2;refine⟨r,rfl,⟨_,.mk e12⟩,CompRun.listL (xs:=zs) (fun _=>false) (fun _=>.non) (by omega) (.mk e12) (fun i H' Q' hi s' q'=>?_) (fun i H' Q' hi z=>by cases z) (fun p3 H3 s3 n3 e3=>⟨YAv _,NewL.of fun p4 H4 s4 n4 e4=>?_⟩)⟩
  .obtain⟨w,t,k1,k2,k3⟩:=da'.2 i (zs.getD i .non) (by rw[YAR,YAH hi];rfl);rw[k2];walk_at "rd";exact⟨t,_,1,_,rfl,rfl,.mk (s' _ _ k3),rfl,_,rfl,q' _ (Same.refl _)⟩
  rw[show ((List.range zs.length).filter fun _=>false)=[] from List.filter_eq_nil_iff.mpr (by simp)]at e3;refine ZnR (xs:=[]) (.mk (s4 _ _ e3)) (.mk e4) ⟨false,rfl,iteF (Zaj ?_)⟩;walk_at "rd";have s24:=s3.trans s4;have s04:SameL H H4:=(s1.trans s2).trans s24.l;have tk4:=tk2.same s24;refine⟨p1,p2,l1,m,l2,m,rfl,h1.l s04,h2.l s04,tk4,.inl ⟨rfl,ok1,ok2,fun t ds5 H5 s5 tk5 df5 e5=>?_⟩⟩;show Zcf _ _ _ _;refine Zaj ?_;walk_at "rd";have s05:=s04.trans s5;refine⟨b,c,_,_,rfl,s05 _ _ hb rfl,s05 _ _ hc rfl,o1,o2,fun r6 ds6 H6 s6 n6 e6 df6 l6=>⟨r6,ds6,rfl,e6,l6,fun w hw=>Zc1 df6 o1 o2 hw,fun t7 H7 s7 e7=>?_⟩⟩;rw[df6.ws df5]at e7;have e57:=s7 _ _ (s6 _ _ e5);refine⟨t,t7,_,_,rfl,e57,e7,?_⟩;walk_at "rd?";refine iteT' ⟨sz 2 (by decide),NewT.of fun t8 H8 s8 n8 e8=>?_⟩;refine .inr ⟨_,_,datT (.mk (s8 _ _ e57)) rfl,datT (.mk e8) rfl,fun z=>YAC z.1,by unfold dep;rw[ZcI];decide,?_⟩;rw[YAI YAC,Zmf];have nz:=ZiC ok1 ok2 df5;have eb:(decide (frT ((WS ds5:Nat):Int) (DD:Nat)=0)&&decide (frB ((WS ds5:Nat):Int) (DD:Nat)=1))=al:=by rw[ea,YBQ,YAQ,decide_eq_true_iff,decide_eq_true_iff,decide_eq_true_iff];exact nz
  rw[eb];have s58:=(s6.trans s7).trans s8;refine .inl ⟨rfl,?_⟩;rw[YAI YAC,decide_eq_true rfl];exact q H8 (s05.trans s58.l) (tk5.same s58)
theorem Zig:FnScope ["_law_one","_law_other","_law_found","_law_way","e"] ["_law_one","_law_other"] (Zah s_K6):=by walk_at "sc"
theorem ZnN (T:TL K mg base a tb):FnOk P w K mg base CX0 6 a.f_K6 a.d_K6 ["_law_one","_law_other"] (Zpw K a):=by
 refine T.f_K6.ok Zig (fun vs H Q E h=>?_) (fun BG A outer s H vs Q E hr h=>?_)
 .obtain⟨_,_,_,_,_,_,rfl,_⟩:=h;rfl
 .have BJ:=hr.units;obtain⟨p1,p2,l1,m1,l2,m2,rfl,h1,h2,tk,nm,q⟩:=h;refine⟨_,(Zab (Zao (i:=2) Zig.nd rfl (Or.inl rfl) (ZbL Zac))
   (Zaf (Zab (Za8 YAp rfl (Za9 rfl T.z_range (Zaa Zad Zac)) (Zau (i:=3) Zig.nd rfl (Or.inl rfl))
   (Zae (Zne rfl rfl (Zeq (Znd (Zaw (Za0 (K:=K) rfl BJ) (pv 3) Zad (ZaL _)) (Zeq (ZgM (ZgP (ZnE T) (hr.mono (by decide)) rfl T.m_KZ T.f_KZ.kp T.b_KZ .nil (Zaa (pv 0) (Zaa (pv 1) Zac))))) (Zeq (ZgM (ZgP (Ziy T) (hr.mono (by decide)) rfl T.m_K8 T.f_K8.kp T.b_K8 .nil (Zaa (pv 0) (Zaa (pv 1) Zac))))))) (Zqe (i:=4) (fun _=>hr.hd) rfl T.m_KU Zig.nd rfl rfl (fun _=>(Zaf (Zae (Zao (i:=2) Zig.nd rfl (Or.inl rfl) (Zam ZgU (pv 2) (ZbL (Zaa (Zap (Za6 (K:=K) rfl) rfl T.z_isinstance ZaZ (Zaa (pv 4) (Zaa (Zgc (v:=.ref a.c_K9) rfl T.m_K9 rfl) Zac))) Zac))))))) Zng))))
   (Zae (Zaq (Zbq (Za0 (K:=K) rfl BJ) (pv 2) (ZbL (Zaa Zc5 (Zaa Zc5 Zac))) (ZaL _))))))),?_⟩
  have sz:∀k:Nat,k<=9000->k<=sizeLine:=fun k h=>YAK h (by rw[sizeLine_eq];decide);walk_at "rd";refine⟨YAv _,NewL.of fun r1 H1 s1 n1 e1=>Zaj ?_⟩;walk_at "rd";refine⟨_,rfl,by decide,by decide,?_⟩;refine ForRun.range (fun i U H'=>∃r v3 v4,U=[some (.ref p1),some (.ref p2),some (.ref r),v3,v4]/\Same H H'/\H' r=some (.lst (List.replicate i (.bl true)))) ⟨r1,_,_,rfl,s1,e1⟩ ?_ ?_
  .rintro i U H2 hi ⟨r,v3,v4,rfl,s2,e2⟩;have xp:=Zmd (b:=true) T.k_K9 T.k_KU (by simp[YCc]) (by simp[YCc]);have g1:=h1.l s2.l;have g2:=h2.l s2.l;have tk2:=tk.same s2;walk_at "rd";apply Zcm (C:=fun e H3=>Same H2 H3/\XAny H3 e a.c_K9 [])
   .intro tail;exact .inl ⟨rfl,_,rfl,ite2 (fun _=>⟨p1,p2,l1,m1,l2,m2,rfl,g1,g2,tk2,.inr ⟨nm,fun e H3 s3 x=>⟨e,_,rfl,rfl,true,xp,iteT (tail e H3 ⟨s3,x⟩)⟩⟩⟩) (fun _=>⟨p1,p2,l1,m1,l2,m2,rfl,g1,g2,tk2,.inr ⟨nm,fun e H3 s3 x=>⟨e,_,rfl,rfl,true,xp,iteT (tail e H3 ⟨s3,x⟩)⟩⟩⟩)⟩
   .rintro e H3 ⟨s3,x⟩;refine Zaj ?_;walk_at "rd";refine⟨_,_,_,_,true,rfl,rfl,.exc x T.xi_K9,ZlR T.k_K9 T.k_K9 Zmy (fun _=>rfl),sz 1 (by decide),NewL.of fun r4 H4 s4 n4 e4=>⟨r,r4,_,_,rfl,rfl,s4 _ _ (s3 _ _ e2),e4,?_,fun r5 n5=>⟨r5,_,_,rfl,s2.trans (s3.trans (s4.trans (Zav n5))),?_⟩⟩⟩
    .rw[YDP];exact sz _ (by show i+1<=9000;omega)
    .rw[Zag,show List.replicate i (V.bl true)++[V.bl true]=V.bl true::List.replicate i (V.bl true) by rw[<-List.replicate_succ',YCw]]
  .rintro U H2 ⟨r,v3,v4,rfl,s2,e2⟩;walk_at "rd";refine⟨sz 2 (by decide),NewL.of fun r6 H6 s6 n6 e6=>.inr ⟨_,_,datL (.mk (s6 _ _ e2)) rfl,datL (.mk e6) rfl,fun z=>YAC z.1,(ownL (K:=K) (.mk e6) rfl).2.2,?_⟩⟩;exact q H6 (s2.trans s6)
theorem ZpH:FnScope ["_law_text_here","_law_kinds_here","_law_cell_here"] ["_law_text_here","_law_kinds_here","_law_cell_here"] (Zah s_LM):=by walk_at "sc"
theorem Zqm (T:TL K mg base a tb):FnOk P w K mg base CX0 7 a.f_LM a.d_LM ["_law_text_here","_law_kinds_here","_law_cell_here"] (ZoZ K a):=by
 refine T.f_LM.ok ZpH (fun vs H Q E h=>?_) (fun BG A outer s H vs Q E hr h=>?_)
 .obtain⟨_,_,_,rfl,_⟩:=h;rfl
 .have BJ:=hr.units;obtain⟨l,m,c,rfl,ok,tk,q⟩:=h;refine⟨_,(Zab (Zbh (Zaw (Za0 (K:=K) rfl BJ) (Zam ZaE (pv 2) Zad) Zad (ZaL _)) (Zae (Zaq (Zgb T.mk_LH (ZnI T) (hr.mono (by decide)) rfl T.m_LH T.b_KN .nil Zas (Zaa (pv 0) (Zaa (pv 1) Zac))))) ZaD)
   (Zae (Zaq (Zal (Zqq T) (hr.mono (by decide)) rfl T.m_LE T.f_LE.kp T.b_LE .nil Zas (Zaa (pv 0) (Zaa (pv 1) (Zaa (Zam Za5 (pv 2) Zad) Zac))))))),?_⟩
  walk_at "rd";refine⟨by decide,.inl ⟨rfl,_,rfl,ite2 (fun _=>?_) (fun _=>⟨⟨by decide,by decide⟩,l,m,_,rfl,ok,tk,fun p la da ds H2 s t at2 n1 n2=>q p H2 s t (.inr ⟨la,da,ds,at2,n1,n2⟩)⟩)⟩⟩;intro p dx np ndx ne;refine⟨p,dx,l,m,rfl,Zag,ok,fun H2 r k=>⟨rfl,?_⟩⟩;have s:Same H H2:=fun b o e=>k b o (by rw[Zai (Zak e np),Zai (Zak e ndx)];exact e) (Zak e np);exact q p H2 s.l (tk.same s) (.inl r)
theorem Zbx:FnScope ["_law_script","_law_kinds_here","_law_texts","_law_bands","_law_lists","_law_turn","_law_k","_law_j","_law_alike","_law_nears","_law_found","_law_some","_law_letters_here","_law_strange"] ["_law_script"] (Zah Zls):=by walk_at "sc"
theorem ok_law (T:TL K mg base a tb):FnOk P w K mg base CX0 8 a.f_law a.d_law ["_law_script"] (spLaw K tb):=by
 refine T.f_law.ok Zbx (fun vs H Q E h=>?_) (fun BG A outer s H vs Q E hr h=>?_)
 .obtain⟨_,_,rfl,_⟩:=h;rfl
 .have BJ:=hr.units;obtain⟨b,ns,rfl,hS,hl,tk,tkM,tkR,q⟩:=h;refine⟨_,(Zab (Zao (i:=1) Zbx.nd rfl (Or.inr rfl) (Zal (Zqs T) (hr.mono (by decide)) rfl T.m_LC T.f_LC.kp T.b_LC .nil Zas (Zaa (Zal (Zeu T) (hr.mono (by decide)) rfl T.m_LN T.f_LN.kp T.b_LN .nil Zas (Zaa (pv 0) (Zaa Zad Zac))) Zac)))
   (Zaf (Zab (Zao (i:=2) Zbx.nd rfl (Or.inr rfl) (ZbL (Zaa (Zal (Znx T) (hr.mono (by decide)) rfl T.m_LQ T.f_LQ.kp T.b_LQ .nil Zas (Zaa (pv 0) (Zaa Zad (Zaa (pv 1) Zac)))) Zac)))
   (Zaf (Zab (ZaR (Zdp YBH YBY YBX Zbf (pv 2) (Zaa (Zal (Znz T) (hr.mono (by decide)) rfl T.m_LO T.f_LO.kp T.b_LO .nil Zas (Zaa (pv 0) (Zaa Zad (Zaa (pv 1) (Zaa (ZaH (Zax (K:=K) rfl) (pv 2) Zad (fun _ _=>rfl)) Zac))))) Zac)))
   (Zaf (Zab (ZaR (Zdp YBH YBY YBX Zbf (pv 2) (Zaa (Zal (Znz T) (hr.mono (by decide)) rfl T.m_LO T.f_LO.kp T.b_LO .nil Zas (Zaa (pv 0) (Zaa Zad (Zaa (pv 1) (Zaa (ZaH (Zax (K:=K) rfl) (pv 2) (Zam ZaE (Zal (Zeu T) (hr.mono (by decide)) rfl T.m_LN T.f_LN.kp T.b_LN .nil Zas (Zaa (pv 0) (Zaa Zad Zac))) Zad) (fun _ _=>rfl)) Zac))))) Zac)))
   (Zaf (Zab (Zdn (i:=3) (N:=["_law_k","_law_kinds_here","_law_script","_law_texts"]) (ix:=[none,some 1,some 0,some 2]) rfl Zbx.nd rfl rfl rfl (ZaQ rfl) rfl (Za9 rfl T.z_range (Zaa Zad Zac)) (fun _ _ _ _=>(Zau (i:=0) (show (["_law_k","_law_kinds_here","_law_script","_law_texts"]:AJ).Nodup from by decide +kernel) rfl (Or.inl rfl) (Or.inr rfl))) (fun _ _ _ _=>Zbu) (fun _ _ _ _=>(Zal (Zqm T) (hr.mono (by decide)) rfl T.m_LM T.f_LM.kp T.b_LM .nil Zas (Zaa (ZaH (Zax (K:=K) rfl) (pv 3) (pv 0) (fun _ _=>rfl)) (Zaa (pv 1) (Zaa (Zal (Zeu T) (hr.mono (by decide)) rfl T.m_LN T.f_LN.kp T.b_LN .nil Zas (Zaa (pv 2) (Zaa (Zam ZaO Zad (pv 0)) Zac))) Zac))))))
   (Zaf (Zab (Zao (i:=4) Zbx.nd rfl (Or.inr rfl) (Zbp (N:=["_law_text_here","_law_kinds_here"]) (ix:=[none,some 1]) rfl (ZaQ rfl) rfl (ZaP (K:=K) rfl (pv 2)) (fun _ _ _ _=>(Zau (i:=0) (show (["_law_text_here","_law_kinds_here"]:AJ).Nodup from by decide +kernel) rfl (Or.inl rfl) (Or.inr rfl))) (fun _ _ _ _=>Zbu) (fun _ _ _ _=>(Zal (ZqE T) (hr.mono (by decide)) rfl T.m_K7 T.f_K7.kp T.b_K7 .nil Zas (Zaa (pv 0) (Zaa (pv 1) Zac))))))
   (Zaf (Zab (Zao (i:=5) Zbx.nd rfl (Or.inl rfl) (Zam ZaE (Zam Za5 (Zal (Zeu T) (hr.mono (by decide)) rfl T.m_LN T.f_LN.kp T.b_LN .nil Zas (Zaa (pv 0) (Zaa Zad Zac))) Zad) Zad))
   (Zaf (Zab (Za8 YAp rfl (ZaP (K:=K) rfl (ZbL (Zaa (Zbd (Zaa Zad (Zaa Zad Zac))) (Zaa (Zbd (Zaa Zad (Zaa Zad Zac))) (Zaa (Zbd (Zaa Zad (Zaa Zad Zac))) (Zaa (Zbd (Zaa (Zam ZaE (Zam ZaO (pv 5) Zad) Zad) (Zaa (pv 5) Zac))) (Zaa (Zbd (Zaa (pv 5) (Zaa (pv 5) Zac))) Zac))))))) (Znh rfl (ZgO (Zau (i:=6) Zbx.nd rfl (Or.inl rfl)) (ZgO (Zau (i:=7) Zbx.nd rfl (Or.inl rfl)) ZlB)))
   (Zaf (Zab (Zao (i:=8) Zbx.nd rfl (Or.inl rfl) (Zbq (Za0 (K:=K) rfl BJ) (ZaH (Zax (K:=K) rfl) (pv 2) (pv 6) (fun _ _=>rfl)) (ZaH (Zax (K:=K) rfl) (pv 2) (pv 7) (fun _ _=>rfl)) (ZaL _)))
   (Zaf (Zae (Zbh (Zcu (Zch (Zal (Zqk T) (hr.mono (by decide)) rfl T.m_LS T.f_LS.kp T.b_LS .nil Zas (Zaa (ZaH (Zax (K:=K) rfl) (pv 3) (pv 6) (fun _ _=>rfl)) (Zaa (ZaH (Zax (K:=K) rfl) (pv 3) (pv 7) (fun _ _=>rfl)) (Zaa (ZaH (Zax (K:=K) rfl) (pv 4) (pv 6) (fun _ _=>rfl)) (Zaa (ZaH (Zax (K:=K) rfl) (pv 4) (pv 7) (fun _ _=>rfl)) (Zaa (pv 8) Zac)))))))) (Zaf (Zae (Zaq Zc5))) ZaD))))))
   (Zaf (Zab (Zdn (i:=9) (N:=["_law_k","_law_lists"]) (ix:=[none,some 4]) rfl Zbx.nd rfl rfl rfl (ZaQ rfl) rfl (Za9 rfl T.z_range (Zaa Zad Zac)) (fun _ _ _ _=>(Zau (i:=0) (show (["_law_k","_law_lists"]:AJ).Nodup from by decide +kernel) rfl (Or.inl rfl) (Or.inr rfl))) (fun _ _ _ _=>Zbu) (fun _ _ _ _=>(Zal (Znw T) (hr.mono (by decide)) rfl T.m_LW T.f_LW.kp T.b_LW .nil Zas (Zaa (Zal (ZnC T) (hr.mono (by decide)) rfl T.m_LB T.f_LB.kp T.b_LB .nil Zas (Zaa (ZaH (Zax (K:=K) rfl) (pv 1) (pv 0) (fun _ _=>rfl)) (Zaa (ZaH (Zax (K:=K) rfl) (pv 1) (Zam ZaE (Zam ZaO (pv 0) Zad) Zad) (fun _ _=>rfl)) Zac))) Zac))))
   (Zaf (Zab (Za8 YAp rfl (Za9 rfl T.z_range (Zaa Zad Zac)) (Zau (i:=6) Zbx.nd rfl (Or.inl rfl))
   (Zaf (Zae (Zbh (Zcu (Zch (Zal (Zqt T) (hr.mono (by decide)) rfl T.m_KY T.f_KY.kp T.b_KY .nil Zas (Zaa (ZaH (Zax (K:=K) rfl) (pv 9) (pv 6) (fun _ _=>rfl)) (Zaa (ZaH (Zax (K:=K) rfl) (pv 9) (Zam ZaE (Zam ZaO (pv 6) Zad) Zad) (fun _ _=>rfl)) (Zaa (ZaH (Zax (K:=K) rfl) (pv 9) (Zam ZaE (Zam ZaO (pv 6) Zad) Zad) (fun _ _=>rfl)) Zac)))))) (Zaf (Zae (Zaq Zc5))) ZaD))))
   (Zaf (Zab (Zao (i:=10) Zbx.nd rfl (Or.inl rfl) (Zal (Ziy T) (hr.mono (by decide)) rfl T.m_K8 T.f_K8.kp T.b_K8 .nil Zes (Zaa (ZaH (Zax (K:=K) rfl) (pv 3) Zad (fun _ _=>rfl)) (Zaa (ZaH (Zax (K:=K) rfl) (pv 3) Zad (fun _ _=>rfl)) Zac))))
   (Zaf (Zab (ZaR (Znm YBH PySem.F.slot_list_clear PySem.F.type_list_clear Zj0 (pv 10)))
   (Zaf (Zab (Zbh (Zaw (Zdr (K:=K) rfl BJ) (Zal (Ziy T) (hr.mono (by decide)) rfl T.m_K8 T.f_K8.kp T.b_K8 .nil Zes (Zaa (ZaH (Zax (K:=K) rfl) (pv 3) Zad (fun _ _=>rfl)) (Zaa (ZaH (Zax (K:=K) rfl) (pv 3) Zad (fun _ _=>rfl)) Zac))) (Zal (Zny T) (hr.mono (by decide)) rfl T.m_LP T.f_LP.kp T.b_LP .nil Zas (Zaa (ZaH (Zax (K:=K) rfl) (pv 4) Zad (fun _ _=>rfl)) (Zaa (ZaH (Zax (K:=K) rfl) (pv 4) Zad (fun _ _=>rfl)) Zac))) (ZaL _)) (Zaf (Zae (Zaq Zc5))) ZaD)
   (Zaf (Zab (Zdn (i:=11) (N:=["_law_letter","_law_kinds_here"]) (ix:=[none,some 1]) rfl Zbx.nd rfl rfl rfl (ZaQ rfl) rfl (ZcP (Za4 (l:=[97,122,98,121,99]) (by decide +kernel))) (fun _ _ _ _=>(Zau (i:=0) (show (["_law_letter","_law_kinds_here"]:AJ).Nodup from by decide +kernel) rfl (Or.inl rfl) (Or.inr rfl))) (fun _ _ _ _=>(ZbF (Zaw Zet (pv 0) (pv 1) rfl))) (fun _ _ _ _=>(pv 0)))
   (Zaf (Zab (Zao (i:=12) Zbx.nd rfl (Or.inl rfl) (Zam ZaN (ZaA ZbE (pv 1) (ZaJ (Zam Za5 (Zap (Zat (K:=K) rfl) rfl T.z_len ZaV (Zaa (pv 1) Zac)) Zad)) ZaS) (ZaH (Zax (K:=K) rfl) (pv 11) (Zam ZaE (Zal (Zeu T) (hr.mono (by decide)) rfl T.m_LN T.f_LN.kp T.b_LN .nil Zas (Zaa (pv 0) (Zaa Zad Zac))) (Zap (Zat (K:=K) rfl) rfl T.z_len ZaV (Zaa (pv 11) Zac))) (fun _ _=>rfl))))
   (Zaf (Zab (Zao (i:=13) Zbx.nd rfl (Or.inl rfl) (Zgb T.mk_LH (ZnI T) (hr.mono (by decide)) rfl T.m_LH T.b_KN .nil Zas (Zaa (Za4 (l:=[]) (by decide +kernel)) (Zaa (Zdp PySem.F.plainAttrs_str PySem.F.slot_str_join PySem.F.type_str_join ZlK (Za4 (l:=[]) (by decide +kernel)) (Zaa (Zap (ZfM rfl) rfl T.z_sorted Zb5 (Zaa (pv 12) Zac)) Zac)) Zac))))
   (Zaf (Zae (Zaq (Zci (Zal (ZnN T) (hr.mono (by decide)) rfl T.m_K6 T.f_K6.kp T.b_K6 .nil Zas (Zaa (ZaH (Zax (K:=K) rfl) (pv 3) Zad (fun _ _=>rfl)) (Zaa (pv 13) Zac))) (ZcZ (Zal (ZnN T) (hr.mono (by decide)) rfl T.m_K6 T.f_K6.kp T.b_K6 .nil Zas (Zaa (pv 13) (Zaa (ZaH (Zax (K:=K) rfl) (pv 3) Zad (fun _ _=>rfl)) Zac))))))))))))))))))))))))))))))))))))))),?_⟩
  have sz:∀k:Nat,k<=9000->k<=sizeLine:=fun k h=>YAK h (by rw[sizeLine_eq];decide);rw[<-T.e_K2]at tk;rw[<-T.e_K7]at tkM;rw[<-T.e_LP]at tkR;have tt0:TT a H:=⟨tk,tkM,tkR⟩;walk_at "rd";refine⟨b,ns,0,rfl,hS,by decide,by decide,fun r0=>⟨_,rfl,fun m mk m1 m4=>Zaj ?_⟩⟩;walk_at "rd";refine⟨b,ns,1,m,rfl,hS,by decide,by decide,m1,m4,fun l0 H1 l040 l0m s1=>?_⟩;have ok0:StripOk l0 m:=⟨mk,m1,m4,l040,l0m⟩;refine⟨sz 1 (by decide),NewL.of fun pt H2 s2 n2 e2=>Zaj ?_⟩;walk_at "rd";refine⟨.inl ⟨rfl,_,.mk e2⟩,pt,_,0,_,rfl,rfl,.mk e2,rfl,b,ns,4,l0,m,rfl,(s1.trans s2).seq hS,by decide,by decide,ok0,fun l1 H3 ok1 s3=>⟨pt,_,_,rfl,rfl,s3 _ _ e2,sz 2 (by decide),Zaj ?_⟩⟩;have npt:H pt=none:=s1.free n2;have s4:Same H (upd H3 pt (.lst ([tx l0]++[tx l1]))):=same_upd3 ((s1.trans s2).trans s3) npt;have e4:upd H3 pt (.lst ([tx l0]++[tx l1])) pt=some (.lst ([l0,l1].map tx)):=Zag;generalize upd H3 pt (.lst ([tx l0]++[tx l1]))=H4 at s4 e4;walk_at "rd";refine⟨.inl ⟨rfl,_,.mk e4⟩,b,ns,12,rfl,s4.seq hS,by decide,by decide,fun r12=>?_⟩;obtain⟨v,hv,vm⟩:=ZfV (xs:=[l0,l1].map tx) (i:=r12 % 2) (YBJ _ (by decide)) (YAz _ (by decide));obtain⟨lx,rfl,okx⟩:∃lx,v=tx lx/\StripOk lx m:=by
   obtain⟨lx,hx,rfl⟩:=YAg.mp vm;refine⟨lx,rfl,?_⟩;rcases YAT.mp hx with z | z
   .rw[z];exact ok0
   .rw[YAL.mp z];exact ok1
  refine⟨_,_,rfl,rfl,by show (0:Int)<2;decide,pt,_,_,_,rfl,rfl,.mk e4,hv,b,ns,8,lx,m,rfl,s4.seq hS,by decide,by decide,okx,fun l2 H5 ok2 s5=>⟨pt,_,_,rfl,rfl,s5 _ _ e4,sz 3 (by decide),Zaj ?_⟩⟩;have s6:Same H (upd H5 pt (.lst ([l0,l1].map tx++[tx l2]))):=same_upd3 (s4.trans s5) npt;have e6:upd H5 pt (.lst ([l0,l1].map tx++[tx l2])) pt=some (.lst ([l0,l1,l2].map tx)):=Zag;generalize upd H5 pt (.lst ([l0,l1].map tx++[tx l2]))=H6 at s6 e6;obtain⟨L,eL⟩:∃L,L=[l0,l1,l2]:=⟨_,rfl⟩;have L3:L.length=3:=by rw[eL];rfl
  have okL:∀k,k<3->StripOk (L.getD k []) m:=fun k hk=>by
   rw[eL];rcases k with _ | _ | _ | k
   .exact ok0
   .exact ok1
   .exact ok2
   .omega
  rw[<-eL]at e6;have atL:∀k:Nat,k<3->atI (L.map tx) (k:Int)=some (tx (L.getD k [])):=fun k hk=>by
   rw[eL];rcases k with _ | _ | _ | k
   .rfl
   .rfl
   .rfl
   .omega
  have tt6:=tt0.same s6;clear s1 s2 s3 s4 s5 e2 e4 n2 ok0 ok1 ok2 okx hv vm l040 l0m;walk_at "rd";refine⟨3,rfl,by decide,by decide,CompRun.invR (by decide) (fun acc i ys H'=>SameL H6 H'/\TT a H'/\H' acc=some (.lst ys)/\∀(k:Nat) (y:V),ys[k]?=some y->∃p,y=.ref p/\BandX a H' acc p (L.getD k []) m) (fun acc na=>⟨(Zav na).l,tt6.same (Zav na),Zag,fun k y h=>by simp at h⟩) ?_ ?_⟩
  .rintro acc i ys H' Q' na hi hl ⟨sl,tk',ea,hb⟩ q';rw[show (0+(i:Int))=((i:Nat):Int) by omega];walk_at "rd";refine⟨pt,_,_,_,rfl,rfl,.mk (sl _ _ e6 rfl),atL i hi,b,ns,_,rfl,Ze3 (s6.seq hS) sl,by omega,by omega,fun r=>⟨_,m,r,rfl,okL i hi,tk',fun p H8 s8 t8 n8=>q' _ H8 (s8 _ _ ea rfl) ⟨fun b o e t=>by rw[Zai (Zak e na)];exact s8 _ _ (sl _ _ e t) t,t8.upd (s8 _ _ ea rfl) rfl rfl,Zag,fun k y hk=>?_⟩⟩⟩;rcases Zlj hk with z | ⟨z1,z2⟩
   .obtain⟨p2,e,x⟩:=hb k y z;exact⟨p2,e,(x.l s8).upd (s8 _ _ ea rfl)⟩
   .rw[z1,hl];exact⟨p,z2,(n8.x ea).upd (s8 _ _ ea rfl)⟩
  rintro B bs H7 nB lB ⟨s7,tt7,eB,hB⟩;have hS7:=Ze3 (s6.seq hS) s7;have e7:=s7 _ _ e6 rfl;clear tt6 s6 e6 npt;refine Zaj ?_;walk_at "rd";refine⟨pt,rfl,⟨_,.mk e7⟩,CompRun.invL (xs:=L.map tx) (by rw[YAB,L3];decide) (fun acc i ys H'=>SameL H7 H'/\TT a H'/\H' acc=some (.lst ys)/\∀(k:Nat) (y:V),ys[k]?=some y->∃r,y=.ref r/\r≠acc/\H' r=some (.lst ((Zan (L.getD k []) m).map tx))) (fun acc i ys H' h=>.mk (h.1 _ _ e7 rfl)) (fun acc na=>⟨(Zav na).l,tt7.same (Zav na),Zag,fun k y h=>by simp at h⟩) ?_ ?_⟩
  .rintro acc i ys H' Q' na hi hl ⟨sl,tk',ea,hb⟩ q';rw[YAB]at hi;rw[Zbz hi];walk_at "rd";refine⟨_,m,rfl,okL i (by omega),tk',fun r H8 s8 t8 n8 e8=>q' _ H8 (s8 _ _ ea rfl) ⟨fun b o e t=>by rw[Zai (Zak e na)];exact s8 _ _ (sl _ _ e t) t,t8.upd (s8 _ _ ea rfl) rfl rfl,Zag,fun k y hk=>?_⟩⟩;rcases Zlj hk with z | ⟨z1,z2⟩
   .obtain⟨r2,e,n2,x⟩:=hb k y z;exact⟨r2,e,n2,by rw[Zai n2];exact s8 _ _ x rfl⟩
   .have n2:r≠acc:=YBM (n8.ne ea rfl);rw[z1,hl];exact⟨r,z2,n2,by rw[Zai n2];exact e8⟩
  rintro A zs H8 nA lA ⟨s8,tt8,eA,hA⟩;have hB8:∀k:Nat,k<3->∃p,atI bs (k:Int)=some (.ref p)/\BandA a H8 p (L.getD k []) m:=fun k hk=>by obtain⟨p,e,x⟩:=hB k (bs[k]'(by omega)) (YAH (by omega));exact⟨p,Zgu (by rw[YAH (by omega),e]),x.a.l s8⟩
  have hA8:∀k:Nat,k<3->∃r,atI zs (k:Int)=some (.ref r)/\H8 r=some (.lst ((Zan (L.getD k []) m).map tx)):=fun k hk=>by rw[YAB]at lA;obtain⟨r,e,_,x⟩:=hA k (zs[k]'(by omega)) (YAH (by omega));exact⟨r,Zgu (by rw[YAH (by omega),e]),x⟩
  have hS8:=Ze3 hS7 s8;have e8:=s8 _ _ e7 rfl;have eB8:=s8 _ _ eB rfl;clear hS7 e7 eB hB hA s7 tt7 nB nA lB lA;refine Zaj ?_;walk_at "rd";refine⟨b,ns,12,rfl,hS8,by decide,by decide,fun r12'=>?_⟩;obtain⟨u,eu,u3⟩:∃u:Nat,r12'/2 % 3=(u:Int)/\u<3:=⟨(r12'/2 % 3).toNat,by omega,by omega⟩;refine⟨_,_,rfl,rfl,⟨by decide,by decide⟩,_,_,rfl,rfl,by show (0:Int)<3;decide,Zaj ?_⟩;walk_at "rd";rw[eu];obtain⟨w,ew,w3⟩:∃w:Nat,((u:Int)+1) % 3=(w:Int)/\w<3:=⟨(u+1) % 3,by omega,by omega⟩;rw[ew];refine⟨sz 2 (by decide),NewT.of fun t1 Ha sa _ ea=>⟨sz 2 (by decide),NewT.of fun t2 Hb sb _ eb=>⟨sz 2 (by decide),NewT.of fun t3 Hc sc _ ec=>⟨by decide,sz 2 (by decide),NewT.of fun t4 Hd sd _ ed=>⟨sz 2 (by decide),NewT.of fun t5 He se _ ee=>⟨sz 5 (by decide),NewL.of fun pp H9 s9 _ e9=>⟨pp,rfl,⟨_,.mk e9⟩,?_⟩⟩⟩⟩⟩⟩⟩;have pr:∀(i:Nat) (x:V),([.ref t1,.ref t2,.ref t3,.ref t4,.ref t5]:List V)[i]?=some x->∃(t:AD) (k j:Nat),x=.ref t/\k<3/\j<3/\H9 t=some (.tup [.int (k:Int),.int (j:Int)]):=fun i x hx=>by
   rcases i with _ | _ | _ | _ | _ | i
   .cases hx;exact⟨t1,0,1,rfl,by decide,by decide,s9 _ _ (se _ _ (sd _ _ (sc _ _ (sb _ _ ea))))⟩
   .cases hx;exact⟨t2,1,2,rfl,by decide,by decide,s9 _ _ (se _ _ (sd _ _ (sc _ _ eb)))⟩
   .cases hx;exact⟨t3,2,0,rfl,by decide,by decide,s9 _ _ (se _ _ (sd _ _ ec))⟩
   .cases hx;exact⟨t4,w,u,rfl,w3,u3,s9 _ _ (se _ _ ed)⟩
   .cases hx;exact⟨t5,u,u,rfl,u3,u3,s9 _ _ ee⟩
   .cases hx
  have s89:Same H8 H9:=sa.trans (sb.trans (sc.trans (sd.trans (se.trans s9))));have tt9:=tt8.same s89;have e89:=s89 _ _ e8;have eA9:=s89 _ _ eA;have eB9:=s89 _ _ eB8;have hS9:=s89.seq hS8;have hA9:∀k:Nat,k<3->∃r,atI zs (k:Int)=some (.ref r)/\H9 r=some (.lst ((Zan (L.getD k []) m).map tx)):=fun k hk=>let ⟨r,x,y⟩:=hA8 k hk;⟨r,x,s89 _ _ y⟩;have hB9:∀k:Nat,k<3->∃p,atI bs (k:Int)=some (.ref p)/\BandA a H9 p (L.getD k []) m:=fun k hk=>let ⟨r,x,y⟩:=hB8 k hk;⟨r,x,y.l s89.l⟩;clear sa sb sc sd se s9 ea eb ec ed ee s8 tt8 eA eB8 e8 hA8 hB8 hS8 s89 ew w3;refine ForRun.list (xs:=[.ref t1,.ref t2,.ref t3,.ref t4,.ref t5]) (fun i U H'=>∃v6 v7 v8,U=[some (.ref b),some (tx m),some (.ref pt),some (.ref B),some (.ref A),some (.int u),v6,v7,v8,none,none,none,none,none]/\SameL H9 H'/\TT a H') ⟨_,_,_,rfl,SameL.refl _,tt9⟩ (fun i U H' _ ⟨_,_,_,_,s',_⟩=>.mk (s' _ _ e9 rfl)) ?_ ?_
  .rintro i x U H' hx ⟨v6,v7,v8,rfl,s',t'⟩;obtain⟨t,k,j,rfl,k3,j3,et⟩:=pr i x hx;obtain⟨p1,ep1,b1⟩:=hB9 k k3;obtain⟨p2,ep2,b2⟩:=hB9 j j3;obtain⟨r1,er1,c1⟩:=hA9 k k3;obtain⟨r2,er2,c2⟩:=hA9 j j3;refine⟨t,_,rfl,.mk (s' _ _ et rfl),rfl,?_⟩;walk_at "rd";refine⟨_,_,rfl,_,_,rfl,rfl,Zaj ?_⟩;walk_at "rd";refine⟨pt,_,_,_,rfl,rfl,.mk (s' _ _ e89 rfl),atL k k3,pt,_,_,_,rfl,rfl,.mk (s' _ _ e89 rfl),atL j j3,.inl ⟨rfl,?_⟩⟩;rw[YAI YAC,ZcJ];refine Zaj ?_;walk_at "rd";refine⟨B,_,_,_,rfl,rfl,.mk (s' _ _ eB9 rfl),ep1,B,_,_,_,rfl,rfl,.mk (s' _ _ eB9 rfl),ep2,A,_,_,_,rfl,rfl,.mk (s' _ _ eA9 rfl),er1,A,_,_,_,rfl,rfl,.mk (s' _ _ eA9 rfl),er2,p1,p2,r1,r2,_,_,m,_,rfl,b1.l s',b2.l s',okL k k3,okL j j3,s' _ _ c1 rfl,s' _ _ c2 rfl,rfl,t',fun H2 s2 t2=>?_⟩;exact⟨true,rfl,iteF ⟨_,_,_,rfl,s'.trans s2,t2⟩⟩
  rintro U H10 ⟨v6,v7,v8,rfl,s10,tt10⟩;walk_at "rd?";refine Zaj ?_;have eAx:=s10 _ _ eA9 rfl;have hAx:∀k:Nat,k<3->∃r,atI zs (k:Int)=some (.ref r)/\H10 r=some (.lst ((Zan (L.getD k []) m).map tx)):=fun k hk=>let ⟨r,x,y⟩:=hA9 k hk;⟨r,x,s10 _ _ y rfl⟩;have hBx:∀k:Nat,k<3->∃p,atI bs (k:Int)=some (.ref p)/\BandA a H10 p (L.getD k []) m:=fun k hk=>let ⟨r,x,y⟩:=hB9 k hk;⟨r,x,y.l s10⟩;have eBx:=s10 _ _ eB9 rfl;have hSx:=Ze3 hS9 s10;clear hA9 hB9 hS9 eA9 eB9 e89 s10 tt9 e9 pr;walk_at "rd";refine⟨3,rfl,by decide,by decide,CompRun.invR (by decide) (fun acc i ys H'=>Same H10 H'/\H' acc=some (.lst ys)/\∀(k:Nat) (y:V),ys[k]?=some y->∃t ds,y=.ref t/\IsDiff (Zan (L.getD k []) m) (Zan (L.getD ((k+1) % 3) []) m) ds/\H' t=some (.tup [.int (frT (WS ds:Nat) (DD:Nat)),.int (frB (WS ds:Nat) (DD:Nat))])) (fun acc na=>⟨Zav na,Zag,fun k y h=>by simp at h⟩) ?_ ?_⟩
  .rintro acc i ys H' Q' na hi hl ⟨sl,ea,hb⟩ q';rw[show (0+(i:Int))=((i:Nat):Int) by omega];obtain⟨r1,er1,c1⟩:=hAx i hi;obtain⟨r2,er2,c2⟩:=hAx ((i+1) % 3) (by omega);have o1:=lsOk (okL i hi);have o2:=lsOk (okL ((i+1) % 3) (by omega));walk_at "rd";rw[show ((i:Int)+1) % 3=(((i+1) % 3:Nat):Int) by omega];refine⟨A,_,_,_,rfl,rfl,.mk (sl _ _ eAx),er1,by decide,A,_,_,_,rfl,rfl,.mk (sl _ _ eAx),er2,r1,r2,_,_,rfl,sl _ _ c1,sl _ _ c2,o1,o2,fun r ds H2 s2 n2 e2 df dl=>⟨r,ds,rfl,e2,dl,fun w hw=>Zc1 df o1 o2 hw,fun t H3 s3 e3=>q' _ H3 (s3 _ _ (s2 _ _ ea)) ⟨same_upd3 (sl.trans (s2.trans s3)) na,Zag,fun k y hk=>?_⟩⟩⟩;have nt:∀(t':AD) us,H3 t'=some (.tup us)->upd H3 acc (.lst (ys++[V.ref t])) t'=some (.tup us):=fun t' us h=>by rw[Zai (fun z=>by rw[z,s3 _ _ (s2 _ _ ea)]at h;cases h)];exact h
   rcases Zlj hk with z | ⟨z1,z2⟩
   .obtain⟨t',ds',x1,x2,x3⟩:=hb k y z;exact⟨t',ds',x1,x2,nt _ _ (s3 _ _ (s2 _ _ x3))⟩
   .rw[z1,hl];exact⟨t,ds,z2,df,nt _ _ e3⟩
  rintro N ds H11 nN lN ⟨s11,eN,hN⟩;have tt11:=tt10.same s11;have eA11:=s11 _ _ eAx;have hA11:∀k:Nat,k<3->∃r,atI zs (k:Int)=some (.ref r)/\H11 r=some (.lst ((Zan (L.getD k []) m).map tx)):=fun k hk=>let ⟨r,x,y⟩:=hAx k hk;⟨r,x,s11 _ _ y⟩;have hB11:∀k:Nat,k<3->∃p,atI bs (k:Int)=some (.ref p)/\BandA a H11 p (L.getD k []) m:=fun k hk=>let ⟨r,x,y⟩:=hBx k hk;⟨r,x,y.l s11.l⟩;have eB11:=s11 _ _ eBx;have hS11:=s11.seq hSx;have hN11:∀k:Nat,k<3->∃t es,atI ds (k:Int)=some (.ref t)/\IsDiff (Zan (L.getD k []) m) (Zan (L.getD ((k+1) % 3) []) m) es/\H11 t=some (.tup [.int (frT (WS es:Nat) (DD:Nat)),.int (frB (WS es:Nat) (DD:Nat))]):=fun k hk=>by obtain⟨t,es,e,x⟩:=hN k (ds[k]'(by omega)) (YAH (by omega));exact⟨t,es,Zgu (by rw[YAH (by omega),e]),x⟩
  clear eAx hAx hBx eBx hSx s11 tt10 hN;refine Zaj ?_;walk_at "rd";refine⟨3,rfl,by decide,by decide,ForRun.range (fun i U H'=>∃v6,U=[some (.ref b),some (tx m),some (.ref pt),some (.ref B),some (.ref A),some (.int u),v6,v7,v8,some (.ref N),none,none,none,none]/\H'=H11) ⟨_,rfl,rfl⟩ ?_ ?_⟩
  .rintro i U H' hi ⟨v6,rfl,rfl⟩;have hi:i<3:=hi;rw[show (0+(i:Int))=((i:Nat):Int) by omega];obtain⟨t1,es1,x1,d1,y1⟩:=hN11 i hi;obtain⟨t2,es2,x2,d2,y2⟩:=hN11 ((i+1) % 3) (by omega);obtain⟨t3,es3,x3,d3,y3⟩:=hN11 ((i+2) % 3) (by omega);rw[show ((i+1) % 3+1) % 3=(i+2) % 3 by omega]at d2;rw[show ((i+2) % 3+1) % 3=i by omega]at d3;have bd:∀ {k j:Nat} {es:Q22},k<3->j<3->IsDiff (Zan (L.getD k []) m) (Zan (L.getD j []) m) es->WS es<=400*DD:=fun hk hj df=>YAK (Zms fun w hw=>Zc1 df (lsOk (okL _ hk)) (lsOk (okL _ hj)) hw) (YDX _ (Zce df (lsOk (okL _ hk)) (lsOk (okL _ hj))));walk_at "rd";refine Zaj ?_;walk_at "rd";rw[show ((i:Int)+1) % 3=(((i+1) % 3:Nat):Int) by omega,show ((i:Int)+2) % 3=(((i+2) % 3:Nat):Int) by omega];refine⟨N,_,_,_,rfl,rfl,.mk eN,x1,by decide,N,_,_,_,rfl,rfl,.mk eN,x2,by decide,N,_,_,_,rfl,rfl,.mk eN,x3,t1,t2,t3,_,_,_,rfl,y1,y2,y3,tri d1 d2 d3,bd hi (by omega) d1,bd (by omega) (by omega) d2,bd (by omega) hi d3,⟨true,rfl,iteF ⟨_,rfl,rfl⟩⟩⟩
  rintro U H' ⟨v6,rfl,rfl⟩;walk_at "rd?";refine Zaj ?_;clear hN11;walk_at "rd";obtain⟨p1,ep1,b1⟩:=hB11 0 (by decide);obtain⟨p2,ep2,b2⟩:=hB11 1 (by decide);obtain⟨r1,er1,c1⟩:=hA11 0 (by decide);obtain⟨r2,er2,c2⟩:=hA11 1 (by decide);have k1:=okL 0 (by decide);have k2:=okL 1 (by decide);refine⟨B,_,0,_,rfl,rfl,.mk eB11,ep1,B,_,1,_,rfl,rfl,.mk eB11,ep2,p1,p2,_,m,_,m,rfl,b1,b2,tt11,.inl ⟨rfl,k1,k2,fun r ws ds1 H12 s12 t12 n12 e12 da12 df12 bw12=>?_⟩⟩;show Zcf _ _ _ _;refine Zaj ?_;have s13:SameL H' (upd H12 r (.lst [])):=fun b o e t=>by rw[Zai (n12.ne e t)];exact s12 _ _ e t
  have t13:TT a (upd H12 r (.lst [])):=t12.upd e12 rfl rfl;walk_at "rd";refine⟨.inl ⟨rfl,_,.mk e12⟩,r,_,rfl,rfl,e12,?_⟩;generalize upd H12 r (.lst [])=H13 at s13 t13;refine Zaj ?_;walk_at "rd";refine⟨B,_,0,_,rfl,rfl,.mk (s13 _ _ eB11 rfl),ep1,B,_,1,_,rfl,rfl,.mk (s13 _ _ eB11 rfl),ep2,p1,p2,_,m,_,m,rfl,b1.l s13,b2.l s13,t13,.inl ⟨rfl,k1,k2,fun rx wx dx H14 s14 t14 n14 e14 da14 df14 bw14=>?_⟩⟩;have s1:=s13.trans s14;refine⟨A,_,0,_,rfl,rfl,.mk (s1 _ _ eA11 rfl),er1,A,_,1,_,rfl,rfl,.mk (s1 _ _ eA11 rfl),er2,r1,r2,_,_,rfl,s1 _ _ c1 rfl,s1 _ _ c2 rfl,lsOk k1,lsOk k2,t14,fun ry wy dy H15 s15 t15 n15 e15 da15 df15 bw15=>?_⟩;have ed:dy=dx:=Zba bw15 bw14 fun w=>by rw[df15.mem,df14.mem]
  subst ed;have e145:=s15 _ _ e14 rfl;have da':Zjq H15 wx dy (Zan (L.getD 0 []) m):=⟨da14.1,fun i y hy=>let ⟨w,t,k1,k2,k3⟩:=da14.2 i y hy;⟨w,t,k1,k2,s15 _ _ k3 rfl⟩⟩;refine .inr ⟨_,_,Zda (.mk e145) da',Zda (.mk e15) da15,fun z=>YAC z.1,Zhg _ _,?_⟩;rw[YAM rfl,Zhf];refine⟨false,rfl,iteF (Zaj ?_)⟩;have s2:=s1.trans s15;have eBf:=s2 _ _ eB11 rfl;have b1f:=b1.l s2;have b2f:=b2.l s2;have hSf:=Ze3 hS11 s2;clear s12 t12 n12 e12 da12 df12 bw12 s13 t13 s14 t14 n14 e14 da14 df14 bw14 s15 n15 e15 da15 df15 bw15 s1 s2 e145 da' eA11 eB11 hS11 b1 b2 c1 c2 hA11 hB11 tt11 er1 er2;walk_at "rd";refine⟨_,rfl,CompRun.text (fun i=>!decide (([97,122,98,121,99]:Q11).getD i 0∈m)) (fun i=>tx [([97,122,98,121,99]:Q11).getD i 0]) (by decide) ?_ ?_ ?_⟩
  .intro i H1 Q1 hi s1 q1;walk_at "rd";exact⟨_,m,rfl,rfl,q1 H1 (Same.refl _)⟩
  .intro i H1 Q1 hi _ s1 q1;walk_at "rd";exact q1 H1 (Same.refl _)
  intro ps H16 s16 n16 l16;rw[Zi5 (0:Nat) (fun c=>!decide (c∈m)) (fun c=>tx [c]) [97,122,98,121,99]]at l16;have sne:=Ze5 m4;obtain⟨S,eS⟩:∃S,S=([97,122,98,121,99]:Q11).filter (fun c=>!decide (c∈m)):=⟨_,rfl⟩;rw[<-eS]at l16 sne;have Sm:∀x∈S,x∈LET/\x∉m:=fun x hx=>by
   rw[eS]at hx;obtain⟨a,b⟩:=YAr.mp hx;refine⟨?_,by simpa using b⟩;have:∀y∈([97,122,98,121,99]:Q11),y∈LET:=by decide
   exact this x a
  have S1:1<=S.length:=YBK.mpr sne;show Zcf _ _ _ _;refine Zaj ?_;walk_at "rd";refine⟨_,_,rfl,Zbg (by omega),⟨by decide,by decide⟩,_,rfl,m,rfl,sz _ (by omega),b,ns,12,rfl,s16.seq hSf,by decide,by decide,fun rc=>⟨_,_,rfl,.inl ⟨_,.mk l16,rfl⟩,?_⟩⟩;rw[YAB];obtain⟨v,hv,vm⟩:=ZfV (xs:=S.map fun c=>tx [c]) (i:=rc % ((S.length:Nat):Int)) (YBJ _ (by omega)) (by rw[YAB];exact YAz _ (by omega));obtain⟨x,xS,rfl⟩:=YAg.mp vm;obtain⟨xL,xm⟩:=Sm x xS;have kok:KOk m:=⟨mk,m1,m4⟩;have nd:m.Nodup:=(Zob mk).2.2.imp fun h=>YAf h;obtain⟨j,ej⟩:∃j:Nat,j=m.length/4:=⟨_,rfl⟩;have cj:cut m (some ((m.length:Int)/4)) none=m.drop j:=by rw[show ((m.length:Int)/4)=((j:Nat):Int) by omega,ZcL]
  rw[cj];have f4:(m.drop j++[x]).length<=4:=by rw[YAF,YAj,YAs];omega
  have f1:1<=(m.drop j++[x]).length:=by rw[YAF,YAs];omega
  have fnd:(m.drop j++[x]).Nodup:=by rw[YBx];refine⟨nd.sublist (List.drop_sublist _ _),by simp,fun a ha b hb e=>?_⟩;rw[YAL.mp hb]at e;exact xm (e▸YAe ha)
  have fle:∀y∈m.drop j++[x],y∈LET:=fun y hy=>by
   rcases YAW.mp hy with z | z
   .exact kok.let y (YAe z)
   .rw[YAL.mp z];exact xL
  obtain⟨kF,nF⟩:=ZhL fnd fle f1 f4 (by simp) xm;refine⟨_,_,rfl,rfl,by show (0:Int)<_;omega,ps,_,_,_,rfl,rfl,.mk l16,hv,_,_,rfl,rfl,sz _ (by rw[YAF]at f4;omega),?_⟩;refine Zaj ?_;walk_at "rd";refine⟨rfl,_,rfl,by omega,NewL.of fun pl H17 s17 n17 l17=>⟨[],pl,_,rfl,rfl,l17,by rw[Zib,YCg,Nat.mul_zero];omega,fun pr dr npr ndr ner=>?_⟩⟩;rw[Zg5];generalize (Za3 (signs (m.drop j++[x]))).flatten=mF at kF nF;refine⟨pr,dr,[],mF,rfl,Zag,⟨kF.k,kF.m1,kF.m4,by decide,fun y hy=>by cases hy⟩,fun H18 r18 k18=>⟨rfl,?_⟩⟩;have s18:Same H17 H18:=fun b o e=>k18 b o (by rw[Zai (Zak e npr),Zai (Zak e ndr)];exact e) (Zak e npr);have s:=s16.trans (s17.trans s18);refine Zaj ?_;walk_at "rd";refine⟨B,_,0,_,rfl,rfl,.mk (s _ _ eBf),ep1,p1,pr,_,m,[],mF,rfl,b1f.l s.l,.inl r18,t15.same s,YBM nF,fun H19 s19=>?_⟩;have s2:=s.trans s19;walk_at "rd?";refine iteT' ⟨B,_,1,_,rfl,rfl,.mk (s2 _ _ eBf),ep2,pr,p2,[],mF,_,m,rfl,.inl (r18.same s19),b2f.l s2.l,t15.same s2,nF,fun H20 s20=>?_⟩;exact q H20
end
end Pk82
structure PySem.W.Fast:Prop where(tw10016013115288315768 tw10050534656260562026 tw10095259216644617791 tw10132538134940038766 tw10139815517806778455 tw10160139813074202089 tw10191908439938176091 tw10238098989951235043 tw10276207378805579394 tw10287569985094887772 tw10342792795356436262 tw10355685918835590422 tw10432152047471204743 tw10434893132499274967 tw10484145530544735112 tw10502228461976101731 tw10598685180541384095 tw10641175559421554461 tw10666976252017460165 tw10678503565084780355 tw10724693162762409092 tw10731786997675081685 tw10753468699651802063 tw10813964469251441032 tw10861265540335602664 tw10891212252045082142 tw10894595004156863705 tw10917666335828633800 tw10944738306140194438 tw1097105705329572634 tw11032028856154942862 tw11053160685646925824 tw11083331335945574441 tw11104386640145629137 tw11141101200246251107 tw11160408795426745972 tw11163963885086162007 tw11165859810130042437 tw11199158944776234266 tw11210547140666161260 tw11239762876318893551 tw11254579625107436 tw11256128496811051144 tw11264393714081850562 tw11271135577383364581 tw11277505637390863250 tw11315112182781382633 tw11316652148735387790 tw11320839792358194348 tw11341070671587407574 tw11374346990097501674 tw11391277095917591439 tw11450828038575926591 tw11504844036308889163 tw11545084223094549324 tw11570979071225236655 tw11575477917651641879 tw11582476503328011492 tw11609528009888468003 tw11609906741449329835 tw11611022103270355605 tw11635103682959261673 tw11660444809082936925 tw11674979501038794927 tw11746720950725366282 tw11756582761310677834 tw11794020575533476405 tw11804253666969157113 tw11812589236240827811 tw11827968280298716239 tw11828224914514052027 tw11875081912068609023 tw12003610322695509405 tw12009977127110395853 tw12050441884347393594 tw12052860427902613754 tw12101113092767801345 tw12150561796385901782 tw12222028763617255247 tw12229524945833125614 tw12282909132186448172 tw1229655774417928274 tw12300086504456746882 tw12319921393279152992 tw12391779779933580769 tw12419394916439066315 tw12429568744090993013 tw12469624633221487497 tw12472868967418152994 tw12475676177064534174 tw12479689305028036627 tw1252121823782292231 tw12548592857012066050 tw12623564059628018201 tw12627901960424337786 tw12738662666336887849 tw12776245998978618708 tw12795472977491603164 tw12864901292464717678 tw12872318808928014598 tw12874949491529652482 tw12955856530459870179 tw13033474166485143119 tw13040613301294207282 tw1312227223692922814 tw1314045299251790184 tw13153252835667088328 tw13162805108944011700 tw13197664565374277314 tw133030879609700921 tw13307964636150090609 tw13346481261612803235 tw13369441603017302936 tw13400746129308784799 tw1342182242142001370 tw1342889258785749252 tw1348566313970260807 tw13492763117160130823 tw13521161757205289554 tw13556218593278030575 tw13616894850083951007 tw13751056758087191933 tw13785396233660310318 tw13833900693024325098 tw13843680597996761658 tw13908309206959123316 tw13915939099079847015 tw13930189351207214267 tw13936966755806269090 tw13939024550635875154 tw13947090997546579310 tw14005419076020561513 tw14014920963835995281 tw14028913255395028198 tw14076792499060214657 tw14166261121643268470 tw14208580280173398794 tw14229264044804883539 tw14252813333046399930 tw14258859477251017668 tw14261487686578120074 tw14322660778376472143 tw14372498269501323625 tw14480898345918328622 tw14506830850089355433 tw14524175142507966748 tw14541008048255071755 tw14583036675669053125 tw14589628787933651590 tw14613554025387733413 tw14669717183607656255 tw14704306916197245691 tw14710064781311975234 tw14743610194254967594 tw14747756556128016264 tw14799657167189809628 tw14807223849790010755 tw14831072854185463486 tw14842586004730002252 tw1486204916709400896 tw14889046310886614718 tw14904553690004959185 tw149855283209638975 tw15019005004518334214 tw15052392159434782506 tw15069881201534464111 tw15093717430902151319 tw15107769915084227427 tw15110846238188528353 tw15120813541729422478 tw15140861102964140841 tw15169260727173052001 tw15222639431573253499 tw15225439586880657142 tw15228570347910893849 tw15256162194566860155 tw15290890986073327503 tw15328142138838787421 tw15392204208021085591 tw15393027380290034923 tw15409957547716704424 tw15456079030690533614 tw15530318941033471746 tw15618532762644698654 tw15630911187576137096 tw15659495127958990160 tw15787085837466846166 tw15788919176260907272 tw15801419107538338481 tw15821894978460963959 tw15855050277129853524 tw1586824670101453395 tw15914976804817952231 tw1595543363953403250 tw16000058603789405851 tw16018167978292304178 tw16033090731779146760 tw16041712451464572259 tw16110972039836052308 tw16154946141377812215 tw16159143000610341568 tw16203370978529569885 tw16218242319437160419 tw16236515200491809573 tw16249568500860438464 tw16273595588424719792 tw16281286776203220567 tw16289021974951558231 tw16300748706567165068 tw16383377470236722653 tw16384292523223228406 tw1639189254997823602 tw16392647140947194479 tw16401998009664937283 tw16425156481941138558 tw16431861760073874214 tw16479496577126056417 tw16519067030807975686 tw16531579729302555332 tw16636097499437366019 tw16739633394213893870 tw16836771028690941082 tw16840486774849188789 tw16858122356025960731 tw16858486301601182968 tw16875265335723538066 tw16909093626312148106 tw16911865921466892199 tw169323651556722365 tw16974986476334303135 tw1701847384203739252 tw17064489841256984989 tw17084156913401729791 tw17101994819217471059 tw17113254473807550803 tw17135276150908382509 tw1714485906956755430 tw1717789769403929371 tw17207987885895077037 tw17209967131038824088 tw1723509435975823130 tw17252352585788510971 tw17292121486069187886 tw17303088849777036840 tw17303314226770524043 tw1730562221243620671 tw17338100388994991773 tw17349404124194121291 tw17350196304498576413 tw17360091235351132394 tw17367339547767084068 tw17426575161920728384 tw17445315803953207085 tw17508500390288693976 tw17588283629805565976 tw17639172091492145801 tw17666947880556946263 tw17706422598955934652 tw17738834753486303570 tw17747640775981261670 tw17775418806771683382 tw17824847314177208096 tw1798620504488116660 tw17992954331572206704 tw1800757837998484990 tw18057159628221507536 tw18085254558431818249 tw18100165817602415238 tw18138324724007006598 tw18173330895018868545 tw18203227433856075177 tw18275171551871008652 tw1832198709126911257 tw18348918019979629720 tw18349646398953815641 tw1893141106755043049 tw1918391167393307293 tw1958729245278430423 tw2084468559075480260 tw2090223293054015821 tw2122054293245386232 tw2175370520779285693 tw2180240667305528566 tw222910363950631929 tw2281575132084585384 tw2289815157686044409 tw2302868783368631738 tw2320935485956526076 tw235659764497618241 tw2365925883923242520 tw2368650583960401685 tw2452896018167578683 tw2492091770390800207 tw2663601212524643390 tw2676149036139342204 tw28133213506237937 tw2865528944031656111 tw2870600136817063479 tw2909493452597447210 tw2976406725204405548 tw3004266278453855889 tw3039451751577627010 tw3055250002986060587 tw3155247063260436550 tw3205236122174183504 tw321715315192766492 tw3275167448278899408 tw3287007504580487301 tw329035308524756723 tw3303922250411316480 tw3388950808644460237 tw3393980490956316554 tw3463005218069666614 tw3466263413700112828 tw3513118094623182181 tw3601998248626770864 tw3612368674050483663 tw368619249395102014 tw3740375824496707943 tw3741100185829875597 tw3804945462528972859 tw3818403790841856514 tw3824238540375860546 tw3827791733768089550 tw3844230673231899375 tw384871303211035312 tw3864922786151001493 tw3896516320771031883 tw3936644040182436389 tw3965356911061137792 tw3972163651680470931 tw4049631805692397786 tw4065775239653491260 tw408259592445270391 tw4084663512712245364 tw4085874154260779273 tw4179134407473090411 tw4298193896697574839 tw4300110910532798341 tw4325043949435174829 tw4328880344279539118 tw4334016838334960730 tw4338570651291383735 tw4416052313279951207 tw442869716250643787 tw4440852248485696164 tw4468992140169987160 tw4469691396648217145 tw4630181505211448828 tw4643606930473056217 tw4663598015375812742 tw4725586790811625654 tw4806483369490219513 tw4855450364815827116 tw4873748376613860941 tw4884860725321905660 tw4922425934804293768 tw4928103406750646081 tw4958036628226495690 tw5028725989518072264 tw5040168692771997022 tw5083543206576447444 tw5095634361598291556 tw5155433767278600634 tw5160354283370671655 tw5192884555941349866 tw5233658603511987748 tw5269470398448581260 tw5305898429628120590 tw5340661241191197417 tw537360893962619101 tw5398270241066756128 tw5401886550248218941 tw540274477365145734 tw5415281451421184494 tw5480585735201924663 tw5555401896711099522 tw5669112634954961219 tw5794631695225384942 tw5901365167941926319 tw5904597301627149089 tw5925582312344616615 tw598133489257997982 tw6031176841836922750 tw6039127647007197649 tw6080100114870730184 tw610279754715131452 tw6121647279223416448 tw6152473230411922489 tw61733968191752090 tw621132945952787424 tw6238312850937111260 tw6260079300155580932 tw6322566013224259658 tw6351083333007282281 tw6379276633492588021 tw6460012727277258528 tw6486514294504097721 tw6548511618402608691 tw6560889279927731732 tw656686984516894775 tw6569073172633764231 tw6616513196613226185 tw6630195312795912644 tw6726057703375000226 tw6795042627865039993 tw6825401574650838182 tw6842744504802892649 tw6886799140248983291 tw6933715404807707126 tw6947336937107360021 tw6961971048513296698 tw6965141919502037078 tw697625806087293594 tw698957529499259386 tw7030952906209026912 tw7042137032094791011 tw7050486792288961348 tw7114475601913920631 tw7115395600992144624 tw7115972244019914081 tw7213329756125858899 tw7309773081115139505 tw7317006880806529089 tw7324512852632531261 tw7331095542927435561 tw7370809120171754304 tw7464722134022616610 tw7471156246735766292 tw7491150869192928633 tw7525405056773891390 tw7539791974260038673 tw7560005501540691919 tw7566840627219525086 tw765010715045120409 tw769705337179632163 tw770339118381480194 tw7711898072312285874 tw772958707254694303 tw773263415251746454 tw7740855172378391081 tw7789328786516074677 tw7818192595517924617 tw7834128869437504932 tw7848084887722665749 tw7883176454431952667 tw7895960365769139154 tw7936368664131304678 tw7952956361198358739 tw7957206894349175808 tw8069442922483154247 tw8110627466277889534 tw8273651896503429024 tw8283873759201423869 tw8308366477878016131 tw8352278415813834014 tw8352850349483720952 tw8414617937427076172 tw8414739433550214612 tw8430734125278904216 tw8522024970725789655 tw8589189324560838140 tw8613366100286573146 tw8654714952707400555 tw8655609602007383448 tw8663216200817233191 tw8675135855847092453 tw8713058252595132329 tw8739396430928470350 tw8790547329160540943 tw8824081741991941876 tw8898649448257717041 tw8945957807024139376 tw8992165467323263538 tw8995213787445924039 tw9019776745287821199 tw9050717861536854646 tw9104292039549500430 tw9123563677234785642 tw9152301365499374755 tw9163643298126598382 tw9175808226776635916 tw918486715261653430 tw9189341300479998882 tw9262427789614681991 tw9291345209078078294 tw9313828265942325050 tw9340613675797236445 tw9345199415864575944 tw9446898532947422031 tw9466354231470783604 tw9541971335642932719 tw9552730577390283076 tw9560289955066204252 tw9577714027813643213 tw9615784510315943171 tw9638538664210236591 tw9641121562051399600 tw9662842949628873570 tw9692134908127544053 tw9711629755488545754 tw9815137082534798 tw9838093238681675935:True)
open PySem PySem.W PyProof.Rows
set_option maxRecDepth 100000 in
set_option maxHeartbeats 0 in
theorem PySem.Challenge.cw_lackword_k82_whole_distances_holds : PySem.Challenge.rw_lackword_k82_whole_distances.Holds := by
 w_on;o_law;k_head;(case hw=>w_witness2)
 k_fill
 refine L2.walk_ofT (l:=PySem.Challenge.rw_lackword_k82_whole_distances) (n:=63) (k:=8) (x:="_law_script") (CX:=L2.CX0) (sp:=Pk82.spLaw) ["in_order","_law_missing","_law_rows"] rfl (by decide) rfl ⟨rfl,by decide,by decide⟩ (fun w h Y=>PySem.W.km_in_of Y) (fun _=>by kernel_rfl) (by kernel_rfl) ?F ?S ?C
 case F=>
  intro w mg fa h tb KX G hmg hT;have T:∃t,Pk82.Txt (L2.KOf KX) mg t/\t.t_K2=(tb "in_order").2/\t.k_K2=(tb "in_order").1/\t.t_K7=(tb "_law_missing").2/\t.k_K7=(tb "_law_missing").1/\t.t_LP=(tb "_law_rows").2/\t.k_LP=(tb "_law_rows").1:=by
   dsimp only[L2.KOf];apply Pk82.txt_mk (t_K2:=(tb "in_order").2) (k_K2:=(tb "in_order").1) (t_K7:=(tb "_law_missing").2) (k_K7:=(tb "_law_missing").1) (t_LP:=(tb "_law_rows").2) (k_LP:=(tb "_law_rows").1) KX G
   (apply L2.xg_mk;(iterate 2 k_is);rfl;(iterate 10 k_is);rfl;rfl)
   iterate 4 k_is
   (apply L2.xg_mk;(iterate 2 k_is);rfl;(iterate 10 k_is);rfl;rfl)
   iterate 60 k_is
   iterate 14 (apply L2.mg_mk;iterate 4 k_is)
   decide;iterate 38 (apply L2.dg_mk;iterate 4 k_is)
   iterate 17 k_is
  obtain⟨t,T,et_K2,ek_K2,et_K7,ek_K7,et_LP,ek_LP⟩:=T;have e0:=hmg.symm.trans T.m_law;cases e0;have cd_K2:t.d_K2.code=.ref t.k_K2:=by obtain⟨o,e1,e2⟩:=T.f_K2.at KX;rw[ek_K2];exact(hT "in_order" (by simp)).codeEq T.m_K2 e1 e2
  have cd_K7:t.d_K7.code=.ref t.k_K7:=by obtain⟨o,e1,e2⟩:=T.f_K7.at KX;rw[ek_K7];exact(hT "_law_missing" (by simp)).codeEq T.m_K7 e1 e2
  have cd_LP:t.d_LP.code=.ref t.k_LP:=by obtain⟨o,e1,e2⟩:=T.f_LP.at KX;rw[ek_LP];exact(hT "_law_rows" (by simp)).codeEq T.m_LP e1 e2
  refine' ⟨_,?b,fun base kb nb hL=>Pk82.ok_law (tb:=tb) { T with L_in_order:=by rw[et_K2,ek_K2];exact hL "in_order" (by simp),cd_K2:=cd_K2,e_K2:=et_K2,L_missing:=by rw[et_K7,ek_K7];exact hL "_law_missing" (by simp),cd_K7:=cd_K7,e_K7:=et_K7,L_lrows:=by rw[et_LP,ek_LP];exact hL "_law_rows" (by simp),cd_LP:=cd_LP,e_LP:=et_LP }⟩;exact T.bl
 case S=>exact fun K tb H a ns hl hP hS=>⟨a,ns,rfl,hS,hl,L2.tbl_new (hP "in_order" (by simp)),L2.tbl_new (hP "_law_missing" (by simp)),L2.tbl_new (hP "_law_rows" (by simp)),fun _=>rfl⟩
 case C=>exact fun _ _ _ _ z=>z
#print axioms PySem.Challenge.cw_lackword_k82_whole_distances_holds
