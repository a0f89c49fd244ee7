import PyProof.Rows.All
import Wide.All
import OpenK.AllK
import Wide.FinOn
import Lean
import PyProof.EqAt
import PyProof.EqKinds
import PyProof.TupleCall
import PyProof.SetRoads
import PyProof.Rows.SetFrom
import PyProof.StrWalks
import PyProof.FactsAll.set
import PyProof.FactsAll.subtypes_3
import PyProof.CollectWalk
import PyProof.CollectStr
import PyProof.StationsW
import PyProof.RulesAs
import KE.KTryMore
import PyProof.NsDelKeeps
import PyProof.ListStr
import PyProof.TupleOfStr
import PyProof.ConsumeS
import KE.KEqDict
import PyProof.DictWalks
import PyProof.DictUpdate
import KE.KLam
import PyProof.Rows.SortRev
import KE.KListMore
import PyProof.DictDisplay
import PyProof.ListRange
import PyProof.Rows.StrNews2
import PyProof.Rows.Range3
import KE.KDictLaws
import KE.KDictList
import PyProof.DictRoadsH
import KE.KDictSum
import PyProof.DictItems
import PyProof.DictItemsLoops
import KE.KPairComp
import KE.KRevIter
import PySem.Challenge.RW_lackword_k84_whole_shelf_ranked
open PySem.W(instObj methodObj lookIn plainGet hasDictIn findIn handedIn plainGet_of isFn plainOver takerIn makesIn typeIn emptyDict looks_findIn keepIn specialIn takesIn mroIn kitOne kitx_list kitx_tuple kitx_dict callWith_K methodCall_KW cellsFrom_some fnOf codeIn notCls findObj clsIn readsIn findCls kla_fn nsIn)
set_option autoImplicit true
set_option compiler.extract_closed false
set_option bootstrap.genMatcherCode false
set_option genSizeOf false
noncomputable section
set_option relaxedAutoImplicit true
abbrev AB:=List (PySem.Addr×PySem.Obj)
abbrev AC:=PySem.Str->Option PySem.Value
abbrev AD:=List PySem.Value
abbrev AE:=PySem.Addr
abbrev AF:=PySem.Shared
abbrev AG:=PySem.FuncData
abbrev AH:=PySem.Program
abbrev AI:=PySem.Around
abbrev AJ:=PySem.World
abbrev AK:=List PySem.Str
abbrev Q11:=List Nat
abbrev Q22:=List (List Nat)
abbrev Q33:=PySem.Value->PySem.Shared->Prop
abbrev Q4:=PySem.W.Frag
set_option Elab.async false
set_option linter.all false
def YAA:=@PySem.wpAny_bind
def YAB:=@List.length_map
def YAC:=@Bool.false_ne_true
def YAD:=@PySem.wpAny_pure
def YAE:=@PySem.Heap.get?_push_of_some
def YAF:=@Array.length_toList
def YAG:=@List.length_append
def YAH:=@List.mem_cons
def YAI:=@List.mem_singleton
def YAJ:=@if_neg
def YAK:=@Nat.le_trans
def YAL:=@List.getElem?_eq_getElem
def YAM:=@if_pos
def YAN:=@PySem.Heap.lt_size
def YAO:=@List.size_toArray
def YAP:=@Nat.le_refl
def YAQ:=@List.getElem?_map
def YAR:=@List.mem_append
def YAS:=@PyProof.Rows.wpS_bind
def YAT:=@List.getD_eq_getElem?_getD
def YAU:=@List.getElem?_eq_some_iff
def YAV:=@List.mem_cons_of_mem
def YAW:=@List.length_take
def YAX:=@Bool.and_eq_true
def YAY:=@PySem.Heap.get?_push_size
def YAZ:=@List.mem_of_mem_take
def YAa:=@List.mem_map
def YAb:=@List.map_append
def YAc:=@PyProof.Rows.wpS_pure
def YAd:=@List.mem_cons_self
def YAe:=@Nat.ne_of_lt
def YAf:=@List.length_cons
def YAg:=@List.mem_of_mem_drop
def YAh:=@List.mem_of_getElem?
def YAi:=@List.map_cons
def YAj:=@List.append_assoc
def YAk:=@Ne.symm
def YAl:=@List.map_map
def YAm:=@List.length_filter_le
def YAn:=@PySem.Heap.SameBut.update
def YAo:=@PySem.PassesOwn.never
def YAp:=@List.length_drop
def YAq:=@List.pairwise_append
def YAr:=@Array.getElem?_toList
def YAs:=@Nat.lt_of_lt_of_le
def YAt:=@Nat.zero_le
def YAu:=@List.take_append_drop
def YAv:=@List.take_of_length_le
def YAw:=@List.mem_range
def YAx:=@List.mem_map_of_mem
def YAy:=@List.mem_filter
def YAz:=@List.not_mem_nil
def YBA:=@List.getElem?_append_right
def YBB:=@List.pairwise_cons
def YBC:=@List.getElem?_append_left
def YBD:=@List.mem_append_right
def YBE:=@Nat.lt_irrefl
def YBF:=@List.length_singleton
def YBG:=@PySem.wpAny_setState_of
def YBH:=@PySem.W.mg_none_of
def YBI:=@Option.map_eq_some_iff
def YBJ:=@List.length_dropLast
def YBK:=@Array.toList_extract
def YBL:=@List.take_length
def YBM:=@List.length_range
def YBN:=@PySem.wpAny_holding
def YBO:=@PySem.F.plainAttrs_list
def YBP:=@Int.emod_lt_of_pos
def YBQ:=@Array.toList_append
def YBR:=@PySem.W.kia_one
def YBS:=@List.pairwise_map
def YBT:=@List.nodup_cons
def YBU:=@Bool.eq_iff_iff
def YBV:=@List.length_pos_iff
def YBW:=@List.all_eq_true
def YBX:=@Int.emod_nonneg
def YBY:=@Nat.mul_assoc
def YBZ:=@PySem.wpAny_mono
def YBa:=@PyProof.Rows.wpS_forRange
def YBb:=@List.getElem?_eq_none
def YBc:=@Bool.eq_false_iff
def YBd:=@Array.toList_push
def YBe:=@List.mem_append_left
def YBf:=@Nat.lt_of_le_of_lt
def YBg:=@Nat.min_eq_left
def YBh:=@List.drop_zero
def YBi:=@Bool.false_and
def YBj:=@Nat.succ_le_succ
def YBk:=@List.mem_reverse
def YBl:=@List.take_add_one
def YBm:=@PySem.Heap.size_push
def YBn:=@Bool.and_false
def YBo:=@List.range_succ
def YBp:=@List.filter_append
def YBq:=@PySem.wpAny_askSetting
def YBr:=@List.drop_eq_nil_of_le
def YBs:=@PySem.wpAny_rule
def YBt:=@PySem.wpAny_newObj_type
def YBu:=@PySem.mem_of_lookup
def YBv:=@List.nodup_append
def YBw:=@List.getElem_of_mem
def YBx:=@List.map_take
def YBy:=@List.foldl_cons
def YBz:=@PySem.Heap.get?_update_self
def YCA:=@PySem.F.type_list_append
def YCB:=@PySem.F.slot_list_append
def YCC:=@List.lookup_cons
def YCD:=@List.getLast?_eq_some_getLast
def YCE:=@List.getElem_mem
def YCF:=@List.drop_append_of_le_length
def YCG:=@List.any_eq_true
def YCH:=@PySem.Around.under_plainId
def YCI:=@List.drop_drop
def YCJ:=@Int.toNat_natCast
def YCK:=@List.map_congr_left
def YCL:=@PyProof.Rows.wpS_mono
def YCM:=@List.length_eraseIdx_of_lt
def YCN:=@Array.perm_iff_toList_perm
def YCO:=@List.ext_getElem
def YCP:=@List.cons_append
def YCQ:=@PySem.wpAny_Call_Name_kw
def YCR:=@Nat.pow_succ
def YCS:=@PySem.wpAny_setField
def YCT:=@Array.toArray_toList
def YCU:=@PyProof.Rows.wpS_modify
def YCV:=@PySem.wpAny_truthy_bool
def YCW:=@Nat.lt_succ_of_lt
def YCX:=@List.take_sublist
def YCY:=@PySem.W.mg_of
def YCZ:=@List.length_eq_zero_iff
def YCa:=@Bool.true_and
def YCb:=@Bool.not_true
def YCc:=@PySem.wpAny_call_entry
def YCd:=@List.take_take
def YCe:=@PySem.Heap.get?_update_other
def YCf:=@List.map_singleton
def YCg:=@List.getElem?_take
def YCh:=@List.getElem?_drop
def YCi:=@List.dropLast_concat_getLast
def YCj:=@Bool.false_eq_true
def YCk:=@PySem.wpAny_passesOwn
def YCl:=@PyProof.Rows.callWith_type1
def YCm:=@Nat.mul_comm
def YCn:=@Nat.le_succ
def YCo:=@Nat.le_of_eq
def YCp:=@List.append_nil
def YCq:=@Int.natCast_mul
def YCr:=@PySem.wpAny_storeSet_of
def YCs:=@List.ext_getElem?
def YCt:=@PySem.Heap.SameBut.refl
def YCu:=@List.exists_cons_of_ne_nil
def YCv:=@Array.toList_setIfInBounds
def YCw:=@List.dropLast_concat
def YCx:=@Array.toList_reverse
def YCy:=@List.pairwise_iff_getElem
def YCz:=@List.drop_eq_getElem_cons
def YDA:=@Option.bind_some
def YDB:=@Option.isSome_iff_exists
def YDC:=@Nat.le_of_lt
def YDD:=@PySem.wpAny_newList
def YDE:=@PySem.wpAny_attempt
def YDF:=@Option.map_some
def YDG:=@List.map_drop
def YDH:=@List.length_nil
def YDI:=@List.find?_cons
def YDJ:=@List.filter_map
def YDK:=@Int.mul_assoc
def YDL:=@PySem.Calls.spliced_cons
def YDM:=@PySem.wpAny_setEpoch_of
def YDN:=@List.reverse_perm
def YDO:=@List.flatten_cons
def YDP:=@Nat.mul_le_mul
def YDQ:=@Nat.sub_self
def YDR:=@List.dropLast_eq_take
def YDS:=@List.Perm.append_left
def YDT:=@Int.mul_le_mul_of_nonneg_right
def YDU:=@PySem.wpAny_isInstance
def YDV:=@PySem.W.any_some
def YDW:=@List.mem_flatMap
def YDX:=@List.eq_nil_of_length_eq_zero
def YDY:=@Array.toList_map
def YDZ:=@Nat.mul_le_mul_right
def YDa:=@List.mem_erase_of_ne
set_option maxRecDepth 100000
namespace L2
open PySem PySem.Spec PyProof.Rows
abbrev Key:=Sum Int Str
noncomputable def ZcY:Key->Value->Bool
 | .inl k,v=>Value.isInt k v
 | .inr x,v=>Value.isStrOf x v
noncomputable def keyH (w:AJ):Key->Int
 | .inl k=>hashInt k
 | .inr x=>hashStr w x
theorem Za5:∀ {k:Key} {v:Value},ZcY k v=true->(∃i t,k=Sum.inl i/\v=Value.int i t)\/(∃x t,k=Sum.inr x/\v=Value.str x t)
 | .inl i,v,h=>by
  obtain⟨t,e⟩:=Value.isInt_shape (k:=i) (v:=v) h;exact .inl ⟨i,t,rfl,e⟩
 | .inr x,v,h=>by obtain⟨t,e⟩:=Value.isStrOf_shape (x:=x) (v:=v) h;exact .inr ⟨x,t,rfl,e⟩
theorem Zjp (i:Int)(t:Tok):ZcY (.inl i) (.int i t)=true:=by simp[ZcY,Value.isInt]
theorem Zjo (x:Str)(t:Tok):ZcY (.inr x) (.str x t)=true:=by simp[ZcY,Value.isStrOf]
theorem ZoH (a b:Int):decide ((Sum.inl a:Key)=Sum.inl b)=(a == b):=by
 by_cases e:a=b
 .subst e;simp
 .have h:¬(Sum.inl a:Key)=Sum.inl b:=λq=>e (Sum.inl.inj q);rw[decide_eq_false h];exact(beq_eq_false_iff_ne.mpr e).symm
theorem ZoE (a b:Str):decide ((Sum.inr a:Key)=Sum.inr b)=decide (a=b):=by
 by_cases e:a=b
 .subst e;simp
 .have h:¬(Sum.inr a:Key)=Sum.inr b:=λq=>e (Sum.inr.inj q);rw[decide_eq_false h,decide_eq_false e]
theorem ZoG (a:Int)(b:Str):decide ((Sum.inl a:Key)=Sum.inr b)=false:=decide_eq_false (λq=>nomatch q)
theorem ZoF (a:Str)(b:Int):decide ((Sum.inr a:Key)=Sum.inl b)=false:=decide_eq_false (λq=>nomatch q)
def ZaB (prog:AH)(w:AJ):PySem.KeyKind prog w Key where
 is:=ZcY
 hash:=keyH w
 inj:=λv a b ha hb=>by
  rcases Za5 ha with⟨i,t,rfl,rfl⟩|⟨x,t,rfl,rfl⟩
  .rcases Za5 hb with⟨j,u,rfl,e⟩|⟨y,u,rfl,e⟩
   .injection e with e1 _;rw[e1]
   .exact nomatch e
  .rcases Za5 hb with⟨j,u,rfl,e⟩|⟨y,u,rfl,e⟩
   .exact nomatch e
   .injection e with e1 _;rw[e1]
 byValue:=λk v h=>by rcases Za5 h with⟨i,t,rfl,rfl⟩|⟨x,t,rfl,rfl⟩<;>rfl
 pyHash:=λhv h=>by
  rcases Za5 hv with⟨i,t,rfl,rfl⟩|⟨x,t,rfl,rfl⟩
  .exact wpAny_pyHash_int h
  .exact wpAny_pyHash_str h
 eqBool:=λhu hv h=>by
  rcases Za5 hu with⟨i,t,rfl,rfl⟩|⟨x,t,rfl,rfl⟩
  .rcases Za5 hv with⟨j,u,rfl,rfl⟩|⟨y,u,rfl,rfl⟩
   .rw[ZoH]at h;exact wpAny_eqBool_int h
   .rw[ZoG]at h;exact SeqAt.EqAt.int_str i t y u _ _ _ _ h
  .rcases Za5 hv with⟨j,u,rfl,rfl⟩|⟨y,u,rfl,rfl⟩
   .rw[ZoF]at h;exact SeqAt.EqAt.str_int x t j u _ _ _ _ h
   .rw[ZoE]at h;exact wpAny_eqBool_str h
 «strs»:=λk x t v h=>by
  rcases Za5 h with⟨i,u,rfl,e⟩|⟨y,u,rfl,e⟩
  .exact nomatch e
  .injection e with e1 _;subst e1;cases v<;>rfl
theorem ZgG (prog:AH)(w:AJ)(i:Int)(t:Tok):(ZaB prog w).is (.inl i) (.int i t)=true:=Zjp i t
theorem ZcK (prog:AH)(w:AJ)(x:Str)(t:Tok):(ZaB prog w).is (.inr x) (.str x t)=true:=Zjo x t
inductive V where
 | non | bl (b:Bool) | int (i:Int) | str (x:Str) | byt (b:Array UInt8) | flt (b:UInt64) | ref (a:AE) | ty (n:String)
 deriving DecidableEq
set_option genInjectivity false
def RelV:V->Value->Prop
 | .non,u=>u=Value.none
 | .bl b,u=>u=Value.bool b
 | .int i,u=>∃t,u=Value.int i t
 | .str x,u=>∃t,u=Value.str x t
 | .byt b,u=>∃t,u=Value.bytes b t
 | .flt b,u=>∃t,u=Value.float b t
 | .ref a,u=>u=Value.ref a
 | .ty n,u=>u=Value.type n
abbrev Vals:List V->AD->Prop:=Paired RelV
theorem Vals.length (r:Vals xs us):xs.length=us.length:=Paired.length r
theorem Vals.get:∀ {xs:List V} {us:AD} {i:Nat} {x:V},Vals xs us->xs[i]?=some x->∃u,us[i]?=some u/\RelV x u
 | _,_,_,_,.nil,e=>by simp at e
 | _,_,0,_,.cons r _,e=>by simp at e;subst e;exact⟨_,rfl,r⟩
 | _,_,i+1,x,.cons _ t,e=>by obtain⟨u,h1,h2⟩:=Vals.get (i:=i) (x:=x) t (by simpa using e);exact⟨u,by simpa using h1,h2⟩
theorem Vals.append:∀ {xs ys:List V} {us ws:AD},Vals xs us->Vals ys ws->Vals (xs++ys) (us++ws)
 | _,_,_,_,.nil,s=>s
 | _,_,_,_,.cons r t,s=>.cons r (Vals.append t s)
theorem Vals.take:∀ {xs:List V} {us:AD} (n:Nat),Vals xs us->Vals (xs.take n) (us.take n)
 | _,_,0,_=>.nil
 | _,_,_+1,.nil=>.nil
 | _,_,n+1,.cons r t=>.cons r (Vals.take n t)
theorem Vals.drop:∀ {xs:List V} {us:AD} (n:Nat),Vals xs us->Vals (xs.drop n) (us.drop n)
 | _,_,0,r=>r
 | _,_,_+1,.nil=>.nil
 | _,_,n+1,.cons _ t=>Vals.drop n t
def RelO:Option V->Option Value->Prop
 | some v,some u=>RelV v u
 | none,none=>True
 | _,_=>False
def KV {κ:Type}:List (κ×V)->List (κ×Value)->Prop:=Paired λ(p:κ×V) (q:κ×Value)=>p.1=q.1/\RelV p.2 q.2
noncomputable def kV:Key->V
 | .inl i=>.int i
 | .inr x=>.str x
inductive HO where
 | lst (xs:List V)
 | tup (xs:List V)
 | dK (kvs:List (Key×V)) | dT (kvs:List (List Key×V))
 | set (S:Int->Bool) (n:Nat)
 | ins (C dx:AE) (fs:List (Str×V))
 | own (x:AE)
 | xd (fs:List (Str×V))
 | met (f x:AE)
 | rng (lo hi:Int)
 | frz (o:Obj) (u:HO)
 | tbl (ps:Array Value)
 | ext (φ:Heap->Prop)
abbrev Hp:=Addr->Option HO
noncomputable def upd (H:Hp)(a:AE)(o:HO):Hp:=λb=>if b=a then some o else H b
theorem Zae:upd H a o a=some o:=by unfold upd;rw[YAM rfl]
theorem Zah (h:b≠a):upd H a o b=H b:=by unfold upd;rw[YAJ h]
theorem ZqP {H:Hp}{a b:AE}{o u:HO}(h:H a=some o)(h':H b=some u)(d:o≠u):a≠b:=by intro e;subst e;rw[h]at h';exact d (Option.some.inj h')
theorem Zai {H:Hp}{a b:AE}{o:HO}(h:H a=some o)(h':H b=none):a≠b:=by intro e;subst e;rw[h]at h';cases h'
section
variable (P:AH)(w:AJ)
def ObjOk (H:Hp)(h:Heap)(a:AE):HO->Prop
 | .lst xs=>xs.length<=sizeLine/\∃(its:AD) (n:Nat),Vals xs its/\h.get? a=some { cls:=.type "list",data:=.seq its.toArray n }
 | .tup xs=>xs.length<=sizeLine/\∃its:AD,Vals xs its/\IsTup h a its.toArray
 | .dK kvs=>kvs.length<=sizeLine/\(a == sysModules)=false/\∃vs,KV kvs vs/\h.DictOf (ZaB P w) a vs
 | .dT kvs=>kvs.length<=sizeLine/\(a == sysModules)=false/\∃xs:List (List Key×AE×Value),
   Paired (λ(p:List Key×V) (q:List Key×AE×Value)=>p.1=q.1/\H q.2.1=some (.tup (p.1.map kV))/\RelV p.2 q.2.2) kvs xs /\
   ∃o es ep,h.get? a=some o/\o.ExactDict/\o.data=.dict es ep/\es.toList=xs.map (entryOfKey (tupleKind (ZaB P w)))/\(xs.map (·.1)).Nodup
 | .set S n=>h.SetOf (intKind P w) a S n
 | .ins C dx fs=>H dx=some (.own a)/\fs.length<=1000/\dx≠a/\h.get? a=some (instObj C dx) /\
   ∃mA,h.Ns1 dx mA/\(∀f,RelO (fs.lookup f) (mA f))/\PySem.Within mA (fs.map (·.1))
 | .own _=>∃o,h.get? a=some o
 | .xd fs=>∃mA,h.Ns1 a mA/\∀f,RelO (fs.lookup f) (mA f)
 | .rng lo hi=>∃t u v,h.get? a=some { cls:=.type "range",data:=.fields #[.int lo t,.int hi u,.int 1 v] }
 | .frz o u=>h.get? a=some o/\ObjOk H h a u
 | .tbl ps=>h.get? a=some { cls:=.none,data:=.fields ps }
 | .met f x=>h.get? a=some (methodObj (.ref f) (.ref x))
 | .ext φ=>φ h/\(∃o,h.get? a=some o)/\∀h1 h2:Heap,φ h1->(∀o,h1.get? a=some o->h2.get? a=some o)->φ h2
def HOk (H:Hp)(h:Heap):Prop:=∀a o,H a=some o->ObjOk P w H h a o
end
section
theorem ObjOk.lt (x:ObjOk P w H h a o):a<h.objs.size:=by
 cases o with
 | lst xs=>obtain⟨_,_,_,_,e⟩:=x;exact YAN e
 | tup xs=>obtain⟨_,_,_,p⟩:=x;exact p.lt
 | dK kvs=>obtain⟨_,_,_,_,o,_,_,e,_⟩:=x;exact YAN e
 | dT kvs=>obtain⟨_,_,_,_,o,_,_,e,_⟩:=x;exact YAN e
 | set S n=>obtain⟨o,_,_,_,e,_⟩:=x;exact YAN e
 | ins C dx fs=>obtain⟨_,_,_,e,_⟩:=x;exact YAN e
 | own y=>obtain⟨_,e⟩:=x;exact YAN e
 | xd fs=>obtain⟨_,⟨_,_,_,e,_⟩,_⟩:=x;exact YAN e
 | rng lo hi=>obtain⟨_,_,_,e⟩:=x;exact YAN e
 | frz ob u=>obtain⟨e,_⟩:=x;exact YAN e
 | tbl ps=>exact YAN (show h.get? a=some _ from x)
 | met f y=>exact YAN (show h.get? a=some _ from x)
 | ext φ=>obtain⟨_,⟨_,e⟩,_⟩:=x;exact YAN e
theorem Paired.mapP {α β:Type}{F G:α->β->Prop}:∀ {l9:List α} {l_2:List β},Paired F l9 l_2->(∀a b,F a b->G a b)->Paired G l9 l_2
 | _,_,.nil,_=>.nil
 | _,_,.cons r t,f=>.cons (f _ _ r) (Paired.mapP t f)
theorem ObjOk.stay (x:ObjOk P w H h a o)(k:∀b u,(b=a\/H b=some (.own a))->h.get? b=some u->h'.get? b=some u)
  (ho:∀b,H b=some (.own a)->H' b=some (.own a)) (ht:∀b xs,H b=some (.tup xs)->H' b=some (.tup xs)):ObjOk P w H' h' a o:=by
 induction o with
 | lst xs=>obtain⟨z,its,n,r,e⟩:=x;exact⟨z,its,n,r,k _ _ (.inl rfl) e⟩
 | tup xs=>obtain⟨z,its,r,ob,e,c⟩:=x;exact⟨z,its,r,ob,k _ _ (.inl rfl) e,c⟩
 | dK kvs=>obtain⟨z,y,vs,r,ob,es,ep,e,c⟩:=x;exact⟨z,y,vs,r,ob,es,ep,k _ _ (.inl rfl) e,c⟩
 | dT kvs=>
  obtain⟨z,y,xs,r,ob,es,ep,e,c⟩:=x;exact⟨z,y,xs,Paired.mapP r λp q z=>⟨z.1,ht _ _ z.2.1,z.2.2⟩,ob,es,ep,k _ _ (.inl rfl) e,c⟩
 | set S n=>obtain⟨ob,es,ep,t,e,c⟩:=x;exact⟨ob,es,ep,t,k _ _ (.inl rfl) e,c⟩
 | ins C dx fs=>
  obtain⟨d,z,ne,e,mA,⟨od,es,ep,e2,c⟩,r⟩:=x;exact⟨ho _ d,z,ne,k _ _ (.inl rfl) e,mA,⟨od,es,ep,k _ _ (.inr d) e2,c⟩,r⟩
 | own y=>obtain⟨ob,e⟩:=x;exact⟨ob,k _ _ (.inl rfl) e⟩
 | xd fs=>obtain⟨mA,⟨od,es,ep,e,c⟩,r⟩:=x;exact⟨mA,⟨od,es,ep,k _ _ (.inl rfl) e,c⟩,r⟩
 | rng lo hi=>obtain⟨t,u,v,e⟩:=x;exact⟨t,u,v,k _ _ (.inl rfl) e⟩
 | frz ob u ih=>obtain⟨e,q⟩:=x;exact⟨k _ _ (.inl rfl) e,ih q⟩
 | tbl ps=>
  have e:h.get? a=some { cls:=.none,data:=.fields ps }:=x;show h'.get? a=some { cls:=.none,data:=.fields ps };exact k a _ (.inl rfl) e
 | met f y=>
  have e:h.get? a=some (methodObj (.ref f) (.ref y)):=x;show h'.get? a=some (methodObj (.ref f) (.ref y));exact k a _ (.inl rfl) e
 | ext φ=>obtain⟨p,⟨o,e⟩,st⟩:=x;exact⟨st _ _ p λo q=>k _ _ (.inl rfl) q,⟨o,k _ _ (.inl rfl) e⟩,st⟩
theorem HOk.lt (x:HOk P w H h)(e:H a=some o):a<h.objs.size:=(x a o e).lt
theorem HOk.fresh (x:HOk P w H h)(e:h.objs.size<=a):H a=none:=by
 cases q:H a with
 | none=>rfl
 | some u=>exact absurd (YAs (x.lt q) e) (YBE _)
theorem HOk.kept (x:HOk P w H h)(k:∀b u,h.get? b=some u->h'.get? b=some u):HOk P w H h':=λa o e=>
 (x a o e).stay (λb u _ q=>k b u q) (λ_ q=>q) λ_ _ q=>q
theorem HOk.laid (x:HOk P w H h)(k:∀b u,h.get? b=some u->h'.get? b=some u)(hp:h.objs.size<=a)(new:ObjOk P w (upd H a o) h' a o):HOk P w (upd H a o) h':=λb u e=>by
 have hn:=x.fresh hp;by_cases hb:b=a
 .subst hb;rw[Zae]at e;cases e;exact new
 .rw[Zah hb]at e;exact(x b u e).stay (λc v _ q=>k c v q) (λc q=>by rw[Zah (Zai q hn)];exact q) λc xs q=>by rw[Zah (Zai q hn)];exact q
end
def Rd (H:Hp)(a:AE)(u:HO):Prop:=H a=some u\/∃o,H a=some (.frz o u)
theorem Rd.ok (r:Rd H a u)(x:HOk P w H h):ObjOk P w H h a u:=by
 rcases r with r | ⟨o,r⟩
 .exact x a u r
 .obtain⟨_,q⟩:=x a _ r;exact q
def Mut:Option HO->Prop
 | some (.lst _)=>True
 | some (.dK _)=>True
 | some (.dT _)=>True
 | some (.set _ _)=>True
 | some (.ins _ _ _)=>True
 | some (.ext _)=>True
 | _=>False
section
theorem HOk.write (ok:HOk P w H h)(mu:Mut (H x))(he:e=x\/H e=some (.own x))(k:∀b u,b≠e->h.get? b=some u->h'.get? b=some u)(heo:∃u,h'.get? e=some u)
  (new:ObjOk P w (upd H x o') h' x o'):HOk P w (upd H x o') h':=λb u q=>by
 have nown:∀c y,H c=some (.own y)->c≠x:=λc y r z=>by subst z;rw[r]at mu;exact mu
 have ntup:∀c xs,H c=some (.tup xs)->c≠x:=λc xs r z=>by subst z;rw[r]at mu;exact mu
 by_cases hb:b=x
 .subst hb;rw[Zae]at q;cases q;exact new
 .rw[Zah hb]at q;by_cases hbe:b=e
  .have q':H b=some (.own x):=by
    rcases he with z | z
    .exact absurd (hbe.trans z) hb
    .rw[hbe];exact z
   rw[q]at q';cases q';obtain⟨v,hv⟩:=heo;exact⟨v,by rw[hbe];exact hv⟩
  .refine(ok b u q).stay (λc v hc r=>k c v ?_ r) (λc r=>by rw[Zah (nown c b r)];exact r) λc xs r=>by rw[Zah (ntup c xs r)];exact r
   rcases hc with rfl | hc
   .exact hbe
   .rintro rfl;rcases he with z | z
    .exact nown c b hc z
    .rw[hc]at z;cases z;exact hb rfl
end
structure Un (fs ex:List AE)(H H':Hp)(h h':Heap):Prop where
 keep:∀b o,h.get? b=some o->H b=none->b∉fs->b∉ex->h'.get? b=some o
 slot:∀b o,h.get? b=some o->H b=none->b∈fs->b∉ex->∃sl,h'.get? b=some { o with slots:=sl }
 free:∀b o,h.get? b=some o->H b=none->b∉ex->H' b=none
 there:∀b o,h.get? b=some o->b∉ex->∃o',h'.get? b=some o'
 tups:∀b xs,H b=some (.tup xs)->H' b=some (.tup xs)
 frzs:∀b o u,H b=some (.frz o u)->H' b=some (.frz o u)
 tbls:∀b ps,H b=some (.tbl ps)->∃more,H' b=some (.tbl (ps++more))
section
theorem Un.any (u:Un fs ex H H1 h h1){b:AE}{ob:Obj}(q:h.get? b=some ob)(n:H b=none)(hx:b∉ex):∃sl,h1.get? b=some { ob with slots:=sl }:=by
 by_cases hb:b∈fs
 .exact u.slot b ob q n hb hx
 .exact⟨ob.slots,u.keep b ob q n hb hx⟩
theorem Un.trans (a:Un fs ex H H1 h h1)(b:Un fs ex H1 H2 h1 h2):Un fs ex H H2 h h2 where
 keep:=λc ob q n hc hx=>b.keep c ob (a.keep c ob q n hc hx) (a.free c ob q n hx) hc hx
 slot:=λc ob q n hc hx=>by obtain⟨sl,e1⟩:=a.slot c ob q n hc hx;obtain⟨sl',e2⟩:=b.slot c _ e1 (a.free c ob q n hx) hc hx;exact⟨sl',e2⟩
 free:=λc ob q n hx=>by obtain⟨o',e1⟩:=a.there c ob q hx;exact b.free c o' e1 (a.free c ob q n hx) hx
 there:=λc ob q hx=>by obtain⟨o',e1⟩:=a.there c ob q hx;exact b.there c o' e1 hx
 tups:=λc xs q=>b.tups c xs (a.tups c xs q)
 frzs:=λc ob xs q=>b.frzs c ob xs (a.frzs c ob xs q)
 tbls:=λc ps q=>by obtain⟨m1,e1⟩:=a.tbls c ps q;obtain⟨m2,e2⟩:=b.tbls c _ e1;exact⟨m1++m2,by rw[e2,Array.append_assoc]⟩
theorem Un.kept (k:∀b u,h.get? b=some u->h'.get? b=some u):Un fs ex H H h h':=
 ⟨λb ob q _ _ _=>k b ob q,λb ob q _ _ _=>⟨ob.slots,k b ob q⟩,λ_ _ _ n _=>n,λb ob q _=>⟨ob,k b ob q⟩,λ_ _ q=>q,λ_ _ _ q=>q,λ_ ps q=>⟨#[],by rw[q];simp⟩⟩
theorem Un.refl:Un fs ex H H h h:=Un.kept λ_ _ q=>q
theorem Un.laid (k:∀b u,h.get? b=some u->h'.get? b=some u)(hp:h.objs.size<=a)(hn:H a=none):Un fs ex H (upd H a o) h h' where
 keep:=λb u q _ _ _=>k b u q
 slot:=λb u q _ _ _=>⟨u.slots,k b u q⟩
 free:=λb u q n _=>by rw[Zah (YAe (YAs (YAN q) hp))];exact n
 there:=λb u q _=>⟨u,k b u q⟩
 tups:=λb xs q=>by rw[Zah (Zai q hn)];exact q
 frzs:=λb u xs q=>by rw[Zah (Zai q hn)];exact q
 tbls:=λb ps q=>⟨#[],by rw[Zah (Zai q hn),q];simp⟩
theorem Un.write (mu:Mut (H x))(he:e=x\/H e=some (.own x))(k:∀b u,b≠e->h.get? b=some u->h'.get? b=some u)(heo:∃u,h'.get? e=some u):Un fs ex H (upd H x o) h h':=by
 have hx:∀b,H b=none->b≠x:=λb n z=>by subst z;rw[n]at mu;exact mu
 have hb:∀b,H b=none->b≠e:=λb n z=>by
  subst z;rcases he with r | r
  .exact hx b n r
  .rw[n]at r;cases r
 have hm:∀b u,H b=some u->¬Mut (some u)->b≠x:=λb u q nm z=>by subst z;rw[q]at mu;exact nm mu
 refine⟨λb u q n _ _=>k b u (hb b n) q,λb u q n _ _=>⟨u.slots,k b u (hb b n) q⟩,λb u q n _=>by rw[Zah (hx b n)];exact n,λb u q _=>?_,
  λb xs q=>by rw[Zah (hm b _ q λz=>z)];exact q,λb u xs q=>by rw[Zah (hm b _ q λz=>z)];exact q,λb ps q=>⟨#[],by rw[Zah (hm b _ q λz=>z),q];simp⟩⟩
 by_cases hbe:b=e
 .subst hbe;exact heo
 .exact⟨u,k b u hbe q⟩
end
noncomputable def trk (h:Heap)(H:Hp):List AE:=(List.range h.objs.size).filter λa=>(H a).isSome
def hidT (h:Heap)(H:Hp):Heap:=PySem.W.hideAll h (trk h H)
theorem Zjw (h:Heap)(H:Hp):(hidT h H).objs.size=h.objs.size:=PySem.W.hideAll_size _ _
theorem ZkM (e:h.get? b=some o)(n:H b=none):(hidT h H).get? b=some o:=
 PySem.W.hideAll_get _ e λhm=>by have q:(H b).isSome=true:=(YAy.mp hm).2;rw[n]at q;simp at q
theorem Zmt (e:(hidT h H).get? b=some o):h.get? b=some o/\H b=none:=by
 have e':h.get? b=some o:=PySem.W.of_hideAll (trk h H) e;refine⟨e',?_⟩;cases q:H b with
 | none=>rfl
 | some x=>
  have hm:b∈trk h H:=YAy.mpr ⟨YAw.mpr (YAN e'),by simp[q]⟩;have z:(hidT h H).get? b=none:=PySem.W.hideAll_none (trk h H) hm;rw[z]at e;cases e
noncomputable def Zm5 (g h:Heap)(L:AE):AB:=(List.range h.objs.size).filterMap λa=>if a=L\/(g.get? a).isSome=true then none else (h.get? a).map λo=>(a,o)
def rest (g h:Heap)(L d:AE):AB:=(Zm5 g h L).filter λp=>decide (p.1≠d)
structure Mod (K:Q4)(mg:AC)(base:Heap):Prop where
 kin:K.In base
 glob:base.Ns mainGlobals mg
 blt:∃mb,base.Ns builtinsNs mb/\∀x:Str,x≠"__name__"->mb x=bootBuiltins x
 nolimit:base.NoLimit
structure Cx where
 prog:AH
 w:AJ
 K:Q4
 mg:AC
 base:Heap
 A:AI
 N:AK
 s_0:AF
 H_0:Hp
 env:Env
 outer:List Env
 stack:List Env
 ex:List AE
 fn:Str->Bool
 calm:Bool
 pn:AB
 xe:Q33
noncomputable def frs (l:List Env):List AE:=l.filterMap (·.frame)
abbrev Cx.fs (X:Cx):List AE:=frs X.outer
def Vis (sc:Scope)(x:Str):Prop:=sc.names.lookup x=some .local\/sc.names.lookup x=some .cell\/sc.names.lookup x=some .free
def Loc (sc:Scope)(x:Str):Prop:=sc.names.lookup x=some .local\/sc.names.lookup x=some .cell
def Look (env:Env)(h:Heap)(m:AC)(x:Str)(u:Value):Prop:=
 (env.kindOf x=some .local/\m x=some u)\/((env.kindOf x=some .cell\/env.kindOf x=some .free)/\∃c,env.cells.lookup x=some c/\h.IsCell c (some u))
structure Cx.Ok (X:Cx):Prop where
 mod:Mod X.K X.mg X.base
 kind:X.env.scope.kind=.function
 glob:X.env.globals=mainGlobals
 blt:X.env.builtins=builtinsNs
 above:X.s_0.heap.objs.size<=X.env.locals
 inj:∀x y c,X.env.cells.lookup x=some c->X.env.cells.lookup y=some c->x=y
 has:∀x,(X.env.kindOf x=some .cell\/X.env.kindOf x=some .free)->∃c,X.env.cells.lookup x=some c
 cab:∀x c,X.fn x=true->X.env.cells.lookup x=some c->X.s_0.heap.objs.size<=c
 hd:X.calm=true->X.A.handled=none
 frames:X.A.frames=some X.stack
 stk:X.stack=X.outer\/(X.stack=X.env::X.outer/\X.env.frame=some X.env.locals)
 exf:∀b∈X.ex,b≠X.env.locals/\∀x c,X.env.cells.lookup x=some c->c≠b
 bs:∀b o,X.base.get? b=some o->X.s_0.heap.get? b=some o/\X.H_0 b=none
 bsz:X.base.objs.size<=X.s_0.heap.objs.size
 noex:∀b o,X.base.get? b=some o->b∉X.ex
 exfs:∀b∈X.ex,b∉X.fs
 funs:X.s_0.heap.FunFrames X.base X.outer
 frf:∀b∈X.fs,X.H_0 b=none
structure Inv (X:Cx)(Ar:AB)(U:List (Option V))(H:Hp)(s:AF):Prop where
 ok:X.Ok
 os:s.os=X.s_0.os
 bare:AllBare s.gens
 base:Un X.fs X.ex X.H_0 H X.s_0.heap s.heap
 loc:∃m,s.heap.Ns X.env.locals m/\∀(i:Nat) (x:Str) (v:V),X.N[i]?=some x->U[i]?=some (some v)->Vis X.env.scope x->∃u,RelV v u/\Look X.env s.heap m x u
 cell:∀x c,X.env.cells.lookup x=some c->∃v,s.heap.IsCell c v
 free:H X.env.locals=none
 freeC:∀x c,X.env.cells.lookup x=some c->H c=none
 pin:∀p∈X.pn++Ar,s.heap.get? p.1=some p.2/\H p.1=none/\p.1≠X.env.locals/\p.1∉X.fs/\∀v,p.2.data≠.cell v
 hok:HOk X.prog X.w H s.heap
 len:U.length=X.N.length
section
variable {X:Cx}{Ar:AB}{U:List (Option V)}{H H':Hp}{s:AF}{h':Heap}
theorem Cx.Ok.nofr (ok:X.Ok){b:AE}{o:Obj}(e:X.base.get? b=some o):b∉X.fs:=λhb=>by have:=(ok.funs.mem hb).1;rw[e]at this;cases this
theorem Inv.bs (I:Inv X Ar U H s):∀b o,X.base.get? b=some o->s.heap.get? b=some o/\H b=none:=λb o e=>
 ⟨I.base.keep b o (I.ok.bs b o e).1 (I.ok.bs b o e).2 (I.ok.nofr e) (I.ok.noex b o e),I.base.free b o (I.ok.bs b o e).1 (I.ok.bs b o e).2 (I.ok.noex b o e)⟩
theorem Inv.bk (I:Inv X Ar U H s):∀b o,X.base.get? b=some o->s.heap.get? b=some o:=λb o e=>(I.bs b o e).1
theorem Inv.mod (I:Inv X Ar U H s):Mod X.K X.mg X.base:=I.ok.mod
theorem Inv.kIn (I:Inv X Ar U H s):X.K.In s.heap:=I.ok.mod.kin.keeps I.bk
theorem Inv.lt (I:Inv X Ar U H s):X.env.locals<s.heap.objs.size:=let ⟨_,hn,_⟩:=I.loc;hn.lt
theorem Inv.sz (I:Inv X Ar U H s):X.s_0.heap.objs.size<=s.heap.objs.size:=YAK I.ok.above (YDC I.lt)
theorem Inv.nofs (I:Inv X Ar U H s){a:AE}(h:s.heap.objs.size<=a):a∉X.fs:=λhb=>by obtain⟨_,o,ho,_⟩:=I.ok.funs.mem hb;exact absurd (YAs (YAN ho) (YAK I.sz h)) (YBE _)
theorem Inv.cne (I:Inv X Ar U H s):∀x c,X.env.cells.lookup x=some c->c≠X.env.locals:=λx c e z=>by obtain⟨v,o,ho,hd⟩:=I.cell x c e;obtain⟨m,⟨o',es,ep,ho',hd',_⟩,_⟩:=I.loc;rw[z,ho']at ho;cases ho;rw[hd']at hd;cases hd
theorem Inv.funs (I:Inv X Ar U H s):s.heap.FunFrames X.base X.outer:=by
 have all:∀(l:List Env),(∀b∈frs l,b∈X.fs)->X.s_0.heap.FunFrames X.base l->s.heap.FunFrames X.base l:=by
  intro l;induction l with
  | nil=>intro _ _;trivial
  | cons env r ih=>
   intro hs hl;obtain⟨hk,⟨L,o,hf,hn,ho,hd⟩,hr⟩:=hl;have hL:L∈X.fs:=hs L (by unfold frs;rw[List.filterMap_cons,hf];exact YAd);obtain⟨sl,e⟩:=I.base.slot L o ho (I.ok.frf L hL) hL λz=>I.ok.exfs L z hL;exact⟨hk,⟨L,_,hf,hn,e,hd⟩,ih (λb hb=>hs b (by unfold frs;rw[List.filterMap_cons,hf];exact YAV _ hb)) hr⟩
 exact all X.outer (λ_ hb=>hb) I.ok.funs
theorem Inv.stack (I:Inv X Ar U H s):s.heap.FunFrames X.base X.stack:=by
 rcases I.ok.stk with e | ⟨e,hf⟩
 .rw[e];exact I.funs
 .rw[e];obtain⟨m,hn,_⟩:=I.loc;refine .cons (by rw[I.ok.kind];decide) hf hn ?_ I.funs;exact Heap.get?_none_of_le (YAK I.ok.bsz I.ok.above)
theorem Inv.stkSub (I:Inv X Ar U H s):∀b∈frs X.stack,b∈X.env.locals::X.fs:=λb hb=>by
 rcases I.ok.stk with e | ⟨e,hf⟩
 .rw[e]at hb;exact YAV _ hb
 .rw[e]at hb;unfold frs at hb;rw[List.filterMap_cons,hf]at hb;exact hb
theorem Inv.stkFree (I:Inv X Ar U H s):∀b∈frs X.stack,H b=none:=λb hb=>by
 rcases YAH.mp (I.stkSub b hb) with e | hb
 .rw[e];exact I.free
 .obtain⟨_,o,ho,_⟩:=I.ok.funs.mem hb;exact I.base.free b o ho (I.ok.frf b hb) λz=>I.ok.exfs b z hb
theorem Inv.step {g':Array GenState}{t':Nat}{d':Drawn}{ch:List AE}(I:Inv X Ar U H s)
  (hch:∀b∈ch,(b∈X.ex\/X.s_0.heap.objs.size<=b)/\b≠X.env.locals/\(∀x c,X.env.cells.lookup x=some c->c≠b)/\∀p∈X.pn++Ar,p.1≠b)
  (keep:∀b o,b≠X.env.locals->b∉X.fs->b∉ch->s.heap.get? b=some o->H b=none->h'.get? b=some o)
  (slot:∀b o,b≠X.env.locals->b∈X.fs->b∉ch->s.heap.get? b=some o->H b=none->∃sl,h'.get? b=some { o with slots:=sl }) (free:∀b o,b∉ch->s.heap.get? b=some o->H b=none->H' b=none)
  (there:∀b o,b∉ch->s.heap.get? b=some o->∃o',h'.get? b=some o')
  (tups:∀b xs,H b=some (.tup xs)->H' b=some (.tup xs)) (frzs:∀b o u,H b=some (.frz o u)->H' b=some (.frz o u)) (tbls:∀b ps,H b=some (.tbl ps)->∃more,H' b=some (.tbl (ps++more)))
  (ns:∀m,s.heap.Ns X.env.locals m->h'.Ns X.env.locals m) (hok:HOk X.prog X.w H' h') (hg:AllBare g'):
  Inv X Ar U H' { s with heap:=h',gens:=g',drawn:=d',toks:=t' }:=by
 have neL:∀b o,X.s_0.heap.get? b=some o->b≠X.env.locals:=λb o e=>YAe (YAs (YAN e) I.ok.above);have neC:∀b o,X.s_0.heap.get? b=some o->b∉X.ex->b∉ch:=λb o e hx hb=>by
  rcases (hch b hb).1 with z | z
  .exact hx z
  .exact absurd (YAs (YAN e) z) (YBE _)
 have cellK:∀x c,X.env.cells.lookup x=some c->∀v,s.heap.IsCell c v->h'.IsCell c v:=λx c e v ⟨o,ho,hd⟩=>by
  have nch:c∉ch:=λz=>(hch c z).2.2.1 x c e rfl;by_cases hc:c∈X.fs
  .obtain⟨sl,q⟩:=slot c o (I.cne x c e) hc nch ho (I.freeC x c e);exact⟨_,q,hd⟩
  .exact⟨o,keep c o (I.cne x c e) hc nch ho (I.freeC x c e),hd⟩
 refine⟨I.ok,I.os,hg,⟨λb o e n hb hx=>?_,λb o e n hb hx=>?_,λb o e n hx=>?_,λb o e hx=>?_,λb xs e=>tups b xs (I.base.tups b xs e),λb o xs e=>frzs b o xs (I.base.frzs b o xs e),λb ps e=>?_⟩,?_,λx c e=>?_,?_,λx c e=>?_,λp hp=>?_,hok,I.len⟩
 .exact keep b o (neL b o e) hb (neC b o e hx) (I.base.keep b o e n hb hx) (I.base.free b o e n hx)
 .obtain⟨sl,e1⟩:=I.base.slot b o e n hb hx;obtain⟨sl',e2⟩:=slot b _ (neL b o e) hb (neC b o e hx) e1 (I.base.free b o e n hx);exact⟨sl',e2⟩
 .obtain⟨o',e1⟩:=I.base.there b o e hx;exact free b o' (neC b o e hx) e1 (I.base.free b o e n hx)
 .obtain⟨o',e1⟩:=I.base.there b o e hx;exact there b o' (neC b o e hx) e1
 .obtain⟨m1,e1⟩:=I.base.tbls b ps e;obtain⟨m2,e2⟩:=tbls b _ e1;exact⟨m1++m2,by rw[e2,Array.append_assoc]⟩
 .obtain⟨m,hn,hl⟩:=I.loc;refine⟨m,ns m hn,λi x v e1 e2 e3=>?_⟩;obtain⟨u,r,l⟩:=hl i x v e1 e2 e3;refine⟨u,r,?_⟩;rcases l with l | ⟨k,c,e,z⟩
  .exact .inl l
  .exact .inr ⟨k,c,e,cellK x c e _ z⟩
 .obtain⟨v,z⟩:=I.cell x c e;exact⟨v,cellK x c e v z⟩
 .obtain⟨m,⟨o,_,_,ho,_⟩,_⟩:=I.loc;exact free _ o (λz=>(hch _ z).2.1 rfl) ho I.free
 .obtain⟨v,o,ho,hd⟩:=I.cell x c e;exact free c o (λz=>(hch c z).2.2.1 x c e rfl) ho (I.freeC x c e)
 .obtain⟨e,n,ne,nf,d⟩:=I.pin p hp;have nch:p.1∉ch:=λz=>(hch p.1 z).2.2.2 p hp rfl;exact⟨keep p.1 p.2 ne nf nch e n,free p.1 p.2 nch e n,ne,nf,d⟩
theorem Inv.un (I:Inv X Ar U H s)(u:Un X.fs [] H H' s.heap h')(hok:HOk X.prog X.w H' h'):Inv X Ar U H' { s with heap:=h',toks:=t' }:=by
 obtain⟨m,⟨o,es,ep,ho,r⟩,_⟩:=id I.loc;obtain⟨sl,hL⟩:=u.any ho I.free (by simp);exact I.step (g':=s.gens) (d':=s.drawn) (ch:=[]) (λ_ z=>nomatch z) (λb o _ hb _ e n=>u.keep b o e n hb (by simp)) (λb o _ hb _ e n=>u.slot b o e n hb (by simp)) (λb o _ e n=>u.free b o e n (by simp)) (λb o _ e=>u.there b o e (by simp)) u.tups u.frzs u.tbls (λm' hm=>by obtain⟨o',es',ep',ho',r'⟩:=hm;rw[ho]at ho';cases ho';exact⟨_,es',ep',hL,r'⟩) hok I.bare
theorem Inv.call (I:Inv X Ar U H s)(u:Un (frs X.stack) ch H H' s.heap h')(hok:HOk X.prog X.w H' h')(hg:AllBare g')
  (hch:∀b∈ch,(b∈X.ex\/X.s_0.heap.objs.size<=b)/\b≠X.env.locals/\(∀x c,X.env.cells.lookup x=some c->c≠b)/\∀p∈X.pn++Ar,p.1≠b):
  Inv X Ar U H' { s with heap:=h',gens:=g',drawn:=d',toks:=t' }:=by
 obtain⟨m,⟨o,es,ep,ho,r⟩,_⟩:=id I.loc;obtain⟨sl,hL⟩:=u.any ho I.free λz=>(hch _ z).2.1 rfl;exact I.step (ch:=ch) hch (λb o hL hb hc e n=>u.keep b o e n (λz=>(YAH.mp (I.stkSub b z)).elim hL hb) hc) (λb o _ _ hc e n=>u.any e n hc) (λb o hc e n=>u.free b o e n hc) (λb o hc e=>u.there b o e hc) u.tups u.frzs u.tbls (λm' hm=>by obtain⟨o',es',ep',ho',r'⟩:=hm;rw[ho]at ho';cases ho';exact⟨_,es',ep',hL,r'⟩) hok hg
theorem Inv.turned (I:Inv X Ar U H s)(k:∀b o,b≠it->s.heap.get? b=some o->h'.get? b=some o)(hn:H it=none)(hL:it≠X.env.locals)
  (h1:it∈X.ex\/X.s_0.heap.objs.size<=it) (h2:∀x c,X.env.cells.lookup x=some c->c≠it) (h3:∀p∈X.pn++Ar,p.1≠it):Inv X Ar U H { s with heap:=h',toks:=t' }:=by
 have nit:∀b u,H b=some u->b≠it:=λb u e z=>by rw[z,hn]at e;cases e
 refine I.step (g':=s.gens) (d':=s.drawn) (ch:=[it]) (λb hb=>?_) (λb o _ _ hc e _=>k b o (λz=>hc (by simp[z])) e) (λb o _ _ hc e _=>⟨o.slots,k b o (λz=>hc (by simp[z])) e⟩) (λ_ _ _ _ n=>n)
  (λb o hc e=>⟨o,k b o (λz=>hc (by simp[z])) e⟩) (λ_ _ e=>e) (λ_ _ _ e=>e) (λb ps e=>⟨#[],by rw[e];simp⟩) (λm hm=>?_) (λb u e=>?_) I.bare
 .have e:b=it:=by simpa using hb
  subst e;exact⟨h1,hL,h2,h3⟩
 .obtain⟨o,es,ep,ho,r⟩:=hm;exact⟨o,es,ep,k _ o (YAk hL) ho,r⟩
 .refine(I.hok b u e).stay (λc v hc q=>k c v ?_ q) (λ_ q=>q) λ_ _ q=>q;rcases hc with z | z
  .rw[z];exact nit b u e
  .exact nit c _ z
theorem Inv.tok (I:Inv X Ar U H s)(t:Nat):Inv X Ar U H { s with toks:=t }:=I.un (h':=s.heap) (t':=t) Un.refl I.hok
theorem Inv.kept (I:Inv X Ar U H s)(k:∀b u,s.heap.get? b=some u->h'.get? b=some u):Inv X Ar U H { s with heap:=h',toks:=t' }:=I.un (Un.kept k) (I.hok.kept k)
theorem Inv.laid (I:Inv X Ar U H s)(k:∀b u,s.heap.get? b=some u->h'.get? b=some u)(hp:s.heap.objs.size<=a)(new:ObjOk X.prog X.w (upd H a o) h' a o):
  Inv X Ar U (upd H a o) { s with heap:=h',toks:=t' }:=I.un (Un.laid k hp (I.hok.fresh hp)) (I.hok.laid k hp new)
theorem Inv.write (I:Inv X Ar U H s)(mu:Mut (H x))(he:e=x\/H e=some (.own x))(k:∀b u,b≠e->s.heap.get? b=some u->h'.get? b=some u)(heo:∃u,h'.get? e=some u)
  (new:ObjOk X.prog X.w (upd H x o) h' x o):Inv X Ar U (upd H x o) { s with heap:=h',toks:=t' }:=I.un (Un.write mu he k heo) (I.hok.write mu he k heo new)
theorem Inv.pins_of (I:Inv X Ar U H s)(h:∀p∈pins',s.heap.get? p.1=some p.2/\H p.1=none/\p.1≠X.env.locals/\p.1∉X.fs/\∀v,p.2.data≠.cell v):Inv X pins' U H s:=
 ⟨I.ok,I.os,I.bare,I.base,I.loc,I.cell,I.free,I.freeC,λp hp=>(YAR.mp hp).elim (λz=>I.pin p (YBe _ z)) (h p),I.hok,I.len⟩
theorem Zhr {N:AK}(hN:N.Nodup){i j:Nat}{x:Str}(a:N[i]?=some x)(b:N[j]?=some x):i=j:=by obtain⟨h1,e1⟩:=YAU.mp a;obtain⟨h2,e2⟩:=YAU.mp b;exact(List.getElem_inj hN).mp (e1.trans e2.symm)
theorem Zft (I:Inv X Ar U H s)(hN:X.N.Nodup)(hi:X.N[i]?=some x)(hx:Loc X.env.scope x)(r:RelV v u)
  (h:∀s',Inv X Ar (U.set i (some v)) H s'->(∃a,Heap.SameBut a s.heap s'.heap/\(a=X.env.locals\/X.env.cells.lookup x=some a))->Q () s') (hf:X.fn x=true\/X.env.scope.names.lookup x=some .local:=by first | exact .inl rfl | exact .inr rfl | assumption):wpAny M A (storeName X.env x u) Q E s:=by
 obtain⟨m,hn,hl⟩:=id I.loc;have hcls:(X.env.scope.kind == .class || (X.env.scope.kind == .module&&X.env.locals != X.env.globals))=false:=by rw[I.ok.kind];rfl
 have hiU:i<U.length:=by rw[I.len];exact(YAU.mp hi).1
 have cne:=I.cne;have tracked:∀ {a:AE} {h':Heap},(∃o,s.heap.get? a=some o/\H a=none)->Heap.SameBut a s.heap h'->HOk X.prog X.w H h':=λ{a h'} ha hs b ob e=>by
  obtain⟨_,_,hfree⟩:=ha;refine(I.hok b ob e).stay (λc w' hc q=>(hs.2 c ?_).trans q) (λ_ q=>q) λ_ _ q=>q;rintro rfl;rcases hc with rfl | hc
  .rw[hfree]at e;cases e
  .rw[hfree]at hc;cases hc
 rcases hx with hk | hk
 .refine wpAny_storeName_local hk hn (λh' hn' hs=>?_) hcls;obtain⟨oL,_,_,hoL,_⟩:=id hn;refine h _ ⟨I.ok,I.os,I.bare,⟨λb o e n hb hx=>?_,λb o e n hb hx=>?_,I.base.free,λb o e hx=>?_,I.base.tups,I.base.frzs,I.base.tbls⟩,⟨_,hn',λj y v' e1 e2 e3=>?_⟩,λy c e=>?_,I.free,I.freeC,λp hp=>?_,tracked ⟨oL,hoL,I.free⟩ hs,by simpa using I.len⟩ ⟨_,hs,.inl rfl⟩
  .exact(hs.2 b (YAe (YAs (YAN e) I.ok.above))).trans (I.base.keep b o e n hb hx)
  .obtain⟨sl,e1⟩:=I.base.slot b o e n hb hx;exact⟨sl,(hs.2 b (YAe (YAs (YAN e) I.ok.above))).trans e1⟩
  .obtain⟨o',e1⟩:=I.base.there b o e hx;exact⟨o',(hs.2 b (YAe (YAs (YAN e) I.ok.above))).trans e1⟩
  .by_cases hj:j=i
   .subst hj;rw[hi]at e1;cases e1;rw[List.getElem?_set_self hiU]at e2;cases e2;exact⟨u,r,.inl ⟨hk,by simp⟩⟩
   .rw[List.getElem?_set_ne (YAk hj)]at e2;obtain⟨u',r',q⟩:=hl j y v' e1 e2 e3;refine⟨u',r',?_⟩;rcases q with⟨k,e⟩|⟨k,c,e,z⟩
    .refine .inl ⟨k,?_⟩;have:y≠x:=λe=>hj (Zhr hN e1 (e▸hi));simp[this,e]
    .exact .inr ⟨k,c,e,z.sameBut hs (cne y c e)⟩
  .obtain⟨w',z⟩:=I.cell y c e;exact⟨w',z.sameBut hs (cne y c e)⟩
  .obtain⟨e,n,ne,nf,d⟩:=I.pin p hp;exact⟨(hs.2 p.1 ne).trans e,n,ne,nf,d⟩
 .have hfn:X.fn x=true:=by
   rcases hf with z | z
   .exact z
   .rw[z]at hk;cases hk
  obtain⟨c,hc⟩:=I.ok.has x (.inl hk);obtain⟨w',z⟩:=I.cell x c hc;refine wpAny_storeName_cell I.ok.kind hk hc z (λh' hc' hs=>?_);obtain⟨oc,hoc,hocd⟩:=id z;refine h { s with heap:=h' } ⟨I.ok,I.os,I.bare,⟨λb o e n hb hx=>?_,λb o e n hb hx=>?_,I.base.free,λb o e hx=>?_,I.base.tups,I.base.frzs,I.base.tbls⟩,⟨m,hn.sameBut hs (YAk (cne x c hc)),λj y v' e1 e2 e3=>?_⟩,λy c' e=>?_,I.free,I.freeC,λp hp=>?_,tracked ⟨oc,hoc,I.freeC x c hc⟩ hs,by simpa using I.len⟩ ⟨c,hs,.inr hc⟩
  .exact(hs.2 b (YAe (YAs (YAN e) (I.ok.cab x c hfn hc)))).trans (I.base.keep b o e n hb hx)
  .obtain⟨sl,e1⟩:=I.base.slot b o e n hb hx;exact⟨sl,(hs.2 b (YAe (YAs (YAN e) (I.ok.cab x c hfn hc)))).trans e1⟩
  .obtain⟨o',e1⟩:=I.base.there b o e hx;exact⟨o',(hs.2 b (YAe (YAs (YAN e) (I.ok.cab x c hfn hc)))).trans e1⟩
  .by_cases hj:j=i
   .subst hj;rw[hi]at e1;cases e1;rw[List.getElem?_set_self hiU]at e2;cases e2;exact⟨u,r,.inr ⟨.inl hk,c,hc,hc'⟩⟩
   .rw[List.getElem?_set_ne (YAk hj)]at e2;obtain⟨u',r',q⟩:=hl j y v' e1 e2 e3;refine⟨u',r',?_⟩;rcases q with q | ⟨k,c',e,z'⟩
    .exact .inl q
    .refine .inr ⟨k,c',e,z'.sameBut hs ?_⟩;rintro rfl;exact hj (Zhr hN e1 (I.ok.inj _ _ _ e hc▸hi))
  .by_cases hcc:c'=c
   .subst hcc;exact⟨_,hc'⟩
   .obtain⟨w2,z2⟩:=I.cell y c' e;exact⟨w2,z2.sameBut hs hcc⟩
  .obtain⟨e,n,ne,nf,d⟩:=I.pin p hp;refine⟨(hs.2 p.1 ?_).trans e,n,ne,nf,d⟩;intro q;rw[q,hoc]at e;have q':oc=p.2:=Option.some.inj e;exact d w' (by rw[<-q'];exact hocd)
theorem Zdu (I:Inv X Ar U H s)(hN:X.N.Nodup)(hi:X.N[i]?=some x)(hx:Loc X.env.scope x)(r:RelV v u)
  (h:∀s',Inv X Ar (U.set i (some v)) H s'->Q () s') (hf:X.fn x=true\/X.env.scope.names.lookup x=some .local:=by first | exact .inl rfl | exact .inr rfl | assumption):wpAny M A (storeName X.env x u) Q E s:=
 Zft I hN hi hx r (λs' I' _=>h s' I') hf
theorem Inv.call' (I:Inv X Ar U H s)(ho:s'.os=s.os)(u:Un (frs X.stack) ch H H' s.heap s'.heap)(hok:HOk X.prog X.w H' s'.heap)(hg:AllBare s'.gens)
  (hch:∀b∈ch,(b∈X.ex\/X.s_0.heap.objs.size<=b)/\b≠X.env.locals/\(∀x c,X.env.cells.lookup x=some c->c≠b)/\∀p∈X.pn++Ar,p.1≠b):Inv X Ar U H' s':=by
 obtain⟨h',g',d',t',o'⟩:=s';have e:o'=s.os:=ho;subst e;exact I.call (g':=g') (t':=t') (d':=d') u hok hg hch
end
abbrev XK:=Value->Option AE->Hp->Prop
abbrev St:=List (Option V)
abbrev VK:=V->Hp->Prop
abbrev TE:=St->Hp->VK->Prop
abbrev TT:=St->Hp->(Bool->Hp->Prop)->Prop
abbrev TA:=St->Hp->(List V->Hp->Prop)->Prop
structure Ends where
 nx:St->Hp->Prop
 rt:VK
 bk:St->Hp->Prop:=λ_ _=>False
 ct:St->Hp->Prop:=λ_ _=>False
abbrev TS:=Ends->St->Hp->Prop
def EP (X:Cx)(Ar:AB)(U:St)(Q:VK)(u:Value)(s':AF):Prop:=∃v H',Inv X Ar U H' s'/\RelV v u/\Q v H'
def TP (X:Cx)(Ar:AB)(U:St)(Q:Bool->Hp->Prop)(b:Bool)(s':AF):Prop:=∃H',Inv X Ar U H' s'/\Q b H'
def AP (X:Cx)(Ar:AB)(U:St)(Q:List V->Hp->Prop)(us:AD)(s':AF):Prop:=∃vs H',Inv X Ar U H' s'/\Vals vs us/\Q vs H'
def SP (X:Cx)(Ar:AB)(D:Ends)(f:Flow)(s':AF):Prop:=
 match f with
 | .next=>∃U' H',Inv X Ar U' H' s'/\D.nx U' H'
 | .brk=>∃U' H',Inv X Ar U' H' s'/\D.bk U' H'
 | .cont=>∃U' H',Inv X Ar U' H' s'/\D.ct U' H'
 | .ret u=>∃v U' H',Inv X Ar U' H' s'/\RelV v u/\D.rt v H'
def PE (X:Cx)(e:Expr)(t:TE):Prop:=
 ∀(Ar:AB) (s:AF) (U:St) (H:Hp) (Q:VK),Inv X Ar U H s->t U H Q->wpAny (model X.prog X.w) X.A (eval e X.env) (EP X Ar U Q) X.xe s
def PT (X:Cx)(e:Expr)(t:TT):Prop:=
 ∀(Ar:AB) (s:AF) (U:St) (H:Hp) (Q:Bool->Hp->Prop),Inv X Ar U H s->t U H Q->wpAny (model X.prog X.w) X.A (isTrue e X.env (eval e X.env)) (TP X Ar U Q) X.xe s
def PW (X:Cx)(e:Expr)(t:TT):Prop:=
 ∀(whole:Sem Value) (Ar:AB) (s:AF) (U:St) (H:Hp) (Q:Bool->Hp->Prop),Inv X Ar U H s->t U H Q->wpAny (model X.prog X.w) X.A (isTrue e X.env whole) (TP X Ar U Q) X.xe s
theorem PW.pt (h:PW X e t):PT X e t:=h _
def PA (X:Cx)(es:List Expr)(t:TA):Prop:=
 ∀(pos:Pos) (Ar:AB) (s:AF) (U:St) (H:Hp) (Q:List V->Hp->Prop),Inv X Ar U H s->t U H Q->wpAny (model X.prog X.w) X.A (spliced (backTo pos (starEach es X.env))) (AP X Ar U Q) X.xe s
def PS (X:Cx)(st:Stmt)(t:TS):Prop:=
 ∀(Ar:AB) (s:AF) (U:St) (H:Hp) (D:Ends),Inv X Ar U H s->t D U H->wpAny (model X.prog X.w) X.A (exec st X.env) (SP X Ar D) X.xe s
def PSs (X:Cx)(st:List Stmt)(t:TS):Prop:=
 ∀(Ar:AB) (s:AF) (U:St) (H:Hp) (D:Ends),Inv X Ar U H s->t D U H->wpAny (model X.prog X.w) X.A (execs st X.env) (SP X Ar D) X.xe s
theorem thn (h:wpAny M A t Q E s)(hQ:∀a s,Q a s->Q' a s):wpAny M A t Q' E s:=YBZ h hQ λ_ _ x=>x
section
variable {X:Cx}
def tVar (i:Nat):TE:=λU H Q=>∃v,U[i]?=some (some v)/\Q v H
def tC (v:V):TE:=λ_ H Q=>Q v H
theorem ZnU (hN:X.N[i]?=some x) (hv:Vis X.env.scope x) (hd:(x == ("__debug__":Str))=false:=by decide) (hcd:(x == ("__classdict__":Str))=false:=by decide):PE X (.Name x pos) (tVar i):=by
 intro Ar s U H Q I h;obtain⟨v,e,h⟩:=h;obtain⟨m,hn,hl⟩:=I.loc;obtain⟨u,r,l⟩:=hl i x v hN e hv;have fin:EP X Ar U Q u s:=⟨v,H,I,r,h⟩;rcases l with⟨hk,hm⟩|⟨hk,c,hc,hcell⟩
 .exact wpAny_Name (wpAny_loadName_local I.ok.kind hk hn hm fin) hd
 .rcases hk with hk | hk
  .exact wpAny_Name (wpAny_loadName_cell I.ok.kind hk hc hcell fin) hd
  .exact wpAny_Name (wpAny_loadName_free I.ok.kind hk hc hcell fin hcd) hd
theorem Zak {i j pos}:PE X (.Constant (.int i) j pos) (tC (.int i)):=λ_ _ _ H _ I h=>wpAny_Constant_int ⟨.int i,H,I.tok _,⟨_,rfl⟩,h⟩
theorem ZcR {b j pos}:PE X (.Constant (.bool b) j pos) (tC (.bl b)):=λ_ _ _ H _ I h=>Constant_bool ⟨.bl b,H,I,rfl,h⟩
theorem ZnV {x j pos}:PE X (.Constant (.str x) j pos) (tC (.str x)):=λ_ _ _ H _ I h=>Calls.Constant_str ⟨.str x,H,I.tok _,⟨_,rfl⟩,h⟩
def Gl (X:Cx)(x:Str):Prop:=X.env.kindOf x=some .globalImplicit
theorem Ze2 (I:Inv X Ar U H s)(hg:Gl X x)(hm:X.mg x=some u)(h:Q u s)
  (hd:(x == ("__debug__":Str))=false:=by decide):wpAny (model X.prog X.w) X.A (eval (.Name x pos) X.env) Q E s:=
 Calls.Name_function_global I.ok.kind hg (Calls.loadGlobal_global (by rw[I.ok.glob];exact I.mod.glob.keeps I.bk) hm h) hd
theorem Zdm (I:Inv X Ar U H s)(hg:Gl X x)(hm:X.mg x=none)(hv:bootBuiltins x=some u)(h:Q u s)
  (hn:x≠"__name__":=by decide) (hd:(x == ("__debug__":Str))=false:=by decide):wpAny (model X.prog X.w) X.A (eval (.Name x pos) X.env) Q E s:=by
 obtain⟨mb,h1,h2⟩:=I.mod.blt;exact Calls.Name_function_global I.ok.kind hg (Calls.loadGlobal_builtin (by rw[I.ok.glob];exact I.mod.glob.keeps I.bk) hm (by rw[I.ok.blt];exact h1.keeps I.bk) ((h2 x hn).trans hv) h) hd
theorem ZeX (hg:Gl X x) (hm:X.mg x=some u) (r:RelV v u) (hd:(x == ("__debug__":Str))=false:=by decide):PE X (.Name x pos) (tC v):=
 λ_ _ _ H _ I h=>Ze2 I hg hm ⟨v,H,I,r,h⟩ hd
theorem Zda (hg:Gl X x) (hm:X.mg x=none) (hv:bootBuiltins x=some u) (r:RelV v u) (hn:x≠"__name__":=by decide) (hd:(x == ("__debug__":Str))=false:=by decide):PE X (.Name x pos) (tC v):=
 λ_ _ _ H _ I h=>Zdm I hg hm hv ⟨v,H,I,r,h⟩ hn hd
variable {a b:Expr}{ta tb:TE}{pos:Pos}
def PC (X:Cx)(op:CmpOp)(a b:Expr)(t:TE):Prop:=
 ∀(Ar:AB) (s:AF) (U:St) (H:Hp) (Q:VK),Inv X Ar U H s->t U H Q ->
  wpAny (model X.prog X.w) X.A (eval a X.env) (λv s_1=>wpAny (model X.prog X.w) X.A (eval b X.env) (λu s_2=>wpAny (model X.prog X.w) X.A (compareOp op v u) (EP X Ar U Q) X.xe s_2) X.xe s_1) X.xe s
theorem Zkt (b:Expr){op:CmpOp}(h:op≠.In)(h2:op≠.NotIn):behindInMarks op b=false:=by
 have e1:(op == CmpOp.In)=false:=by cases op<;>first | rfl | exact absurd rfl h
 have e2:(op == CmpOp.NotIn)=false:=by cases op<;>first | rfl | exact absurd rfl h2
 cases b<;>simp[behindInMarks,e1,e2]
def tB (t:TE):TT:=λU H Q=>t U H λx H1=>∃c,x=.bl c/\Q c H1
theorem Zfz (h:PC X op a b t)(h1:behindInMarks op b=false:=by first | exact Zkt _ (by decide) (by decide) | rfl):PT X (.Compare a [op] [b] pos) (tB t):=by intro Ar s U H Q I hw;refine wpAny_isTrue_Compare1 (thn (h Ar s U H _ I hw) λv s1 h1=>thn h1 λu s2 h2=>thn h2 λc s3 zz=>?_) h1;obtain⟨x,H1,I1,r1,q1⟩:=zz;obtain⟨d,rfl,q⟩:=q1;cases r1;exact YCV ⟨H1,I1,q⟩
theorem Zbv (h:PE X e t)(he:∀whole,isTrue e X.env whole=(do let v <-whole;standAt e.pos;holding [v] (truthy v)):=by intro _;rfl):PT X e (tB t):=by intro Ar s U H Q I hw;refine isTrue_plain (thn (h Ar s U H _ I hw) λv s1 zz=>?_) (he _);obtain⟨x,H1,I1,r1,q1⟩:=zz;obtain⟨d,rfl,q⟩:=q1;cases r1;exact YCV ⟨H1,I1,q⟩
variable {tA tB':TT}{rest:List Expr}
def tAnd (t u:TT):TT:=λU H Q=>t U H λc H1=>if c=true then u U H1 Q else Q false H1
def tOr (t u:TT):TT:=λU H Q=>t U H λc H1=>if c=true then Q true H1 else u U H1 Q
def tNot (t:TT):TT:=λU H Q=>t U H λc H1=>Q (!c) H1
theorem Zck (ha:PT X a tA):PW X (.BoolOp .And [a] pos) tA:=by
 intro wh Ar s U H Q I h;refine isTrue_and (thn (ha Ar s U H Q I h) λc s1 e=>?_);cases c with
 | true=>exact isTrue_and_nil e
 | false=>exact e
theorem Zdk (ha:PT X a tA):PW X (.BoolOp .Or [a] pos) tA:=by
 intro wh Ar s U H Q I h;refine isTrue_or (thn (ha Ar s U H Q I h) λc s1 e=>?_);cases c with
 | false=>exact isTrue_or_nil e
 | true=>exact e
theorem Zdl (ha:PT X a tA)(hb:PW X (.BoolOp .And (b::rest) pos) tB'):PW X (.BoolOp .And (a::b::rest) pos) (tAnd tA tB'):=by
 intro wh Ar s U H Q I h;refine isTrue_and (thn (ha Ar s U H _ I h) λc s1 zz=>?_);obtain⟨H1,I1,q1⟩:=zz;cases c with
 | true=>exact hb wh Ar s1 U H1 Q I1 q1
 | false=>exact⟨H1,I1,q1⟩
theorem Zfy (ha:PT X a tA)(hb:PW X (.BoolOp .Or (b::rest) pos) tB'):PW X (.BoolOp .Or (a::b::rest) pos) (tOr tA tB'):=by
 intro wh Ar s U H Q I h;refine isTrue_or (thn (ha Ar s U H _ I h) λc s1 zz=>?_);obtain⟨H1,I1,q1⟩:=zz;cases c with
 | true=>exact⟨H1,I1,q1⟩
 | false=>exact hb wh Ar s1 U H1 Q I1 q1
theorem ZbM (ha:PT X a tA):PT X (.UnaryOp .Not a pos) (tNot tA):=by intro Ar s U H Q I h;exact isTrue_not (ha Ar s U H (λc H1=>Q (!c) H1) I h)
def Znx (ta tb:TE):TE:=λU H Q=>ta U H λx H1=>∃c,x=.bl c/\if c=true then tb U H1 Q else Q (.bl false) H1
def Znk (ta:TE):TE:=λU H Q=>ta U H λx H1=>∃c,x=.bl c/\Q (.bl (!c)) H1
theorem Zb7 {op}{t:TE}(h:PE X a t):PE X (.BoolOp op [a] pos) t:=λAr s U H Q I hw=>BoolOp_one (h Ar s U H Q I hw)
theorem ZbA (ha:PE X a ta)(hb:PE X (.BoolOp .And (b::rest) pos) tb):PE X (.BoolOp .And (a::b::rest) pos) (Znx ta tb):=by
 intro Ar s U H Q I h;refine BoolOp_and (thn (ha Ar s U H _ I h) λv s1 zz=>?_);obtain⟨x,H1,I1,r1,q1⟩:=zz;obtain⟨c,rfl,q1⟩:=q1;cases r1;refine YCV ?_;cases c with
 | true=>exact hb Ar s1 U H1 Q I1 q1
 | false=>exact⟨.bl false,H1,I1,rfl,q1⟩
theorem ZnW (ha:PE X a ta):PE X (.UnaryOp .Not a pos) (Znk ta):=by intro Ar s U H Q I h;refine UnaryOp_ (thn (ha Ar s U H _ I h) λv s1 zz=>?_);obtain⟨x,H1,I1,r1,q1⟩:=zz;obtain⟨c,rfl,q1⟩:=q1;cases r1;exact not_of (YCV ⟨.bl (!c),H1,I1,rfl,q1⟩)
def tIf (t:TT)(ta tb:TE):TE:=λU H Q=>t U H λc H1=>if c=true then ta U H1 Q else tb U H1 Q
theorem Zkl (hc:PT X c tA)(ha:PE X a ta)(hb:PE X b tb):PE X (.IfExp c a b pos) (tIf tA ta tb):=by
 intro Ar s U H Q I h;refine wpAny_IfExp (thn (hc Ar s U H _ I h) λd s1 zz=>?_);obtain⟨H1,I1,q1⟩:=zz;cases d with
 | true=>exact ha Ar s1 U H1 Q I1 q1
 | false=>exact hb Ar s1 U H1 Q I1 q1
end
def SqL (K:Q4)(H:Hp)(a:AE)(xs:List V):Prop:=
 Rd H a (.lst xs) \/
  ∃(o:Obj) (its:Array Value) (n:Nat),K.lookup a=some o/\o.cls=.type "list"/\o.dict=none/\o.data=.seq its n/\its.size<=sizeLine/\Vals xs its.toList
def SqT (K:Q4)(H:Hp)(a:AE)(xs:List V):Prop:=
 Rd H a (.tup xs) \/
  ∃(o:Obj) (its:Array Value) (n:Nat),K.lookup a=some o/\o.cls=.type "tuple"/\o.data=.seq its n/\its.size<=sizeLine/\Vals xs its.toList
noncomputable def absV:Value->Option V
 | .none=>some .non
 | .bool b=>some (.bl b)
 | .int i _=>some (.int i)
 | .str x _=>some (.str x)
 | .bytes b _=>some (.byt b)
 | .float b _=>some (.flt b)
 | .ref a=>some (.ref a)
 | .type n=>some (.ty n)
 | _=>none
theorem RelV.abs (r:RelV x u):absV u=some x:=by
 cases x with
 | non=>cases r;rfl
 | bl _=>cases r;rfl
 | int _=>obtain⟨t,rfl⟩:=r;rfl
 | str _=>obtain⟨t,rfl⟩:=r;rfl
 | byt _=>obtain⟨t,rfl⟩:=r;rfl
 | flt _=>obtain⟨t,rfl⟩:=r;rfl
 | ref _=>cases r;rfl
 | ty _=>cases r;rfl
theorem RelV.inj (r:RelV x u)(q:RelV y u):x=y:=Option.some.inj (r.abs.symm.trans q.abs)
theorem Vals.inj:∀ {xs ys:List V} {us:AD},Vals xs us->Vals ys us->xs=ys
 | _,_,_,.nil,.nil=>rfl
 | _,_,_,.cons r t,.cons r' t'=>by rw[r.inj r',Vals.inj t t']
section
theorem Inv.list (I:Inv X Ar U H s)(h:SqL X.K H a xs):∃its:AD,Vals xs its/\PlainL s.heap a its.toArray/\xs.length<=sizeLine:=by
 rcases h with h | ⟨o,its,n,hk,hc,hd,hs,hz,r⟩
 .obtain⟨z,its,n,r,e⟩:=h.ok I.hok;exact⟨its,r,⟨_,n,e,rfl,rfl,rfl⟩,z⟩
 .refine⟨its.toList,r,⟨o,n,I.kIn a o hk,hc,hd,by simpa using hs⟩,?_⟩;have e:=r.length;simp only[YAF]at e;lia
theorem Inv.tuple (I:Inv X Ar U H s)(h:SqT X.K H a xs):∃its:AD,Vals xs its/\IsTup s.heap a its.toArray/\xs.length<=sizeLine:=by
 rcases h with h | ⟨o,its,n,hk,hc,hs,hz,r⟩
 .obtain⟨z,its,r,p⟩:=h.ok I.hok;exact⟨its,r,p,z⟩
 .refine⟨its.toList,r,⟨o,I.kIn a o hk,hc,n,by simpa using hs⟩,?_⟩;have e:=r.length;simp only[YAF]at e;lia
theorem Inv.list_inj (I:Inv X Ar U H s)(h:SqL X.K H a xs)(h':SqL X.K H a ys):xs=ys:=by
 obtain⟨its,r,⟨o,n,e,_,_,d⟩,_⟩:=I.list h;obtain⟨its',r',⟨o',n',e',_,_,d'⟩,_⟩:=I.list h';rw[e]at e';cases e';rw[d]at d';injection d' with d1 _;have:its=its':=by simpa using congrArg Array.toList d1
 subst this;exact r.inj r'
theorem Inv.tuple_inj (I:Inv X Ar U H s)(h:SqT X.K H a xs)(h':SqT X.K H a ys):xs=ys:=by
 obtain⟨its,r,⟨o,e,_,n,d⟩,_⟩:=I.tuple h;obtain⟨its',r',⟨o',e',_,n',d'⟩,_⟩:=I.tuple h';rw[e]at e';cases e';rw[d]at d';injection d' with d1 _;have:its=its':=by simpa using congrArg Array.toList d1
 subst this;exact r.inj r'
end
noncomputable abbrev Cx.wish (X:Cx)(E:Q33):Cx:={ X with xe:=E }
abbrev Cx.nox (X:Cx):Cx:=X.wish λ_ _=>False
theorem Cx.Ok.wish {X:Cx}(ok:X.Ok)(E:Q33):(X.wish E).Ok:=
 ⟨ok.mod,ok.kind,ok.glob,ok.blt,ok.above,ok.inj,ok.has,ok.cab,ok.hd,ok.frames,ok.stk,ok.exf,ok.bs,ok.bsz,ok.noex,ok.exfs,ok.funs,ok.frf⟩
theorem Cx.Ok.unwish {X:Cx}{E:Q33}(ok:(X.wish E).Ok):X.Ok:=
 ⟨ok.mod,ok.kind,ok.glob,ok.blt,ok.above,ok.inj,ok.has,ok.cab,ok.hd,ok.frames,ok.stk,ok.exf,ok.bs,ok.bsz,ok.noex,ok.exfs,ok.funs,ok.frf⟩
section
theorem Inv.wish (I:Inv X Ar U H s)(E:Q33):Inv (X.wish E) Ar U H s:=⟨I.ok.wish E,I.os,I.bare,I.base,I.loc,I.cell,I.free,I.freeC,I.pin,I.hok,I.len⟩
theorem Inv.unwish (I:Inv (X.wish E) Ar U H s):Inv X Ar U H s:=⟨I.ok.unwish,I.os,I.bare,I.base,I.loc,I.cell,I.free,I.freeC,I.pin,I.hok,I.len⟩
theorem SP.unwish (h:SP (X.wish E) Ar D f s'):SP X Ar D f s':=by
 cases f with
 | next=>obtain⟨U',H',I,q⟩:=h;exact⟨U',H',I.unwish,q⟩
 | brk=>obtain⟨U',H',I,q⟩:=h;exact⟨U',H',I.unwish,q⟩
 | cont=>obtain⟨U',H',I,q⟩:=h;exact⟨U',H',I.unwish,q⟩
 | ret u=>obtain⟨v,U',H',I,r,q⟩:=h;exact⟨v,U',H',I.unwish,r,q⟩
theorem PSs.nox {st:List Stmt}{t:TS}(h:PSs X.nox st t):PSs X st t:=λAr s U H D I hw=>
 YBZ (h Ar s U H D (I.wish _) hw) (λ_ _ q=>q.unwish) λ_ _ z=>False.elim z
end
section
variable {X:Cx}{st:Stmt}{rest:List Stmt}{t u:TS}{e:Expr}{te:TE}{pos:Pos}
def tNext:TS:=λD U H=>D.nx U H
def tSeq (t u:TS):TS:=λD U H=>t { D with nx:=u D } U H
theorem ZaA:PSs X [] tNext:=λ_ _ U H _ I h=>wpAny_execs_nil ⟨U,H,I,h⟩
theorem Zab (h1:PS X st t)(h2:PSs X rest u):PSs X (st::rest) (tSeq t u):=by
 intro Ar s U H D I h;refine wpAny_execs_cons (thn (h1 Ar s U H { D with nx:=u D } I h) λf s1 q=>?_);cases f with
 | next=>
  obtain⟨U',H',I',q⟩:=q;exact h2 Ar s1 U' H' D I' q
 | ret v=>exact q
 | brk=>exact q
 | cont=>exact q
theorem Zaf (h1:PS X st t):PSs X [st] t:=by
 intro Ar s U H D I h;refine wpAny_execs_cons (thn (h1 Ar s U H D I h) λf s1 q=>?_);cases f with
 | next=>exact wpAny_execs_nil q
 | ret v=>exact q
 | brk=>exact q
 | cont=>exact q
theorem Inv.quiet (I:Inv X Ar U H s):interactive X.env=false:=by simp[interactive,I.ok.kind]
def Znp (te:TE):TS:=λD U H=>te U H λ_ H1=>D.nx U H1
theorem ZaH (he:PE X e te)(hs:swapsWith e none pos.line X.env=pure false:=by rfl):PS X (.Expr e pos) (Znp te):=by intro Ar s U H D I h;exact wpAny_Expr_any (thn (he Ar s U H _ I h) λv s1 ⟨x,H1,I1,r1,q1⟩=>⟨U,H1,I1,q1⟩) I.quiet hs
def tRet (te:TE):TS:=λD U H=>te U H D.rt
theorem Zao (he:PE X e te):PS X (.Return (some e) pos) (tRet te):=by intro Ar s U H D I h;exact wpAny_Return_some (thn (he Ar s U H _ I h) λv s1 ⟨x,H1,I1,r1,q1⟩=>⟨x,U,H1,I1,r1,q1⟩)
def tIfS (c:TT)(t u:TS):TS:=λD U H=>c U H λb H1=>if b=true then t D U H1 else u D U H1
theorem Za7 (hc:PT X c tc)(ha:PSs X a t)(hb:PSs X b u):PS X (.If c a b pos) (tIfS tc t u):=by
 intro Ar s U H D I h;refine wpAny_If (thn (hc Ar s U H _ I h) λd s1 zz=>?_);obtain⟨H1,I1,q1⟩:=zz;cases d with
 | true=>exact ha Ar s1 U H1 D I1 q1
 | false=>exact hb Ar s1 U H1 D I1 q1
end
abbrev TG:=V->St->Hp->(St->Hp->Prop)->Prop
abbrev TGs:=List V->St->Hp->(St->Hp->Prop)->Prop
def PG (X:Cx)(target:Expr)(t:TG):Prop:=
 ∀(Ar:AB) (s:AF) (U:St) (H:Hp) (v:V) (u:Value) (Q:St->Hp->Prop),Inv X Ar U H s->RelV v u->t v U H Q ->
  wpAny (model X.prog X.w) X.A (assign target X.env u) (λ_ s'=>∃U' H',Inv X Ar U' H' s'/\Q U' H') X.xe s
def PGs (X:Cx)(ts:List Expr)(t:TGs):Prop:=
 ∀(Ar:AB) (s:AF) (U:St) (H:Hp) (vs:List V) (us:AD) (Q:St->Hp->Prop),Inv X Ar U H s->Vals vs us->t vs U H Q ->
  wpAny (model X.prog X.w) X.A (assignInOrder ((assignEach ts X.env).map (·.2)) us) (λ_ s'=>∃U' H',Inv X Ar U' H' s'/\Q U' H') X.xe s
abbrev TIp:=V->V->Hp->VK->Prop
section
def ZcL (i:Nat):TG:=λv U H Q=>Q (U.set i (some v)) H
theorem Zax (hN:X.N.Nodup)(hi:X.N[i]?=some x)(hx:Loc X.env.scope x)(hf:X.fn x=true\/X.env.scope.names.lookup x=some .local:=by first | exact .inl rfl | exact .inr rfl | assumption):PG X (.Name x pos) (ZcL i):=by intro Ar s U H v u Q I r h;exact wpAny_assign_Name (Zdu I hN hi hx r (λs' I'=>⟨_,H,I',h⟩) hf)
def gNil:TGs:=λvs U H Q=>vs=[]/\Q U H
def ZoZ (t:TG)(u:TGs):TGs:=λvs U H Q=>∃v r,vs=v::r/\t v U H λU' H'=>u r U' H' Q
theorem ZgF:PGs X [] gNil:=by intro Ar s U H vs us Q I r h;obtain⟨e,h⟩:=h;subst e;cases r;exact assignInOrder_nil ⟨U,H,I,h⟩
theorem Zcx (h1:PG X e t)(h2:PGs X es u)
  (hs:(assignEach (e::es) X.env).map (·.2)=assign e X.env::(assignEach es X.env).map (·.2):=by rfl):PGs X (e::es) (ZoZ t u):=by
 intro Ar s U H vs us Q I r h;obtain⟨v,vr,e1,h⟩:=h;subst e1;cases r with
 | cons r rr=>
  rw[hs];refine assignInOrder_cons (thn (h1 Ar s U H _ _ _ I r h) λ_ s1 zz=>?_);obtain⟨U1,H1,I1,q1⟩:=zz;exact h2 Ar s1 U1 H1 _ _ Q I1 rr q1
def gTup (K:Q4)(n:Nat)(t:TGs):TG:=λv U H Q=>∃a xs,v=.ref a/\SqT K H a xs/\xs.length=n/\t xs U H Q
theorem ZiT (hc:X.calm=true)(h:PGs X es t)
  (hn:(assignEach es X.env).length=n:=by rfl) (hst:(assignEach es X.env).findIdx? (·.1)=none:=by rfl):PG X (.Tuple es k pos) (gTup X.K n t):=by
 intro Ar s U H v u Q I r hw;obtain⟨a,xs,e1,hq,hl,hw⟩:=hw;subst e1;cases r;obtain⟨its,rv,ht,hz⟩:=I.tuple hq;refine assign_Tuple_tuple (I.ok.hd hc) ht (by simp[hn,<-hl,rv.length]) hst λh' hx=>?_;have I1:Inv X Ar U H { s with heap:=h' }:=I.kept (t':=s.toks) λb o e=>hx b o (YAe (YAN e)) e;exact h Ar _ U H xs _ Q I1 (by simpa using rv) hw
def tAsg (te:TE)(g:TG):TS:=λD U H=>te U H λx H1=>g x U H1 D.nx
theorem ZnT (he:PE X e te)(hg:PG X tg g)(hs:swapsWithSole [tg] e pos.line X.env=pure false:=by rfl)(hw:swappedStores [tg] e X.env=pure none:=by rfl)
  (h1:(assignEach [tg] X.env).map (·.2)=[assign tg X.env]:=by rfl):PS X (.Assign [tg] e pos) (tAsg te g):=by
 intro Ar s U H D I h;refine wpAny_Assign_stores (thn (he Ar s U H _ I h) λv s1 zz=>?_) hs hw;obtain⟨x,H1,I1,r1,q1⟩:=zz;rw[h1];exact thn (hg Ar s1 U H1 x v _ I1 r1 q1) λ_ s2 q=>q
theorem Zeq (hN:X.N.Nodup)(hi:X.N[i]?=some x)(hx:Loc X.env.scope x)(he:PE X e te)(hs:swapsWith e (some (.Name x pos')) pos.line X.env=pure false:=by rfl)(hf:X.fn x=true\/X.env.scope.names.lookup x=some .local:=by first | exact .inl rfl | exact .inr rfl | assumption):
  PS X (.Assign [.Name x pos'] e pos) (tAsg te (ZcL i)):=by
 intro Ar s U H D I h;refine wpAny_Assign_Name (thn (he Ar s U H _ I h) λv s1 zz=>?_) hs;obtain⟨y,H1,I1,r1,q1⟩:=zz;exact Zdu I1 hN hi hx r1 (λs2 I2=>⟨_,H1,I2,q1⟩) hf
def tPar (i j:Nat)(ta:TA):TS:=λD U H=>ta U H λvs H1=>∃v w,vs=[v,w]/\D.nx ((U.set i (some v)).set j (some w)) H1
theorem ZnS {kt k2 pt2}(hc:X.calm=true)(hN:X.N.Nodup)(hi:X.N[i]?=some x)(hj:X.N[j]?=some y)(hij:i≠j)
  (hx:X.env.scope.names.lookup x=some .local) (hy:X.env.scope.names.lookup y=some .local) (ha:PA X [a,b] ta)
  (hw:swappedStores [.Tuple [.Name x px,.Name y py] kt pt] (.Tuple [a,b] k2 pt2) X.env=pure (some [x,y]))
  (hs:swapsWithSole [.Tuple [.Name x px,.Name y py] kt pt] (.Tuple [a,b] k2 pt2) pos.line X.env=pure false:=by rfl):
  PS X (.Assign [.Tuple [.Name x px,.Name y py] kt pt] (.Tuple [a,b] k2 pt2) pos) (tPar i j ta):=by
 intro Ar s U H D I h;rw[exec_Assign_arm];refine YAA (wpAny_standAt ?_);rw[hs];refine YAA (YAD ?_);rw[YAJ (by decide)];refine YAA (Tuple_ (thn (ha _ Ar s U H _ I h) λus s1 zz=>?_));obtain⟨vs,H1,I1,r1,q1⟩:=zz;obtain⟨v,w,e1,q1⟩:=q1;subst e1;obtain⟨u1,u2,rfl,rv,rw'⟩:∃u1 u2,us=[u1,u2]/\RelV v u1/\RelV w u2:=by
  cases r1 with
  | cons p q=>
   cases q with
   | cons p' q'=>
    cases q';exact⟨_,_,rfl,p,p'⟩
 refine YBt ?_ (by show 2<=sizeLine;decide);have I2:Inv X Ar U H1 { s1 with heap:=s1.heap.push { cls:=.type "tuple",data:=.seq [u1,u2].toArray } }:=I1.kept (t':=s1.toks) λb o e=>YAE _ e;rw[hw];refine YAA (YAD ?_);show wpAny (model X.prog X.w) X.A (do rule "assign.swapped-stores";let items <-unpackItems (.ref s1.heap.objs.size) 2 none;assignInOrder [λv=>bindName X.env y v,λv=>bindName X.env x v] items.reverse;pure Flow.next) _ _ _;refine YAA (YBs (YAA (unpackItems_tuple (items:=#[u1,u2]) (I.ok.hd hc) (IsTup.new s1.heap _) λh' hx'=>?_)));have I3:=I2.kept (h':=h') (t':=s1.toks) λb o e=>hx' b o (YAe (YAN e)) e;show wpAny _ _ (assignInOrder [λv=>bindName X.env y v,λv=>bindName X.env x v] [u2,u1] >>= λ_=>pure Flow.next) _ _ _;refine YAA (assignInOrder_cons (wpAny_bindName (Zdu I3 hN hj (.inl hy) rw' (λs2 I4=>?_) (.inr hy))));refine assignInOrder_cons (wpAny_bindName (Zdu I4 hN hi (.inl hx) rv (λs3 I5=>assignInOrder_nil (YAD ?_)) (.inr hx)));rw[List.set_comm _ _ (YAk hij)]at I5;exact⟨_,H1,I5,q1⟩
end
section
def ZiB (c:TT)(tb:TS):TS:=λD U H=>∃W:Nat->St->Hp->Prop,(∃m,W m U H)/\∀m U H,W m U H ->
 c U H λb H1=>if b=true then ∃N:St->Hp->Prop,(∀U' H',N U' H'->∃m',m'<m/\W m' U' H')/\tb { D with nx:=N,ct:=N,bk:=D.nx } U H1 else D.nx U H1
theorem Zhk (hp:PassesOwn (model X.prog X.w) X.A X.env X.xe)(hc:PT X c tc)(hb:PSs X body tb):PS X (.While c body [] pos) (ZiB tc tb):=by
 intro Ar s U H D I h;obtain⟨W,⟨m0,w0⟩,turn⟩:=h;refine wpAny_While (codeAny_whileLoop (λn s'=>∃U' H',Inv X Ar U' H' s'/\W n U' H') ?_ m0 ⟨U,H,I,w0⟩);rintro n s1 ⟨U1,H1,I1,w1⟩;refine YCk hp (thn (hc Ar s1 U1 H1 _ I1 (turn n U1 H1 w1)) λb s2 zz=>?_);obtain⟨H2,I2,q2⟩:=zz;cases b with
 | true=>
  obtain⟨N,hN,q2⟩:=q2;rw[YAM rfl];refine YCk hp (thn (hb Ar s2 U1 H2 _ I2 q2) λf s3 q3=>?_);cases f with
  | next=>
   obtain⟨U3,H3,I3,n3⟩:=q3;obtain⟨m',hm,w3⟩:=hN U3 H3 n3;exact⟨m',hm,U3,H3,I3,w3⟩
  | cont=>
   obtain⟨U3,H3,I3,n3⟩:=q3;obtain⟨m',hm,w3⟩:=hN U3 H3 n3;exact⟨m',hm,U3,H3,I3,w3⟩
  | brk=>exact q3
  | ret v=>exact q3
 | false=>
  rw[YAJ YAC];exact wpAny_execs_nil ⟨U1,H2,I2,q2⟩
end
structure It where
 go:Nat->Hp->Prop
 yld:Nat->Hp->V->Hp->Prop
 stop:Nat->Hp->Prop
def FpOk (X:Cx)(Ar:AB)(H:Hp)(b:AE):Prop:=
 H b=none/\b≠X.env.locals/\b∉X.fs/\(b∈X.ex\/X.s_0.heap.objs.size<=b)/\(∀x c,X.env.cells.lookup x=some c->c≠b)/\∀p∈X.pn++Ar,p.1≠b
theorem Inv.fpOk (I:Inv X Ar U H s)(hb:s.heap.objs.size<=b)(hn:H' b=none):FpOk X Ar H' b:=by
 refine⟨hn,Nat.ne_of_gt (YAs I.lt hb),I.nofs hb,.inr (YAK I.sz hb),λx c e z=>?_,λp hp z=>?_⟩
 .obtain⟨v,q⟩:=I.cell x c e;exact absurd (YAs q.lt (by rw[z];exact hb)) (YBE _)
 .exact absurd (YAs (YAN (I.pin p hp).1) (by rw[z];exact hb)) (YBE _)
structure Turn (P:AH)(w:AJ)(K:Q4)(tg:Expr)(J:It)(fp:List AE)(it:AE)(tn:Nat->Heap->Prop):Prop where
 mem:it∈fp
 obj:∀i h,tn i h->∀b∈fp,∃o,h.get? b=some o/\∀v,o.data≠.cell v
 keep:∀i h h',tn i h->(∀b∈fp,∀o,h.get? b=some o->h'.get? b=some o)->tn i h'
 item:∀(X:Cx),X.prog=P->X.w=w->X.K=K->X.calm=true->∀(i:Nat) (Ar:AB) (s:AF) (U:St) (H:Hp) (E:Q33),Inv X Ar U H s->(∀b∈fp,FpOk X Ar H b)->tn i s.heap->J.go i H ->
  wpAny (model P w) X.A (pyNext (.ref it)) (λr s1=>∃u,r=some u /\
   wpAny (model P w) X.A (letOwnedTupleGo tg (.ref it) u) (λ_ s2=>∃x H',Inv X Ar U H' s2/\RelV x u/\J.yld i H x H'/\tn (i+1) s2.heap/\∀b∈fp,H' b=none) E s1) E s
 done:∀(X:Cx),X.prog=P->X.w=w->X.K=K->X.calm=true->∀(i:Nat) (Ar:AB) (s:AF) (U:St) (H:Hp) (E:Q33),Inv X Ar U H s->(∀b∈fp,FpOk X Ar H b)->tn i s.heap->J.stop i H ->
  wpAny (model P w) X.A (pyNext (.ref it)) (λr s1=>r=none/\Inv X Ar U H s1) E s
 self:∀(A:AI) (i:Nat) (s:AF) (Q:Q33) (E:Q33),tn i s.heap->Q (.ref it) s->wpAny (model P w) A (pyIter (.ref it)) Q E s
abbrev TI:=St->Hp->(It->Hp->Prop)->Prop
def PIE (X:Cx)(Ar:AB)(U:St)(tg:Expr)(R:It->Hp->Prop)(itv:Value)(s2:AF):Prop:=
 ∃(it:AE) (fp:List AE) (tn:Nat->Heap->Prop) (J:It) (H':Hp),itv=.ref it/\Inv X Ar U H' s2/\Turn X.prog X.w X.K tg J fp it tn/\tn 0 s2.heap/\(∀b∈fp,FpOk X Ar H' b)/\R J H'
def PI (X:Cx)(tg iter:Expr)(wi:TI):Prop:=
 ∀(Ar:AB) (s:AF) (U:St) (H:Hp) (R:It->Hp->Prop),Inv X Ar U H s->wi U H R ->
  wpAny (model X.prog X.w) X.A (eval iter X.env) (λv s1=>wpAny (model X.prog X.w) X.A (pyIter v) (PIE X Ar U tg R) X.xe s1) X.xe s
theorem ZkN (ho:s.heap.get? it=some o)(hc:o.cls=.type n)(hd:o.data=.fields vs)
    (hn:["enumerate","zip","dict_itemiterator","dict_reverseitemiterator","odict_iterator","itertools.zip_longest","itertools.pairwise"].contains n=false) (hQ:Q () s):wpAny M A (letOwnedTupleGo tg (.ref it) u) Q E s:=by
  unfold letOwnedTupleGo;cases tg<;>first
    | exact YAD hQ
    | (cases u<;>first
        | exact YAD hQ
        | (refine YAA (wpAny_load ho ?_)
           rw[hc,hd];show wpAny M A (if (["enumerate","zip","dict_itemiterator","dict_reverseitemiterator","odict_iterator","itertools.zip_longest","itertools.pairwise"].contains n&&vs[0]? == some (rawInt _))=true then _ else _) Q E s;rw[YAJ (by intro h;rw[hn,YBi]at h;cases h)];exact YAD hQ))
noncomputable def Itl (K:Q4)(a:AE):It:=
 ⟨λi H=>∃xs x,SqL K H a xs/\xs[i]?=some x,λi H x H'=>H'=H/\∀xs,SqL K H a xs->xs[i]?=some x,λi H=>∃xs,SqL K H a xs/\xs.length<=i⟩
noncomputable def Itt (K:Q4)(a:AE):It:=
 ⟨λi H=>∃xs x,SqT K H a xs/\xs[i]?=some x,λi H x H'=>H'=H/\∀xs,SqT K H a xs->xs[i]?=some x,λi H=>∃xs,SqT K H a xs/\xs.length<=i⟩
noncomputable def Itr (lo:Int)(n:Nat):It:=⟨λi _=>i<n,λi H x H'=>H'=H/\x=.int (lo+i),λi _=>n<=i⟩
theorem Ziw {P:AH}{w:AJ}{K:Q4}{tg:Expr}(a it:AE):Turn P w K tg (Itl K a) [it] it (λi h=>h.IsListIter it a i) where
 mem:=by simp
 obj:=λi h st b hb=>by
  have e:b=it:=by simpa using hb
  subst e;obtain⟨o,e,c,d⟩:=st;exact⟨o,e,λv z=>by rw[d]at z;cases z⟩
 keep:=λi h h' st k=>st.at λo e=>k it (by simp) o e
 item:=by intro X hP hw hK hc i Ar s U H E I hf st hg;subst hP hw hK;obtain⟨xs,x,hq,hx⟩:=hg;obtain⟨its,rv,p,hz⟩:=I.list hq;obtain⟨u,hu,ru⟩:=rv.get hx;obtain⟨f0,f1,f2,f3,f4,f5⟩:=hf it (by simp);refine wpAny_pyNext_list_item st p.isList (x:=u) (by simpa using hu) λh' st' sb=>?_;have I1:Inv X Ar U H { s with heap:=h' }:=I.turned (t':=s.toks) (λb o hb e=>(sb.2 b hb).trans e) f0 f1 f3 f4 f5;obtain⟨o,e,c,d⟩:=id st';exact⟨u,rfl,ZkN (s:={ s with heap:=h' }) e c d (by decide) ⟨x,H,I1,ru,⟨rfl,λys hy=>by rw[I.list_inj hy hq];exact hx⟩,st',λb hb=>(hf b hb).1⟩⟩
 done:=by intro X hP hw hK hc i Ar s U H E I hf st hg;subst hP hw hK;obtain⟨xs,hq,hx⟩:=hg;obtain⟨its,rv,p,hz⟩:=I.list hq;obtain⟨f0,f1,f2,f3,f4,f5⟩:=hf it (by simp);have hl:=rv.length;exact wpAny_pyNext_list_end (I.ok.hd hc) st p.isList (by simp;lia) λh' eb=>⟨rfl,I.turned (t':=s.toks) (λb o hb e=>eb b o hb e) f0 f1 f3 f4 f5⟩
 self:=λ_ _ _ _ _ st h=>wpAny_pyIter_listiter st h
theorem ZhX {P:AH}{w:AJ}{K:Q4}{tg:Expr}(it:AE)(lo:Int)(n:Nat):Turn P w K tg (Itr lo n) [it] it (λi h=>IsRangeIter h it (lo+(i:Nat)*1) ((n:Int)-(i:Nat)) 1) where
 mem:=by simp
 obj:=λi h st b hb=>by
  have e:b=it:=by simpa using hb
  subst e;exact⟨_,st,λv z=>by have z':Data.fields _=Data.cell v:=z;cases z'⟩
 keep:=λi h h' st k=>k it (by simp) _ st
 item:=by intro X hP hw hK hc i Ar s U H E I hf st hg;subst hP hw hK;obtain⟨f0,f1,f2,f3,f4,f5⟩:=hf it (by simp);have W:=Walks.range (prog:=X.prog) (w:=X.w) (I.ok.hd hc) it lo 1 n;refine W.item i s _ _ hg st λv h' tk hv st' kk=>?_;obtain⟨t,rfl⟩:=hv;have I1:Inv X Ar U H { s with heap:=h',toks:=tk }:=I.turned (λb o hb e=>kk b o (by simpa using hb) e) f0 f1 f3 f4 f5;refine⟨_,rfl,ZkN (s:={ s with heap:=h',toks:=tk }) (n:="range_iterator") st' rfl rfl (by decide) ⟨.int (lo+i),H,I1,⟨t,?_⟩,⟨rfl,rfl⟩,st',λb hb=>(hf b hb).1⟩⟩;rw[Int.mul_one]
 done:=by intro X hP hw hK hc i Ar s U H E I hf st hg;subst hP hw hK;obtain⟨f0,f1,f2,f3,f4,f5⟩:=hf it (by simp);exact wpAny_pyNext_range_end (I.ok.hd hc) st (by have:n<=i:=hg;lia) λh' eb=>⟨rfl,I.turned (t':=s.toks) (λb o hb e=>eb b o hb e) f0 f1 f3 f4 f5⟩
 self:=λ_ _ _ _ _ st h=>wpAny_pyIter_rangeiter st h
section
def ZmI (K:Q4)(tl:TE):TI:=λU H R=>tl U H λx H1=>∃a,x=.ref a/\(∃xs,SqL K H1 a xs)/\R (Itl K a) H1
theorem Zme (hl:PE X l tl):PI X tg l (ZmI X.K tl):=by
 intro Ar s U H R I h;refine thn (hl Ar s U H _ I h) λv s1 zz=>?_;obtain⟨x,H1,I1,r1,q1⟩:=zz;obtain⟨a,e,⟨xs,hq⟩,q⟩:=q1;subst e;cases r1;obtain⟨its,rv,p,hz⟩:=I1.list hq;refine wpAny_pyIter_list p.isList ?_;refine⟨s1.heap.objs.size,[s1.heap.objs.size],_,_,H1,rfl,I1.kept (t':=s1.toks) λb o e=>YAE _ e,Ziw a _,⟨_,YAY _ rfl,rfl,rfl⟩,λb hb=>?_,q⟩;have e:b=s1.heap.objs.size:=by simpa using hb
 subst e;exact I1.fpOk (YAP _) (I1.hok.fresh (YAP _))
theorem Zhi {Ar:AB}{U:St}{H:Hp}{s:AF}{R:It->Hp->Prop}{E:Q33}{lo hi:Int}{t u v:Tok}{tk:Nat}(I:Inv X Ar U H s)(h1:-(2 ^ 62)<=lo)(h2:lo<2 ^ 62)(h3:-(2 ^ 62)<=hi)(h4:hi<2 ^ 62)
  (q:R (Itr lo (hi-lo).toNat) H):wpAny (model X.prog X.w) X.A (pyIter (.ref s.heap.objs.size)) (PIE X Ar U tg R) E { s with heap:=s.heap.push { cls:=.type "range",data:=.fields #[.int lo t,.int hi u,.int 1 v] },toks:=tk }:=by
 refine wpAny_pyIter_range (IsRange.new ..) (small_one h1 h2 h3 h4) ?_;have I1:Inv X Ar U H { s with heap:=s.heap.push { cls:=.type "range",data:=.fields #[.int lo t,.int hi u,.int 1 v] },toks:=tk }:=I.kept λb o e=>YAE _ e;refine⟨(s.heap.push { cls:=.type "range",data:=.fields #[.int lo t,.int hi u,.int 1 v] }).objs.size,[(s.heap.push { cls:=.type "range",data:=.fields #[.int lo t,.int hi u,.int 1 v] }).objs.size],_,_,H,rfl,
  I1.kept (t':=tk) λb o e=>YAE _ e,ZhX _ lo (hi-lo).toNat,?_,λb hb=>?_,q⟩
 .have e1:lo+((0:Nat):Int)*1=lo:=by simp
  have e2:(((hi-lo).toNat:Nat):Int)-((0:Nat):Int)=Builtin.Range.rangeSize lo hi 1:=by rw[rangeSize_one];split<;>lia
  show IsRangeIter _ _ (lo+((0:Nat):Int)*1) ((((hi-lo).toNat:Nat):Int)-((0:Nat):Int)) 1;rw[e1,e2];exact YAY _ rfl
 .have e:b=(s.heap.push { cls:=.type "range",data:=.fields #[.int lo t,.int hi u,.int 1 v] }).objs.size:=by simpa using hb
  subst e;exact I1.fpOk (YAP _) (I1.hok.fresh (YAP _))
def ZoT (ta:TA):TI:=λU H R=>ta U H λvs H1=>∃j:Int,vs=[.int j]/\-(2 ^ 62)<=j/\j<2 ^ 62/\R (Itr 0 j.toNat) H1
def ZoS (ta:TA):TI:=λU H R=>ta U H λvs H1=>∃i j:Int,vs=[.int i,.int j]/\(-(2 ^ 62)<=i/\i<2 ^ 62/\-(2 ^ 62)<=j/\j<2 ^ 62)/\R (Itr i (j-i).toNat) H1
theorem ZbV (hg:Gl X "range") (hm:X.mg "range"=none) (ha:PA X [a] ta) (hs:starEach [a] X.env=[(false,eval a X.env)]:=by rfl):PI X tg (.Call (.Name "range" p) [a] [] pos) (ZoT ta):=by
 intro Ar s U H R I h;refine Call_ (Zdm I hg hm boot_range (YCl (thn (ha pos Ar s U H _ I h) λus s1 zz=>?_) hs rfl));obtain⟨vs,H1,I1,r1,q1⟩:=zz;obtain⟨j,e,q1,q2,q⟩:=q1;subst e;cases r1 with
 | cons r rr=>
  cases rr;obtain⟨t,rfl⟩:=r;exact call_range_1 (Zhi I1 (by lia) (by lia) q1 q2 (by simpa using q))
theorem ZdO (hg:Gl X "range") (hm:X.mg "range"=none) (ha:PA X [a,b] ta) (hs:starEach [a,b] X.env=[(false,eval a X.env),(false,eval b X.env)]:=by rfl) (hs2:starEach [b] X.env=[(false,eval b X.env)]:=by rfl):
  PI X tg (.Call (.Name "range" p) [a,b] [] pos) (ZoS ta):=by
 intro Ar s U H R I h;refine Call_ (Zdm I hg hm boot_range (YCl (thn (ha pos Ar s U H _ I h) λus s1 ⟨vs,H1,I1,r1,q1⟩=>?_) (by rw[hs,hs2]) (by rw[hs2];rfl)));obtain⟨i,j,e,⟨q1,q2,q3,q4⟩,q⟩:=q1;subst e;cases r1 with
 | cons r rr=>
  cases rr with
  | cons r' rr=>
   cases rr;obtain⟨t,rfl⟩:=r;obtain⟨t',rfl⟩:=r';exact call_range_2 (Zhi I1 q1 q2 q3 q4 q)
def tFor (wi:TI)(g:TG)(tb:TS):TS:=λD U H=>wi U H λJ H1=>∃W:Nat->Nat->St->Hp->Prop,(∃m,W 0 m U H1)/\∀i m U H,W i m U H ->
 (J.stop i H/\D.nx U H)\/(J.go i H/\∃N:St->Hp->Prop,(∀U' H',N U' H'->∃m',m'<m/\W (i+1) m' U' H')/\∀x H',J.yld i H x H'->g x U H' λU2 H2=>tb { D with nx:=N,ct:=N,bk:=D.nx } U2 H2)
noncomputable def ZfA (fp:List AE)(h:Heap):AB:=fp.filterMap λb=>(h.get? b).map λo=>(b,o)
theorem Zcy (hb:b∈fp)(e:h.get? b=some o):(b,o)∈ZfA fp h:=List.mem_filterMap.mpr ⟨b,hb,by rw[e];rfl⟩
theorem Zi2 (hp:p∈ZfA fp h):p.1∈fp/\h.get? p.1=some p.2:=by
 obtain⟨b,hb,e⟩:=List.mem_filterMap.mp hp;cases q:h.get? b with
 | none=>rw[q]at e;cases e
 | some o=>
  rw[q]at e;have e':(b,o)=p:=Option.some.inj e;subst e';exact⟨hb,q⟩
theorem Inv.pinned (I:Inv X Ar U H s)(hf:∀b∈fp,FpOk X Ar H b)(ho:∀b∈fp,∃o,s.heap.get? b=some o/\∀v,o.data≠.cell v):Inv X (Ar++ZfA fp s.heap) U H s:=
 I.pins_of λp hp=>(YAR.mp hp).elim (λz=>I.pin p (YBD _ z)) λz=>by obtain⟨hb,e⟩:=Zi2 z;obtain⟨f0,f1,f2,_⟩:=hf p.1 hb;obtain⟨o,e',d⟩:=ho p.1 hb;rw[e]at e';cases e';exact⟨e,f0,f1,f2,d⟩
theorem Inv.unpinned (I:Inv X (Ar++pl) U H s):Inv X Ar U H s:=I.pins_of λp hp=>I.pin p (YBD _ (YBe _ hp))
theorem Za8 (hp:PassesOwn (model X.prog X.w) X.A X.env X.xe)(hc:X.calm=true)(hi:PI X tg iter wi)(hg:PG X tg g)(hb:PSs X body tb)
  (hs:∀x,foldedSetIterable iter X.env x=pure x:=by intro _;rfl):PS X (.For tg iter body [] pos) (tFor wi g tb):=by
 intro Ar s U H D I h;refine wpAny_For (thn (hi Ar s U H _ I h) λv s1 h1=>thn h1 λitv s2 h2=>?_) hs;obtain⟨it,fp,tn,J,H2,e,I2,T,st2,f2,W,⟨m0,w0⟩,turn⟩:=h2;subst e;have stat:∀ {H':Hp},(∀b∈fp,H' b=none)->∀b∈fp,FpOk X Ar H' b:=λhn b hb=>⟨hn b hb,(f2 b hb).2⟩;refine codeAny_forLoop_any (λn s'=>∃i U' H',Inv X Ar U' H' s'/\tn i s'.heap/\(∀b∈fp,H' b=none)/\W i n U' H') ?_ m0 ⟨0,U,H2,I2,st2,λb hb=>(f2 b hb).1,w0⟩;rintro n s3 ⟨i,U3,H3,I3,st3,fr3,w3⟩;rcases turn i n U3 H3 w3 with⟨stop,qn⟩|⟨go,N,hN,step⟩
 .refine YCk hp (thn (T.done X rfl rfl rfl hc i Ar s3 U3 H3 X.xe I3 (stat fr3) st3 stop) λr s4 zz=>?_);obtain⟨hr,I4⟩:=zz;subst hr;exact wpAny_execs_nil ⟨U3,H3,I4,qn⟩
 .refine YCk hp (thn (T.item X rfl rfl rfl hc i Ar s3 U3 H3 X.xe I3 (stat fr3) st3 go) λr s4 zz=>?_);obtain⟨u,hr,h4⟩:=zz;subst hr;refine YCk hp (thn h4 λ_ s5 zz=>?_);obtain⟨x,H5,I5,r5,y5,st5,fr5⟩:=zz;have I5':=I5.pinned (stat fr5) (T.obj _ _ st5);refine YCk hp (thn (hg _ s5 U3 H5 x u _ I5' r5 (step x H5 y5)) λ_ s6 zz=>?_);obtain⟨U6,H6,I6,q6⟩:=zz;refine YCk hp (thn (hb _ s6 U6 H6 _ I6 q6) λf s7 q7=>?_);have again:∀ {U7:St} {H7:Hp},Inv X (Ar++ZfA fp s5.heap) U7 H7 s7->N U7 H7->∃m,m<n/\∃i U' H',Inv X Ar U' H' s7/\tn i s7.heap/\(∀b∈fp,H' b=none)/\W i m U' H':=λ{U7 H7} I7 n7=>by obtain⟨m',hm,w7⟩:=hN U7 H7 n7;refine⟨m',hm,i+1,U7,H7,I7.unpinned,T.keep _ _ _ st5 λb hb o e=>(I7.pin (b,o) (YBD _ (YBD _ (Zcy hb e)))).1,λb hb=>?_,w7⟩;obtain⟨o,e,d⟩:=T.obj _ _ st5 b hb;exact(I7.pin (b,o) (YBD _ (YBD _ (Zcy hb e)))).2.1
  cases f with
  | next=>obtain⟨U7,H7,I7,n7⟩:=q7;exact again I7 n7
  | cont=>obtain⟨U7,H7,I7,n7⟩:=q7;exact again I7 n7
  | brk=>obtain⟨U7,H7,I7,q7⟩:=q7;exact⟨U7,H7,I7.unpinned,q7⟩
  | ret v=>obtain⟨x7,U7,H7,I7,r7,q7⟩:=q7;exact⟨x7,U7,H7,I7.unpinned,r7,q7⟩
end
theorem ZkR {K:Q4}{a:AE}{xs:List V}{g:TG}{tb:TS}{D:Ends}{U:St}{H:Hp}(Pv:Nat->St->Hp->Prop)(h0:Pv 0 U H)(hl:∀i U H,i<=xs.length->Pv i U H->SqL K H a xs)
  (hs:∀i x U H,xs[i]?=some x->Pv i U H->g x U H λU2 H2=>tb { D with nx:=Pv (i+1),ct:=Pv (i+1),bk:=D.nx } U2 H2) (hd:∀U H,Pv xs.length U H->D.nx U H):
  ∃W:Nat->Nat->St->Hp->Prop,(∃m,W 0 m U H)/\∀i m U H,W i m U H ->
   ((Itl K a).stop i H/\D.nx U H)\/((Itl K a).go i H/\∃N:St->Hp->Prop,(∀U' H',N U' H'->∃m',m'<m/\W (i+1) m' U' H')/\∀x H',(Itl K a).yld i H x H'->g x U H' λU2 H2=>tb { D with nx:=N,ct:=N,bk:=D.nx } U2 H2):=by
 refine⟨λi m U H=>m=xs.length-i/\i<=xs.length/\Pv i U H,⟨xs.length,by simp,YAt _,h0⟩,?_⟩;rintro i m U H ⟨rfl,hi,p⟩;have q:=hl i U H hi p;by_cases A2:i<xs.length
 .refine .inr ⟨⟨xs,xs[i],q,by simp[A2]⟩,Pv (i+1),λU' H' p'=>⟨xs.length-(i+1),by lia,rfl,A2,p'⟩,λx H' y=>?_⟩;obtain⟨e,y⟩:=y;subst e;exact hs i x U _ (y xs q) p
 .have e:i=xs.length:=by lia
  subst e;exact .inl ⟨⟨xs,q,YAP _⟩,hd U H p⟩
theorem ZjB {lo:Int}{n:Nat}{g:TG}{tb:TS}{D:Ends}{U:St}{H:Hp}(Pv:Nat->St->Hp->Prop)(h0:Pv 0 U H)
  (hs:∀i U H,i<n->Pv i U H->g (.int (lo+i)) U H λU2 H2=>tb { D with nx:=Pv (i+1),ct:=Pv (i+1),bk:=D.nx } U2 H2) (hd:∀U H,Pv n U H->D.nx U H):
  ∃W:Nat->Nat->St->Hp->Prop,(∃m,W 0 m U H)/\∀i m U H,W i m U H ->
   ((Itr lo n).stop i H/\D.nx U H)\/((Itr lo n).go i H/\∃N:St->Hp->Prop,(∀U' H',N U' H'->∃m',m'<m/\W (i+1) m' U' H')/\∀x H',(Itr lo n).yld i H x H'->g x U H' λU2 H2=>tb { D with nx:=N,ct:=N,bk:=D.nx } U2 H2):=by
 refine⟨λi m U H=>m=n-i/\i<=n/\Pv i U H,⟨n,by simp,YAt _,h0⟩,?_⟩;rintro i m U H ⟨rfl,hi,p⟩;by_cases A2:i<n
 .refine .inr ⟨A2,Pv (i+1),λU' H' p'=>⟨n-(i+1),by lia,rfl,A2,p'⟩,λx H' y=>?_⟩;obtain⟨e,y⟩:=y;subst e y;exact hs i U _ A2 p
 .have e:i=n:=by lia
  subst e;exact .inl ⟨YAP _,hd U H p⟩
abbrev R2:=V->V->Hp->VK->Prop
def OpR (X:Cx)(f:Value->Value->Sem Value)(r:R2):Prop:=
 ∀(Ar:AB) (s:AF) (U:St) (H:Hp) (x y:V) (v u:Value) (Q:VK),Inv X Ar U H s->RelV x v->RelV y u->r x y H Q ->
  wpAny (model X.prog X.w) X.A (f v u) (EP X Ar U Q) X.xe s
def UnR (X:Cx)(f:Value->Sem Value)(r:V->Hp->VK->Prop):Prop:=
 ∀(Ar:AB) (s:AF) (U:St) (H:Hp) (x:V) (v:Value) (Q:VK),Inv X Ar U H s->RelV x v->r x H Q ->
  wpAny (model X.prog X.w) X.A (f v) (EP X Ar U Q) X.xe s
def Zcc (X:Cx)(f:Value)(r:List V->Hp->VK->Prop):Prop:=
 ∀(Ar:AB) (s:AF) (U:St) (H:Hp) (xs:List V) (us:AD) (Q:VK),Inv X Ar U H s->Vals xs us->r xs H Q ->
  wpAny (model X.prog X.w) X.A (call f us) (EP X Ar U Q) X.xe s
def tOp (r:R2)(ta tb:TE):TE:=λU H Q=>ta U H λx H1=>tb U H1 λy H2=>r x y H2 Q
def tUn (r:V->Hp->VK->Prop)(ta:TE):TE:=λU H Q=>ta U H λx H1=>r x H1 Q
def rI (C:Int->Int->Prop)(g:Int->Int->V):R2:=λx y H Q=>∃i j,x=.int i/\y=.int j/\C i j/\Q (g i j) H
def rI0 (g:Int->Int->V):R2:=λx y H Q=>∃i j,x=.int i/\y=.int j/\Q (g i j) H
def rU (g:Int->V):V->Hp->VK->Prop:=λx H Q=>∃i,x=.int i/\Q (g i) H
section
theorem binT (ha:PE X a ta)(hb:PE X b tb){Ar:AB}{s:AF}{U:St}{H:Hp}{R:V->V->Hp->Prop}(I:Inv X Ar U H s)
  (h:ta U H λx H1=>tb U H1 λy H2=>R x y H2) {Q:Q33} {f:Value->Value->Sem Value}
  (hf:∀v u s2 x y H2,Inv X Ar U H2 s2->RelV x v->RelV y u->R x y H2->wpAny (model X.prog X.w) X.A (f v u) Q X.xe s2):
  wpAny (model X.prog X.w) X.A (eval a X.env) (λv s_1=>wpAny (model X.prog X.w) X.A (eval b X.env) (λu s_2=>wpAny (model X.prog X.w) X.A (f v u) Q X.xe s_2) X.xe s_1) X.xe s:=by
 refine thn (ha Ar s U H _ I h) λv s1 zz=>?_;obtain⟨x,H1,I1,r1,q1⟩:=zz;refine thn (hb Ar s1 U H1 _ I1 q1) λu s2 zz=>?_;obtain⟨y,H2,I2,r2,q2⟩:=zz;exact hf v u s2 x y H2 I2 r1 r2 q2
theorem Zar (ho:OpR X (binaryOp op) r)(ha:PE X a ta)(hb:PE X b tb):PE X (.BinOp a op b pos) (tOp r ta tb):=by intro Ar s U H Q I h;exact wpAny_BinOp (binT ha hb I h λv u s2 x y H2 I2 rx ry q=>ho Ar s2 U H2 x y v u Q I2 rx ry q)
theorem Zh8 (ho:UnR X (unaryOp op) r)(ha:PE X a ta):PE X (.UnaryOp op a pos) (tUn r ta):=by intro Ar s U H Q I h;exact UnaryOp_ (thn (ha Ar s U H _ I h) λv s1 ⟨x,H1,I1,r1,q1⟩=>ho Ar s1 U H1 x v Q I1 r1 q1)
theorem opI {f:Value->Value->Sem Value}{C:Int->Int->Prop}{g:Int->Int->Int}
  (rule:∀(i j:Int) (t u:Tok) (s:AF) (Q:Q33) (E:Q33),C i j->Q (.int (g i j) s.toks) { s with toks:=s.toks+1 }->wpAny (model X.prog X.w) X.A (f (.int i t) (.int j u)) Q E s):
  OpR X f (rI C λi j=>.int (g i j)):=by
 intro Ar s U H x y v u Q I rx ry h;obtain⟨i,j,rfl,rfl,hc,q⟩:=h;obtain⟨t,rfl⟩:=rx;obtain⟨t',rfl⟩:=ry;exact rule i j t t' s _ _ hc ⟨.int (g i j),H,I.tok _,⟨_,rfl⟩,q⟩
theorem opI0 {f:Value->Value->Sem Value}{g:Int->Int->Int}
  (rule:∀(i j:Int) (t u:Tok) (s:AF) (Q:Q33) (E:Q33),Q (.int (g i j) s.toks) { s with toks:=s.toks+1 }->wpAny (model X.prog X.w) X.A (f (.int i t) (.int j u)) Q E s):
  OpR X f (rI0 λi j=>.int (g i j)):=by
 intro Ar s U H x y v u Q I rx ry h;obtain⟨i,j,rfl,rfl,q⟩:=h;obtain⟨t,rfl⟩:=rx;obtain⟨t',rfl⟩:=ry;exact rule i j t t' s _ _ ⟨.int (g i j),H,I.tok _,⟨_,rfl⟩,q⟩
theorem opB0 {f:Value->Value->Sem Value}{g:Int->Int->Bool}
  (rule:∀(i j:Int) (t u:Tok) (s:AF) (Q:Q33) (E:Q33),Q (.bool (g i j)) s->wpAny (model X.prog X.w) X.A (f (.int i t) (.int j u)) Q E s):
  OpR X f (rI0 λi j=>.bl (g i j)):=by
 intro Ar s U H x y v u Q I rx ry h;obtain⟨i,j,rfl,rfl,q⟩:=h;obtain⟨t,rfl⟩:=rx;obtain⟨t',rfl⟩:=ry;exact rule i j t t' s _ _ ⟨.bl (g i j),H,I,rfl,q⟩
def CDiv (i j:Int):Prop:=0<j/\j<1073741824
def CPow (i j:Int):Prop:=0<=j/\j<=1000000/\i.natAbs<2 ^ 64
def CMul (i j:Int):Prop:=(-(2 ^ 64)<i/\i<2 ^ 64)\/(-(2 ^ 64)<j/\j<2 ^ 64)
theorem CMul.ok (h:CMul i j):IntMulOk i j:=by
 rcases h with⟨h1,h2⟩|⟨h1,h2⟩
 .exact .of_left (intBits_le_64 h1 h2)
 .exact .of_right (intBits_le_64 h1 h2)
theorem Zbo:OpR X (binaryOp .Add) (rI0 λi j=>.int (i+j)):=opI0 λ_ _ _ _ _ _ _ q=>add_int q
theorem ZiV:OpR X (binaryOp .Sub) (rI0 λi j=>.int (i-j)):=opI0 λ_ _ _ _ _ _ _ q=>sub_int q
theorem Zes:OpR X (binaryOp .Mult) (rI CMul λi j=>.int (i*j)):=opI λ_ _ _ _ _ _ _ hc q=>mul_int q hc.ok
theorem Zbg:OpR X (binaryOp .FloorDiv) (rI CDiv λi j=>.int (i/j)):=opI λi j _ _ _ _ _ hc q=>by have h1:(0:Int)<j:=hc.1;have h2:j<1073741824:=hc.2;exact floordiv_int (by lia) (by rw[Int.fdiv_eq_ediv_of_nonneg i (by lia)];exact q) (.inl (PyProof.noPylong_small (by lia)))
theorem ZaX:OpR X (binaryOp .Mod) (rI (λ_ j=>0<j) λi j=>.int (i % j)):=opI λi j _ _ _ _ _ hc q=>by have h1:(0:Int)<j:=hc;exact mod_int' (by lia) (by rw[Int.fmod_eq_emod_of_nonneg i (by lia)];exact q)
theorem ZnZ:OpR X (binaryOp .Pow) (rI CPow λi j=>.int (i ^ j.toNat)):=opI λ_ _ _ _ _ _ _ hc q=>pow_int_small hc.1 hc.2.1 hc.2.2 q
theorem unI {f:Value->Sem Value}{g:Int->Int}
  (rule:∀(i:Int) (t:Tok) (s:AF) (Q:Q33) (E:Q33),Q (.int (g i) s.toks) { s with toks:=s.toks+1 }->wpAny (model X.prog X.w) X.A (f (.int i t)) Q E s):
  UnR X f (rU λi=>.int (g i)):=by
 intro Ar s U H x v Q I rx h;obtain⟨i,rfl,q⟩:=h;obtain⟨t,rfl⟩:=rx;exact rule i t s _ _ ⟨.int (g i),H,I.tok _,⟨_,rfl⟩,q⟩
theorem Zek:UnR X (unaryOp .USub) (rU λi=>.int (-i)):=unI λ_ _ _ _ _ q=>neg_int q
end
noncomputable def scal:V->V->Bool
 | .non,.non=>true | .non,.int _=>true | .int _,.non=>true | .non,.bl _=>true | .bl _,.non=>true | .non,.str _=>true | .str _,.non=>true
 | .int _,.int _=>true | .bl _,.bl _=>true | .str _,.str _=>true | .byt _,.byt _=>true
 | .int _,.str _=>true | .str _,.int _=>true | .bl _,.str _=>true | .str _,.bl _=>true
 | _,_=>false
def rEq:R2:=λx y H Q=>scal x y=true/\Q (.bl (decide (x=y))) H
def rNe:R2:=λx y H Q=>scal x y=true/\Q (.bl (!decide (x=y))) H
theorem ZjK:decide (V.int i=V.int j)=(i == j):=by rw[YBU];simp
theorem ZlG:decide (V.bl i=V.bl j)=(i == j):=by rw[YBU];simp
theorem ZjJ:decide (V.str i=V.str j)=(i == j):=by rw[YBU];simp
theorem ZjL:decide (V.byt i=V.byt j)=(i.toList == j.toList):=by rw[YBU];cases i;cases j;simp
section
theorem ZaQ (I:Inv X Ar U H s)(q:Q (.bl k) H)(e:k=k'):EP X Ar U Q (.bool k') s:=by subst e;exact⟨.bl k,H,I,rfl,q⟩
theorem Zqj:OpR X (compareOp .Eq) rEq:=by
 intro Ar s U H x y v u Q I rx ry h;obtain⟨hs,q⟩:=h;cases x with
 | non=>
  cases rx;cases y with
  | non=>cases ry;exact PySem.EqNone.eq_none_none (ZaQ I q (by simp))
  | bl j=>cases ry;exact PySem.EqNone.eq_none_bool (ZaQ I q (by simp))
  | int j=>obtain⟨t',rfl⟩:=ry;exact PySem.EqNone.eq_none_int (ZaQ I q (by simp))
  | str j=>obtain⟨t',rfl⟩:=ry;exact PySem.EqNone.eq_none_str (ZaQ I q (by simp))
  | _=>exact absurd (show false=true from hs) YAC
 | bl i=>
  cases rx;cases y with
  | non=>cases ry;exact PySem.EqNone.eq_bool_none (ZaQ I q (by simp))
  | bl j=>cases ry;exact eq_bool (ZaQ I q ZlG)
  | str j=>obtain⟨t',rfl⟩:=ry;exact PySem.EqMixed.eq_bool_str (ZaQ I q (by simp))
  | _=>exact absurd (show false=true from hs) YAC
 | int i=>
  obtain⟨t,rfl⟩:=rx;cases y with
  | non=>cases ry;exact PySem.EqNone.eq_int_none (ZaQ I q (by simp))
  | int j=>obtain⟨t',rfl⟩:=ry;exact eq_int (ZaQ I q ZjK)
  | str j=>obtain⟨t',rfl⟩:=ry;exact PySem.EqMixed.eq_int_str (ZaQ I q (by simp))
  | _=>exact absurd (show false=true from hs) YAC
 | str i=>
  obtain⟨t,rfl⟩:=rx;cases y with
  | non=>cases ry;exact PySem.EqNone.eq_str_none (ZaQ I q (by simp))
  | bl j=>cases ry;exact PySem.EqMixed.eq_str_bool (ZaQ I q (by simp))
  | int j=>obtain⟨t',rfl⟩:=ry;exact PySem.EqMixed.eq_str_int (ZaQ I q (by simp))
  | str j=>obtain⟨t',rfl⟩:=ry;exact eq_str (ZaQ I q ZjJ)
  | _=>exact absurd (show false=true from hs) YAC
 | byt i=>
  obtain⟨t,rfl⟩:=rx;cases y with
  | byt j=>obtain⟨t',rfl⟩:=ry;exact PySem.W.eq_bytes (ZaQ I q ZjL)
  | _=>exact absurd (show false=true from hs) YAC
 | _=>cases y<;>exact absurd (show false=true from hs) YAC
theorem Zqg:OpR X (compareOp .NotEq) rNe:=by
 intro Ar s U H x y v u Q I rx ry h;obtain⟨hs,q⟩:=h;cases x with
 | non=>
  cases rx;cases y with
  | non=>cases ry;exact PySem.EqNone.ne_none_none (ZaQ I q (by simp))
  | bl j=>cases ry;exact PySem.EqNone.ne_none_bool (ZaQ I q (by simp))
  | int j=>obtain⟨t',rfl⟩:=ry;exact PySem.EqNone.ne_none_int (ZaQ I q (by simp))
  | str j=>obtain⟨t',rfl⟩:=ry;exact PySem.EqNone.ne_none_str (ZaQ I q (by simp))
  | _=>exact absurd (show false=true from hs) YAC
 | bl i=>
  cases rx;cases y with
  | non=>cases ry;exact PySem.EqNone.ne_bool_none (ZaQ I q (by simp))
  | bl j=>cases ry;exact ne_bool (ZaQ I q (congrArg not ZlG))
  | str j=>obtain⟨t',rfl⟩:=ry;exact PySem.EqMixed.ne_bool_str (ZaQ I q (by simp))
  | _=>exact absurd (show false=true from hs) YAC
 | int i=>
  obtain⟨t,rfl⟩:=rx;cases y with
  | non=>cases ry;exact PySem.EqNone.ne_int_none (ZaQ I q (by simp))
  | int j=>obtain⟨t',rfl⟩:=ry;exact ne_int (ZaQ I q (congrArg not ZjK))
  | str j=>obtain⟨t',rfl⟩:=ry;exact PySem.EqMixed.ne_int_str (ZaQ I q (by simp))
  | _=>exact absurd (show false=true from hs) YAC
 | str i=>
  obtain⟨t,rfl⟩:=rx;cases y with
  | non=>cases ry;exact PySem.EqNone.ne_str_none (ZaQ I q (by simp))
  | bl j=>cases ry;exact PySem.EqMixed.ne_str_bool (ZaQ I q (by simp))
  | int j=>obtain⟨t',rfl⟩:=ry;exact PySem.EqMixed.ne_str_int (ZaQ I q (by simp))
  | str j=>obtain⟨t',rfl⟩:=ry;exact ne_str (ZaQ I q (congrArg not ZjJ))
  | _=>exact absurd (show false=true from hs) YAC
 | byt i=>
  obtain⟨t,rfl⟩:=rx;cases y with
  | byt j=>obtain⟨t',rfl⟩:=ry;exact PySem.W.ne_bytes (ZaQ I q (congrArg not ZjL))
  | _=>exact absurd (show false=true from hs) YAC
 | _=>cases y<;>exact absurd (show false=true from hs) YAC
theorem Zh9:OpR X (compareOp .Lt) (rI0 λi j=>.bl (decide (i<j))):=opB0 λ_ _ _ _ _ _ _ q=>lt_int q
theorem Zqh:OpR X (compareOp .LtE) (rI0 λi j=>.bl (decide (i<=j))):=opB0 λ_ _ _ _ _ _ _ q=>le_int q
theorem Zib:OpR X (compareOp .Gt) (rI0 λi j=>.bl (decide (j<i))):=opB0 λ_ _ _ _ _ _ _ q=>gt_int q
theorem Zqi:OpR X (compareOp .GtE) (rI0 λi j=>.bl (decide (j<=i))):=opB0 λ_ _ _ _ _ _ _ q=>ge_int q
theorem ZiX:OpR X (compareOp .Lt) (λx y H Q=>∃i j,x=.str i/\y=.str j/\Q (.bl (decide (i.cps.toList<j.cps.toList))) H):=by intro Ar s U H x y v u Q I rx ry h;obtain⟨i,j,rfl,rfl,q⟩:=h;obtain⟨t,rfl⟩:=rx;obtain⟨t',rfl⟩:=ry;exact lt_str (ZaQ I q rfl)
theorem ZfG:OpR X (compareOp .In) (λx y H Q=>∃i j,x=.str i/\y=.str j/\Q (.bl (!(Builtin.Str.occurrences j i 0 j.length 1).isEmpty)) H):=by intro Ar s U H x y v u Q I rx ry h;obtain⟨i,j,rfl,rfl,q⟩:=h;obtain⟨t,rfl⟩:=rx;obtain⟨t',rfl⟩:=ry;exact in_str (ZaQ I q rfl)
theorem ZfE:OpR X (compareOp .NotIn) (λx y H Q=>∃i j,x=.str i/\y=.str j/\Q (.bl (!(!(Builtin.Str.occurrences j i 0 j.length 1).isEmpty))) H):=by intro Ar s U H x y v u Q I rx ry h;obtain⟨i,j,rfl,rfl,q⟩:=h;obtain⟨t,rfl⟩:=rx;obtain⟨t',rfl⟩:=ry;exact notIn_str (ZaQ I q rfl)
theorem Zaz (b:Expr){op:CmpOp}(h:op≠.In:=by decide)(h2:op≠.NotIn:=by decide):behindInMarks op b=false:=by
 have e1:(op == CmpOp.In)=false:=by cases op<;>first | rfl | exact absurd rfl h
 have e2:(op == CmpOp.NotIn)=false:=by cases op<;>first | rfl | exact absurd rfl h2
 cases b<;>simp[behindInMarks,e1,e2]
theorem ZaW (ho:OpR X (compareOp op) r)(ha:PE X a ta)(hb:PE X b tb)(hm:behindInMarks op b=false):PE X (.Compare a [op] [b] pos) (tOp r ta tb):=by intro Ar s U H Q I h;exact wpAny_Compare1 (binT ha hb I h λv u s2 x y H2 I2 rx ry q=>ho Ar s2 U H2 x y v u Q I2 rx ry q) hm
def ZlV (t:TE):TT:=λU H Q=>t U H λx H'=>∃k,x=.bl k/\Q k H'
theorem Zaw (ho:OpR X (compareOp op) r)(ha:PE X a ta)(hb:PE X b tb)(hm:behindInMarks op b=false):PT X (.Compare a [op] [b] pos) (ZlV (tOp r ta tb)):=by
 intro Ar s U H Q I h;refine wpAny_isTrue_Compare1 (thn (ha Ar s U H _ I h) λv s1 ⟨x,H1,I1,r1,q1⟩=>thn (hb Ar s1 U H1 _ I1 q1) λu s2 ⟨y,H2,I2,r2,q2⟩=>
  thn (ho Ar s2 U H2 x y v u _ I2 r1 r2 q2) λc s3 ⟨z,H3,I3,r3,k,e,q3⟩=>?_) hm
 subst e;cases r3;exact YCV ⟨H3,I3,q3⟩
theorem Zhv:(sizeLine:Nat)<2 ^ 63:=by rw[sizeLine_eq];decide
theorem Zic:OpR X (binaryOp .Add) (λx y H Q=>∃i j,x=.str i/\y=.str j/\i.length+j.length<=sizeLine/\Q (.str (i++j)) H):=by intro Ar s U H x y v u Q I rx ry h;obtain⟨i,j,rfl,rfl,hz,q⟩:=h;obtain⟨t,rfl⟩:=rx;obtain⟨t',rfl⟩:=ry;exact add_str (λt' tk=>⟨.str (i++j),H,I.tok _,⟨_,rfl⟩,q⟩) hz
theorem vals1 (r:Vals [x] us):∃u,us=[u]/\RelV x u:=by
 cases r with
 | cons r1 r2=>cases r2;exact⟨_,rfl,r1⟩
theorem vals2 (r:Vals [x,y] us):∃u w',us=[u,w']/\RelV x u/\RelV y w':=by
 cases r with
 | cons r1 r2=>
  cases r2 with
  | cons r3 r4=>cases r4;exact⟨_,_,rfl,r1,r3⟩
theorem ZjR (hc:X.calm=true):Zcc X (.builtin "min") (λxs H Q=>∃i j,xs=[.int i,.int j]/\Q (.int (if j<i then j else i)) H):=by
 intro Ar s U H xs us Q I r h;obtain⟨i,j,rfl,q⟩:=h;obtain⟨u,w',rfl,⟨t,rfl⟩,⟨t',rfl⟩⟩:=vals2 r;refine min_two_ints (I.ok.hd hc) λh' tk k=>⟨_,H,I.kept k,?_,q⟩;by_cases hj:j<i
 .rw[YAM hj,YAM hj];exact⟨_,rfl⟩
 .rw[YAJ hj,YAJ hj];exact⟨_,rfl⟩
theorem ZjT:Zcc X (.type "int") (λxs H Q=>(∃i,xs=[.int i]/\Q (.int i) H)\/∃k,xs=[.bl k]/\Q (.int (if k then 1 else 0)) H):=by
 intro Ar s U H xs us Q I r h;rcases h with⟨i,rfl,q⟩|⟨k,rfl,q⟩
 .obtain⟨u,rfl,t,rfl⟩:=vals1 r;exact call_int_int ⟨.int i,H,I,⟨_,rfl⟩,q⟩
 .obtain⟨u,rfl,r1⟩:=vals1 r;cases r1;exact call_int_bool ⟨.int (if k then 1 else 0),H,I.tok _,⟨_,rfl⟩,q⟩
def LenV (K:Q4)(x:V)(H:Hp)(n:Nat):Prop:=
 match x with
 | .str y=>y.length<=sizeLine/\n=y.length
 | .byt y=>y.size<=sizeLine/\n=y.size
 | .ref p=>(∃xs,SqL K H p xs/\n=xs.length)\/∃xs,SqT K H p xs/\n=xs.length
 | _=>False
theorem Zk6:Zcc X (.builtin "len") (λxs H Q=>∃x n,xs=[x]/\LenV X.K x H n/\Q (.int n) H):=by
 intro Ar s U H xs us Q I r h;obtain⟨x,n,rfl,e,q⟩:=h;obtain⟨u,rfl,rx⟩:=vals1 r;have hl:=Zhv;have hs:sizeLine=16777216:=sizeLine_eq;cases x with
 | str y=>
  obtain⟨t,rfl⟩:=rx;obtain⟨hy,e'⟩:y.length<=sizeLine/\n=y.length:=e;subst e';exact len_str (by lia) ⟨.int _,H,I.tok _,⟨_,rfl⟩,q⟩
 | byt y=>
  obtain⟨t,rfl⟩:=rx;obtain⟨hy,e'⟩:y.size<=sizeLine/\n=y.size:=e;subst e';exact PySem.W.len_bytes (by lia) ⟨.int _,H,I.tok _,⟨_,rfl⟩,q⟩
 | ref p=>
  cases rx;have e':(∃xs,SqL X.K H p xs/\n=xs.length)\/∃xs,SqT X.K H p xs/\n=xs.length:=e;rcases e' with⟨xs,hx,e'⟩|⟨xs,hx,e'⟩
  .subst e';obtain⟨its,r',pl,hz⟩:=I.list hx;have Au:=r'.length;exact Calls.call_len_list pl.isList (by simp only[YAO];lia) ⟨.int xs.length,H,I.tok _,⟨_,by simp only[YAO];rw[Au]⟩,q⟩
  .subst e';obtain⟨its,r',pl,hz⟩:=I.tuple hx;have Au:=r'.length;exact len_tuple pl (by simp only[YAO];lia) ⟨.int xs.length,H,I.tok _,⟨_,by simp only[YAO];rw[Au]⟩,q⟩
 | _=>exact(show False from e).elim
end
structure ObjM (h:Heap)(x dx C:AE)(mA:AC):Prop where
 obj:h.get? x=some (instObj C dx)
 ns:h.Ns1 dx mA
 ne:dx≠x
theorem ZdV {h:Heap}{dx:AE}{mA:AC}(n:h.Ns1 dx mA):∃od,h.get? dx=some od/\∀name,lookIn name od=some (mA name):=by
 obtain⟨o,es,ep,ho,hd,hk,_,hm⟩:=n;refine⟨o,ho,λname=>?_⟩;have e:=hm name;unfold nsFind findBy at e;rw[<-Array.find?_toList]at e;unfold lookIn;rw[hd];dsimp only;split
 .rename_i y q
  rw[q]at e;exact congrArg some e
 .rename_i q
  rw[q]at e;have a:es.toList.any (·.refKey)=false:=by rw[List.any_eq_false];intro y hy;obtain⟨z,t,hkey⟩:=hk y (Array.mem_toList_iff.mp hy);simp[DictEntry.refKey,hkey]
  have a':¬es.toList.any (·.refKey)=true:=by rw[a];exact YAC
  rw[YAJ a'];exact congrArg some e
theorem ObjM.look (I:ObjM h x dx C mA):∃od,PySem.W.InstAt h x (instObj C dx) C (some od)/\∀name,lookIn name od=some (mA name):=
 let ⟨od,ho,hl⟩:=ZdV I.ns
 ⟨od,⟨I.obj,rfl,rfl,ho⟩,hl⟩
section
variable {prog:AH}{w:AJ}{A:AI}{E:Q33}{s:AF}{K:Q4}{x dx C f:AE}{mA:AC}{name:Str}{v:Value}
theorem ZmK (X:K.In s.heap)(I:ObjM s.heap x dx C mA)(hg:plainGet K C name=true)(hh:hasDictIn K C=true)
  (ha:findIn K (.ref C) name=some none) (hv:mA name=some v) (hv':handedIn v=true) (h:Q v { s with toks:=s.toks+1 }):
  wpAny (model prog w) A (getAttr (.ref x) name expr) Q E s:=by
 obtain⟨od,J,hl⟩:=I.look;exact PySem.W.get_value X J (plainGet_of hg).1 (PySem.W.findObj_own hh ha rfl (by rw[hl,hv])) hv' h
theorem ZkO (X:K.In s.heap)(I:ObjM s.heap x dx C mA)(hg:plainGet K C name=true)
  (hf:findIn K (.ref C) name=some (some (.ref f))) (ht:isFn K (.ref f)=true) (hv:mA name=none) (h:Q (.ref f,[.ref x]) s):
  wpAny (model prog w) A (getMethod (.ref x) name pl) Q E s:=by
 obtain⟨od,J,hl⟩:=I.look;exact PySem.W.method_fn X J (plainGet_of hg).1 (plainGet_of hg).2 hf (beq_iff_eq.mp ht) (by show (lookIn name od).map (·.isSome)=some false;rw[hl,hv];rfl) h
theorem Zl6 (X:K.In s.heap)(I:ObjM s.heap x dx C mA)
  (hs:findIn K (.ref C) "__setattr__"=some (some (.builtin "object.__setattr__"))) (hp:plainOver K C=true) (ht:takerIn K C name=some none) (hh:hasDictIn K C=true)
  (hw:PySem.Within mA ns) (hsz:ns.length<=sizeLine)
  (h:∀h',ObjM h' x dx C (λy=>if y=name then some v else mA y)->Heap.SameBut dx s.heap h'->Q () { s with heap:=h',toks:=s.toks+2 }):
  wpAny (model prog w) A (setAttr (.ref x) name v) Q E s:=by
 obtain⟨od,J,hl⟩:=I.look;refine PySem.W.set_plain X J hs (PySem.W.osa_open (s:={ s with toks:=s.toks+1 }) (r:=none) X J hp ht λb=>?_);obtain⟨cd,hc,hd'⟩:=YDV hh;have hx:s.heap.get? x=some ⟨.ref C,some dx,.plain,#[]⟩:=I.obj;refine YAA (YAD (YAA (YAA (wpAny_loadPart hx (YAA (PySem.W.Looks.here (s:={ s with toks:=s.toks+1 }) (PySem.W.looks_clsIn X hc) ?_))))));rw[hd'];refine YAD (a:=some dx) (YAA (YAD (YAA ?_)));refine wpAny_nsSet1 (s:={ s with toks:=s.toks+1 }) I.ns λh' hn2 hs2=>?_;obtain⟨oD,esD,epD,hoD,hdD,hcD⟩:=hn2.count (PySem.Within.cons name v hw);refine YAA (wpAny_lookBehind hoD (by rw[hdD];exact pastItsLine_dict (YAK hcD (by rw[YAf];lia))) ?_);exact YAD (h _ ⟨(hs2.2 _ (YAk I.ne)).trans I.obj,hn2,I.ne⟩ hs2)
theorem Zky (X:K.In s.heap)(hm:makesIn K C=true)
  (hi:findIn K (.ref C) "__init__"=some (some (.ref f))) (hf:typeIn K (.ref f)=some (.type "function"))
  (h:codeAny (model prog w) (A.under (.builtin "type.__call__" ⟨.ref C::vs,kw⟩)) (.call (.ref f) ⟨.ref (s.heap.objs.size+1)::vs,kw⟩) (PySem.W.InitBack (s.heap.objs.size+1) R)
   { s with heap:=(s.heap.push emptyDict).push (instObj C s.heap.objs.size) }):
  codeAny (model prog w) A (.call (.ref C) ⟨vs,kw⟩) R s:=by
 obtain⟨hh,g,d,t,os⟩:=s;exact PySem.W.make_core (PySem.W.makes_of X hm) (looks_findIn X hi) (λself=>PySem.W.bind_fn X self hf) (.inl rfl) h
end
noncomputable def putF (f:Str)(v:V):List (Str×V)->List (Str×V)
 | []=>[(f,v)]
 | (g,x)::r=>if g=f then (g,v)::r else (g,x)::putF f v r
theorem Zas (f g:Str)(v:V):∀fs:List (Str×V),(putF f v fs).lookup g=if g=f then some v else fs.lookup g
 | []=>by
  show List.lookup g [(f,v)]=_;by_cases h:g=f
  .have hb:(g == f)=true:=beq_iff_eq.mpr h;simp only[List.lookup,hb,YAM h]
  .have hb:(g == f)=false:=beq_eq_false_iff_ne.mpr h;simp only[List.lookup,hb,YAJ h]
 | (k,x)::r=>by
  have ih:=Zas f g v r;rw[show putF f v ((k,x)::r)=(if k=f then (k,v)::r else (k,x)::putF f v r) from rfl];by_cases hk:k=f
  .rw[YAM hk];by_cases h:g=k
   .have hb:(g == k)=true:=beq_iff_eq.mpr h;simp only[List.lookup,hb,YAM (h.trans hk)]
   .have hb:(g == k)=false:=beq_eq_false_iff_ne.mpr h;simp only[List.lookup,hb,YAJ (λe:g=f=>h (e.trans hk.symm))]
  .rw[YAJ hk];by_cases h:g=k
   .have hb:(g == k)=true:=beq_iff_eq.mpr h;simp only[List.lookup,hb,YAJ (λe:g=f=>hk (h.symm.trans e))]
   .have hb:(g == k)=false:=beq_eq_false_iff_ne.mpr h;simp only[List.lookup,hb];exact ih
theorem Zd0 (f:Str)(v:V):∀fs:List (Str×V),f∈(putF f v fs).map (·.1)/\∀g,g∈fs.map (·.1)->g∈(putF f v fs).map (·.1)
 | []=>⟨by simp[putF],λg h=>by simp at h⟩
 | (k,x)::r=>by
  obtain⟨i1,i2⟩:=Zd0 f v r;rw[show putF f v ((k,x)::r)=(if k=f then (k,v)::r else (k,x)::putF f v r) from rfl];by_cases hk:k=f
  .rw[YAM hk];subst hk;exact⟨by simp,λg h=>by simpa using h⟩
  .rw[YAJ hk];refine⟨?_,λg h=>?_⟩
   .rw[YAi];exact YAV _ i1
   .rw[YAi]at h ⊢;rcases YAH.mp h with e | e
    .exact YAH.mpr (.inl e)
    .exact YAV _ (i2 g e)
theorem ZdW (f:Str)(v:V):∀fs:List (Str×V),(putF f v fs).length<=fs.length+1
 | []=>by simp[putF]
 | (k,x)::r=>by
  have ih:=ZdW f v r;rw[show putF f v ((k,x)::r)=(if k=f then (k,v)::r else (k,x)::putF f v r) from rfl];by_cases hk:k=f
  .rw[YAM hk,YAf,YAf];lia
  .rw[YAJ hk,YAf,YAf];lia
theorem RelO.some_of (r:RelO (some v) o):∃u,o=some u/\RelV v u:=by
 cases o with
 | none=>exact(show False from r).elim
 | some u=>exact⟨u,rfl,r⟩
theorem RelO.none_of (r:RelO none o):o=none:=by
 cases o with
 | none=>rfl
 | some u=>exact(show False from r).elim
theorem Zjx (r:RelV v u):handedIn u=true:=by
 cases v with
 | non=>cases (show u=Value.none from r);rfl
 | bl b=>cases (show u=Value.bool b from r);rfl
 | int i=>obtain⟨t,e⟩:=(show ∃t,u=Value.int i t from r);cases e;rfl
 | str x=>obtain⟨t,e⟩:=(show ∃t,u=Value.str x t from r);cases e;rfl
 | byt b=>obtain⟨t,e⟩:=(show ∃t,u=Value.bytes b t from r);cases e;rfl
 | flt b=>obtain⟨t,e⟩:=(show ∃t,u=Value.float b t from r);cases e;rfl
 | ref a=>cases (show u=Value.ref a from r);rfl
 | ty n=>cases (show u=Value.type n from r);rfl
section
theorem Ze5 (hok:HOk P w H h)(e:H a=some (.ins C dx fs)):∃mA,ObjM h a dx C mA/\(∀f,RelO (fs.lookup f) (mA f))/\PySem.Within mA (fs.map (·.1))/\fs.length<=1000/\H dx=some (.own a):=by obtain⟨d,z,ne,ob,mA,n,r,q⟩:=(show ObjOk P w H h a (.ins C dx fs) from hok a _ e);exact⟨mA,⟨ob,n,ne⟩,r,q,z,d⟩
end
structure Cls (K:Q4)(C:AE):Prop where
 pg:plainGet K C Str.empty=true
 hd:hasDictIn K C=true
 po:plainOver K C=true
 sa:findIn K (.ref C) "__setattr__"=some (some (.builtin "object.__setattr__"))
theorem Cls.get {K:Q4}{C:AE}(c:Cls K C)(f:Str):plainGet K C f=true:=c.pg
def NoAttr (K:Q4)(C:AE)(f:Str):Prop:=findIn K (.ref C) f=some none
theorem NoAttr.taker {K:Q4}{C:AE}{f:Str}(n:NoAttr K C f):takerIn K C f=some none:=by unfold takerIn;rw[show findIn K (.ref C) f=some none from n];rfl
structure Meth (K:Q4)(C:AE)(m:Str)(f:AE):Prop where
 at_:findIn K (.ref C) m=some (some (.ref f))
 fn:isFn K (.ref f)=true
 kp:keepIn K (.ref f)=true
section
theorem Zim (I:Inv X Ar U H s)(e:H a=some (.ins C dx fs))(c:Cls X.K C)(n:NoAttr X.K C f)(l:fs.lookup f=some v)
  (h:∀u s',Inv X Ar U H s'->RelV v u->Q u s'):wpAny (model X.prog X.w) A (getAttr (.ref a) f b) Q E s:=by
 obtain⟨mA,O,r,_,_,_⟩:=Ze5 I.hok e;obtain⟨u,hu,ru⟩:=RelO.some_of (v:=v) (o:=mA f) (by rw[<-l];exact r f);exact ZmK I.kIn O (c.get f) c.hd n hu (Zjx ru) (h u _ (I.tok _) ru)
theorem Zey (I:Inv X Ar U H s)(e:H a=some (.ins C dx fs))(c:Cls X.K C)(k:Meth X.K C m g)(l:fs.lookup m=none)
  (h:Q (.ref g,[.ref a]) s):wpAny (model X.prog X.w) A (getMethod (.ref a) m pl) Q E s:=by
 obtain⟨mA,O,r,_,_,_⟩:=Ze5 I.hok e;have hn:mA m=none:=RelO.none_of (by rw[<-l];exact r m);exact ZkO I.kIn O (c.get m) k.at_ k.fn hn h
theorem Zh3 (I:Inv X Ar U H s)(e:H a=some (.ins C dx fs))(c:Cls X.K C)(n:NoAttr X.K C f)(hl:fs.length<1000)(ry:RelV y u)
  (h:∀s',Inv X Ar U (upd H a (.ins C dx (putF f y fs))) s'->Q () s'):wpAny (model X.prog X.w) A (setAttr (.ref a) f u) Q E s:=by
 obtain⟨mA,O,r,wi,_,ho⟩:=Ze5 I.hok e;have hz:(fs.map (·.1)).length<=sizeLine:=by rw[YAB,sizeLine_eq];lia
 refine Zl6 I.kIn O c.sa c.po n.taker c.hd wi hz λh' O' sb=>h _ ?_;have hd:∃o,h'.get? dx=some o:=let ⟨o,_,_,e',_⟩:=O'.ns;⟨o,e'⟩;refine I.write (x:=a) (e:=dx) (by rw[e];exact True.intro) (.inr ho) (λb q hb z=>(sb.2 b hb).trans z) hd ?_;refine⟨by rw[Zah O.ne];exact ho,?_,O.ne,O'.obj,_,O'.ns,λg=>?_,λg hg=>?_⟩
 .have:=ZdW f y fs;lia
 .show RelO ((putF f y fs).lookup g) (if g=f then some u else mA g);rw[Zas];by_cases q:g=f
  .rw[YAM q,YAM q];exact ry
  .rw[YAJ q,YAJ q];exact r g
 .by_cases q:g=f
  .rw[q];exact(Zd0 f y fs).1
  .refine(Zd0 f y fs).2 g (wi g λz=>hg ?_);show (if g=f then some u else mA g)=none;rw[YAJ q];exact z
theorem Inv.made (I:Inv X Ar U H s):Inv X Ar U (upd (upd H s.heap.objs.size (.own (s.heap.objs.size+1))) (s.heap.objs.size+1) (.ins C s.heap.objs.size []))
  { s with heap:=(s.heap.push emptyDict).push (instObj C s.heap.objs.size) }:=by
 have e1:(s.heap.push emptyDict).get? s.heap.objs.size=some emptyDict:=YAY s.heap rfl;have e2:((s.heap.push emptyDict).push (instObj C s.heap.objs.size)).get? (s.heap.objs.size+1)=some (instObj C s.heap.objs.size):=by
  have:=YAY (s.heap.push emptyDict) (o:=instObj C s.heap.objs.size) rfl
  rwa [YBm]at this
 have e3:(s.heap.push emptyDict).Ns s.heap.objs.size (λ_=>none):=⟨emptyDict,#[],_,e1,rfl,(λe he=>absurd he (by simp)),λ_=>rfl⟩;have I1:=I.laid (a:=s.heap.objs.size) (o:=.own (s.heap.objs.size+1)) (h':=s.heap.push emptyDict) (t':=s.toks) (λb u q=>YAE _ q) (YAP _) ⟨_,e1⟩;refine I1.laid (a:=s.heap.objs.size+1) (o:=.ins C s.heap.objs.size []) (t':=s.toks) (λb u q=>YAE _ q) (YCo (YBm _ _)) ?_;have ne:s.heap.objs.size≠s.heap.objs.size+1:=YAe (Nat.lt_succ_self _);refine⟨by rw[Zah ne,Zae],YAt _,ne,e2,λ_=>none,(Heap.Ns1.of_empty e3).at λo q=>YAE _ q,λ_=>True.intro,λy hy=>absurd rfl hy⟩
theorem Zm2 (hb:attributeBase e f env (eval e env)=eval e env)
  (h:wpAny (model prog w) A (eval e env) (λo s_1=>wpAny (model prog w) A (getAttr o f true) Q E s_1) E s):wpAny (model prog w) A (eval (.Attribute e f pos) env) Q E s:=
 Attribute_any_ h (by rw[arm_eval_Attribute,hb])
end
def tFld (K:Q4)(ta:TE)(f:Str):TE:=λU H Q=>ta U H λx H1=>∃a C dx fs v,x=.ref a/\H1 a=some (.ins C dx fs)/\Cls K C/\NoAttr K C f/\fs.lookup f=some v/\Q v H1
def sFld (K:Q4)(ta tv:TE)(f:Str):TS:=λD U H=>tv U H λy H1=>ta U H1 λx H2=>∃a C dx fs,x=.ref a/\H2 a=some (.ins C dx fs)/\Cls K C/\NoAttr K C f/\fs.length<1000 /\
 D.nx U (upd H2 a (.ins C dx (putF f y fs)))
section
theorem ZnX (he:PE X e ta)(hb:attributeBase e f X.env (eval e X.env)=eval e X.env):PE X (.Attribute e f pos) (tFld X.K ta f):=by intro Ar s U H Q I h;refine Zm2 hb (thn (he Ar s U H _ I h) λu s1 zz=>?_);obtain⟨x,H1,I1,rx,a,C,dx,fs,v,ex,ea,c,n,l,q⟩:=zz;subst ex;obtain rfl:u=Value.ref a:=rx;exact Zim I1 ea c n l λu' s2 I2 ru=>⟨v,H1,I2,ru,q⟩
theorem Zcl (ha:PE X o ta)(hv:PE X value tv)(hs:swapsWith value (some (.Attribute o f pos')) pos.line X.env=pure false):PS X (.Assign [.Attribute o f pos'] value pos) (sFld X.K ta tv f):=by intro Ar s U H D I h;refine plainObj_wpAny_Assign_Attribute (thn (hv Ar s U H _ I h) λu s1 ⟨y,H1,I1,ry,q⟩=>thn (ha Ar s1 U H1 _ I1 q) λov s2 zz=>?_) hs;obtain⟨x,H2,I2,rx,a,C,dx,fs,ex,ea,c,n,l,q2⟩:=zz;subst ex;obtain rfl:ov=Value.ref a:=rx;exact Zh3 I2 ea c n l ry λs3 I3=>⟨U,_,I3,q2⟩
end
section
inductive TyOf (K:Q4) (H:Hp):V->Value->Prop where
 | non:TyOf K H .non (.type "NoneType")
 | bl (x:Bool):TyOf K H (.bl x) (.type "bool")
 | int (i:Int):TyOf K H (.int i) (.type "int")
 | str (x:Str):TyOf K H (.str x) (.type "str")
 | flt (x:UInt64):TyOf K H (.flt x) (.type "float")
 | lst {a:AE} {xs:List V} (e:H a=some (.lst xs)):TyOf K H (.ref a) (.type "list")
 | frz {a:AE} {o:Obj} {xs:List V} (e:H a=some (.frz o (.lst xs))):TyOf K H (.ref a) (.type "list")
 | tup {a:AE} {xs:List V} (e:H a=some (.tup xs)):TyOf K H (.ref a) (.type "tuple")
 | dK {a:AE} {kvs:List (Key×V)} (e:H a=some (.dK kvs)):TyOf K H (.ref a) (.type "dict")
 | dT {a:AE} {kvs:List (List Key×V)} (e:H a=some (.dT kvs)):TyOf K H (.ref a) (.type "dict")
 | ins {a C dx:AE} {fs:List (Str×V)} (e:H a=some (.ins C dx fs)) (cl:Cls K C) (ha:findIn K (.ref C) "__class__"=some (some (.builtin "object.__class__")))
   (hn:specialIn K (.builtin "object.__class__") "__get__"=some (some (.builtin "getset_descriptor.__get__"))) (htk:takesIn K (.builtin "object.__class__")=some true)
   (hm:mroIn K C (.type "object")=some true):TyOf K H (.ref a) (.ref C)
theorem Zjq (I:Inv X Ar U H s)(rx:RelV x u)(ty:TyOf X.K H x t)(e:kitOne X.K t c=some b)(h:∀tk,Q (.bool b) { s with toks:=tk }):
  wpAny (model X.prog X.w) A (call (.builtin "isinstance") [u,c]) Q E s:=by
 cases ty with
 | non=>cases (show u=Value.none from rx);exact YBR PySem.W.kitx_none I.kIn True.intro e (λz=>nomatch z) h
 | bl y=>cases (show u=Value.bool y from rx);exact YBR PySem.W.kitx_bool I.kIn True.intro e (λz=>nomatch z) h
 | int i=>obtain⟨t,q⟩:=(show ∃t,u=Value.int i t from rx);cases q;exact YBR PySem.W.kitx_int I.kIn True.intro e (λz=>nomatch z) h
 | str y=>obtain⟨t,q⟩:=(show ∃t,u=Value.str y t from rx);cases q;exact YBR PySem.W.kitx_str I.kIn True.intro e (λz=>nomatch z) h
 | flt y=>obtain⟨t,q⟩:=(show ∃t,u=Value.float y t from rx);cases q;exact YBR PySem.W.kitx_float I.kIn True.intro e (λz=>nomatch z) h
 | @lst a xs ea=>
  cases (show u=Value.ref a from rx);obtain⟨_,_,n,_,h1⟩:=(show ObjOk X.prog X.w H s.heap a (.lst xs) from I.hok a _ ea);exact YBR kitx_list I.kIn ⟨_,h1,rfl⟩ e (λz=>nomatch z) h
 | @frz a ob xs ea=>
  cases (show u=Value.ref a from rx);obtain⟨_,_,_,n,_,h1⟩:=(show ObjOk X.prog X.w H s.heap a (.frz ob (.lst xs)) from I.hok a _ ea);exact YBR kitx_list I.kIn ⟨_,h1,rfl⟩ e (λz=>nomatch z) h
 | @tup a xs ea=>
  cases (show u=Value.ref a from rx);obtain⟨_,_,_,p⟩:=(show ObjOk X.prog X.w H s.heap a (.tup xs) from I.hok a _ ea);obtain⟨o,h1,h2,_⟩:=p;exact YBR kitx_tuple I.kIn ⟨o,h1,h2⟩ e (λz=>nomatch z) h
 | @dK a kvs ea=>
  cases (show u=Value.ref a from rx);obtain⟨_,_,vs,_,p⟩:=(show ObjOk X.prog X.w H s.heap a (.dK kvs) from I.hok a _ ea);obtain⟨o,es,ep,h1,h2,_⟩:=p;exact YBR kitx_dict I.kIn ⟨o,h1,h2.1⟩ e (λz=>nomatch z) h
 | @dT a kvs ea=>
  cases (show u=Value.ref a from rx);obtain⟨_,_,xs,_,o,es,ep,h1,h2,_⟩:=(show ObjOk X.prog X.w H s.heap a (.dT kvs) from I.hok a _ ea);exact YBR kitx_dict I.kIn ⟨o,h1,h2.1⟩ e (λz=>nomatch z) h
 | @ins a C dx fs ea cl ha hn htk hm=>
  cases (show u=Value.ref a from rx);obtain⟨mA,O,_⟩:=Ze5 I.hok ea;obtain⟨od,J,_⟩:=O.look;exact YBR (PySem.W.kitx_own (cl.get _) cl.hd ha hn htk hm) I.kIn J e (λz=>nomatch z) h
end
structure Room (k:Nat)(A:AI):Prop where
 hd:A.handled=none
 dp:A.depth+3*k+5<recursionLimit
 un:A.units+16*k+200<cLine
theorem Room.mono (r:Room k A)(h:j<=k):Room j A:=⟨r.hd,by have:=r.dp;lia,by have:=r.un;lia⟩
theorem Room.deeper (r:Room (k+1) A)(env:Env):Room k (A.deeper env):=
 ⟨r.hd,by have:=r.dp;show A.depth+1+3*k+5<_;lia,by have:=r.un;show A.units+3+16*k+200<_;lia⟩
theorem Zih {A:AI}{C:AE}{us:AD}{kw:List (Str×Value)}:(A.under (.builtin "type.__call__" ⟨.ref C::us,kw⟩)).depth=A.depth+1:=by
 first | rfl | simp[Around.under,Code.weight,Code.isCreation,Code.isGuard,Code.isCaller,Code.frames,Code.isFrame,guardIds]
theorem Zig {A:AI}{C:AE}{us:AD}{kw:List (Str×Value)}:(A.under (.builtin "type.__call__" ⟨.ref C::us,kw⟩)).units=A.units+1:=by
 first | rfl | simp[Around.under,Code.cUnits,Code.frames,Code.isFrame]
theorem Room.make (r:Room (k+1) A)(C:AE)(us:AD)(kw:List (Str×Value)):Room k (A.under (.builtin "type.__call__" ⟨.ref C::us,kw⟩)):=
 ⟨r.hd,by have:=r.dp;rw[Zih];lia,by have:=r.un;rw[Zig];lia⟩
theorem Room.depth (r:Room k A):A.depth<recursionLimit:=by have:=r.dp;lia
theorem Room.units (r:Room k A):A.units+64<cLine:=by have:=r.un;lia
def tNil:TA:=λ_ H Q=>Q [] H
def ZlZ (ta:TE)(tr:TA):TA:=λU H Q=>ta U H λx H1=>tr U H1 λxs H2=>Q (x::xs) H2
section
theorem Zac:PA X [] tNil:=λ_ _ _ _ H Q I h=>Calls.spliced_nil ⟨[],H,I,.nil,h⟩
theorem Zaa (ha:PE X e te)(hr:PA X es t)(hs:starEach (e::es) X.env=(false,eval e X.env)::starEach es X.env:=by rfl):PA X (e::es) (ZlZ te t):=by intro pos Ar s U H Q I h;rw[hs];show wpAny _ _ (spliced ((false,eval e X.env)::backTo pos (starEach es X.env))) _ _ s;refine YDL (thn (ha Ar s U H _ I h) λu s1 zz=>?_);obtain⟨x,H1,I1,r1,q1⟩:=zz;exact thn (hr pos Ar s1 U H1 _ I1 q1) λus s2 ⟨xs,H2,I2,r2,q2⟩=>⟨x::xs,H2,I2,.cons r1 r2,q2⟩
def tTup (t:TA):TE:=λU H Q=>t U H λxs H1=>xs.length<=sizeLine/\∀p,H1 p=none->Q (.ref p) (upd H1 p (.tup xs))
def tLst (t:TA):TE:=λU H Q=>t U H λxs H1=>xs.length<=sizeLine/\∀p,H1 p=none->Q (.ref p) (upd H1 p (.lst xs))
theorem ZbW {x1}(h:PA X es t):PE X (.Tuple es x1 pos) (tTup t):=by intro Ar s U H Q I hq;refine wpAny_Tuple_spliced (thn (h pos Ar s U H _ I hq) λus s1 ⟨xs,H1,I1,r,z,q⟩=>⟨by rw[<-r.length];exact z,?_⟩);have hf:H1 s1.heap.objs.size=none:=I1.hok.fresh (YAP _);refine⟨.ref s1.heap.objs.size,upd H1 s1.heap.objs.size (.tup xs),I1.laid (t':=s1.toks) (λb u e=>YAE _ e) (YAP _) ?_,rfl,q _ hf⟩;exact⟨z,us,r,⟨_,YAY _ rfl,rfl,_,rfl⟩⟩
theorem ZbX (h:PA X es t):PE X (.List es pos) (tLst t):=by intro Ar s U H Q I hq;refine wpAny_List_spliced (thn (h pos Ar s U H _ I hq) λus s1 ⟨xs,H1,I1,r,z,q⟩=>⟨by rw[<-r.length];exact z,?_⟩);have hf:H1 s1.heap.objs.size=none:=I1.hok.fresh (YAP _);refine⟨.ref s1.heap.objs.size,upd H1 s1.heap.objs.size (.lst xs),I1.laid (t':=s1.toks) (λb u e=>YAE _ e) (YAP _) ?_,rfl,q _ hf⟩;exact⟨z,us,0,r,YAY _ rfl⟩
end
abbrev Sp:=List V->Hp->VK->XK->Prop
abbrev CXT:=List Env->Hp->AF->XK->Value->AF->Prop
structure Env0 (P:AH)(w:AJ)(K:Q4)(mg:AC)(base:Heap)(A:AI)(outer:List Env)(s:AF)(H:Hp):Prop where
 frames:A.frames=some outer
 mod:Mod K mg base
 bs:∀b o,base.get? b=some o->s.heap.get? b=some o/\H b=none
 bsz:base.objs.size<=s.heap.objs.size
 funs:s.heap.FunFrames base outer
 frf:∀b∈frs outer,H b=none
 hok:HOk P w H s.heap
 bare:AllBare s.gens
def CE (outer:List Env)(P:AH)(w:AJ)(H:Hp)(s:AF)(Q:VK)(u:Value)(s':AF):Prop:=
 ∃v H',s'.os=s.os/\AllBare s'.gens/\Un (frs outer) [] H H' s.heap s'.heap/\HOk P w H' s'.heap/\RelV v u/\Q v H'
def CR (CX:CXT)(outer:List Env)(P:AH)(w:AJ)(H:Hp)(s:AF)(Q:VK)(E:XK)(r:Result)(s':AF):Prop:=
 match r with
 | .ok (.ret u)=>CE outer P w H s Q u s'
 | .ok _=>False
 | .error e=>CX outer H s E e s'
structure FnOk (P:AH)(w:AJ)(K:Q4)(mg:AC)(base:Heap)(CX:CXT)(k:Nat)(f:AE)(fd:AG)(ps:AK)(sp:Sp):Prop where
 len:∀vs H Q E,sp vs H Q E->vs.length=ps.length
 run:∀(A:AI) (outer:List Env) (s:AF) (H:Hp) (args:Args) (us:AD) (vs:List V) (Q:VK) (E:XK),Room k A->Env0 P w K mg base A outer s H->BindsTo s fd args (ps.zip us)->Vals vs us->sp vs H Q E ->
  codeAny (model P w) A (.call (.ref f) args) (CR CX outer P w H s Q E) s
theorem Env0.make {P:AH}{w:AJ}{K:Q4}{mg:AC}{base:Heap}{A:AI}{outer:List Env}{s:AF}{H:Hp}(e:Env0 P w K mg base A outer s H)(C:AE)(us:AD)(kw:List (Str×Value)):
  Env0 P w K mg base (A.under (.builtin "type.__call__" ⟨.ref C::us,kw⟩)) outer s H:=⟨by first | exact e.frames | (simpa [Around.under,Code.envs,Code.isFrame,pushEnvs] using e.frames),e.mod,e.bs,e.bsz,e.funs,e.frf,e.hok,e.bare⟩
section
theorem Inv.env0 (I:Inv X Ar U H s):Env0 X.prog X.w X.K X.mg X.base X.A X.stack s H:=
 ⟨I.ok.frames,I.ok.mod,I.bs,YAK I.ok.bsz I.sz,I.stack,I.stkFree,I.hok,I.bare⟩
theorem Inv.after (I:Inv X Ar U H s)(h:CE X.stack X.prog X.w H s Q u s'):EP X Ar U Q u s':=by obtain⟨v,H',os,bare,un,hok,r,q⟩:=h;obtain⟨hh,g,d,t,os'⟩:=s';obtain rfl:os'=s.os:=os;exact⟨v,H',I.call (h':=hh) (g':=g) (d':=d) (t':=t) (ch:=[]) un hok bare (λb z=>absurd z (by simp)),r,q⟩
end
def Zj6 (sp:Sp)(A1:List V)(E:XK)(t:TA):TE:=λU H Q=>t U H λvs H1=>sp (vs++A1) H1 Q E
def ZlX (C:AE)(m:Str)(sp:Sp)(A1:List V)(E:XK)(ta:TE)(t:TA):TE:=λU H Q=>ta U H λx H1=>∃a dx fs,x=.ref a/\H1 a=some (.ins C dx fs)/\fs.lookup m=none /\
 t U H1 λvs H2=>sp (x::(vs++A1)) H2 Q E
def Znn (C:AE)(sp:Sp)(A1:List V)(E:XK)(t:TA):TE:=λU H Q=>t U H λvs H1=>∀x dx,H1 x=none->H1 dx=none->dx≠x ->
 sp (.ref x::(vs++A1)) (upd (upd H1 dx (.own x)) x (.ins C dx [])) (λv H2=>v=.non/\Q (.ref x) H2) E
def Binds (K:Q4)(fd:AG)(ps:AK)(ds:AD):Prop:=
 ∀(s:AF) (us:AD),K.In s.heap->(us++ds).length=ps.length->BindsTo s fd ⟨us,[]⟩ (ps.zip (us++ds))
theorem Binds.all {K:Q4}{fd:AG}{ps:AK}(h:∀us:AD,us.length=ps.length->bindArgs fd ⟨us,[]⟩=pure (ps.zip us)):Binds K fd ps []:=λs us _ hl=>by rw[YCp]at hl ⊢;exact .of_eq (h us hl)
def Zc7 (CX:CXT)(X:Cx)(E:XK):Prop:=∀(Ar:AB) (U:St) (H:Hp) (s:AF) (e:Value) (s':AF),Inv X Ar U H s->CX X.stack H s E e s'->X.xe e s'
section
theorem Zhd (F:FnOk X.prog X.w X.K X.mg X.base CX k f fd ps sp)(hr:Room k X.A)(hb:Binds X.K fd ps ds)(hd:Vals A1 ds)(hx:Zc7 CX X E)
  (I:Inv X Ar U H s) (r:Vals vs us) (h:sp (vs++A1) H Q E):wpAny (model X.prog X.w) X.A (call (.ref f) us) (EP X Ar U Q) X.xe s:=by
 have r2:Vals (vs++A1) (us++ds):=r.append hd;have hl:(us++ds).length=ps.length:=by rw[<-r2.length];exact F.len _ _ _ _ h
 refine wpAny_call (codeAny_mono (F.run X.A X.stack s H ⟨us,[]⟩ (us++ds) (vs++A1) Q E hr I.env0 (hb s us I.kIn hl) r2 h) λr s' hq=>?_);cases r with
 | error e=>exact hx Ar U H s e s' I hq
 | ok fl=>
  cases fl with
  | ret u=>exact I.after hq
  | next=>exact False.elim hq
  | brk=>exact False.elim hq
  | cont=>exact False.elim hq
theorem Zmi (F:FnOk X.prog X.w X.K X.mg X.base CX k f fd ps sp)(hr:Room k X.A)(hg:Gl X x)(hm:X.mg x=some (.ref f))(hk:keepIn X.K (.ref f)=true)(hb:Binds X.K fd ps ds)(hd:Vals A1 ds)(hx:Zc7 CX X E)
  (ha:PA X (e::es) t) (hdb:(x == ("__debug__":Str))=false:=by decide) (he:starEach (e::es) X.env=(false,eval e X.env)::starEach es X.env:=by rfl) (hpl:(backTo pos (starEach es X.env)).any (·.1)=false:=by rfl):
  PE X (.Call (.Name x p) (e::es) [] pos) (Zj6 sp A1 E t):=by
 intro Ar s U H Q I h;refine YCQ (Ze2 I hg hm ?_ hdb);refine callWith_K (h₀:=X.base) I.ok.mod.kin hk (thn (ha pos Ar s U H _ I h) λus s1 ⟨vs,H1,I1,r,q⟩=>⟨I1.kIn,?_⟩) he hpl;exact Zhd F hr hb hd hx I1 r q
theorem ZaE (he:PE X o ta)(c:Cls X.K C)(hm:Meth X.K C m f)(F:FnOk X.prog X.w X.K X.mg X.base CX k f fd ps sp)(hr:Room k X.A)(hb:Binds X.K fd ps ds)(hd:Vals A1 ds)(hx:Zc7 CX X E)(ha:PA X (e::es) t)
  (hst:starEach (e::es) X.env=(false,eval e X.env)::starEach es X.env:=by rfl) (hpl:(backTo pos (starEach es X.env)).any (·.1)=false:=by rfl)
  (ht:eval (.Call (.Attribute o m Ax) (e::es) [] pos) X.env=(do
   let ov <-eval o X.env
   standAt Ax.atName
   let (f,first) <-holding [ov] (getMethod ov m pl)
   callWith pos f first (backTo pos (starEach (e::es) X.env)) (backToKw pos (keywordEach [] X.env))):=by rfl):
  PE X (.Call (.Attribute o m Ax) (e::es) [] pos) (ZlX C m sp A1 E ta t):=by
 intro Ar s U H Q I h;refine methodCall_KW (pl:=pl) (thn (he Ar s U H _ I h) λu s1 zz=>?_) ht;obtain⟨x,H1,I1,rx,a,dx,fs,ex,ea,l,q⟩:=zz;subst ex;obtain rfl:u=Value.ref a:=rx;refine Zey I1 ea c hm l ?_;refine callWith_K (first:=[.ref a]) (h₀:=X.base) I.ok.mod.kin hm.kp (thn (ha pos Ar s1 U H1 _ I1 q) λus s2 ⟨vs,H2,I2,r,q2⟩=>⟨I2.kIn,?_⟩) hst hpl;exact Zhd (us:=.ref a::us) (vs:=.ref a::vs) F hr hb hd hx I2 (.cons rfl r) q2
theorem Zav (he:PE X o ta)(c:Cls X.K C)(hm:Meth X.K C m f)(F:FnOk X.prog X.w X.K X.mg X.base CX k f fd ps sp)(hr:Room k X.A)(hb:Binds X.K fd ps ds)(hd:Vals A1 ds)(hx:Zc7 CX X E)
  (ht:eval (.Call (.Attribute o m Ax) [] [] pos) X.env=(do
   let ov <-eval o X.env
   standAt Ax.atName
   let (f,first) <-holding [ov] (getMethod ov m pl)
   callWith pos f first (backTo pos (starEach [] X.env)) (backToKw pos (keywordEach [] X.env))):=by rfl):
  PE X (.Call (.Attribute o m Ax) [] [] pos) (ZlX C m sp A1 E ta tNil):=by
 intro Ar s U H Q I h;refine methodCall_KW (pl:=pl) (thn (he Ar s U H _ I h) λu s1 zz=>?_) ht;obtain⟨x,H1,I1,rx,a,dx,fs,ex,ea,l,q⟩:=zz;subst ex;obtain rfl:u=Value.ref a:=rx;refine Zey I1 ea c hm l ?_;exact PySem.W.callWith_K0 (first:=[.ref a]) I1.kIn hm.kp (Zhd (us:=[.ref a]) (vs:=[.ref a]) F hr hb hd hx I1 (.cons rfl .nil) q)
structure Mk (K:Q4)(C f:AE):Prop where
 makes:makesIn K C=true
 init:findIn K (.ref C) "__init__"=some (some (.ref f))
 fn:isFn K (.ref f)=true
 kp:keepIn K (.ref C)=true
theorem Zkf (M:Mk X.K C f)(F:FnOk X.prog X.w X.K X.mg X.base CX k f fd ps sp)(hr:Room (k+1) X.A)(hb:Binds X.K fd ps ds)(hd:Vals A1 ds)
  (hx:Zc7 CX X E) (I:Inv X Ar U H s) (r:Vals vs us)
  (h:∀x dx,H x=none->H dx=none->dx≠x->sp (.ref x::(vs++A1)) (upd (upd H dx (.own x)) x (.ins C dx [])) (λv H2=>v=.non/\Q (.ref x) H2) E):
  wpAny (model X.prog X.w) X.A (call (.ref C) us) (EP X Ar U Q) X.xe s:=by
 have hq:=h (s.heap.objs.size+1) s.heap.objs.size (I.hok.fresh (YCn _)) (I.hok.fresh (YAP _)) (YAe (Nat.lt_succ_self _));have I2:=Inv.made (C:=C) I;have r2:Vals (V.ref (s.heap.objs.size+1)::(vs++A1)) (Value.ref (s.heap.objs.size+1)::(us++ds)):=.cons rfl (r.append hd);have hl:(Value.ref (s.heap.objs.size+1)::us++ds).length=ps.length:=by have e:=r2.length;rw[F.len _ _ _ _ hq]at e;exact e.symm
 refine wpAny_call (Zky (f:=f) I.kIn M.makes M.init (beq_iff_eq.mp M.fn) (codeAny_mono (F.run _ X.stack _ _ ⟨Value.ref (s.heap.objs.size+1)::us,[]⟩ (Value.ref (s.heap.objs.size+1)::(us++ds)) _ _ E (hr.make C us [])
  (I2.env0.make C us []) (hb _ (Value.ref (s.heap.objs.size+1)::us) I2.kIn hl) r2 hq) λr s' hq'=>?_))
 cases r with
 | error e=>exact hx Ar U _ _ e s' I2 hq'
 | ok fl=>
  cases fl with
  | ret u=>
   obtain⟨v,H',I3,rv,ev,q3⟩:=I2.after hq';subst ev;exact⟨rv,⟨V.ref (s.heap.objs.size+1),H',I3,rfl,q3⟩⟩
  | next=>exact False.elim hq'
  | brk=>exact False.elim hq'
  | cont=>exact False.elim hq'
theorem ZdP (M:Mk X.K C f)(F:FnOk X.prog X.w X.K X.mg X.base CX k f fd ps sp)(hr:Room (k+1) X.A)(hg:Gl X x)(hm:X.mg x=some (.ref C))(hb:Binds X.K fd ps ds)(hd:Vals A1 ds)(hx:Zc7 CX X E)
  (ha:PA X (e::es) t) (hdb:(x == ("__debug__":Str))=false:=by decide) (he:starEach (e::es) X.env=(false,eval e X.env)::starEach es X.env:=by rfl) (hpl:(backTo pos (starEach es X.env)).any (·.1)=false:=by rfl):
  PE X (.Call (.Name x p) (e::es) [] pos) (Znn C sp A1 E t):=by
 intro Ar s U H Q I h;refine YCQ (Ze2 I hg hm ?_ hdb);refine callWith_K (h₀:=X.base) I.ok.mod.kin M.kp (thn (ha pos Ar s U H _ I h) λus s1 ⟨vs,H1,I1,r,q⟩=>⟨I1.kIn,?_⟩) he hpl;exact Zkf M F hr hb hd hx I1 r q
end
section
end
structure FnScope (N P:AK)(sc:Scope):Prop where
 kind:sc.kind=.function
 co:sc.isCoroutine=false
 gen:sc.isGenerator=false
 nd:N.Nodup
 pre:N.take P.length=P
 par:∀x∈P,sc.names.lookup x=some .local\/sc.names.lookup x=some .cell
 nofree:∀y∈sc.names,y.2≠.free
theorem Zgf {kindOf:Str->Option NameKind}{x:Str}:∀ {binds:List (Str×Value)} {m:AC},(∀v,(x,v)∉binds)->bindL kindOf binds m x=m x
 | [],_,_=>rfl
 | (n,v)::r,m,h=>by
  unfold bindL;rw[Zgf λw hw=>h w (YAV _ hw)];split
  .have:x≠n:=by rintro rfl;exact h v YAd
   simp[this]
  .rfl
theorem Zgh {kindOf:Str->Option NameKind}{x:Str}:∀ {binds:List (Str×Value)} {m:AC},(∀v,(x,v)∉binds)->bindC kindOf binds m x=m x
 | [],_,_=>rfl
 | (n,v)::r,m,h=>by
  unfold bindC;rw[Zgh λw hw=>h w (YAV _ hw)];split
  .rfl
  .have:x≠n:=by rintro rfl;exact h v YAd
   simp[this]
theorem Zgg {kindOf:Str->Option NameKind}{x:Str}{v:Value}:∀ {P:AK} {vs:AD} {i:Nat} {m:AC},P.Nodup->P[i]?=some x->vs[i]?=some v->kindOf x=some .local ->
  bindL kindOf (P.zip vs) m x=some v
 | [],_,_,_,_,h,_,_=>by simp at h
 | _::_,[],_,_,_,_,h,_=>by simp at h
 | p::P,w::vs,0,m,nd,h1,h2,hk=>by
  simp at h1 h2;subst h1;subst h2;show bindL kindOf ((p,w)::P.zip vs) m p=_;unfold bindL;rw[Zgf λv hv=>(YBT.mp nd).1 (List.of_mem_zip hv).1,YAM hk];simp
 | p::P,w::vs,i+1,m,nd,h1,h2,hk=>by show bindL kindOf ((p,w)::P.zip vs) m x=_;unfold bindL;exact Zgg (i:=i) (YBT.mp nd).2 (by simpa using h1) (by simpa using h2) hk
theorem Zgi {kindOf:Str->Option NameKind}{x:Str}{v:Value}:∀ {P:AK} {vs:AD} {i:Nat} {m:AC},P.Nodup->P[i]?=some x->vs[i]?=some v->kindOf x≠some .local ->
  bindC kindOf (P.zip vs) m x=some v
 | [],_,_,_,_,h,_,_=>by simp at h
 | _::_,[],_,_,_,_,h,_=>by simp at h
 | p::P,w::vs,0,m,nd,h1,h2,hk=>by
  simp at h1 h2;subst h1;subst h2;show bindC kindOf ((p,w)::P.zip vs) m p=_;unfold bindC;rw[Zgh λv hv=>(YBT.mp nd).1 (List.of_mem_zip hv).1,YAJ hk];simp
 | p::P,w::vs,i+1,m,nd,h1,h2,hk=>by show bindC kindOf ((p,w)::P.zip vs) m x=_;unfold bindC;exact Zgi (i:=i) (YBT.mp nd).2 (by simpa using h1) (by simpa using h2) hk
noncomputable def start (N:AK)(vs:List V):St:=vs.map some++List.replicate (N.length-vs.length) none
noncomputable def cxOf (CX:CXT)(P:AH)(w:AJ)(K:Q4)(mg:AC)(base:Heap)(N:AK)(qual:Str)(scope:Scope)(f:AE)(cd:Value)(A:AI)(outer:List Env)(s:AF)(H:Hp)(E:XK):Cx where
 prog:=P
 w:=w
 K:=K
 mg:=mg
 base:=base
 A:=A.deeper (envOfC qual scope s.heap.objs.size f cd)
 N:=N
 s_0:=s
 H_0:=H
 env:=envOfC qual scope s.heap.objs.size f cd
 outer:=outer
 stack:=envOfC qual scope s.heap.objs.size f cd::outer
 ex:=[]
 calm:=true
 fn:=λ_=>true
 pn:=[]
 xe:=λe s'=>wpAny (model P w) (A.deeper (envOfC qual scope s.heap.objs.size f cd)) (leaving (envOfC qual scope s.heap.objs.size f cd) e) (λ_ s''=>CX outer H s E e s'') (λe' s''=>CX outer H s E e' s'') s'
theorem ZhQ {sc:Scope}{n:Nat}{x:Str}(h:sc.names.lookup x=some .cell):∃c,(cellsFrom n sc.names []).lookup x=some c:=by have q:=cellsFrom_some sc.names n [] (.inl h);exact YDB.mp q
theorem Zjr {CX:CXT}{P:AH}{w:AJ}{K:Q4}{mg:AC}{base:Heap}{N ps:AK}{qual:Str}{scope:Scope}{f:AE}{cd:Value}{A:AI}{outer:List Env}{s s1:AF}{H:Hp}{E:XK}{us:AD}{vs:List V}
  (S:FnScope N ps scope) (hd:A.handled=none) (e0:Env0 P w K mg base A outer s H) (hl:vs.length=ps.length) (r:Vals vs us)
  (x:InCallC s s.heap.objs.size (bindL (envOfC qual scope s.heap.objs.size f cd).kindOf (ps.zip us) λ_=>none) (cellsFrom (s.heap.objs.size+1) scope.names []) (bindC (envOfC qual scope s.heap.objs.size f cd).kindOf (ps.zip us) λ_=>none) s1):
  Inv (cxOf CX P w K mg base N qual scope f cd A outer s H E) [] (start N vs) H s1:=by
 have hpl:ps.length<=N.length:=by have:=congrArg List.length S.pre;rw[YAW]at this;lia
 obtain⟨h1,tk,rfl,hk⟩:=x.done;have noA:∀b:AE,b∉(cxOf CX P w K mg base N qual scope f cd A outer s H E).ex:=λb z=>absurd (show b∈([]:List AE) from z) (by simp);refine⟨⟨e0.mod,S.kind,rfl,rfl,YAP _,λy z c h1 h2=>?_,λy hy=>?_,λy c _ h=>?_,λ_=>hd,Around.frames_deeper e0.frames,.inr ⟨rfl,rfl⟩,λb z=>absurd z (noA b),e0.bs,e0.bsz,λb _ _=>noA b,λb z=>absurd z (noA b),e0.funs,e0.frf⟩,
  rfl,e0.bare,Un.kept hk,⟨_,x.toInCall.ns,λi y v h1 h2 h3=>?_⟩,λy c h=>⟨_,x.cell y c h⟩,e0.hok.fresh (YAP _),λy c h=>?_,λp hp=>absurd (show p∈([]:AB) from hp) (by simp),e0.hok.kept hk,?_⟩
 .exact name_of_addr x.apart (YBu h1) (YBu h2)
 .have hy:scope.names.lookup y=some .cell\/scope.names.lookup y=some .free:=hy;rcases hy with hy | hy
  .exact ZhQ hy
  .exact absurd rfl (S.nofree _ (YBu hy))
 .exact YDC (x.above y c (YBu h))
 .have hi:i<vs.length:=by
   unfold start at h2;by_cases hi:i<vs.length
   .exact hi
   .rw[YBA (by simpa using hi)]at h2;rw[List.getElem?_replicate]at h2;split at h2<;>cases h2
  have ha:vs[i]?=some v:=by
   unfold start at h2;rw[YBC (by simpa using hi),YAQ]at h2;cases e:vs[i]? with
   | none=>rw[e]at h2;cases h2
   | some a=>rw[e]at h2;cases h2;rfl
  obtain⟨u,hu,rv⟩:=r.get ha;have hp:ps[i]?=some y:=by rw[<-S.pre,List.getElem?_take_of_lt (by lia)];exact h1
  have ndP:ps.Nodup:=by rw[<-S.pre];exact S.nd.sublist (YCX _ _)
  refine⟨u,rv,?_⟩;rcases S.par y (YAh hp) with k | k
  .exact .inl ⟨k,Zgg ndP hp hu k⟩
  .obtain⟨c,e⟩:=ZhQ (n:=s.heap.objs.size+1) k;refine .inr ⟨.inl k,c,e,?_⟩;have q:=x.cell y c e;rw[Zgi ndP hp hu (by show scope.names.lookup y≠_;rw[k];decide)]at q;exact q
 .exact e0.hok.fresh (YDC (x.above y c (YBu h)))
 .unfold start;show _=N.length;rw[YAG,YAB,List.length_replicate];lia
theorem Zo1 {CX:CXT}{P:AH}{w:AJ}{K:Q4}{mg:AC}{base:Heap}{k:Nat}{f:AE}{name qual:Str}{params:Arguments}{body:List Stmt}{scope:Scope}{dV kV doc pm As ct oc:Value}{an od:Option AE}
  {osl:Array (Option Value)} {N ps:AK} {sp:Sp} (lk:K.lookup f=some ⟨oc,od,.func (fnOf name qual params body scope dV kV doc pm an As ct),osl⟩) (hcd:codeIn K As qual=true) (S:FnScope N ps scope)
  (len:∀vs H Q E,sp vs H Q E->vs.length=ps.length)
  (hbody:∀(A:AI) (outer:List Env) (s:AF) (H:Hp) (vs:List V) (Q:VK) (E:XK),Room k (A.deeper (envOfC qual scope s.heap.objs.size f As))->sp vs H Q E ->
   ∃t,PSs (cxOf CX P w K mg base N qual scope f As A outer s H E) body t/\t { nx:=λ_ H'=>Q .non H',rt:=Q } (start N vs) H):
  FnOk P w K mg base CX (k+1) f (fnOf name qual params body scope dV kV doc pm an As ct) ps sp:=by
 refine⟨len,λA outer s H args us vs Q E hr e0 hb r hsp=>?_⟩;have hl:=len _ _ _ _ hsp;have KX:K.In s.heap:=e0.mod.kin.keeps λb o e=>(e0.bs b o e).1;have lim:s.heap.NoLimit:=e0.mod.nolimit.keeps λb o e=>(e0.bs b o e).1;have hkind:∀y∈ps.zip us,scope.names.lookup y.1=some .local\/(scope.names.lookup y.1=some .cell/\((cellsFrom (s.heap.objs.size+1) scope.names []).lookup y.1).isSome=true):=λ⟨n,v⟩ hy=>by
  rcases S.par n (List.of_mem_zip hy).1 with q | q
  .exact .inl q
  .exact .inr ⟨q,cellsFrom_some _ _ _ (.inl q)⟩
 refine codeAny_call_function hr.depth (KX _ _ lk) rfl S.co S.gen rfl (PySem.W.codeRec_of KX hcd) (hb _ _ _ _ ?_);refine wpAny_newFunctionEnv_cells S.kind hkind λenv he s1 x=>?_;subst he;refine⟨lim.keeps x.toInCall.keep,codeAny_func ?_⟩;obtain⟨t,ht,hq⟩:=hbody A outer s H vs Q E (hr.deeper _) hsp;have I:Inv (cxOf CX P w K mg base N qual scope f As A outer s H E) [] (start N vs) H s1:=Zjr S hr.hd e0 hl r x;refine YBZ (ht [] s1 (start N vs) H _ I hq) (λfl s' hs=>?_) λe s' hs=>hs;have fin:∀ {U':St} {H':Hp} {v:V} {u:Value},Inv (cxOf CX P w K mg base N qual scope f As A outer s H E) [] U' H' s'->RelV v u->Q v H'->CE outer P w H s Q u s':=
  λ{U' H' v u} J rv q=>⟨v,H',J.os,J.bare,J.base,J.hok,rv,q⟩
 cases fl with
 | ret u=>
  obtain⟨v,U',H',J,rv,q⟩:=hs;exact fin J rv q
 | next=>
  obtain⟨U',H',J,q⟩:=hs;exact fin (v:=V.non) (u:=Value.none) J rfl q
 | brk=>
  obtain⟨_,_,_,q⟩:=hs;exact False.elim q
 | cont=>
  obtain⟨_,_,_,q⟩:=hs;exact False.elim q
section
variable {X:Cx}{x:Str}{p pos:Pos}{e:Expr}{es:List Expr}{t:TA}{id T:String}{r:List V->Hp->VK->Prop}
def tCB (r:List V->Hp->VK->Prop)(t:TA):TE:=λU H Q=>t U H λvs H1=>r vs H1 Q
theorem Zap (hc:Zcc X (.builtin id) r) (hg:Gl X x) (hm:X.mg x=none) (hv:bootBuiltins x=some (.builtin id)) (ha:PA X (e::es) t) (hn:x≠"__name__":=by decide) (hdb:(x == ("__debug__":Str))=false:=by decide)
  (he:starEach (e::es) X.env=(false,eval e X.env)::starEach es X.env:=by rfl) (hpl:(backTo pos (starEach es X.env)).any (·.1)=false:=by rfl):PE X (.Call (.Name x p) (e::es) [] pos) (tCB r t):=by
 intro Ar s U H Q I h;refine YCQ (Zdm I hg hm hv ?_ hn hdb);exact PyProof.Rows.callWith_builtin1 (thn (ha pos Ar s U H _ I h) λus s1 ⟨vs,H1,I1,r1,q1⟩=>hc Ar s1 U H1 vs us Q I1 r1 q1) he hpl
theorem Za0 (hc:Zcc X (.type T) r) (hg:Gl X x) (hm:X.mg x=none) (hv:bootBuiltins x=some (.type T)) (ha:PA X (e::es) t) (hn:x≠"__name__":=by decide) (hdb:(x == ("__debug__":Str))=false:=by decide)
  (he:starEach (e::es) X.env=(false,eval e X.env)::starEach es X.env:=by rfl) (hpl:(backTo pos (starEach es X.env)).any (·.1)=false:=by rfl):PE X (.Call (.Name x p) (e::es) [] pos) (tCB r t):=by
 intro Ar s U H Q I h;refine YCQ (Zdm I hg hm hv ?_ hn hdb);exact YCl (thn (ha pos Ar s U H _ I h) λus s1 ⟨vs,H1,I1,r1,q1⟩=>hc Ar s1 U H1 vs us Q I1 r1 q1) he hpl
end
end L2
namespace HT
open PySem PyProof.Rows
section
open PySem.SeqAt
open PySem.AutoSeq1 (wpAny_loadPart')
open PySem.MeetsSeq PySem.MeetsSeq2 PySem.MeetsSeq3
end
section
noncomputable def sIx (n d:Nat):Option Int->Nat
 | none=>d
 | some v=>if v<0 then (v+(n:Int)).toNat else min v.toNat n
theorem sIx_none (n d:Nat):sIx n d none=d:=rfl
theorem sIx_nat (n d k:Nat):sIx n d (some (k:Int))=min k n:=by show (if (k:Int)<0 then ((k:Int)+(n:Int)).toNat else min (k:Int).toNat n)=min k n;rw[YAJ (by lia),YCJ]
theorem sIx_le (n d:Nat)(hd:d<=n)(o:Option Int):sIx n d o<=n:=by
 cases o with
 | none=>exact hd
 | some v=>
  show (if v<0 then (v+(n:Int)).toNat else min v.toNat n)<=n;by_cases hv:v<0
  .rw[YAM hv];lia
  .rw[YAJ hv];exact Nat.min_le_right _ _
theorem clip_eq (v:Int)(n d:Nat):(if v<0 then max (v+(n:Int)) 0 else min v (n:Int))=((sIx n d (some v):Nat):Int):=by
 show (if v<0 then max (v+(n:Int)) 0 else min v (n:Int))=(((if v<0 then (v+(n:Int)).toNat else min v.toNat n):Nat):Int);by_cases hv:v<0
 .simp only[YAM hv];lia
 .simp only[YAJ hv];lia
end
end HT
namespace L2
open PySem PySem.Spec PyProof.Rows
abbrev TO:=St->Hp->(Option Int->Hp->Prop)->Prop
def PO (X:Cx)(e:Option Expr)(t:TO):Prop:=
 ∀(Ar:AB) (s:AF) (U:St) (H:Hp) (Q:Option Int->Hp->Prop),Inv X Ar U H s->t U H Q ->
  wpAny (model X.prog X.w) X.A (evalPart e X.env) (λu s'=>∃o H',Inv X Ar U H' s'/\IsPart u o/\Q o H') X.xe s
def tNoPart:TO:=λ_ H Q=>Q none H
def Znj (t:TE):TO:=λU H Q=>t U H λx H1=>∃i,x=.int i/\Q (some i) H1
section
variable {X:Cx}{e:Expr}{te:TE}{lo hi:Option Expr}{tl th:TO}{pos p2:Pos}
theorem Zbf:PO X none tNoPart:=by intro Ar s U H Q I h;rw[evalPart_none];exact YAD ⟨none,H,I,.none,h⟩
theorem ZaS (h:PE X e te):PO X (some e) (Znj te):=by intro Ar s U H Q I hw;rw[evalPart_some];refine thn (h Ar s U H _ I hw) λu s1 zz=>?_;obtain⟨x,H1,I1,r1,q1⟩:=zz;obtain⟨i,rfl,q⟩:=q1;obtain⟨t,rfl⟩:=r1;exact⟨some i,H1,I1,.int i t,q⟩
def SlR (X:Cx)(r:V->Option Int->Option Int->Hp->VK->Prop):Prop:=
 ∀(Ar:AB) (s:AF) (U:St) (H:Hp) (x:V) (v vl vu:Value) (lo hi:Option Int) (sl:AE) (Q:VK),Inv X Ar U H s->RelV x v->s.heap.IsSliceOf sl vl vu .none->IsPart vl lo->IsPart vu hi->r x lo hi H Q ->
  ∃T id,typeLookup (.type T) "__getitem__"=pure (some (.builtin id))/\s.TypeIs v T/\wpAny (model X.prog X.w) X.A (getItem v (.ref sl)) (EP X Ar U Q) X.xe s
def tSl (r:V->Option Int->Option Int->Hp->VK->Prop)(te:TE)(tl th:TO):TE:=λU H Q=>te U H λx H1=>tl U H1 λl H2=>th U H2 λu H3=>r x l u H3 Q
theorem ZaN (hr:SlR X r)(he:PE X e te)(hl:PO X lo tl)(hu:PO X hi th):PE X (.Subscript e (.Slice lo hi none p2) pos) (tSl r te tl th):=by intro Ar s U H Q I h;refine Subscript_ (thn (he Ar s U H _ I h) λv s1 zz=>?_);obtain⟨x,H1,I1,r1,q1⟩:=zz;refine wpAny_Slice (thn (hl Ar s1 U H1 _ I1 q1) λvl s2 ⟨l,H2,I2,pl,q2⟩=>thn (hu Ar s2 U H2 _ I2 q2) λvu s3 zz=>?_);obtain⟨u,H3,I3,pu,q3⟩:=zz;rw[evalPart_none];refine YAD ?_;have I4:Inv X Ar U H3 { s3 with heap:=s3.heap.push { cls:=.type "slice",data:=.fields #[vl,vu,.none] } }:=I3.kept (t':=s3.toks) λb ob q=>YAE _ q;obtain⟨T,id,hT,ht,hg⟩:=hr Ar { s3 with heap:=s3.heap.push { cls:=.type "slice",data:=.fields #[vl,vu,.none] } } U H3 x v vl vu l u s3.heap.objs.size Q I4 r1 (Heap.IsSliceOf.new ..) pl pu q3;show wpAny (model X.prog X.w) X.A (subscriptTail e (.Slice lo hi none p2) v (.ref s3.heap.objs.size)) (EP X Ar U Q) X.xe { s3 with heap:=s3.heap.push { cls:=.type "slice",data:=.fields #[vl,vu,.none] } };exact tail_any (ops:=[.ref s3.heap.objs.size,v]) ht hT hg (by with_unfolding_all rfl)
def cutV (xs:List V)(lo hi:Option Int):List V:=(xs.drop (HT.sIx xs.length 0 lo)).take (HT.sIx xs.length xs.length hi-HT.sIx xs.length 0 lo)
theorem ZgX (xs:List V)(lo hi:Option Int):(cutV xs lo hi).length<=xs.length:=by unfold cutV;rw[YAW,YAp];lia
end
end L2
namespace L2
open PySem PySem.Spec PyProof.Rows
noncomputable def ixN (n:Nat)(i:Int):Option Nat:=if 0<=i then (if i<n then some i.toNat else none) else if -(n:Int)<=i then some (i+n).toNat else none
def atI {α:Type}(xs:List α)(i:Int):Option α:=(ixN xs.length i).bind λj=>xs[j]?
theorem ZmC (h:ixN n i=some j):seqIndex? i n=some j/\j<n/\-(n:Int)<=i/\i<n:=by
 unfold ixN at h;by_cases h0:0<=i
 .rw[YAM h0]at h;by_cases h1:i<n
  .rw[YAM h1]at h;have e:i.toNat=j:=Option.some.inj h;exact⟨by rw[seqIndex_of h0 h1,e],by lia,by lia,h1⟩
  .rw[YAJ h1]at h;cases h
 .rw[YAJ h0]at h;by_cases h1:-(n:Int)<=i
  .rw[YAM h1]at h;have e:(i+n).toNat=j:=Option.some.inj h;exact⟨by rw[seqIndex_neg (by lia) h1,e],by lia,h1,by lia⟩
  .rw[YAJ h1]at h;cases h
theorem Zg1 (h:atI xs i=some v):∃j,seqIndex? i xs.length=some j/\xs[j]?=some v/\j<xs.length/\-(xs.length:Int)<=i/\i<xs.length:=by
 unfold atI at h;cases e:ixN xs.length i with
 | none=>rw[e]at h;cases h
 | some j=>
  rw[e]at h;obtain⟨h1,h2,h3,h4⟩:=ZmC e;exact⟨j,h1,h,h2,h3,h4⟩
theorem Zk8 (xs:List α)(v:α):atI (xs++[v]) (-1)=some v:=by
 have hl:(xs++[v]).length=xs.length+1:=by simp
 have e:ixN (xs++[v]).length (-1)=some xs.length:=by unfold ixN;rw[hl,YAJ (by decide),YAM (by lia)];congr 1;lia
 unfold atI;rw[e];show (xs++[v])[xs.length]?=some v;simp
def Zm9 (b:Expr):Prop:=∀o i,subscripted b false o i=operate [o,i] (getItem o i)
def IxR (X:Cx)(r:R2):Prop:=
 ∀(value slice:Expr) (Ar:AB) (s:AF) (U:St) (H:Hp) (x y:V) (v u:Value) (Q:VK),Inv X Ar U H s->RelV x v->RelV y u->r x y H Q ->
  subscripted slice false v u=operate [v,u] (getItem v u)->wpAny (model X.prog X.w) X.A (subscriptTail value slice v u) (EP X Ar U Q) X.xe s
def MtR (X:Cx)(id:String)(r:V->List V->Hp->VK->Prop):Prop:=
 ∀(Ar:AB) (s:AF) (U:St) (H:Hp) (x:V) (xs:List V) (v:Value) (us:AD) (Q:VK),Inv X Ar U H s->RelV x v->Vals xs us->r x xs H Q ->
  wpAny (model X.prog X.w) X.A (call (.builtin id) (v::us)) (EP X Ar U Q) X.xe s
section
variable {X:Cx}{a b:Expr}{ta tb:TE}{pos:Pos}
theorem ZaY (hr:IxR X r)(ha:PE X a ta)(hb:PE X b tb)(hs:Zm9 b):PE X (.Subscript a b pos) (tOp r ta tb):=by intro Ar s U H Q I h;exact Subscript_ (binT ha hb I h λv u s2 x y H2 I2 rx ry q=>hr a b Ar s2 U H2 x y v u Q I2 rx ry q (hs _ _))
def rIxL (K:Q4):R2:=λx y H Q=>∃p xs i v,x=.ref p/\y=.int i/\SqL K H p xs/\atI xs i=some v/\Q v H
def rIxT (K:Q4):R2:=λx y H Q=>∃p xs i v,x=.ref p/\y=.int i/\SqT K H p xs/\atI xs i=some v/\Q v H
def rIxS:R2:=λx y H Q=>∃z i c,x=.str z/\y=.int i/\z.length<=sizeLine/\atI z.cps.toList i=some c/\Q (.str ⟨#[c]⟩) H
theorem ZmB:IxR X (rIxL X.K):=by
 intro value slice Ar s U H x y v u Q I rx ry h hs;obtain⟨p,xs,i,z,rfl,rfl,hq,he,q⟩:=h;cases rx;obtain⟨t,rfl⟩:=ry;obtain⟨its,r,pl,hz⟩:=I.list hq;obtain⟨j,h1,h2,h3,h4,h5⟩:=Zg1 he;obtain⟨w,ew,rw'⟩:=r.get h2;have hl:=r.length;have hn:=Zhv;have fin:EP X Ar U Q w s:=⟨z,H,I,rw',q⟩;by_cases h0:0<=i
 .have hj:i.toNat=j:=by rw[seqIndex_of h0 h5]at h1;exact Option.some.inj h1
  exact item_listR pl.isList h0 (by lia) (by rw[hj];simpa using ew) fin hs
 .have hj:(i+(its.toArray.size:Int)).toNat=j:=by rw[seqIndex_neg (by lia) h4]at h1;rw[YAO,<-hl];exact Option.some.inj h1
  exact subscriptTail_builtinR (x:=w) pl.isList.typeIs slot_list_getitem.lookup
   (wpAny_getItem_list_neg (Q:=λr s'=>r=w/\EP X Ar U Q r s') pl.isList (by lia) (by rw[YAO]<;>lia) (by lia) (by rw[hj];simpa using ew) ⟨rfl,fin⟩) hs
theorem ZoJ:IxR X (rIxT X.K):=by
 intro value slice Ar s U H x y v u Q I rx ry h hs;obtain⟨p,xs,i,z,rfl,rfl,hq,he,q⟩:=h;cases rx;obtain⟨t,rfl⟩:=ry;obtain⟨its,r,pl,hz⟩:=I.tuple hq;obtain⟨j,h1,h2,h3,h4,h5⟩:=Zg1 he;obtain⟨w,ew,rw'⟩:=r.get h2;have hl:=r.length;have hn:=Zhv;have fin:EP X Ar U Q w s:=⟨z,H,I,rw',q⟩;exact subscriptTail_builtinR (x:=w) pl.typeIs slot_tuple_getitem.lookup
  (getItem_tuple (j:=j) (Q:=λr s'=>r=w/\EP X Ar U Q r s') pl (by lia) (by lia) (by rw[YAO,<-hl];exact h1) (by simpa using ew) ⟨rfl,fin⟩) hs
theorem ZoK:IxR X rIxS:=by
 intro value slice Ar s U H x y v u Q I rx ry h hs;obtain⟨z,i,c,rfl,rfl,hz,he,q⟩:=h;obtain⟨t,rfl⟩:=rx;obtain⟨t',rfl⟩:=ry;obtain⟨j,h1,h2,h3,h4,h5⟩:=Zg1 he;have hl:z.cps.toList.length=z.length:=by simp[Str.length]
 rw[hl]at h1 h4 h5;have hn:=Zhv;exact tail_any (typeIs_str s z t) slot_str_getitem.lookup (getItem_str (c:=c) (by have e1:decide (i < -(2 ^ 63:Int))=false:=decide_eq_false (by lia);have e2:decide (i>=2 ^ 63)=false:=decide_eq_false (by lia);rw[e1,e2,Bool.or_false]) (by rw[h1];simpa using h2) ⟨.str ⟨#[c]⟩,H,I.tok _,⟨_,rfl⟩,q⟩) hs
theorem Zfu (lo hi:Option Int)(n:Nat):(sliceBounds lo hi none n).1=((HT.sIx n 0 lo:Nat):Int)/\(sliceBounds lo hi none n).2.1=((HT.sIx n n hi:Nat):Int)/\(sliceBounds lo hi none n).2.2=1:=by
 refine⟨?_,?_,rfl⟩
 .cases lo with
  | none=>simp[sliceBounds,HT.sIx]
  | some i=>
   simp only[sliceBounds,HT.sIx,Option.getD_none,show (1:Int)>0 by decide,if_true];by_cases h:i<0
   .simp only[h,if_true]<;>lia
   .simp only[h,if_false]<;>lia
 .cases hi with
  | none=>simp[sliceBounds,HT.sIx]
  | some i=>
   simp only[sliceBounds,HT.sIx,Option.getD_none,show (1:Int)>0 by decide,if_true];by_cases h:i<0
   .simp only[h,if_true]<;>lia
   .simp only[h,if_false]<;>lia
theorem ZeP (its:AD)(lo hi:Option Int):slicePick its.toArray lo hi none=((its.drop (HT.sIx its.length 0 lo)).take (HT.sIx its.length its.length hi-HT.sIx its.length 0 lo)).toArray:=by obtain⟨h1,h2,h3⟩:=Zfu lo hi its.toArray.size;unfold slicePick;rw[h1,h2,h3];simp only[sliceRange_one,pick_run,YAO]<;>rfl
def rSlL (K:Q4):V->Option Int->Option Int->Hp->VK->Prop:=λx lo hi H Q=>∃a xs,x=.ref a/\SqL K H a xs/\∀p,H p=none->Q (.ref p) (upd H p (.lst (cutV xs lo hi)))
theorem Zl3:SlR X (rSlL X.K):=by intro Ar s U H x v vl vu lo hi sl Q I rx hs pl pu h;obtain⟨a,xs,rfl,hx,q⟩:=h;cases rx;obtain⟨its,r,ht,hz⟩:=I.list hx;have Au:=r.length;refine⟨"list",_,slot_list_getitem.lookup,ht.isList.typeIs,?_⟩;refine wpAny_getItem_list_slice ht.isList hs pl pu .none (by simp) ?_ (by rw[YAO]<;>lia);rw[ZeP,<-Au];refine⟨.ref s.heap.objs.size,_,I.laid (t':=s.toks) (o:=.lst (cutV xs lo hi)) (λb ob q=>YAE _ q) (YAP _) ?_,rfl,q _ (I.hok.fresh (YAP _))⟩;exact⟨YAK (ZgX xs lo hi) hz,_,0,(r.drop (HT.sIx xs.length 0 lo)).take (HT.sIx xs.length xs.length hi-HT.sIx xs.length 0 lo),YAY _ rfl⟩
noncomputable def Zbp:V->Bool
 | .non=>true
 | .bl _=>true
 | .int _=>true
 | .str _=>true
 | _=>false
noncomputable def eqV:V->V->Bool
 | .non,.non=>true
 | .bl a,.bl b=>a == b
 | .bl a,.int b=>(if a then 1 else 0) == b
 | .int a,.bl b=>a == (if b then 1 else 0)
 | .int a,.int b=>a == b
 | .str a,.str b=>a == b
 | _,_=>false
theorem ZlF (ry:RelV y u)(rx:RelV x v)(fy:Zbp y=true)(fx:Zbp x=true):SeqAt.EqAt A s u v (eqV y x):=by
 cases y with
 | non=>
  cases ry;cases x with
  | non=>cases rx;exact SeqAt.EqAt.same _
  | bl b=>cases rx;exact SeqAt.EqAt.none_bool b
  | int b=>obtain⟨t,rfl⟩:=rx;exact SeqAt.EqAt.none_int b t
  | str b=>obtain⟨t,rfl⟩:=rx;exact SeqAt.EqAt.none_str b t
  | _=>exact absurd (show false=true from fx) YAC
 | bl a=>
  cases ry;cases x with
  | non=>cases rx;exact SeqAt.EqAt.bool_none a
  | bl b=>cases rx;exact SeqAt.EqAt.bool_bool a b
  | int b=>obtain⟨t,rfl⟩:=rx;exact SeqAt.EqAt.bool_int a b t
  | str b=>obtain⟨t,rfl⟩:=rx;exact SeqAt.EqAt.bool_str a b t
  | _=>exact absurd (show false=true from fx) YAC
 | int a=>
  obtain⟨t',rfl⟩:=ry;cases x with
  | non=>cases rx;exact SeqAt.EqAt.int_none a t'
  | bl b=>cases rx;exact SeqAt.EqAt.int_bool a t' b
  | int b=>obtain⟨t,rfl⟩:=rx;exact SeqAt.EqAt.int_int a t' b t
  | str b=>obtain⟨t,rfl⟩:=rx;exact SeqAt.EqAt.int_str a t' b t
  | _=>exact absurd (show false=true from fx) YAC
 | str a=>
  obtain⟨t',rfl⟩:=ry;cases x with
  | non=>cases rx;exact SeqAt.EqAt.str_none a t'
  | bl b=>cases rx;exact SeqAt.EqAt.str_bool a t' b
  | int b=>obtain⟨t,rfl⟩:=rx;exact SeqAt.EqAt.str_int a t' b t
  | str b=>obtain⟨t,rfl⟩:=rx;exact SeqAt.EqAt.str_str a t' b t
  | _=>exact absurd (show false=true from fx) YAC
 | _=>exact absurd (show false=true from fy) YAC
def eqU (x:V)(u:Value):Bool:=match u with
 | .none=>eqV .non x
 | .bool b=>eqV (.bl b) x
 | .int i _=>eqV (.int i) x
 | .str z _=>eqV (.str z) x
 | _=>false
theorem ZlE (r:RelV y u)(f:Zbp y=true):eqU x u=eqV y x:=by
 cases y with
 | non=>cases r;rfl
 | bl b=>cases r;rfl
 | int i=>obtain⟨t,rfl⟩:=r;rfl
 | str z=>obtain⟨t,rfl⟩:=r;rfl
 | _=>exact absurd (show false=true from f) YAC
theorem Zed {x:V}:∀ {xs:List V} {us:AD},Vals xs us->xs.all Zbp=true->us.any (eqU x)=xs.any λy=>eqV y x
 | _,_,.nil,_=>rfl
 | y::xs,u::us,.cons r t,f=>by rw[List.all_cons,YAX]at f;rw[List.any_cons,List.any_cons,ZlE r f.1,Zed t f.2]
theorem ZcT {A:AI}{s:AF}{x:V}{v:Value}(rx:RelV x v)(fx:Zbp x=true):∀ {xs:List V} {us:AD},Vals xs us->xs.all Zbp=true->∀u∈us,SeqAt.EqAt A s u v (eqU x u)
 | _,_,.nil,_=>λu hu=>by cases hu
 | y::xs,u::us,.cons r t,f=>λu' hu=>by
  rw[List.all_cons,YAX]at f;rcases YAH.mp hu with rfl | hu
  .rw[ZlE r f.1];exact ZlF r rx f.1 fx
  .exact ZcT rx fx t f.2 u' hu
def inV (x:V)(xs:List V):Bool:=xs.any λy=>eqV y x
def rIn (K:Q4)(neg:Bool):R2:=λx y H Q=>∃p xs,y=.ref p/\(SqL K H p xs\/SqT K H p xs)/\Zbp x=true/\xs.all Zbp=true/\Q (.bl (if neg then !inV x xs else inV x xs)) H
theorem ZiY:OpR X (compareOp .In) (rIn X.K false):=by
 intro Ar s U H x y v u Q I rx ry h;obtain⟨p,xs,rfl,hq,fx,fs,q⟩:=h;cases ry;rcases hq with hq | hq
 .obtain⟨its,r,pl,hz⟩:=I.list hq;refine SeqAt.in_listAt (eqU x) pl.isList (λw hw=>ZcT rx fx r fs w (by simpa using hw)) ⟨.bl _,H,I,rfl,?_⟩;rw[show its.toArray.any (eqU x)=its.any (eqU x) by simp,Zed r fs];exact q
 .obtain⟨its,r,pl,hz⟩:=I.tuple hq;refine SeqAt.in_tupleAt (eqU x) pl (λw hw=>ZcT rx fx r fs w (by simpa using hw)) ⟨.bl _,H,I,rfl,?_⟩;rw[show its.toArray.any (eqU x)=its.any (eqU x) by simp,Zed r fs];exact q
theorem ZfF:OpR X (compareOp .NotIn) (rIn X.K true):=by
 intro Ar s U H x y v u Q I rx ry h;obtain⟨p,xs,rfl,hq,fx,fs,q⟩:=h;cases ry;rcases hq with hq | hq
 .obtain⟨its,r,pl,hz⟩:=I.list hq;refine SeqAt.notIn_listAt (eqU x) pl.isList (λw hw=>ZcT rx fx r fs w (by simpa using hw)) ⟨.bl _,H,I,rfl,?_⟩;rw[show its.toArray.any (eqU x)=its.any (eqU x) by simp,Zed r fs];exact q
 .obtain⟨its,r,pl,hz⟩:=I.tuple hq;refine SeqAt.notIn_tupleAt (eqU x) pl (λw hw=>ZcT rx fx r fs w (by simpa using hw)) ⟨.bl _,H,I,rfl,?_⟩;rw[show its.toArray.any (eqU x)=its.any (eqU x) by simp,Zed r fs];exact q
theorem Zgd:Zcc X (.type "list") (λxs H Q=>∃p ys,xs=[.ref p]/\(SqL X.K H p ys\/SqT X.K H p ys)/\∀l,H l=none->Q (.ref l) (upd H l (.lst ys))):=by
 intro Ar s U H xs us Q I r h;obtain⟨p,ys,rfl,hq,q⟩:=h;obtain⟨u,rfl,rx⟩:=vals1 r;cases rx;have fin:∀(its:AD),Vals ys its->ys.length<=sizeLine->∀(h':Heap) (c':Nat),(∀b o',s.heap.get? b=some o'->h'.get? b=some o') ->
   h'.get? s.heap.objs.size=some { cls:=.type "list",dict:=none,data:=.seq its.toArray c',slots:=#[] }->EP X Ar U Q (.ref s.heap.objs.size) { s with heap:=h' }:=λits r' hz h' c' kp e=>
  ⟨.ref s.heap.objs.size,_,I.laid (t':=s.toks) kp (YAP _) (show ObjOk X.prog X.w _ h' _ (.lst ys) from⟨hz,its,c',r',e⟩),rfl,q _ (I.hok.fresh (YAP _))⟩
 rcases hq with hq | hq
 .obtain⟨its,r',pl,hz⟩:=I.list hq;have Au:=r'.length;obtain⟨o,ho,hc,n,hd⟩:=pl.isList;exact call_list_seq p (.inl rfl) ho hc hd (λh' c' kp e=>fin its r' hz h' c' kp e) (by simp only[YAO]<;>lia)
 .obtain⟨its,r',pl,hz⟩:=I.tuple hq;have Au:=r'.length;obtain⟨o,ho,hc,n,hd⟩:=pl;exact call_list_seq p (.inr rfl) ho hc hd (λh' c' kp e=>fin its r' hz h' c' kp e) (by simp only[YAO]<;>lia)
def tyV (K:Q4)(T:String)(x:V)(H:Hp):Prop:=match x with
 | .str _=>T="str"
 | .int _=>T="int"
 | .ref p=>(T="list"/\∃xs,SqL K H p xs)\/(T="tuple"/\∃o,K.lookup p=some o/\o.cls=.type "tuple"/\o.dict=none) \/
   (T="dict"/\((∃kvs,H p=some (.dK kvs))\/∃kvs,H p=some (.dT kvs)))\/(T="set"/\∃S n,H p=some (.set S n))
 | _=>False
theorem Zlh (I:Inv X Ar U H s)(r:RelV x v)(ty:tyV X.K T x H):
  s.TypeIs v T/\∀a,v=.ref a->∃ob,s.heap.get? a=some ob/\ob.dict=none:=by
 cases x with
 | str z=>
  obtain⟨t,rfl⟩:=r;cases (show T="str" from ty);exact⟨typeIs_str s z t,λ_ e=>nomatch e⟩
 | int i=>
  obtain⟨t,rfl⟩:=r;cases (show T="int" from ty);exact⟨typeIs_int s i t,λ_ e=>nomatch e⟩
 | ref p=>
  cases r;rcases ty with⟨rfl,xs,hq⟩|⟨rfl,o,hk,hc,hd⟩|⟨rfl,hk⟩|⟨rfl,S,n,hk⟩
  .obtain⟨its,_,pl,_⟩:=I.list hq;refine⟨pl.isList.typeIs,λa e=>?_⟩;cases e;obtain⟨o,n,e,c,hd,_⟩:=pl;exact⟨o,e,hd⟩
  .refine⟨⟨o,I.kIn p o hk,hc⟩,λa e=>?_⟩;cases e;exact⟨o,I.kIn _ o hk,hd⟩
  .have z:∃o,s.heap.get? p=some o/\o.ExactDict:=by
    rcases hk with⟨kvs,hk⟩|⟨kvs,hk⟩
    .obtain⟨_,_,_,_,o,_,_,e,ex,_⟩:=I.hok p _ hk;exact⟨o,e,ex⟩
    .obtain⟨_,_,_,_,o,_,_,e,ex,_⟩:=I.hok p _ hk;exact⟨o,e,ex⟩
   obtain⟨o,e,ex⟩:=z;refine⟨⟨o,e,ex.1⟩,λa e2=>?_⟩;cases e2;exact⟨o,e,ex.2.1⟩
  .obtain⟨o,_,_,_,e,ex,_⟩:=I.hok p _ hk;refine⟨⟨o,e,ex.1⟩,λa e2=>?_⟩;cases e2;exact⟨o,e,ex.2.1⟩
 | _=>exact False.elim ty
def tBM0 (K:Q4)(T:String)(r:V->List V->Hp->VK->Prop)(to:TE):TE:=λU H Q=>to U H λx H1=>tyV K T x H1/\r x [] H1 Q
def tBM (K:Q4)(T:String)(r:V->List V->Hp->VK->Prop)(to:TE)(t:TA):TE:=λU H Q=>to U H λx H1=>tyV K T x H1/\t U H1 λxs H2=>r x xs H2 Q
variable {o e:Expr}{es:List Expr}{to:TE}{t:TA}{name:Str}{Ax Ay:Pos}{T id:String}{r:V->List V->Hp->VK->Prop}
theorem Zlo (pa:PlainAttrs T) (slot:Slot T name id) (hty:typeOf (.builtin id)=pure (.type "method_descriptor")) (hm:MtR X id r) (ho:PE X o to)
  (hbase:attributeBase o name X.env (eval o X.env)=eval o X.env:=by rfl) (hline:(Ax.endLine == Ay.line)=true:=by rfl):PE X (.Call (.Attribute o name Ax) [] [] Ay) (tBM0 X.K T r to):=by
 intro Ar s U H Q I h;refine wpAny_Call_method0_late hbase hline (thn (ho Ar s U H _ I h) λv s1 zz=>?_);obtain⟨x,H1,I1,r1,ty,q1⟩:=zz;obtain⟨h1,h2⟩:=Zlh I1 r1 ty;exact⟨T,id,pa,slot,hty,h1,h2,Calls.callWith_builtin rfl (PySem.evalArgs_none (hm Ar s1 U H1 x [] v [] Q I1 r1 .nil q1))⟩
theorem ZeY (pa:PlainAttrs T) (slot:Slot T name id) (hty:typeOf (.builtin id)=pure (.type "method_descriptor")) (hm:MtR X id r) (ho:PE X o to) (ha:PA X (e::es) t)
  (hbase:attributeBase o name X.env (eval o X.env)=eval o X.env:=by rfl)
  (hfew:((backTo Ay (starEach (e::es) X.env)).all (λx=>!x.1)&&(backToKw Ay (keywordEach [] X.env)).all (λx=>x.1.isSome)
   && decide ((e::es).length+([]:List Keyword).length+(if ([]:List Keyword).isEmpty then 0 else 1)<30))=true:=by rfl)
  (hline:(Ax.endLine == Ay.line)=true:=by rfl) (hs:starEach (e::es) X.env=(false,eval e X.env)::starEach es X.env:=by rfl) (hplain:(backTo Ay (starEach es X.env)).any (·.1)=false:=by rfl):
  PE X (.Call (.Attribute o name Ax) (e::es) [] Ay) (tBM X.K T r to t):=by
 intro Ar s U H Q I h;refine wpAny_Call_method_late hbase hfew hline rfl (thn (ho Ar s U H _ I h) λv s1 zz=>?_);obtain⟨x,H1,I1,r1,ty,q1⟩:=zz;obtain⟨h1,h2⟩:=Zlh I1 r1 ty;refine⟨T,id,pa,slot,hty,h1,h2,?_⟩;have hA:=ha Ay Ar s1 U H1 _ I1 q1;rw[hs]at hA ⊢;refine Calls.callWith_builtin (by show (false || (backTo Ay (starEach es X.env)).any (·.1))=false;rw[hplain]<;>rfl) (Calls.evalArgs_plain ?_);exact thn hA λus s2 ⟨vs,H2,I2,r2,q2⟩=>hm Ar s2 U H2 x vs v us Q I2 r1 r2 q2
end
def MtM (X:Cx)(id:String)(r:V->List V->Hp->VK->Prop):Prop:=
 ∀(Ar:AB) (s:AF) (U:St) (H:Hp) (x:V) (xs:List V) (v:Value) (us:AD) (Q:VK),Inv X Ar U H s->RelV x v->Vals xs us->r x xs H Q ->
  wpAny (model X.prog X.w) X.A (call (.builtin id) (v::us)) (EP X Ar U Q) X.xe s
theorem Vals.one (h:Vals [x] us):∃u,us=[u]/\RelV x u:=by
 cases h with
 | cons r n=>cases n;exact⟨_,rfl,r⟩
theorem Vals.two (h:Vals [x,y] us):∃u v,us=[u,v]/\RelV x u/\RelV y v:=by
 cases h with
 | cons r t=>
  cases t with
  | cons q n=>cases n;exact⟨_,_,rfl,r,q⟩
theorem Vals.zero:∀ {us:AD},Vals [] us->us=[]
 | _,.nil=>rfl
theorem Vals.dropLast (h:Vals xs us):Vals xs.dropLast us.dropLast:=by
 induction h with
 | nil=>exact .nil
 | cons r t ih=>
  cases t with
  | nil=>exact .nil
  | cons q t'=>exact .cons r ih
theorem Vals.reverse (h:Vals xs us):Vals xs.reverse us.reverse:=by
 induction h with
 | nil=>exact .nil
 | cons r t ih=>rw[List.reverse_cons,List.reverse_cons];exact Vals.append ih (.cons r .nil)
theorem Zin (l:List α):l.eraseIdx (l.length-1)=l.dropLast:=by
 induction l with
 | nil=>rfl
 | cons a r ih=>
  cases r with
  | nil=>rfl
  | cons b r=>
   have e:(a::b::r).length-1=((b::r).length-1)+1:=by have h1:(a::b::r).length=r.length+2:=rfl;have h2:(b::r).length=r.length+1:=rfl;lia
   rw[e,List.eraseIdx_cons_succ,ih];all_goals rfl
section
theorem Inv.lset {its its':AD}{n:Nat}{f:Array Value->Array Value}{t':Nat}(I:Inv X Ar U H s)(hH:H l=some (.lst xs))
  (e:s.heap.get? l=some { cls:=.type "list",data:=.seq its.toArray n }) (hf:f its.toArray=its'.toArray) (hv:Vals ys its') (hz:ys.length<=sizeLine):
  Inv X Ar U (upd H l (.lst ys)) { s with heap:=s.heap.update l (Obj.mapSeq f),toks:=t' }:=by
 have q:=PySem.IsL.update e f;rw[hf]at q;refine I.write (x:=l) (e:=l) (by rw[hH];exact trivial) (.inl rfl) (λb' u hb hu=>(YCe s.heap (Obj.mapSeq f) (YAk hb)).trans hu) ⟨_,q⟩ ?_;exact⟨hz,its',_,hv,q⟩
theorem Inv.lnew (I:Inv X Ar U H s)(hv:Vals ys its)(hz:ys.length<=sizeLine):
  Inv X Ar U (upd H s.heap.objs.size (.lst ys)) { s with heap:=s.heap.push { cls:=.type "list",data:=.seq its.toArray },toks:=t' }:=
 I.laid (λ_ _ q=>YAE _ q) (YAP _) ⟨hz,its,0,hv,YAY _ rfl⟩
theorem Inv.fresh (I:Inv X Ar U H s):H s.heap.objs.size=none:=I.hok.fresh (YAP _)
theorem Inv.lstM (I:Inv X Ar U H s)(hH:H l=some (.lst xs)):xs.length<=sizeLine/\∃(its:AD) (n:Nat),Vals xs its/\xs.length=its.length/\s.heap.get? l=some { cls:=.type "list",data:=.seq its.toArray n }:=by obtain⟨z,its,n,r,e⟩:=I.hok l _ hH;exact⟨z,its,n,r,r.length,e⟩
theorem Zks (h:n<=sizeLine):Builtin.List.listTooLong n=false:=by unfold Builtin.List.listTooLong;exact decide_eq_false (by lia)
end
section
def rAppend:V->List V->Hp->VK->Prop:=λx vs H Q=>∃l xs y,x=.ref l/\vs=[y]/\H l=some (.lst xs)/\xs.length<sizeLine/\Q .non (upd H l (.lst (xs++[y])))
theorem ZbE:MtM X "list.append" rAppend:=by intro Ar s U H x vs v us Q I rx rv h;obtain⟨l,xs,y,rfl,rfl,hH,hz,q⟩:=h;cases rx;obtain⟨u,rfl,ru⟩:=rv.one;obtain⟨z,its,n,r,hl,e⟩:=I.lstM hH;refine call_meets F.slot_list_append ⟨_,e,rfl⟩ F.entry_list_append (F.args_list_append_2 _ _) (PySem.list_append l its.toArray n u (by rw[YAO];lia)) ⟨e,?_⟩;refine⟨.non,_,I.lset (its':=its++[u]) hH e (by simp) (r.append (.cons ru .nil)) ?_,rfl,q⟩;rw[YAG,YBF];lia
def rExtend:V->List V->Hp->VK->Prop:=λx vs H Q=>∃l b xs zs,x=.ref l/\vs=[.ref b]/\H l=some (.lst xs)/\H b=some (.lst zs)/\xs.length+zs.length<=sizeLine/\Q .non (upd H l (.lst (xs++zs)))
theorem Zi7:MtM X "list.extend" rExtend:=by
 intro Ar s U H x vs v us Q I rx rv h;obtain⟨l,b,xs,zs,rfl,rfl,hH,hB,hz,q⟩:=h;cases rx;obtain⟨u,rfl,ru⟩:=rv.one;cases ru;obtain⟨z,its,n,r,hl,e⟩:=I.lstM hH;obtain⟨z2,its2,n2,r2,hl2,e2⟩:=I.lstM hB;have hsz:its.toArray.size+its2.toArray.size<=sizeLine:=by rw[YAO,YAO];lia
 have hlong:¬(!its.toArray.isEmpty&&Builtin.List.listTooLong (its.toArray.size+its2.toArray.size))=true:=by rw[Zks hsz,YBn];exact YAC
 refine call_meets F.slot_list_extend ⟨_,e,rfl⟩ F.entry_list_extend (F.args_list_extend_2 _ _)
  (AutoSeq1.list_extend_list_list_0 l its.toArray n b its2.toArray n2 hlong (by rw[YAO];lia) (by lia)) ⟨e,e2,?_⟩
 refine⟨.non,_,I.lset (its':=its++its2) hH e (by simp) (r.append r2) ?_,rfl,q⟩;rw[YAG];lia
def rPop:V->List V->Hp->VK->Prop:=λx vs H Q=>∃l xs y,x=.ref l/\vs=[]/\H l=some (.lst xs)/\xs[xs.length-1]?=some y/\Q y (upd H l (.lst xs.dropLast))
theorem Zos:MtM X "list.pop" rPop:=by
 intro Ar s U H x vs v us Q I rx rv h;obtain⟨l,xs,y,rfl,rfl,hH,hy,q⟩:=h;cases rx;have hus:=rv.zero;subst hus;obtain⟨z,its,n,r,hl,e⟩:=I.lstM hH;obtain⟨u,hu,ru⟩:=r.get hy;have hy':its.toArray[its.toArray.size-1]?=some u:=by show its.toArray[its.length-1]?=some u;rw[<-YAr,<-hl];exact hu
 refine call_meets F.slot_list_pop ⟨_,e,rfl⟩ F.entry_list_pop (F.args_list_pop_1 _) (MeetsSeq.list_pop_last l its.toArray n u hy' (by rw[YAO];lia)) ⟨e,?_⟩;refine⟨y,_,I.lset (its':=its.dropLast) hH e ?_ r.dropLast ?_,ru,q⟩
 .show its.toArray.eraseIdxIfInBounds (its.toArray.size-1)=its.dropLast.toArray;rw[YAO,List.eraseIdxIfInBounds_toArray,Zin]
 .rw[YBJ];lia
def rClear:V->List V->Hp->VK->Prop:=λx vs H Q=>∃l xs,x=.ref l/\vs=[]/\H l=some (.lst xs)/\Q .non (upd H l (.lst []))
theorem Zkx:MtM X "list.clear" rClear:=by intro Ar s U H x vs v us Q I rx rv h;obtain⟨l,xs,rfl,rfl,hH,q⟩:=h;cases rx;have hus:=rv.zero;subst hus;obtain⟨z,its,n,r,hl,e⟩:=I.lstM hH;refine call_meets F.slot_list_clear ⟨_,e,rfl⟩ F.entry_list_clear (F.args_list_clear_1 _) (AutoSeq1.list_clear_list_0 l its.toArray n (by rw[YAO];lia)) ⟨e,?_⟩;exact⟨.non,_,I.lset (its':=[]) (ys:=[]) hH e rfl .nil (YAt _),rfl,q⟩
def rCat:R2:=λx y H Q=>∃l b xs zs,x=.ref l/\y=.ref b/\H l=some (.lst xs)/\H b=some (.lst zs)/\xs.length+zs.length<=sizeLine/\∀p,H p=none->Q (.ref p) (upd H p (.lst (xs++zs)))
theorem Zhq:OpR X (binaryOp .Add) rCat:=by
 intro Ar s U H x y v u Q I rx ry h;obtain⟨l,b,xs,zs,rfl,rfl,hH,hB,hz,q⟩:=h;cases rx;cases ry;obtain⟨z,its,n,r,hl,e⟩:=I.lstM hH;obtain⟨z2,its2,n2,r2,hl2,e2⟩:=I.lstM hB;refine PySem.P.add_list e e2 ?_ (by rw[YAO,YAO];lia);have ea:its.toArray++its2.toArray=(its++its2).toArray:=by simp
 rw[ea];exact⟨.ref _,_,I.lnew (t':=s.toks) (r.append r2) (by rw[YAG];lia),rfl,q _ I.fresh⟩
end
section
end
section
end
end L2
namespace Att
open PySem PySem.W PySem.Calls PyProof.Rows
theorem Zd2:∀(ns:List Int) (vs:AD),WellAll P h vs (ns.map WData.int)->IntsAre vs ns:=by
 intro ns;induction ns with
 | nil=>
  intro vs w;rw[List.map_nil]at w;cases w;exact .nil
 | cons n ns ih=>
  intro vs w;rw[YAi]at w;cases w with
  | cons a b=>
   cases a;exact .cons _ _ (ih _ b)
theorem ZiI {l:OpenLaw}{n:Nat}(hn:l.most=some n){P:Params}{h:Heap}{args:List WData}{vals:AD}
  (hpre:l.row.toRowW.claim.pre args=true) (hwl:WellAll P h vals args):
  ∃a vs ns,vals=[Value.ref a]/\args=[WData.list (ns.map WData.int)]/\h.get? a=some { cls:=.type "list",data:=.seq vs.toArray }/\IntsAre vs ns/\ns.length<=n:=by
 have hsh:WShape.hasAll [] args [.list .int]=true:=(pre_splitW hpre).1;have hc:l.pre.holds [] { args:=args }=true:=(pre_splitW hpre).2;obtain⟨d,r,rfl,h1,h2⟩:=hasAllW_cons hsh;obtain rfl:=hasAllW_nil h2;obtain⟨xs,rfl,h3⟩:=hasW_list h1;obtain⟨ns,rfl⟩:=items_int h3;have Au:ns.length<=n:=by
  unfold OpenLaw.pre at hc;have h4:(WTm.not (.lt (.lit (.int (n:Int))) (.len (.arg 0)))).holds [] { args:=[.list (ns.map .int)] }=true:=by have h4:=(holds_andW hc).1;rw[hn]at h4;exact h4
  have h5:=condW_of h4 (w_not (w_lt w_lit (w_len_list (w_arg rfl))));rw[YAB]at h5;refine Nat.le_of_not_lt λq=>?_;have q':(n:Int)<((ns.length:Nat):Int):=by lia
  first
   | (rw[decide_eq_true q']at h5;exact absurd h5 (by decide))
   | (simp at h5;lia)
 cases hwl with
 | cons w1 w2=>
  cases w2;cases w1 with
  | list ho hall=>exact⟨_,_,ns,rfl,rfl,ho,Zd2 ns _ hall,Au⟩
theorem ZiS (l:OpenLaw)(args:List WData):l.row.toRowW.claim.post args (.bool true) args=true:=
 postW_of (r:=l.row.toRowW) (X:=(true == true))
  (show WShape.has [] (.bool true) .bool=true by first | rfl | decide | simp[WShape.has,WShape.arms,WShape.armsAll])
  (show (WTm.eq .res (.lit (.bool true))).value [] { args:=args,res:=some (.bool true),after:=args }=some (.bool (true == true)) from w_eq_bool (w_res rfl) w_lit) rfl
theorem attach_call {l:OpenLaw}{n:Nat}{q:AH}{loose:AK}{XP:(AC)->Heap->Prop}{YP:AJ->Heap->Prop}{d:DefRec}
  (hn:l.most=some n) (hdf:d.params.defaults=[])
  (call:∀(w:AJ) (s_0 s_1:AF) (mg mb:AC) (fa:AE) (o:Obj) (pm cd doc:Value) (a:AE) (vs:AD) (ns:List Int),
   Ground q loose [] XP w s_0 mg mb s_1.heap->YP w s_1.heap ->
   s_1.heap.get? fa=some o->o.data=.func (docDef d.name d.params d.body d.scope pm cd doc)->s_1.heap.CodeRec cd d.name->mg d.name=some (.ref fa) ->
   s_1.heap.get? a=some { cls:=.type "list",data:=.seq vs.toArray }->IntsAre vs ns->ns.length<=n->s_1.gens=#[] ->
   codeAny (model l.prog w) callerA (.call (.ref fa) ⟨[.ref a],[]⟩) (λr s'=>r=.ok (.ret (.bool true))/\OldK s_1.heap s'.heap/\s'.os=s_1.os/\AllBare s'.gens) s_1):
  WalkO q loose XP YP l.row.toRowW d [] (λf vs=>PySem.call f vs):=by
 intro w s_0 s_1 mg mb G Y fa o pm cd doc dV kV ho hd hcd hD hmg hg args vals as hpre hlay hrd hwl hlo;obtain rfl:dV=.none:=Dflts.none hD hdf;obtain rfl:kV=.none:=Dflts.noKw hD;obtain⟨a,vs,ns,rfl,rfl,hobj,hints,Au⟩:=ZiI hn hpre hwl;refine enter_call (codeAny_mono (call w s_0 s_1 mg mb fa o pm cd doc a vs ns G Y ho (fd_plain hd) hcd hmg hobj hints Au hg) λr s' hq=>?_);obtain⟨rfl,h2,h3,h4⟩:=hq;exact⟨.inl ⟨.bool true,.bool true,[],rfl,λ_=>rfl,.bool true,ZiS l _,λ_=>⟨List.Pairwise.nil,λ_ hm=>(nomatch hm)⟩⟩,h2,h3,h4⟩
section
end
end Att
namespace L2
open PySem PySem.Spec PyProof.Rows
theorem Zfq:∀ {vs:AD} {ns:List Int},IntsAre vs ns->Vals (ns.map V.int) vs
 | _,_,.nil=>.nil
 | _,_,.cons n t h=>.cons ⟨t,rfl⟩ (Zfq h)
noncomputable abbrev KOf {K:Q4}{h:Heap}(_:K.In h):Q4:=K
noncomputable def inClass (s:Stmt)(j:Nat):Stmt:=match s with
 | .ClassDef _ _ _ body _ _ _ _ _ _ _=>body.getD j (.Pass ⟨0,0,0,0⟩)
 | _=>.Pass ⟨0,0,0,0⟩
noncomputable def ZbR (s:Stmt):Arguments:=match s with
 | .FunctionDef _ a _ _ _ _ _ _ _ _=>a
 | _=>{ posonlyargs:=[],args:=[],vararg:=none,kwonlyargs:=[],kw_defaults:=[],kwarg:=none,defaults:=[] }
noncomputable def ZaL (s:Stmt):List Stmt:=match s with
 | .FunctionDef _ _ b _ _ _ _ _ _ _=>b
 | _=>[]
noncomputable def Zaj (s:Stmt):Scope:=match s with
 | .FunctionDef _ _ _ _ _ _ sc _ _ _=>sc
 | _=>{ kind:=.function,names:=[],isGenerator:=false,isCoroutine:=false }
abbrev CX0:CXT:=λ_ _ _ _ _ _=>False
abbrev E0:XK:=λ_ _ _=>False
theorem Zan:Zc7 CX0 X E0:=λ_ _ _ _ _ _ _ h=>h.elim
structure Fun (K:Q4)(x qual:Str)(st:Stmt)(f:AE)(fd:AG):Prop where
 ex:∃(oc:Value) (od:Option AE) (kV doc pm:Value) (an:Option AE) (As ct:Value) (osl:Array (Option Value)),
  fd=fnOf x qual (ZbR st) (ZaL st) (Zaj st) .none kV doc pm an As ct/\K.lookup f=some ⟨oc,od,.func fd,osl⟩/\codeIn K As qual=true
 kp:keepIn K (.ref f)=true
section
variable {P:AH}{w:AJ}{K:Q4}{mg:AC}{base:Heap}
theorem Fun.ok {x qual:Str}{st:Stmt}{f:AE}{fd:AG}{N ps:AK}{k:Nat}{sp:Sp}(F:Fun K x qual st f fd)(S:FnScope N ps (Zaj st))(len:∀vs H Q E,sp vs H Q E->vs.length=ps.length)
  (hbody:∀(As:Value) (A:AI) (outer:List Env) (s:AF) (H:Hp) (vs:List V) (Q:VK) (E:XK),Room k (A.deeper (envOfC qual (Zaj st) s.heap.objs.size f As))->sp vs H Q E ->
   ∃t,PSs (cxOf CX0 P w K mg base N qual (Zaj st) f As A outer s H E).nox (ZaL st) t/\t { nx:=λ_ H'=>Q .non H',rt:=Q } (start N vs) H):FnOk P w K mg base CX0 (k+1) f fd ps sp:=by
 obtain⟨oc,od,kV,doc,pm,an,As,ct,osl,rfl,lk,hcd⟩:=F.ex;refine Zo1 lk hcd S len λA outer s H vs Q E hr hsp=>?_;obtain⟨t,h,q⟩:=hbody As A outer s H vs Q E hr hsp;exact⟨t,h.nox,q⟩
theorem Fun.binds {x qual:Str}{st:Stmt}{f:AE}{fd:AG}{ps:AK}(F:Fun K x qual st f fd)
  (h:∀(kV doc pm:Value) (an:Option AE) (As ct:Value) (us:AD),us.length=ps.length->bindArgs (fnOf x qual (ZbR st) (ZaL st) (Zaj st) .none kV doc pm an As ct) ⟨us,[]⟩=pure (ps.zip us)):Binds K fd ps []:=by
 obtain⟨oc,od,kV,doc,pm,an,As,ct,osl,rfl,lk,hcd⟩:=F.ex;exact .all (h kV doc pm an As ct)
theorem ZlB {x qual:Str}{st:Stmt}{f:AE}{oc:Value}{od an:Option AE}{osl:Array (Option Value)}{kV doc pm As ct:Value}(l:K.lookup f=some ⟨oc,od,.func (fnOf x qual (ZbR st) (ZaL st) (Zaj st) .none kV doc pm an As ct),osl⟩)
  (c:codeIn K As qual=true) (k:keepIn K (.ref f)=true):Fun K x qual st f (fnOf x qual (ZbR st) (ZaL st) (Zaj st) .none kV doc pm an As ct):=⟨⟨oc,od,kV,doc,pm,an,As,ct,osl,rfl,l,c⟩,k⟩
end
theorem ZaC (hr:Room k A):A.units+1<cLine:=YBf (Nat.add_le_add_left (by decide:1<=64) _) hr.units
theorem ZdI (h:n<=1000):n<sizeLine:=YBf h (by decide)
section
theorem pv (i:Nat) {x:Str} {pos:Pos} (hN:X.N[i]?=some x:=by rfl) (hv:Vis X.env.scope x:=by first | exact Or.inl rfl | exact Or.inr (Or.inl rfl) | exact Or.inr (Or.inr rfl)) (hd:(x == ("__debug__":Str))=false:=by decide)
  (hcd:(x == ("__classdict__":Str))=false:=by decide):PE X (.Name x pos) (tVar i):=ZnU hN hv hd hcd
end
theorem iteF {A B:Prop}(h:B):if false=true then A else B:=by rw[YAJ YAC];exact h
theorem iteT {A B:Prop}(h:A):if true=true then A else B:=by rw[YAM rfl];exact h
theorem ite2 {c A B:Prop}[Decidable c](h1:c->A)(h2:¬c->B):if c then A else B:=by
 by_cases h:c
 .rw[YAM h];exact h1 h
 .rw[YAJ h];exact h2 h
def Same (H H':Hp):Prop:=∀b o,H b=some o->H' b=some o
theorem Same.refl (H:Hp):Same H H:=λ_ _ h=>h
theorem Same.trans (a:Same H H1)(b:Same H1 H2):Same H H2:=λc o h=>b c o (a c o h)
theorem Same.free (e:Same H H'){l:AE}(h:H' l=Option.none):H l=Option.none:=by
 cases q:H l with
 | none=>rfl
 | some o=>
  rw[e l o q]at h;cases h
theorem Same.seq {K:Q4}{H H':Hp}{a:AE}{xs:List V}(e:Same H H')(h:SqL K H a xs):SqL K H' a xs:=by
 rcases h with (h | ⟨o,h⟩) | h
 .exact .inl (.inl (e _ _ h))
 .exact .inl (.inr ⟨o,e _ _ h⟩)
 .exact .inr h
section
variable {κ:Type}[DecidableEq κ]
noncomputable def valV (kvs:List (κ×V))(k:κ):Option V:=(kvs.find? λkv=>decide (kv.1=k)).map (·.2)
noncomputable def putK (kvs:List (κ×V))(k:κ)(v:V):List (κ×V):=
 if (kvs.any λkv=>decide (kv.1=k))=true then kvs.map (λkv=>if kv.1=k then (kv.1,v) else kv) else kvs++[(k,v)]
noncomputable def Zei (kvs:List (κ×V))(k:κ):List (κ×V):=kvs.filter λkv=>decide (kv.1≠k)
theorem Zbi {p:κ×V}{r:List (κ×V)}{k:κ}(e:p.1=k):valV (p::r) k=some p.2:=by simp[valV,YDI,e]
theorem Zbb {p:κ×V}{r:List (κ×V)}{k:κ}(e:¬p.1=k):valV (p::r) k=valV r k:=by simp[valV,YDI,e]
theorem Zb4 (k:κ):∀kvs:List (κ×V),(kvs.any λkv=>decide (kv.1=k))=(valV kvs k).isSome
 | []=>rfl
 | p::r=>by
  rw[List.any_cons];by_cases e:p.1=k
  .simp only[Zbi e,decide_eq_true e,Bool.true_or,Option.isSome_some]
  .rw[Zbb e,decide_eq_false e,Bool.false_or];exact Zb4 k r
theorem Zg5 (k j:κ)(y:V):∀kvs:List (κ×V),valV (kvs.map λkv=>if kv.1=k then (kv.1,y) else kv) j=(valV kvs j).map λx=>if j=k then y else x
 | []=>rfl
 | p::r=>by
  have ih:=Zg5 k j y r;rw[YAi];by_cases h:p.1=k
  .rw[YAM h];by_cases e:p.1=j
   .rw[Zbi (p:=(p.1,y)) e,Zbi e,YDF,YAM (e.symm.trans h)]
   .rw[Zbb (p:=(p.1,y)) e,Zbb e,ih]
  .rw[YAJ h];by_cases e:p.1=j
   .rw[Zbi (p:=p) e,Zbi e,YDF,YAJ (λz=>h (e.trans z))]
   .rw[Zbb (p:=p) e,Zbb e,ih]
theorem Zfr (k j:κ)(y:V):∀kvs:List (κ×V),valV kvs k=none->valV (kvs++[(k,y)]) j=if j=k then some y else valV kvs j
 | [],_=>by
  by_cases e:k=j
  .rw[YAM e.symm];exact Zbi (p:=(k,y)) e
  .rw[YAJ (λz=>e z.symm)];exact Zbb (p:=(k,y)) e
 | p::r,hn=>by
  rw[YCP];have hk:¬p.1=k:=λz=>by rw[Zbi z]at hn;cases hn
  rw[Zbb hk]at hn;have ih:=Zfr k j y r hn;by_cases e:p.1=j
  .rw[Zbi e,Zbi e,YAJ (λz=>hk (e.trans z))]
  .rw[Zbb e,Zbb e,ih]
theorem ZeM (kvs:List (κ×V))(k j:κ)(y:V):valV (putK kvs k y) j=if j=k then some y else valV kvs j:=by
 unfold putK;by_cases a:(kvs.any λkv=>decide (kv.1=k))=true
 .rw[YAM a,Zg5];rw[Zb4]at a;by_cases e:j=k
  .obtain⟨x,hx⟩:=YDB.mp a;rw[YAM e,e,hx,YDF,YAM rfl]
  .rw[YAJ e];cases valV kvs j with
   | none=>rfl
   | some x=>rw[YDF,YAJ e]
 .rw[YAJ a];refine Zfr k j y kvs ?_;rw[Zb4]at a;cases q:valV kvs k with
  | none=>rfl
  | some x=>rw[q]at a;exact(a rfl).elim
theorem ZbF (kvs:List (κ×V))(k:κ)(v:V):(putK kvs k v).length<=kvs.length+1:=by
 unfold putK;split
 .rw[YAB];lia
 .rw[YAG,YAf,YDH];lia
theorem Zcu {kvs:List (κ×V)}{k:κ}(v:V)(h:valV kvs k=none):putK kvs k v=kvs++[(k,v)]:=by unfold putK;rw[Zb4,h];exact YAJ (by decide)
theorem RelO.isSome_eq (r:RelO o u):o.isSome=u.isSome:=by
 cases o with
 | none=>cases u with
  | none=>rfl
  | some _=>exact(show False from r).elim
 | some _=>cases u with
  | none=>exact(show False from r).elim
  | some _=>rfl
theorem KV.val (r:KV kvs vs)(k:κ):RelO (valV kvs k) (valueAt vs k):=by
 unfold KV at r;induction r with
 | nil=>exact True.intro
 | @cons p q ps qs h t ih=>
  obtain⟨h1,h2⟩:=h;by_cases e:p.1=k
  .have e':q.1=k:=h1.symm.trans e;have b:valueAt (q::qs) k=some q.2:=by simp[valueAt,YDI,e']
   rw[Zbi e,b];exact h2
  .have e':¬q.1=k:=λz=>e (h1.trans z);have b:valueAt (q::qs) k=valueAt qs k:=by simp[valueAt,YDI,e']
   rw[Zbb e,b];exact ih
theorem KV.any (r:KV kvs vs)(k:κ):(kvs.any λkv=>decide (kv.1=k))=vs.any λkv=>decide (kv.1=k):=by
 unfold KV at r;induction r with
 | nil=>rfl
 | cons h t ih=>rw[List.any_cons,List.any_cons,ih,h.1]
theorem KV.repl (r:KV kvs vs)(k:κ){y:V}{u:Value}(ry:RelV y u):
  KV (kvs.map λkv=>if kv.1=k then (kv.1,y) else kv) (vs.map λkv=>if kv.1=k then (kv.1,u) else kv):=by
 unfold KV at r ⊢;induction r with
 | nil=>exact .nil
 | @cons p q ps qs h t ih=>
  rw[YAi,YAi];refine .cons ?_ ih;obtain⟨h1,h2⟩:=h;by_cases e:p.1=k
  .rw[YAM e,YAM (h1.symm.trans e)];exact⟨h1,ry⟩
  .rw[YAJ e,YAJ (λz=>e (h1.trans z))];exact⟨h1,h2⟩
theorem KV.put (r:KV kvs vs)(k:κ){y:V}{u:Value}(ry:RelV y u):KV (putK kvs k y) (stored vs k u):=by
 unfold putK stored;rw[r.any k];by_cases e:(vs.any λkv=>decide (kv.1=k))=true
 .rw[YAM e,YAM e];exact r.repl k ry
 .rw[YAJ e,YAJ e];exact Paired.snoc r ⟨rfl,ry⟩
theorem KV.drop (r:KV kvs vs)(k:κ):KV (Zei kvs k) (without vs k):=by
 unfold KV at r ⊢;unfold Zei without;induction r with
 | nil=>exact .nil
 | @cons p q ps qs h t ih=>
  obtain⟨h1,h2⟩:=h;rw[List.filter_cons,List.filter_cons];by_cases e:p.1=k
  .have a:¬decide (p.1≠k)=true:=by simp[e]
   have b:¬decide (q.1≠k)=true:=by simp[h1.symm.trans e]
   rw[YAJ a,YAJ b];exact ih
  .have e':¬q.1=k:=λz=>e (h1.trans z);have a:decide (p.1≠k)=true:=by simp[e]
   have b:decide (q.1≠k)=true:=by simp[e']
   rw[YAM a,YAM b];exact .cons ⟨h1,h2⟩ ih
theorem KV.keys {kvs:List (κ×V)}{vs:List (κ×Value)}(r:KV kvs vs):kvs.map (·.1)=vs.map (·.1):=by
 unfold KV at r;induction r with
 | nil=>rfl
 | cons h t ih=>rw[YAi,YAi,ih,h.1]
theorem KV.length (r:KV kvs vs):kvs.length=vs.length:=Paired.length r
theorem Zk0 (kvs:List (κ×V))(k:κ):(Zei kvs k).length<=kvs.length:=YAm _ _
end
theorem ZfS (r:RelV (kV k) u):(ZaB P w).is k u=true:=by
 cases k with
 | inl i=>obtain⟨t,e⟩:=(show ∃t,u=Value.int i t from r);subst e;exact ZgG P w i t
 | inr x=>obtain⟨t,e⟩:=(show ∃t,u=Value.str x t from r);subst e;exact ZcK P w x t
theorem ZfT {P:AH}{w:AJ}:∀ {ks:List Key} {us:AD},Vals (ks.map kV) us->ItemsAre (ZaB P w) ks us
 | [],_,r=>by rw[List.map_nil]at r;cases r;exact .nil
 | k::ks,_,r=>by
  rw[YAi]at r;cases r with
  | cons h t=>exact .cons (ZfS h) (ZfT t)
abbrev KT (H:Hp):List (List Key×V)->List (List Key×AE×Value)->Prop:=Paired λp q=>p.1=q.1/\H q.2.1=some (.tup (p.1.map kV))/\RelV p.2 q.2.2
theorem KT.val (r:KT H kvs xs)(k:List Key):RelO (valV kvs k) ((atKey xs k).map (·.2)):=by
 induction r with
 | nil=>exact True.intro
 | @cons p q ps qs h t ih=>
  obtain⟨h1,_,h2⟩:=h;by_cases e:p.1=k
  .have e':q.1=k:=h1.symm.trans e;have b:atKey (q::qs) k=some q.2:=by simp[atKey,YDI,e']
   rw[Zbi e,b];exact h2
  .have e':¬q.1=k:=λz=>e (h1.trans z);have b:atKey (q::qs) k=atKey qs k:=by simp[atKey,YDI,e']
   rw[Zbb e,b];exact ih
theorem KT.repl (r:KT H kvs xs)(k:List Key){y:V}{u:Value}(ry:RelV y u):
  KT H (kvs.map λkv=>if kv.1=k then (kv.1,y) else kv) (xs.map (putAt k u)):=by
 induction r with
 | nil=>exact .nil
 | @cons p q ps qs h t ih=>
  rw[YAi,YAi];refine .cons ?_ ih;obtain⟨h1,h2,h3⟩:=h;unfold putAt;by_cases e:p.1=k
  .rw[YAM e,YAM (h1.symm.trans e)];exact⟨h1,h2,ry⟩
  .rw[YAJ e,YAJ (λz=>e (h1.trans z))];exact⟨h1,h2,h3⟩
theorem KT.put (r:KT H kvs xs)(k:List Key){b:AE}{y:V}{u:Value}(hb:H b=some (.tup (k.map kV)))(ry:RelV y u):
  KT H (putK kvs k y) (storedH xs k b u):=by
 have e:(kvs.any λkv=>decide (kv.1=k))=(atKey xs k).isSome:=by rw[Zb4,(r.val k).isSome_eq,Option.isSome_map]
 unfold putK storedH;rw[e];by_cases q:(atKey xs k).isSome=true
 .rw[YAM q,YAM q];exact r.repl k ry
 .rw[YAJ q,YAJ q];exact Paired.snoc r ⟨rfl,hb,ry⟩
theorem KT.keeps (r:KT H kvs xs)(ht:∀b ys,H b=some (.tup ys)->H' b=some (.tup ys)):KT H' kvs xs:=
 Paired.mapP r λ_ _ z=>⟨z.1,ht _ _ z.2.1,z.2.2⟩
section
theorem ZnM (ok:HOk P w H h)(e:Rd H a u):ObjOk P w H h a u:=e.ok ok
theorem Zf5 (ok:HOk P w H h)(e:Rd H a (.dK kvs)):kvs.length<=sizeLine/\(a == sysModules)=false/\∃vs,KV kvs vs/\h.DictOf (ZaB P w) a vs:=
 show ObjOk P w H h a (.dK kvs) from ZnM ok e
theorem ZmU (ok:HOk P w H h)(e:H a=some (.dK kvs)):kvs.length<=sizeLine/\(a == sysModules)=false/\∃vs,KV kvs vs/\h.DictOf (ZaB P w) a vs:=Zf5 ok (.inl e)
theorem Zev (ok:HOk P w H h)(e:H a=some (.tup (ks.map kV))):(tupleKind (ZaB P w)).is h ks a:=by obtain⟨_,its,r,o,h1,h2,n,h3⟩:=(show ObjOk P w H h a (.tup (ks.map kV)) from ok a _ e);exact⟨o,its.toArray,n,h1,h2,h3,by simpa using ZfT r⟩
theorem ZgS (ok:HOk P w H h)(e:Rd H a (.dT kvs)):kvs.length<=sizeLine/\(a == sysModules)=false /\
  ∃xs,KT H kvs xs/\h.DictOfH (tupleKind (ZaB P w)) a xs:=by
 obtain⟨z,y,xs,r,o,es,ep,h1,h2,h3,h4,h5⟩:=(show ObjOk P w H h a (.dT kvs) from ZnM ok e);refine⟨z,y,xs,r,o,es,ep,h1,h2,h3,h4,λx hx=>?_,h5⟩;have all:∀ {l:List (List Key×V)} {m:List (List Key×AE×Value)},KT H l m->∀x∈m,(tupleKind (ZaB P w)).is h x.1 x.2.1:=by
  intro l m q;induction q with
  | nil=>intro x hx;exact nomatch hx
  | @cons p q ps qs hq t ih=>
   intro x hx;rcases YAH.mp hx with e | hx
   .subst e;exact Zev ok (by rw[<-hq.1];exact hq.2.1)
   .exact ih x hx
 exact all r x hx
theorem ZqU (ok:HOk P w H h)(e:H a=some (.dT kvs)):kvs.length<=sizeLine/\(a == sysModules)=false /\
  ∃xs,KT H kvs xs/\h.DictOfH (tupleKind (ZaB P w)) a xs:=ZgS ok (.inl e)
end
def DGet (H:Hp)(a:AE)(y:V)(r:Option V):Prop:=
 (∃kvs k,Rd H a (.dK kvs)/\y=kV k/\r=valV kvs k)\/∃kvs k b,Rd H a (.dT kvs)/\y=.ref b/\H b=some (.tup (k.map kV))/\r=valV kvs k
def DPut (H:Hp)(a:AE)(y v:V)(H':Hp):Prop:=
 (∃kvs k,H a=some (.dK kvs)/\y=kV k/\kvs.length<sizeLine/\H'=upd H a (.dK (putK kvs k v))) \/
 ∃kvs k b,H a=some (.dT kvs)/\y=.ref b/\H b=some (.tup (k.map kV))/\kvs.length<sizeLine/\H'=upd H a (.dT (putK kvs k v))
theorem DGet.k {H:Hp}{a:AE}{kvs:List (Key×V)}{k:Key}(e:H a=some (.dK kvs)):DGet H a (kV k) (valV kvs k):=.inl ⟨kvs,k,.inl e,rfl,rfl⟩
theorem DGet.t {H:Hp}{a b:AE}{kvs:List (List Key×V)}{k:List Key}(e:H a=some (.dT kvs))(eb:H b=some (.tup (k.map kV))):DGet H a (.ref b) (valV kvs k):=.inr ⟨kvs,k,b,.inl e,rfl,eb,rfl⟩
theorem DPut.k {H:Hp}{a:AE}{kvs:List (Key×V)}{k:Key}{v:V}(e:H a=some (.dK kvs))(hl:kvs.length<sizeLine):DPut H a (kV k) v (upd H a (.dK (putK kvs k v))):=.inl ⟨kvs,k,e,rfl,hl,rfl⟩
theorem DPut.t {H:Hp}{a b:AE}{kvs:List (List Key×V)}{k:List Key}{v:V}(e:H a=some (.dT kvs))(eb:H b=some (.tup (k.map kV)))(hl:kvs.length<sizeLine):
  DPut H a (.ref b) v (upd H a (.dT (putK kvs k v))):=.inr ⟨kvs,k,b,e,rfl,eb,hl,rfl⟩
section
theorem Inv.big (I:Inv X Ar U H s):sysModules<s.heap.objs.size:=by have h:mainGlobals<s.heap.objs.size:=(I.mod.glob.keeps I.bk).lt;exact Nat.lt_trans (by decide) h
theorem ZjO (hu:A.units+1<cLine)(I:Inv X Ar U H s)(g:DGet H a y (some v))(ry:RelV y u)(h:∀w' s',Inv X Ar U H s'->RelV v w'->Q w' s'):
  wpAny (model X.prog X.w) A (getItem (.ref a) u) Q E s:=by
 rcases g with⟨kvs,k,e,ey,l⟩|⟨kvs,k,b,e,ey,eb,l⟩
 .subst ey;obtain⟨z,hd,vs,rel,dd⟩:=Zf5 I.hok e;obtain⟨w',hw,rw'⟩:=RelO.some_of (v:=v) (o:=valueAt vs k) (by rw[l];exact rel.val k);exact wpAny_getItem_of (ZfS ry) dd.mapOf hw (h w' _ (I.tok _) rw')
 .subst ey;cases (show u=Value.ref b from ry);obtain⟨z,hd,xs,rel,dd⟩:=ZgS I.hok e;obtain⟨w',hw,rw'⟩:=RelO.some_of (v:=v) (o:=(atKey xs k).map (·.2)) (by rw[l];exact rel.val k);obtain⟨p,hp,hp2⟩:=YBI.mp hw;refine wpAny_getItem_heap (tupleKind_room_in1 hu) (Zev I.hok eb) dd hp ?_;rw[hp2];exact h w' _ (I.tok _) rw'
theorem d_in (hu:A.units+1<cLine)(I:Inv X Ar U H s)(g:DGet H a y o)(ry:RelV y u)(h:∀s',Inv X Ar U H s'->Q (.bool o.isSome) s'):
  wpAny (model X.prog X.w) A (compareOp .In u (.ref a)) Q E s:=by
 rcases g with⟨kvs,k,e,ey,l⟩|⟨kvs,k,b,e,ey,eb,l⟩
 .subst ey;obtain⟨z,hd,vs,rel,dd⟩:=Zf5 I.hok e;refine wpAny_in_of (ZfS ry) hd dd.mapOf ?_;rw[<-(rel.val k).isSome_eq,<-l];exact h _ (I.tok _)
 .subst ey;cases (show u=Value.ref b from ry);obtain⟨z,hd,xs,rel,dd⟩:=ZgS I.hok e;refine wpAny_in_heap (tupleKind_room_in1 hu) (Zev I.hok eb) hd dd ?_;have q:=(rel.val k).isSome_eq;rw[Option.isSome_map]at q;rw[<-q,<-l];exact h _ (I.tok _)
theorem ZmW (hu:A.units+1<cLine)(I:Inv X Ar U H s)(g:DGet H a y o)(ry:RelV y u)(h:∀s',Inv X Ar U H s'->Q (.bool (!o.isSome)) s'):
  wpAny (model X.prog X.w) A (compareOp .NotIn u (.ref a)) Q E s:=by
 rcases g with⟨kvs,k,e,ey,l⟩|⟨kvs,k,b,e,ey,eb,l⟩
 .subst ey;obtain⟨z,hd,vs,rel,dd⟩:=Zf5 I.hok e;refine wpAny_notIn_of (ZfS ry) hd dd.mapOf ?_;rw[<-(rel.val k).isSome_eq,<-l];exact h _ (I.tok _)
 .subst ey;cases (show u=Value.ref b from ry);obtain⟨z,hd,xs,rel,dd⟩:=ZgS I.hok e;refine wpAny_notIn_heap (tupleKind_room_in1 hu) (Zev I.hok eb) hd dd ?_;have q:=(rel.val k).isSome_eq;rw[Option.isSome_map]at q;rw[<-q,<-l];exact h _ (I.tok _)
theorem Zfi (I:Inv X Ar U H s)(mu:Mut (H a))(hs:Heap.SameBut a s.heap h')(he:∃q,h'.get? a=some q)(new:ObjOk X.prog X.w (upd H a ob) h' a ob):
  Inv X Ar U (upd H a ob) { s with heap:=h',toks:=t' }:=
 I.write (x:=a) (e:=a) mu (.inl rfl) (λb q hb z=>(hs.2 b hb).trans z) he new
theorem ZjF (z:kvs.length<=sizeLine)(hd:(a == sysModules)=false)(rel:KV kvs vs)(dd:h'.DictOf (ZaB P w) a vs):
  ObjOk P w H' h' a (.dK kvs):=⟨z,hd,vs,rel,dd⟩
theorem ZjN (hu:A.units+1<cLine)(I:Inv X Ar U H s)(g:DPut H a y v H')(ry:RelV y u)(rv:RelV v r)(h:∀s',Inv X Ar U H' s'->Q () s'):
  wpAny (model X.prog X.w) A (setItem (.ref a) u r) Q E s:=by
 rcases g with⟨kvs,k,e,ey,l,eH⟩|⟨kvs,k,b,e,ey,eb,l,eH⟩
 .subst ey eH;obtain⟨z,hd,vs,rel,dd⟩:=ZmU I.hok e;have hz:vs.length<=sizeLine:=by rw[<-rel.length];exact z
  have hl:(putK kvs k v).length<=sizeLine:=by have:=ZbF kvs k v;lia
  refine wpAny_setItem_pairs (hsz:=hz) (ZfS ry) dd λh' dd' hs=>h _ ?_;have he:∃q,h'.get? a=some q:=let ⟨q,_,_,hq,_⟩:=dd';⟨q,hq⟩;exact Zfi I (by rw[e];exact True.intro) hs he (ZjF hl hd (rel.put k rv) dd')
 .subst ey eH;cases (show u=Value.ref b from ry);obtain⟨z,hd,xs,rel,dd⟩:=ZqU I.hok e;have hz:xs.length<=sizeLine:=by rw[<-Paired.length rel];exact z
  have hl:(putK kvs k v).length<=sizeLine:=by have:=ZbF kvs k v;lia
  refine wpAny_setItem_heap (hsz:=hz) (tupleKind_room_in1 hu) (Zev I.hok eb) dd λh' dd' hs=>h _ ?_;obtain⟨q,es,ep,hq,h2,h3,h4,_,h5⟩:=dd';refine Zfi I (by rw[e];exact True.intro) hs ⟨q,hq⟩ ⟨hl,hd,_,(rel.put k eb rv).keeps λc ys ec=>?_,q,es,ep,hq,h2,h3,h4,h5⟩;rw[Zah (ZqP ec e (λz=>nomatch z))];exact ec
end
section
theorem ZqV (I:Inv X Ar U H s)(e:H a=some (.dK kvs))(ry:RelV (kV k) u)(l:valV kvs k=some v)(hm:more=[]\/∃x,more=[x])
  (h:∀w' s',Inv X Ar U (upd H a (.dK (Zei kvs k))) s'->RelV v w'->Q w' s'):wpAny (model X.prog X.w) A (call (.builtin "dict.pop") (.ref a::u::more)) Q E s:=by
 obtain⟨z,hd,vs,rel,dd⟩:=ZmU I.hok e;obtain⟨w',hw,rw'⟩:=RelO.some_of (v:=v) (o:=valueAt vs k) (by rw[<-l];exact rel.val k);have hp:(keyPart u).isSome=true:=by
  cases k with
  | inl i=>obtain⟨t,q⟩:=(show ∃t,u=Value.int i t from ry);subst q;rfl
  | inr x=>obtain⟨t,q⟩:=(show ∃t,u=Value.str x t from ry);subst q;rfl
 have ha:argsOk "dict.pop" ⟨.ref a::u::more,[]⟩:=by
  rcases hm with q | ⟨x,q⟩
  .subst q;exact PySem.F.args_dict_pop_2 _ _
  .subst q;exact PySem.F.args_dict_pop_3 _ _ _
 refine call_meetsIn PySem.F.slot_dict_pop dd.typeIs PySem.F.entry_dict_pop ha (meets_dict_pop_there (ZaB X.prog X.w) a (ZfS ry) more hm hp)
  ⟨vs,w',dd,by rw[<-rel.length];exact z,hw,λh' dd' hs=>h w' _ ?_ rw'⟩
 have he:∃q,h'.get? a=some q:=let ⟨q,_,_,hq,_⟩:=dd';⟨q,hq⟩;exact Zfi I (by rw[e];exact True.intro) hs he (ZjF (YAK (Zk0 kvs k) z) hd (rel.drop k) dd')
theorem ZqW (I:Inv X Ar U H s)(e:Rd H a (.dK kvs))(h:∀t s',Inv X Ar U H s'->Q (.int kvs.length t) s'):wpAny (model X.prog X.w) A (call (.builtin "len") [.ref a]) Q E s:=by obtain⟨z,hd,vs,rel,dd⟩:=Zf5 I.hok e;refine call_len_dict hd dd (by rw[<-rel.length];rw[sizeLine_eq]at z;lia) ?_;rw[<-rel.length];exact h _ _ (I.tok _)
end
def NoSl (i:Expr):Prop:=∀ov iv,subscripted i false ov iv=operate [ov,iv] (getItem ov iv)
theorem Zl1 {prog:AH}{w:AJ}{A:AI}{E:Q33}{s:AF}{env:Env}{value slice:Expr}{pos:Pos}{T id:String}{Q:Q33}
  (hl:typeLookup (.type T) "__getitem__"=pure (some (.builtin id))) (hs:NoSl slice)
  (h:wpAny (model prog w) A (eval value env) (λo s_1=>wpAny (model prog w) A (eval slice env) (λi s_2=>s_2.TypeIs o T/\wpAny (model prog w) A (getItem o i) Q E s_2) E s_1) E s):
  wpAny (model prog w) A (eval (.Subscript value slice pos) env) Q E s:=by
 refine Subscript_ (YBZ h (λo s_1 h_1=>YBZ h_1 (λi s_2 h_2=>?_) λ_ _ x=>x) λ_ _ x=>x);obtain⟨hT,h_2⟩:=h_2;unfold subscriptTail;refine YAA ?_;rw[getitemInPython_of_ne hT.not_modules];refine YAA (wpAny_specialOf hT hl ?_);have fin:wpAny (model prog w) A (subscripted slice false o i) (λr s₃=>wpAny (model prog w) A (letTemporaryGo value o r >>= λ_=>pure r) Q E s₃) E s_2:=by rw[hs o i];exact wpAny_operating (YBZ h_2 (λr s₃ h₃=>YAA (wpAny_letTemporaryGo (YAD h₃))) λ_ _ x=>x)
 first
  | exact YAD (YAA fin)
  | exact YAA (YAD (YAA fin))
  | exact YAA fin
theorem ZgT (I:Inv X Ar U H s)(g:DGet H a y o):s.TypeIs (.ref a) "dict":=by
 rcases g with⟨kvs,k,e,_,_⟩|⟨kvs,k,b,e,_,_,_⟩
 .obtain⟨_,_,vs,_,dd⟩:=Zf5 I.hok e;exact dd.typeIs
 .obtain⟨_,_,xs,_,dd⟩:=ZgS I.hok e;exact dd.typeIs
def Znu (td ty:TE):TE:=λU H Q=>td U H λx H1=>ty U H1 λy H2=>∃a v,x=.ref a/\DGet H2 a y (some v)/\Q v H2
def tDIn (ty td:TE):TE:=λU H Q=>ty U H λy H1=>td U H1 λx H2=>∃a o,x=.ref a/\DGet H2 a y o/\Q (.bl o.isSome) H2
def ZiC (ty td:TE):TE:=λU H Q=>ty U H λy H1=>td U H1 λx H2=>∃a o,x=.ref a/\DGet H2 a y o/\Q (.bl (!o.isSome)) H2
def ZnJ (td ty tv:TE):TS:=λD U H=>tv U H λv H1=>td U H1 λx H2=>ty U H2 λy H3=>∃a H4,x=.ref a/\DPut H3 a y v H4/\D.nx U H4
section
theorem Zb5 (hu:X.A.units+1<cLine)(ho:PE X o td)(hi:PE X i ty)(hs:NoSl i):PE X (.Subscript o i pos) (Znu td ty):=by intro Ar s U H Q I h;refine Zl1 PySem.F.slot_dict_getitem.lookup hs (thn (ho Ar s U H _ I h) λu s1 ⟨x,H1,I1,rx,q1⟩=>thn (hi Ar s1 U H1 _ I1 q1) λiv s2 zz=>?_);obtain⟨y,H2,I2,ry,a,v,ex,g,q2⟩:=zz;subst ex;obtain rfl:u=Value.ref a:=rx;exact⟨ZgT I2 g,ZjO hu I2 g ry λw' s3 I3 rw'=>⟨v,H2,I3,rw',q2⟩⟩
theorem ZiU (hu:X.A.units+1<cLine)(hi:PE X i ty)(ho:PE X o td):PC X .In i o (tDIn ty td):=by intro Ar s U H Q I h;refine thn (hi Ar s U H _ I h) λiv s1 ⟨y,H1,I1,ry,q1⟩=>thn (ho Ar s1 U H1 _ I1 q1) λu s2 zz=>?_;obtain⟨x,H2,I2,rx,a,ov,ex,g,q2⟩:=zz;subst ex;obtain rfl:u=Value.ref a:=rx;exact d_in hu I2 g ry λs3 I3=>⟨.bl ov.isSome,H2,I3,rfl,q2⟩
theorem ZfD (hu:X.A.units+1<cLine)(hi:PE X i ty)(ho:PE X o td):PC X .NotIn i o (ZiC ty td):=by intro Ar s U H Q I h;refine thn (hi Ar s U H _ I h) λiv s1 ⟨y,H1,I1,ry,q1⟩=>thn (ho Ar s1 U H1 _ I1 q1) λu s2 zz=>?_;obtain⟨x,H2,I2,rx,a,ov,ex,g,q2⟩:=zz;subst ex;obtain rfl:u=Value.ref a:=rx;exact ZmW hu I2 g ry λs3 I3=>⟨.bl (!ov.isSome),H2,I3,rfl,q2⟩
theorem Zc9 (hu:X.A.units+1<cLine)(ho:PE X o td)(hi:PE X i ty)(hv:PE X value tv)(hs:swapsWith value (some (.Subscript o i pos')) pos.line X.env=pure false):
  PS X (.Assign [.Subscript o i pos'] value pos) (ZnJ td ty tv):=by
 intro Ar s U H D I h;refine wpAny_Assign_Subscript (thn (hv Ar s U H _ I h) λr s1 ⟨v,H1,I1,rv,q1⟩=>thn (ho Ar s1 U H1 _ I1 q1) λu s2 ⟨x,H2,I2,rx,q2⟩=>thn (hi Ar s2 U H2 _ I2 q2) λiv s3 zz=>?_) hs;obtain⟨y,H3,I3,ry,a,H4,ex,g,q3⟩:=zz;subst ex;obtain rfl:u=Value.ref a:=rx;exact ZjN hu I3 g ry rv λs4 I4=>⟨U,H4,I4,q3⟩
end
theorem ZhM (h:Heap)(hb:sysModules<h.objs.size):ObjOk P w H (h.push { cls:=.type "dict",data:=.dict #[] }) h.objs.size (.dK []):=
 ⟨YAt _,beq_eq_false_iff_ne.mpr (YAk (YAe hb)),[],.nil,Heap.DictOf.new h⟩
def tDNewK:TE:=λ_ H Q=>∀p,H p=none->Q (.ref p) (upd H p (.dK []))
section
theorem ZcQ:PE X (.Dict [] [] pos) tDNewK:=λAr s U H Q I h=>
 wpAny_Dict_empty ⟨.ref s.heap.objs.size,_,I.laid (a:=s.heap.objs.size) (o:=.dK []) (t':=s.toks) (λ_ _ q=>YAE _ q) (YAP _) (ZhM s.heap I.big),rfl,h _ (I.hok.fresh (YAP _))⟩
end
noncomputable def Zg9:List (TE×TE)->St->Hp->(List (V×V)->Hp->Prop)->Prop
 | [],_,H,Q=>Q [] H
 | (tk,tv)::r,U,H,Q=>tk U H λx H1=>tv U H1 λy H2=>Zg9 r U H2 λps H3=>Q ((x,y)::ps) H3
abbrev VV:List (V×V)->List (Value×Value)->Prop:=Paired λp q=>RelV p.1 q.1/\RelV p.2 q.2
def PPs (X:Cx)(pos:Pos)(keys:List (Option Expr))(values:List Expr)(trs:List (TE×TE)):Prop:=
 ∀(Ar:AB) (s:AF) (U:St) (H:Hp) (Q:List (V×V)->Hp->Prop),Inv X Ar U H s->Zg9 trs U H Q ->
  wpAny (model X.prog X.w) X.A (evalPairs (pairTrees keys values X.env pos)) (λvs s'=>∃ps H',Inv X Ar U H' s'/\VV ps vs/\Q ps H') X.xe s
theorem Zmd:PPs X pos [] [] []:=λAr s U H Q I h=>pairTrees_nil_walk ⟨[],H,I,.nil,h⟩
theorem Zkj (hk:PE X k tk)(hv:PE X v tv)(hr:PPs X pos ks vs trs):
  PPs X pos (some k::ks) (v::vs) ((tk,tv)::trs):=λAr s U H Q I h=>
 pairTrees_cons_walk (thn (hk Ar s U H _ I h) λu s1 ⟨x,H1,I1,rx,q1⟩=>thn (hv Ar s1 U H1 _ I1 q1) λw2 s2 ⟨y,H2,I2,ry,q2⟩=>
  thn (hr Ar s2 U H2 _ I2 q2) λws s3 ⟨ps,H3,I3,rel,q3⟩=>⟨(x,y)::ps,H3,I3,.cons ⟨rx,ry⟩ rel,q3⟩)
def ZbN (kvs more:List (Key×V)):List (Key×V):=more.foldl (λacc kv=>putK acc kv.1 kv.2) kvs
theorem KV.merge:∀ {more:List (Key×V)} {rs:List (Key×Value)} {kvs:List (Key×V)} {vs:List (Key×Value)},KV more rs->KV kvs vs->KV (ZbN kvs more) (merged vs rs):=by
 intro more rs kvs vs r;unfold KV at r;induction r generalizing kvs vs with
 | nil=>intro q;exact q
 | @cons p q ps qs h t ih=>
  intro r0;have e:KV (putK kvs p.1 p.2) (stored vs q.1 q.2):=by have:=r0.put p.1 h.2;rw[<-h.1];exact this
  exact ih e
theorem Zb6:∀(more kvs:List (Key×V)),(ZbN kvs more).length<=kvs.length+more.length
 | [],kvs=>by show kvs.length<=kvs.length+0;lia
 | p::r,kvs=>by have h1:=Zb6 r (putK kvs p.1 p.2);have h2:=ZbF kvs p.1 p.2;show (ZbN (putK kvs p.1 p.2) r).length<=_;rw[YAf];lia
theorem ZeH {P:AH}{w:AJ}:∀ {kvs:List (Key×V)} {ws:List (Value×Value)},VV (kvs.map λkv=>(kV kv.1,kv.2)) ws->∃rs,Carries (ZaB P w) ws rs/\KV kvs rs
 | [],_,r=>by rw[List.map_nil]at r;cases r;exact⟨[],True.intro,.nil⟩
 | p::kvs,_,r=>by
  rw[YAi]at r;cases r with
  | @cons a b as bs h t=>
   obtain⟨rs,c,q⟩:=ZeH (P:=P) (w:=w) t;obtain⟨b1,b2⟩:=b;exact⟨(p.1,b2)::rs,⟨ZfS h.1,rfl,c⟩,.cons ⟨rfl,h.2⟩ q⟩
def Znq (trs:List (TE×TE)):TE:=λU H Q=>∀p,H p=none->Zg9 trs U (upd H p (.dK [])) λps H2=>H2 p=some (.dK [])/\∃kvs:List (Key×V),ps=kvs.map (λkv=>(kV kv.1,kv.2))/\kvs.length<=15/\Q (.ref p) (upd H2 p (.dK (ZbN [] kvs)))
theorem Zmh (h:PPs X pos keys values trs)(hall:keys.all (·.isSome)=true)(hl:keys.length=values.length)(h0:keys≠[])
  (h15:keys.length<=15):PE X (.Dict keys values pos) (Znq trs):=by
 intro Ar s U H Q I q;have hn:=I.hok.fresh (YAP s.heap.objs.size);have I1:=I.laid (a:=s.heap.objs.size) (o:=.dK []) (h':=s.heap.push { cls:=.type "dict",data:=.dict #[] }) (t':=s.toks) (λ_ _ q=>YAE _ q) (YAP _) (ZhM s.heap I.big);refine wpAny_Dict_walk (knd:=ZaB X.prog X.w) hall hl h0 h15 (thn (h Ar _ U _ _ I1 (q _ hn)) λws s2 zz=>?_);obtain⟨ps,H2,I2,rel,e,kvs,ep,lk,q2⟩:=zz;subst ep;obtain⟨rs,c,rk⟩:=ZeH (P:=X.prog) (w:=X.w) rel;obtain⟨z,hd,vs0,r0,dd⟩:=ZmU I2.hok e;cases r0;refine⟨rs,c,dd,λh' dd' hs=>⟨.ref s.heap.objs.size,_,?_,rfl,q2⟩⟩;have hz:(ZbN [] kvs).length<=sizeLine:=by have h1:=Zb6 kvs [];rw[YDH]at h1;rw[sizeLine_eq];lia
 have he:∃q,h'.get? s.heap.objs.size=some q:=let ⟨q,_,_,hq,_⟩:=dd';⟨q,hq⟩;exact Zfi I2 (by rw[e];exact True.intro) hs he (ZjF hz hd (rk.merge .nil) dd')
structure M1 (X:Cx)(o:Expr)(m:Str)(Ax:Pos)(e:Expr)(Ay:Pos):Prop where
 base:attributeBase o m X.env (eval o X.env)=eval o X.env
 few:((backTo Ay (starEach [e] X.env)).all (λx=>!x.1)&&(backToKw Ay (keywordEach [] X.env)).all (λx=>x.1.isSome)
  && decide (([e]:List Expr).length+([]:List Keyword).length+(if ([]:List Keyword).isEmpty then 0 else 1)<30))=true
 line:(Ax.endLine == Ay.line)=true
 trees:backTo Ay (starEach [e] X.env)=[(false,eval e X.env)]
structure M2 (X:Cx)(o:Expr)(m:Str)(Ax:Pos)(e f:Expr)(Ay:Pos):Prop where
 base:attributeBase o m X.env (eval o X.env)=eval o X.env
 few:((backTo Ay (starEach [e,f] X.env)).all (λx=>!x.1)&&(backToKw Ay (keywordEach [] X.env)).all (λx=>x.1.isSome)
  && decide (([e,f]:List Expr).length+([]:List Keyword).length+(if ([]:List Keyword).isEmpty then 0 else 1)<30))=true
 line:(Ax.endLine == Ay.line)=true
 trees:backTo Ay (starEach [e,f] X.env)=[(false,eval e X.env),(false,eval f X.env)]
def IsD (H:Hp)(a:AE):Prop:=(∃kvs,Rd H a (.dK kvs))\/∃kvs,Rd H a (.dT kvs)
theorem ZoP (I:Inv X Ar U H s)(d:IsD H a):
  s.TypeIs (.ref a) "dict"/\(∀b,Value.ref a=.ref b->∃ob,s.heap.get? b=some ob/\ob.dict=none)/\(a == sysModules)=false:=by
 rcases d with⟨kvs,e⟩|⟨kvs,e⟩
 .obtain⟨_,hd,vs,_,dd⟩:=Zf5 I.hok e;refine⟨dd.typeIs,λb q=>?_,hd⟩;cases q;obtain⟨ob,_,_,h1,h2,_⟩:=dd;exact⟨ob,h1,h2.2.1⟩
 .obtain⟨_,hd,xs,_,dd⟩:=ZgS I.hok e;refine⟨dd.typeIs,λb q=>?_,hd⟩;cases q;obtain⟨ob,_,_,h1,h2,_⟩:=dd;exact⟨ob,h1,h2.2.1⟩
section
end
def Zlk (td ty:TE):TE:=λU H Q=>td U H λx H1=>∃a,x=.ref a/\IsD H1 a/\ty U H1 λy H2=>∃kvs k v,H2 a=some (.dK kvs)/\y=kV k/\valV kvs k=some v/\Q v (upd H2 a (.dK (Zei kvs k)))
section
theorem Zhn (ho:PE X o td) (he:PE X e ty) (m:M1 X o "pop" Ax e Ay):PE X (.Call (.Attribute o "pop" Ax) [e] [] Ay) (Zlk td ty):=by intro Ar s U H Q I h;refine wpAny_Call_method m.base m.few m.line PySem.F.plainAttrs_dict PySem.F.slot_dict_pop PySem.F.type_dict_pop (thn (ho Ar s U H _ I h) λu s1 zz=>?_);obtain⟨x,H1,I1,rx,a,ex,d,q1⟩:=zz;subst ex;obtain rfl:u=Value.ref a:=rx;obtain⟨t1,t2,_⟩:=ZoP I1 d;refine⟨t1,t2,?_⟩;rw[m.trees];refine Calls.callWith_builtin rfl (Calls.evalArgs_plain (YDL (thn (he Ar s1 U H1 _ I1 q1) λiv s2 ⟨y,H2,I2,ry,kvs,k,v,ea,ey,l,q2⟩=>Calls.spliced_nil ?_)));subst ey;exact ZqV I2 ea ry l (.inl rfl) λw' s3 I3 rw'=>⟨v,_,I3,rw',q2⟩
end
section
end
section
theorem d_LO (hu:A.units+1<cLine)(hh:A.handled=none)(I:Inv X Ar U H s)(g:DGet H a y none)(ry:RelV y u)
  (h:∀h' e t',Heap.NewExc s.heap h' e "KeyError"->E (.ref e) { s with heap:=h',toks:=t' }):wpAny (model X.prog X.w) A (getItem (.ref a) u) Q E s:=by
 rcases g with⟨kvs,k,e,ey,l⟩|⟨kvs,k,b,e,ey,eb,l⟩
 .subst ey;obtain⟨z,hd,vs,rel,dd⟩:=Zf5 I.hok e;have hn:valueAt vs k=none:=RelO.none_of (by rw[l];exact rel.val k);exact wpAny_getItem_missing_of (ZfS ry) hd hh dd.mapOf hn λh' ex ne=>h h' ex _ ne
 .subst ey;cases (show u=Value.ref b from ry);obtain⟨z,hd,xs,rel,dd⟩:=ZgS I.hok e;have hn:(atKey xs k).map (·.2)=none:=RelO.none_of (by rw[l];exact rel.val k);exact wpAny_getItem_missing_heap (tupleKind_room_in1 hu) (Zev I.hok eb) hd hh dd (Option.map_eq_none_iff.mp hn) λh' ex ne=>h h' ex _ ne
end
section
theorem ZjS:Zcc X (.builtin "len") (λxs H Q=>∃a kvs,xs=[V.ref a]/\H a=some (.dK kvs)/\Q (.int kvs.length) H):=by intro Ar s U H xs us Q I r h;obtain⟨a,kvs,rfl,ha,q⟩:=h;obtain⟨u,rfl,ru⟩:=vals1 r;cases ru;exact ZqW I (.inl ha) λt s' I'=>⟨.int kvs.length,H,I',⟨t,rfl⟩,q⟩
end
section
variable {κ:Type}[DecidableEq κ]
theorem Zj2 {kvs:List (κ×V)}{k:κ}(h:valV kvs k=none):¬k∈kvs.map (·.1):=by intro m;obtain⟨p,hp,e⟩:=YAa.mp m;have q:(kvs.any λkv=>decide (kv.1=k))=true:=YCG.mpr ⟨p,hp,decide_eq_true e⟩;rw[Zb4,h]at q;exact absurd q (by simp)
theorem Zgv {kvs:List (κ×V)}{k:κ}{v:V}(h:valV kvs k=some v):k∈kvs.map (·.1):=by
 have q:(kvs.any λkv=>decide (kv.1=k))=true:=by rw[Zb4,h];all_goals rfl
 obtain⟨p,hp,e⟩:=YCG.mp q;exact YAa.mpr ⟨p,hp,of_decide_eq_true e⟩
theorem Zi5:∀ {l:List κ} {k:κ},l.Nodup->¬k∈l->(l++[k]).Nodup
 | [],k,_,_=>by simp
 | a::r,k,h,hk=>by
  obtain⟨h1,h2⟩:=YBT.mp h;show (a::(r++[k])).Nodup;refine YBT.mpr ⟨λm=>?_,Zi5 h2 λm=>hk (YAH.mpr (Or.inr m))⟩;rcases YAR.mp m with q | q
  .exact h1 q
  .exact hk (YAH.mpr (Or.inl (YAI.mp q).symm))
theorem Zmu {kvs:List (κ×V)}{k:κ}(v:V)(hn:(kvs.map (·.1)).Nodup)(h:valV kvs k=none):((putK kvs k v).map (·.1)).Nodup:=by rw[Zcu v h,YAb];exact Zi5 hn (Zj2 h)
end
noncomputable def clOf (cells:List (Str×AE)):List (Str×NameKind)->List (Str×AE)->List (Str×AE)
 | [],acc=>acc
 | (n,k)::r,acc=>if k == NameKind.free then clOf cells r ((n,(cells.lookup n).getD 0)::acc) else clOf cells r acc
theorem Zfk {cells:List (Str×AE)}:∀(names:List (Str×NameKind)) (acc:List (Str×AE)) (p:Str×AE),p∈acc->p∈clOf cells names acc
 | [],_,_,h=>h
 | (n,k)::r,acc,p,h=>by
  unfold clOf;split
  .exact Zfk r _ p (YAV _ h)
  .exact Zfk r acc p h
theorem Zfl {cells:List (Str×AE)}{x:Str}:∀(names:List (Str×NameKind)) (acc:List (Str×AE)),(x,NameKind.free)∈names->(x,(cells.lookup x).getD 0)∈clOf cells names acc
 | [],_,h=>by cases h
 | (n,k)::r,acc,h=>by
  unfold clOf;rcases YAH.mp h with e | h
  .have e1:x=n:=congrArg Prod.fst e;have e2:NameKind.free=k:=congrArg Prod.snd e;subst e1 e2;exact Zfk r _ _ YAd
  .split
   .exact Zfl r _ h
   .exact Zfl r _ h
theorem ZgZ {cells:List (Str×AE)}:∀(names:List (Str×NameKind)) (acc:List (Str×AE)) (p:Str×AE),p∈clOf cells names acc->p∈acc\/((p.1,NameKind.free)∈names/\p.2=(cells.lookup p.1).getD 0)
 | [],_,_,h=>.inl h
 | (n,k)::r,acc,p,h=>by
  unfold clOf at h;split at h
  .rename_i hk
   have hk':k=NameKind.free:=by simpa using hk
   rcases ZgZ r _ p h with q | ⟨q,e⟩
   .rcases YAH.mp q with q | q
    .subst q;subst hk';exact .inr ⟨YAd,rfl⟩
    .exact .inl q
   .exact .inr ⟨YAV _ q,e⟩
  .rcases ZgZ r _ p h with q | ⟨q,e⟩
   .exact .inl q
   .exact .inr ⟨YAV _ q,e⟩
theorem ZeG (h:∀y∈sc.names,y.2=NameKind.free->∃c,env.cells.lookup y.1=some c):closureFor sc env=pure (clOf env.cells sc.names []):=by
 have all:∀(names:List (Str×NameKind)) (acc:List (Str×AE)),(∀y∈names,y.2=NameKind.free->∃c,env.cells.lookup y.1=some c) ->
   (forIn names acc λ(y:Str×NameKind) (cs:List (Str×AE))=>(if (y.2 == NameKind.free)=true then (do let a <-cellOf env y.1;pure (ForInStep.yield ((y.1,a)::cs))) else pure (ForInStep.yield cs):Sem (ForInStep (List (Str×AE)))))=pure (clOf env.cells names acc):=by
  intro names;induction names with
  | nil=>intro acc _;rfl
  | cons y r ih=>
   intro acc hy;obtain⟨n,k⟩:=y;rw[List.forIn_cons];unfold clOf;by_cases hk:k=NameKind.free
   .subst hk;obtain⟨c,hc⟩:=hy (n,NameKind.free) YAd rfl;have hc':env.cells.lookup n=some c:=hc;simp only[beq_self_eq_true,if_true,cellOf,hc',pure_bind,Option.getD_some];exact ih _ λz hz=>hy z (YAV _ hz)
   .have hb:(k == NameKind.free)=false:=by simpa using hk
    simp only[hb,YCj,if_false,pure_bind];exact ih _ λz hz=>hy z (YAV _ hz)
 have q:=all sc.names [] h;unfold closureFor;show (forIn sc.names [] λ(y:Str×NameKind) (cs:List (Str×AE))=>_) >>= _=_
 first
  | (rw[q];rfl)
  | (refine Eq.trans (congrArg (λt=>t >>= λcs=>pure cs) q) ?_;rfl)
structure CmpScope (X:Cx)(sc:Scope):Prop where
 kind:sc.kind=.function
 nocell:∀y∈sc.names,y.2≠NameKind.cell
 loc:∀y∈sc.names,y.2=NameKind.local->sc.names.lookup y.1=some .local
 clos:∀y∈sc.names,y.2=NameKind.free->(X.env.kindOf y.1=some .cell\/X.env.kindOf y.1=some .free)
noncomputable def pick (ix:List (Option Nat))(U:St):St:=ix.map λo=>o.bind λi=>(U[i]?).join
noncomputable def Zjt (N M:AK)(sc:Scope)(ix:List (Option Nat)):Bool:=
 ix.length == N.length&&(N.zip ix).all λp=>match p.2 with | none=>true | some i=>decide (M[i]?=some p.1)&&decide (sc.names.lookup p.1=some NameKind.free)
def bx (X:Cx)(sc:Scope)(N:AK)(fp:List AE)(s_0:AF)(H:Hp)(pn:AB):Cx:=
 { X with N:=N,s_0:=s_0,H_0:=H,env:=compEnvC sc (clOf X.env.cells sc.names []) s_0.heap.objs.size X.env,outer:=X.stack,stack:=X.stack,ex:=fp,fn:=λ_=>false,pn:=pn,xe:=λ_ _=>False }
theorem ZdM (h:(relabel sc env).names.lookup x=some k):(x,k)∈sc.names\/(k=.cell/\(x,NameKind.free)∈sc.names):=by
 have m:=YBu h;unfold relabel at m;obtain⟨⟨n,k'⟩,hm,e⟩:=YAa.mp m;dsimp only at e;split at e
 .rename_i hc
  have e1:n=x:=congrArg Prod.fst e;have e2:NameKind.cell=k:=congrArg Prod.snd e;have e3:k'=NameKind.free:=by rw[YAX,YAX]at hc;simpa using hc.1.1
  subst e1 e2 e3;exact .inr ⟨rfl,hm⟩
 .have e1:n=x:=congrArg Prod.fst e;have e2:k'=k:=congrArg Prod.snd e;subst e1 e2;exact .inl hm
theorem Zdj {env:Env}{x:Str}:∀ {names:List (Str×NameKind)},names.lookup x=some NameKind.free ->
  (names.map λ(n,k)=>if (k == NameKind.free&&env.scope.kind == .function&&env.kindOf n == some .cell) then (n,NameKind.cell) else (n,k)).lookup x=some .cell \/
  (names.map λ(n,k)=>if (k == NameKind.free&&env.scope.kind == .function&&env.kindOf n == some .cell) then (n,NameKind.cell) else (n,k)).lookup x=some .free
 | [],h=>by simp at h
 | (n,k)::r,h=>by
  by_cases hx:x=n
  .subst hx;simp only[YCC,beq_self_eq_true]at h;cases h;simp only[YAi];split
   .left;simp[YCC]
   .right;simp[YCC]
  .have hb:(x == n)=false:=by simpa using hx
   simp only[YCC,hb]at h;have ih:=Zdj (env:=env) h;simp only[YAi];split
   .simpa only[YCC,hb] using ih
   .simpa only[YCC,hb] using ih
theorem ZcU {α:Type}{x:Str}{c:α}:∀ {l:List (Str×α)},(x,c)∈l->∃c',l.lookup x=some c'
 | [],h=>by cases h
 | (n,d)::r,h=>by
  by_cases hx:x=n
  .subst hx;exact⟨d,by simp[YCC]⟩
  .have hb:(x == n)=false:=by simpa using hx
   rcases YAH.mp h with e | h
   .exact absurd (congrArg Prod.fst e) hx
   .obtain⟨c',e⟩:=ZcU h;exact⟨c',by simpa only[YCC,hb] using e⟩
section
theorem Inv.capt (I:Inv X Ar U H s)(S:CmpScope X sc):∀y∈sc.names,y.2=NameKind.free->∃c,X.env.cells.lookup y.1=some c:=λy hy e=>I.ok.has y.1 (S.clos y hy e)
theorem Inv.clcell (I:Inv X Ar U H s)(S:CmpScope X sc){x:Str}{c:AE}(h:(clOf X.env.cells sc.names []).lookup x=some c):X.env.cells.lookup x=some c:=by
 rcases ZgZ _ _ _ (YBu h) with q | ⟨q,e⟩
 .cases q
 .obtain⟨c',hc⟩:=I.capt S _ q rfl;have hc':X.env.cells.lookup x=some c':=hc;have e':c=(X.env.cells.lookup x).getD 0:=e;rw[hc',Option.getD_some]at e';rw[e'];exact hc'
theorem Inv.clhas (I:Inv X Ar U H s)(S:CmpScope X sc){x:Str}(h:(x,NameKind.free)∈sc.names):∃c,(clOf X.env.cells sc.names []).lookup x=some c/\X.env.cells.lookup x=some c:=by obtain⟨c,e⟩:=ZcU (Zfl (cells:=X.env.cells) sc.names [] h);exact⟨c,e,I.clcell S e⟩
theorem Inv.block (I:Inv X Ar U H s)(S:CmpScope X sc)(hix:Zjt N X.N sc ix=true)(hf:∀b∈fp,FpOk X Ar H b/\b<s.heap.objs.size)
  (hk:∀b o,s.heap.get? b=some o->h1.get? b=some o) (hn:h1.Ns s.heap.objs.size m):
  Inv (bx X sc N fp s H (X.pn++Ar)) [] (pick ix U) H { s with heap:=h1,toks:=tk }:=by
 have hC:∀b o,s.heap.get? b=some o->b≠s.heap.objs.size:=λb o e=>YAe (YAN e);have hcell:∀x c,(clOf X.env.cells sc.names []).lookup x=some c->∃v,s.heap.IsCell c v:=λx c e=>I.cell x c (I.clcell S e);have stk:∀b,b≠X.env.locals->b∉X.fs->b∉frs X.stack:=λb h1 h2 hb=>by
  rcases YAH.mp (I.stkSub b hb) with z | z
  .exact h1 z
  .exact h2 z
 rw[Zjt,YAX]at hix;refine⟨⟨I.ok.mod,S.kind,I.ok.glob,I.ok.blt,YAP _,?_,?_,?_,I.ok.hd,I.ok.frames,.inl rfl,?_,I.bs,YAK I.ok.bsz I.sz,?_,?_,I.stack,I.stkFree⟩,
  rfl,I.bare,Un.kept hk,⟨m,hn,?_⟩,?_,I.fresh,?_,?_,I.hok.kept hk,?_⟩
 .intro x y c e1 e2;exact I.ok.inj x y c (I.clcell S e1) (I.clcell S e2)
 .intro x hx;have hx:(relabel sc X.env).names.lookup x=some .cell\/(relabel sc X.env).names.lookup x=some .free:=hx;have hm:(x,NameKind.free)∈sc.names:=by
   rcases hx with hx | hx
   .rcases ZdM hx with q | ⟨_,q⟩
    .exact absurd rfl (S.nocell _ q)
    .exact q
   .rcases ZdM hx with q | ⟨q,_⟩
    .exact q
    .cases q
  obtain⟨c,e,_⟩:=I.clhas S hm;exact⟨c,e⟩
 .intro x c z;cases z
 .intro b hb;obtain⟨f,A2⟩:=hf b hb;refine⟨YAe A2,λx c e=>f.2.2.2.2.1 x c (I.clcell S e)⟩
 .intro b o e hb;obtain⟨⟨_,_,_,f3,_⟩,_⟩:=hf b hb;rcases f3 with z | z
  .exact I.ok.noex b o e z
  .exact absurd (YAN e) (Nat.not_lt.mpr (YAK I.ok.bsz z))
 .intro b hb;obtain⟨⟨_,f1,f2,_⟩,_⟩:=hf b hb;exact stk b f1 f2
 .intro i x v e1 e2 e3;have e1:N[i]?=some x:=e1;have hi:∃j,ix[i]?=some (some j)/\U[j]?=some (some v):=by
   unfold pick at e2;rw[YAQ]at e2;cases q:ix[i]? with
   | none=>rw[q]at e2;cases e2
   | some o=>
    rw[q]at e2;cases o with
    | none=>cases e2
    | some j=>
     refine⟨j,rfl,?_⟩;have e4:(U[j]?).join=some v:=Option.some.inj e2;cases q2:U[j]? with
     | none=>rw[q2]at e4;cases e4
     | some w=>rw[q2]at e4;cases w with
      | none=>cases e4
      | some w=>rw[<-e4];rfl
  obtain⟨j,hj,hU⟩:=hi;have hz:(x,some j)∈N.zip ix:=by
   have q:(N.zip ix)[i]?=some (x,some j):=by rw[List.getElem?_zip_eq_some];exact⟨e1,hj⟩
   exact YAh q
  have hp:=YBW.mp hix.2 _ hz;dsimp only at hp;rw[YAX]at hp;have hM:X.N[j]?=some x:=of_decide_eq_true hp.1;have hfr:sc.names.lookup x=some NameKind.free:=of_decide_eq_true hp.2;have hmem:=YBu hfr;obtain⟨mo,hno,hlo⟩:=I.loc;have hvis:Vis X.env.scope x:=by
   rcases S.clos _ hmem rfl with z | z
   .exact .inr (.inl z)
   .exact .inr (.inr z)
  obtain⟨u,ru,l⟩:=hlo j x v hM hU hvis;refine⟨u,ru,.inr ⟨?_,?_⟩⟩
  .exact Zdj (env:=X.env) hfr
  .obtain⟨c,e,e'⟩:=I.clhas S hmem;refine⟨c,e,?_⟩;rcases l with⟨k,_⟩|⟨_,c',ec,z⟩
   .rcases S.clos _ hmem rfl with q | q
    .rw[k]at q;cases q
    .rw[k]at q;cases q
   .rw[e']at ec;cases ec;obtain⟨o,ho,hd⟩:=z;exact⟨o,hk _ _ ho,hd⟩
 .intro x c e;obtain⟨v,o,ho,hd⟩:=hcell x c e;exact⟨v,o,hk _ _ ho,hd⟩
 .intro x c e;exact I.freeC x c (I.clcell S e)
 .intro p hp;have hp:p∈X.pn++Ar:=by
   rcases YAR.mp hp with z | z
   .exact z
   .cases z
  obtain⟨e,n,ne,nf,d⟩:=I.pin p hp;exact⟨hk _ _ e,n,hC _ _ e,stk p.1 ne nf,d⟩
 .show (pick ix U).length=N.length;unfold pick;rw[YAB];simpa using hix.1
theorem Inv.unblock (I:Inv X Ar U H s)(hf:∀b∈fp,FpOk X Ar H b)(J:Inv (bx X sc N fp s H (X.pn++Ar)) [] τ H' s')(hs:Heap.SameBut s.heap.objs.size s'.heap h'):
  Inv X Ar U H' { s' with heap:=h' }:=by
 have nC:∀b o,s.heap.get? b=some o->b≠s.heap.objs.size:=λb o e=>YAe (YAN e);have hfr:H' s.heap.objs.size=none:=J.free;have u:Un (frs X.stack) fp H H' s.heap s'.heap:=J.base;have ok:HOk X.prog X.w H' h':=λb ob e=>by
  refine(J.hok b ob e).stay (λc w' hc q=>(hs.2 c ?_).trans q) (λ_ q=>q) λ_ _ q=>q;rintro rfl;rcases hc with rfl | hc
  .rw[hfr]at e;cases e
  .rw[hfr]at hc;cases hc
 refine I.call' (ch:=fp) J.os ⟨λb o e n h1 h2=>(hs.2 b (nC b o e)).trans (u.keep b o e n h1 h2),λb o e n h1 h2=>?_,u.free,λb o e h2=>?_,u.tups,u.frzs,u.tbls⟩ ok J.bare λb hb=>?_
 .obtain⟨sl,q⟩:=u.slot b o e n h1 h2;exact⟨sl,(hs.2 b (nC b o e)).trans q⟩
 .obtain⟨o',q⟩:=u.there b o e h2;exact⟨o',(hs.2 b (nC b o e)).trans q⟩
 .obtain⟨_,f1,_,f3,f4,f5⟩:=hf b hb;exact⟨f3,f1,f4,f5⟩
end
def PIfs (X:Cx)(ifs:List Expr)(t:TT):Prop:=
 ∀(Ar:AB) (s:AF) (U:St) (H:Hp) (Q:Bool->Hp->Prop),Inv X Ar U H s->t U H Q ->
  wpAny (model X.prog X.w) X.A (forIn ifs true λc r=>if r=true then do let ok <-isTrue c X.env (eval c X.env);pure (ForInStep.yield ok) else pure (ForInStep.yield r)) (TP X Ar U Q) X.xe s
def tAll:TT:=λ_ H Q=>Q true H
theorem Zcw:PIfs X [] tAll:=λ_ _ _ H _ I h=>wpAny_tests_nil ⟨H,I,h⟩
theorem Zcv (h:PT X c t):PIfs X [c] t:=λAr s U H Q I q=>wpAny_tests_one (h Ar s U H Q I q)
theorem Zgb (W:Nat->AF->Prop)
  (turn:∀n s,W n s->wpAny (model prog w) A (pyNext it) (λr s_1=>match r with
   | none=>R (.ok .next) s_1
   | some v=>wpAny (model prog w) A (letOwnedTupleGo tgt it v) (λ_ s1_'=>wpAny (model prog w) A (assign tgt env v) (λ_ s_2=>
     wpAny (model prog w) A (forIn ifs true λc r=>if r=true then do let ok <-isTrue c env (eval c env);pure (ForInStep.yield ok) else pure (ForInStep.yield r)) (λok s₃=>
      if ok=true then wpAny (model prog w) A (eval el env) (λx s₄=>
       wpAny (model prog w) A (call (.builtin "list.append") [acc,x]) (λ_ s₅=>∃m,m<n/\W m s₅) (λ_ _=>False) s₄) (λ_ _=>False) s₃
      else ∃m,m<n/\W m s₃) (λ_ _=>False) s_2) (λ_ _=>False) s1_') (λ_ _=>False) s_1) (λ_ _=>False) s)
  (n:Nat) (h:W n s):codeAny (model prog w) A (.compLoop (.ListComp el [⟨tgt,iter,ifs,0⟩] scp pos) 0 it acc env) R s:=by
 refine codeAny_loop rfl W (λn s hI=>?_) n h;show wpAny _ A ((compTurn (.ListComp el [⟨tgt,iter,ifs,0⟩] scp pos) 0 it acc env).onRaise (λx=>do noteFrame x env;theTreesLotGoes x)) _ _ s;refine wpAny_noted ?_;rw[compTurn_list];refine YAA (wpAny_standAt (YAA (YBZ (turn n s hI) (λr s1 q1=>?_) λ_ _ z=>z.elim)));cases r with
 | none=>exact YAD q1
 | some v=>
  refine YAA (YBZ q1 (λ_ s1' q1'=>?_) λ_ _ z=>z.elim);refine YAA (YBZ q1' (λ_ s2 q2=>YAA (YBZ q2 (λok s3 q3=>?_) λ_ _ z=>z.elim)) λ_ _ z=>z.elim);cases ok with
  | false=>exact YAD ⟨rfl,q3⟩
  | true=>exact YAA (YAA (YBZ q3 (λx s4 q4=>YAA (YBZ q4 (λ_ s5 q5=>YAD (YAD ⟨rfl,q5⟩)) λ_ _ z=>z.elim)) λ_ _ z=>z.elim))
def Zl0 (ix:List (Option Nat))(wi:TI)(g:TG)(tt:TT)(te:TE):TE:=λU H Q=>wi U H λJ H1=>∀acc,H1 acc=none->∃W:Nat->Nat->St->Hp->Prop,(∃m,W 0 m (pick ix U) (upd H1 acc (.lst []))) /\
 ∀i m τ H2,W i m τ H2->(J.stop i H2/\Q (.ref acc) H2)\/(J.go i H2/\∃Nx:St->Hp->Prop,(∀τ' H',Nx τ' H'->∃m',m'<m/\W (i+1) m' τ' H') /\
  ∀x H3,J.yld i H2 x H3->g x τ H3 λτ2 H4=>tt τ2 H4 λb H5=>if b=true then te τ2 H5 λy H6=>∃ys,H6 acc=some (.lst ys)/\ys.length<sizeLine/\Nx τ2 (upd H6 acc (.lst (ys++[y]))) else Nx τ2 H5)
section
theorem ZeF {Q:VK}{Ar:AB}{s:AF}{U:St}{H:Hp}{it:AE}{fp:List AE}{tn:Nat->Heap->Prop}{J:It}{RR:Value->AE->Result->AF->Prop}
  (hc:X.calm=true) (S:CmpScope X sc) (hix:Zjt N X.N sc ix=true)
  (hg:∀fp s_0 H_0 pn,PG (bx X sc N fp s_0 H_0 pn) tg g) (ht:∀fp s_0 H_0 pn,PIfs (bx X sc N fp s_0 H_0 pn) ifs tt) (he:∀fp s_0 H_0 pn,PE (bx X sc N fp s_0 H_0 pn) elt te)
  (I:Inv X Ar U H s) (T:Turn X.prog X.w X.K tg J fp it tn) (st:tn 0 s.heap) (hf:∀b∈fp,FpOk X Ar H b)
  (q:∀acc,H acc=none->∃W:Nat->Nat->St->Hp->Prop,(∃m,W 0 m (pick ix U) (upd H acc (.lst []))) /\
   ∀i m τ H2,W i m τ H2->(J.stop i H2/\Q (.ref acc) H2)\/(J.go i H2/\∃Nx:St->Hp->Prop,(∀τ' H',Nx τ' H'->∃m',m'<m/\W (i+1) m' τ' H') /\
    ∀x H3,J.yld i H2 x H3->g x τ H3 λτ2 H4=>tt τ2 H4 λb H5=>if b=true then te τ2 H5 λy H6=>∃ys,H6 acc=some (.lst ys)/\ys.length<sizeLine/\Nx τ2 (upd H6 acc (.lst (ys++[y]))) else Nx τ2 H5))
  (hR:∀(acc:AE) (s₃ s':AF) (τ:St) (H':Hp),Inv X Ar U (upd H acc (.lst [])) s₃->(∀b∈fp,FpOk X Ar (upd H acc (.lst [])) b)->Inv (bx X sc N fp s₃ (upd H acc (.lst [])) (X.pn++Ar)) [] τ H' s'->Q (.ref acc) H' ->
   RR (.ref acc) s₃.heap.objs.size (.ok .next) s'):
  wpAny (model X.prog X.w) X.A (newList []) (λacc s₃=>wpAny (model X.prog X.w) X.A (newFunctionEnv sc X.env.globals (clOf X.env.cells sc.names []) [] X.env.qual none .none (some X.env)) (λcenv s₄=>
   codeAny (model X.prog X.w) X.A (.compStart (.ListComp elt [⟨tg,iter,ifs,0⟩] sc pos) 0 (.ref it) acc { cenv with scope:=relabel sc X.env }) (RR acc cenv.locals) s₄) X.xe s₃) X.xe s:=by
 refine YBt ?_;have hfr:=I.fresh;have I3:=I.lnew (its:=[]) (ys:=[]) (t':=s.toks) .nil (YAt _);have fne:∀b∈fp,b<s.heap.objs.size:=λb hb=>by obtain⟨o,e,_⟩:=T.obj 0 _ st b hb;exact YAN e
 have hf3:∀b∈fp,FpOk X Ar (upd H s.heap.objs.size (.lst [])) b:=λb hb=>by obtain⟨f0,f⟩:=hf b hb;refine⟨?_,f⟩;rw[Zah (YAe (fne b hb))];exact f0
 have q3:=q _ hfr;have st3:tn 0 (s.heap.push { cls:=.type "list",data:=.seq ([]:AD).toArray }):=T.keep _ _ _ st λb _ o e=>YAE _ e;generalize e3:({ s with heap:=s.heap.push { cls:=.type "list",data:=.seq ([]:AD).toArray },toks:=s.toks }:AF)=s3 at I3;have es3:s3.heap=s.heap.push { cls:=.type "list",data:=.seq ([]:AD).toArray }:=by rw[<-e3]
 rw[<-es3]at st3;have hf3':∀b∈fp,FpOk X Ar (upd H s.heap.objs.size (.lst [])) b/\b<s3.heap.objs.size:=λb hb=>⟨hf3 b hb,by rw[es3,YBm];exact YCW (fne b hb)⟩;refine wpAny_newFunctionEnv S.nocell (by intro y hy;cases hy) (λh_1 hns1 hsb1=>?_) S.kind;have hk:∀b o,s3.heap.get? b=some o->h_1.get? b=some o:=λb o e=>hsb1.extBut b o (YAe (YAN e)) (YAE _ e);have I4:=I3.block (N:=N) (ix:=ix) (tk:=s3.toks+([]:List (Str×Value)).length) S hix hf3' hk hns1;have st4:tn 0 h_1:=T.keep _ _ _ st3 λb _ o e=>hk b o e;obtain⟨W,⟨m0,w0⟩,turn⟩:=q3;have statN:∀ {H':Hp},(∀b∈fp,H' b=none)->∀b∈fp,FpOk (bx X sc N fp s3 (upd H s.heap.objs.size (.lst [])) (X.pn++Ar)) [] H' b:=λ{H'} hn b hb=>by
  obtain⟨⟨_,f1,f2,f3,f4,f5⟩,A2⟩:=hf3' b hb;refine⟨hn b hb,YAe A2,λz=>?_,.inl hb,λx c e=>f4 x c (I3.clcell S e),λp hp=>?_⟩
  .rcases YAH.mp (I3.stkSub b z) with z | z
   .exact f1 z
   .exact f2 z
  .refine f5 p ?_;rcases YAR.mp hp with z | z
   .exact z
   .cases z
 have loop:∀s4:AF,s4={ s3 with heap:=h_1,toks:=s3.toks+([]:List (Str×Value)).length } ->
   codeAny (model X.prog X.w) X.A (.compLoop (.ListComp elt [⟨tg,iter,ifs,0⟩] sc pos) 0 (.ref it) (.ref s.heap.objs.size) (compEnvC sc (clOf X.env.cells sc.names []) s3.heap.objs.size X.env)) (RR (.ref s.heap.objs.size) s3.heap.objs.size) s4:=by
  rintro s4 rfl;refine Zgb (λn s'=>∃i τ H',Inv (bx X sc N fp s3 (upd H s.heap.objs.size (.lst [])) (X.pn++Ar)) [] τ H' s'/\tn i s'.heap/\(∀b∈fp,H' b=none)/\W i n τ H') ?_ m0 ⟨0,_,_,I4,st4,λb hb=>(hf3 b hb).1,w0⟩;rintro n s5 ⟨i,τ,H5,I5,st5,fr5,w5⟩;rcases turn i n τ H5 w5 with⟨stop,qn⟩|⟨go,Nx,hN,step⟩
  .refine thn (T.done (bx X sc N fp s3 (upd H s.heap.objs.size (.lst [])) (X.pn++Ar)) rfl rfl rfl hc i [] s5 τ H5 (λ_ _=>False) I5 (statN fr5) st5 stop) λr s6 zz=>?_;obtain⟨hr,I6⟩:=zz;subst hr;exact hR _ _ _ _ _ I3 hf3 I6 qn
  .refine thn (T.item (bx X sc N fp s3 (upd H s.heap.objs.size (.lst [])) (X.pn++Ar)) rfl rfl rfl hc i [] s5 τ H5 (λ_ _=>False) I5 (statN fr5) st5 go) λr s6 zz=>?_;obtain⟨u,hr,h6⟩:=zz;subst hr;refine thn h6 λ_ s7 zz=>?_;obtain⟨x,H7,I7,r7,y7,st7,fr7⟩:=zz;have I7':=I7.pinned (statN fr7) (T.obj _ _ st7);refine thn (hg _ _ _ _ _ s7 τ H7 x u _ I7' r7 (step x H7 y7)) λ_ s8 zz=>?_;obtain⟨τ8,H8,I8,q8⟩:=zz;have again:∀ {s9:AF} {τ9:St} {H9:Hp},Inv (bx X sc N fp s3 (upd H s.heap.objs.size (.lst [])) (X.pn++Ar)) ([]++ZfA fp s7.heap) τ9 H9 s9->Nx τ9 H9 ->
     ∃m,m<n/\∃i τ H',Inv (bx X sc N fp s3 (upd H s.heap.objs.size (.lst [])) (X.pn++Ar)) [] τ H' s9/\tn i s9.heap/\(∀b∈fp,H' b=none)/\W i m τ H':=λ{s9 τ9 H9} I9 n9=>by
    obtain⟨m',hm,w9⟩:=hN τ9 H9 n9;refine⟨m',hm,i+1,τ9,H9,I9.unpinned,T.keep _ _ _ st7 λb hb o e=>(I9.pin (b,o) (YBD _ (YBD _ (Zcy hb e)))).1,λb hb=>?_,w9⟩;obtain⟨o,e,d⟩:=T.obj _ _ st7 b hb;exact(I9.pin (b,o) (YBD _ (YBD _ (Zcy hb e)))).2.1
   refine thn (ht _ _ _ _ _ s8 τ8 H8 _ I8 q8) λok s9 zz=>?_;obtain⟨H9,I9,q9⟩:=zz;cases ok with
   | false=>exact again I9 q9
   | true=>
    rw[YAM rfl]at q9 ⊢;refine thn (he _ _ _ _ _ s9 τ8 H9 _ I9 q9) λyv s10 zz=>?_;obtain⟨y,H10,I10,r10,ys,ha,hz,q10⟩:=zz;refine thn (ZbE _ s10 τ8 H10 (.ref s.heap.objs.size) [y] (.ref s.heap.objs.size) [yv] (λv H'=>v=.non/\Nx τ8 H') I10 rfl (.cons r10 .nil) ⟨_,ys,y,rfl,rfl,ha,hz,rfl,q10⟩) λ_ s11 zz=>?_;obtain⟨_,H11,I11,_,_,q11⟩:=zz;exact again I11 q11
 exact codeAny_compStart_list (loop _ rfl) (T.self _ 0 _ _ _ st4 (loop _ rfl))
theorem Zcm (hc:X.calm=true)(S:CmpScope X sc)(hix:Zjt N X.N sc ix=true)(hi:PI X tg iter wi)
  (hg:∀fp s_0 H_0 pn,PG (bx X sc N fp s_0 H_0 pn) tg g) (ht:∀fp s_0 H_0 pn,PIfs (bx X sc N fp s_0 H_0 pn) ifs tt) (he:∀fp s_0 H_0 pn,PE (bx X sc N fp s_0 H_0 pn) elt te)
  (hs:∀x,foldedSetIterable iter X.env x=pure x:=by intro _;rfl):PE X (.ListComp elt [⟨tg,iter,ifs,0⟩] sc pos) (Zl0 ix wi g tt te):=by
 intro Ar s U H Q I h;rw[eval_ListComp];refine wpAny_comprehension_free (use:=none) rfl hs (ZeG (I.capt S)) S.kind S.loc (thn (hi Ar s U H _ I h) λv s1 h1=>thn h1 λitv s2 h2=>?_);obtain⟨it,fp,tn,J,H2,e,I2,T,st2,f2,q⟩:=h2;subst e;refine ZeF (Q:=Q) (RR:=λacc C=>compPost (model X.prog X.w) X.A X.xe none (EP X Ar U Q) acc C) hc S hix hg ht he I2 T st2 f2 q ?_;intro acc s3 s' τ H' I3 hf3 J' qq;obtain⟨m,hn,_⟩:=J'.loc;exact⟨m,hn,λh' hs'=>⟨.ref acc,H',I3.unblock hf3 J' hs',rfl,qq⟩⟩
theorem ZeV (hsw:swapsWith (.ListComp elt [⟨tg,iter,ifs,0⟩] sc pos) (some (.Name x px)) spos.line X.env=pure true)
  (hN:X.N.Nodup) (hi':X.N[i]?=some x) (hx:X.env.scope.names.lookup x=some .local) (hc:X.calm=true) (S:CmpScope X sc) (hix:Zjt N X.N sc ix=true) (hi:PI X tg iter wi)
  (hg:∀fp s_0 H_0 pn,PG (bx X sc N fp s_0 H_0 pn) tg g) (ht:∀fp s_0 H_0 pn,PIfs (bx X sc N fp s_0 H_0 pn) ifs tt) (he:∀fp s_0 H_0 pn,PE (bx X sc N fp s_0 H_0 pn) elt te)
  (hs:∀x,foldedSetIterable iter X.env x=pure x:=by intro _;rfl):PS X (.Assign [.Name x px] (.ListComp elt [⟨tg,iter,ifs,0⟩] sc pos) spos) (tAsg (Zl0 ix wi g tt te) (ZcL i)):=by
 intro Ar s U H D I h;rw[exec_Assign_Name_used _ _ _ _ hsw];refine YAA (wpAny_standAt (YAA ?_));show wpAny _ X.A (do let _ <-comprehension (.ListComp elt [⟨tg,iter,ifs,0⟩] sc pos) sc X.env _ (newList []) false (eval iter X.env) (some (assign (.Name x px) X.env))) _ _ s;refine YAA (YBZ (wpAny_comprehension_free (use:=some (assign (.Name x px) X.env)) (Q:=λ_ s'=>SP X Ar D .next s') rfl hs (ZeG (I.capt S)) S.kind S.loc
  (thn (hi Ar s U H _ I h) λv s1 h1=>thn h1 λitv s2 h2=>?_)) (λ_ s' hq=>YAD (YAD hq)) λ_ _ z=>z)
 obtain⟨it,fp,tn,J,H2,e,I2,T,st2,f2,q⟩:=h2;subst e;refine ZeF (Q:=λy H1=>ZcL i y U H1 D.nx) (RR:=λacc C=>compPost (model X.prog X.w) X.A X.xe (some (assign (.Name x px) X.env)) (λ_ s'=>SP X Ar D .next s') acc C) hc S hix hg ht he I2 T st2 f2 q ?_;intro acc s3 s' τ H' I3 hf3 J' qq;show wpAny _ X.A (assign (.Name x px) X.env (.ref acc)) _ _ _;have I5:Inv X Ar U H' s':=I3.unblock hf3 J' (.refl ..);obtain⟨m,hn,_⟩:=J'.loc;have hn:s'.heap.Ns s3.heap.objs.size m:=hn;have hLC:s3.heap.objs.size≠X.env.locals:=Nat.ne_of_gt I3.lt;refine wpAny_assign_Name (Zft I5 hN hi' (.inl hx) (v:=.ref acc) rfl (λs6 I6 ⟨a,sb,ha⟩=>?_) (.inr hx));have ea:a≠s3.heap.objs.size:=by
  rcases ha with ha | ha
  .rw[ha];exact YAk hLC
  .obtain⟨v,o,ho,_⟩:=I3.cell x a ha;exact YAe (YAN ho)
 refine⟨m,hn.sameBut sb (YAk ea),λh' hs'=>?_⟩;have hfr:H' s3.heap.objs.size=none:=J'.free;refine⟨_,H',?_,qq⟩;have ok:HOk X.prog X.w H' h':=λb ob e=>by
  refine(I6.hok b ob e).stay (λc w' hc q=>(hs'.2 c ?_).trans q) (λ_ q=>q) λ_ _ q=>q;rintro rfl;rcases hc with rfl | hc
  .rw[hfr]at e;cases e
  .rw[hfr]at hc;cases hc
 have l3:X.s_0.heap.objs.size<=s3.heap.objs.size:=I3.sz;have cne:∀y c,X.env.cells.lookup y=some c->c≠s3.heap.objs.size:=λy c e z=>by obtain⟨v,o,ho,_⟩:=I3.cell y c e;exact absurd (YAN ho) (by rw[z];exact YBE _)
 exact I6.turned (t':=s6.toks) (it:=s3.heap.objs.size) (λb o hb e=>(hs'.2 b hb).trans e) hfr hLC (.inr l3) cne λp hp z=>by have:=(I3.pin p hp).1;exact absurd (YAN this) (by rw[z];exact YBE _)
end
noncomputable abbrev tx (l:Q11):V:=.str ⟨l.toArray⟩
theorem Zel:tx a=tx b↔a=b:=by
 constructor
 .intro h;have h1:(⟨a.toArray⟩:Str)=⟨b.toArray⟩:=V.str.inj h;have h2:a.toArray=b.toArray:=congrArg Str.cps h1;simpa using h2
 .rintro rfl;rfl
theorem Zcr:decide (tx a=tx b)=decide (a=b):=by
 by_cases h:a=b
 .subst h;simp
 .rw[decide_eq_false h,decide_eq_false λz=>h (Zel.mp z)]
theorem ZeN (l:Q11):(⟨l.toArray⟩:Str).length=l.length:=by show l.toArray.size=l.length;simp
def rT (C:Q11->Q11->Prop)(g:Q11->Q11->V):R2:=λx y H Q=>∃a b,x=tx a/\y=tx b/\C a b/\Q (g a b) H
def cut {α:Type}(l:List α)(lo hi:Option Int):List α:=(l.drop (HT.sIx l.length 0 lo)).take (HT.sIx l.length l.length hi-HT.sIx l.length 0 lo)
theorem ZeE (l:List α)(lo hi:Option Int):(cut l lo hi).length<=l.length:=by unfold cut;rw[YAW,YAp];lia
theorem ZjP (l:List α)(a b:Nat):cut l (some (a:Int)) (some (b:Int))=(l.drop a).take (b-a):=by
 unfold cut;rw[HT.sIx_nat,HT.sIx_nat];apply YCs;intro i;simp only[YCg,YCh];by_cases h1:i<min b l.length-min a l.length
 .rw[YAM h1,YAM (by lia)];congr 1;lia
 .rw[YAJ h1];by_cases h2:i<b-a
  .rw[YAM h2,YBb (by lia)]
  .rw[YAJ h2]
theorem ZhP (l:List α)(b:Nat):cut l none (some (b:Int))=l.take b:=by
 unfold cut;rw[HT.sIx_nat,HT.sIx_none];apply YCs;intro i;simp only[YCg,YCh,Nat.zero_add,Nat.sub_zero];by_cases h1:i<min b l.length
 .rw[YAM h1,YAM (by lia)]
 .rw[YAJ h1];by_cases h2:i<b
  .rw[YAM h2,YBb (by lia)]
  .rw[YAJ h2]
theorem ZcD (l:List α)(a:Nat):cut l (some (a:Int)) none=l.drop a:=by
 unfold cut;rw[HT.sIx_nat,HT.sIx_none];apply YCs;intro i;simp only[YCg,YCh];by_cases h1:i<l.length-min a l.length
 .rw[YAM h1];congr 1;lia
 .rw[YAJ h1,YBb (by lia)]
noncomputable def clp (n:Nat)(v:Option Int)(d:Int):Int:=match v with
 | none=>d
 | some i=>max 0 (min (if i<0 then i+(n:Int) else i) (n:Int))
theorem ZlJ (n d:Nat)(o:Option Int):clp n o (d:Int)=((HT.sIx n d o:Nat):Int):=by
 cases o with
 | none=>rw[HT.sIx_none];rfl
 | some v=>
  have:=HT.clip_eq v n d;unfold clp;dsimp only;rw[<-this];split<;>lia
theorem ZiD (lo hi:Option Int)(n:Nat):Builtin.Str.strSliceIndices lo hi 1 n=(List.range (HT.sIx n n hi-HT.sIx n 0 lo)).map λk=>HT.sIx n 0 lo+k:=by
 have g:Builtin.Str.strSliceIndices lo hi 1 n=sliceRange (clp n lo ((0:Nat):Int)) (clp n hi (n:Int)) 1:=by cases lo<;>cases hi<;>rfl
 rw[g,ZlJ,ZlJ];generalize HT.sIx n 0 lo=a;generalize HT.sIx n n hi=b;unfold sliceRange;have hc:(if (1:Int)>0 then (if (a:Int)<(b:Int) then ((b:Int)-a+1-1)/1 else 0) else (if (a:Int)>(b:Int) then ((a:Int)-b-1-1)/(-1) else 0)).toNat=b-a:=by simp only[show (1:Int)>0 by decide,if_true,Int.ediv_one];split<;>lia
 dsimp only;rw[hc];apply YCK;intro k _;lia
theorem Zj8 (l:Q11)(lo hi:Option Int):Txt.slice ⟨l.toArray⟩ lo hi=⟨(cut l lo hi).toArray⟩:=by
 have h1:=HT.sIx_le l.length 0 (YAt _) lo;have h2:=HT.sIx_le l.length l.length (YAP _) hi;unfold Txt.slice;rw[ZeN,ZiD];have e:((List.range (HT.sIx l.length l.length hi-HT.sIx l.length 0 lo)).map λk=>HT.sIx l.length 0 lo+k).filterMap (λi=>l.toArray[i]?)=cut l lo hi:=by
  unfold cut;generalize HT.sIx l.length 0 lo=a at *;generalize HT.sIx l.length l.length hi=b at *;have hab:∀n,a+n<=l.length->((List.range n).map λk=>a+k).filterMap (λi=>l.toArray[i]?)=(l.drop a).take n:=by
   intro n;induction n with
   | zero=>intro _;simp
   | succ n ih=>
    intro hn;rw[YBo,YAb,List.filterMap_append,ih (by lia),YBl];have:(l.drop a)[n]?=l[a+n]?:=YCh;simp[this,YAL (show a+n<l.length by lia)]
  by_cases hle:a<=b
  .exact hab _ (by lia)
  .have:b-a=0:=by lia
   rw[this];simp
 split
 .rename_i hc
  simp only[beq_self_eq_true,YCa,YAB,YBM]at hc;have hc':HT.sIx l.length l.length hi-HT.sIx l.length 0 lo=l.length:=by simpa using hc
  have:cut l lo hi=l:=by
   unfold cut;have ha:HT.sIx l.length 0 lo=0:=by lia
   rw[hc',ha,YBh,YAv (YAP _)]
  rw[this]
 .show (⟨(List.filterMap (λi=>l.toArray[i]?) _).toArray⟩:Str)=_;rw[e]
section
theorem Za1:OpR X (binaryOp .Add) (rT (λa b=>a.length+b.length<=sizeLine) λa b=>tx (a++b)):=by
 rintro Ar s U H x y v u Q I rx ry ⟨a,b,rfl,rfl,hz,q⟩;refine Zic Ar s U H _ _ v u Q I rx ry ⟨_,_,rfl,rfl,by rw[ZeN,ZeN];exact hz,?_⟩;have e:((⟨a.toArray⟩:Str)++(⟨b.toArray⟩:Str))=⟨(a++b).toArray⟩:=by show (⟨a.toArray++b.toArray⟩:Str)=_;simp
 rw[e];exact q
theorem Zkm:OpR X (compareOp .Lt) (rT (λ_ _=>True) λa b=>.bl (decide (a<b))):=by rintro Ar s U H x y v u Q I rx ry ⟨a,b,rfl,rfl,_,q⟩;exact ZiX Ar s U H _ _ v u Q I rx ry ⟨_,_,rfl,rfl,q⟩
theorem Zia:OpR X (compareOp .In) (λx y H Q=>∃c l,x=tx [c]/\y=tx l/\Q (.bl (decide (c∈l))) H):=by
 rintro Ar s U H x y v u Q I rx ry ⟨c,l,rfl,rfl,q⟩;refine ZfG Ar s U H _ _ v u Q I rx ry ⟨_,_,rfl,rfl,?_⟩;have e:=StrLaws.found_one ⟨l.toArray⟩ c;have e':(!(Builtin.Str.occurrences ⟨l.toArray⟩ ⟨[c].toArray⟩ 0 (⟨l.toArray⟩:Str).length 1).isEmpty)=decide (c∈l):=by rw[show ([c].toArray)=#[c] from rfl,e]
 rw[e'];exact q
theorem ZgL:IxR X (λx y H Q=>∃l i c,x=tx l/\y=.int i/\l.length<=sizeLine/\atI l i=some c/\Q (tx [c]) H):=by rintro value slice Ar s U H x y v u Q I rx ry ⟨l,i,c,rfl,rfl,hz,h,q⟩ hs;exact ZoK value slice Ar s U H _ _ v u Q I rx ry ⟨_,i,c,rfl,rfl,by rw[ZeN];exact hz,h,q⟩ hs
theorem Zcg:SlR X (λx lo hi H Q=>∃l,x=tx l/\l.length<=sizeLine/\Q (tx (cut l lo hi)) H):=by
 rintro Ar s U H x v vl vu lo hi sl Q I rx hs pl pu ⟨l,rfl,hz,q⟩;obtain⟨t,rfl⟩:=rx;refine⟨"str",_,F.slot_str_getitem.lookup,typeIs_str _ _ _,?_⟩;have part:∀ {v:Value} {o:Option Int},IsPart v o->∃p:Option (Int×Tok),v=partValue p/\p.map (·.1)=o:=λ{v o} h=>by
  cases h with
  | none=>exact⟨none,rfl,rfl⟩
  | int i t=>exact⟨some (i,t),rfl,rfl⟩
 obtain⟨a,rfl,ea⟩:=part pl;obtain⟨b,rfl,eb⟩:=part pu;refine wpAny_getItem_str_slice (l:=a) (u:=b) (st:=none) hs rfl ?_;have e:(if ((1:Int) == 1&&(Builtin.Str.strSliceIndices lo hi 1 (⟨l.toArray⟩:Str).length).length == (⟨l.toArray⟩:Str).length)=true then (⟨l.toArray⟩:Str) else ⟨((Builtin.Str.strSliceIndices lo hi 1 (⟨l.toArray⟩:Str).length).filterMap ((⟨l.toArray⟩:Str).cps[·]?)).toArray⟩)=⟨(cut l lo hi).toArray⟩:=Zj8 l lo hi;unfold sliceMade slicePicked;rw[ea,eb];refine post_val_or_str ?_;refine⟨?_,λt' k=>?_⟩
 .show (if ((1:Int) == 1&&(Builtin.Str.strSliceIndices lo hi 1 (⟨l.toArray⟩:Str).length).length == (⟨l.toArray⟩:Str).length)=true then (⟨l.toArray⟩:Str) else ⟨((Builtin.Str.strSliceIndices lo hi 1 (⟨l.toArray⟩:Str).length).filterMap ((⟨l.toArray⟩:Str).cps[·]?)).toArray⟩).length<=sizeLine;rw[e,ZeN];exact YAK (ZeE _ _ _) hz
 .refine⟨tx (cut l lo hi),H,I.tok _,⟨t',?_⟩,q⟩;exact congrArg (λz=>Value.str z t') e
theorem Zen:∀ {ls:Q22} {us:AD},Vals (ls.map tx) us->StrsAre us (ls.map λl=>(⟨l.toArray⟩:Str))
 | [],us,r=>by
  rw[List.map_nil]at r;cases r;exact .nil
 | l::ls,us,r=>by
  rw[YAi]at r;cases r with
  | cons r1 r2=>
   obtain⟨t,e⟩:=r1;subst e;exact .cons _ t (Zen r2)
end
def Its (l:Q11):It:=⟨λi _=>i<l.length,λi H x H'=>H'=H/\∃c,l[i]?=some c/\x=tx [c],λi _=>l.length<=i⟩
theorem Ziv {P:AH} {w:AJ} {K:Q4} {tg:Expr} (l:Q11) (t:Tok) (it:AE) (ty:String) (hty:ty="str_ascii_iterator"\/ty="str_iterator"):Turn P w K tg (Its l) [it] it (λi h=>h.IsStrIter it ty ⟨l.toArray⟩ t i) where
 mem:=by simp
 obj:=λi h st b hb=>by
  have e:b=it:=by simpa using hb
  subst e;obtain⟨o,e,c,d⟩:=st;exact⟨o,e,λv z=>by rw[d]at z;cases z⟩
 keep:=λi h h' st k=>by obtain⟨o,e,r⟩:=st;exact⟨o,k it (by simp) o e,r⟩
 item:=by
  intro X hP hw hK hc i Ar s U H E I hf st hg;subst hP hw hK;obtain⟨f0,f1,f2,f3,f4,f5⟩:=hf it (by simp);have hg:i<l.length:=hg;have hx:(⟨l.toArray⟩:Str).cps[i]?=some l[i]:=by show l.toArray[i]?=some l[i];simp[hg]
  have fin:∀(h':Heap) (tk:Tok),h'.IsStrIter it ty ⟨l.toArray⟩ t (i+1)->Heap.SameBut it s.heap h' ->
    ∃u,some (Value.str ⟨#[l[i]]⟩ s.toks)=some u/\wpAny (model X.prog X.w) X.A (letOwnedTupleGo tg (.ref it) u) (λ_ s2=>∃x H',Inv X Ar U H' s2/\RelV x u/\(Its l).yld i H x H'/\s2.heap.IsStrIter it ty ⟨l.toArray⟩ t (i+1)/\∀b∈[it],H' b=none) E { s with heap:=h',toks:=tk }:=λh' tk st' sb=>by
   have I1:Inv X Ar U H { s with heap:=h',toks:=tk }:=I.turned (t':=tk) (λb o hb e=>(sb.2 b hb).trans e) f0 f1 f3 f4 f5;obtain⟨o,e,c,d⟩:=id st';refine⟨_,rfl,ZkN (s:={ s with heap:=h',toks:=tk }) e c d ?_ ⟨tx [l[i]],H,I1,⟨_,rfl⟩,⟨rfl,l[i],by simp[hg],rfl⟩,st',λb hb=>(hf b hb).1⟩⟩;rcases hty with rfl | rfl<;>decide
  rcases hty with rfl | rfl
  .exact wpAny_pyNext_ascii_item st hx λh' st' sb=>fin h' _ st' sb
  .exact wpAny_pyNext_wide_item st hx λh' st' sb=>fin h' _ st' sb
 done:=by
  intro X hP hw hK hc i Ar s U H E I hf st hg;subst hP hw hK;obtain⟨f0,f1,f2,f3,f4,f5⟩:=hf it (by simp);have hg:l.length<=i:=hg;have hx:(⟨l.toArray⟩:Str).cps[i]?=none:=by show l.toArray[i]?=none;simp[hg]
  rcases hty with rfl | rfl
  .exact wpAny_pyNext_ascii_end (I.ok.hd hc) st hx λh' eb=>⟨rfl,I.turned (t':=s.toks) (λb o hb e=>eb b o hb e) f0 f1 f3 f4 f5⟩
  .exact wpAny_pyNext_wide_end (I.ok.hd hc) st hx λh' eb=>⟨rfl,I.turned (t':=s.toks) (λb o hb e=>eb b o hb e) f0 f1 f3 f4 f5⟩
 self:=by
  intro A i s Q E st h;rcases hty with rfl | rfl
  .exact wpAny_pyIter_striter_ascii st h
  .exact wpAny_pyIter_striter_wide st h
section
def ZoR (tl:TE):TI:=λU H R=>tl U H λx H1=>∃l,x=tx l/\R (Its l) H1
theorem ZdN (hl:PE X l tl):PI X tg l (ZoR tl):=by
 intro Ar s U H R I h;refine thn (hl Ar s U H _ I h) λv s1 zz=>?_;obtain⟨x,H1,I1,r1,q1⟩:=zz;obtain⟨l,rfl,q⟩:=q1;obtain⟨t,rfl⟩:=r1;have fin:∀ty,(ty="str_ascii_iterator"\/ty="str_iterator")->PIE X Ar U tg R (.ref s1.heap.objs.size) { s1 with heap:=s1.heap.push { cls:=.type ty,data:=.fields #[.str ⟨l.toArray⟩ t,.int 0 0] } }:=λty hty=>by
  refine⟨s1.heap.objs.size,[s1.heap.objs.size],_,_,H1,rfl,I1.kept (t':=s1.toks) λb o e=>YAE _ e,Ziv l t _ ty hty,⟨_,YAY _ rfl,rfl,rfl⟩,λb hb=>?_,q⟩;have e:b=s1.heap.objs.size:=by simpa using hb
  subst e;exact I1.fpOk (YAP _) (I1.hok.fresh (YAP _))
 cases ha:(⟨l.toArray⟩:Str).cps.all (· < 128)
 .exact wpAny_pyIter_wide ha (fin _ (.inr rfl))
 .exact wpAny_pyIter_ascii ha (fin _ (.inl rfl))
end
theorem ZkQ {l:Q11}{g:TG}{tb:TS}{D:Ends}{U:St}{H:Hp}(Pv:Nat->St->Hp->Prop)(h0:Pv 0 U H)
  (hs:∀i c U H,l[i]?=some c->Pv i U H->g (tx [c]) U H λU2 H2=>tb { D with nx:=Pv (i+1),ct:=Pv (i+1),bk:=D.nx } U2 H2) (hd:∀U H,Pv l.length U H->D.nx U H):
  ∃W:Nat->Nat->St->Hp->Prop,(∃m,W 0 m U H)/\∀i m U H,W i m U H ->
   ((Its l).stop i H/\D.nx U H)\/((Its l).go i H/\∃N:St->Hp->Prop,(∀U' H',N U' H'->∃m',m'<m/\W (i+1) m' U' H')/\∀x H',(Its l).yld i H x H'->g x U H' λU2 H2=>tb { D with nx:=N,ct:=N,bk:=D.nx } U2 H2):=by
 refine⟨λi m U H=>m=l.length-i/\i<=l.length/\Pv i U H,⟨l.length,by simp,YAt _,h0⟩,?_⟩;rintro i m U H ⟨rfl,hi,p⟩;by_cases A2:i<l.length
 .refine .inr ⟨A2,Pv (i+1),λU' H' p'=>⟨l.length-(i+1),by lia,rfl,A2,p'⟩,λx H' y=>?_⟩;obtain⟨e,c,hc,y⟩:=y;subst e y;exact hs i c U _ hc p
 .have e:i=l.length:=by lia
  subst e;exact .inl ⟨YAP _,hd U H p⟩
inductive DT where
 | f (v:V)
 | l (xs:List DT)
 | t (xs:List DT)
section
variable (K:Q4)(H:Hp)
mutual
def DatOk:DT->V->Prop
 | .f w,v=>v=w/\Zbp w=true
 | .l ds,v=>∃a vs,v=.ref a/\SqL K H a vs/\DatsOk ds vs
 | .t ds,v=>∃a vs,v=.ref a/\SqT K H a vs/\DatsOk ds vs
def DatsOk:List DT->List V->Prop
 | [],vs=>vs=[]
 | d::ds,vs=>∃v r,vs=v::r/\DatOk d v/\DatsOk ds r
end
end
mutual
def deq:DT->DT->Bool
 | .f v,.f w=>eqV v w
 | .l xs,.l ys=>deqs xs ys
 | .t xs,.t ys=>deqs xs ys
 | .f _,.l _=>false
 | .f _,.t _=>false
 | .l _,.f _=>false
 | .t _,.f _=>false
 | .l _,.t _=>false
 | .t _,.l _=>false
def deqs:List DT->List DT->Bool
 | [],[]=>true
 | x::xs,y::ys=>deq x y&&deqs xs ys
 | [],_::_=>false
 | _::_,[]=>false
end
mutual
def dep:DT->Nat
 | .f _=>0
 | .l xs=>deps xs+1
 | .t xs=>deps xs+1
def deps:List DT->Nat
 | []=>0
 | x::xs=>max (dep x) (deps xs)
end
theorem ZdD (h:Zbp v=true):eqV v v=true:=by cases v<;>first | rfl | (simp[eqV];done) | exact absurd (show false=true from h) YAC
theorem DatsOk.length {K:Q4}{H:Hp}:∀ {ds:List DT} {vs:List V},DatsOk K H ds vs->vs.length=ds.length
 | [],vs,h=>by
  unfold DatsOk at h;subst h;rfl
 | d::ds,vs,h=>by unfold DatsOk at h;obtain⟨v,r,rfl,_,hr⟩:=h;rw[YAf,YAf,DatsOk.length hr]
def Za3 (xs ys:List DT)(j:Nat):Bool:=match xs[j]?,ys[j]? with
 | some x,some y=>deq x y
 | _,_=>false
theorem ZgV:∀xs ys:List DT,deqs xs ys=((List.range (min xs.length ys.length)).all (Za3 xs ys)&&xs.length == ys.length)
 | [],[]=>by simp[deqs]
 | [],_::_=>by simp[deqs]
 | _::_,[]=>by simp[deqs]
 | x::xs,y::ys=>by
  have e:min (x::xs).length (y::ys).length=min xs.length ys.length+1:=by simp only[YAf];lia
  have e2:∀j,Za3 (x::xs) (y::ys) (j+1)=Za3 xs ys j:=λj=>by simp[Za3]
  have e3:Za3 (x::xs) (y::ys) 0=deq x y:=by simp[Za3]
  rw[deqs,ZgV xs ys,e,List.range_succ_eq_map,List.all_cons,e3,List.all_map];have e4:((λj=>Za3 (x::xs) (y::ys) j) ∘ Nat.succ)=Za3 xs ys:=by funext j;exact e2 j
  have e5:(Za3 (x::xs) (y::ys) ∘ Nat.succ)=Za3 xs ys:=e4;rw[e5,Bool.and_assoc];simp
mutual
theorem DatOk.uniq {K:Q4}{X:Cx}{Ar:AB}{U:St}{H:Hp}{s:AF}(I:Inv X Ar U H s):∀(d e:DT) (v:V),DatOk X.K H d v->DatOk X.K H e v->deq d e=true
 | .f w,.f u,v,h1,h2=>by
  unfold DatOk at h1 h2;obtain⟨rfl,hf⟩:=h1;obtain⟨e,_⟩:=h2;subst e;unfold deq;exact ZdD hf
 | .f w,.l ys,v,h1,h2=>by
  unfold DatOk at h1 h2;obtain⟨rfl,hf⟩:=h1;obtain⟨a,vs,rfl,_⟩:=h2;exact absurd (show false=true from hf) YAC
 | .f w,.t ys,v,h1,h2=>by
  unfold DatOk at h1 h2;obtain⟨rfl,hf⟩:=h1;obtain⟨a,vs,rfl,_⟩:=h2;exact absurd (show false=true from hf) YAC
 | .l xs,.f w,v,h1,h2=>by
  unfold DatOk at h1 h2;obtain⟨rfl,hf⟩:=h2;obtain⟨a,vs,rfl,_⟩:=h1;exact absurd (show false=true from hf) YAC
 | .t xs,.f w,v,h1,h2=>by
  unfold DatOk at h1 h2;obtain⟨rfl,hf⟩:=h2;obtain⟨a,vs,rfl,_⟩:=h1;exact absurd (show false=true from hf) YAC
 | .l xs,.l ys,v,h1,h2=>by
  unfold DatOk at h1 h2;obtain⟨a,vs,rfl,q1,r1⟩:=h1;obtain⟨b,ws,e,q2,r2⟩:=h2;cases e;have:=I.list_inj q1 q2;subst this;unfold deq;exact DatsOk.uniq (K:=K) I xs ys vs r1 r2
 | .t xs,.t ys,v,h1,h2=>by
  unfold DatOk at h1 h2;obtain⟨a,vs,rfl,q1,r1⟩:=h1;obtain⟨b,ws,e,q2,r2⟩:=h2;cases e;have:=I.tuple_inj q1 q2;subst this;unfold deq;exact DatsOk.uniq (K:=K) I xs ys vs r1 r2
 | .l xs,.t ys,v,h1,h2=>by
  unfold DatOk at h1 h2;obtain⟨a,vs,rfl,q1,r1⟩:=h1;obtain⟨b,ws,e,q2,r2⟩:=h2;cases e;obtain⟨_,_,⟨o,n,e1,c1,_⟩,_⟩:=I.list q1;obtain⟨_,_,⟨o',e2,c2,_⟩,_⟩:=I.tuple q2;rw[e1]at e2;cases e2;rw[c1]at c2;exact absurd c2 (by simp)
 | .t xs,.l ys,v,h1,h2=>by unfold DatOk at h1 h2;obtain⟨a,vs,rfl,q1,r1⟩:=h1;obtain⟨b,ws,e,q2,r2⟩:=h2;cases e;obtain⟨_,_,⟨o',e2,c2,_⟩,_⟩:=I.tuple q1;obtain⟨_,_,⟨o,n,e1,c1,_⟩,_⟩:=I.list q2;rw[e1]at e2;cases e2;rw[c1]at c2;exact absurd c2 (by simp)
theorem DatsOk.uniq {K:Q4}{X:Cx}{Ar:AB}{U:St}{H:Hp}{s:AF}(I:Inv X Ar U H s):∀(xs ys:List DT) (vs:List V),DatsOk X.K H xs vs->DatsOk X.K H ys vs->deqs xs ys=true
 | [],[],vs,h1,h2=>by unfold deqs;rfl
 | [],y::ys,vs,h1,h2=>by
  unfold DatsOk at h1 h2;subst h1;obtain⟨_,_,e,_⟩:=h2;cases e
 | x::xs,[],vs,h1,h2=>by
  unfold DatsOk at h1 h2;subst h2;obtain⟨_,_,e,_⟩:=h1;cases e
 | x::xs,y::ys,vs,h1,h2=>by unfold DatsOk at h1 h2;obtain⟨v,r,rfl,a1,a2⟩:=h1;obtain⟨v',r',e,b1,b2⟩:=h2;cases e;unfold deqs;rw[DatOk.uniq (K:=K) I x y v a1 b1,DatsOk.uniq (K:=K) I xs ys r a2 b2];rfl
end
section
open SeqAt
theorem Zfb (hf:Zbp w=true)(r:RelV w u)(hl:s.heap.IsList l items)(hu:A.units<cLine):EqAt A s u (.ref l) false/\EqAt A s (.ref l) u false/\RcAt A s u (.ref l) false/\RcAt A s (.ref l) u false/\RcNeAt A s u (.ref l) true/\RcNeAt A s (.ref l) u true:=by
 cases w with
 | non=>cases r;exact⟨.none_list hl hu,.list_none hl hu,.none_list hl hu,.list_none hl hu,.none_list hl hu,.list_none hl hu⟩
 | bl b=>cases r;exact⟨.bool_list b hl hu,.list_bool b hl hu,.bool_list b hl hu,.list_bool b hl hu,.bool_list b hl hu,.list_bool b hl hu⟩
 | int i=>obtain⟨t,rfl⟩:=r;exact⟨.int_list i t hl hu,.list_int i t hl hu,.int_list i t hl hu,.list_int i t hl hu,.int_list i t hl hu,.list_int i t hl hu⟩
 | str i=>obtain⟨t,rfl⟩:=r;exact⟨.str_list i t hl hu,.list_str i t hl hu,.str_list i t hl hu,.list_str i t hl hu,.str_list i t hl hu,.list_str i t hl hu⟩
 | _=>exact absurd (show false=true from hf) YAC
theorem Zfa (hf:Zbp w=true)(r:RelV w u)(hl:s.heap.IsTuple l items)(hu:A.units<cLine):EqAt A s u (.ref l) false/\EqAt A s (.ref l) u false/\RcAt A s u (.ref l) false/\RcAt A s (.ref l) u false/\RcNeAt A s u (.ref l) true/\RcNeAt A s (.ref l) u true:=by
 cases w with
 | non=>cases r;exact⟨.none_tuple hl hu,.tuple_none hl hu,.none_tuple hl hu,.tuple_none hl hu,.none_tuple hl hu,.tuple_none hl hu⟩
 | bl b=>cases r;exact⟨.bool_tuple b hl hu,.tuple_bool b hl hu,.bool_tuple b hl hu,.tuple_bool b hl hu,.bool_tuple b hl hu,.tuple_bool b hl hu⟩
 | int i=>obtain⟨t,rfl⟩:=r;exact⟨.int_tuple i t hl hu,.tuple_int i t hl hu,.int_tuple i t hl hu,.tuple_int i t hl hu,.int_tuple i t hl hu,.tuple_int i t hl hu⟩
 | str i=>obtain⟨t,rfl⟩:=r;exact⟨.str_tuple i t hl hu,.tuple_str i t hl hu,.str_tuple i t hl hu,.tuple_str i t hl hu,.str_tuple i t hl hu,.tuple_str i t hl hu⟩
 | _=>exact absurd (show false=true from hf) YAC
theorem ZnP {A:AI}{l b:AE}{ps qs:AD}{xs ys:List DT}(hl:s.heap.IsList l ps.toArray)(hb:s.heap.IsList b qs.toArray)(n1:ps.length=xs.length)(n2:qs.length=ys.length)(hu:A.units<cLine)
  (he:∀j (h1:j<ps.length) (h2:j<qs.length),EqAt A.in1 s ps[j] qs[j] (Za3 xs ys j)):RcAt A s (.ref l) (.ref b) (deqs xs ys)/\RcNeAt A s (.ref l) (.ref b) (!deqs xs ys):=by
 rw[ZgV];by_cases hz:ps.length=qs.length
 .have hsz:ps.toArray.size=qs.toArray.size:=by rw[YAO,YAO];exact hz
  have e1:((List.range (min xs.length ys.length)).all (Za3 xs ys)&&xs.length == ys.length)=(List.range ps.toArray.size).all (Za3 xs ys):=by
   have:xs.length=ys.length:=by lia
   rw[YAO,n1,<-this,Nat.min_self];simp
  rw[e1];exact⟨RcAt.lists hl hb hsz hu λj j1 j2=>by simpa using he j (by simpa using j1) (by simpa using j2),RcNeAt.lists hl hb hsz hu λj j1 j2=>by simpa using he j (by simpa using j1) (by simpa using j2)⟩
 .have e1:((List.range (min xs.length ys.length)).all (Za3 xs ys)&&xs.length == ys.length)=false:=by
   have:xs.length≠ys.length:=by lia
   simp[this]
  rw[e1];have hsz:(ps.toArray.size != qs.toArray.size)=true:=by rw[YAO,YAO];simpa using hz
  exact⟨RcAt.lists_lengths hl hb hsz hu,RcNeAt.lists_lengths hl hb hsz hu⟩
theorem ZnO {A:AI}{l b:AE}{ps qs:AD}{xs ys:List DT}(hl:s.heap.IsTuple l ps.toArray)(hb:s.heap.IsTuple b qs.toArray)(n1:ps.length=xs.length)(n2:qs.length=ys.length)(hu:A.units<cLine)
  (he:∀j (h1:j<ps.length) (h2:j<qs.length),EqAt A.in1 s ps[j] qs[j] (Za3 xs ys j)):RcAt A s (.ref l) (.ref b) (deqs xs ys)/\RcNeAt A s (.ref l) (.ref b) (!deqs xs ys):=by
 have e1:deqs xs ys=((List.range (min ps.toArray.size qs.toArray.size)).all (Za3 xs ys)&&ps.toArray.size == qs.toArray.size):=by rw[ZgV,YAO,YAO,n1,n2]
 rw[e1];exact⟨RcAt.tuples hl hb hu λj j1 j2=>by simpa using he j (by simpa using j1) (by simpa using j2),RcNeAt.tuples hl hb hu λj j1 j2=>by simpa using he j (by simpa using j1) (by simpa using j2)⟩
mutual
theorem Zo4 (I:Inv X Ar U H s):∀(d e:DT) (A:AI) (x y:V) (u v:Value),DatOk X.K H d x->DatOk X.K H e y->RelV x u->RelV y v->A.units+dep d<cLine->EqAt A s u v (deq d e)
 | .f w,.f w',A,x,y,u,v,h1,h2,ru,rv,hu=>by
  unfold DatOk at h1 h2;obtain⟨rfl,f1⟩:=h1;obtain⟨rfl,f2⟩:=h2;unfold deq;exact ZlF ru rv f1 f2
 | .f w,.l ys,A,x,y,u,v,h1,h2,ru,rv,hu=>by
  unfold DatOk at h1 h2;obtain⟨rfl,f1⟩:=h1;obtain⟨a,vs,rfl,q,_⟩:=h2;cases rv;obtain⟨its,_,p,_⟩:=I.list q;unfold deq;exact(Zfb f1 ru p.isList (by unfold dep at hu;lia)).1
 | .f w,.t ys,A,x,y,u,v,h1,h2,ru,rv,hu=>by
  unfold DatOk at h1 h2;obtain⟨rfl,f1⟩:=h1;obtain⟨a,vs,rfl,q,_⟩:=h2;cases rv;obtain⟨its,_,p,_⟩:=I.tuple q;unfold deq;exact(Zfa f1 ru (show s.heap.IsTuple a its.toArray from p) (by unfold dep at hu;lia)).1
 | .l xs,.f w,A,x,y,u,v,h1,h2,ru,rv,hu=>by
  unfold DatOk at h1 h2;obtain⟨rfl,f1⟩:=h2;obtain⟨a,vs,rfl,q,_⟩:=h1;cases ru;obtain⟨its,_,p,_⟩:=I.list q;unfold deq;exact(Zfb f1 rv p.isList (by lia)).2.1
 | .t xs,.f w,A,x,y,u,v,h1,h2,ru,rv,hu=>by
  unfold DatOk at h1 h2;obtain⟨rfl,f1⟩:=h2;obtain⟨a,vs,rfl,q,_⟩:=h1;cases ru;obtain⟨its,_,p,_⟩:=I.tuple q;unfold deq;exact(Zfa f1 rv (show s.heap.IsTuple a its.toArray from p) (by lia)).2.1
 | .l xs,.t ys,A,x,y,u,v,h1,h2,ru,rv,hu=>by
  unfold DatOk at h1 h2;obtain⟨a,vs,rfl,q,_⟩:=h1;obtain⟨b,ws,rfl,q',_⟩:=h2;cases ru;cases rv;obtain⟨its,_,p,_⟩:=I.list q;obtain⟨its',_,p',_⟩:=I.tuple q';unfold deq;exact EqAt.list_tuple p.isList (show s.heap.IsTuple b its'.toArray from p') (by lia)
 | .t xs,.l ys,A,x,y,u,v,h1,h2,ru,rv,hu=>by
  unfold DatOk at h1 h2;obtain⟨a,vs,rfl,q,_⟩:=h1;obtain⟨b,ws,rfl,q',_⟩:=h2;cases ru;cases rv;obtain⟨its,_,p,_⟩:=I.tuple q;obtain⟨its',_,p',_⟩:=I.list q';unfold deq;exact EqAt.tuple_list (show s.heap.IsTuple a its.toArray from p) p'.isList (by lia)
 | .l xs,.l ys,A,x,y,u,v,h1,h2,ru,rv,hu=>by
  by_cases hxy:x=y
  .subst hxy;rw[DatOk.uniq (K:=X.K) I (.l xs) (.l ys) x h1 h2];unfold DatOk at h1;obtain⟨a,vs,rfl,_⟩:=h1;cases ru;cases rv;exact EqAt.same _
  .unfold DatOk at h1 h2;obtain⟨a,vs,rfl,q,d1⟩:=h1;obtain⟨b,ws,rfl,q',d2⟩:=h2;cases ru;cases rv;obtain⟨its,r,p,_⟩:=I.list q;obtain⟨its',r',p',_⟩:=I.list q';unfold deq;unfold dep at hu;refine EqAt.of_refs (λe=>hxy (by rw[e])) (ZnP p.isList p'.isList (by rw[<-r.length,d1.length]) (by rw[<-r'.length,d2.length]) (by lia) λj j1 j2=>?_).1;exact Zd4 I xs ys A.in1 vs ws its its' d1 d2 r r' (by show A.units+1+_<_;lia) j j1 j2
 | .t xs,.t ys,A,x,y,u,v,h1,h2,ru,rv,hu=>by
  by_cases hxy:x=y
  .subst hxy;rw[DatOk.uniq (K:=X.K) I (.t xs) (.t ys) x h1 h2];unfold DatOk at h1;obtain⟨a,vs,rfl,_⟩:=h1;cases ru;cases rv;exact EqAt.same _
  .unfold DatOk at h1 h2;obtain⟨a,vs,rfl,q,d1⟩:=h1;obtain⟨b,ws,rfl,q',d2⟩:=h2;cases ru;cases rv;obtain⟨its,r,p,_⟩:=I.tuple q;obtain⟨its',r',p',_⟩:=I.tuple q';unfold deq;unfold dep at hu;refine EqAt.of_refs (λe=>hxy (by rw[e])) (ZnO (show s.heap.IsTuple a its.toArray from p) (show s.heap.IsTuple b its'.toArray from p') (by rw[<-r.length,d1.length]) (by rw[<-r'.length,d2.length]) (by lia) λj j1 j2=>?_).1;exact Zd4 I xs ys A.in1 vs ws its its' d1 d2 r r' (by show A.units+1+_<_;lia) j j1 j2
theorem Zd4 (I:Inv X Ar U H s):∀(xs ys:List DT) (A:AI) (vs ws:List V) (ps qs:AD),DatsOk X.K H xs vs->DatsOk X.K H ys ws->Vals vs ps->Vals ws qs->A.units+deps xs<cLine ->
  ∀(j:Nat) (h1:j<ps.length) (h2:j<qs.length),EqAt A s ps[j] qs[j] (Za3 xs ys j)
 | [],ys,A,vs,ws,ps,qs,d1,d2,r1,r2,hu,j,h1,h2=>by
  unfold DatsOk at d1;subst d1;cases r1;exact absurd h1 (Nat.not_lt_zero _)
 | x::xs,[],A,vs,ws,ps,qs,d1,d2,r1,r2,hu,j,h1,h2=>by
  unfold DatsOk at d2;subst d2;cases r2;exact absurd h2 (Nat.not_lt_zero _)
 | x::xs,y::ys,A,vs,ws,ps,qs,d1,d2,r1,r2,hu,j,h1,h2=>by
  unfold DatsOk at d1 d2;obtain⟨v,vr,rfl,a1,a2⟩:=d1;obtain⟨w,wr,rfl,b1,b2⟩:=d2;unfold deps at hu;cases r1 with
  | cons ru rus=>
   cases r2 with
   | cons rv rvs=>
    cases j with
    | zero=>
     have:=Zo4 I x y A v w _ _ a1 b1 ru rv (by lia);simpa [Za3] using this
    | succ j=>
     have:=Zd4 I xs ys A vr wr _ _ a2 b2 rus rvs (by lia) j (Nat.lt_of_succ_lt_succ h1) (Nat.lt_of_succ_lt_succ h2);simpa [Za3] using this
end
theorem ZnN (I:Inv X Ar U H s){d e:DT}{A:AI}{x y:V}{u v:Value}(h1:DatOk X.K H d x)(h2:DatOk X.K H e y)(ru:RelV x u)(rv:RelV y v)(hu:A.units+dep d<cLine)(hn:¬(Zbp x=true/\Zbp y=true)):
  RcAt A s u v (deq d e)/\RcNeAt A s u v (!deq d e):=by
 cases d with
 | f w=>
  unfold DatOk at h1;obtain⟨rfl,f1⟩:=h1;cases e with
  | f w'=>
   unfold DatOk at h2;obtain⟨rfl,f2⟩:=h2;exact absurd ⟨f1,f2⟩ hn
  | l ys=>
   unfold DatOk at h2;obtain⟨a,vs,rfl,q,_⟩:=h2;cases rv;obtain⟨its,_,p,_⟩:=I.list q;have z:=Zfb (A:=A) f1 ru p.isList (by lia);unfold deq;exact⟨z.2.2.1,z.2.2.2.2.1⟩
  | t ys=>
   unfold DatOk at h2;obtain⟨a,vs,rfl,q,_⟩:=h2;cases rv;obtain⟨its,_,p,_⟩:=I.tuple q;have z:=Zfa (A:=A) f1 ru (show s.heap.IsTuple a its.toArray from p) (by lia);unfold deq;exact⟨z.2.2.1,z.2.2.2.2.1⟩
 | l xs=>
  unfold DatOk at h1;obtain⟨a,vs,rfl,q,d1⟩:=h1;cases ru;obtain⟨its,r,p,_⟩:=I.list q;cases e with
  | f w=>
   unfold DatOk at h2;obtain⟨rfl,f1⟩:=h2;have z:=Zfb (A:=A) f1 rv p.isList (by lia);unfold deq;exact⟨z.2.2.2.1,z.2.2.2.2.2⟩
  | l ys=>
   unfold DatOk at h2;obtain⟨b,ws,rfl,q',d2⟩:=h2;cases rv;obtain⟨its',r',p',_⟩:=I.list q';unfold deq;unfold dep at hu;exact ZnP p.isList p'.isList (by rw[<-r.length,d1.length]) (by rw[<-r'.length,d2.length]) (by lia) λj j1 j2=>Zd4 I xs ys A.in1 vs ws its its' d1 d2 r r' (by show A.units+1+_<_;lia) j j1 j2
  | t ys=>
   unfold DatOk at h2;obtain⟨b,ws,rfl,q',d2⟩:=h2;cases rv;obtain⟨its',r',p',_⟩:=I.tuple q';unfold deq;exact⟨RcAt.list_tuple p.isList (show s.heap.IsTuple b its'.toArray from p') (by lia),RcNeAt.list_tuple p.isList (show s.heap.IsTuple b its'.toArray from p') (by lia)⟩
 | t xs=>
  unfold DatOk at h1;obtain⟨a,vs,rfl,q,d1⟩:=h1;cases ru;obtain⟨its,r,p,_⟩:=I.tuple q;cases e with
  | f w=>
   unfold DatOk at h2;obtain⟨rfl,f1⟩:=h2;have z:=Zfa (A:=A) f1 rv (show s.heap.IsTuple a its.toArray from p) (by lia);unfold deq;exact⟨z.2.2.2.1,z.2.2.2.2.2⟩
  | t ys=>
   unfold DatOk at h2;obtain⟨b,ws,rfl,q',d2⟩:=h2;cases rv;obtain⟨its',r',p',_⟩:=I.tuple q';unfold deq;unfold dep at hu;exact ZnO (show s.heap.IsTuple a its.toArray from p) (show s.heap.IsTuple b its'.toArray from p') (by rw[<-r.length,d1.length]) (by rw[<-r'.length,d2.length]) (by lia) λj j1 j2=>Zd4 I xs ys A.in1 vs ws its its' d1 d2 r r' (by show A.units+1+_<_;lia) j j1 j2
  | l ys=>
   unfold DatOk at h2;obtain⟨b,ws,rfl,q',d2⟩:=h2;cases rv;obtain⟨its',r',p',_⟩:=I.list q';unfold deq;exact⟨RcAt.tuple_list (show s.heap.IsTuple a its.toArray from p) p'.isList (by lia),RcNeAt.tuple_list (show s.heap.IsTuple a its.toArray from p) p'.isList (by lia)⟩
end
def rEqD (K:Q4)(neg:Bool):R2:=λx y H Q=>(scal x y=true/\Q (.bl (if neg then !decide (x=y) else decide (x=y))) H) \/
 ∃d e,DatOk K H d x/\DatOk K H e y/\¬(Zbp x=true/\Zbp y=true)/\dep d<=60/\Q (.bl (if neg then !deq d e else deq d e)) H
theorem Zn1 (hu:X.A.units+64<cLine):OpR X (compareOp .Eq) (rEqD X.K false):=by
 intro Ar s U H x y v u Q I rx ry h;rcases h with⟨h1,q⟩|⟨d,e,h1,h2,hn,hd,q⟩
 .exact Zqj Ar s U H x y v u Q I rx ry ⟨h1,q⟩
 .exact(ZnN I h1 h2 rx ry (by lia) hn).1 _ _ _ _ ⟨.bl _,H,I,rfl,q⟩
theorem Zn0 (hu:X.A.units+64<cLine):OpR X (compareOp .NotEq) (rEqD X.K true):=by
 intro Ar s U H x y v u Q I rx ry h;rcases h with⟨h1,q⟩|⟨d,e,h1,h2,hn,hd,q⟩
 .exact Zqg Ar s U H x y v u Q I rx ry ⟨h1,q⟩
 .exact(ZnN I h1 h2 rx ry (by lia) hn).2 _ _ _ _ ⟨.bl _,H,I,rfl,q⟩
theorem Zfh {K:Q4}{H:Hp}:∀ {vs:List V},vs.all Zbp=true->DatsOk K H (vs.map DT.f) vs
 | [],_=>by unfold DatsOk;rfl
 | v::r,h=>by rw[List.all_cons,YAX]at h;rw[YAi];unfold DatsOk;exact⟨v,r,rfl,by unfold DatOk;exact⟨rfl,h.1⟩,Zfh h.2⟩
theorem Zb1 (vs:List V):deps (vs.map DT.f)=0:=by
 induction vs with
 | nil=>rfl
 | cons v r ih=>rw[YAi];unfold deps;rw[ih];rfl
theorem Zf8:∀ {vs ws:List V},(∀v∈vs,∀w∈ws,eqV v w=decide (v=w))->deqs (vs.map DT.f) (ws.map DT.f)=decide (vs=ws)
 | [],[],_=>by simp[deqs]
 | [],_::_,_=>by simp[deqs]
 | _::_,[],_=>by simp[deqs]
 | v::vs,w::ws,h=>by rw[YAi,YAi,deqs,Zf8 λa ha b hb=>h a (YAV _ ha) b (YAV _ hb)];have e:=h v YAd w YAd;show (eqV v w&&_)=_;rw[e,YBU];simp
theorem ZlD (a b:Q11):eqV (tx a) (tx b)=decide (tx a=tx b):=by
 rw[Zcr];show ((⟨a.toArray⟩:Str) == ⟨b.toArray⟩)=_;by_cases h:a=b
 .subst h;simp
 .rw[decide_eq_false h];exact beq_eq_false_iff_ne.mpr λz=>h (Zel.mp (congrArg V.str z))
theorem datL {K:Q4}{H:Hp}{a:AE}{vs:List V}(h:SqL K H a vs)(hf:vs.all Zbp=true):DatOk K H (.l (vs.map DT.f)) (.ref a):=by unfold DatOk;exact⟨a,vs,rfl,h,Zfh hf⟩
theorem datT {K:Q4}{H:Hp}{a:AE}{vs:List V}(h:SqT K H a vs)(hf:vs.all Zbp=true):DatOk K H (.t (vs.map DT.f)) (.ref a):=by unfold DatOk;exact⟨a,vs,rfl,h,Zfh hf⟩
theorem datF {K:Q4}{H:Hp}{v:V}(hf:Zbp v=true):DatOk K H (.f v) v:=by unfold DatOk;exact⟨rfl,hf⟩
end L2
namespace L2
open PySem PySem.Spec PyProof.Rows
open PySem.W (Frag findIn specialIn typeIn mroIn clsIn InstAt Looks)
noncomputable def Zgu:AD:=[.type "ValueError",.type "Exception",.type "BaseException",.type "object"]
noncomputable def Zlw:Value->Bool
 | .ref _=>true
 | _=>false
def xmro (l:AD):Bool:=l.dropWhile Zlw == Zgu
theorem Zg4 {P:AD->Prop}(h0:P Zgu)(h1:∀c r,P r->P (.ref c::r)):∀l:AD,xmro l=true->P l
 | [],e=>by simp[xmro,Zgu]at e
 | v::r,e=>by
  cases hv:Zlw v with
  | true=>
   cases v with
   | ref c=>
    refine h1 c r (Zg4 h0 h1 r ?_);unfold xmro at e ⊢;rw[List.dropWhile_cons,YAM hv]at e;exact e
   | _=>cases hv
  | false=>
   unfold xmro at e;rw[List.dropWhile_cons,YAJ (by rw[hv];exact YAC)]at e;rw[show (v::r)=Zgu by simpa using e];exact h0
theorem Zj1 (h:Zgu.contains (.type n)=b){l:AD}(e:xmro l=true):l.contains (.type n)=b:=
 Zg4 (P:=λl=>l.contains (.type n)=b) h (λc r h=>by rw[List.contains_cons,h];rfl) l e
structure Xc (K:Frag)(C:AE):Prop where
 ga:findIn K (.ref C) "__getattribute__"=some (some (.builtin "BaseException.__getattribute__"))
 gr:findIn K (.ref C) "__getattr__"=some none
 sa:findIn K (.ref C) "__setattr__"=some (some (.builtin "object.__setattr__"))
 hd:hasDictIn K C=true
 mr:(clsIn K C).any (λcd=>xmro cd.mro)=true
theorem ZlP (e:xmro l=true):l.isEmpty=false:=by
 cases l with
 | nil=>simp[xmro,Zgu]at e
 | cons _ _=>rfl
theorem Xc.base {K:Frag}{C:AE}(c:Xc K C){n:String}{b:Bool}(h:Zgu.contains (.type n)=b):mroIn K C (.type n)=some b:=by obtain⟨cd,hc,hm⟩:=YDV c.mr;unfold mroIn;rw[hc,YDA,YAJ (by rw[ZlP hm];exact YAC),Zj1 h hm]
noncomputable def xo (a C:AE)(d:Option AE):HO:=.ext λh=>∃(o:Obj) (t:AE),h.get? a=some o/\o.cls=.ref C/\o.dict=d/\o.data=.fields #[.ref t,.none,.none,.none,.bool false,.none]
def xdO (d:AE)(fs:List (Str×V)):HO:=.ext λh=>fs.length<=1000/\∃mA,h.Ns1 d mA/\(∀f,RelO (fs.lookup f) (mA f))/\PySem.Within mA (fs.map (·.1))
inductive XAt (H:Hp) (e C:AE):List (Str×V)->Prop where
 | bare:H e=some (xo e C none)->XAt H e C []
 | full {d:AE} {fs:List (Str×V)}:H e=some (xo e C (some d))->H d=some (xdO d fs)->d≠e->XAt H e C fs
section
theorem Zle (I:Inv X Ar U H s)(h:H e=some (xo e C d)):∃(o:Obj) (t:AE),s.heap.get? e=some o/\o.cls=.ref C/\o.dict=d/\o.data=.fields #[.ref t,.none,.none,.none,.bool false,.none]:=(I.hok e _ h).1
theorem XAt.inst (I:Inv X Ar U H s)(x:XAt H e C fs):∃(ox:Obj) (od:Option Obj),InstAt s.heap e ox C od/\∀name,∃r,(match od with | some o=>lookIn name o | none=>some none)=some r/\RelO (fs.lookup name) r:=by
 cases x with
 | bare h=>
  obtain⟨o,t,h1,h2,h3,h4⟩:=Zle I h;exact⟨o,none,⟨h1,h2,by unfold notCls;rw[h4],by rw[h3];trivial⟩,λname=>⟨none,rfl,by trivial⟩⟩
 | @full d _ h h' hne=>
  obtain⟨o,t,h1,h2,h3,h4⟩:=Zle I h;obtain⟨⟨_,mA,hn,hr,_⟩,_⟩:=I.hok d _ h';obtain⟨od,hod,hl⟩:=ZdV hn;exact⟨o,some od,⟨h1,h2,by unfold notCls;rw[h4],by rw[h3];exact hod⟩,λname=>⟨mA name,hl name,hr name⟩⟩
theorem ZjD:entryFor table "BaseException.__getattribute__"=some Builtin.«object.__getattribute__»:=F.entry_bexc_ga
end
structure Xm (K:Frag)(C:AE):Prop where
 c:Xc K C
 ob:∃(nm q:Str) (N:AE) (bs bm:AD) (Az:Bool) (sn:AK) (sub:AD) (ab:Bool) (col:Option Bool) (dd:Option AE) (k0 k1 k2 k3 k5:Option Value),
  K.lookup C=some (excClassObj nm q C N bs bm Az sn sub ab col dd k0 k1 k2 k3 k5 "ValueError.__new__")
 kp:keepIn K (.ref C)=true
section
end
section
end
structure Xi (K:Frag)(C:AE):Prop where
 c:Xc K C
 ha:findIn K (.ref C) "__class__"=some (some (.builtin "object.__class__"))
 hn:specialIn K (.builtin "object.__class__") "__get__"=some (some (.builtin "getset_descriptor.__get__"))
 htk:takesIn K (.builtin "object.__class__")=some true
section
variable {K:Frag}{x C:AE}{ox:Obj}{od:Option Obj}{prog:AH}{w:AJ}{A:AI}{E:Q33}{s:AF}
theorem Znb (i:Xi K C)(KX:K.In s.heap)(I:InstAt s.heap x ox C od)(h:Q (some (.ref C)) { s with toks:=s.toks+1 }):wpAny (model prog w) A (getAttr? (.ref x) "__class__") Q E s:=by
 have c:=i.c;have hf:findObj K C od "__class__"=some (.bind (.builtin "getset_descriptor.__get__") (.builtin "object.__class__")):=by obtain⟨cd,hc,_⟩:=YDV c.hd;unfold findObj;rw[hc,i.ha];simp only[YDA,i.hn,i.htk]
 obtain⟨hp,g,d,t,os⟩:=s;have L0:=I.type (M:=model prog w);have L1:=looks_findIn (M:=model prog w) KX c.ga;have L2:=looks_findIn (M:=model prog w) KX c.gr;have L3:=PySem.W.looks_find (M:=model prog w) KX I hf;have L4:=PySem.W.looks_mroIn (M:=model prog w) KX (c.base (n:="BaseException") (b:=true) (by decide +kernel));have hm:=c.base (n:="object") (b:=true) (by decide +kernel);have hx2:(Value.builtin "BaseException.__getattribute__" == Value.builtin "object.__getattribute__")=false:=by decide +kernel
 have slot:=F.excAttr_ValueError.ga;unfold getAttr? getAttrBy?;refine YAA (wpAny_mkText (YAA (YDE ?_)));unfold getAttrBy;refine YBN (YAA (L0.at (YAA (L1.at ?_))));dsimp only;rw[hx2,YBn,YAJ YAC];unfold getAttrByItsOwn hookBefore;refine YAA ?_;show wpAny _ _ (if onTheHeap (Value.ref C)=true then typeLookup (.ref C) "__getattr__" else pure none) _ _ _;rw[YAM (show onTheHeap (Value.ref C)=true from rfl)];refine L2.at (YAA (YDE (YBN ?_)));unfold callGetattribute;rw[show (false&&onTheHeap (Value.builtin "BaseException.__getattribute__"))=false from rfl,YAJ YAC];unfold boundAndCalled;rw[slot.bind];refine YAA (YAD ?_);show wpAny _ _ (call (.builtin "BaseException.__getattribute__") [.ref x,.str "__class__" t]) _ _ _;refine wpAny_call (codeAny_call_builtin slot.plain ZjD ?_);refine @PySem.W.check_slot (model prog w) _ _ ⟨hp,g,d,t+1,os⟩ "BaseException.__getattribute__" "BaseException" "__getattribute__" (.ref x) [.str "__class__" t] [] _ (by decide +kernel) (by decide +kernel) (L0.andThen L4) (F.args_bexc_ga (.ref x) (.str "__class__" t)) ?_;refine YAA (YAD (YAA (YAD (YAA (L0.at (YAA (L3.at ?_)))))));show wpAny _ _ (holding [.builtin "object.__class__"] (call (.builtin "getset_descriptor.__get__") [.builtin "object.__class__",.ref x,.ref C]) >>= ret) _ _ _;refine YAA (YBN (wpAny_call (PySem.W.class_get (s:=⟨hp,g,d,t+1,os⟩) (ox:=ox) (od:=od) KX I hm (YAD ?_))));exact PySem.W.handed_on rfl (YAD h)
theorem Zhy (i:Xi K C):PySem.W.KitX K (.ref x) (.ref C) (λh=>InstAt h x ox C od) where
 ty:=λ_ _ _ I=>I.type
 it:=λ_ _ KX _=>by
  obtain⟨cd,hc,_⟩:=YDV i.c.hd;unfold clsIn at hc;split at hc
  .rename_i ho
   intro A' Q' E' s' k q;unfold isType loadHead;exact YAA (wpAny_loadPart (k _ _ (KX _ _ ho)) (YAD q))
  .cases hc
 ne:=λh tp dd its n sl KX htp=>by
  obtain⟨cd,hc,_⟩:=YDV i.c.hd;refine YBc.mpr λq=>?_;have e:C=tp:=Value.ref.inj (beq_iff_eq.mp q);subst e;unfold clsIn at hc;split at hc
  .rename_i ho
   have z:=(KX _ _ ho).symm.trans htp;cases z
  .cases hc
 ca:=λKX I k=>Znb i KX I k
end
inductive TyX (K:Frag) (H:Hp):V->Value->Prop where
 | pl {x:V} {t:Value} (h:TyOf K H x t):TyX K H x t
 | seqL {a:AE} {xs:List V} (h:SqL K H a xs):TyX K H (.ref a) (.type "list")
 | seqT {a:AE} {xs:List V} (h:SqT K H a xs):TyX K H (.ref a) (.type "tuple")
 | exc {e C:AE} {fs:List (Str×V)} (x:XAt H e C fs) (i:Xi K C):TyX K H (.ref e) (.ref C)
noncomputable def clsV:V->Option Value
 | .ref a=>some (.ref a)
 | .ty n=>some (.type n)
 | _=>none
theorem Zg0:Zcc X (.builtin "isinstance") (λxs H Q=>∃x c t k b,xs=[x,c]/\clsV c=some k/\TyX X.K H x t/\kitOne X.K t k=some b/\Q (.bl b) H):=by
 rintro Ar s U H xs us Q I r ⟨x,c,t,k,b,rfl,hk,ty,e,q⟩;obtain⟨u,v,rfl,ru,rv⟩:=r.two;have hv:v=k:=by
  cases c with
  | ref a=>cases hk;exact rv
  | ty n=>cases hk;exact rv
  | _=>cases hk
 subst hv;cases ty with
 | pl ty=>exact Zjq I ru ty e λtk=>⟨.bl b,H,I.tok _,rfl,q⟩
 | seqL h=>
  cases ru;obtain⟨its,_,⟨o,n,ho,hc,_⟩,_⟩:=I.list h;exact YBR kitx_list I.kIn ⟨o,ho,hc⟩ e (λz=>nomatch z) λtk=>⟨.bl b,H,I.tok _,rfl,q⟩
 | seqT h=>
  cases ru;obtain⟨its,_,⟨o,ho,hc,_⟩,_⟩:=I.tuple h;exact YBR kitx_tuple I.kIn ⟨o,ho,hc⟩ e (λz=>nomatch z) λtk=>⟨.bl b,H,I.tok _,rfl,q⟩
 | exc x i=>
  cases ru;obtain⟨ox,od,J,_⟩:=x.inst I;exact YBR (Zhy i) I.kIn J e (λz=>nomatch z) λtk=>⟨.bl b,H,I.tok _,rfl,q⟩
def ZlU (K:Frag)(C:AE)(t:TA):TE:=λU H Q=>t U H λvs H1=>vs.length<=1000/\∀e,H1 e=none->Q (.ref e) (upd H1 e (xo e C none))
def Znf (C:AE)(sp:Sp)(E:XK)(t:TA):TE:=λU H Q=>t U H λvs H1=>vs.length<=1000/\∀e,H1 e=none->sp (.ref e::vs) (upd H1 e (xo e C none)) (λv H2=>v=.non/\Q (.ref e) H2) E
section
structure ClsRead (K:Frag)(C:AE)(f:Str)(v:Value):Prop where
 sp:specialIn K (.ref C) "__getattribute__"=some (some (.builtin "type.__getattribute__"))
 rd:readsIn K C (.type "type")=true
 fd:findCls K (.ref C) (.type "type") f=some (.val v)
 hn:handedIn v=true
end
section
theorem Inv.turnedN {t':Nat}{h':Heap}{fp:List AE}(I:Inv X Ar U H s)(k:∀b o,b∉fp->s.heap.get? b=some o->h'.get? b=some o)(hf:∀b∈fp,FpOk X Ar H b):Inv X Ar U H { s with heap:=h',toks:=t' }:=by
 have nit:∀b u,H b=some u->b∉fp:=λb u e z=>by rw[(hf b z).1]at e;cases e
 refine I.step (g':=s.gens) (d':=s.drawn) (ch:=fp) (λb hb=>?_) (λb o _ _ hc e _=>k b o hc e) (λb o _ _ hc e _=>⟨o.slots,k b o hc e⟩) (λ_ _ _ _ n=>n)
  (λb o hc e=>⟨o,k b o hc e⟩) (λ_ _ e=>e) (λ_ _ _ e=>e) (λb ps e=>⟨#[],by rw[e];simp⟩) (λm hm=>?_) (λb u e=>?_) I.bare
 .obtain⟨_,f1,_,f3,f4,f5⟩:=hf b hb;exact⟨f3,f1,f4,f5⟩
 .obtain⟨o,es,ep,ho,r⟩:=hm;exact⟨o,es,ep,k _ o (λz=>(hf _ z).2.1 rfl) ho,r⟩
 .refine(I.hok b u e).stay (λc v hc q=>k c v ?_ q) (λ_ q=>q) λ_ _ q=>q;rcases hc with z | z
  .rw[z];exact nit b u e
  .exact nit c _ z
theorem Inv.track (I:Inv X Ar U H s)(hf:FpOk X Ar H p)(hs:X.s_0.heap.objs.size<=p)(ok:ObjOk X.prog X.w (upd H p o) s.heap p o):Inv X Ar U (upd H p o) s:=by
 obtain⟨f0,f1,f2,f3,f4,f5⟩:=hf;have ne:∀b o',X.s_0.heap.get? b=some o'->b≠p:=λb o' e=>YAe (YAs (YAN e) hs);have nh:∀b u,H b=some u->b≠p:=λb u e=>Zai e f0;refine⟨I.ok,I.os,I.bare,⟨I.base.keep,I.base.slot,λb o' e n hb=>?_,I.base.there,λb xs e=>?_,λb o' u e=>?_,λb ps e=>?_⟩,I.loc,I.cell,?_,λx c e=>?_,λq hq=>?_,λb u e=>?_,I.len⟩
 .rw[Zah (ne b o' e)];exact I.base.free b o' e n hb
 .have:=I.base.tups b xs e;rw[Zah (nh b _ this)];exact this
 .have:=I.base.frzs b o' u e;rw[Zah (nh b _ this)];exact this
 .obtain⟨m,q⟩:=I.base.tbls b ps e;exact⟨m,by rw[Zah (nh b _ q)];exact q⟩
 .rw[Zah (YAk f1)];exact I.free
 .rw[Zah (f4 x c e)];exact I.freeC x c e
 .obtain⟨e,n,r⟩:=I.pin q hq;refine⟨e,?_,r⟩;rw[Zah (f5 q hq)];exact n
 .by_cases hb:b=p
  .subst hb;rw[Zae]at e;cases e;exact ok
  .rw[Zah hb]at e;refine(I.hok b u e).stay (λ_ _ _ q=>q) (λc q=>?_) λc xs q=>?_
   .rw[Zah (nh c _ q)];exact q
   .rw[Zah (nh c _ q)];exact q
end
def Ite (K:Q4)(a:AE):It:=
 ⟨λi H=>∃xs x,SqL K H a xs/\xs[i]?=some x,λi H x H'=>∃p v,H p=none/\x=.ref p/\H'=upd H p (.tup [.int i,v])/\∀xs,SqL K H a xs->xs[i]?=some v,λi H=>∃xs,SqL K H a xs/\xs.length<=i⟩
theorem Zix {P:AH}{w:AJ}{K:Q4}{es:List Expr}{x1:Nat}{tp:Pos}(a e it:AE)(hne:e≠it):Turn P w K (.Tuple es x1 tp) (Ite K a) [e,it] e (λi h=>(∃old,IsEnum h e it (i:Nat) old)/\h.IsListIter it a i) where
 mem:=by simp
 obj:=λi h st b hb=>by
  obtain⟨⟨old,s1⟩,s2⟩:=st;rcases YAH.mp hb with z | z
  .subst z;exact⟨_,s1,λv z=>by have z':Data.fields _=Data.cell v:=z;cases z'⟩
  .have z:b=it:=by simpa using z
   subst z;obtain⟨o,e1,c,d⟩:=s2;exact⟨o,e1,λv z=>by rw[d]at z;cases z⟩
 keep:=λi h h' st k=>by obtain⟨⟨old,s1⟩,s2⟩:=st;exact⟨⟨old,k e (by simp) _ s1⟩,s2.at λo q=>k it (by simp) o q⟩
 item:=by
  intro X hP hw hK hc i Ar s U H E I hf st hg;subst hP hw hK;obtain⟨⟨old,s1⟩,s2⟩:=st;obtain⟨xs,x,hq,hx⟩:=hg;obtain⟨its,rv,p,hz⟩:=I.list hq;obtain⟨u,hu,ru⟩:=rv.get hx;refine wpAny_pyNext_enum_item s1 s2 p.isList (x:=u) (by simpa using hu) hne λh' o1 l1 t1 z1 k1=>?_;refine⟨_,rfl,?_⟩;refine wpAny_letOwnedTupleGo_enum (s:={ s with heap:=h',toks:=s.toks+1 }) o1 λh2 o2 sb=>?_;have hfr:=I.fresh;have hsz:s.heap.objs.size≠e:=λz=>by obtain⟨o,q,_⟩:∃o,s.heap.get? e=some o/\True:=⟨_,s1,trivial⟩;exact absurd (YAN q) (by rw[<-z];exact YBE _)
  have k2:∀b o,b∉[e,it]->s.heap.get? b=some o->h2.get? b=some o:=λb o hb q=>by have hbe:b≠e:=λz=>hb (by simp[z]);have hbi:b≠it:=λz=>hb (by simp[z]);exact(sb.2 b hbe).trans (k1 b o hbe hbi q)
  have I1:Inv X Ar U H { s with heap:=h2,toks:=s.toks+1 }:=I.turnedN (t':=s.toks+1) k2 hf;have t2:h2.get? s.heap.objs.size=some { cls:=.type "tuple",data:=.seq #[.int i s.toks,u] }:=(sb.2 _ hsz).trans t1;have fp:=I.fpOk (H':=H) (YAP _) hfr;refine⟨.ref s.heap.objs.size,upd H s.heap.objs.size (.tup [.int i,x]),I1.track fp I.sz ?_,rfl,⟨_,x,hfr,rfl,rfl,λys hy=>by rw[I.list_inj hy hq];exact hx⟩,⟨⟨u,?_⟩,?_⟩,λb hb=>?_⟩
  .exact⟨by show 2<=sizeLine;rw[sizeLine_eq];decide,[.int i s.toks,u],.cons ⟨_,rfl⟩ (.cons ru .nil),⟨_,t2,rfl,_,rfl⟩⟩
  .have:(((i+1:Nat):Int))=(i:Int)+1:=by lia
   rw[this];exact o2
  .obtain⟨o,q,r⟩:=l1;exact⟨o,(sb.2 it (YAk hne)).trans q,r⟩
  .have hb':=hf b hb;have:b≠s.heap.objs.size:=λz=>by
    rcases YAH.mp hb with q | q
    .exact hsz (z.symm.trans q)
    .have q:b=it:=by simpa using q
     obtain⟨o,q2,_⟩:=s2;exact absurd (YAN q2) (by rw[<-q,z];exact YBE _)
   rw[Zah this];exact hb'.1
 done:=by intro X hP hw hK hc i Ar s U H E I hf st hg;subst hP hw hK;obtain⟨⟨old,s1⟩,s2⟩:=st;obtain⟨xs,hq,hx⟩:=hg;obtain⟨its,rv,p,hz⟩:=I.list hq;have hl:=rv.length;refine wpAny_pyNext_enum_end (I.ok.hd hc) s1 s2 p.isList (by simp;lia) λh' eb=>⟨rfl,I.turnedN (t':=s.toks) (λb o hb q=>eb b o (λz=>hb (by simp[z])) q) hf⟩
 self:=λ_ _ _ _ _ st h=>by obtain⟨⟨old,s1⟩,_⟩:=st;exact wpAny_pyIter_enum s1 h
section
def ZoU (K:Q4)(ta:TA):TI:=λU H R=>ta U H λvs H1=>∃a,vs=[.ref a]/\(∃xs,SqL K H1 a xs)/\R (Ite K a) H1
theorem Zmf (hg:Gl X "enumerate") (hm:X.mg "enumerate"=none) (ha:PA X [l] ta) (hs:starEach [l] X.env=[(false,eval l X.env)]:=by rfl):PI X (.Tuple es x1 tp) (.Call (.Name "enumerate" p) [l] [] pos) (ZoU X.K ta):=by
 intro Ar s U H R I h;refine Call_ (Zdm I hg hm boot_enumerate (YCl (thn (ha pos Ar s U H _ I h) λus s1 zz=>?_) hs rfl));obtain⟨vs,H1,I1,r1,a,ev,⟨xs,hq⟩,q⟩:=zz;subst ev;obtain⟨u,rfl,ru⟩:=r1.one;cases ru;obtain⟨its,rv,p,hz⟩:=I1.list hq;refine call_enumerate_list p.isList λh' e1 l1 z1 k1=>?_;have I2:Inv X Ar U H1 { s1 with heap:=h' }:=I1.kept (t':=s1.toks) k1;refine wpAny_pyIter_enum (s:={ s1 with heap:=h' }) e1 ?_;have h0:(((0:Nat):Int))=0:=rfl;refine⟨s1.heap.objs.size+1,[s1.heap.objs.size+1,s1.heap.objs.size],_,_,H1,rfl,I2,Zix a _ _ (Nat.succ_ne_self _),⟨⟨_,e1⟩,l1⟩,λb hb=>?_,q⟩;have hb':s1.heap.objs.size<=b:=by
  rcases YAH.mp hb with z | z
  .rw[z];exact YCn _
  .have z:b=s1.heap.objs.size:=by simpa using z
   rw[z];exact YAP _
 exact I1.fpOk hb' (I1.hok.fresh hb')
end
theorem ZkS {K:Q4}{a:AE}{xs:List V}{g:TG}{tb:TS}{D:Ends}{U:St}{H:Hp}(Pv:Nat->St->Hp->Prop)(h0:Pv 0 U H)(hl:∀i U H,i<=xs.length->Pv i U H->SqL K H a xs)
  (hs:∀i x p U H,xs[i]?=some x->Pv i U H->H p=none->g (.ref p) U (upd H p (.tup [.int i,x])) λU2 H2=>tb { D with nx:=Pv (i+1),ct:=Pv (i+1),bk:=D.nx } U2 H2) (hd:∀U H,Pv xs.length U H->D.nx U H):
  ∃W:Nat->Nat->St->Hp->Prop,(∃m,W 0 m U H)/\∀i m U H,W i m U H ->
   ((Ite K a).stop i H/\D.nx U H)\/((Ite K a).go i H/\∃N:St->Hp->Prop,(∀U' H',N U' H'->∃m',m'<m/\W (i+1) m' U' H')/\∀x H',(Ite K a).yld i H x H'->g x U H' λU2 H2=>tb { D with nx:=N,ct:=N,bk:=D.nx } U2 H2):=by
 refine⟨λi m U H=>m=xs.length-i/\i<=xs.length/\Pv i U H,⟨xs.length,by simp,YAt _,h0⟩,?_⟩;rintro i m U H ⟨rfl,hi,p⟩;have q:=hl i U H hi p;by_cases A2:i<xs.length
 .refine .inr ⟨⟨xs,xs[i],q,by simp[A2]⟩,Pv (i+1),λU' H' p'=>⟨xs.length-(i+1),by lia,rfl,A2,p'⟩,λx H' y=>?_⟩;obtain⟨pt,v,hn,rfl,rfl,hv⟩:=y;exact hs i v pt U H (hv xs q) p hn
 .have e:i=xs.length:=by lia
  subst e;exact .inl ⟨⟨xs,q,YAP _⟩,hd U H p⟩
section
theorem q_I:rI C g (.int i) (.int j) H Q=(C i j/\Q (g i j) H):=
 propext ⟨λ⟨_,_,e1,e2,h⟩=>by cases e1;cases e2;exact h,λh=>⟨i,j,rfl,rfl,h⟩⟩
theorem q_I0:rI0 g (.int i) (.int j) H Q=Q (g i j) H:=
 propext ⟨λ⟨_,_,e1,e2,h⟩=>by cases e1;cases e2;exact h,λh=>⟨i,j,rfl,rfl,h⟩⟩
theorem q_U:rU g (.int i) H Q=Q (g i) H:=
 propext ⟨λ⟨_,e1,h⟩=>by cases e1;exact h,λh=>⟨i,rfl,h⟩⟩
theorem q_T:rT C g (tx a) (tx b) H Q=(C a b/\Q (g a b) H):=
 propext ⟨λ⟨_,_,e1,e2,h⟩=>by rw[Zel.mp e1,Zel.mp e2];exact h,λh=>⟨a,b,rfl,rfl,h⟩⟩
theorem q_b {b:Bool}{p:Bool->Prop}:(∃k,V.bl b=V.bl k/\p k)=p b:=
 propext ⟨λ⟨_,e,h⟩=>by cases e;exact h,λh=>⟨b,rfl,h⟩⟩
theorem q_var {v:V}{p:V->Prop}:(∃u,some (some v)=some (some u)/\p u)=p v:=
 propext ⟨λ⟨_,e,h⟩=>by cases e;exact h,λh=>⟨v,rfl,h⟩⟩
theorem q_var' {v:V}{p:V->Prop}:(∃u,v=u/\p u)=p v:=
 propext ⟨λ⟨_,e,h⟩=>by cases e;exact h,λh=>⟨v,rfl,h⟩⟩
end
open PySem.W (Frag findIn specialIn typeIn mroIn clsIn subIn kitOne kitCls)
def Zo9 (sc sco:Scope):Bool:=decide (sc.kind=.function)&&sc.names.all λy=>decide (y.2≠NameKind.cell)&&(decide (y.2≠NameKind.local) || decide (sc.names.lookup y.1=some NameKind.local)) &&
 (decide (y.2≠NameKind.free) || (decide (sco.names.lookup y.1=some NameKind.cell) || decide (sco.names.lookup y.1=some NameKind.free)))
theorem Zbk (h:Zo9 sc X.env.scope=true):CmpScope X sc:=by
 unfold Zo9 at h;rw[YAX,YBW]at h;obtain⟨h1,h2⟩:=h;refine⟨of_decide_eq_true h1,λy hy=>?_,λy hy e=>?_,λy hy e=>?_⟩
 .have:=h2 y hy;simp only[YAX,Bool.or_eq_true,decide_eq_true_eq]at this;exact this.1.1
 .have:=h2 y hy;simp only[YAX,Bool.or_eq_true,decide_eq_true_eq]at this;rcases this.1.2 with z | z
  .exact absurd e z
  .exact z
 .have:=h2 y hy;simp only[YAX,Bool.or_eq_true,decide_eq_true_eq]at this;rcases this.2 with z | z | z
  .exact absurd e z
  .exact .inl z
  .exact .inr z
section
variable {K:Frag}{H:Hp}{C D:AE}
structure ClsOk (K:Frag)(C:AE)(mro:AD):Prop where
 cd:∃cd,clsIn K C=some cd/\cd.mro=mro
 ty:typeIn K (.ref C)=some (.type "type")
 ne:mro.isEmpty=false
theorem ZgI (c:ClsOk K C m1)(d:ClsOk K D m2)(h:m1.contains (.ref D)=b)(hh:C=D->b=true):kitOne K (.ref C) (.ref D)=some b:=by
 obtain⟨cd,e1,e2⟩:=c.cd;obtain⟨cd',e3,e4⟩:=d.cd;unfold kitOne;split
 .rename_i z
  have z':Value.ref C=Value.ref D:=by simpa using z
  cases z';rw[hh rfl]
 .unfold PySem.W.kitCls;dsimp only;rw[e3,d.ty];simp only[Option.isSome_some,YCa,beq_self_eq_true,if_true];unfold PySem.W.subIn mroIn;dsimp only;rw[e1,YDA,e2,c.ne,h];rfl
theorem Zat (h:H a=none):Same H (upd H a o):=λb u hb=>by rw[Zah (Zai hb h)];exact hb
end
def Mk0 (C:AE)(H:Hp)(Q:VK):Prop:=∀e,H e=none->Q (.ref e) (upd H e (xo e C none))
def MkI (sp:Sp)(E:XK)(C:AE)(vs:List V)(H:Hp)(Q:VK):Prop:=∀e,H e=none->sp (.ref e::vs) (upd H e (xo e C none)) (λv H2=>v=.non/\Q (.ref e) H2) E
def NewL (xs:List V)(H:Hp)(Q:VK):Prop:=∀p,H p=none->Q (.ref p) (upd H p (.lst xs))
def NewT (xs:List V)(H:Hp)(Q:VK):Prop:=∀p,H p=none->Q (.ref p) (upd H p (.tup xs))
section
variable {K:Frag}{C:AE}{sp:Sp}{E:XK}{t:TA}{U:St}{H:Hp}{Q:VK}{vs:List V}
theorem Zqd:ZlU K C t U H Q=t U H (λvs H1=>vs.length<=1000/\Mk0 C H1 Q):=rfl
theorem Zqc:Znf C sp E t U H Q=t U H (λvs H1=>vs.length<=1000/\MkI sp E C vs H1 Q):=rfl
theorem Zqe:tLst t U H Q=t U H (λxs H1=>xs.length<=sizeLine/\NewL xs H1 Q):=rfl
theorem Zqb:tTup t U H Q=t U H (λxs H1=>xs.length<=sizeLine/\NewT xs H1 Q):=rfl
theorem ZnR:rCat (.ref l) (.ref b) H Q=∃xs zs,H l=some (.lst xs)/\H b=some (.lst zs)/\xs.length+zs.length<=sizeLine/\NewL (xs++zs) H Q:=
 propext ⟨λ⟨_,_,xs,zs,e1,e2,h⟩=>by cases e1;cases e2;exact⟨xs,zs,h⟩,λ⟨xs,zs,h⟩=>⟨l,b,xs,zs,rfl,rfl,h⟩⟩
theorem NewL.of (h:∀p H',Same H H'->H p=none->H' p=some (.lst vs)->Q (.ref p) H'):NewL vs H Q:=λp hp=>h p _ (Zat hp) hp Zae
theorem NewT.of (h:∀p H',Same H H'->H p=none->H' p=some (.tup vs)->Q (.ref p) H'):NewT vs H Q:=λp hp=>h p _ (Zat hp) hp Zae
theorem NewL.at (h:∀p,H p=none->Q (.ref p) (upd H p (.lst vs))):NewL vs H Q:=h
theorem NewT.at (h:∀p,H p=none->Q (.ref p) (upd H p (.tup vs))):NewT vs H Q:=h
theorem ZlK:bootBuiltins "str"=some (.type "str"):=by decide +kernel
theorem ZlL:bootBuiltins "int"=some (.type "int"):=by decide +kernel
theorem Zm0:bootBuiltins "bool"=some (.type "bool"):=by decide +kernel
theorem Zct:bootBuiltins "list"=some (.type "list"):=by decide +kernel
theorem Zk7:bootBuiltins "tuple"=some (.type "tuple"):=by decide +kernel
theorem Zge:bootBuiltins "set"=some (.type "set"):=by decide +kernel
theorem ZaT:bootBuiltins "len"=some (.builtin "len"):=by decide +kernel
theorem ZaV:bootBuiltins "isinstance"=some (.builtin "isinstance"):=by decide +kernel
theorem Zpc:bootBuiltins "all"=some (.builtin "all"):=by decide +kernel
theorem Zpb:bootBuiltins "min"=some (.builtin "min"):=by decide +kernel
theorem Zb2:bootBuiltins "sorted"=some (.builtin "sorted"):=by decide +kernel
end
def Own (K:Frag)(H:Hp)(d:DT)(x:V):Prop:=DatOk K H d x/\deq d d=true/\dep d<=60
theorem SqL.mk {K:Frag}{H:Hp}{a:AE}{xs:List V}(h:H a=some (.lst xs)):SqL K H a xs:=.inl (.inl h)
theorem SqT.mk {K:Frag}{H:Hp}{a:AE}{xs:List V}(h:H a=some (.tup xs)):SqT K H a xs:=.inl (.inl h)
section
variable {X:Cx}{K:Frag}
theorem ZaO (hK:X.K=K)(hu:X.A.units+64<cLine):OpR X (compareOp .Eq) (rEqD K false):=by subst hK;exact Zn1 hu
theorem ZbB (hK:X.K=K)(hu:X.A.units+64<cLine):OpR X (compareOp .NotEq) (rEqD K true):=by subst hK;exact Zn0 hu
theorem ZcZ (hK:X.K=K):IxR X (rIxL K):=by subst hK;exact ZmB
theorem ZaF (hK:X.K=K):IxR X (rIxT K):=by subst hK;exact ZoJ
theorem ZeQ (hK:X.K=K):SlR X (rSlL K):=by subst hK;exact Zl3
theorem Zdc (hK:X.K=K):OpR X (compareOp .In) (rIn K false):=by subst hK;exact ZiY
theorem Zbw (hK:X.K=K):OpR X (compareOp .NotIn) (rIn K true):=by subst hK;exact ZfF
theorem Zau (hK:X.K=K):Zcc X (.builtin "len") (λxs H Q=>∃x n,xs=[x]/\LenV K x H n/\Q (.int n) H):=by subst hK;exact Zk6
theorem Zbx (hK:X.K=K):Zcc X (.type "list") (λxs H Q=>∃p ys,xs=[.ref p]/\(SqL K H p ys\/SqT K H p ys)/\∀l,H l=none->Q (.ref l) (upd H l (.lst ys))):=by subst hK;exact Zgd
theorem Zay (hK:X.K=K)(he:PE X e ta)(hb:attributeBase e f X.env (eval e X.env)=eval e X.env):PE X (.Attribute e f pos) (tFld K ta f):=by subst hK;exact ZnX he hb
theorem ZaU (hK:X.K=K)(hl:PE X l tl):PI X tg l (ZmI K tl):=by subst hK;exact Zme hl
end
theorem cxK {CX:CXT}{P:AH}{w:AJ}{K:Q4}{mg:AC}{base:Heap}{N:AK}{qual:Str}{scope:Scope}{f:AE}{cd:Value}{A:AI}{outer:List Env}{s:AF}{H:Hp}{E:XK}:
  (cxOf CX P w K mg base N qual scope f cd A outer s H E).K=K:=rfl
theorem bxK:(bx X sc N fp s_0 H pn).K=X.K:=rfl
end L2
namespace L2
open PySem PySem.W
def DG (K:Frag)(x:Str)(s:Stmt)(f:AE)(e:AG):Prop:=nsIn K mainGlobals x=some (some (.ref f))/\Fun K x x s f e
def MG (K:Frag)(x q:Str)(s:Stmt)(f:AE)(e:AG):Prop:=Fun K x q s f e/\isFn K (.ref f)=true
structure XG (K:Frag)(x:Str)(C:AE)(L:AD):Prop where
 a:nsIn K mainGlobals x=some (some (.ref C))
 m:Xm K C
 i:Xi K C
 k:ClsOk K C L
theorem dg_mk {K:Frag}{x:Str}{st:Stmt}{f:AE}{oc:Value}{od an:Option AE}{osl:Array (Option Value)}{kV doc pm As ct:Value}(a:nsIn K mainGlobals x=some (some (.ref f)))(l:K.lookup f=some ⟨oc,od,.func (fnOf x x (ZbR st) (ZaL st) (Zaj st) .none kV doc pm an As ct),osl⟩)
  (c:codeIn K As x=true) (k:keepIn K (.ref f)=true):DG K x st f (fnOf x x (ZbR st) (ZaL st) (Zaj st) .none kV doc pm an As ct):=⟨a,ZlB l c k⟩
theorem mg_mk {K:Frag}{x q:Str}{st:Stmt}{f:AE}{oc:Value}{od an:Option AE}{osl:Array (Option Value)}{kV doc pm As ct:Value}(l:K.lookup f=some ⟨oc,od,.func (fnOf x q (ZbR st) (ZaL st) (Zaj st) .none kV doc pm an As ct),osl⟩)
  (c:codeIn K As q=true) (k:keepIn K (.ref f)=true) (n:isFn K (.ref f)=true):MG K x q st f (fnOf x q (ZbR st) (ZaL st) (Zaj st) .none kV doc pm an As ct):=⟨ZlB l c k,n⟩
noncomputable def Zo6:Stmt->List Expr
 | .For _ _ (.Assign _ (.List es _) _::_) _ _=>es
 | _=>[]
noncomputable def Zo5 (es:List Expr):Stmt->Stmt
 | .For g i (.Assign h (.List _ p) q::b) o r=>.For g i (.Assign h (.List es p) q::b) o r
 | s=>s
structure DF (K:Frag)(mg:AC)(x:Str)(st:Stmt)(f:AE)(d:AG)(ps:AK):Prop where
 m:mg x=some (.ref f)
 u:Fun K x x st f d
 b:Binds K d ps []
structure MF (K:Frag)(x q:Str)(st:Stmt)(f:AE)(d:AG)(ps:AK):Prop where
 u:Fun K x q st f d
 b:Binds K d ps []
section
theorem Za6 (X:K.In h)(G:h.Ns mainGlobals mg)(D:DG K x st f d)(b:∀(kV doc pm:Value) (an:Option AE) (As ct:Value) (us:AD),us.length=ps.length->bindArgs (fnOf x x (ZbR st) (ZaL st) (Zaj st) .none kV doc pm an As ct) ⟨us,[]⟩=pure (ps.zip us)):DF K mg x st f d ps:=⟨mg_of X G D.1,D.2,D.2.binds b⟩
theorem Zbm (D:MG K x q st f d)(b:∀(kV doc pm:Value) (an:Option AE) (As ct:Value) (us:AD),us.length=ps.length->bindArgs (fnOf x q (ZbR st) (ZaL st) (Zaj st) .none kV doc pm an As ct) ⟨us,[]⟩=pure (ps.zip us)):MF K x q st f d ps:=⟨D.1,D.1.binds b⟩
end
section
theorem Zal (F:FnOk X.prog X.w X.K X.mg X.base CX k f fd ps sp)(hr:Room k X.A)(hg:Gl X x)(D:DF X.K X.mg x st f fd ps)(hx:Zc7 CX X E)
  (ha:PA X (e::es) t) (hdb:(x == ("__debug__":Str))=false:=by decide) (he:starEach (e::es) X.env=(false,eval e X.env)::starEach es X.env:=by rfl) (hpl:(backTo pos (starEach es X.env)).any (·.1)=false:=by rfl):
  PE X (.Call (.Name x p) (e::es) [] pos) (Zj6 sp [] E t):=Zmi F hr hg D.m D.u.kp D.b .nil hx ha hdb he hpl
theorem hM (hr:Room n A)(h:k<=n:=by decide):Room k A:=hr.mono h
theorem Zam (hN:X.N.Nodup)(he:PE X e te)(hi:X.N[i]?=some x:=by rfl)(hx:Loc X.env.scope x:=by exact Or.inl rfl)(hs:swapsWith e (some (.Name x pos')) pos.line X.env=pure false:=by rfl)(hf:X.fn x=true\/X.env.scope.names.lookup x=some .local:=by first | exact .inl rfl | exact .inr rfl | assumption):PS X (.Assign [.Name x pos'] e pos) (tAsg te (ZcL i)):=Zeq hN hi hx he hs hf
end
end L2
namespace L2
open PySem PySem.Spec PyProof.Rows
open PySem.W (Frag)
def ForRun (J:It)(g:TG)(tb:TS)(D:Ends)(U:St)(H:Hp):Prop:=∃W:Nat->Nat->St->Hp->Prop,(∃m,W 0 m U H)/\∀i m U H,W i m U H ->
 (J.stop i H/\D.nx U H)\/(J.go i H/\∃N:St->Hp->Prop,(∀U' H',N U' H'->∃m',m'<m/\W (i+1) m' U' H')/\∀x H',J.yld i H x H'->g x U H' λU2 H2=>tb { D with nx:=N,ct:=N,bk:=D.nx } U2 H2)
theorem Zqf:tFor wi g tb D U H=wi U H λJ H1=>ForRun J g tb D U H1:=rfl
def CompRun (J:It)(τ0:St)(g:TG)(tt:TT)(te:TE)(H1:Hp)(Q:VK):Prop:=∀acc,H1 acc=none->∃W:Nat->Nat->St->Hp->Prop,(∃m,W 0 m τ0 (upd H1 acc (.lst []))) /\
 ∀i m τ H2,W i m τ H2->(J.stop i H2/\Q (.ref acc) H2)\/(J.go i H2/\∃Nx:St->Hp->Prop,(∀τ' H',Nx τ' H'->∃m',m'<m/\W (i+1) m' τ' H') /\
  ∀x H3,J.yld i H2 x H3->g x τ H3 λτ2 H4=>tt τ2 H4 λb H5=>if b=true then te τ2 H5 λy H6=>∃ys,H6 acc=some (.lst ys)/\ys.length<sizeLine/\Nx τ2 (upd H6 acc (.lst (ys++[y]))) else Nx τ2 H5)
theorem ZnQ:Zl0 ix wi g tt te U H Q=wi U H λJ H1=>CompRun J (pick ix U) g tt te H1 Q:=rfl
section
variable {g:TG}{tb:TS}{D:Ends}{U:St}{H:Hp}{K:Frag}{a:AE}{xs:List V}
theorem ForRun.list (Pv:Nat->St->Hp->Prop)(h0:Pv 0 U H)(hl:∀i U H,i<=xs.length->Pv i U H->SqL K H a xs)
  (hs:∀i x U H,xs[i]?=some x->Pv i U H->g x U H λU2 H2=>tb { D with nx:=Pv (i+1),ct:=Pv (i+1),bk:=D.nx } U2 H2) (hd:∀U H,Pv xs.length U H->D.nx U H):ForRun (Itl K a) g tb D U H:=
 ZkR Pv h0 hl hs hd
theorem ForRun.enum (Pv:Nat->St->Hp->Prop)(h0:Pv 0 U H)(hl:∀i U H,i<=xs.length->Pv i U H->SqL K H a xs)
  (hs:∀i x p U H,xs[i]?=some x->Pv i U H->H p=none->g (.ref p) U (upd H p (.tup [.int i,x])) λU2 H2=>tb { D with nx:=Pv (i+1),ct:=Pv (i+1),bk:=D.nx } U2 H2) (hd:∀U H,Pv xs.length U H->D.nx U H):
  ForRun (Ite K a) g tb D U H:=ZkS Pv h0 hl hs hd
theorem ForRun.range {lo:Int}{n:Nat}(Pv:Nat->St->Hp->Prop)(h0:Pv 0 U H)
  (hs:∀i U H,i<n->Pv i U H->g (.int (lo+i)) U H λU2 H2=>tb { D with nx:=Pv (i+1),ct:=Pv (i+1),bk:=D.nx } U2 H2) (hd:∀U H,Pv n U H->D.nx U H):
  ForRun (Itr lo n) g tb D U H:=ZjB Pv h0 hs hd
theorem ForRun.text (Pv:Nat->St->Hp->Prop)(h0:Pv 0 U H)
  (hs:∀i c U H,l[i]?=some c->Pv i U H->g (tx [c]) U H λU2 H2=>tb { D with nx:=Pv (i+1),ct:=Pv (i+1),bk:=D.nx } U2 H2) (hd:∀U H,Pv l.length U H->D.nx U H):
  ForRun (Its l) g tb D U H:=ZkQ Pv h0 hs hd
end
section
theorem CompRun.gen (v:Nat->V)(b:Nat->Bool)(f:Nat->V)(hz:n<=1000)(hgo:∀i H',i<n->Same H H'->J.go i H')(hst:∀H',Same H H'->J.stop n H')(hy:∀i H' x H3,i<n->Same H H'->J.yld i H' x H3->H3=H'/\x=v i)
  (ht:∀i H' Q',i<n->Same H H'->(∀H'',Same H' H''->Q' (b i) H'')->tt (τ0.set 0 (some (v i))) H' Q')
  (he:∀i H' Q',i<n->b i=true->Same H H'->(∀H'',Same H' H''->Q' (f i) H'')->te (τ0.set 0 (some (v i))) H' Q')
  (hQ:∀p H',Same H H'->H p=none->H' p=some (.lst (((List.range n).filter b).map f))->Q (.ref p) H'):CompRun J τ0 (ZcL 0) tt te H Q:=by
 intro acc ha;refine⟨λi m τ H2=>i<=n/\m=n-i/\(∀w:Option V,τ.set 0 w=τ0.set 0 w)/\Same H H2/\H2 acc=some (.lst (((List.range i).filter b).map f)),⟨n,YAt _,rfl,λ_=>rfl,Zat ha,Zae⟩,?_⟩;rintro i m τ H2 ⟨hi,rfl,hτ,hs,Av⟩;by_cases A2:i<n
 .refine .inr ⟨hgo i H2 A2 hs,λτ' H'=>(∀w:Option V,τ'.set 0 w=τ0.set 0 w)/\Same H H'/\H' acc=some (.lst (((List.range (i+1)).filter b).map f)),λτ' H' q=>⟨n-(i+1),by lia,A2,rfl,q⟩,λx H3 y=>?_⟩;obtain⟨rfl,rfl⟩:=hy i H2 x H3 A2 hs y;show tt (τ.set 0 (some (v i))) _ _;rw[hτ];have hτ':∀w:Option V,(τ0.set 0 (some (v i))).set 0 w=τ0.set 0 w:=λw=>by rw[List.set_set]
  refine ht i _ _ A2 hs λH4 s4=>?_;cases hb:b i with
  | false=>
   rw[YAJ YAC];refine⟨hτ',hs.trans s4,?_⟩;rw[s4 _ _ Av,YBo,YBp];simp[hb]
  | true=>
   rw[YAM rfl];refine he i _ _ A2 hb (hs.trans s4) λH5 s5=>?_;refine⟨_,s5 _ _ (s4 _ _ Av),?_,hτ',?_,?_⟩
   .rw[YAB];have:=YAm b (List.range i);rw[YBM]at this;exact ZdI (by lia)
   .intro c o hc;have:c≠acc:=Zai hc ha;rw[Zah this];exact s5 _ _ (s4 _ _ (hs _ _ hc))
   .rw[Zae,YBo,YBp];simp[hb]
 .have e:i=n:=by lia
  subst e;exact .inl ⟨hst H2 hs,hQ acc H2 hs ha Av⟩
theorem CompRun.range {lo:Int}{n:Nat}(b:Nat->Bool)(f:Nat->V)(hz:n<=1000)
  (ht:∀(i:Nat) H' Q',i<n->Same H H'->(∀H'',Same H' H''->Q' (b i) H'')->tt (τ0.set 0 (some (.int (lo+i)))) H' Q')
  (he:∀(i:Nat) H' Q',i<n->b i=true->Same H H'->(∀H'',Same H' H''->Q' (f i) H'')->te (τ0.set 0 (some (.int (lo+i)))) H' Q')
  (hQ:∀p H',Same H H'->H p=none->H' p=some (.lst (((List.range n).filter b).map f))->Q (.ref p) H'):CompRun (Itr lo n) τ0 (ZcL 0) tt te H Q:=
 .gen (λi=>.int (lo+i)) b f hz (λi _ h _=>h) (λ_ _=>YAP _) (λi H' x H3 _ _ y=>y) ht he hQ
theorem filter_all:((List.range n).filter λ_=>true).map f=(List.range n).map f:=by rw[List.filter_eq_self.mpr (λ_ _=>rfl)]
theorem CompRun.rangeA {lo:Int}{n:Nat}(f:Nat->V)(hz:n<=1000)
  (he:∀(i:Nat) H' Q',i<n->Same H H'->(∀H'',Same H' H''->Q' (f i) H'')->te (τ0.set 0 (some (.int (lo+i)))) H' Q')
  (hQ:∀p H',Same H H'->H p=none->H' p=some (.lst ((List.range n).map f))->Q (.ref p) H'):CompRun (Itr lo n) τ0 (ZcL 0) tAll te H Q:=
 .range (λ_=>true) f hz (λi H' Q' _ _ q=>q H' (Same.refl _)) (λi H' Q' hi _=>he i H' Q' hi) λp H' s n e=>hQ p H' s n (by rw[e,filter_all])
theorem CompRun.text (b:Nat->Bool)(f:Nat->V)(hz:l.length<=1000)
  (ht:∀i H' Q' (h:i<l.length),Same H H'->(∀H'',Same H' H''->Q' (b i) H'')->tt (τ0.set 0 (some (tx [l.getD i 0]))) H' Q')
  (he:∀i H' Q' (h:i<l.length),b i=true->Same H H'->(∀H'',Same H' H''->Q' (f i) H'')->te (τ0.set 0 (some (tx [l.getD i 0]))) H' Q')
  (hQ:∀p H',Same H H'->H p=none->H' p=some (.lst (((List.range l.length).filter b).map f))->Q (.ref p) H'):CompRun (Its l) τ0 (ZcL 0) tt te H Q:=
 .gen (λi=>tx [l.getD i 0]) b f hz (λi _ h _=>h) (λ_ _=>YAP _) (λi H' x H3 _ _ y=>by obtain⟨e,c,hc,rfl⟩:=y;refine⟨e,?_⟩;rw[YAT,hc];rfl) ht he hQ
end
theorem Zb0:∀ {vs:List V},vs.all Zbp=true->deqs (vs.map DT.f) (vs.map DT.f)=true
 | [],_=>by unfold deqs;rfl
 | v::vs,h=>by rw[List.all_cons,YAX]at h;rw[YAi];unfold deqs;rw[Zb0 h.2];unfold deq;rw[ZdD h.1];rfl
theorem ownL {K:Frag}{H:Hp}{a:AE}{vs:List V}(h:SqL K H a vs)(hf:vs.all Zbp=true):Own K H (.l (vs.map DT.f)) (.ref a):=⟨datL h hf,by unfold deq;exact Zb0 hf,by unfold dep;rw[Zb1];decide⟩
theorem ownT {K:Frag}{H:Hp}{a:AE}{vs:List V}(h:SqT K H a vs)(hf:vs.all Zbp=true):Own K H (.t (vs.map DT.f)) (.ref a):=⟨datT h hf,by unfold deq;exact Zb0 hf,by unfold dep;rw[Zb1];decide⟩
theorem Zpj {t:SetTable}{n:Nat}:(t.orStandIn n).led=t.led/\((t.orStandIn n).plain=true->t.plain=true):=by
 unfold SetTable.orStandIn;split
 .exact⟨rfl,id⟩
 .exact⟨rfl,λh=>by cases h⟩
theorem Zne:(layNew t es h x).2.1.led=t.led/\((layNew t es h x).2.1.plain=true->t.plain=true):=by
 unfold layNew;split
 .rename_i slot wd _
  exact Zpj (t:=(t.put slot).1)
 .exact⟨rfl,λh=>by cases h⟩
theorem ZlT {mask finger moves:Nat}{led plain:Bool}{hs:Array Int}{t':SetTable}{order:Array Nat}(e:SetTable.laid mask finger moves led plain hs=some (t',order)):t'.led=led/\t'.plain=plain:=by
 unfold SetTable.laid at e;cases hq:SetTable.layClean mask hs with
 | none=>rw[hq]at e;cases e
 | some ow=>
  rw[hq]at e;have e':=Option.some.inj e;obtain⟨z,_⟩:=Prod.mk.inj e';subst z;exact⟨rfl,rfl⟩
theorem Zj3:(relayAll t es n).2.1.led=t.led/\((relayAll t es n).2.1.plain=true->t.plain=true):=by
 unfold relayAll;split
 .rename_i t' order q
  obtain⟨h1,h2⟩:=ZlT q;dsimp only;split
  .exact⟨h1,λh=>by rw[<-h2];exact h⟩
  .exact⟨rfl,λh=>by cases h⟩
 .exact⟨rfl,λh=>by cases h⟩
def TxSet (P:AH)(w:AJ)(h:Heap)(a:AE)(ls:Q22)(led:Bool):Prop:=
 ∃(o:Obj) (es:Array (Int×Value)) (ep:Nat) (t:SetTable) (ms:Q22),h.get? a=some o/\o.ExactSet/\o.data=.set es ep t/\ElemsOf (ZaB P w) es.toList/\t.fits es.size=true /\
  t.led=led/\(t.plain=true->es.size=0)/\ms.Perm ls/\Vals (ms.map tx) (es.toList.map (·.2))/\es.size<scanBound
theorem TxSet.keep (x:TxSet P w h a ls led)(k:∀o,h.get? a=some o->h'.get? a=some o):TxSet P w h' a ls led:=by obtain⟨o,es,ep,t,ms,h1,r⟩:=x;exact⟨o,es,ep,t,ms,k o h1,r⟩
theorem TxSet.typ {P:AH}{w:AJ}{s:AF}{a:AE}{ls:Q22}{led:Bool}(x:TxSet P w s.heap a ls led):s.TypeIs (.ref a) "set":=by obtain⟨o,es,ep,t,ms,h1,h2,_⟩:=x;exact⟨o,h1,h2.1⟩
noncomputable def addT (ls:Q22)(l:Q11):Q22:=if l∈ls then ls else ls++[l]
theorem ZoN (r:RelV v u)(hv:∃m,v=tx m):ZcY (Sum.inr (⟨l.toArray⟩:Str):Key) u=decide (v=tx l):=by
 obtain⟨m,rfl⟩:=hv;obtain⟨t,rfl⟩:=r;rw[Zcr];simp only[ZcY,Value.isStrOf];by_cases h:m=l
 .subst h;simp
 .have:¬(⟨m.toArray⟩:Str)=⟨l.toArray⟩:=λe=>h (Zel.mp (congrArg V.str e));rw[decide_eq_false h];simp[this]
theorem ZeK {l:Q11}:∀ {ms:Q22} {es:List (Int×Value)},Vals (ms.map tx) (es.map (·.2))->((∃e∈es,ZcY (Sum.inr (⟨l.toArray⟩:Str):Key) e.2=true)↔l∈ms)
 | [],[],_=>by simp
 | [],_::_,r=>by cases r
 | _::_,[],r=>by cases r
 | m::ms,e::es,r=>by
  cases r with
  | cons r1 r2=>
   have ih:=ZeK (l:=l) r2;have q:=ZoN (l:=l) r1 ⟨m,rfl⟩;rw[Zcr]at q;constructor
   .rintro⟨x,hx,hk⟩;rcases YAH.mp hx with z | z
    .subst z;rw[q]at hk;exact YAH.mpr (.inl (of_decide_eq_true hk).symm)
    .exact YAH.mpr (.inr (ih.mp ⟨x,z,hk⟩))
   .intro h;rcases YAH.mp h with z | z
    .exact⟨e,YAd,by rw[q];exact decide_eq_true z.symm⟩
    .obtain⟨x,hx,hk⟩:=ih.mpr z;exact⟨x,YAV _ hx,hk⟩
theorem Zcd (p:us'.Perm us):∀ {ms:Q22},Vals (ms.map tx) us->∃ms':Q22,ms'.Perm ms/\Vals (ms'.map tx) us':=by
 induction p with
 | nil=>intro ms r;exact⟨ms,.refl _,r⟩
 | cons x _ ih=>
  intro ms r;cases ms with
  | nil=>cases r
  | cons m ms=>
   cases r with
   | cons r1 r2=>
    obtain⟨ms',p',r'⟩:=ih r2;exact⟨m::ms',p'.cons _,.cons r1 r'⟩
 | swap x y l=>
  intro ms r
  match ms,r with
  | m1::m2::ms,.cons r1 (.cons r2 r3)=>exact⟨m2::m1::ms,.swap _ _ _,.cons r2 (.cons r1 r3)⟩
 | trans _ _ ih1 ih2=>
  intro ms r;obtain⟨m1,p1,r1⟩:=ih2 r;obtain⟨m2,p2,r2⟩:=ih1 r1;exact⟨m2,p2.trans p1,r2⟩
section
theorem Zhb {g:Bool->Sem Unit}(hg:∀(b:Bool) (s_1:AF) (Q':Unit->AF->Prop),Q' () s_1->wpAny (model prog w) A (g b) Q' E s_1){a:AE}{o:Obj}{es:Array (Int×Value)}{ep:Nat}{t:SetTable}
  (ho:s.heap.get? a=some o) (hd:o.data=.set es ep t) {e1:Array (Int×Value)} {t2:SetTable} (hb:e1.size<scanBound) (hf:t2.fits e1.size=true) {wd:Bool} {R:Option Bool->AF->Prop}
  (h:∀h' e2 t3 ep',Heap.SameBut a s.heap h'->h'.get? a=some { o with data:=.set e2 ep' t3 }->e2.toList.Perm e1.toList->t3.fits e2.size=true->t3.led=t2.led->(t3.plain=true->t2.plain=true)->R (some true) { s with heap:=h' }):
  wpAny (model prog w) A (do
   storeSet a e1 t2
   if (!wd&&t2.tooFull)=true then do
    g (relayAll t2 e1 (SetTable.grown e1.size)).2.2;storeSet a (relayAll t2 e1 (SetTable.grown e1.size)).1 (relayAll t2 e1 (SetTable.grown e1.size)).2.1;pure (some true)
   else pure (some true)) R E s:=by
 have put:∀ {h:Heap} {ob:Obj} {xs ys:Array (Int×Value)} {n:Nat} {t t':SetTable},h.get? a=some ob->ob.data=.set xs n t->(h.update a (Obj.putSet ys t')).get? a=some { ob with data:=.set ys (n+1) t' }:=λ{h ob xs ys n t t'} h1 h2=>by
  have q:=YBz (Obj.putSet ys t') h1 (by rw[putSet_of ys t' h2];rfl)
  rwa [putSet_of ys t' h2]at q
 have hs1:=YAn s.heap a (Obj.putSet e1 t2);have g1:=put (ys:=e1) (t':=t2) ho hd;refine YAA (YCr ho hd ?_ (fits_of_scanBound hb));split
 .have p:=relayAll_perm t2 e1 (SetTable.grown e1.size);have f:=relayAll_fits t2 e1 (SetTable.grown e1.size);have tm:=Zj3 (t:=t2) (es:=e1) (n:=SetTable.grown e1.size);have z:(relayAll t2 e1 (SetTable.grown e1.size)).1.size=e1.size:=by rw[<-YAF,p.length_eq,YAF]
  refine YAA (hg _ _ _ (YAA (YCr g1 rfl (YAD ?_) (fits_of_scanBound (by rw[z];exact hb)))));exact h _ _ _ _ (hs1.trans (YAn _ a _)) (put (ob:={ o with data:=.set e1 (ep+1) t2 }) g1 rfl) p f tm.1 tm.2
 .exact YAD (h _ _ _ _ hs1 g1 (.refl _) hf rfl id)
theorem ZiH (hS:TxSet prog w s.heap a ls led)(hn:ls.length+1<scanBound)
  (h:∀h' b,Heap.SameBut a s.heap h'->TxSet prog w h' a (addT ls l) led->Q b { s with heap:=h' }):
  wpAny (model prog w) A (setAddHashed a (.str ⟨l.toArray⟩ tk) (keyH w (Sum.inr ⟨l.toArray⟩))) Q E s:=by
 obtain⟨o,es,ep,t,ms,ho,hex,hd,hel,hf,hled,hpl,hp,hv,hb⟩:=hS;have hkey:(ZaB prog w).is (Sum.inr (⟨l.toArray⟩:Str)) (.str ⟨l.toArray⟩ tk)=true:=by exact ZcK prog w _ _
 have hsc:(Value.str ⟨l.toArray⟩ tk).scannable=true:=rfl;have Au:es.size=ls.length:=by have q:=hv.length;rw[YAB,YAB]at q;rw[<-YAF,<-q,hp.length_eq]
 have mem:=ZeK (l:=l) hv;have hl:l∈ms↔l∈ls:=hp.mem_iff;unfold setAddHashed setAddHashedIn;refine YBN (YAA (YBG ho hd hf ?_));dsimp only;rw[byScan_of hsc hb hel,YAM rfl];unfold setAddByScan;refine YAA (YAA (YBs (YAA (wpAny_setScan_of (knd:=ZaB prog w) (k:=Sum.inr (⟨l.toArray⟩:Str)) hkey ho hd hf hel ?_))));cases hr:List.findIdx? (λe=>(ZaB prog w).is (Sum.inr (⟨l.toArray⟩:Str)) e.2) es.toList with
 | some j=>
  dsimp only;obtain⟨hj,hpj,_⟩:=List.findIdx?_eq_some_iff_getElem.mp hr;have hin:l∈ls:=hl.mp (mem.mp ⟨es.toList[j],YCE hj,hpj⟩);refine YAD (YAD ?_);have q:=h s.heap false (YCt a s.heap) (by unfold addT;rw[YAM hin];exact⟨o,es,ep,t,ms,ho,hex,hd,hel,hf,hled,hpl,hp,hv,hb⟩)
  exact q
 | none=>
  dsimp only;have hnin:l∉ls:=λz=>by obtain⟨e,he,hk⟩:=mem.mpr (hl.mpr z);have q:=List.findIdx?_eq_none_iff.mp hr e he;rw[show (ZaB prog w).is (Sum.inr (⟨l.toArray⟩:Str)) e.2=true from hk]at q;cases q
  have lp:=layNew_perm t es (keyH w (Sum.inr ⟨l.toArray⟩)) (.str ⟨l.toArray⟩ tk);have lf:=layNew_fits t es (keyH w (Sum.inr ⟨l.toArray⟩)) (.str ⟨l.toArray⟩ tk);have lt:=Zne (t:=t) (es:=es) (h:=keyH w (Sum.inr ⟨l.toArray⟩)) (x:=.str ⟨l.toArray⟩ tk);show wpAny _ A (match layNew t es (keyH w (Sum.inr ⟨l.toArray⟩)) (.str ⟨l.toArray⟩ tk) with | (es,t,wasDummy,gave)=>_) _ _ _;generalize hL:layNew t es (keyH w (Sum.inr ⟨l.toArray⟩)) (.str ⟨l.toArray⟩ tk)=L at lp lf lt ⊢;obtain⟨e1,t1,wd,gave⟩:=L;dsimp only at lp lf lt ⊢;rw[YBd]at lp;have sz1:e1.size=ls.length+1:=by rw[<-YAF,lp.length_eq,YAG,YAF,Au];rfl
  have gw:∀(b:Bool) (s_1:AF) (Q':Unit->AF->Prop),Q' () s_1->wpAny (model prog w) A (match b with | true=>rule "set.scan.the-table-gave-way" | false=>pure ()) Q' E s_1:=
   λb s_1 Q' hq=>by cases b<;>first | exact YAD hq | exact YBs hq
  refine YAA (gw _ _ _ ?_);have fin:∀(t2:SetTable),t2.fits e1.size=true->t2.led=t1.led->t2.plain=false->∀h' e2 t3 ep',Heap.SameBut a s.heap h'->h'.get? a=some { o with data:=.set e2 ep' t3 }->e2.toList.Perm e1.toList->t3.fits e2.size=true->t3.led=t2.led->(t3.plain=true->t2.plain=true)->Q true { s with heap:=h' }:=by
   intro t2 f2 l2 p2 h' e2 t3 ep' sb hg pm f3 l3 p3;refine h h' true sb ?_;have pall:=pm.trans lp;obtain⟨ms',pm',hv'⟩:=Zcd (us:=(es.toList++[(keyH w (Sum.inr ⟨l.toArray⟩),Value.str ⟨l.toArray⟩ tk)]).map (·.2)) (us':=e2.toList.map (·.2)) (pall.map _) (ms:=ms++[l]) (by rw[YAb,YAb];exact hv.append (.cons ⟨tk,rfl⟩ .nil))
   unfold addT;rw[YAJ hnin];refine⟨_,e2,ep',t3,ms',hg,hex,rfl,((hel.push (knd:=ZaB prog w) hkey hsc).perm pall),f3,l3.trans (l2.trans (lt.1.trans hled)),λz=>by rw[p2]at p3;exact absurd (p3 z) YAC,pm'.trans (hp.append_right [l]),hv',?_⟩;rw[<-YAF,pm.length_eq,YAF,sz1];exact hn
  split
  .refine YAA ?_;rw[hashByValue_scannable 8 hsc];refine YAD ?_;refine Zhb gw ho hd (by rw[sz1];exact hn) ?_ λh' e2 t3 ep' q1 q2 q3 q4 q5 q6=>?_
   .exact SetTable.fits_plain_off lf
   .exact YAD (fin _ (SetTable.fits_plain_off lf) rfl rfl h' e2 t3 ep' q1 q2 q3 q4 q5 q6)
  .rename_i hnp
   have hnp':t1.plain=false:=by simpa using hnp
   refine YAA (YAD ?_);rw[YAM rfl];refine Zhb gw ho hd (by rw[sz1];exact hn) lf λh' e2 t3 ep' q1 q2 q3 q4 q5 q6=>YAD (fin _ lf rfl hnp' h' e2 t3 ep' q1 q2 q3 q4 q5 q6)
end
def dd (val:Nat->Q11)(i:Nat):Q22:=((List.range i).map val).foldl addT []
theorem ZgW:dd val (i+1)=addT (dd val i) (val i):=by unfold dd;rw[YBo,YAb,List.foldl_append];rfl
theorem Zla:(addT ls l).length<=ls.length+1:=by
 unfold addT;split
 .lia
 .simp
theorem ZlI {val:Nat->Q11}:∀i,(dd val i).length<=i
 | 0=>YAP _
 | i+1=>by rw[ZgW];have h1:=ZlI (val:=val) i;have h2:=Zla (ls:=dd val i) (l:=val i);lia
theorem Zc3 {val:Nat->Q11}:∀i,(dd val i).Nodup
 | 0=>by simp[dd]
 | i+1=>by
  rw[ZgW];unfold addT;split
  .exact Zc3 i
  .rename_i h
   rw[YBv];refine⟨Zc3 i,by simp,?_⟩;intro a ha b hb e;have:b=val i:=by simpa using hb
   subst e this;exact h ha
section
variable {prog:AH}{w:AJ}{A:AI}{R:Result->AF->Prop}{I:AE}{fp wr:List AE}{G:Array GenState->Array GenState->Prop}{n:Nat}{Pi:Nat->Value->Prop}{St:Nat->AF->Prop}
theorem Zj9 (W:WalksS prog w A.in1 I fp wr G n Pi St)(S:AE)(hSf:S∉fp)(val:Nat->Q11)(hval:∀i v,Pi i v->∃t,v=.str ⟨(val i).toArray⟩ t)(hb:n+1<scanBound){led:Bool}:
  ∀(k i:Nat) (s:AF),n-i=k->i<=n->St i s->TxSet prog w s.heap S (dd val i) led->(∀s',Moved (S::wr) G s s'->TxSet prog w s'.heap S (dd val n) led->R (.ok (.ret .none)) s') ->
   codeAny (model prog w) A (.builtin "set.update.loop" ⟨[.ref S,.ref I],[]⟩) R s:=by
 have nw:S∉wr:=λh=>hSf (W.sub _ h);have up:∀b∈wr,b∈S::wr:=λb hb=>YAV _ hb;intro k;induction k with
 | zero=>
  intro i s hk hi st hS hR;have e:i=n:=by lia
  subst e;refine codeAny_builtin F.entry_set_update_loop ?_;rw[YCH F.plain_set_update_loop _];show wpAny _ A.in1 (pyNext (.ref I) >>= λr=>_) _ _ s;refine YAA (W.done s _ _ st λs' hm=>?_);exact YAD (hR s' (hm.mono up) (hS.keep λo e=>hm.heap S o nw e))
 | succ k ih=>
  intro i s hk hi st hS hR;have A2:i<n:=by lia
  refine codeAny_builtin F.entry_set_update_loop ?_;rw[YCH F.plain_set_update_loop _];show wpAny _ A.in1 (pyNext (.ref I) >>= λr=>_) _ _ s;refine YAA (W.item i s _ _ A2 st λv s1 hP st1 hm=>?_);obtain⟨tk,rfl⟩:=hval i v hP;have hS1:TxSet prog w s1.heap S (dd val i) led:=hS.keep λo e=>hm.heap S o nw e;show wpAny _ A.in1 (holding [Value.str ⟨(val i).toArray⟩ tk] (setAdd S (.str ⟨(val i).toArray⟩ tk)) >>= λ_=>_) _ _ s1;refine YAA (YBN ?_);unfold setAdd;refine YBN (YAA (wpAny_pyHash_str ?_));refine ZiH (s:={ s1 with toks:=s1.toks+1 }) (l:=val i) hS1 (by have:=ZlI (val:=val) i;lia) λh' b sb hS2=>?_;rw[<-ZgW]at hS2;refine YAD ⟨plainId_quiet F.plain_set_update_loop _,ih (i+1) _ (by lia) A2 (W.frame _ s1 _ _ st1 (YCn _) λb hb o e=>(sb.2 b λz=>hSf (z▸hb)).trans e) hS2 λs2 hm2 hS3=>?_⟩;exact hR s2 (Moved.trans W.gtrans ((hm.mono up).then_heap (YCn _) λb o hb e=>(sb.2 b λz=>hb (z▸YAd)).trans e) hm2) hS3
end
theorem ZeL {i:Nat}{u:Value}:∀ {vs:List V} {us:AD} ,Vals vs us->us[i]?=some u->∃v,vs[i]?=some v/\RelV v u:=by
 induction i with
 | zero=>
  intro vs us r e;cases r with
  | nil=>cases e
  | cons r1 _=>cases e;exact⟨_,rfl,r1⟩
 | succ i ih=>
  intro vs us r e;cases r with
  | nil=>cases e
  | cons _ r2=>exact ih r2 e
structure Walked (prog:AH)(w:AJ)(x:Value)(s:AF)(T:String)(n:Nat)(val:Nat->Q11):Prop where
 ty:∀s1:AF,(∀b o,s.heap.get? b=some o->s1.heap.get? b=some o)->s1.TypeIs x T
 go:∀(A:AI) (s1:AF) (Q:Q33) (E:Q33),A.handled=none->(∀b o,s.heap.get? b=some o->s1.heap.get? b=some o) ->
  (∀(h2:Heap) (I:AE) (fp wr:List AE) (Pi:Nat->Value->Prop) (St:Nat->Heap->Prop),(∀A':AI,A'.handled=none->Walks prog w A' I fp wr n Pi St)->St 0 h2 ->
   (∀b∈fp,b<s.heap.objs.size\/s1.heap.objs.size<=b)->(∀b∈wr,s1.heap.objs.size<=b)->(∀b o,s1.heap.get? b=some o->h2.get? b=some o)->(∀i v,Pi i v->∃t,v=.str ⟨(val i).toArray⟩ t)->Q (.ref I) { s1 with heap:=h2 }) ->
  wpAny (model prog w) A (pyIter x) Q E s1
theorem Zgs {prog:AH}{w:AJ}{s:AF}{l:AE}{us:AD}{ls:Q22}(hl:s.heap.IsList l us.toArray)(r:Vals (ls.map tx) us):Walked prog w (.ref l) s "list" ls.length (λi=>ls.getD i []) where
 ty:=λs1 k=>by obtain⟨o,ho,hc,_⟩:=hl;exact⟨o,k _ _ ho,hc⟩
 go:=λA s1 Q E hh k h=>by
  obtain⟨o,ho,hc,hr⟩:=id hl;have hl1:s1.heap.IsList l us.toArray:=⟨o,k _ _ ho,hc,hr⟩;have A2:=YAN ho;have hlt1:=YAN (k _ _ ho);have Au:us.toArray.size=ls.length:=by rw[YAO,<-r.length,YAB]
  refine wpAny_pyIter_list hl1 ?_;have W:∀A':AI,A'.handled=none->Walks prog w A' s1.heap.objs.size [s1.heap.objs.size,l] [s1.heap.objs.size] ls.length (λi v=>us.toArray[i]?=some v) (λi h=>h.IsListIter s1.heap.objs.size l i/\h.IsList l us.toArray):=λA' hA=>by
   have q:=Walks.list (prog:=prog) (w:=w) hA s1.heap.objs.size l (YAe hlt1) us.toArray
   rwa [Au]at q
  refine h _ _ _ _ _ _ W ⟨⟨_,YAY _ rfl,rfl,rfl⟩,hl1.push _⟩ (λb hb=>?_) (λb hb=>?_) (λb o e=>YAE _ e) (λi v e=>?_)
  .rcases YAH.mp hb with z | z
   .exact .inr (YCo z.symm)
   .have z:b=l:=by simpa using z
    rw[z];exact .inl A2
  .have z:b=s1.heap.objs.size:=by simpa using hb
   exact YCo z.symm
  .have e':us[i]?=some v:=by simpa using e
   obtain⟨v',hv',rv⟩:=ZeL r e';rw[YAQ]at hv';cases q:ls[i]? with
   | none=>rw[q]at hv';cases hv'
   | some m=>
    rw[q]at hv';cases hv';obtain⟨t,rfl⟩:=rv;exact⟨t,by rw[YAT,q];rfl⟩
theorem Zgr {prog:AH}{w:AJ}{s:AF}{l:Q11}{t:Tok}:Walked prog w (.str ⟨l.toArray⟩ t) s "str" l.length (λi=>[l.getD i 0]) where
 ty:=λs1 _=>typeIs_str s1 _ _
 go:=λA s1 Q E hh k h=>by
  have Au:(⟨l.toArray⟩:Str).cps.size=l.length:=by show l.toArray.size=_;simp
  have item:∀(i:Nat) (v:Value),(∃c u,(⟨l.toArray⟩:Str).cps[i]?=some c/\v=.str ⟨#[c]⟩ u)->∃t,v=.str ⟨[l.getD i 0].toArray⟩ t:=by
   rintro i v ⟨c,u,e,rfl⟩;have e':l[i]?=some c:=by simpa using e
   exact⟨u,by rw[YAT,e'];rfl⟩
  refine wpAny_pyIter_str λo St W st=>?_;rw[Au]at W;refine h _ _ _ _ _ _ W st (λb hb=>.inr ?_) (λb hb=>?_) (λb o e=>YAE _ e) (λi v ⟨c,u,e,e2⟩=>item i v ⟨c,u,e,e2⟩)
  .have z:b=s1.heap.objs.size:=by simpa using hb
   exact YCo z.symm
  .have z:b=s1.heap.objs.size:=by simpa using hb
   exact YCo z.symm
section
noncomputable abbrev Zcb (led:Bool):Obj:={ cls:=.type "set",dict:=none,data:=.set #[] 0 (.fresh 0 0 led) }
theorem Zfs (ho:h.get? a=some (Zcb led)):TxSet prog w h a [] led:=
 ⟨_,#[],0,_,[],ho,⟨rfl,rfl,rfl⟩,rfl,λe he=>by simp at he,rfl,rfl,λ_=>rfl,.refl _,.nil,by show 0<4096;decide⟩
noncomputable def ZaR (w:AJ):Bool:=w.params.followText "set-order"
theorem Zl5 (a:Value){Q₁:Q33}(h:Q₁ (.ref s.heap.objs.size) { s with heap:=s.heap.push (Zcb (!ZaR w)) }):
  codeAny (model prog w) A (.call (.builtin "set.__new__") ⟨[.type "set",a],[]⟩) (wants Q₁ E) s:=by
 refine codeAny_of_tree ?_;show wpAny _ A.in1 (checkBuiltinCall "set.__new__" ⟨[.type "set",a],[]⟩ >>= λ_=>again (.builtin "set.__new__" ⟨[.type "set",a],[]⟩)) _ _ s;refine YAA (wpAny_of_eq (F.newCall_set_1 a) (YAD ⟨plainId_quiet F.plain_set_new _,codeAny_builtin F.entry_set_new ?_⟩));rw[YCH F.plain_set_new _];unfold Builtin.«set.__new__» Builtin.Frozenset.newClass;have hsub:=sub_set_self;obtain⟨hp,g,d,tk,os⟩:=s;dsimp only
 wp_walk
 refine YBq (YAD ?_);dsimp only;simp only[newObj];exact YAA (wpAny_alloc (YAD (YAD h)))
set_option maxHeartbeats 3200000 in
theorem Zhc (hh:A.handled=none) (W:Walked prog w x s T n val) (t1:isSubtype (.type T) (.type "set")=pure false) (t2:isSubtype (.type T) (.type "frozenset")=pure false)
  (t3:(Value.type T == Value.type "dict")=false) (hb:n+1<scanBound)
  (h:∀(h':Heap) (tk:Nat),TxSet prog w h' s.heap.objs.size (dd val n) (!ZaR w)->(∀b o,s.heap.get? b=some o->h'.get? b=some o)->s.toks<=tk->Q (.ref s.heap.objs.size) { s with heap:=h',toks:=tk }):
  wpAny (model prog w) A (call (.type "set") [x]) Q E s:=by
 obtain⟨c,tl,hmro⟩:=F.called_set.mro;have hmade:=F.called_set.made;have hsub:=F.called_set.sub;refine wpAny_call (codeAny_of_tree ?_);show wpAny _ _ (callAny (.type "set") _) _ _ _;refine YAD ⟨Code.quiet_builtin _ (by decide +kernel),codeAny_builtin F.entry_type_call ?_⟩;rw[Around.under_plain (weight_type_call_type "set" [x] []) rfl];have h1:=F.called_set.notType;have h2:=F.called_set.canCreate;have hct:=F.typeCall_set_1 x;repeat (any_goals (first | assumption | wp_step))
 refine codeAny_mono (Zl5 x (E:=E) (Q₁:=λob s_1=>ob=.ref s.heap.objs.size/\s_1={ s with heap:=s.heap.push (Zcb (!ZaR w)) }) ⟨rfl,rfl⟩) λr s_1 hr=>?_;cases r with
 | error e=>exact hr
 | ok fl=>
  cases fl with
  | ret ob=>
   obtain⟨rfl,rfl⟩:=hr;have hS:(s.heap.push (Zcb (!ZaR w))).get? s.heap.objs.size=some (Zcb (!ZaR w)):=YAY _ rfl;have hT:Shared.TypeIs { s with heap:=s.heap.push (Zcb (!ZaR w)) } (.ref s.heap.objs.size) "set":=⟨_,hS,rfl⟩;have hli:=F.called_set.init.lookup;have hbi:=F.called_set.init.bind (.ref s.heap.objs.size);have keep1:∀b o,s.heap.get? b=some o->(s.heap.push (Zcb (!ZaR w))).get? b=some o:=λb o e=>YAE _ e;repeat (any_goals (first | assumption | wp_step))
   refine codeAny_mono (codeAny_call_builtin (R:=wants (λr s_2=>r=.none/\∃h' tk,s_2={ s with heap:=h',toks:=tk }/\TxSet prog w h' s.heap.objs.size (dd val n) (!ZaR w)/\(∀b o,s.heap.get? b=some o->h'.get? b=some o)/\s.toks<=tk) E)
    F.called_set.init.plain F.entry_set_init (check_set_init_1 hT ?_)) λr9 s_2 hr9=>?_
   .have hTx:=W.ty { s with heap:=s.heap.push (Zcb (!ZaR w)) } keep1;unfold Builtin.«set.__init__» noKeywords Builtin.Frozenset.updateFrom;generalize hPI:pyIter=PI
    wp_walk
    subst hPI;refine W.go _ _ _ _ (by simp[hh]) keep1 λh2 I fp wr Pi St Wk st f1 f2 k2 hval=>?_;refine YAA (wpAny_runValue ?_);have hSf:s.heap.objs.size∉fp:=λz=>by
     rcases f1 _ z with q | q
     .exact YBE _ q
     .rw[YBm]at q;exact absurd q (Nat.not_succ_le_self _)
    refine Zj9 ((Wk A.in1.in1.in1 (by simp[hh])).toS) s.heap.objs.size hSf val hval hb (n-0) 0 _ (by lia) (YAt _) st (Zfs (k2 _ _ hS)) λs' hm hS'=>?_;obtain⟨h',g',d',tk',os'⟩:=s';have eg:g'=s.gens:=hm.gens;have ed:d'=s.drawn:=hm.drawn;have eo:os'=s.os:=hm.os;have et:s.toks<=tk':=hm.toks;subst eg ed eo;refine YAD ?_;refine YAD ⟨rfl,h',tk',rfl,hS',λb o e=>?_,et⟩;have A2:=YAN e;refine hm.heap b o (λz=>?_) (k2 b o (keep1 b o e));rcases YAH.mp z with q | q
    .rw[q]at A2;exact YBE _ A2
    .have q2:=f2 b q;rw[YBm]at q2;exact absurd (YAs A2 (Nat.le_of_succ_le q2)) (YBE _)
   .cases r9 with
    | error e=>exact hr9
    | ok fl9=>
     cases fl9 with
     | ret r=>
      obtain⟨rfl,h',tk,rfl,hS',hk',htk⟩:=hr9;repeat (any_goals (first | assumption | wp_step))
      exact h _ _ hS' hk' htk
     | _=>exact hr9.elim
  | _=>exact hr.elim
end
theorem ZcA {α:Type}:∀(xs:List α) (i:Nat) (h:i<xs.length),(xs[i]::xs.eraseIdx i).Perm xs
 | x::xs,0,_=>.refl _
 | x::xs,i+1,h=>by
  have hi:i<xs.length:=by simpa using h
  have ih:=ZcA xs i hi;show (xs[i]::x::xs.eraseIdx i).Perm (x::xs);exact(List.Perm.swap _ _ _).trans (ih.cons x)
section
theorem wp_choose' (hn:n≠0)(h:∀i d,i<n->Q i { s with drawn:=d }):wpAny M A (choose src n) Q E s:=λΓ p hΓ=>by unfold choose;rw[Sem.wp_choose];exact⟨hn,h _ _ (Nat.mod_lt _ (Nat.pos_of_ne_zero hn))⟩
theorem Zdi {α:Type}:∀(n:Nat) (xs:List α) (s:AF) (Q:List α->AF->Prop),xs.length=n->(∀ys d,ys.Perm xs->Q ys { s with drawn:=d })->wpAny M A (drawOrder n xs) Q E s
 | 0,xs,s,Q,hl,h=>by
  have e:xs=[]:=YDX hl;subst e;unfold drawOrder;exact YAD (h [] s.drawn (.refl _))
 | n+1,[],s,Q,hl,h=>by cases hl
 | n+1,x::xs,s,Q,hl,h=>by
  unfold drawOrder;refine YAA (wp_choose' (by simp) λi d hi=>?_);have e:(x::xs)[i]?=some (x::xs)[i]:=YAL hi;rw[e];dsimp only;refine YAA (Zdi n ((x::xs).eraseIdx i) _ _ ?_ λys d' p=>YAD ?_)
  .rw[YCM hi,hl];rfl
  .refine h _ d' ((List.Perm.cons _ p).trans ?_);exact ZcA _ _ hi
end
theorem Zeh:entryFor table "set.__iter__"=some Builtin.«frozenset.__iter__»:=entryFor_alias (id':="frozenset.__iter__") (by kernel_rfl) rfl (by decide +kernel) (by kernel_rfl)
theorem ZaJ:Slot "set_iterator" "__next__" "set_iterator.__next__":=
 .of (owner:="set_iterator") (n:="__next__") (by rw[typeLookup_type,builtinLookup_eq_fast];kernel_rfl) (by decide +kernel) (by decide +kernel) (by decide +kernel)
  (by first | exact .inl (by decide +kernel) | exact .inr (by decide +kernel)) (by rw[isSubtype_type];kernel_rfl)
theorem ZbQ:entryFor table "set_iterator.__next__"=some Builtin.«set_iterator.__next__»:=entryFor_of_fast (by kernel_rfl)
theorem Zb3 (a:Value):argsOk "set_iterator.__next__" ⟨[a],[]⟩:=by unfold argsOk;kernel_rfl
section
def SetIt (h:Heap)(I S:AE)(first:Value)(i n ep:Nat):Prop:=∃o,h.get? I=some o/\o.cls=.type "set_iterator"/\o.data=.fields #[first,.int i 0,.ref S,.int n 0,.int ep 0]
theorem ZmQ {t:SetTable}{n:Nat}(hf:t.fits n=true):(t.place.size != n || decide (t.fill>t.mask))=false:=by simp only[SetTable.fits,YAX,beq_iff_eq,decide_eq_true_eq]at hf;simp[hf.1,Nat.not_lt.mpr hf.2]
theorem ZkJ (ho:s.heap.get? S=some o)(hex:o.ExactSet)(hd:o.data=.set es ep t)(hf:t.fits es.size=true)(hz:es.size<=sizeLine)
  (h0:(ZaR w=true\/(t.plain=true\/es.size<=1))->Q (.ref s.heap.objs.size) { s with heap:=s.heap.push { cls:=.type "set_iterator",data:=.fields #[.int 0 0,.int 0 0,.ref S,.int es.size 0,.int ep 0] } })
  (h1:∀(ps:Q11) (d:Drawn),ps.Perm (List.range es.size)->Q (.ref (s.heap.objs.size+1)) { s with drawn:=d,heap:=(Heap.push s.heap { cls:=.type "tuple",data:=.seq (ps.map (λi=>Value.int ((i:Nat):Int) 0)).toArray }).push { cls:=.type "set_iterator",data:=.fields #[.ref s.heap.objs.size,.int 0 0,.ref S,.int es.size 0,.int ep 0] } }):wpAny (model prog w) A (pyIter (.ref S)) Q E s:=by
 have hT:s.TypeIs (.ref S) "set":=⟨o,ho,hex.1⟩;refine wpAny_pyIter_slot hT F.slot_set_iter (YCc F.slot_set_iter hT Zeh ?_ (F.args_set_iter_1 _));unfold Builtin.«frozenset.__iter__» Builtin.Frozenset.sizeOf setDrawn setsByText
 wp_walk
 rw[hd];dsimp only;rw[ZmQ hf];rw[YAJ YAC];refine YAD (YAD (YAD ?_));refine YAA (YAA (YBG ho hd hf ?_));dsimp only;refine YAA (YAA (YBq (YAD (YAD ?_))));show wpAny _ _ (if (!ZaR w&&(!t.plain&&decide (es.size>1)))=true then _ else _) _ _ _;split
 .refine YAA (Zdi es.size (List.range es.size) _ _ (by simp) λps d p=>?_);refine YAA ?_;simp only[newTuple];refine YBt ?_ (by show (List.map _ ps).toArray.size<=sizeLine;rw[YAO,YAB,p.length_eq,YBM];exact hz);refine YAA (YDM (YAE _ ho) hd hf (YAA (YBt (YAD ⟨_,rfl,"set_iterator",_,⟨_,YAY _ rfl,rfl⟩,ZaJ.lookup,?_⟩))));have q:=h1 ps d p;rw[YBm];exact q
 .rename_i hb
  refine YAA (YAD ?_);refine YAA (YDM ho hd hf (YAA (YBt (YAD ⟨_,rfl,"set_iterator",_,⟨_,YAY _ rfl,rfl⟩,ZaJ.lookup,h0 ?_⟩))));cases h:ZaR w with
  | true=>exact .inl rfl
  | false=>
   refine .inr ?_;cases h':t.plain with
   | true=>exact .inl rfl
   | false=>
    rw[h,h']at hb;simp at hb;exact .inr hb
end
section
variable {prog:AH}{w:AJ}{A:AI}{E:Q33}{s:AF}{I S:AE}{o:Obj}{es:Array (Int×Value)}{ep i n:Nat}{t:SetTable}
theorem SetIt.typ (h:SetIt s.heap I S first i n ep):s.TypeIs (.ref I) "set_iterator":=let ⟨o,h1,h2,_⟩:=h;⟨o,h1,h2⟩
noncomputable abbrev Zpa (I S:AE)(slot i ep:Nat):Sem PySem.Fin:=do
 match <-setNext S slot i ep with
 | some (x,next)=>do
  setField (.ref I) 0 (rawInt (next:Nat))
  setField (.ref I) 1 (rawInt ((i:Int)+1))
  ret x
 | none=>do
  setField (.ref I) 2 Value.none
  raiseNew (<-newExc (Value.type "StopIteration") [])
noncomputable abbrev ZmZ (I S:AE)(first:Value)(i ep:Nat):Sem PySem.Fin:=do
 match <-seqItems? first with
 | some places=>match places[i]? with
  | some (.int place _)=>do
   let x <-setNextDrawn S place.toNat ep
   setField (.ref I) 1 (rawInt ((i:Int)+1))
   ret x
  | some _=>unsupported "internal:set_iterator"
  | none=>do
   setField (.ref I) 0 (rawInt 0)
   setField (.ref I) 2 Value.none
   raiseNew (<-newExc (Value.type "StopIteration") [])
 | _=>unsupported "internal:set_iterator"
abbrev NxQ (prog:AH)(w:AJ)(A:AI)(Q:Option Value->AF->Prop)(E:Q33)(fin:PySem.Fin)(s':AF):Prop:=∃v,fin=Fin.done (Flow.ret v)/\Q (some v) s'
abbrev NxE (prog:AH)(w:AJ)(A:AI)(Q:Option Value->AF->Prop)(E:Q33)(e:Value)(s':AF):Prop:=
 wpAny (model prog w) A (do let b <-isInstance e (Value.type "StopIteration");if b=true then pure none else throw e) Q E s'
theorem ZcS (hi:SetIt s.heap I S (.int (slot:Nat) 0) i es.size ep)(ho:s.heap.get? S=some o)(hd:o.data=.set es ep t)(hf:t.fits es.size=true)
  (h:wpAny (model prog w) A.in1 (Zpa I S slot i ep) (NxQ prog w A Q E) (NxE prog w A Q E) s):wpAny (model prog w) A (pyNext (.ref I)) Q E s:=by
 obtain⟨oi,hoi,hci,hdi⟩:=id hi;unfold pyNext;refine YAA (YDE (wpAny_callSpecial?_slot (name:=Str.ofString "__next__") hi.typ ZaJ (YCc ZaJ hi.typ ZbQ ?_ (Zb3 _))));unfold Builtin.«set_iterator.__next__»
 wp_walk
 rw[hdi];dsimp only;refine YAD ?_;dsimp only;refine YAA (wpAny_setEntries_of ho hd hf ?_)
 (try dsimp only)
 rw[YAJ (by simp)];refine YBZ h (λfin s' q=>?_) λe s' q=>q;obtain⟨v,rfl,q⟩:=q;exact⟨v,rfl,YAD q⟩
theorem Zet (hi:SetIt s.heap I S (.ref tp) i es.size ep)(ho:s.heap.get? S=some o)(hd:o.data=.set es ep t)(hf:t.fits es.size=true)
  (h:wpAny (model prog w) A.in1 (ZmZ I S (.ref tp) i ep) (NxQ prog w A Q E) (NxE prog w A Q E) s):wpAny (model prog w) A (pyNext (.ref I)) Q E s:=by
 obtain⟨oi,hoi,hci,hdi⟩:=id hi;unfold pyNext;refine YAA (YDE (wpAny_callSpecial?_slot (name:=Str.ofString "__next__") hi.typ ZaJ (YCc ZaJ hi.typ ZbQ ?_ (Zb3 _))));unfold Builtin.«set_iterator.__next__»
 wp_walk
 rw[hdi];dsimp only;refine YAD ?_;dsimp only;refine YAA (wpAny_setEntries_of ho hd hf ?_)
 (try dsimp only)
 rw[YAJ (by simp)];refine YBZ h (λfin s' q=>?_) λe s' q=>q;obtain⟨v,rfl,q⟩:=q;exact⟨v,rfl,YAD q⟩
theorem Zgy (hh:A.handled=none)(hQ:∀h',(∀b o,s.heap.get? b=some o->h'.get? b=some o)->Q none { s with heap:=h' }):
  wpAny (model prog w) A.in1 (do raiseNew (<-newExc (Value.type "StopIteration") [])) (NxQ prog w A Q E) (NxE prog w A Q E) s:=by
 refine YAA ?_;simp only[newExc,newTuple];refine YAA (YBt ?_ (by size_fits));refine YAA (m:=firstArgMember _ _) (wpAny_of_eq (a:=Value.none) (by first | rfl | (simp only[firstArgMember];rfl)) ?_);refine YBt ?_ (by size_fits);simp only[raiseNew];refine YAA (wpAny_handled ?_);rw[show A.in1.handled=none from hh];refine YAA (YAD (wpAny_throw ?_));refine YAA (YDU (T:="StopIteration") (b:=true) ⟨_,YAY _ rfl,rfl⟩ isSubtype_stop ?_);exact YAD (hQ _ λb o e=>YAE _ (YAE _ e))
theorem Zew {h:Heap} {v:Value} {k:Nat} {oi:Obj} {vs:Array Value} (hoi:h.get? I=some oi) (hci:oi.cls=.type "set_iterator") (hdi:oi.data=.fields vs):
  ∃o',(h.update I (Obj.mapFields (·.setIfInBounds k v))).get? I=some o'/\o'.cls=.type "set_iterator"/\o'.data=.fields (vs.setIfInBounds k v):=
 ⟨_,YBz _ hoi (Obj.isFreed_of_fields (Obj.data_mapFields hdi _)),(Obj.cls_mapFields ..).trans hci,Obj.data_mapFields hdi _⟩
theorem ZdJ (ho:s.heap.get? S=some o)(hd:o.data=.set es ep t)(hf:t.fits es.size=true)(hb:ZaR w=true)
  (h:Q (((pickOrder (w.params.setOrder S ep) es)[i]?).map λe=>(e.2,slot)) s):wpAny (model prog w) A (setNext S slot i ep) Q E s:=by
 unfold setNext;refine YAA (YBG ho hd hf ?_);dsimp only;unfold setsByText;refine YAA (YAA (YBq (YAD ?_)));show wpAny _ _ (if ZaR w=true then _ else _) _ _ _;rw[hb,YAM rfl,YAJ (by simp)];unfold setWalk;refine YAA (YAA (YBG ho hd hf ?_));dsimp only;unfold setsByText;refine YAA (YAA (YBq (YAD ?_)));show wpAny _ _ (if ZaR w=true then _ else _) _ _ _;rw[hb,YAM rfl];exact YAA (YBq (YAD (YAD h)))
theorem ZdK (ho:s.heap.get? S=some o)(hd:o.data=.set es ep t)(hf:t.fits es.size=true)(hb:ZaR w=false)(hl:t.led=true)(h1:es.size<=1)
  (h:Q (match es[SetTable.below t.place slot]?,t.place[SetTable.below t.place slot]? with | some (_,x),some j=>some (x,j+1) | _,_=>none) s):wpAny (model prog w) A (setNext S slot i ep) Q E s:=by
 unfold setNext;refine YAA (YBG ho hd hf ?_);dsimp only;unfold setsByText;refine YAA (YAA (YBq (YAD ?_)));show wpAny _ _ (if ZaR w=true then _ else (if (!t.plain&&decide (es.size>1))=true then _ else _)) _ _ _;have hn:¬es.size>1:=by lia
 rw[hb,YAJ YAC,decide_eq_false hn,YBn,YAJ YAC];show wpAny _ _ ((if (!t.led&&!es.isEmpty)=true then (do let _ <-(unsupported "set:maker-not-led":Sem Unit);pure ()) else pure ()) >>= λ_=>_) _ _ _;rw[hl,YCb,YBi,YAJ YAC];exact YAA (YAD (YAD h))
end
theorem ZfB {α:Type}{next:Nat->Nat}:∀(A0 k:Nat) (left:List α) (out:Array α),left.length=A0->(pickOrder.go next A0 k left out).toList.Perm (out.toList++left)
 | 0,k,left,out,h=>by
  have e:left=[]:=YDX h;subst e;unfold pickOrder.go;simp
 | A0+1,k,left,out,h=>by
  have A2:next k % left.length<left.length:=Nat.mod_lt _ (by lia)
  unfold pickOrder.go;rw[YAL A2];dsimp only;refine(ZfB A0 (k+1) _ _ (by rw[YCM A2,h];rfl)).trans ?_;rw[YBd,YAj];exact(ZcA left _ A2).append_left _
theorem Zbq:(pickOrder next xs).toList.Perm xs.toList:=by unfold pickOrder;have:=ZfB (next:=next) xs.size 0 xs.toList #[] (by simp);simpa using this
theorem ZbU:Slot "set_iterator" "__iter__" "set_iterator.__iter__":=
 .of (owner:="set_iterator") (n:="__iter__") (by rw[typeLookup_type,builtinLookup_eq_fast];kernel_rfl) (by decide +kernel) (by decide +kernel) (by decide +kernel) (by first | exact .inl (by decide +kernel) | exact .inr (by decide +kernel)) (by rw[isSubtype_type];kernel_rfl)
theorem Zc1:entryFor table "set_iterator.__iter__"=some Builtin.«dict_keyiterator.__iter__»:=entryFor_alias (id':="dict_keyiterator.__iter__") (by kernel_rfl) rfl (by decide +kernel) (by kernel_rfl)
theorem Zdh (a:Value):argsOk "set_iterator.__iter__" ⟨[a],[]⟩:=by unfold argsOk;kernel_rfl
section
theorem Zd1 (hi:SetIt s.heap I S first i n ep)(h:Q (.ref I) s):wpAny (model prog w) A (pyIter (.ref I)) Q E s:=by refine wpAny_pyIter_slot hi.typ ZbU (YCc ZbU hi.typ Zc1 ?_ (Zdh _));show wpAny _ _ (ret (.ref I)) _ _ s;exact YAD ⟨_,rfl,"set_iterator",_,hi.typ,ZaJ.lookup,h⟩
theorem Zcz (sb:Heap.SameBut I h h')(hne:S≠I)(ho:h.get? S=some o):h'.get? S=some o:=(sb.2 S hne).trans ho
theorem Zis (hh:A.handled=none)(hne:S≠I)(hd:o.data=.set es ep t)(hf:t.fits es.size=true)(hb:ZaR w=true):
  Walks prog w A I [I,S] [I] es.size (λi v=>(((pickOrder (w.params.setOrder S ep) es).toList).map (·.2))[i]?=some v) (λi h=>SetIt h I S (.int ((0:Nat):Int) 0) i es.size ep/\h.get? S=some o) where
 sub:=λb hb=>by simp at hb;simp[hb]
 frame:=λi h h' ⟨⟨oi,h1,r⟩,h2⟩ hk=>⟨⟨oi,hk I (by simp) _ h1,r⟩,hk S (by simp) _ h2⟩
 item:=λi s Q E hi ⟨st,ho⟩ hQ=>by
  have hl:(pickOrder (w.params.setOrder S ep) es).size=es.size:=by rw[<-YAF,Zbq.length_eq,YAF]
  have he:(pickOrder (w.params.setOrder S ep) es)[i]?=some (pickOrder (w.params.setOrder S ep) es)[i]:=by simp[hl,hi]
  refine ZcS st ho hd hf (YAA (ZdJ ho hd hf hb ?_));rw[he];dsimp only[Option.map_some];obtain⟨oi,g1,g2,g3⟩:=id st;refine YAA (YCS g1 g3 (by simp) ?_);obtain⟨o1,k1,k2,k3⟩:=Zew (v:=rawInt ((0:Nat):Int)) (k:=0) g1 g2 g3;refine YAA (YCS k1 k3 (by simp) ?_);obtain⟨o2,m1,m2,m3⟩:=Zew (v:=rawInt ((i:Int)+1)) (k:=1) k1 k2 k3;have sb:=(YAn s.heap I (Obj.mapFields (·.setIfInBounds 0 (rawInt ((0:Nat):Int))))).trans (YAn _ I (Obj.mapFields (·.setIfInBounds 1 (rawInt ((i:Int)+1)))));refine YAD ⟨_,rfl,hQ _ _ s.toks ?_ ⟨⟨o2,m1,m2,?_⟩,Zcz sb hne ho⟩ λb o hb e=>(sb.2 b (by simpa using hb)).trans e⟩
  .rw[YAQ,YAr,he];rfl
  .rw[m3];simp[rawInt]
 done:=λs Q E ⟨st,ho⟩ hQ=>by
  have hl:(pickOrder (w.params.setOrder S ep) es).size=es.size:=by rw[<-YAF,Zbq.length_eq,YAF]
  have he:(pickOrder (w.params.setOrder S ep) es)[es.size]?=none:=by simp[hl]
  refine ZcS st ho hd hf (YAA (ZdJ ho hd hf hb ?_));rw[he];dsimp only[Option.map_none];obtain⟨oi,g1,g2,g3⟩:=id st;refine YAA (YCS g1 g3 (by simp) ?_);have sb:=YAn s.heap I (Obj.mapFields (·.setIfInBounds 2 Value.none));exact Zgy (A:=A) hh λh' k=>hQ h' s.toks λb o hb e=>k b o ((sb.2 b (by simpa using hb)).trans e)
 self:=λi s Q E ⟨st,_⟩ hQ=>Zd1 st hQ
noncomputable def Zdd (t:SetTable)(i:Nat):Nat:=if i=0 then 0 else t.place.getD 0 0+1
theorem Ziq:SetTable.below xs 0=0:=by
 unfold SetTable.below;have all:∀A0 hi,SetTable.below.go xs 0 A0 0 hi=0:=by
  intro A0;induction A0 with
  | zero=>intro hi;unfold SetTable.below.go;rfl
  | succ f ih=>
   intro hi;unfold SetTable.below.go;split
   .rw[YAJ (Nat.not_lt_zero _)];exact ih _
   .rfl
 exact all _ _
theorem ZjW:SetTable.below #[j] (j+1)=1:=by unfold SetTable.below;show SetTable.below.go #[j] (j+1) 1 0 1=1;unfold SetTable.below.go;simp[SetTable.below.go]
theorem Zn2 (h:xs.size=1):∃j,xs=#[j]:=by
 obtain⟨l⟩:=xs
 match l,h with
 | [j],_=>exact⟨j,rfl⟩
theorem Zit (hh:A.handled=none)(hne:S≠I)(hd:o.data=.set es ep t)(hf:t.fits es.size=true)(hb:ZaR w=false)(hl:t.led=true)(h1:es.size<=1):
  Walks prog w A I [I,S] [I] es.size (λi v=>(es.toList.map (·.2))[i]?=some v) (λi h=>SetIt h I S (.int ((Zdd t i:Nat):Int) 0) i es.size ep/\h.get? S=some o) where
 sub:=λb hb=>by simp at hb;simp[hb]
 frame:=λi h h' ⟨⟨oi,h1,r⟩,h2⟩ hk=>⟨⟨oi,hk I (by simp) _ h1,r⟩,hk S (by simp) _ h2⟩
 item:=λi s Q E hi ⟨st,ho⟩ hQ=>by
  have i0:i=0:=by lia
  subst i0;have ps:t.place.size=es.size:=by have:=hf;simp only[SetTable.fits,YAX,beq_iff_eq]at this;exact this.1
  have he:es[0]?=some es[0]:=by simp[hi]
  have hp:t.place[0]?=some (t.place.getD 0 0):=by
   have:0<t.place.size:=by lia
   simp[this]
  refine ZcS st ho hd hf (YAA (ZdK ho hd hf hb hl h1 ?_));rw[show Zdd t 0=0 from rfl,Ziq,he,hp];dsimp only;obtain⟨oi,g1,g2,g3⟩:=id st;refine YAA (YCS g1 g3 (by simp) ?_);obtain⟨o1,k1,k2,k3⟩:=Zew (v:=rawInt ((t.place.getD 0 0+1:Nat):Int)) (k:=0) g1 g2 g3;refine YAA (YCS k1 k3 (by simp) ?_);obtain⟨o2,m1,m2,m3⟩:=Zew (v:=rawInt (((0:Nat):Int)+1)) (k:=1) k1 k2 k3;have sb:=(YAn s.heap I (Obj.mapFields (·.setIfInBounds 0 (rawInt ((t.place.getD 0 0+1:Nat):Int))))).trans (YAn _ I (Obj.mapFields (·.setIfInBounds 1 (rawInt (((0:Nat):Int)+1)))));refine YAD ⟨_,rfl,hQ _ _ s.toks ?_ ⟨⟨o2,m1,m2,?_⟩,Zcz sb hne ho⟩ λb o hb e=>(sb.2 b (by simpa using hb)).trans e⟩
  .rw[YAQ,YAr,he];rfl
  .rw[m3];simp[rawInt,Zdd]
 done:=λs Q E ⟨st,ho⟩ hQ=>by
  have ps:t.place.size=es.size:=by have:=hf;simp only[SetTable.fits,YAX,beq_iff_eq]at this;exact this.1
  have hn:es[SetTable.below t.place (Zdd t es.size)]?=none:=by
   have hz:es.size=0\/es.size=1:=by lia
   rcases hz with z | z
   .simp[z]
   .have e1:∃j,t.place=#[j]:=by
     have:t.place.size=1:=by lia
     exact Zn2 this
    obtain⟨j,ej⟩:=e1;have:Zdd t es.size=j+1:=by unfold Zdd;rw[YAJ (by lia),ej];rfl
    rw[this,ej,ZjW];simp[z]
  refine ZcS st ho hd hf (YAA (ZdK ho hd hf hb hl h1 ?_));rw[hn];dsimp only;obtain⟨oi,g1,g2,g3⟩:=id st;refine YAA (YCS g1 g3 (by simp) ?_);have sb:=YAn s.heap I (Obj.mapFields (·.setIfInBounds 2 Value.none));exact Zgy (A:=A) hh λh' k=>hQ h' s.toks λb o hb e=>k b o ((sb.2 b (by simpa using hb)).trans e)
 self:=λi s Q E ⟨st,_⟩ hQ=>Zd1 st hQ
theorem Zie (ho:s.heap.get? S=some o)(hd:o.data=.set es ep t)(hf:t.fits es.size=true)(he:es[p]?=some e)(h:Q e.2 s):wpAny (model prog w) A (setNextDrawn S p ep) Q E s:=by unfold setNextDrawn;refine YAA (YBG ho hd hf ?_);dsimp only;rw[YAJ (by simp),he];exact YAD h
theorem Zgq {tp:AE}{ps:Q11}(hh:A.handled=none)(hne:S≠I)(hnt:tp≠I)(hd:o.data=.set es ep t)(hf:t.fits es.size=true)(hp:ps.Perm (List.range es.size)):
  Walks prog w A I [I,S,tp] [I] es.size (λi v=>(ps.map λp=>(es.getD p (0,.none)).2)[i]?=some v) (λi h=>SetIt h I S (.ref tp) i es.size ep/\h.get? S=some o/\h.get? tp=some { cls:=.type "tuple",data:=.seq (ps.map (λi=>Value.int ((i:Nat):Int) 0)).toArray }) where
 sub:=λb hb=>by simp at hb;simp[hb]
 frame:=λi h h' ⟨⟨oi,h1,r⟩,h2,h3⟩ hk=>⟨⟨oi,hk I (by simp) _ h1,r⟩,hk S (by simp) _ h2,hk tp (by simp) _ h3⟩
 item:=λi s Q E hi ⟨st,ho,ht⟩ hQ=>by
  have hl:ps.length=es.size:=by rw[hp.length_eq,YBM]
  have hi':i<ps.length:=by lia
  have hpi:ps[i]?=some ps[i]:=YAL hi';have A2:ps[i]<es.size:=YAw.mp (hp.mem_iff.mp (YCE hi'));have he:es[ps[i]]?=some es[ps[i]]:=by simp[A2]
  refine Zet st ho hd hf (YAA (wpAny_seqItems ht rfl ?_));dsimp only;have hx:((ps.map (λi=>Value.int ((i:Nat):Int) 0)).toArray)[i]?=some (Value.int ((ps[i]:Nat):Int) 0):=by simp[hpi]
  rw[hx];dsimp only;refine YAA (Zie ho hd hf he ?_);obtain⟨oi,g1,g2,g3⟩:=id st;refine YAA (YCS g1 g3 (by simp) ?_);obtain⟨o2,m1,m2,m3⟩:=Zew (v:=rawInt ((i:Int)+1)) (k:=1) g1 g2 g3;have sb:=YAn s.heap I (Obj.mapFields (·.setIfInBounds 1 (rawInt ((i:Int)+1))));refine YAD ⟨_,rfl,hQ _ _ s.toks ?_ ⟨⟨o2,m1,m2,?_⟩,Zcz sb hne ho,Zcz sb hnt ht⟩ λb o hb e=>(sb.2 b (by simpa using hb)).trans e⟩
  .rw[YAQ,hpi];simp[A2]
  .rw[m3];simp[rawInt]
 done:=λs Q E ⟨st,ho,ht⟩ hQ=>by
  have hl:ps.length=es.size:=by rw[hp.length_eq,YBM]
  refine Zet st ho hd hf (YAA (wpAny_seqItems ht rfl ?_));dsimp only;have hx:((ps.map (λi=>Value.int ((i:Nat):Int) 0)).toArray)[es.size]?=none:=by simp[hl]
  rw[hx];dsimp only;obtain⟨oi,g1,g2,g3⟩:=id st;refine YAA (YCS g1 g3 (by simp) ?_);obtain⟨o1,k1,k2,k3⟩:=Zew (v:=rawInt 0) (k:=0) g1 g2 g3;refine YAA (YCS k1 k3 (by simp) ?_);have sb:=(YAn s.heap I (Obj.mapFields (·.setIfInBounds 0 (rawInt 0)))).trans (YAn _ I (Obj.mapFields (·.setIfInBounds 2 Value.none)));exact Zgy (A:=A) hh λh' k=>hQ h' s.toks λb o hb e=>k b o ((sb.2 b (by simpa using hb)).trans e)
 self:=λi s Q E ⟨st,_⟩ hQ=>Zd1 st hQ
end
theorem ZfW:typeLookup (.type "set") "__len__"=pure (some (.builtin "set.__len__")):=by rw[typeLookup_type,builtinLookup_eq_fast];kernel_rfl
section
theorem ZhW {es:Array (Int×Value)}{ps:Q11}(hp:ps.Perm (List.range es.size)):(ps.map λp=>(es.getD p (0,.none)).2).Perm (es.toList.map (·.2)):=by
 have q:=hp.map (λp=>(es.getD p (0,.none)).2);refine q.trans (.of_eq ?_);apply YCO
 .simp
 .intro n h1 h2;have hn:n<es.size:=by simpa using h2
  simp[hn]
theorem Zil (hS:TxSet prog w s.heap S ls (!ZaR w))
  (h:∀(h2:Heap) (d:Drawn) (I:AE) (fp:List AE) (vs:AD) (ms:Q22) (St:Nat->Heap->Prop),(∀A':AI,A'.handled=none->Walks prog w A' I fp [I] ls.length (λi v=>vs[i]?=some v) St)->St 0 h2 ->
   (∀b∈fp,b=S\/s.heap.objs.size<=b)->s.heap.objs.size<=I->(∀b o,s.heap.get? b=some o->h2.get? b=some o)->ms.Perm ls->Vals (ms.map tx) vs->Q (.ref I) { s with heap:=h2,drawn:=d }):
  wpAny (model prog w) A (pyIter (.ref S)) Q E s:=by
 obtain⟨o,es,ep,t,ms,ho,hex,hd,hel,hf,hled,hpl,hp,hv,hb⟩:=hS;have Au:es.size=ls.length:=by have q:=hv.length;rw[YAB,YAB]at q;rw[<-YAF,<-q,hp.length_eq]
 have A2:=YAN ho;refine ZkJ ho hex hd hf (fits_of_scanBound hb) (λhc=>?_) λps d pp=>?_
 .have nI:S≠s.heap.objs.size:=YAe A2;have st:(s.heap.push ({ cls:=.type "set_iterator",data:=.fields #[.int 0 0,.int 0 0,.ref S,.int es.size 0,.int ep 0] }:Obj)).get? s.heap.objs.size=some { cls:=.type "set_iterator",data:=.fields #[.int 0 0,.int 0 0,.ref S,.int es.size 0,.int ep 0] }:=YAY _ rfl;have fp:∀b∈[s.heap.objs.size,S],b=S\/s.heap.objs.size<=b:=λb hb=>by
   rcases YAH.mp hb with z | z
   .exact .inr (YCo z.symm)
   .exact .inl (by simpa using z)
  cases hby:ZaR w with
  | true=>
   obtain⟨ms',p',r'⟩:=Zcd ((Zbq (next:=w.params.setOrder S ep) (xs:=es)).map (·.2)) hv;have W:∀A':AI,A'.handled=none->_:=λA' hA=>Zis (prog:=prog) (w:=w) (A:=A') (I:=s.heap.objs.size) (S:=S) (o:=o) hA nI hd hf hby;rw[Au]at W;exact h _ s.drawn _ _ _ ms' _ W ⟨⟨_,st,rfl,by rw[Au];rfl⟩,YAE _ ho⟩ fp (YAP _) (λb o e=>YAE _ e) (p'.trans hp) r'
  | false=>
   have h1:es.size<=1:=by
    rcases hc with z | z | z
    .rw[hby]at z;cases z
    .rw[hpl z];exact YAt _
    .exact z
   have hl:t.led=true:=by rw[hled,hby];rfl
   have W:∀A':AI,A'.handled=none->_:=λA' hA=>Zit (prog:=prog) (w:=w) (A:=A') (I:=s.heap.objs.size) (S:=S) (o:=o) hA nI hd hf hby hl h1;rw[Au]at W;exact h _ s.drawn _ _ _ ms _ W ⟨⟨_,st,rfl,by rw[Au];rfl⟩,YAE _ ho⟩ fp (YAP _) (λb o e=>YAE _ e) hp hv
 .have nI:S≠s.heap.objs.size+1:=YAe (YCW A2);have nT:s.heap.objs.size≠s.heap.objs.size+1:=YAe (Nat.lt_succ_self _);obtain⟨ms',p',r'⟩:=Zcd (ZhW pp) hv;have W:∀A':AI,A'.handled=none->_:=λA' hA=>Zgq (prog:=prog) (w:=w) (A:=A') (I:=s.heap.objs.size+1) (S:=S) (o:=o) (tp:=s.heap.objs.size) hA nI nT hd hf pp;rw[Au]at W;refine h _ d _ _ _ ms' _ W ⟨⟨{ cls:=.type "set_iterator",data:=.fields #[.ref s.heap.objs.size,.int 0 0,.ref S,.int es.size 0,.int ep 0] },?_,rfl,by rw[Au];rfl⟩,YAE _ (YAE _ ho),YAE _ (YAY _ rfl)⟩ ?_ (YCn _) (λb o e=>YAE _ (YAE _ e)) (p'.trans hp) r'
  .rw[<-YBm];exact YAY _ rfl
  .intro b hb;rcases YAH.mp hb with z | z
   .exact .inr (by rw[z];exact YCn _)
   .rcases YAH.mp z with z | z
    .exact .inl z
    .have z:b=s.heap.objs.size:=by simpa using z
     exact .inr (YCo z.symm)
theorem Zd8 (hh:A.handled=none)(hS:TxSet prog w s.heap S ls (!ZaR w))(hn:ls.length<=sizeLine)
  (hQ:∀(s':AF) (vs:AD) (ms:Q22),(∀b o,s.heap.get? b=some o->s'.heap.get? b=some o)->s'.gens=s.gens->s'.os=s.os->ms.Perm ls->Vals (ms.map tx) vs->Q vs s'):wpAny (model prog w) A (collect (.ref S)) Q E s:=by
 unfold collect;refine YAA (wpAny_runValue (codeAny_builtin F.entry_proto_collect ?_));rw[YCH F.plain_proto_collect _];show wpAny _ A.in1 (newList [] >>= λl=>again (.builtin "list.__iadd__" ⟨[l,.ref S],[]⟩)) _ _ s;refine YAA (YBt (YAD ⟨plainId_quiet F.plain_list_iadd _,codeAny_builtin F.entry_list_iadd ?_⟩));rw[YCH F.plain_list_iadd _];generalize hH:s.heap.push { cls:=.type "list",data:=.seq ([]:AD).toArray }=H;have hHs:H.objs.size=s.heap.objs.size+1:=by rw[<-hH,YBm]
 have hL:H.get? s.heap.objs.size=some { cls:=.type "list",data:=.seq ([]:AD).toArray }:=hH▸YAY _ rfl;have k1:∀b o,s.heap.get? b=some o->H.get? b=some o:=λb o e=>hH▸YAE _ e;have hS1:TxSet prog w H S ls (!ZaR w):=hS.keep λo e=>k1 S o e;have hT:Shared.TypeIs { s with heap:=H } (.ref S) "set":=hS1.typ (s:={ s with heap:=H });have nS:S≠s.heap.objs.size:=by obtain⟨o,_,_,_,_,ho,_⟩:=hS;exact YAe (YAN ho)
 show wpAny _ A.in1 (Builtin.List.listExtendWith (.ref s.heap.objs.size) (.ref S) (.ref s.heap.objs.size)) _ _ { s with heap:=H };unfold Builtin.List.listExtendWith;refine YAA (wpAny_typeOf hT ?_);have h1:Builtin.List.listSameRef (.ref s.heap.objs.size) (.ref S)=false:=by simp[Builtin.List.listSameRef,YAk nS]
 have h2:(Value.type "set" == Value.type "list")=false:=by decide
 have h3:(Value.type "set" == Value.type "tuple")=false:=by decide
 simp only[h1,h2,h3,Bool.or_false,YCj,if_false];refine YAA (Zil (s:={ s with heap:=H }) hS1 λh2' d I fp vs ms St W st hfp hI k2 hp hv=>?_);have hT2:Shared.TypeIs { s with heap:=h2',drawn:=d } (.ref S) "set":=(hS1.keep λo e=>k2 S o e).typ (s:={ s with heap:=h2',drawn:=d });refine YAA (YBN ?_);unfold Builtin.List.listLengthHint;refine YAA (wpAny_specialOf hT2 ZfW ?_)
 wp_delta
 refine YAA (YDU (T:="set") (v:=.ref S) (b:=true) hT2 (by rw[isSubtype_type];kernel_rfl) ?_);show wpAny _ A.in1 (typeOf (Value.ref S) >>= λr=>_) _ _ _;refine YAA (wpAny_typeOf hT2 ?_);refine YAD ?_;rw[YAM (by decide)];refine YAA (YBs ?_);have hL2:h2'.get? s.heap.objs.size=some { cls:=.type "list",data:=.seq ([]:AD).toArray }:=k2 _ _ hL;refine YAA ?_;show wpAny _ A.in1 (updateSeq s.heap.objs.size (·.push .none) >>= λ_=>updateSeq s.heap.objs.size (·.pop)) _ _ _;refine YAA (wpAny_updateSeq hL2 rfl ?_);have hL3:=YBz (Obj.mapSeq (·.push Value.none)) hL2 rfl;refine wpAny_updateSeq hL3 rfl ?_;have hL4:=YBz (Obj.mapSeq (·.pop)) hL3 rfl;have oth:∀b o,b≠s.heap.objs.size->h2'.get? b=some o->((h2'.update s.heap.objs.size (Obj.mapSeq (·.push Value.none))).update s.heap.objs.size (Obj.mapSeq (·.pop))).get? b=some o:=
  λb o hb e=>(YCe _ _ (YAk hb)).trans ((YCe _ _ (YAk hb)).trans e)
 have hle:s.heap.objs.size+1<=I:=by rw[<-hHs];exact hI
 have hSf:s.heap.objs.size∉fp:=λz=>by
  rcases hfp _ z with q | q
  .exact nS q.symm
  .have q':H.objs.size<=s.heap.objs.size:=q;rw[hHs]at q';exact absurd q' (Nat.not_succ_le_self _)
 refine YAD ⟨plainId_quiet F.plain_extend_loop _,codeAny_extend_loopS (W A.in1 hh).toS hn _ hSf _ ls.length 0 _ _ _ rfl (YAt _) ((W A.in1 hh).frame 0 h2' _ st λb hb o e=>oth b o (λz=>hSf (z▸hb)) e) hL4 (ItemsOf.nil _) λs' acc' c' hm hS' Av=>?_⟩;show wpAny _ A (load s.heap.objs.size >>= λr=>_) _ _ s';refine YAA (wpAny_load hS' ?_);have hvs:acc'.toList=vs:=by
  have hl:vs.length=ls.length:=by rw[<-hv.length,YAB,hp.length_eq]
  apply YCs;intro j;rw[YAr];by_cases hj:j<ls.length
  .have hj':j<acc'.size:=by rw[Av.1];exact hj
   have e:acc'[j]?=some acc'[j]:=by simp[hj']
   rw[e,Av.2 j _ e]
  .rw[Array.getElem?_eq_none (by rw[Av.1];lia),YBb (by lia)]
 have done:=hQ s' vs ms (λb o e=>by
  have A2:=YAN e;refine hm.heap b o (λz=>?_) (oth b o (YAe A2) (k2 b o (k1 b o e)));rcases YAH.mp z with q | q
  .rw[q]at A2;exact YBE _ A2
  .have q:b=I:=by simpa using q
   rw[q]at A2;exact absurd A2 (Nat.not_lt.mpr (Nat.le_of_succ_le hle))) hm.gens hm.os hp hv
 rw[<-hvs]at done;exact YAD done
end
noncomputable def leT (a b:Q11):Bool:=!decide (b<a)
def Zbs (ls:Q22):Q22:=ls.mergeSort leT
theorem Zbh:leT a b=true↔a<=b:=by unfold leT;rw[Bool.not_eq_true',decide_eq_false_iff_not];exact List.not_lt
theorem ZaZ (ls:Q22):(Zbs ls).Perm ls:=List.mergeSort_perm _ _
theorem Zbr (ls:Q22):(Zbs ls).Pairwise (λa b=>leT a b=true):=
 List.pairwise_mergeSort (le:=leT) (λa b c h1 h2=>Zbh.mpr (List.le_trans (Zbh.mp h1) (Zbh.mp h2))) (λa b=>Bool.or_eq_true_iff.mpr ((List.le_total a b).imp Zbh.mpr Zbh.mpr)) ls
theorem ZbT (p:ms.Perm ls)(h:ms.Pairwise (λa b=>leT a b=true)):ms=Zbs ls:=
 List.Perm.eq_of_pairwise (λa b _ _ h1 h2=>List.le_antisymm (Zbh.mp h1) (Zbh.mp h2)) h (Zbr ls) (p.trans (ZaZ ls).symm)
theorem ZcI (p:ms.Perm ls):Zbs ms=Zbs ls:=ZbT ((ZaZ ms).trans p) (Zbr ms)
theorem Zgx:∀ {us:AD} {ss:AK},StrsAre us ss->Vals ((ss.map λx=>x.cps.toList).map tx) us
 | _,_,.nil=>.nil
 | _,_,.cons x t h=>.cons ⟨t,rfl⟩ (Zgx h)
theorem ZcO:∀ {ss:AK},sortedS ss=true->(ss.map λx=>x.cps.toList).Pairwise (λa b=>leT a b=true):=by
 have ris:∀(p:Str) (l:AK),risingS p l=true->((p::l).map λx=>x.cps.toList).Pairwise (λa b=>leT a b=true):=by
  intro p l;induction l generalizing p with
  | nil=>intro _;simp
  | cons x r ih=>
   intro h;have h':(!ltCps x.cps.toList p.cps.toList&&risingS x r)=true:=h;rw[YAX,ltCps_eq]at h';have q:=ih x h'.2;rw[YAi,YBB];refine⟨λb hb=>?_,q⟩;have hx:leT p.cps.toList x.cps.toList=true:=h'.1;rw[YAi]at hb q;rcases YAH.mp hb with z | z
   .rw[z];exact hx
   .exact Zbh.mpr (List.le_trans (Zbh.mp hx) (Zbh.mp ((YBB.mp q).1 b z)))
 intro ss h;cases ss with
 | nil=>simp
 | cons x r=>exact ris x r h
theorem ZcN {us:AD}{ls:Q22}(r:Vals (ls.map tx) us):StrsAre us (ls.map λl=>(⟨l.toArray⟩:Str)):=Zen r
theorem ZhR (ls:Q22):(ls.map λl=>(⟨l.toArray⟩:Str)).map (λx=>x.cps.toList)=ls:=by
 rw[YAl]
 conv=>rhs;rw[<-List.map_id ls]
 apply YCK;intro l _;simp
section
theorem ZiE {vs:AD}{ms:Q22}{Q:Q33}(hv:Vals (ms.map tx) vs)(h64:ms.length<64)
  (h:∀(h':Heap) (us:AD) (e:Nat),(∀b o,s.heap.get? b=some o->h'.get? b=some o)->h'.get? s.heap.objs.size=some { cls:=.type "list",data:=.seq us.toArray e }->Vals ((Zbs ms).map tx) us->Q (.ref s.heap.objs.size) { s with heap:=h' }):
  wpAny (model prog w) A (do let l <-newList vs;let _ <-holding [l] (call (.builtin "list.sort") [l] []);ret l) (λfin s'=>∃v,fin=Fin.done (Flow.ret v)/\Q v s') E s:=by
 have hS:=ZcN hv;have Au:vs.length<64:=by rw[<-hv.length,YAB];exact h64
 refine YAA (YDD ?_ ?_)
 .have hoL:(s.heap.push (seqObj "list" vs.toArray 0)).get? s.heap.objs.size=some (seqObj "list" vs.toArray 0):=YAY _ rfl;refine YAA (YBN (YCc slot_list_sort ⟨_,hoL,rfl⟩ entry_list_sort (list_sort_treeK strKind_oneLt hoL hS.keysOf (λv_1 v_2 rest e=>keyKind_strs (by rw[<-e];exact hS)) Au λst' a1 a2=>⟨_,rfl,?_⟩) (args_list_sort _)));obtain⟨ss',b1,b2,b3⟩:=sorted_out_str hS a1 a2;obtain⟨e,he⟩:=sortedHeap_at (out:=(arrOf st').map (·.2)) hoL;refine YAD ⟨_,rfl,h _ ((arrOf st').map (·.2)).toList e (λb o q=>?_) ?_ ?_⟩
  .have A2:=YAN q;have hlt':b<(s.heap.push (seqObj "list" vs.toArray 0)).objs.size:=by rw[YBm];exact YCW A2
   exact(sortedHeap_old (YAe A2) hlt').trans (YAE _ q)
  .have q:((arrOf st').map (·.2)).toList.toArray=(arrOf st').map (·.2):=YCT;rw[q];exact he
  .have p1:(ss'.map λx=>x.cps.toList).Perm ms:=by
    have:=b2.map (λx:Str=>x.cps.toList)
    rwa [ZhR]at this
   have e1:=ZbT p1 (ZcO b3);rw[<-e1];exact Zgx b1
 .exact YAK (YDC Au) (by rw[sizeLine_eq];decide)
theorem ZhZ (hh:A.handled=none)(hS:TxSet prog w s.heap S ls (!ZaR w))(h64:ls.length<64)
  (h:∀(s':AF) (a:AE) (us:AD) (e:Nat),s.heap.get? a=none->(∀b o,s.heap.get? b=some o->s'.heap.get? b=some o)->s'.gens=s.gens->s'.os=s.os->s'.heap.get? a=some { cls:=.type "list",data:=.seq us.toArray e }->Vals ((Zbs ls).map tx) us->Q (.ref a) s'):
  wpAny (model prog w) A (call (.builtin "sorted") [.ref S]) Q E s:=by
 refine Calls.call_function_entry kind_sorted plain_sorted entry_sorted (args_sorted1 _) ?_;unfold Builtin.«sorted»;refine YAA (m:=checkCount "sorted" 1 1 _) (YAD ?_);refine YAA (Zd8 (by first | exact hh | simpa using hh) hS (YAK (YDC h64) (by rw[sizeLine_eq];decide)) λs' vs ms k1 hg ho hp hv=>?_);have hl:ms.length<64:=by rw[hp.length_eq];exact h64
 refine ZiE hv hl λh' us e k2 he r=>?_;rw[ZcI hp]at r;exact h _ _ us e (by
  cases q:s.heap.get? s'.heap.objs.size with
  | none=>rfl
  | some o=>exact absurd (YAN (k1 _ _ q)) (YBE _)) (λb o q=>k2 b o (k1 b o q)) hg ho he r
end
section
end
open PySem.W (Frag findIn typeIn mroIn clsIn InstAt Looks)
noncomputable def xr (a C:AE)(d:Option AE):HO:=.ext λh=>∃(o:Obj) (vs:Array Value),h.get? a=some o/\o.cls=.ref C/\o.dict=d/\o.data=.fields vs
inductive XAny (H:Hp) (e C:AE):List (Str×V)->Prop where
 | un {fs:List (Str×V)}:XAt H e C fs->XAny H e C fs
 | bare:H e=some (xr e C none)->XAny H e C []
 | full {d:AE} {fs:List (Str×V)}:H e=some (xr e C (some d))->H d=some (xdO d fs)->d≠e->XAny H e C fs
section
end
section
end
abbrev TX:=St->Hp->VK->XK->Prop
abbrev TSx:=Ends->(St->XK)->St->Hp->Prop
section
end
section
end
noncomputable def sux (X:Cx)(e:AE):Cx:={ X with A:=X.A.mark (some (.ref e)),calm:=false,xe:=λ_ _=>False }
section
end
abbrev TH:=Addr->AE->Ends->St->Hp->Prop
section
end
open PySem.W (Frag findIn specialIn typeIn mroIn clsIn subIn kitOne kitCls InstAt Looks)
section
theorem Zld (I:Inv X Ar U H s)(h:H e=some (xr e C d)):∃(o:Obj) (vs:Array Value),s.heap.get? e=some o/\o.cls=.ref C/\o.dict=d/\o.data=.fields vs:=(I.hok e _ h).1
theorem XAny.inst (I:Inv X Ar U H s)(x:XAny H e C fs):∃(ox:Obj) (od:Option Obj),InstAt s.heap e ox C od/\∀name,∃r,(match od with | some o=>lookIn name o | none=>some none)=some r/\RelO (fs.lookup name) r:=by
 cases x with
 | un h=>exact h.inst I
 | bare h=>
  obtain⟨o,vs,h1,h2,h3,h4⟩:=Zld I h;exact⟨o,none,⟨h1,h2,by unfold notCls;rw[h4],by rw[h3];trivial⟩,λname=>⟨none,rfl,by trivial⟩⟩
 | @full d _ h h' hne=>
  obtain⟨o,vs,h1,h2,h3,h4⟩:=Zld I h;obtain⟨⟨_,mA,hn,hr,_⟩,_⟩:=I.hok d _ h';obtain⟨od,hod,hl⟩:=ZdV hn;exact⟨o,some od,⟨h1,h2,by unfold notCls;rw[h4],by rw[h3];exact hod⟩,λname=>⟨mA name,hl name,hr name⟩⟩
end
inductive TyR (K:Frag) (H:Hp):V->Value->Prop where
 | ty {x:V} {t:Value} (h:TyX K H x t):TyR K H x t
 | exc {e C:AE} {fs:List (Str×V)} (x:XAny H e C fs) (i:Xi K C):TyR K H (.ref e) (.ref C)
theorem Za2 {X:Cx}{K:Frag}(hK:X.K=K):Zcc X (.builtin "isinstance") (λxs H Q=>∃x c t k b,xs=[x,c]/\clsV c=some k/\TyR K H x t/\kitOne K t k=some b/\Q (.bl b) H):=by
 subst hK;rintro Ar s U H xs us Q I r ⟨x,c,t,k,b,rfl,hk,ty,e,q⟩;cases ty with
 | ty h=>exact Zg0 Ar s U H _ us Q I r ⟨x,c,t,k,b,rfl,hk,h,e,q⟩
 | exc xa i=>
  obtain⟨u,v,rfl,ru,rv⟩:=r.two;have hv:v=k:=by
   cases c with
   | ref a=>cases hk;exact rv
   | ty n=>cases hk;exact rv
   | _=>cases hk
  subst hv;cases ru;obtain⟨ox,od,J,_⟩:=xa.inst I;exact YBR (Zhy i) I.kIn J e (λz=>nomatch z) λtk=>⟨.bl b,H,I.tok _,rfl,q⟩
open PySem.W (Frag)
theorem ObjOk.there {P:AH}{w:AJ}{H:Hp}{h:Heap}{a:AE}:∀ {o:HO},ObjOk P w H h a o->∃u,h.get? a=some u
 | .lst _,x=>by obtain⟨_,_,_,_,e⟩:=x;exact⟨_,e⟩
 | .tup _,x=>by obtain⟨_,_,_,ob,e,_⟩:=x;exact⟨_,e⟩
 | .dK _,x=>by obtain⟨_,_,_,_,ob,_,_,e,_⟩:=x;exact⟨_,e⟩
 | .dT _,x=>by obtain⟨_,_,_,_,ob,_,_,e,_⟩:=x;exact⟨_,e⟩
 | .set _ _,x=>by obtain⟨ob,_,_,_,e,_⟩:=x;exact⟨_,e⟩
 | .ins _ _ _,x=>by obtain⟨_,_,_,e,_⟩:=x;exact⟨_,e⟩
 | .own _,x=>x
 | .xd _,x=>by obtain⟨_,⟨ob,_,_,e,_⟩,_⟩:=x;exact⟨_,e⟩
 | .met _ _,x=>⟨_,x⟩
 | .rng _ _,x=>by obtain⟨_,_,_,e⟩:=x;exact⟨_,e⟩
 | .frz _ _,x=>⟨_,x.1⟩
 | .tbl _,x=>⟨_,x⟩
 | .ext _,x=>x.2.1
theorem HOk.none_of (ok:HOk P w H h)(n:h.get? a=none):H a=none:=by
 cases q:H a with
 | none=>rfl
 | some o=>
  obtain⟨u,hu⟩:=(ok a o q).there;rw[n]at hu;cases hu
theorem Inv.laid2 (I:Inv X Ar U H s)(os:s'.os=s.os)(hg:s'.gens=s.gens)(k:∀b u,s.heap.get? b=some u->s'.heap.get? b=some u)(nw:s.heap.get? a=none)
  (new:ObjOk X.prog X.w (upd H a o) s'.heap a o):Inv X Ar U (upd H a o) s':=by
 have hn:=I.hok.none_of nw;have ne:∀b u,s.heap.get? b=some u->b≠a:=λb u q z=>by rw[z,nw]at q;cases q
 have neH:∀b u,H b=some u->b≠a:=λb u q=>Zai q hn;refine I.call' (ch:=[]) os ⟨λb u q _ _ _=>k b u q,λb u q _ _ _=>⟨u.slots,k b u q⟩,λb u q n _=>by rw[Zah (ne b u q)];exact n,λb u q _=>⟨u,k b u q⟩,λb xs q=>by rw[Zah (neH b _ q)];exact q,λb u v q=>by rw[Zah (neH b _ q)];exact q,λb ps q=>⟨#[],by rw[Zah (neH b _ q),Array.append_empty];exact q⟩⟩
  (λb u q=>?_) (by rw[hg];exact I.bare) (λb hb=>by cases hb)
 by_cases hb:b=a
 .subst hb;rw[Zae]at q;cases q;exact new
 .rw[Zah hb]at q;exact(I.hok b u q).stay (λc w' _ q=>k c w' q) (λc q=>by rw[Zah (neH c _ q)];exact q) λc xs q=>by rw[Zah (neH c _ q)];exact q
section
noncomputable def signs (l:Q11):Q22:=l.map λc=>[c]
theorem ZgM (h:ItemsOf (SignAt ⟨l.toArray⟩) acc (⟨l.toArray⟩:Str).cps.size):Vals ((signs l).map tx) acc.toList:=by
 obtain⟨h1,h2⟩:=h;have hl:(⟨l.toArray⟩:Str).cps.size=l.length:=by show l.toArray.size=_;simp
 rw[hl]at h1;have gen:∀(l:Q11) (us:AD),us.length=l.length->(∀(j:Nat) (v:Value),us[j]?=some v->∃(c:Nat) (u:Tok),l[j]?=some c/\v=Value.str ⟨#[c]⟩ u)->Vals ((signs l).map tx) us:=by
  intro l;induction l with
  | nil=>
   intro us hl _;have:us=[]:=YDX hl;subst this;exact .nil
  | cons c l ih=>
   intro us hl h;cases us with
   | nil=>cases hl
   | cons u us=>
    obtain⟨c',t,e,rfl⟩:=h 0 u rfl;cases e;refine .cons ⟨t,rfl⟩ (ih us (by simpa using hl) λj v e=>h (j+1) v e)
 refine gen l acc.toList (by rw[YAF,h1]) λj v e=>?_;rw[YAr]at e;obtain⟨c,u,e1,e2⟩:=h2 j v e;exact⟨c,u,by simpa using e1,e2⟩
theorem Zdp (hc:X.calm=true):Zcc X (.type "list") (λxs H Q=>∃l,xs=[tx l]/\l.length<=1000/\NewL ((signs l).map tx) H Q):=by
 rintro Ar s U H xs us Q I r ⟨l,rfl,hz,q⟩;obtain⟨u,rfl,t,rfl⟩:=r.one;have hl:(⟨l.toArray⟩:Str).cps.size=l.length:=by show l.toArray.size=_;simp
 refine call_list_str (I.ok.hd hc) _ t (λh' tk acc c k e it=>?_) (by rw[hl];exact YDC (ZdI hz));refine⟨.ref s.heap.objs.size,_,I.laid (t':=tk) k (YAP _) ?_,rfl,q _ I.fresh⟩;exact⟨by unfold signs;rw[YAB,YAB];exact YDC (ZdI hz),acc.toList,c,ZgM it,by rw[YCT];exact e⟩
theorem ZjU (hc:X.calm=true):Zcc X (.builtin "all") (λxs H Q=>∃(a:AE) (bs:List Bool),xs=[.ref a]/\H a=some (.lst (bs.map V.bl))/\Q (.bl (bs.all id)) H):=by
 rintro Ar s U H xs us Q I r ⟨a,bs,rfl,ha,q⟩;obtain⟨u,rfl,ru⟩:=r.one;cases ru;obtain⟨_,its,n,r',Au,e⟩:=I.lstM ha;have hl:s.heap.IsList a its.toArray:=PySem.IsL.isList e;have hne:a≠s.heap.objs.size:=YAe (YAN e);refine call_all_walkS (wpAny_pyIter_list hl ?_);have hL:its.toArray.size=bs.length:=by rw[YAO,<-r'.length,YAB]
 have W:=(Walks.list (prog:=X.prog) (w:=X.w) (A:=X.A.in1) (by simpa using I.ok.hd hc) s.heap.objs.size a hne its.toArray).toS;refine⟨s.heap.objs.size,_,_,_,_,_,_,λi=>bs.getD i true,rfl,W,⟨⟨_,YAY _ rfl,rfl,rfl⟩,hl.push _⟩,?_,λs' hm=>?_⟩
 .intro i v s Q E hv hQ;have e':its[i]?=some v:=by simpa using hv
  obtain⟨x,hx,rx⟩:=ZeL r' e';rw[YAQ]at hx;cases hb:bs[i]? with
  | none=>rw[hb]at hx;cases hx
  | some b=>
   rw[hb]at hx;cases hx;obtain rfl:v=Value.bool b:=rx;have:bs.getD i true=b:=by rw[YAT,hb];rfl
   have hQ':Q (bs.getD i true) s:=hQ;rw[this]at hQ';exact YCV hQ'
 .have ea:(List.range its.toArray.size).all (λi=>bs.getD i true)=bs.all id:=by
   rw[hL];rw[YBU,YBW,YBW];constructor
   .intro h b hb;obtain⟨i,hi,rfl⟩:=YBw hb;have:=h i (YAw.mpr hi);rw[YAT,YAL hi]at this;exact this
   .intro h i hi;have hi:=YAw.mp hi;rw[YAT,YAL hi];exact h _ (YCE hi)
  rw[ea];have I2:Inv X Ar U H s':=I.call' (ch:=[]) hm.os (Un.kept λb o q=>hm.heap b o (λz=>?_) (YAE _ q)) (I.hok.kept λb o q=>hm.heap b o (λz=>?_) (YAE _ q)) (by rw[show s'.gens=s.gens from hm.gens];exact I.bare) (λb hb=>by cases hb)
  .exact⟨.bl _,H,I2,rfl,q⟩
  .have z:b=s.heap.objs.size:=by simpa using z
   rw[z]at q;exact absurd (YAN q) (YBE _)
  .have z:b=s.heap.objs.size:=by simpa using z
   rw[z]at q;exact absurd (YAN q) (YBE _)
def tset (P:AH)(w:AJ)(a:AE)(ls:Q22):HO:=.ext λh=>TxSet P w h a ls (!ZaR w)
theorem ZiA (x:TxSet P w h a ls (!ZaR w)):ObjOk P w H h a (tset P w a ls):=by obtain⟨o,es,ep,t,ms,h1,r⟩:=id x;exact⟨x,⟨o,h1⟩,λg1 g2 y k=>y.keep k⟩
def ddl (ls:Q22):Q22:=ls.foldl addT []
theorem Zff:dd (λi=>ls.getD i []) ls.length=ddl ls:=by
 unfold dd ddl;congr 1;apply YCO
 .simp
 .intro n h1 h2;simp[h2]
theorem ZbJ (hc:X.calm=true):Zcc X (.type "set") (λxs H Q=>∃ls:Q22,ls.length<=1000/\((∃l,xs=[tx l]/\ls=signs l)\/∃a,xs=[.ref a]/\SqL X.K H a (ls.map tx))/\∀p,H p=none->Q (.ref p) (upd H p (tset X.prog X.w p (ddl ls)))):=by
 rintro Ar s U H xs us Q I r ⟨ls,hz,hx,q⟩;have hb:ls.length+1<scanBound:=by show _<4096;lia
 have fin:∀(h':Heap) (tk:Nat),TxSet X.prog X.w h' s.heap.objs.size (ddl ls) (!ZaR X.w)->(∀b o,s.heap.get? b=some o->h'.get? b=some o)->EP X Ar U Q (.ref s.heap.objs.size) { s with heap:=h',toks:=tk }:=λh' tk hS k=>
  ⟨.ref s.heap.objs.size,_,I.laid (t':=tk) k (YAP _) (ZiA hS),rfl,q _ I.fresh⟩
 rcases hx with⟨l,rfl,rfl⟩|⟨a,rfl,hq⟩
 .obtain⟨u,rfl,t,rfl⟩:=r.one;have hl:(signs l).length=l.length:=by unfold signs;rw[YAB]
  have e0:dd (λi=>[l.getD i 0]) l.length=ddl (signs l):=by
   unfold dd ddl signs;congr 1;apply YCO
   .simp
   .intro n h1 h2;have:n<l.length:=by simpa using h2
    simp[this]
  refine Zhc (I.ok.hd hc) (Zgr (prog:=X.prog) (w:=X.w) (s:=s) (l:=l) (t:=t)) F.sub_str_set F.sub_str_frozenset (by decide) (by rw[<-hl];exact hb) λh' tk hS k _=>?_;rw[e0]at hS;exact fin h' tk hS k
 .obtain⟨u,rfl,ru⟩:=r.one;cases ru;obtain⟨its,rv,p,_⟩:=I.list hq;refine Zhc (I.ok.hd hc) (Zgs (prog:=X.prog) (w:=X.w) (s:=s) p.isList rv) F.sub_list_set F.sub_list_frozenset (by decide) hb λh' tk hS k _=>?_;rw[Zff]at hS;exact fin h' tk hS k
theorem Zcs (hc:X.calm=true):Zcc X (.builtin "sorted") (λxs H Q=>∃a ls,xs=[.ref a]/\H a=some (tset X.prog X.w a ls)/\ls.length<64/\NewL ((Zbs ls).map tx) H Q):=by
 rintro Ar s U H xs us Q I r ⟨a,ls,rfl,ha,h64,q⟩;obtain⟨u,rfl,ru⟩:=r.one;cases ru;have hS:TxSet X.prog X.w s.heap a ls (!ZaR X.w):=(I.hok a _ ha).1;refine ZhZ (I.ok.hd hc) hS h64 λs' b us e nw k hg ho hb rv=>?_;have hl:(Zbs ls).length<=sizeLine:=by rw[(ZaZ ls).length_eq];exact YAK (YDC h64) (by rw[sizeLine_eq];decide)
 exact⟨.ref b,_,I.laid2 (o:=.lst ((Zbs ls).map tx)) ho hg k nw ⟨by rw[YAB];exact hl,us,e,rv,hb⟩,rfl,q b (I.hok.none_of nw)⟩
end
theorem ZaD (h:x=⟨l.toArray⟩):PE X (.Constant (.str x) j pos) (tC (tx l)):=by subst h;exact ZnV
theorem Zhm (hg:Gl X x) (hm:∃t,X.mg x=some (.str y t)) (hd:(x == ("__debug__":Str))=false:=by decide):PE X (.Name x pos) (tC (.str y)):=by obtain⟨t,h⟩:=hm;exact ZeX hg h ⟨t,rfl⟩ hd
theorem Zdx (hg:Gl X x) (hm:∃t,X.mg x=some (.int y t)) (hd:(x == ("__debug__":Str))=false:=by decide):PE X (.Name x pos) (tC (.int y)):=by obtain⟨t,h⟩:=hm;exact ZeX hg h ⟨t,rfl⟩ hd
section
variable {CX:CXT}{P:AH}{w:AJ}{K:Q4}{mg:AC}{base:Heap}{N:AK}{qual:Str}{scope:Scope}{f:AE}{cd:Value}{A:AI}{outer:List Env}{s:AF}{H:Hp}{E:XK}{X:Cx}{e:AE}
theorem cxPr:(cxOf CX P w K mg base N qual scope f cd A outer s H E).prog=P:=rfl
theorem cxWo:(cxOf CX P w K mg base N qual scope f cd A outer s H E).w=w:=rfl
theorem suxK:(sux X e).K=X.K:=rfl
theorem Zpq:(sux X e).prog=X.prog:=rfl
theorem Zpp:(sux X e).w=X.w:=rfl
end
open PySem.W (Frag KeqHits)
section
end
open PySem.W (Frag)
section
end
section
end
def Itz (K:Q4)(a b:AE):It:=
  ⟨λi H=>∃xs ys x y,SqT K H a xs/\SqT K H b ys/\xs.length=ys.length/\xs[i]?=some x/\ys[i]?=some y,
   λi H v H'=>∃p x y,H p=none/\v=.ref p/\H'=upd H p (.tup [x,y])/\(∀xs,SqT K H a xs->xs[i]?=some x)/\∀ys,SqT K H b ys->ys[i]?=some y,
   λi H=>∃xs ys,SqT K H a xs/\SqT K H b ys/\xs.length=ys.length/\xs.length=i⟩
section
end
section
end
section
noncomputable def repT (l:Q11)(n:Int):Q11:=(List.replicate n.toNat l).flatten
theorem Zf1 (a:Array Nat):∀(n:Nat) (acc:Array Nat),((List.replicate n a).foldl (·++·) acc).toList=acc.toList++(List.replicate n a.toList).flatten
 | 0,acc=>by simp
 | n+1,acc=>by rw[List.replicate_succ,YBy,Zf1 a n,List.replicate_succ];simp
theorem Zor (l:Q11)(n:Int):Txt.mul ⟨l.toArray⟩ n=⟨(repT l n).toArray⟩:=by
 unfold Txt.mul repT;by_cases h1:n<1
 .rw[YAM h1];have:n.toNat=0:=by lia
  rw[this];rfl
 .rw[YAJ h1];split
  .rename_i h
   rw[Bool.or_eq_true]at h;rcases h with h | h
   .have:n=1:=by simpa using h
    subst this;simp
   .have:l=[]:=by have:=beq_iff_eq.mp h;rw[ZeN]at this;exact YCZ.mp this
    subst this;simp
  .congr 1;apply Array.ext';rw[Zf1];simp
theorem ZiW:OpR X (binaryOp .Mult) (λx y H Q=>∃l n,x=tx l/\y=.int n/\0<=n/\n<=1000/\l.length<=1000/\Q (tx (repT l n)) H):=by
 rintro Ar s U H x y v u Q I rx ry ⟨l,n,rfl,rfl,h0,h1,h2,q⟩;obtain⟨t,rfl⟩:=rx;obtain⟨t',rfl⟩:=ry;have e1:(⟨l.toArray⟩:Str).length=l.length:=ZeN l;refine SB.mul ⟨?_,λa b=>?_,λa b=>?_⟩ λt2 k=>?_
 .simp only[Bool.or_eq_false_iff,decide_eq_false_iff_not];lia
 .rw[e1];have e3:(1000:Int)<=(2 ^ 63-1)/n:=by rw[Int.le_ediv_iff_mul_le (by lia)];lia
  lia
 .rw[e1];have:l.length*n.toNat<=1000*1000:=YDP h2 (by lia);unfold Builtin.Str.tooLong;simp only[decide_eq_false_iff_not];rw[sizeLine_eq];lia
 .rw[Zor];exact⟨tx _,H,I.tok _,⟨_,rfl⟩,q⟩
end
open PySem.W (Frag)
theorem Zln {X:Cx} {K:Frag} {T id:String} {name:Str} {o e:Expr} {es:List Expr} {to:TE} {t:TA} {Ax Ay:Pos} {r:V->List V->Hp->VK->Prop} (hK:X.K=K) (pa:PlainAttrs T) (slot:Slot T name id) (hty:typeOf (.builtin id)=pure (.type "method_descriptor")) (hm:MtR X id r) (ho:PE X o to) (ha:PA X (e::es) t)
  (hbase:attributeBase o name X.env (eval o X.env)=eval o X.env:=by rfl)
  (hfew:((backTo Ay (starEach (e::es) X.env)).all (λx=>!x.1)&&(backToKw Ay (keywordEach [] X.env)).all (λx=>x.1.isSome)&&decide ((e::es).length+([]:List Keyword).length+(if ([]:List Keyword).isEmpty then 0 else 1)<30))=true:=by rfl)
  (hline:(Ax.endLine == Ay.line)=true:=by rfl) (hs:starEach (e::es) X.env=(false,eval e X.env)::starEach es X.env:=by rfl) (hplain:(backTo Ay (starEach es X.env)).any (·.1)=false:=by rfl):PE X (.Call (.Attribute o name Ax) (e::es) [] Ay) (tBM K T r to t):=by
 subst hK;exact ZeY pa slot hty hm ho ha hbase hfew hline hs hplain
def sNo:TS:=λ_ _ _=>False
theorem Zee {X:Cx}{st:Stmt}:PS X st sNo:=λ_ _ _ _ _ _ h=>h.elim
section
theorem Zho (hg:Gl X x) (hm:X.mg x=some (.ref L)) (cr:ClsRead X.K L "__init__" (.ref f)) (F:FnOk X.prog X.w X.K X.mg X.base CX k f fd ps sp) (hr:Room k X.A) (hk:keepIn X.K (.ref f)=true) (hb:Binds X.K fd ps ds) (hd:Vals A1 ds) (hx:Zc7 CX X E)
  (ha:PA X (e::es) t) (hdb:(x == ("__debug__":Str))=false:=by decide) (hst:starEach (e::es) X.env=(false,eval e X.env)::starEach es X.env:=by rfl) (hpl:(backTo pos (starEach es X.env)).any (·.1)=false:=by rfl)
  (ht:eval (.Call (.Attribute (.Name x np) "__init__" Ax) (e::es) [] pos) X.env=(do
   let ov <-eval (.Name x np) X.env
   standAt Ax.atName
   let (f,first) <-holding [ov] (getMethod ov "__init__" pl)
   callWith pos f first (backTo pos (starEach (e::es) X.env)) (backToKw pos (keywordEach [] X.env))):=by rfl):PE X (.Call (.Attribute (.Name x np) "__init__" Ax) (e::es) [] pos) (Zj6 sp A1 E t):=by
 intro Ar s U H Q I h;refine methodCall_KW (pl:=pl) (Ze2 I hg hm ?_ hdb) ht;refine PySem.W.method_cls I.kIn cr.sp (PySem.W.cls_value I.kIn cr.rd cr.fd cr.hn ?_);refine callWith_K (first:=[]) (h₀:=X.base) I.ok.mod.kin hk (thn (ha pos Ar _ U H _ (I.tok _) h) λus s1 ⟨vs,H1,I1,r,q⟩=>⟨I1.kIn,?_⟩) hst hpl;exact Zhd F hr hb hd hx I1 r q
end
def WhileRun (c:TT)(tb:TS)(D:Ends)(U:St)(H:Hp):Prop:=ZiB c tb D U H
theorem Zmc:ZiB c tb D U H=WhileRun c tb D U H:=rfl
theorem WhileRun.by (Pv:St->Hp->Prop)(μ:St->Hp->Nat)(h0:Pv U H)
  (hs:∀U H,Pv U H->∃b:Bool,(∀Q:Bool->Hp->Prop,(∀H1,Same H H1->Q b H1)->c U H Q)/\∀H1,Same H H1->if b=true then tb { D with nx:=λU' H'=>Pv U' H'/\μ U' H'<μ U H,ct:=λU' H'=>Pv U' H'/\μ U' H'<μ U H,bk:=D.nx } U H1 else D.nx U H1):WhileRun c tb D U H:=by
 refine⟨λm U H=>m=μ U H/\Pv U H,⟨_,rfl,h0⟩,?_⟩;rintro m U H ⟨rfl,p⟩;obtain⟨b,hc,hb⟩:=hs U H p;refine hc _ λH1 s1=>?_;have q:=hb H1 s1;cases b with
 | true=>exact⟨_,λU' H' ⟨p',l⟩=>⟨_,l,rfl,p'⟩,q⟩
 | false=>exact q
section
end
section
end
section
def Zm8:HO->Prop
 | .tup _=>False
 | .tbl _=>False
 | .own _=>False
 | _=>True
theorem Inv.shift (I:Inv X Ar U H s)(ha:H a=some u)(hu:Zm8 u)(hf:∀o v,X.H_0 a≠some (.frz o v))(new:ObjOk X.prog X.w (upd H a u') s.heap a u'):Inv X Ar U (upd H a u') s:=by
 have nn:∀b,H b=none->b≠a:=λb n z=>by rw[z,ha]at n;cases n
 refine⟨I.ok,I.os,I.bare,⟨I.base.keep,I.base.slot,λb o e n hx=>?_,I.base.there,λb xs e=>?_,λb o v e=>?_,λb ps e=>?_⟩,I.loc,I.cell,?_,λx c e=>?_,λp hp=>?_,λb ob e=>?_,I.len⟩
 .have:=I.base.free b o e n hx;rw[Zah (nn b this)];exact this
 .have:=I.base.tups b xs e;have ne:b≠a:=λz=>by rw[z,ha]at this;cases this;exact hu
  rw[Zah ne];exact this
 .have ne:b≠a:=λz=>hf o v (by rw[<-z];exact e);rw[Zah ne];exact I.base.frzs b o v e
 .obtain⟨m,q⟩:=I.base.tbls b ps e;have ne:b≠a:=λz=>by rw[z,ha]at q;cases q;exact hu
  exact⟨m,by rw[Zah ne];exact q⟩
 .rw[Zah (nn _ I.free)];exact I.free
 .rw[Zah (nn _ (I.freeC x c e))];exact I.freeC x c e
 .obtain⟨e,n,r⟩:=I.pin p hp;exact⟨e,by rw[Zah (nn _ n)];exact n,r⟩
 .by_cases hb:b=a
  .subst hb;rw[Zae]at e;cases e;exact new
  .rw[Zah hb]at e;refine(I.hok b ob e).stay (λ_ _ _ q=>q) (λc q=>?_) λc xs q=>?_
   .have ne:c≠a:=λz=>by rw[z,ha]at q;cases q;exact hu
    rw[Zah ne];exact q
   .have ne:c≠a:=λz=>by rw[z,ha]at q;cases q;exact hu
    rw[Zah ne];exact q
theorem Inv.notFrz (I:Inv X Ar U H s)(ha:H a=some u)(hu:∀o v,u≠.frz o v):∀o v,X.H_0 a≠some (.frz o v):=λo v e=>by have:=I.base.frzs a o v e;rw[ha]at this;exact hu o v (Option.some.inj this)
theorem Inv.freezeD (I:Inv X Ar U H s)(ha:H a=some (.dK kvs)):∃o es ep,o.data=.dict es ep/\s.heap.get? a=some o/\Inv X Ar U (upd H a (.frz o (.dK kvs))) s:=by obtain⟨z,y,vs,r,ob,es,ep,e,c⟩:=I.hok a _ ha;refine⟨ob,es,ep,c.2.1,e,I.shift ha trivial (I.notFrz ha λo v q=>by cases q) ⟨e,z,y,vs,r,ob,es,ep,e,c⟩⟩
theorem Inv.thawD (I:Inv X Ar U H s)(ha:H a=some (.frz o (.dK kvs)))(hf:∀o v,X.H_0 a≠some (.frz o v)):Inv X Ar U (upd H a (.dK kvs)) s:=by obtain⟨e,z,y,vs,r,c⟩:=I.hok a _ ha;exact I.shift ha trivial hf ⟨z,y,vs,r,c⟩
end
theorem ZmF (h:(ZaB P w).is k u=true):RelV (kV k) u:=by
 cases k with
 | inl i=>
  have h':(intKind P w).is i u=true:=h;cases u<;>first | (exact absurd h' YAC) | skip
  rename_i j t
  have e:(i == j)=true\/(j == i)=true:=by first | exact .inl h' | exact .inr h'
  rcases e with e | e
  .exact⟨t,by rw[beq_iff_eq.mp e]⟩
  .exact⟨t,by rw[beq_iff_eq.mp e]⟩
 | inr x=>
  have h':(strKind P w).is x u=true:=h;cases u<;>first | (exact absurd h' YAC) | skip
  rename_i j t
  have e:(x == j)=true\/(j == x)=true:=by first | exact .inl h' | exact .inr h'
  rcases e with e | e
  .exact⟨t,by rw[beq_iff_eq.mp e]⟩
  .exact⟨t,by rw[beq_iff_eq.mp e]⟩
def Itd (o:Obj)(kvs:List (Key×V))(a:AE):It:=
 ⟨λi H=>H a=some (.frz o (.dK kvs))/\i<kvs.length,λi H x H'=>H'=H/\∃p,kvs[i]?=some p/\x=kV p.1,λi H=>H a=some (.frz o (.dK kvs))/\kvs.length<=i⟩
theorem KV.getK (r:KV kvs vs):∀ {i:Nat} {p:Key×V},kvs[i]?=some p->∃v,vs[i]?=some (p.1,v):=by
 intro i p h;have hk:=r.keys;have hl:=r.length;have hi:i<vs.length:=by rw[<-hl];exact(YAU.mp h).1
 have e1:(kvs.map (·.1))[i]?=some p.1:=by rw[YAQ,h];rfl
 rw[hk,YAQ,YAL hi]at e1;refine⟨vs[i].2,?_⟩;rw[YAL hi];have:vs[i].1=p.1:=Option.some.inj e1;rw[<-this]
theorem Ziy {P:AH}{w:AJ}{K:Q4}{tg:Expr}{o:Obj}{es:Array DictEntry}{ep:Nat}{kvs:List (Key×V)}(a it:AE)(hd:o.data=.dict es ep):Turn P w K tg (Itd o kvs a) [it] it (λi h=>h.IsKeyIter it a i kvs.length ep) where
 mem:=by simp
 obj:=λi h st b hb=>by
  have e:b=it:=by simpa using hb
  subst e;obtain⟨o,e,c,d⟩:=st;exact⟨o,e,λv z=>by rw[d]at z;cases z⟩
 keep:=λi h h' st k=>let ⟨o,ho,r⟩:=st;⟨o,k it (by simp) o ho,r⟩
 item:=by intro X hP hw hK hc i Ar s U H E I hf st hg;subst hP hw hK;obtain⟨ha,hi⟩:=hg;obtain⟨e,z,y,vs,r,o',es',ep',e',c1,c2,c3⟩:=I.hok a _ ha;rw[e]at e';cases e';rw[hd]at c2;cases c2;obtain⟨v,hv⟩:=r.getK (YAL hi);obtain⟨f0,f1,f2,f3,f4,f5⟩:=hf it (by simp);rw[r.length]at st;refine wpAny_pyNext_dict_item st ⟨o,es,e,c1,hd,c3⟩ hv λkey h' hk st' sb=>?_;have I1:Inv X Ar U H { s with heap:=h' }:=I.turned (t':=s.toks) (λb o hb e=>(sb.2 b hb).trans e) f0 f1 f3 f4 f5;obtain⟨oi,ei,ci,di⟩:=id st';rw[<-r.length]at st';exact⟨key,rfl,ZkN (s:={ s with heap:=h' }) ei ci di (by decide) ⟨kV kvs[i].1,H,I1,ZmF hk,⟨rfl,_,YAL hi,rfl⟩,st',λb hb=>(hf b hb).1⟩⟩
 done:=by intro X hP hw hK hc i Ar s U H E I hf st hg;subst hP hw hK;obtain⟨ha,hi⟩:=hg;obtain⟨e,z,y,vs,r,o',es',ep',e',c1,c2,c3⟩:=I.hok a _ ha;rw[e]at e';cases e';rw[hd]at c2;cases c2;obtain⟨f0,f1,f2,f3,f4,f5⟩:=hf it (by simp);rw[r.length]at st hi;exact wpAny_pyNext_dict_end (I.ok.hd hc) st ⟨o,es,e,c1,hd,c3⟩ (YBb hi) λh' eb=>⟨rfl,I.turned (t':=s.toks) (λb o hb e=>eb b o hb e) f0 f1 f3 f4 f5⟩
 self:=λ_ _ _ _ _ st h=>wpAny_pyIter_keyiter st h
section
def ZoV (td:TE):TI:=λU H R=>td U H λx H1=>∃a kvs,x=.ref a/\H1 a=some (.dK kvs)/\∀o,R (Itd o kvs a) (upd H1 a (.frz o (.dK kvs)))
theorem ZeW (hl:PE X l tl):PI X tg l (ZoV tl):=by
 intro Ar s U H R I h;refine thn (hl Ar s U H _ I h) λv s1 zz=>?_;obtain⟨x,H1,I1,r1,q1⟩:=zz;obtain⟨a,kvs,e,hq,q⟩:=q1;subst e;cases r1;obtain⟨z,y,vs,r,_⟩:=id (I1.hok a _ hq);obtain⟨o,es,ep,hd,ho,I2⟩:=I1.freezeD hq;obtain⟨_,z2,y2,vs2,r2,o',es',ep',e',c1,c2,c3⟩:=I2.hok a _ Zae;rw[ho]at e';cases e';rw[hd]at c2;cases c2;refine wpAny_pyIter_dict y2 ⟨o,es,ho,c1,hd,c3⟩ ?_;refine⟨s1.heap.objs.size,[s1.heap.objs.size],_,_,_,rfl,I2.kept (t':=s1.toks) λb o e=>YAE _ e,Ziy (kvs:=kvs) a _ hd,⟨_,YAY _ rfl,rfl,by rw[r2.length];rfl⟩,λb hb=>?_,q o⟩;have e:b=s1.heap.objs.size:=by simpa using hb
 subst e;exact I2.fpOk (YAP _) (I2.hok.fresh (YAP _))
def Thw (a:AE)(P:Hp->Prop)(H':Hp):Prop:=∃o kvs,H' a=some (.frz o (.dK kvs))/\P (upd H' a (.dK kvs))
noncomputable def thD (a:AE)(D:Ends):Ends:={ nx:=λU H=>Thw a (D.nx U) H,rt:=λv H=>Thw a (D.rt v) H,bk:=λU H=>Thw a (D.bk U) H,ct:=λU H=>Thw a (D.ct U) H }
def ZnH (ts:TS):TS:=λD U H=>∃a kvs,H a=some (.dK kvs)/\ts (thD a D) U H
theorem ZeU {st:Stmt}{ts:TS}(h:PS X st ts):PS X st (ZnH ts):=by
 intro Ar s U H D I ⟨a,kvs,ha,hh⟩;have nf:=I.notFrz ha λo v q=>by cases q
 refine YBZ (h Ar s U H _ I hh) (λf s1 q=>?_) λ_ _ z=>z;cases f with
 | next=>obtain⟨U1,H1,I1,o,k1,e1,q1⟩:=q;exact⟨U1,_,I1.thawD e1 nf,q1⟩
 | brk=>obtain⟨U1,H1,I1,o,k1,e1,q1⟩:=q;exact⟨U1,_,I1.thawD e1 nf,q1⟩
 | cont=>obtain⟨U1,H1,I1,o,k1,e1,q1⟩:=q;exact⟨U1,_,I1.thawD e1 nf,q1⟩
 | ret u=>obtain⟨v,U1,H1,I1,r,o,k1,e1,q1⟩:=q;exact⟨v,U1,_,I1.thawD e1 nf,r,q1⟩
end
section
theorem ForRun.dict (Pv:Nat->St->Hp->Prop)(h0:Pv 0 U H)(hl:∀i U H,Pv i U H->H a=some (.frz o (.dK kvs)))
  (hs:∀i p U H,kvs[i]?=some p->Pv i U H->g (kV p.1) U H λU2 H2=>tb { D with nx:=Pv (i+1),ct:=Pv (i+1),bk:=D.nx } U2 H2) (hd:∀U H,Pv kvs.length U H->D.nx U H):ForRun (Itd o kvs a) g tb D U H:=by
 refine⟨λi m U H=>m=kvs.length-i/\i<=kvs.length/\Pv i U H,⟨kvs.length,by simp,YAt _,h0⟩,?_⟩;rintro i m U H ⟨rfl,hi,p⟩;have q:=hl i U H p;by_cases A2:i<kvs.length
 .refine .inr ⟨⟨q,A2⟩,Pv (i+1),λU' H' p'=>⟨kvs.length-(i+1),by lia,rfl,A2,p'⟩,λx H' y=>?_⟩;obtain⟨e,p2,e2,e3⟩:=y;subst e e3;exact hs i p2 U _ e2 p
 .have e:i=kvs.length:=by lia
  subst e;exact .inl ⟨⟨q,YAP _⟩,hd U H p⟩
end
theorem Ze8:typeLookup (.type "dict") "__len__"=pure (some (.builtin "dict.__len__")):=by rw[typeLookup_type,builtinLookup_eq_fast];kernel_rfl
theorem ZcH:∀ {vs:List V} {us:AD},vs.length=us.length->(∀(i:Nat) (x:V) (u:Value),vs[i]?=some x->us[i]?=some u->RelV x u)->Vals vs us
 | [],[],_,_=>.nil
 | [],_::_,h,_=>by simp at h
 | _::_,[],h,_=>by simp at h
 | x::vs,u::us,h,r=>.cons (r 0 x u rfl rfl) (ZcH (by simpa using h) λi y v h1 h2=>r (i+1) y v h1 h2)
section
theorem Zdn (hh:A.handled=none)(hd:(S == sysModules)=false)(hS:s.heap.DictAt (ZaB prog w) S ls ep)(hn:ls.length<=sizeLine)
  (hQ:∀(s':AF) (vs:AD),(∀b o,s.heap.get? b=some o->s'.heap.get? b=some o)->s'.gens=s.gens->s'.os=s.os->Vals (ls.map λp=>kV p.1) vs->Q vs s'):wpAny (model prog w) A (collect (.ref S)) Q E s:=by
 unfold collect;refine YAA (wpAny_runValue (codeAny_builtin F.entry_proto_collect ?_));rw[YCH F.plain_proto_collect _];show wpAny _ A.in1 (newList [] >>= λl=>again (.builtin "list.__iadd__" ⟨[l,.ref S],[]⟩)) _ _ s;refine YAA (YBt (YAD ⟨plainId_quiet F.plain_list_iadd _,codeAny_builtin F.entry_list_iadd ?_⟩));rw[YCH F.plain_list_iadd _];generalize hH:s.heap.push { cls:=.type "list",data:=.seq ([]:AD).toArray }=H;have hHs:H.objs.size=s.heap.objs.size+1:=by rw[<-hH,YBm]
 have hL:H.get? s.heap.objs.size=some { cls:=.type "list",data:=.seq ([]:AD).toArray }:=hH▸YAY _ rfl;have k1:∀b o,s.heap.get? b=some o->H.get? b=some o:=λb o e=>hH▸YAE _ e;have hS1:H.DictAt (ZaB prog w) S ls ep:=hS.keep k1;have hT:Shared.TypeIs { s with heap:=H } (.ref S) "dict":=hS1.dictOf.typeIs;have nS:S≠s.heap.objs.size:=YAe hS.lt_size;show wpAny _ A.in1 (Builtin.List.listExtendWith (.ref s.heap.objs.size) (.ref S) (.ref s.heap.objs.size)) _ _ { s with heap:=H };unfold Builtin.List.listExtendWith;refine YAA (wpAny_typeOf hT ?_);have h1:Builtin.List.listSameRef (.ref s.heap.objs.size) (.ref S)=false:=by simp[Builtin.List.listSameRef,YAk nS]
 have h2:(Value.type "dict" == Value.type "list")=false:=by decide
 have h3:(Value.type "dict" == Value.type "tuple")=false:=by decide
 simp only[h1,h2,h3,Bool.or_false,YCj,if_false];refine YAA (wpAny_pyIter_dict (s:={ s with heap:=H }) hd hS1 ?_);obtain⟨I,hI0⟩:∃I,I=H.objs.size:=⟨_,rfl⟩;obtain⟨h2',hh2⟩:∃h2',h2'=H.push { cls:=.type "dict_keyiterator",data:=.fields #[.ref S,.int 0 0,.int ls.length 0,.int ep 0] }:=⟨_,rfl⟩;rw[<-hh2];show wpAny _ A.in1 (holding [.ref H.objs.size] (Builtin.List.listLengthHint (.ref S)) >>= _) _ _ _;rw[<-hI0];have k2:∀b o,H.get? b=some o->h2'.get? b=some o:=λb o e=>by rw[hh2];exact YAE _ e
 have hI:H.objs.size<=I:=YCo hI0.symm;have nI:S≠I:=by rw[hI0];exact YAe hS1.lt_size
 have st0:h2'.IsKeyIter I S 0 ls.length ep:=⟨_,by rw[hh2,hI0];exact YAY _ rfl,rfl,rfl⟩;have hS2:h2'.DictAt (ZaB prog w) S ls ep:=hS1.keep k2;have W:∀A':AI,A'.handled=none->_:=λA' hA=>Walks.dictKeys (prog:=prog) (w:=w) (knd:=ZaB prog w) (A:=A') hA I S nI ls ep;have st:=And.intro st0 hS2;have hfp:∀b∈[I,S],b=S\/H.objs.size<=b:=λb hb=>by
  rcases YAH.mp hb with z | z
  .exact .inr (by rw[z];exact hI)
  .exact .inl (by simpa using z)
 have hT2:Shared.TypeIs { s with heap:=h2' } (.ref S) "dict":=hS2.dictOf.typeIs;refine YAA (YBN ?_);unfold Builtin.List.listLengthHint;refine YAA (wpAny_specialOf hT2 Ze8 ?_)
 wp_delta
 refine YAA (YDU (T:="dict") (v:=.ref S) (b:=true) hT2 (by rw[isSubtype_type];kernel_rfl) ?_);show wpAny _ A.in1 (typeOf (Value.ref S) >>= λr=>_) _ _ _;refine YAA (wpAny_typeOf hT2 ?_);refine YAD ?_;rw[YAM (by decide)];refine YAA (YBs ?_);have hL2:h2'.get? s.heap.objs.size=some { cls:=.type "list",data:=.seq ([]:AD).toArray }:=k2 _ _ hL;refine YAA ?_;show wpAny _ A.in1 (updateSeq s.heap.objs.size (·.push .none) >>= λ_=>updateSeq s.heap.objs.size (·.pop)) _ _ _;refine YAA (wpAny_updateSeq hL2 rfl ?_);have hL3:=YBz (Obj.mapSeq (·.push Value.none)) hL2 rfl;refine wpAny_updateSeq hL3 rfl ?_;have hL4:=YBz (Obj.mapSeq (·.pop)) hL3 rfl;have oth:∀b o,b≠s.heap.objs.size->h2'.get? b=some o->((h2'.update s.heap.objs.size (Obj.mapSeq (·.push Value.none))).update s.heap.objs.size (Obj.mapSeq (·.pop))).get? b=some o:=
  λb o hb e=>(YCe _ _ (YAk hb)).trans ((YCe _ _ (YAk hb)).trans e)
 have hle:s.heap.objs.size+1<=I:=by rw[<-hHs];exact hI
 have hSf:s.heap.objs.size∉[I,S]:=λz=>by
  rcases hfp _ z with q | q
  .exact nS q.symm
  .have q':H.objs.size<=s.heap.objs.size:=q;rw[hHs]at q';exact absurd q' (Nat.not_succ_le_self _)
 refine YAD ⟨plainId_quiet F.plain_extend_loop _,codeAny_extend_loopS (W A.in1 hh).toS hn _ hSf _ ls.length 0 _ _ _ rfl (YAt _) ((W A.in1 hh).frame 0 h2' _ st λb hb o e=>oth b o (λz=>hSf (z▸hb)) e) hL4 (ItemsOf.nil _) λs' acc' c' hm hS' Av=>?_⟩;show wpAny _ A (load s.heap.objs.size >>= λr=>_) _ _ s';refine YAA (wpAny_load hS' ?_);have hvs:Vals (ls.map λp=>kV p.1) acc'.toList:=by refine ZcH (by rw[YAB];exact(Array.length_toList.trans Av.1).symm) λi x u h1 h2=>?_;rw[YAr]at h2;obtain⟨k,v,e,hk⟩:=Av.2 i u h2;rw[YAQ,e]at h1;cases h1;exact ZmF hk
 have done:=hQ s' acc'.toList (λb o e=>by
  have A2:=YAN e;refine hm.heap b o (λz=>?_) (oth b o (YAe A2) (k2 b o (k1 b o e)));rcases YAH.mp z with q | q
  .rw[q]at A2;exact YBE _ A2
  .have q:b=I:=by simpa using q
   rw[q]at A2;exact absurd A2 (Nat.not_lt.mpr (Nat.le_of_succ_le hle))) hm.gens hm.os hvs
 exact YAD done
end
def kTx (l:Q11):Key:=.inr ⟨l.toArray⟩
theorem ZkI (l:Q11):kV (kTx l)=tx l:=rfl
section
end
noncomputable def gal:Bool->Keyed->Array Keyed->Nat->Nat->Nat->StateT SortSt Sem (Option Nat):=sortPriv% PySem.Builtin.gallop
noncomputable def galB (bey:Nat->StateT SortSt Sem (Option Bool)) (n h:Nat):StateT SortSt Sem (Option Nat):=do
  let mut la:=0
  let mut o:=1
  let mut lo:=0
  let mut hi:=0
  let some rt <-bey h | return none
  if rt then
   let mx:=n-h
   for _ in [0:n] do
    if o>=mx then break
    let some mo <-bey (h+o) | return none
    if !mo then break
    la:=o
    o:=2*o+1
   lo:=h+la+1
   hi:=h+min o mx
  else
   let mx:=h+1
   for _ in [0:n] do
    if o>=mx then break
    let some fo <-bey (h-o) | return none
    if fo then break
    la:=o
    o:=2*o+1
   lo:=h+1-min o mx
   hi:=h-la
  for _ in [0:n] do
   if lo>=hi then break
   let m:=lo+(hi-lo)/2
   let some mo <-bey m | return none
   if mo then lo:=m+1 else hi:=m
  return some hi
noncomputable def beyOf (lf:Bool) (ky:Keyed) (ar:Array Keyed) (bs:Nat) (i:Nat):StateT SortSt Sem (Option Bool):=do
 let x <-elem' ar (bs+i)
 if lf then lt' x ky else return (<-lt' ky x).map (!·)
theorem ZoY (lf:Bool)(ky:Keyed)(ar:Array Keyed)(bs n h:Nat):gal lf ky ar bs n h=galB (beyOf lf ky ar bs) n h:=rfl
noncomputable def galT (bey:Nat->StateT SortSt Sem (Option Bool)) (n l0 h0:Nat):StateT SortSt Sem (Option Nat):=do
  let mut lo:=l0
  let mut hi:=h0
  for _ in [0:n] do
   if lo>=hi then break
   let m:=lo+(hi-lo)/2
   let some mo <-bey m | return none
   if mo then lo:=m+1 else hi:=m
  return some hi
section
variable {M:Model}{A:AI}{E:Q33}{s:AF}{bey:Nat->StateT SortSt Sem (Option Bool)}{B:Nat->Bool}{n h:Nat}{st:SortSt}{Q:Option Nat->SortSt->Prop}
noncomputable def Parts (B:Nat->Bool) (n lo hi:Nat):Prop:=(∀i,i<lo->B i=true)/\∀i,hi<=i->i<n->B i=false
theorem ZmL {lo hi:Nat}(hb:∀i (Q:Option Bool->SortSt->Prop),i<n->Q (some (B i)) st->wpS M A E s (bey i) Q st)(mono:∀i j,i<=j->j<n->B j=true->B i=true)(h1:lo<=hi)(h2:hi<=n)(hp:Parts B n lo hi)
  (q:∀k,k<=n->Parts B n k k->Q (some k) st):wpS M A E s (galT bey n lo hi) Q st:=by
 unfold galT;refine YAS (YCL (YBa (I:=λi c st'=>st'=st/\∃lo hi,c=(none,lo,hi)/\lo<=hi/\hi<=n/\hi-lo<=n-i/\Parts B n lo hi) (Q:=λc st'=>st'=st/\∃k,c=(none,k,k)/\k<=n/\Parts B n k k) ?step ?fin ⟨rfl,lo,hi,rfl,h1,h2,by lia,hp⟩) ?post)
 case step=>
  rintro i c st' _ hi' ⟨rfl,lo,hi,rfl,h1,h2,h3,hp⟩;dsimp only;by_cases hl:lo>=hi
  .have e:lo=hi:=by lia
   subst e;rw[YAM hl];exact YAc ⟨rfl,lo,rfl,h2,hp⟩
  .rw[YAJ hl];have hm1:lo<=lo+(hi-lo)/2:=by lia
   have hm2:lo+(hi-lo)/2<hi:=by lia
   generalize lo+(hi-lo)/2=m at hm1 hm2;refine YAS (hb m _ (by lia) ?_);cases hB:B m with
   | true=>exact YAc ⟨rfl,m+1,hi,rfl,by lia,h2,by lia,λi hi=>mono i m (by lia) (by lia) hB,hp.2⟩
   | false=>
    refine YAc ⟨rfl,lo,m,rfl,by lia,by lia,by lia,hp.1,λi hi hn=>?_⟩;cases hx:B i with
    | false=>rfl
    | true=>rw[mono m i hi hn hx]at hB;cases hB
 case fin=>
  rintro c st' ⟨rfl,lo,hi,rfl,h1,h2,h3,hp⟩;have e:lo=hi:=by lia
  subst e;exact⟨rfl,lo,rfl,h2,hp⟩
 case post=>
  rintro c st' ⟨rfl,k,rfl,hk,hp⟩;exact YAc (q k hk hp)
theorem ZmM (hh:h<n)
  (hb:∀i (Q:Option Bool->SortSt->Prop),i<n->Q (some (B i)) st->wpS M A E s (bey i) Q st) (mono:∀i j,i<=j->j<n->B j=true->B i=true)
  (q:∀k,k<=n->Parts B n k k->Q (some k) st):wpS M A E s (galB bey n h) Q st:=by
 have anti:∀ {i j},B i=false->i<=j->j<n->B j=false:=λ{i j} h1 h2 h3=>by
  cases hx:B j with
  | false=>rfl
  | true=>rw[mono i j h2 h3 hx]at h1;cases h1
 have jp:∀lo hi,lo<=hi->hi<=n->Parts B n lo hi->wpS M A E s (galT bey n lo hi) Q st:=λlo hi a b c=>ZmL hb mono a b c q;unfold galB;refine YAS (hb h _ hh ?_);cases hB:B h with
 | true=>
  dsimp only;rw[YAM rfl];refine YAS (YCL (YBa (I:=λi c st'=>st'=st/\∃la o,c=(none,la,o)/\i<o/\la<o/\h+la<n/\B (h+la)=true) (Q:=λc st'=>st'=st/\∃la o,c=(none,la,o)/\la<o/\h+la<n/\B (h+la)=true/\(n-h<=o\/B (h+o)=false)) ?step ?fin ⟨rfl,0,1,rfl,by lia,by lia,by lia,hB⟩) ?post)
  case step=>
   rintro i c st' _ hi' ⟨rfl,la,o,rfl,h1,h2,h3,h4⟩;dsimp only;by_cases hl:o>=n-h
   .rw[YAM hl];exact YAc ⟨rfl,la,o,rfl,h2,h3,h4,.inl hl⟩
   .rw[YAJ hl];refine YAS (hb (h+o) _ (by lia) ?_);cases hx:B (h+o) with
    | false=>exact YAc ⟨rfl,la,o,rfl,h2,h3,h4,.inr hx⟩
    | true=>exact YAc ⟨rfl,o,2*o+1,rfl,by lia,by lia,by lia,hx⟩
  case fin=>
   rintro c st' ⟨rfl,la,o,rfl,h1,h2,h3,h4⟩;exact⟨rfl,la,o,rfl,h2,h3,h4,.inl (by lia)⟩
  case post=>
   rintro c st' ⟨rfl,la,o,rfl,h2,h3,h4,h5⟩;refine jp (h+la+1) (h+min o (n-h)) (by lia) (by lia) ⟨λi hi=>mono i (h+la) (by lia) h3 h4,λi hi hn=>?_⟩;rcases h5 with h5 | h5
   .lia
   .exact anti h5 (by lia) hn
 | false=>
  dsimp only;rw[YAJ YAC];refine YAS (YCL (YBa (I:=λi c st'=>st'=st/\∃la o,c=(none,la,o)/\i<o/\la<o/\la<=h/\B (h-la)=false) (Q:=λc st'=>st'=st/\∃la o,c=(none,la,o)/\la<o/\la<=h/\B (h-la)=false/\(h+1<=o\/(o<=h/\B (h-o)=true))) ?step2 ?fin2 ⟨rfl,0,1,rfl,by lia,by lia,by lia,hB⟩) ?post2)
  case step2=>
   rintro i c st' _ hi' ⟨rfl,la,o,rfl,h1,h2,h3,h4⟩;dsimp only;by_cases hl:o>=h+1
   .rw[YAM hl];exact YAc ⟨rfl,la,o,rfl,h2,h3,h4,.inl hl⟩
   .rw[YAJ hl];refine YAS (hb (h-o) _ (by lia) ?_);cases hx:B (h-o) with
    | true=>exact YAc ⟨rfl,la,o,rfl,h2,h3,h4,.inr ⟨by lia,hx⟩⟩
    | false=>exact YAc ⟨rfl,o,2*o+1,rfl,by lia,by lia,by lia,hx⟩
  case fin2=>
   rintro c st' ⟨rfl,la,o,rfl,h1,h2,h3,h4⟩;exact⟨rfl,la,o,rfl,h2,h3,h4,.inl (by lia)⟩
  case post2=>
   rintro c st' ⟨rfl,la,o,rfl,h2,h3,h4,h5⟩;refine jp (h+1-min o (h+1)) (h-la) (by lia) (by lia) ⟨λi hi=>?_,λi hi hn=>anti h4 hi hn⟩;rcases h5 with h5 | ⟨h5,h6⟩
   .lia
   .exact mono i (h-o) (by lia) (by lia) h6
end
structure Cmp (D:Keyed->Prop)(L:Keyed->Keyed->Bool):Prop where
 asym:∀x y,D x->D y->L x y=true->L y x=false
 tr:∀x y z,D x->D y->D z->L y x=false->L z y=false->L z x=false
abbrev Le (L:Keyed->Keyed->Bool)(x y:Keyed):Prop:=L y x=false
structure MS (D:Keyed->Prop)(L:Keyed->Keyed->Bool)(T:List Keyed)(o x y:List Keyed):Prop where
 perm:(o++(x++y)).Perm T
 so:o.Pairwise (Le L)
 ox:∀u∈o,∀v∈x,Le L u v
 oy:∀u∈o,∀v∈y,Le L u v
 sx:x.Pairwise (Le L)
 sy:y.Pairwise (Le L)
section
theorem MS.movX (h:MS D L T o (p++x) y)(hp:∀u∈p,∀v∈y,Le L u v):MS D L T (o++p) x y:=by
 obtain⟨h1,h2,h3,h4,h5,h6⟩:=h;rw[YAq]at h5;refine⟨by simpa [YAj] using h1,YAq.mpr ⟨h2,h5.1,λu hu v hv=>h3 u hu v (by simp[hv])⟩,?_,?_,h5.2.1,h6⟩
 .intro u hu v hv;rcases YAR.mp hu with hu | hu
  .exact h3 u hu v (by simp[hv])
  .exact h5.2.2 u hu v hv
 .intro u hu v hv;rcases YAR.mp hu with hu | hu
  .exact h4 u hu v hv
  .exact hp u hu v hv
theorem MS.swap (h:MS D L T o x y):MS D L T o y x:=
 ⟨(YDS o List.perm_append_comm).trans h.perm,h.so,h.oy,h.ox,h.sy,h.sx⟩
theorem MS.movY (h:MS D L T o x (p++y))(hp:∀u∈p,∀v∈x,Le L u v):MS D L T (o++p) x y:=(h.swap.movX hp).swap
theorem MS.fin (h:MS D L T o x []):(o++x).Perm T/\(o++x).Pairwise (Le L):=
 ⟨by simpa using h.perm,YAq.mpr ⟨h.so,h.sx,h.ox⟩⟩
theorem MS.all (h:MS D L T o x y)(hxy:∀u∈x,∀v∈y,Le L u v):(o++x++y).Perm T/\(o++x++y).Pairwise (Le L):=by have:=(MS.movX (x:=[]) (by simpa using h) hxy).swap.fin;simpa using this
end
noncomputable def mLo:Array Keyed->Array Keyed->StateT SortSt Sem (Array Keyed):=sortPriv% PySem.Builtin.mergeLo
noncomputable abbrev ZaI (st:SortSt)(g:Nat):SortSt:=SortSt.mk' (kindOf st) (arrOf st) (pendingOf st) g (failedOf st)
noncomputable def setG (g:Nat):StateT SortSt Sem Unit:=modify λs=>ZaI s g
noncomputable def mLoB (p q:Array Keyed):StateT SortSt Sem (Array Keyed):=do
 rule "list.sort.merge-lo"
 let tt:=p.size+q.size
 let dn (o:Array Keyed) (i j:Nat):=o++p.extract i p.size++q.extract j q.size
 let lp (o:Array Keyed) (i j:Nat):=o++q.extract j q.size++p.extract i p.size
 let mut o:Array Keyed:=#[<-elem' q 0]
 let mut i:=0
 let mut j:=1
 if j == q.size then return dn o i j
 if i+1 == p.size then return lp o i j
 let mut mg:=gallopOf (<-get)
 for _ in [0:tt] do
  let mut ca:=0
  let mut cb:=0
  for _ in [0:tt] do
   let some wn <-lt' (<-elem' q j) (<-elem' p i) | return dn o i j
   if wn then
    o:=o.push (<-elem' q j);j:=j+1;cb:=cb+1;ca:=0
    if j == q.size then return dn o i j
    if cb>=mg then break
   else
    o:=o.push (<-elem' p i);i:=i+1;ca:=ca+1;cb:=0
    if i+1 == p.size then return lp o i j
    if ca>=mg then break
  rule "list.sort.gallop"
  mg:=mg+1
  for _ in [0:tt] do
   if mg>1 then mg:=mg-1
   setG mg
   let some k <-gal false (<-elem' q j) p i (p.size-i) 0 | return dn o i j
   ca:=k
   if k>0 then
    o:=o++p.extract i (i+k);i:=i+k
    if i+1 == p.size then return lp o i j
    if i == p.size then return dn o i j
   o:=o.push (<-elem' q j);j:=j+1
   if j == q.size then return dn o i j
   let some k <-gal true (<-elem' p i) q j (q.size-j) 0 | return dn o i j
   cb:=k
   if k>0 then
    o:=o++q.extract j (j+k);j:=j+k
    if j == q.size then return dn o i j
   o:=o.push (<-elem' p i);i:=i+1
   if i+1 == p.size then return lp o i j
   if ca<7&&cb<7 then break
  mg:=mg+1
  setG mg
 unsupported "internal:list.sort.merge-bound"
theorem Zou (p q:Array Keyed):mLo p q=mLoB p q:=rfl
section
noncomputable def PureC (M:Model) (A:AI) (E:Q33) (s:AF) (D:Keyed->Prop) (L:Keyed->Keyed->Bool) (kd:SortKind):Prop:=
 ∀(st:SortSt) (x y:Keyed) (Q:Option Bool->SortSt->Prop),kindOf st=kd->D x->D y->Q (some (L x y)) st->wpS M A E s (lt' x y) Q st
theorem Zbd {ar:Array Keyed}{i:Nat}{x:Keyed}{Q:Keyed->SortSt->Prop}{st:SortSt}(h:ar[i]?=some x)(q:Q x st):wpS M A E s (elem' ar i) Q st:=by rw[elem'_eq,h];exact YAc q
theorem Zez (hC:Cmp D L)(hP:PureC M A E s D L kd){lf:Bool}{ky:Keyed}{ar:Array Keyed}{bs n h:Nat}{st:SortSt}{Q:Option Nat->SortSt->Prop}(hk:kindOf st=kd)
  (hn:bs+n<=ar.size) (hh:h<n) (hy:D ky) (hd:∀u∈ar.toList,D u) (hs:((ar.toList.drop bs).take n).Pairwise (Le L))
  (q:∀k,k<=n->(∀u∈((ar.toList.drop bs).take n).take k,if lf then L u ky=true else Le L u ky)->(∀u∈((ar.toList.drop bs).take n).drop k,if lf then Le L ky u else L ky u=true)->Q (some k) st):
  wpS M A E s (gal lf ky ar bs n h) Q st:=by
 rw[ZoY];obtain⟨xs,hxs⟩:∃xs,xs=(ar.toList.drop bs).take n:=⟨_,rfl⟩;rw[<-hxs]at hs q;have Au:xs.length=n:=by rw[hxs,YAW,YAp,YAF];lia
 have hat:∀i (hi:i<xs.length),ar[bs+i]?=some xs[i]:=by intro i hi;have:xs[i]?=some xs[i]:=YAL hi;rw[<-this,hxs,YCg,YAM (by lia),YCh,YAr]
 have hdx:∀u∈xs,D u:=λu hu=>hd u (YAg (YAZ (hxs▸hu)));refine ZmM (B:=λi=>if hi:i<xs.length then (if lf then L xs[i] ky else !L ky xs[i]) else false) hh ?_ ?_ ?_
 .intro i Q hi hq;have hi':i<xs.length:=by lia
  rw[dif_pos hi']at hq;refine YAS (Zbd (hat i hi') ?_);have hD:=hdx _ (YCE hi');cases lf with
  | true=>exact hP st _ _ _ hk hD hy hq
  | false=>exact YAS (hP st _ _ _ hk hy hD (YAc hq))
 .intro i j hij hj;have hj':j<xs.length:=by lia
  have hi':i<xs.length:=by lia
  rw[dif_pos hj',dif_pos hi'];by_cases e:i=j
  .subst e;exact id
  .have hle:Le L xs[i] xs[j]:=YCy.mp hs i j hi' hj' (by lia);have hDi:=hdx _ (YCE hi');have hDj:=hdx _ (YCE hj');cases lf with
   | true=>
    rw[YAM rfl,YAM rfl];intro h1;cases h2:L xs[i] ky with
    | true=>rfl
    | false=>rw[hC.tr ky _ _ hy hDi hDj h2 hle]at h1;cases h1
   | false=>
    rw[YAJ YAC,YAJ YAC];intro h1;rw[Bool.not_eq_true']at h1 ⊢;exact hC.tr _ _ ky hDi hDj hy hle h1
 .intro k hk' hp;refine q k hk' (λu hu=>?_) (λu hu=>?_)
  .obtain⟨i,hi,rfl⟩:=YBw hu;rw[YAW]at hi;have:=hp.1 i (by lia);dsimp only at this;rw[dif_pos (by lia)]at this;rw[List.getElem_take];cases lf with
   | true=>exact this
   | false=>simpa using this
  .obtain⟨i,hi,rfl⟩:=YBw hu;rw[YAp]at hi;have:=hp.2 (k+i) (by lia) (by lia);dsimp only at this;rw[dif_pos (by lia)]at this;rw[List.getElem_drop];cases lf with
   | true=>exact this
   | false=>simpa using this
end
abbrev LoC:=Option (Array Keyed)×Array Keyed×Nat×Nat×Nat×Nat×Nat
noncomputable def dnf (p q o:Array Keyed) (i j:Nat):Array Keyed:=o++p.extract i p.size++q.extract j q.size
noncomputable def lpf (p q o:Array Keyed) (i j:Nat):Array Keyed:=o++q.extract j q.size++p.extract i p.size
noncomputable def loE (p q o:Array Keyed) (i j mg ca cb:Nat):StateT SortSt Sem (ForInStep LoC):=do
 let e <-elem' p i
 if (i+1+1 == p.size)=true then pure (ForInStep.done (some (lpf p q (o.push e) (i+1) j),o.push e,i+1,j,mg,ca,cb))
 else if (decide (ca<7)&&decide (cb<7))=true then pure (ForInStep.done (none,o.push e,i+1,j,mg,ca,cb))
 else pure (ForInStep.yield (none,o.push e,i+1,j,mg,ca,cb))
noncomputable def loD (p q o:Array Keyed) (i j mg ca cb:Nat):StateT SortSt Sem (ForInStep LoC):=do
 let e <-elem' q j
 if (j+1 == q.size)=true then pure (ForInStep.done (some (dnf p q (o.push e) i (j+1)),o.push e,i,j+1,mg,ca,cb))
 else do
  let some k <-gal true (<-elem' p i) q (j+1) (q.size-(j+1)) 0 | pure (ForInStep.done (some (dnf p q (o.push e) i (j+1)),o.push e,i,j+1,mg,ca,cb))
  if k>0 then
   if (j+1+k == q.size)=true then pure (ForInStep.done (some (dnf p q (o.push e++q.extract (j+1) (j+1+k)) i (j+1+k)),o.push e++q.extract (j+1) (j+1+k),i,j+1+k,mg,ca,k))
   else loE p q (o.push e++q.extract (j+1) (j+1+k)) i (j+1+k) mg ca k
  else loE p q (o.push e) i (j+1) mg ca k
noncomputable def loF (p q o:Array Keyed) (i j mg ca cb:Nat):StateT SortSt Sem (ForInStep LoC):=do
 setG mg
 let some k <-gal false (<-elem' q j) p i (p.size-i) 0 | pure (ForInStep.done (some (dnf p q o i j),o,i,j,mg,ca,cb))
 if k>0 then
  if (i+k+1 == p.size)=true then pure (ForInStep.done (some (lpf p q (o++p.extract i (i+k)) (i+k) j),o++p.extract i (i+k),i+k,j,mg,k,cb))
  else if (i+k == p.size)=true then pure (ForInStep.done (some (dnf p q (o++p.extract i (i+k)) (i+k) j),o++p.extract i (i+k),i+k,j,mg,k,cb))
  else loD p q (o++p.extract i (i+k)) (i+k) j mg k cb
 else loD p q o i j mg k cb
section
variable {M:Model}{A:AI}{E:Q33}{s:AF}{D:Keyed->Prop}{L:Keyed->Keyed->Bool}{kd:SortKind}{p q:Array Keyed}{T:List Keyed}{st:SortSt}
structure LoI (D:Keyed->Prop)(L:Keyed->Keyed->Bool)(p q:Array Keyed)(T:List Keyed)(o:Array Keyed)(i j:Nat):Prop where
 ms:MS D L T o.toList (p.toList.drop i) (q.toList.drop j)
 li:i+1<p.size
 lj:j<q.size
noncomputable def Fin1 (L:Keyed->Keyed->Bool) (T:List Keyed) (z:Array Keyed):Prop:=z.toList.Perm T/\z.toList.Pairwise (Le L)
theorem Zf4 (h:p[i]?=some e):p.toList.drop i=e::p.toList.drop (i+1):=by obtain⟨hi,rfl⟩:=Array.getElem?_eq_some_iff.mp h;rw[<-Array.getElem_toList];exact YCz (by simpa using hi)
theorem at? (h:i<p.size):∃e,p[i]?=some e/\e∈p.toList:=⟨p[i],getElem?_pos p i h,by simp⟩
theorem Zk2 (p q o:Array Keyed)(i j:Nat):(dnf p q o i j).toList=o.toList++p.toList.drop i++q.toList.drop j:=by unfold dnf;rw[YBQ,YBQ,YBK,YBK,List.extract,List.extract,YAv (by simp),YAv (by simp)]
theorem ZkB (p q o:Array Keyed)(i j:Nat):(lpf p q o i j).toList=o.toList++q.toList.drop j++p.toList.drop i:=by unfold lpf;rw[YBQ,YBQ,YBK,YBK,List.extract,List.extract,YAv (by simp),YAv (by simp)]
theorem Zf3 (p:Array Keyed)(i k:Nat):(p.extract i (i+k)).toList=(p.toList.drop i).take k:=by simp[YBK,List.extract]
theorem ZeD (l:List Keyed)(i k:Nat):l.drop i=(l.drop i).take k++l.drop (i+k):=by rw[<-YCI,YAu]
structure LoH (D:Keyed->Prop)(L:Keyed->Keyed->Bool)(p q:Array Keyed):Prop where
 dp:∀u∈p.toList,D u
 dq:∀u∈q.toList,D u
 sp:p.toList.Pairwise (Le L)
 sq:q.toList.Pairwise (Le L)
 last:∀u∈q.toList,∀v∈p.toList.drop (p.size-1),L u v=true
theorem LoH.fin_lp (hH:LoH D L p q)(hC:Cmp D L)(h:MS D L T o.toList (p.toList.drop i) (q.toList.drop j))(e:i+1=p.size):Fin1 L T (lpf p q o i j):=by
 unfold Fin1;rw[ZkB];refine h.swap.all λu hu v hv=>?_;have hu:=YAg hu;have e':i=p.size-1:=by lia
 subst e';exact hC.asym _ _ (hH.dq u hu) (hH.dp v (YAg hv)) (hH.last u hu v hv)
theorem ZhK (h:MS D L T o.toList (p.toList.drop i) (q.toList.drop j))(e:j=q.size):Fin1 L T (dnf p q o i j):=by unfold Fin1;rw[Zk2];have e2:q.toList.drop j=[]:=YBr (by simp;lia);rw[e2]at h ⊢;simpa using h.fin
noncomputable def LoQ (D:Keyed->Prop) (L:Keyed->Keyed->Bool) (p q:Array Keyed) (T:List Keyed) (w:Nat) (c:LoC):Prop:=
 ∃r o i j mg ca cb,c=(r,o,i,j,mg,ca,cb)/\((∃z,r=some z/\Fin1 L T z)\/(r=none/\LoI D L p q T o i j/\w<=i+j))
noncomputable def LoY (D:Keyed->Prop) (L:Keyed->Keyed->Bool) (p q:Array Keyed) (T:List Keyed) (w:Nat) (c:LoC):Prop:=
 ∃o i j mg ca cb,c=(none,o,i,j,mg,ca,cb)/\LoI D L p q T o i j/\w<=i+j
noncomputable def LoP (D:Keyed->Prop) (L:Keyed->Keyed->Bool) (p q:Array Keyed) (T:List Keyed) (w:Nat) (st:SortSt) (r:ForInStep LoC) (st':SortSt):Prop:=
 (∃g,st'=ZaI st g)/\match r with | .done c=>LoQ D L p q T w c | .yield c=>LoY D L p q T w c
theorem Zlq (hH:LoH D L p q)(hC:Cmp D L)(hi:i+1<p.size)(hj:j<q.size)(hw:w<=i+1+j)(h:MS D L T o.toList (p.toList.drop i) (q.toList.drop j))
  (hle:∀u∈(p.toList.drop i).take 1,∀v∈q.toList.drop j,Le L u v):wpS M A E s (loE p q o i j mg ca cb) (LoP D L p q T w st) (ZaI st g):=by
 obtain⟨e,he,hm⟩:=at? (p:=p) (i:=i) (by lia);have hd:=Zf4 he;have h2:MS D L T (o.push e).toList (p.toList.drop (i+1)) (q.toList.drop j):=by rw[YBd];rw[hd]at h hle;exact MS.movX (p:=[e]) h (λu hu v hv=>hle u (by simpa using hu) v hv)
 unfold loE;refine YAS (Zbd he ?_);by_cases c1:i+1+1=p.size
 .rw[YAM (by simpa using c1)];exact YAc ⟨⟨g,rfl⟩,_,_,_,_,_,_,_,rfl,.inl ⟨_,rfl,hH.fin_lp hC h2 c1⟩⟩
 .rw[YAJ (by simpa using c1)];have hI:LoI D L p q T (o.push e) (i+1) j:=⟨h2,by lia,hj⟩;split
  .exact YAc ⟨⟨g,rfl⟩,_,_,_,_,_,_,_,rfl,.inr ⟨rfl,hI,hw⟩⟩
  .exact YAc ⟨⟨g,rfl⟩,_,_,_,_,_,_,rfl,hI,hw⟩
theorem Zlr (hH:LoH D L p q)(hC:Cmp D L)(hP:PureC M A E s D L kd)(hk:kindOf st=kd)(hi:i+1<p.size)(hj:j<q.size)(hw:w<=i+1+j)(h:MS D L T o.toList (p.toList.drop i) (q.toList.drop j))
  (hle:∀u∈(q.toList.drop j).take 1,∀v∈p.toList.drop i,Le L u v):wpS M A E s (loD p q o i j mg ca cb) (LoP D L p q T w st) (ZaI st g):=by
 obtain⟨e,he,hm⟩:=at? (p:=q) (i:=j) hj;obtain⟨x,hx,hxm⟩:=at? (p:=p) (i:=i) (by lia);have hd:=Zf4 he;have h2:MS D L T (o.push e).toList (p.toList.drop i) (q.toList.drop (j+1)):=by rw[YBd];rw[hd]at h hle;exact MS.movY (p:=[e]) h (λu hu v hv=>hle u (by simpa using hu) v hv)
 unfold loD;refine YAS (Zbd he ?_);by_cases c1:j+1=q.size
 .rw[YAM (by simpa using c1)];exact YAc ⟨⟨g,rfl⟩,_,_,_,_,_,_,_,rfl,.inl ⟨_,rfl,ZhK h2 c1⟩⟩
 .rw[YAJ (by simpa using c1)];refine YAS (Zbd hx ?_);have et:(q.toList.drop (j+1)).take (q.size-(j+1))=q.toList.drop (j+1):=YAv (by simp);refine YAS (Zez hC hP (by exact hk) (by lia) (by lia) (hH.dp x hxm) hH.dq (by rw[et];exact h2.sy) ?_);rw[et];intro k hkn ha hb;replace ha:∀u∈(q.toList.drop (j+1)).take k,L u x=true:=ha;replace hb:∀u∈(q.toList.drop (j+1)).drop k,Le L x u:=hb;dsimp only;have hpd:=Zf4 hx;have hsx:=h2.sx;rw[hpd,YBB]at hsx;have xle:∀v∈p.toList.drop i,Le L x v:=by
   intro v hv;rw[hpd]at hv;rcases YAH.mp hv with rfl | hv
   .cases hx:L v v with
    | false=>exact hx
    | true=>exact hC.asym v v (hH.dp v hxm) (hH.dp v hxm) hx
   .exact hsx.1 v hv
  have h3:MS D L T (o.push e++q.extract (j+1) (j+1+k)).toList (p.toList.drop i) (q.toList.drop (j+1+k)):=by rw[YBQ,Zf3];rw[ZeD q.toList (j+1) k]at h2;refine h2.movY λu hu v hv=>?_;have hDu:=hH.dq u (YAg (YAZ hu));exact hC.tr u x v hDu (hH.dp x hxm) (hH.dp v (YAg hv)) (hC.asym u x hDu (hH.dp x hxm) (ha u hu)) (xle v hv)
  have hle2:∀u∈(p.toList.drop i).take 1,∀v∈q.toList.drop (j+1+k),Le L u v:=by
   intro u hu v hv;rw[hpd]at hu;have:u=x:=by simpa using hu
   subst this;exact hb v (by rwa [YCI])
  by_cases hk0:k>0
  .rw[YAM hk0];by_cases c2:j+1+k=q.size
   .rw[YAM (by simpa using c2)];exact YAc ⟨⟨g,rfl⟩,_,_,_,_,_,_,_,rfl,.inl ⟨_,rfl,ZhK h3 c2⟩⟩
   .rw[YAJ (by simpa using c2)];exact Zlq hH hC hi (by lia) (by lia) h3 hle2
  .rw[YAJ hk0];have:k=0:=by lia
   subst this;exact Zlq hH hC hi (by lia) (by lia) h2 hle2
theorem ZoA (hH:LoH D L p q)(hC:Cmp D L)(hP:PureC M A E s D L kd)(hk:kindOf st=kd)(hw:w<=i+1+j)(hI:LoI D L p q T o i j):
  wpS M A E s (loF p q o i j mg ca cb) (LoP D L p q T w st) (ZaI st g):=by
 obtain⟨h,hi,hj⟩:=hI;obtain⟨x,hx,hxm⟩:=at? (p:=q) (i:=j) hj;have hqd:=Zf4 hx;have hsy:=h.sy;rw[hqd,YBB]at hsy;have xle:∀v∈q.toList.drop j,Le L x v:=by
  intro v hv;rw[hqd]at hv;rcases YAH.mp hv with rfl | hv
  .cases hx:L v v with
   | false=>exact hx
   | true=>exact hC.asym v v (hH.dq v hxm) (hH.dq v hxm) hx
  .exact hsy.1 v hv
 unfold loF;refine YAS (YCU ?_);refine YAS (Zbd hx ?_);have et:(p.toList.drop i).take (p.size-i)=p.toList.drop i:=YAv (by simp);refine YAS (Zez hC hP (by exact hk) (by lia) (by lia) (hH.dq x hxm) hH.dp (by rw[et];exact h.sx) ?_);rw[et];intro k hkn ha hb;replace ha:∀u∈(p.toList.drop i).take k,Le L u x:=ha;replace hb:∀u∈(p.toList.drop i).drop k,L x u=true:=hb;dsimp only;have h3:MS D L T (o++p.extract i (i+k)).toList (p.toList.drop (i+k)) (q.toList.drop j):=by rw[YBQ,Zf3];rw[ZeD p.toList i k]at h;refine h.movX λu hu v hv=>?_;exact hC.tr u x v (hH.dp u (YAg (YAZ hu))) (hH.dq x hxm) (hH.dq v (YAg hv)) (ha u hu) (xle v hv)
 have hle2:∀u∈(q.toList.drop j).take 1,∀v∈p.toList.drop (i+k),Le L u v:=by
  intro u hu v hv;rw[hqd]at hu;have:u=x:=by simpa using hu
  subst this;have hv':v∈(p.toList.drop i).drop k:=by rwa [YCI]
  exact hC.asym u v (hH.dq u hxm) (hH.dp v (YAg hv)) (hb v hv')
 have hlast:i+k≠p.size:=by
  intro e;obtain⟨y,hy,hym⟩:=at? (p:=p) (i:=p.size-1) (by lia);have hyd:=Zf4 hy;have h5:=hH.last x hxm y (by rw[hyd];simp);have hy2:y∈(p.toList.drop i).take k:=by
   rw[YAv (by simp;lia)];have:y∈p.toList.drop (p.size-1):=by rw[hyd];simp
   rw[show p.size-1=i+(p.size-1-i) by lia,<-YCI]at this;exact YAg this
  have h6:=ha y hy2;rw[show L x y=false from h6]at h5;cases h5
 by_cases hk0:k>0
 .rw[YAM hk0];by_cases c2:i+k+1=p.size
  .rw[YAM (by simpa using c2)];exact YAc ⟨⟨_,rfl⟩,_,_,_,_,_,_,_,rfl,.inl ⟨_,rfl,hH.fin_lp hC h3 c2⟩⟩
  .rw[YAJ (by simpa using c2),YAJ (by simpa using hlast)];exact Zlr hH hC hP hk (by lia) hj (by lia) h3 hle2
 .rw[YAJ hk0];have:k=0:=by lia
  subst this;exact Zlr hH hC hP hk hi hj hw h hle2
theorem Zex {β γ:Type}{r:Std.Legacy.Range}{i:β}{F:Nat->β->StateT SortSt Sem (ForInStep β)}{G:β->StateT SortSt Sem γ}{M:Model}{A:AI}{E:Q33}{s:AF}{Q:γ->SortSt->Prop}{st:SortSt}(h:let F':=F;let G':=G;wpS M A E s (forIn r i F' >>= G') Q st):wpS M A E s (forIn r i F >>= G) Q st:=h
theorem Zot (hH:LoH D L p q)(hC:Cmp D L)(hP:PureC M A E s D L kd)(hk:kindOf st=kd)(hp:0<p.size)(hq:0<q.size)
  (h0:∀u∈q.toList.take 1,∀v∈p.toList,Le L u v) (hQ:∀z g,Fin1 L (p.toList++q.toList) z->Q z (ZaI st g)):wpS M A E s (mLo p q) Q st:=by
 rw[Zou];unfold mLoB;obtain⟨e,he,hm⟩:=at? (p:=q) (i:=0) hq;have hd:q.toList=e::q.toList.drop 1:=by simpa using Zf4 he
 have h1:MS D L (p.toList++q.toList) (#[e]:Array Keyed).toList (p.toList.drop 0) (q.toList.drop 1):=by have:MS D L (p.toList++q.toList) [] p.toList ([e]++q.toList.drop 1):=⟨by rw[hd];simp,List.Pairwise.nil,by simp,by simp,hH.sp,by have:=hH.sq;rw[hd]at this;exact this⟩;refine this.movY λu hu v hv=>h0 u ?_ v hv;rw[hd];simpa using hu
 refine YAS (wpS_lift (YBs ⟨rfl,?_⟩));refine YAS (Zbd he ?_);by_cases c1:1=q.size
 .rw[YAM (by simpa using c1)];exact YAc (hQ _ _ (ZhK h1 c1))
 rw[YAJ (by simpa using c1)];by_cases c2:0+1=p.size
 .rw[YAM (by simpa using c2)];exact YAc (hQ _ _ (hH.fin_lp hC h1 c2))
 rw[YAJ (by simpa using c2)];refine YAS (wpS_get ?_);have hI:LoI D L p q (p.toList++q.toList) #[e] 0 1:=⟨h1,by lia,by lia⟩;generalize p.toList++q.toList=T at hI hQ;refine Zex ?_;intro F1 G1;refine YAS (YCL (YBa (I:=λx c st'=>∃g,st'=ZaI st g/\∃o i j mg,c=(none,o,i,j,mg)/\LoI D L p q T o i j/\x<=i+j)
  (Q:=λc st'=>∃g,st'=ZaI st g/\∃z o i j mg,c=(some z,o,i,j,mg)/\Fin1 L T z) ?step ?fin ⟨gallopOf st,rfl,_,_,_,_,rfl,hI,by lia⟩) ?post)
 case post=>
  rintro c st' ⟨g,rfl,z,o,i,j,mg,rfl,hz⟩;exact YAc (hQ z g hz)
 case fin=>
  rintro c st' ⟨g,rfl,o,i,j,mg,rfl,hI,hx⟩;have:=hI.li;have:=hI.lj;lia
 case step=>
  rintro x c st' _ hx ⟨g,rfl,o,i,j,mg,rfl,hI,hxi⟩;dsimp only[F1];refine Zex ?_;intro F2 G2;refine YAS (YCL (YBa (I:=λy c st'=>st'=ZaI st g/\∃o i j ca cb,c=(none,o,i,j,ca,cb)/\LoI D L p q T o i j/\y+x<=i+j)
   (Q:=λc st'=>st'=ZaI st g/\∃r o i j ca cb,c=(r,o,i,j,ca,cb)/\((∃z,r=some z/\Fin1 L T z)\/(r=none/\LoI D L p q T o i j/\x+1<=i+j))) ?s1 ?f1 ⟨rfl,_,_,_,_,_,rfl,hI,by lia⟩) ?p1)
  case f1=>
   rintro c st' ⟨rfl,o,i,j,ca,cb,rfl,hI,hx⟩;have:=hI.li;have:=hI.lj;lia
  case s1=>
   rintro y c st' _ hy ⟨rfl,o,i,j,ca,cb,rfl,hI,hxi⟩;obtain⟨h,hi,hj⟩:=hI;obtain⟨u,hu,hum⟩:=at? (p:=q) (i:=j) hj;obtain⟨v,hv,hvm⟩:=at? (p:=p) (i:=i) (by lia);have hDu:=hH.dq u hum;have hDv:=hH.dp v hvm;have hqd:=Zf4 hu;have hpd:=Zf4 hv;have hsx:=h.sx;have hsy:=h.sy;rw[hpd,YBB]at hsx;rw[hqd,YBB]at hsy;dsimp only[F2];refine YAS (Zbd hu (YAS (Zbd hv (YAS (hP _ _ _ _ hk hDu hDv ?_)))));dsimp only;cases hL:L u v with
   | true=>
    rw[YAM rfl];refine YAS (Zbd hu ?_);have h2:MS D L T (o.push u).toList (p.toList.drop i) (q.toList.drop (j+1)):=by
     rw[YBd];rw[hqd]at h;refine MS.movY (p:=[u]) h λa ha b hb=>?_;have ha:a=u:=by simpa using ha
     subst ha;have hav:Le L a v:=hC.asym _ _ hDu hDv hL;rw[hpd]at hb;rcases YAH.mp hb with rfl | hb
     .exact hav
     .exact hC.tr a v b hDu hDv (hH.dp b (YAg hb)) hav (hsx.1 b hb)
    by_cases c3:j+1=q.size
    .rw[YAM (by simpa using c3)];exact YAc ⟨rfl,_,_,_,_,_,_,rfl,.inl ⟨_,rfl,ZhK h2 c3⟩⟩
    .rw[YAJ (by simpa using c3)];have hI:LoI D L p q T (o.push u) i (j+1):=⟨h2,hi,by lia⟩;split
     .exact YAc ⟨rfl,_,_,_,_,_,_,rfl,.inr ⟨rfl,hI,by lia⟩⟩
     .exact YAc ⟨rfl,_,_,_,_,_,rfl,hI,by lia⟩
   | false=>
    rw[YAJ YAC];refine YAS (Zbd hv ?_);have h2:MS D L T (o.push v).toList (p.toList.drop (i+1)) (q.toList.drop j):=by
     rw[YBd];rw[hpd]at h;refine MS.movX (p:=[v]) h λa ha b hb=>?_;have ha:a=v:=by simpa using ha
     subst ha;rw[hqd]at hb;rcases YAH.mp hb with rfl | hb
     .exact hL
     .exact hC.tr a u b hDv hDu (hH.dq b (YAg hb)) hL (hsy.1 b hb)
    by_cases c3:i+1+1=p.size
    .rw[YAM (by simpa using c3)];exact YAc ⟨rfl,_,_,_,_,_,_,rfl,.inl ⟨_,rfl,hH.fin_lp hC h2 c3⟩⟩
    .rw[YAJ (by simpa using c3)];have hI:LoI D L p q T (o.push v) (i+1) j:=⟨h2,by lia,hj⟩;split
     .exact YAc ⟨rfl,_,_,_,_,_,_,rfl,.inr ⟨rfl,hI,by lia⟩⟩
     .exact YAc ⟨rfl,_,_,_,_,_,rfl,hI,by lia⟩
  case p1=>
   rintro c st' ⟨rfl,r,o,i,j,ca,cb,rfl,⟨z,rfl,hz⟩|⟨rfl,hI,hw⟩⟩
   .exact YAc ⟨g,rfl,z,o,i,j,mg,rfl,hz⟩
   .dsimp only[G2];refine YAS (wpS_lift (YBs ⟨rfl,?_⟩));refine Zex ?_;intro F3 G3;refine YAS (YCL (YBa (I:=λy c st'=>(∃g,st'=ZaI st g)/\LoY D L p q T (y+(x+1)) c)
     (Q:=λc st'=>(∃g,st'=ZaI st g)/\LoQ D L p q T (x+1) c) ?s2 ?f2 ⟨⟨g,rfl⟩,_,_,_,_,_,_,rfl,hI,by lia⟩) ?p2)
    case f2=>
     rintro c st' ⟨_,o,i,j,mg,ca,cb,rfl,hI,hx⟩;have:=hI.li;have:=hI.lj;lia
    case p2=>
     rintro c st' ⟨⟨g,rfl⟩,r,o,i,j,mg,ca,cb,rfl,⟨z,rfl,hz⟩|⟨rfl,hI,hw⟩⟩
     .exact YAc ⟨g,rfl,z,o,i,j,mg,rfl,hz⟩
     .exact YAS (YCU (YAc ⟨_,rfl,_,_,_,_,rfl,hI,hw⟩))
    case s2=>
     rintro y c st' _ hy ⟨⟨g,rfl⟩,o,i,j,mg,ca,cb,rfl,hI,hw⟩;have key:∀mg,wpS M A E s (loF p q o i j mg ca cb) (λr st'=>match r with | .done c'=>(∃g,st'=ZaI st g)/\LoQ D L p q T (x+1) c' | .yield c'=>(∃g,st'=ZaI st g)/\LoY D L p q T (y+1+(x+1)) c') (ZaI st g):=by
      intro mg;refine YCL (ZoA (w:=y+1+(x+1)) hH hC hP hk (by lia) hI) ?_;rintro r st' ⟨hg,hr⟩;cases r with
      | done c=>
       obtain⟨r,o,i,j,mg,ca,cb,rfl,h | ⟨rfl,hI,hw⟩⟩:=hr
       .exact⟨hg,r,o,i,j,mg,ca,cb,rfl,.inl h⟩
       .exact⟨hg,none,o,i,j,mg,ca,cb,rfl,.inr ⟨rfl,hI,by lia⟩⟩
      | yield c=>exact⟨hg,hr⟩
     have key2:wpS M A E s (if mg>1 then loF p q o i j (mg-1) ca cb else loF p q o i j mg ca cb) (λr st'=>match r with | .done c'=>(∃g,st'=ZaI st g)/\LoQ D L p q T (x+1) c' | .yield c'=>(∃g,st'=ZaI st g)/\LoY D L p q T (y+1+(x+1)) c') (ZaI st g):=by
      split
      .exact key _
      .exact key _
     refine YCL (Q:=λr st'=>match r with | .done c'=>(∃g,st'=ZaI st g)/\LoQ D L p q T (x+1) c' | .yield c'=>(∃g,st'=ZaI st g)/\LoY D L p q T (y+1+(x+1)) c') ?_ (λr st' hr=>by cases r<;>exact hr);by_cases hmg:mg>1
     .dsimp only[F3];rw[YAM hmg];exact key (mg-1)
     .dsimp only[F3];rw[YAJ hmg];exact key mg
end
noncomputable def mHi:Array Keyed->Array Keyed->StateT SortSt Sem (Array Keyed):=sortPriv% PySem.Builtin.mergeHi
noncomputable def mHiB (p q:Array Keyed):StateT SortSt Sem (Array Keyed):=do
 rule "list.sort.merge-hi"
 let tt:=p.size+q.size
 let dn (o:Array Keyed) (i j:Nat):=p.extract 0 i++q.extract 0 j++o.reverse
 let fb (o:Array Keyed) (i j:Nat):=q.extract 0 j++p.extract 0 i++o.reverse
 let mut i:=p.size-1
 let mut j:=q.size
 let mut o:Array Keyed:=#[<-elem' p i]
 if i == 0 then return dn o i j
 if j == 1 then return fb o i j
 let mut mg:=gallopOf (<-get)
 for _ in [0:tt] do
  let mut ca:=0
  let mut cb:=0
  for _ in [0:tt] do
   let some wn <-lt' (<-elem' q (j-1)) (<-elem' p (i-1)) | return dn o i j
   if wn then
    i:=i-1;o:=o.push (<-elem' p i);ca:=ca+1;cb:=0
    if i == 0 then return dn o i j
    if ca>=mg then break
   else
    j:=j-1;o:=o.push (<-elem' q j);cb:=cb+1;ca:=0
    if j == 1 then return fb o i j
    if cb>=mg then break
  rule "list.sort.gallop"
  mg:=mg+1
  for _ in [0:tt] do
   if mg>1 then mg:=mg-1
   setG mg
   let some a <-gal false (<-elem' q (j-1)) p 0 i (i-1) | return dn o i j
   let k:=i-a
   ca:=k
   if k>0 then
    o:=o++(p.extract a i).reverse;i:=a
    if i == 0 then return dn o i j
   j:=j-1;o:=o.push (<-elem' q j)
   if j == 1 then return fb o i j
   let some a <-gal true (<-elem' p (i-1)) q 0 j (j-1) | return dn o i j
   let k:=j-a
   cb:=k
   if k>0 then
    o:=o++(q.extract a j).reverse;j:=a
    if j == 1 then return fb o i j
    if j == 0 then return dn o i j
   i:=i-1;o:=o.push (<-elem' p i)
   if i == 0 then return dn o i j
   if ca<7&&cb<7 then break
  mg:=mg+1
  setG mg
 unsupported "internal:list.sort.merge-bound"
theorem Zow (p q:Array Keyed):mHi p q=mHiB p q:=rfl
abbrev HiC:=Option (Array Keyed)×Nat×Nat×Array Keyed×Nat×Nat×Nat
noncomputable def dnh (p q o:Array Keyed) (i j:Nat):Array Keyed:=p.extract 0 i++q.extract 0 j++o.reverse
noncomputable def fbh (p q o:Array Keyed) (i j:Nat):Array Keyed:=q.extract 0 j++p.extract 0 i++o.reverse
noncomputable def hiE (p q o:Array Keyed) (i j mg ca cb:Nat):StateT SortSt Sem (ForInStep HiC):=do
 let e <-elem' p (i-1)
 if (i-1 == 0)=true then pure (ForInStep.done (some (dnh p q (o.push e) (i-1) j),i-1,j,o.push e,mg,ca,cb))
 else if (decide (ca<7)&&decide (cb<7))=true then pure (ForInStep.done (none,i-1,j,o.push e,mg,ca,cb))
 else pure (ForInStep.yield (none,i-1,j,o.push e,mg,ca,cb))
noncomputable def hiD (p q o:Array Keyed) (i j mg ca cb:Nat):StateT SortSt Sem (ForInStep HiC):=do
 let e <-elem' q (j-1)
 if (j-1 == 1)=true then pure (ForInStep.done (some (fbh p q (o.push e) i (j-1)),i,j-1,o.push e,mg,ca,cb))
 else do
  let some a <-gal true (<-elem' p (i-1)) q 0 (j-1) (j-1-1) | pure (ForInStep.done (some (dnh p q (o.push e) i (j-1)),i,j-1,o.push e,mg,ca,cb))
  if j-1-a>0 then
   if (a == 1)=true then pure (ForInStep.done (some (fbh p q (o.push e++(q.extract a (j-1)).reverse) i a),i,a,o.push e++(q.extract a (j-1)).reverse,mg,ca,j-1-a))
   else if (a == 0)=true then pure (ForInStep.done (some (dnh p q (o.push e++(q.extract a (j-1)).reverse) i a),i,a,o.push e++(q.extract a (j-1)).reverse,mg,ca,j-1-a))
   else hiE p q (o.push e++(q.extract a (j-1)).reverse) i a mg ca (j-1-a)
  else hiE p q (o.push e) i (j-1) mg ca (j-1-a)
noncomputable def hiF (p q o:Array Keyed) (i j mg ca cb:Nat):StateT SortSt Sem (ForInStep HiC):=do
 setG mg
 let some a <-gal false (<-elem' q (j-1)) p 0 i (i-1) | pure (ForInStep.done (some (dnh p q o i j),i,j,o,mg,ca,cb))
 if i-a>0 then
  if (a == 0)=true then pure (ForInStep.done (some (dnh p q (o++(p.extract a i).reverse) a j),a,j,o++(p.extract a i).reverse,mg,i-a,cb))
  else hiD p q (o++(p.extract a i).reverse) a j mg (i-a) cb
 else hiD p q o i j mg (i-a) cb
section
variable {M:Model}{A:AI}{E:Q33}{s:AF}{D:Keyed->Prop}{L:Keyed->Keyed->Bool}{kd:SortKind}{p q:Array Keyed}{T:List Keyed}{st:SortSt}
noncomputable abbrev Fl (L:Keyed->Keyed->Bool):Keyed->Keyed->Bool:=λx y=>L y x
theorem Zlm {l:List Keyed}:l.reverse.Pairwise (Le (Fl L))↔l.Pairwise (Le L):=by rw[List.pairwise_reverse]
abbrev MR (D:Keyed->Prop)(L:Keyed->Keyed->Bool)(T:List Keyed)(p q o:Array Keyed)(i j:Nat):Prop:=MS D (Fl L) T o.toList (p.toList.take i).reverse (q.toList.take j).reverse
structure HiI (D:Keyed->Prop)(L:Keyed->Keyed->Bool)(p q:Array Keyed)(T:List Keyed)(o:Array Keyed)(i j:Nat):Prop where
 ms:MR D L T p q o i j
 li:0<i
 lj:1<j
 hi:i<=p.size
 hj:j<=q.size
structure HiH (D:Keyed->Prop)(L:Keyed->Keyed->Bool)(p q:Array Keyed):Prop where
 dp:∀u∈p.toList,D u
 dq:∀u∈q.toList,D u
 sp:p.toList.Pairwise (Le L)
 sq:q.toList.Pairwise (Le L)
 first:∀u∈q.toList.take 1,∀v∈p.toList,L u v=true
theorem ZhY (hi:0<i)(h:p[i-1]?=some e):p.toList.take i=p.toList.take (i-1)++[e]:=by obtain⟨i,rfl⟩:∃k,i=k+1:=⟨i-1,by lia⟩;rw[Nat.add_sub_cancel]at h ⊢;rw[List.take_succ,YAr,h];rfl
theorem Zj5 (hi:0<i)(h:p[i-1]?=some e):(p.toList.take i).reverse=[e]++(p.toList.take (i-1)).reverse:=by rw[ZhY hi h,List.reverse_append];rfl
theorem Zem (l:List Keyed){a i:Nat}(h:a<=i):(l.take i).reverse=((l.take i).drop a).reverse++(l.take a).reverse:=by
 rw[<-List.reverse_append];congr 1;have:l.take a=(l.take i).take a:=by rw[YCd,YBg h]
 rw[this,YAu]
theorem Zo2 (p:Array Keyed)(a i:Nat):(p.extract a i).reverse.toList=((p.toList.take i).drop a).reverse:=by rw[YCx,YBK,List.extract,List.drop_take]
theorem Zk1 (p q o:Array Keyed)(i j:Nat):(dnh p q o i j).toList=p.toList.take i++q.toList.take j++o.toList.reverse:=by unfold dnh;rw[YBQ,YBQ,YBK,YBK,YCx,List.extract,List.extract];simp
theorem ZkX (p q o:Array Keyed)(i j:Nat):(fbh p q o i j).toList=q.toList.take j++p.toList.take i++o.toList.reverse:=by unfold fbh;rw[YBQ,YBQ,YBK,YBK,YCx,List.extract,List.extract];simp
theorem ZjC {l m:List Keyed}(h:l.Perm T/\l.Pairwise (Le (Fl L)))(e:m=l.reverse):m.Perm T/\m.Pairwise (Le L):=by subst e;refine⟨(YDN l).trans h.1,?_⟩;rw[List.pairwise_reverse];exact h.2
theorem ZhL (h:MR D L T p q o i j)(e:i=0):Fin1 L T (dnh p q o i j):=by unfold Fin1;rw[Zk1];subst e;have h':=h.swap;exact ZjC (l:=o.toList++(q.toList.take j).reverse) (MS.fin (D:=D) (by simpa using h')) (by simp)
theorem HiH.fin_fb (hH:HiH D L p q)(hC:Cmp D L)(h:MR D L T p q o i j)(e:j=1):Fin1 L T (fbh p q o i j):=by unfold Fin1;rw[ZkX];subst e;refine ZjC (h.all λu hu v hv=>?_) (by simp);have hu:u∈p.toList:=YAZ (YBk.mp hu);have hv:=YBk.mp hv;exact hC.asym v u (hH.dq v (YAZ hv)) (hH.dp u hu) (hH.first v hv u hu)
noncomputable def HiQ (D:Keyed->Prop) (L:Keyed->Keyed->Bool) (p q:Array Keyed) (T:List Keyed) (w:Nat) (c:HiC):Prop:=
 ∃r o i j mg ca cb,c=(r,i,j,o,mg,ca,cb)/\((∃z,r=some z/\Fin1 L T z)\/(r=none/\HiI D L p q T o i j/\i+j<=w))
noncomputable def HiY (D:Keyed->Prop) (L:Keyed->Keyed->Bool) (p q:Array Keyed) (T:List Keyed) (w:Nat) (c:HiC):Prop:=
 ∃o i j mg ca cb,c=(none,i,j,o,mg,ca,cb)/\HiI D L p q T o i j/\i+j<=w
noncomputable def HiP (D:Keyed->Prop) (L:Keyed->Keyed->Bool) (p q:Array Keyed) (T:List Keyed) (w:Nat) (st:SortSt) (r:ForInStep HiC) (st':SortSt):Prop:=
 (∃g,st'=ZaI st g)/\match r with | .done c=>HiQ D L p q T w c | .yield c=>HiY D L p q T w c
theorem Zlz (hH:HiH D L p q)(hi:0<i)(hip:i<=p.size)(hj:1<j)(hjq:j<=q.size)(hw:i-1+j<=w)(h:MR D L T p q o i j)
  (hle:∀u∈(p.toList.take i).drop (i-1),∀v∈q.toList.take j,Le L v u):wpS M A E s (hiE p q o i j mg ca cb) (HiP D L p q T w st) (ZaI st g):=by
 obtain⟨e,he,hm⟩:=at? (p:=p) (i:=i-1) (by lia);have hd:=Zj5 hi he;have h2:MR D L T p q (o.push e) (i-1) j:=by
  unfold MR at h ⊢;rw[YBd];rw[hd]at h;refine MS.movX h λu hu v hv=>?_;have hu:u=e:=by simpa using hu
  subst hu;refine hle u ?_ v (YBk.mp hv);rw[ZhY hi he,YCF (by simp;lia)];simp
 unfold hiE;refine YAS (Zbd he ?_);by_cases c1:i-1=0
 .rw[YAM (by simpa using c1)];exact YAc ⟨⟨g,rfl⟩,_,_,_,_,_,_,_,rfl,.inl ⟨_,rfl,ZhL h2 c1⟩⟩
 .rw[YAJ (by simpa using c1)];have hI:HiI D L p q T (o.push e) (i-1) j:=⟨h2,by lia,hj,by lia,hjq⟩;split
  .exact YAc ⟨⟨g,rfl⟩,_,_,_,_,_,_,_,rfl,.inr ⟨rfl,hI,hw⟩⟩
  .exact YAc ⟨⟨g,rfl⟩,_,_,_,_,_,_,rfl,hI,hw⟩
theorem le_refl' (hC:Cmp D L){v:Keyed}(h:D v):Le L v v:=by
 cases hx:L v v with
 | false=>exact hx
 | true=>exact hC.asym v v h h hx
theorem Ze3 (hC:Cmp D L)(hd:∀u∈p.toList,D u)(hs:p.toList.Pairwise (Le L)){i:Nat}{x:Keyed}(hi:0<i)(hx:p[i-1]?=some x)(hm:x∈p.toList):∀v∈p.toList.take i,Le L v x:=by
 intro v hv;have h2:=hs.sublist (YCX i p.toList);rw[ZhY hi hx]at h2 hv;rcases YAR.mp hv with hv | hv
 .exact(YAq.mp h2).2.2 v hv x (by simp)
 .have:v=x:=by simpa using hv
  subst this;exact le_refl' hC (hd v hm)
theorem Zd5 (hi:0<i)(hip:i<=p.size)(hx:p[i-1]?=some x):u∈(p.toList.take i).drop (i-1)↔u=x:=by rw[ZhY hi hx,YCF (by simp;lia),YBr (by simp;lia)];simp
theorem ZlA (hH:HiH D L p q)(hC:Cmp D L)(hP:PureC M A E s D L kd)(hk:kindOf st=kd)(hi:0<i)(hip:i<=p.size)(hj:1<j)(hjq:j<=q.size)(hw:i-1+j<=w)
  (h:MR D L T p q o i j) (hle:∀v∈(q.toList.take j).drop (j-1),∀u∈p.toList.take i,Le L u v):wpS M A E s (hiD p q o i j mg ca cb) (HiP D L p q T w st) (ZaI st g):=by
 obtain⟨e,he,hm⟩:=at? (p:=q) (i:=j-1) (by lia);obtain⟨x,hx,hxm⟩:=at? (p:=p) (i:=i-1) (by lia);have h2:MR D L T p q (o.push e) i (j-1):=by
  unfold MR at h ⊢;rw[YBd];rw[Zj5 (by lia) he]at h;refine MS.movY h λu hu v hv=>?_;have hu:u=e:=by simpa using hu
  exact hle u ((Zd5 (by lia) hjq he).mpr hu) v (YBk.mp hv)
 unfold hiD;refine YAS (Zbd he ?_);by_cases c1:j-1=1
 .rw[YAM (by simpa using c1)];exact YAc ⟨⟨g,rfl⟩,_,_,_,_,_,_,_,rfl,.inl ⟨_,rfl,hH.fin_fb hC h2 c1⟩⟩
 .rw[YAJ (by simpa using c1)];refine YAS (Zbd hx ?_);refine YAS (Zez hC hP (by exact hk) (by lia) (by lia) (hH.dp x hxm) hH.dq (by rw[YBh];exact hH.sq.sublist (YCX _ _)) ?_);rw[YBh];intro a hkn ha hb;replace ha:∀u∈(q.toList.take (j-1)).take a,L u x=true:=ha;replace hb:∀u∈(q.toList.take (j-1)).drop a,Le L x u:=hb;rw[YCd,YBg hkn]at ha;dsimp only;have xge:=Ze3 hC hH.dp hH.sp hi hx hxm;have h3:MR D L T p q (o.push e++(q.extract a (j-1)).reverse) i a:=by unfold MR at h2 ⊢;rw[YBQ,Zo2];rw[Zem q.toList hkn]at h2;refine h2.movY λu hu v hv=>?_;have hu:=YBk.mp hu;have hv:=YBk.mp hv;exact hC.tr v x u (hH.dp v (YAZ hv)) (hH.dp x hxm) (hH.dq u (YAZ (YAg hu))) (xge v hv) (hb u hu)
  have hle2:∀u∈(p.toList.take i).drop (i-1),∀v∈q.toList.take a,Le L v u:=by intro u hu v hv;have:=(Zd5 hi hip hx).mp hu;subst this;exact hC.asym v u (hH.dq v (YAZ hv)) (hH.dp u hxm) (ha v hv)
  have ha0:a≠0:=by
   rintro rfl;obtain⟨y,hy,hym⟩:=at? (p:=q) (i:=0) (by lia);have hyq:q.toList.take 1=[y]:=by have:=ZhY (p:=q) (i:=1) (by lia) hy;simpa using this
   have h5:=hH.first y (by rw[hyq];simp) x hxm
   have h6:y∈q.toList.take (j-1):=by
    have:q.toList.take 1=(q.toList.take (j-1)).take 1:=by rw[YCd,YBg (by lia)]
    rw[this]at hyq;exact YAZ (i:=1) (by rw[hyq];simp)
   rw[show L y x=false from hb y h6]at h5;cases h5
  by_cases hk0:j-1-a>0
  .rw[YAM hk0];by_cases c2:a=1
   .rw[YAM (by simpa using c2)];exact YAc ⟨⟨g,rfl⟩,_,_,_,_,_,_,_,rfl,.inl ⟨_,rfl,hH.fin_fb hC h3 c2⟩⟩
   .rw[YAJ (by simpa using c2),YAJ (by simpa using ha0)];exact Zlz hH hi hip (by lia) (by lia) (by lia) h3 hle2
  .rw[YAJ hk0];have:a=j-1:=by lia
   subst this;exact Zlz hH hi hip (by lia) (by lia) (by lia) h2 hle2
theorem ZoW (hH:HiH D L p q)(hC:Cmp D L)(hP:PureC M A E s D L kd)(hk:kindOf st=kd)(hw:i-1+j<=w)(hI:HiI D L p q T o i j):
  wpS M A E s (hiF p q o i j mg ca cb) (HiP D L p q T w st) (ZaI st g):=by
 obtain⟨h,hi,hj,hip,hjq⟩:=hI;obtain⟨x,hx,hxm⟩:=at? (p:=q) (i:=j-1) (by lia);unfold hiF;refine YAS (YCU ?_);refine YAS (Zbd hx ?_);refine YAS (Zez hC hP (by exact hk) (by lia) (by lia) (hH.dq x hxm) hH.dp (by rw[YBh];exact hH.sp.sublist (YCX _ _)) ?_);rw[YBh];intro a hkn ha hb;replace ha:∀u∈(p.toList.take i).take a,Le L u x:=ha;replace hb:∀u∈(p.toList.take i).drop a,L x u=true:=hb;rw[YCd,YBg hkn]at ha;dsimp only;have xge:=Ze3 hC hH.dq hH.sq (by lia) hx hxm;have h3:MR D L T p q (o++(p.extract a i).reverse) a j:=by unfold MR at h ⊢;rw[YBQ,Zo2];rw[Zem p.toList hkn]at h;refine h.movX λu hu v hv=>?_;have hu:=YBk.mp hu;have hv:=YBk.mp hv;have hDu:=hH.dp u (YAZ (YAg hu));exact hC.tr v x u (hH.dq v (YAZ hv)) (hH.dq x hxm) hDu (xge v hv) (hC.asym x u (hH.dq x hxm) hDu (hb u hu))
 have hle2:∀v∈(q.toList.take j).drop (j-1),∀u∈p.toList.take a,Le L u v:=by intro v hv u hu;have:=(Zd5 (by lia) hjq hx).mp hv;subst this;exact ha u hu
 by_cases hk0:i-a>0
 .rw[YAM hk0];by_cases c2:a=0
  .rw[YAM (by simpa using c2)];exact YAc ⟨⟨_,rfl⟩,_,_,_,_,_,_,_,rfl,.inl ⟨_,rfl,ZhL h3 c2⟩⟩
  .rw[YAJ (by simpa using c2)];exact ZlA hH hC hP hk (by lia) (by lia) hj hjq (by lia) h3 hle2
 .rw[YAJ hk0];have:a=i:=by lia
  subst this;exact ZlA hH hC hP hk hi hip hj hjq hw h hle2
theorem Zov (hH:HiH D L p q)(hC:Cmp D L)(hP:PureC M A E s D L kd)(hk:kindOf st=kd)(hp:0<p.size)(hq:0<q.size)
  (h0:∀u∈p.toList.drop (p.size-1),∀v∈q.toList,Le L v u) (hQ:∀z g,Fin1 L (p.toList++q.toList) z->Q z (ZaI st g)):wpS M A E s (mHi p q) Q st:=by
 rw[Zow];unfold mHiB;obtain⟨e,he,hm⟩:=at? (p:=p) (i:=p.size-1) (by lia);have hd:p.toList=p.toList.take (p.size-1)++[e]:=by
  have:=ZhY hp he
  rwa [YAv (by simp)]at this
 have h1:MR D L (p.toList++q.toList) p q #[e] (p.size-1) q.size:=by
  unfold MR;have e2:(q.toList.take q.size)=q.toList:=YAv (by simp);rw[e2];have:MS D (Fl L) (p.toList++q.toList) [] ([e]++(p.toList.take (p.size-1)).reverse) q.toList.reverse:=by
   have e3:[e]++(p.toList.take (p.size-1)).reverse=p.toList.reverse:=by
    conv=>rhs;rw[hd]
    simp
   rw[e3];exact⟨by simpa using (YDN _).append (YDN _),List.Pairwise.nil,by simp,by simp,Zlm.mpr hH.sp,Zlm.mpr hH.sq⟩
  refine this.movX λu hu v hv=>h0 u ?_ v (YBk.mp hv);have hu:u=e:=by simpa using hu
  subst hu;rw[hd,YCF (by simp)];simp
 refine YAS (wpS_lift (YBs ⟨rfl,?_⟩));refine YAS (Zbd he ?_);by_cases c1:p.size-1=0
 .rw[YAM (by simpa using c1)];exact YAc (hQ _ _ (ZhL h1 c1))
 rw[YAJ (by simpa using c1)];by_cases c2:q.size=1
 .rw[YAM (by simpa using c2)];exact YAc (hQ _ _ (hH.fin_fb hC h1 c2))
 rw[YAJ (by simpa using c2)];refine YAS (wpS_get ?_);have hI:HiI D L p q (p.toList++q.toList) #[e] (p.size-1) q.size:=⟨h1,by lia,by lia,by lia,by lia⟩;generalize p.toList++q.toList=T at hI hQ;refine Zex ?_;intro F1 G1;refine YAS (YCL (YBa (a:=0) (b:=p.size+q.size) (I:=λx c st'=>∃g,st'=ZaI st g/\∃o i j mg,c=(none,i,j,o,mg)/\HiI D L p q T o i j/\x+(i+j)<=p.size+q.size)
  (Q:=λc st'=>∃g,st'=ZaI st g/\∃z o i j mg,c=(some z,i,j,o,mg)/\Fin1 L T z) ?step ?fin ⟨gallopOf st,rfl,#[e],p.size-1,q.size,gallopOf st,rfl,hI,by lia⟩) ?post)
 case post=>
  rintro c st' ⟨g,rfl,z,o,i,j,mg,rfl,hz⟩;exact YAc (hQ z g hz)
 case fin=>
  rintro c st' ⟨g,rfl,o,i,j,mg,rfl,hI,hx⟩;have:=hI.li;have:=hI.lj;lia
 case step=>
  rintro x c st' _ hx ⟨g,rfl,o,i,j,mg,rfl,hI,hxi⟩;dsimp only[F1];refine Zex ?_;intro F2 G2;refine YAS (YCL (YBa (I:=λy c st'=>st'=ZaI st g/\∃o i j ca cb,c=(none,i,j,o,ca,cb)/\HiI D L p q T o i j/\y+x+(i+j)<=p.size+q.size)
   (Q:=λc st'=>st'=ZaI st g/\∃r o i j ca cb,c=(r,i,j,o,ca,cb)/\((∃z,r=some z/\Fin1 L T z)\/(r=none/\HiI D L p q T o i j/\x+1+(i+j)<=p.size+q.size))) ?s1 ?f1 ⟨rfl,_,_,_,_,_,rfl,hI,by lia⟩) ?p1)
  case f1=>
   rintro c st' ⟨rfl,o,i,j,ca,cb,rfl,hI,hx⟩;have:=hI.li;have:=hI.lj;lia
  case s1=>
   rintro y c st' _ hy ⟨rfl,o,i,j,ca,cb,rfl,hI,hxi⟩;obtain⟨h,hi,hj,hip,hjq⟩:=hI;obtain⟨u,hu,hum⟩:=at? (p:=q) (i:=j-1) (by lia);obtain⟨v,hv,hvm⟩:=at? (p:=p) (i:=i-1) (by lia);have hDu:=hH.dq u hum;have hDv:=hH.dp v hvm;have uge:=Ze3 hC hH.dq hH.sq (by lia) hu hum;have vge:=Ze3 hC hH.dp hH.sp hi hv hvm;dsimp only[F2];refine YAS (Zbd hu (YAS (Zbd hv (YAS (hP _ _ _ _ hk hDu hDv ?_)))));dsimp only;cases hL:L u v with
   | true=>
    rw[YAM rfl];refine YAS (Zbd hv ?_);have h2:MR D L T p q (o.push v) (i-1) j:=by
     unfold MR at h ⊢;rw[YBd];rw[Zj5 hi hv]at h;refine MS.movX h λa ha b hb=>?_;have ha:a=v:=by simpa using ha
     subst ha;have hb:=YBk.mp hb;exact hC.tr b u a (hH.dq b (YAZ hb)) hDu hDv (uge b hb) (hC.asym _ _ hDu hDv hL)
    by_cases c3:i-1=0
    .rw[YAM (by simpa using c3)];exact YAc ⟨rfl,_,_,_,_,_,_,rfl,.inl ⟨_,rfl,ZhL h2 c3⟩⟩
    .rw[YAJ (by simpa using c3)];have hI:HiI D L p q T (o.push v) (i-1) j:=⟨h2,by lia,by lia,by lia,by lia⟩;split
     .exact YAc ⟨rfl,_,_,_,_,_,_,rfl,.inr ⟨rfl,hI,by lia⟩⟩
     .exact YAc ⟨rfl,_,_,_,_,_,rfl,hI,by lia⟩
   | false=>
    rw[YAJ YAC];refine YAS (Zbd hu ?_);have h2:MR D L T p q (o.push u) i (j-1):=by
     unfold MR at h ⊢;rw[YBd];rw[Zj5 (by lia) hu]at h;refine MS.movY h λa ha b hb=>?_;have ha:a=u:=by simpa using ha
     subst ha;have hb:=YBk.mp hb;exact hC.tr b v a (hH.dp b (YAZ hb)) hDv hDu (vge b hb) hL
    by_cases c3:j-1=1
    .rw[YAM (by simpa using c3)];exact YAc ⟨rfl,_,_,_,_,_,_,rfl,.inl ⟨_,rfl,hH.fin_fb hC h2 c3⟩⟩
    .rw[YAJ (by simpa using c3)];have hI:HiI D L p q T (o.push u) i (j-1):=⟨h2,by lia,by lia,by lia,by lia⟩;split
     .exact YAc ⟨rfl,_,_,_,_,_,_,rfl,.inr ⟨rfl,hI,by lia⟩⟩
     .exact YAc ⟨rfl,_,_,_,_,_,rfl,hI,by lia⟩
  case p1=>
   rintro c st' ⟨rfl,r,o,i,j,ca,cb,rfl,⟨z,rfl,hz⟩|⟨rfl,hI,hw⟩⟩
   .exact YAc ⟨g,rfl,z,o,i,j,mg,rfl,hz⟩
   .dsimp only[G2];refine YAS (wpS_lift (YBs ⟨rfl,?_⟩));refine Zex ?_;intro F3 G3;refine YAS (YCL (YBa (I:=λy c st'=>(∃g,st'=ZaI st g)/\HiY D L p q T (p.size+q.size-y-(x+1)) c)
     (Q:=λc st'=>(∃g,st'=ZaI st g)/\HiQ D L p q T (p.size+q.size-(x+1)) c) ?s2 ?f2 ⟨⟨g,rfl⟩,_,_,_,_,_,_,rfl,hI,by lia⟩) ?p2)
    case f2=>
     rintro c st' ⟨_,o,i,j,mg,ca,cb,rfl,hI,hx⟩;have:=hI.li;have:=hI.lj;lia
    case p2=>
     rintro c st' ⟨⟨g,rfl⟩,r,o,i,j,mg,ca,cb,rfl,⟨z,rfl,hz⟩|⟨rfl,hI,hw⟩⟩
     .exact YAc ⟨g,rfl,z,o,i,j,mg,rfl,hz⟩
     .exact YAS (YCU (YAc ⟨_,rfl,o,i,j,mg+1,rfl,hI,by have:=hI.li;lia⟩))
    case s2=>
     rintro y c st' _ hy ⟨⟨g,rfl⟩,o,i,j,mg,ca,cb,rfl,hI,hw⟩;have key:∀mg,wpS M A E s (hiF p q o i j mg ca cb) (λr st'=>match r with | .done c'=>(∃g,st'=ZaI st g)/\HiQ D L p q T (p.size+q.size-(x+1)) c' | .yield c'=>(∃g,st'=ZaI st g)/\HiY D L p q T (p.size+q.size-(y+1)-(x+1)) c') (ZaI st g):=by
      intro mg;have:=hI.li;refine YCL (ZoW (w:=p.size+q.size-(y+1)-(x+1)) hH hC hP hk (by lia) hI) ?_;rintro r st' ⟨hg,hr⟩;cases r with
      | done c=>
       obtain⟨r,o,i,j,mg,ca,cb,rfl,h | ⟨rfl,hI,hw⟩⟩:=hr
       .exact⟨hg,r,o,i,j,mg,ca,cb,rfl,.inl h⟩
       .exact⟨hg,none,o,i,j,mg,ca,cb,rfl,.inr ⟨rfl,hI,by lia⟩⟩
      | yield c=>exact⟨hg,hr⟩
     refine YCL (Q:=λr st'=>match r with | .done c'=>(∃g,st'=ZaI st g)/\HiQ D L p q T (p.size+q.size-(x+1)) c' | .yield c'=>(∃g,st'=ZaI st g)/\HiY D L p q T (p.size+q.size-(y+1)-(x+1)) c') ?_ (λr st' hr=>by cases r<;>exact hr);by_cases hmg:mg>1
     .dsimp only[F3];rw[YAM hmg];exact key (mg-1)
     .dsimp only[F3];rw[YAJ hmg];exact key mg
end
noncomputable def mAtB (i:Nat):StateT SortSt Sem Bool:=do
 let v <-get
 let (some (sa,na,pw),some (sb,nb,_)):=((pendingOf v)[i]?,(pendingOf v)[i+1]?) | unsupported "internal:list.sort.pending"
 set (setPending v (((pendingOf v).setIfInBounds i (sa,na+nb,pw)).eraseIdxIfInBounds (i+1)))
 let some k <-gal false (<-elem' (arrOf v) sb) (arrOf v) sa na 0 | return false
 let (sa,na):=(sa+k,na-k)
 if na == 0 then return true
 let some nb <-gal true (<-elem' (arrOf v) (sa+na-1)) (arrOf v) sb nb (nb-1) | return false
 if nb == 0 then return true
 let x:=(arrOf v).extract sa sb
 let y:=(arrOf v).extract sb (sb+nb)
 let mm <-if na<=nb then mLo x y else mHi x y
 modify λu=>setArr u (mm.toList.zipIdx.foldl (λa (p,j)=>a.setIfInBounds (sa+j) p) (arrOf u))
 return (failedOf (<-get)).isNone
theorem Zoy (i:Nat):mergeAt' i=mAtB i:=rfl
theorem ZlS {M:Model}{A:AI}{E:Q33}{s:AF}{U:Type}{v:U}{Q:PUnit->U->Prop}{st:U}(h:Q ⟨⟩ v):wpS M A E s (set v:StateT U Sem PUnit) Q st:=by unfold wpS;rw[StateT.run_set];exact YAD ⟨rfl,h⟩
noncomputable def putL (a:Array Keyed) (b:Nat) (l:List Keyed):Array Keyed:=l.zipIdx.foldl (λa (p,j)=>a.setIfInBounds (b+j) p) a
theorem ZiR:∀(l:List Keyed) (n b:Nat) (a:Array Keyed) (x y z:List Keyed),a.toList=x++y++z->x.length=b+n->y.length=l.length ->
  ((l.zipIdx n).foldl (λa (p,j)=>a.setIfInBounds (b+j) p) a).toList=x++l++z
 | [],n,b,a,x,y,z,h,hx,hy=>by
  have:y=[]:=YCZ.mp hy;subst this;simpa using h
 | e::l,n,b,a,x,y,z,h,hx,hy=>by
  cases y with
  | nil=>simp at hy
  | cons f y=>
   rw[List.zipIdx_cons,YBy];have:=ZiR l (n+1) b (a.setIfInBounds (b+n) e) (x++[e]) y z (by rw[YCv,h,<-hx,YAj,YCP,List.set_append_right _ _ (YAP _),YDQ];simp) (by simp;lia) (by simpa using hy)
   rw[this];simp
theorem ZiQ (h:a.toList=x++y++z)(hx:x.length=b)(hy:y.length=l.length):(putL a b l).toList=x++l++z:=
 ZiR l 0 b a x y z h (by lia) hy
section
variable {M:Model}{A:AI}{E:Q33}{s:AF}{D:Keyed->Prop}{L:Keyed->Keyed->Bool}{kd:SortKind}{st:SortSt}
theorem slice {a:Array Keyed}{x y z:List Keyed}{b n:Nat}(h:a.toList=x++y++z)(hb:b=x.length)(hn:n=y.length):(a.toList.drop b).take n=y:=by rw[h,hb,hn,YAj,List.drop_left,List.take_left]
theorem Zox (hC:Cmp D L)(hP:PureC M A E s D L kd)(hk:kindOf st=kd)(hf:failedOf st=none)
  (ha:(arrOf st).toList=W++X++Y++Z) (hd:∀u∈(arrOf st).toList,D u) (hX:X≠[]) (hY:Y≠[]) (sX:X.Pairwise (Le L)) (sY:Y.Pairwise (Le L))
  (h1:(pendingOf st)[i]?=some (W.length,X.length,pw)) (h2:(pendingOf st)[i+1]?=some (W.length+X.length,Y.length,pw2))
  (hQ:∀(V:List Keyed) (a:Array Keyed) g,a.toList=W++V++Z->V.Perm (X++Y)->V.Pairwise (Le L)->Q true (SortSt.mk' kd a (((pendingOf st).setIfInBounds i (W.length,X.length+Y.length,pw)).eraseIdxIfInBounds (i+1)) g none)):
  wpS M A E s (mergeAt' i) Q st:=by
 rw[Zoy];unfold mAtB;refine YAS (wpS_get ?_);rw[h1,h2];dsimp only;refine YAS (ZlS ?_);have hsz:(arrOf st).size=W.length+X.length+Y.length+Z.length:=by rw[<-YAF,ha];simp;lia
 have hXp:0<X.length:=YBV.mpr hX;have hYp:0<Y.length:=YBV.mpr hY;have dX:∀u∈X,D u:=λu hu=>hd u (by rw[ha];simp[hu]);have dY:∀u∈Y,D u:=λu hu=>hd u (by rw[ha];simp[hu]);obtain⟨y0,Y',rfl⟩:∃y l,Y=y::l:=by cases Y with | nil=>exact absurd rfl hY | cons y l=>exact⟨y,l,rfl⟩
 have hy0:(arrOf st)[W.length+X.length]?=some y0:=by rw[<-YAr,ha,YAj,YBA (by simp)];simp
 have dy0:=dY y0 (by simp);refine YAS (Zbd hy0 ?_);have sl1:=slice (a:=arrOf st) (x:=W) (y:=X) (z:=y0::Y'++Z) (b:=W.length) (n:=X.length) (by rw[ha];simp) rfl rfl;have sl2:=slice (a:=arrOf st) (x:=W++X) (y:=y0::Y') (z:=Z) (b:=W.length+X.length) (n:=(y0::Y').length) (by rw[ha]) (by simp) rfl;refine YAS (Zez hC hP (by exact hk) (by lia) hXp dy0 hd (by rw[sl1];exact sX) ?_);rw[sl1];intro k hkn ha1 hb1;replace ha1:∀u∈X.take k,Le L u y0:=ha1;replace hb1:∀u∈X.drop k,L y0 u=true:=hb1;dsimp only;have y0le:∀v∈y0::Y',Le L y0 v:=by
  intro v hv;rcases YAH.mp hv with rfl | hv
  .exact le_refl' hC dy0
  .exact(YBB.mp sY).1 v hv
 have X1Y:∀u∈X.take k,∀v∈y0::Y',Le L u v:=λu hu v hv=>hC.tr u y0 v (dX u (YAZ hu)) dy0 (dY v hv) (ha1 u hu) (y0le v hv);by_cases c1:X.length-k=0
 .rw[YAM (by simpa using c1)];refine YAc ?_;have e:X.take k=X:=YAv (by lia);rw[e]at X1Y;have:=hQ (X++(y0::Y')) (arrOf st) (gallopOf st) (by rw[ha];simp) (List.Perm.refl _) (YAq.mpr ⟨sX,sY,X1Y⟩);rw[<-hk,<-hf]at this;exact this
 rw[YAJ (by simpa using c1)];obtain⟨xl,hxl⟩:∃xl,X[X.length-1]?=some xl:=⟨X[X.length-1],YAL (by lia)⟩;have hxm:xl∈X:=YAh hxl;have hxl2:xl∈X.drop k:=by refine YAh (i:=X.length-1-k) ?_;rw[YCh,<-hxl];congr 1;lia
 have hxa:(arrOf st)[W.length+k+(X.length-k)-1]?=some xl:=by rw[<-YAr,ha,YAj,YAj,YBA (by lia),YBC (by lia),<-hxl];congr 1;lia
 refine YAS (Zbd hxa ?_);refine YAS (Zez hC hP (by exact hk) (by simp at hsz ⊢;lia) (by simp) (dX xl hxm) hd (by rw[sl2];exact sY) ?_);rw[sl2];intro n hnn ha2 hb2;replace ha2:∀u∈(y0::Y').take n,L u xl=true:=ha2;replace hb2:∀u∈(y0::Y').drop n,Le L xl u:=hb2;dsimp only;have hn0:n≠0:=by rintro rfl;have h5:=hb1 xl hxl2;rw[show L y0 xl=false from hb2 y0 (by simp)]at h5;cases h5
 rw[YAJ (by simpa using hn0)];obtain⟨x,hx⟩:∃x,x=(arrOf st).extract (W.length+k) (W.length+X.length):=⟨_,rfl⟩;obtain⟨y,hy⟩:∃y,y=(arrOf st).extract (W.length+X.length) (W.length+X.length+n):=⟨_,rfl⟩;have xL:x.toList=X.drop k:=by rw[hx,YBK,List.extract];exact slice (x:=W++X.take k) (z:=y0::Y'++Z) (by rw[ha];simp only[YAj];rw[<-YAj (X.take k),YAu]) (by rw[YAG,YAW,YBg hkn]) (by rw[YAp];lia)
 have yL:y.toList=(y0::Y').take n:=by rw[hy,YBK,List.extract];exact slice (x:=W++X) (z:=(y0::Y').drop n++Z) (by rw[ha];simp only[YAj];rw[<-YAj (List.take n _),YAu]) (by rw[YAG]) (by rw[YAW,YBg hnn];lia)
 have xS:x.size=X.length-k:=by rw[<-YAF,xL,YAp]
 have yS:y.size=n:=by rw[<-YAF,yL,YAW,YBg hnn]
 have y1:y.toList.take 1=[y0]:=by rw[yL,YCd,YBg (by lia)];simp
 have xd:∀v∈x.toList.drop (x.size-1),v=xl:=by
  intro v hv;rw[xL,xS,YCI]at hv;have:X.drop (k+(X.length-k-1))=[xl]:=by obtain⟨h5,h6⟩:=YAU.mp hxl;rw[show k+(X.length-k-1)=X.length-1 by lia,YCz h5,h6,YBr (by lia)]
  rw[this]at hv;simpa using hv
 have dx:∀u∈x.toList,D u:=λu hu=>dX u (YAg (xL▸hu));have dy:∀u∈y.toList,D u:=λu hu=>dY u (YAZ (yL▸hu));have sx:x.toList.Pairwise (Le L):=by rw[xL];exact sX.sublist (List.drop_sublist _ _)
 have sy:y.toList.Pairwise (Le L):=by rw[yL];exact sY.sublist (YCX _ _)
 have y0x:∀v∈x.toList,L y0 v=true:=λv hv=>hb1 v (xL▸hv);have yxl:∀u∈y.toList,L u xl=true:=λu hu=>ha2 u (yL▸hu);have main:∀(z:Array Keyed) g,Fin1 L (x.toList++y.toList) z->wpS M A E s (do
   modify λu=>setArr u (putL (arrOf u) (W.length+k) z.toList)
   return (failedOf (<-get)).isNone) Q (ZaI (setPending st (((pendingOf st).setIfInBounds i (W.length,X.length+(y0::Y').length,pw)).eraseIdxIfInBounds (i+1))) g):=by
  rintro z g ⟨hz1,hz2⟩;refine YAS (YCU (YAS (wpS_get (YAc ?_))));show Q (failedOf st).isNone _;rw[hf];have hzl:(X.drop k++(y0::Y').take n).length=z.toList.length:=by rw[hz1.length_eq,xL,yL]
  have hp:(putL (arrOf st) (W.length+k) z.toList).toList=W++(X.take k++z.toList++(y0::Y').drop n)++Z:=by
   rw[ZiQ (x:=W++X.take k) (y:=X.drop k++(y0::Y').take n) (z:=(y0::Y').drop n++Z) (by rw[ha];simp only[YAj];rw[<-YAj (List.take n _),YAu,<-YAj (X.take k),YAu]) (by rw[YAG,YAW,YBg hkn]) hzl]
   simp only[YAj]
  have zm:∀v∈z.toList,v∈X.drop k\/v∈(y0::Y').take n:=λv hv=>by have:=hz1.mem_iff.mp hv;rw[xL,yL]at this;exact YAR.mp this
  have dxl:=dX xl hxm;have:=hQ (X.take k++z.toList++(y0::Y').drop n) _ g hp ?_ ?_
  .rw[<-hk,<-hf]at this;exact this
  .have e1:(X.take k++z.toList++(y0::Y').drop n).Perm (X.take k++(X.drop k++(y0::Y').take n)++(y0::Y').drop n):=by refine List.Perm.append_right _ (YDS _ ?_);rw[xL,yL]at hz1;exact hz1
   refine e1.trans (List.Perm.of_eq ?_);rw[<-YAj,YAu,YAj,YAu]
  .have zY2:∀u∈z.toList,∀v∈(y0::Y').drop n,Le L u v:=by
    intro u hu v hv;rcases zm u hu with h | h
    .have hux:Le L u xl:=by
      have e5:X=X.take (X.length-1)++[xl]:=by
       obtain⟨h5,h6⟩:=YAU.mp hxl
       conv=>lhs;rw[<-YAu (X.length-1) X,YCz h5,h6,YBr (by lia)]
      have hu':u∈X:=YAg h;rw[e5]at sX hu';rcases YAR.mp hu' with hu' | hu'
      .exact(YAq.mp sX).2.2 u hu' xl (by simp)
      .have:u=xl:=by simpa using hu'
       subst this;exact le_refl' hC dxl
     exact hC.tr u xl v (dX u (YAg h)) dxl (dY v (YAg hv)) hux (hb2 v hv)
    .have e5:=sY;rw[<-YAu n (y0::Y')]at e5;exact(YAq.mp e5).2.2 u h v hv
   rw[YAq,YAq];refine⟨⟨sX.sublist (YCX _ _),hz2,λu hu v hv=>?_⟩,sY.sublist (List.drop_sublist _ _),λu hu v hv=>?_⟩
   .rcases zm v hv with h | h
    .have e5:=sX;rw[<-YAu k X]at e5;exact(YAq.mp e5).2.2 u hu v h
    .exact X1Y u hu v (YAZ h)
   .rcases YAR.mp hu with hu | hu
    .exact X1Y u hu v (YAg hv)
    .exact zY2 u hu v hv
 have xp:0<x.size:=by lia
 have yp:0<y.size:=by lia
 rw[<-hx,<-hy];by_cases c3:X.length-k<=n
 .rw[YAM c3];refine YAS (Zot (st:=setPending st _) ⟨dx,dy,sx,sy,λu hu v hv=>by rw[xd v hv];exact yxl u hu⟩ hC hP (by exact hk) xp yp (λu hu v hv=>?_) λz g hz=>main z g hz);have hu:u=y0:=by rw[y1]at hu;simpa using hu
  subst hu;exact hC.asym u v dy0 (dx v hv) (y0x v hv)
 .rw[YAJ c3];refine YAS (Zov (st:=setPending st _) ⟨dx,dy,sx,sy,λu hu v hv=>by rw[y1]at hu;rw[show u=y0 by simpa using hu];exact y0x v hv⟩ hC hP (by exact hk) xp yp (λu hu v hv=>?_) λz g hz=>main z g hz);rw[xd u hu];exact hC.asym v xl (dy v hv) (dX xl hxm) (yxl v hv)
end
abbrev CmpT (L:Keyed->Keyed->Bool):Prop:=Cmp (λ_=>True) L
theorem CmpT.to (h:CmpT L):Cmp D L:=⟨λx y _ _=>h.asym x y trivial trivial,λx y z _ _ _=>h.tr x y z trivial trivial trivial⟩
theorem CmpT.rf (h:CmpT L)(x:Keyed):Le L x x:=le_refl' h trivial
theorem CmpT.le (h:CmpT L){x y:Keyed}(e:L x y=true):Le L x y:=h.asym x y trivial trivial e
theorem CmpT.t (h:CmpT L){x y z:Keyed}(e:Le L x y)(f:Le L y z):Le L x z:=h.tr x y z trivial trivial trivial e f
theorem CmpT.lt_le (h:CmpT L){x y z:Keyed}(e:L x y=true)(f:Le L y z):L x z=true:=by
 cases hx:L x z with
 | true=>rfl
 | false=>rw[h.tr y z x trivial trivial trivial f hx]at e;cases e
noncomputable def at0 (a:Array Keyed) (i:Nat):Keyed:=(a[i]?).getD (.none,.none)
theorem Zeb (h:a[i]?=b[j]?):at0 a i=at0 b j:=by unfold at0;rw[h]
noncomputable def SegU (L:Keyed->Keyed->Bool) (a:Array Keyed) (l h:Nat):Prop:=∀i j,l<=i->i<=j->j<h->Le L (at0 a i) (at0 a j)
noncomputable def SegD (L:Keyed->Keyed->Bool) (a:Array Keyed) (l h:Nat):Prop:=∀i j,l<=i->i<=j->j<h->Le L (at0 a j) (at0 a i)
structure Kept (lo:Nat)(a b:Array Keyed):Prop where
 perm:b.Perm a
 pre:∀k,k<lo->b[k]?=a[k]?
theorem Kept.rf (lo:Nat)(a:Array Keyed):Kept lo a a:=⟨Array.Perm.refl _,λ_ _=>rfl⟩
theorem Kept.tr {lo:Nat}{a b c:Array Keyed}(h:Kept lo a b)(k:Kept lo b c):Kept lo a c:=⟨k.perm.trans h.perm,λi hi=>(k.pre i hi).trans (h.pre i hi)⟩
theorem Kept.sz {lo:Nat}{a b:Array Keyed}(h:Kept lo a b):b.size=a.size:=h.perm.size_eq
theorem Kept.d {lo:Nat}{a b:Array Keyed}{D:Keyed->Prop}(h:Kept lo a b)(hd:∀u∈a.toList,D u):∀u∈b.toList,D u:=λu hu=>hd u ((YCN.mp h.perm).mem_iff.mp hu)
theorem ZjX (hs:src<xs.size)(hd:d<=src)(k:Nat):
  at0 (bubble xs src d) k=if k=src-d then at0 xs src else if src-d<k/\k<=src then at0 xs (k-1) else at0 xs k:=by
 have e:=getElem?_bubble hs d hd k;repeat' split
 all_goals (refine Zeb (e.trans ?_);first | rw[YAM (by assumption)] | (rw[YAJ (by assumption)];first | rw[YAM (by assumption)] | rw[YAJ (by assumption)]))
theorem Zg2 (hj:j<=xs.size)(k:Nat):
  at0 (mirror xs i j ((j-i)/2)) k=if i<=k/\k<j then at0 xs (i+j-1-k) else at0 xs k:=by
 have e:=getElem?_mirror_all (i:=i) hj k;split
 .exact Zeb (e.trans (YAM (by assumption)))
 .exact Zeb (e.trans (YAJ (by assumption)))
theorem Kept.bub {lo src d:Nat}{a:Array Keyed}(hs:src<a.size)(hd:lo+d<=src):Kept lo a (bubble a src d):=
 ⟨bubble_perm _ _ _,λk hk=>by rw[getElem?_bubble hs d (by lia),YAJ (by lia),YAJ (by lia)]⟩
theorem Kept.mir {lo i j:Nat}{a:Array Keyed}(hj:j<=a.size)(hl:lo<=i):Kept lo a (mirror a i j ((j-i)/2)):=
 ⟨mirror_perm _ _ _ _,λk hk=>by rw[getElem?_mirror_all hj,YAJ (by lia)]⟩
section
variable {M:Model}{A:AI}{E:Q33}{s:AF}{D:Keyed->Prop}{L:Keyed->Keyed->Bool}{kd:SortKind}{st:SortSt}
theorem ZfM (hP:PureC M A E s D L kd)(hk:kindOf st=kd)(hd:∀u∈a.toList,D u)(hi:i<a.size)(hj:j<a.size)
  (q:Q (some (L (at0 a i) (at0 a j))) (setArr st a)):wpS M A E s (ltAt' i j) Q (setArr st a):=by
 obtain⟨x,hx,hxm⟩:=at? hi;obtain⟨y,hy,hym⟩:=at? hj;have ex:at0 a i=x:=by unfold at0;rw[hx];rfl
 have ey:at0 a j=y:=by unfold at0;rw[hy];rfl
 rw[ex,ey]at q;rw[ltAt'_eq];refine YAS (wpS_get ?_);exact YAS (Zbd hx (YAS (Zbd hy (hP _ _ _ _ hk (hd x hxm) (hd y hym) q))))
theorem Zm1 {a:Array Keyed}{lo n ok:Nat}{Q:Bool->SortSt->Prop}(hC:CmpT L)(hP:PureC M A E s D L kd)(hk:kindOf st=kd)(hd:∀u∈a.toList,D u)(hn:lo+n<=a.size)(hok:ok<=n)
  (hs:SegU L a lo (lo+ok)) (h:∀b,Kept lo a b->SegU L b lo (lo+n)->Q true (setArr st b)):wpS M A E s (binarySort' lo n ok) Q (setArr st a):=by
 rw[binarySort'_eq];refine YAS (YCL (YBa (I:=λk c st'=>c=(none,())/\∃b,st'=setArr st b/\Kept lo a b/\SegU L b lo (lo+min k n))
  (Q:=λc st'=>c=(none,())/\∃b,st'=setArr st b/\Kept lo a b/\SegU L b lo (lo+n)) ?step ?fin ?init) ?post)
 case post=>
  rintro c st' ⟨rfl,b,rfl,hb,hs'⟩;exact YAc (h b hb hs')
 case init=>
  refine⟨rfl,a,rfl,Kept.rf _ _,λi j hl hij hj=>?_⟩;by_cases h1:ok=0
  .have:i=j:=by lia
   subst this;exact hC.rf _
  .exact hs i j hl hij (by lia)
 case fin=>
  rintro c st' ⟨hc,b,hst,hb,hs'⟩;refine⟨hc,b,hst,hb,?_⟩
  rwa [show min (max (max ok 1) n) n=n by lia]at hs'
 case step=>
  rintro k c st' hak hkn ⟨rfl,b,rfl,hb,hs'⟩;rw[show min k n=k by lia]at hs';have hsz:=hb.sz;have hdb:=hb.d hd;refine YAS (YCL (YBa (I:=λx c st''=>st''=setArr st b/\∃l r,c=(none,l,r)/\l<=r/\r<=k/\r-l<=k-x /\
    (∀i,lo<=i->i<lo+l->Le L (at0 b i) (at0 b (lo+k)))/\(∀i,lo+r<=i->i<lo+k->L (at0 b (lo+k)) (at0 b i)=true))
   (Q:=λc st''=>st''=setArr st b/\∃l r,c=(none,l,r)/\l<=k /\
    (∀i,lo<=i->i<lo+l->Le L (at0 b i) (at0 b (lo+k)))/\(∀i,lo+l<=i->i<lo+k->L (at0 b (lo+k)) (at0 b i)=true)) ?istep ?ifin ?iinit) ?ipost)
  case iinit=>exact⟨rfl,0,k,rfl,by lia,by lia,by lia,λi h1 hi=>by lia,λi h1 h2=>by lia⟩
  case ifin=>
   rintro c st'' ⟨rfl,l,r,rfl,hlr,hrk,hm,hlo,hhi⟩;have:l=r:=by lia
   subst this;exact⟨rfl,l,l,rfl,hrk,hlo,hhi⟩
  case istep=>
   rintro x c st'' _ hxk ⟨rfl,l,r,rfl,hlr,hrk,hm,hlo,hhi⟩;dsimp only;by_cases hge:l>=r
   .rw[YAM hge];have:l=r:=by lia
    subst this;exact YAc ⟨rfl,l,l,rfl,hrk,hlo,hhi⟩
   .rw[YAJ hge];refine YAS (ZfM hP hk hdb (by lia) (by lia) ?_);cases hless:L (at0 b (lo+k)) (at0 b (lo+(l+r)/2)) with
    | true=>exact YAc ⟨rfl,l,(l+r)/2,rfl,by lia,by lia,by lia,hlo,λi h1 h2=>hC.lt_le hless (hs' _ _ (by lia) h1 h2)⟩
    | false=>exact YAc ⟨rfl,(l+r)/2+1,r,rfl,by lia,by lia,by lia,λi h0 h1=>hC.t (hs' i (lo+(l+r)/2) h0 (by lia) (by lia)) hless,hhi⟩
  case ipost=>
   rintro c st'' ⟨rfl,l,r,rfl,hlk,hlo,hhi⟩;show wpS _ _ _ _ (do moveDown' (lo+k) (lo+l);pure (ForInStep.yield (none,()))) _ _;rw[moveDown'_eq];have hks:lo+k<b.size:=by lia
   refine YAS (YCU (YAc ⟨rfl,bubble b (lo+k) (lo+k-(lo+l)),rfl,hb.tr (Kept.bub hks (by lia)),?_⟩));rw[show min (k+1) n=k+1 by lia];intro i j hl hij hj;rw[ZjX hks (by lia),ZjX hks (by lia),show lo+k-(lo+k-(lo+l))=lo+l by lia];repeat' split
   all_goals first
    | (exfalso;lia)
    | exact hC.rf _
    | exact hlo _ (by lia) (by lia)
    | exact hC.le (hhi _ (by lia) (by lia))
    | exact hs' _ _ (by lia) (by lia) (by lia)
end
noncomputable def ascO (lo a nr:Nat):StateT SortSt Sem AscSt:=
 forIn [a:nr] ((none,a):AscSt) λ_ c=>do
  let x <-ltAt' (lo+c.snd) (lo+c.snd-1)
  match x with
  | some sm=>if sm=true then pure (ForInStep.done (none,c.snd)) else pure (ForInStep.yield (none,c.snd+1))
  | _=>pure (ForInStep.done (some none,c.snd))
noncomputable def tailO (lo n nr:Nat):StateT SortSt Sem (Option Nat):=do
 reverseSlice' lo (lo+n)
 let c <-ascO lo n nr
 match c.fst with
 | some r=>pure r
 | none=>pure (some c.snd)
noncomputable def descO (lo n nr:Nat):StateT SortSt Sem DescSt:=
 forIn [n:nr] ((none,n,0):DescSt) λ_ c=>do
  let x <-ltAt' (lo+c.snd.fst) (lo+c.snd.fst-1)
  match x with
  | some sm=>
   if sm=true then
    if c.snd.snd>0 then do
     reverseSlice' (lo+c.snd.fst-(c.snd.snd+1)) (lo+c.snd.fst)
     pure (ForInStep.yield (none,c.snd.fst+1,0))
    else pure (ForInStep.yield (none,c.snd.fst+1,0))
   else do
    let y <-ltAt' (lo+c.snd.fst-1) (lo+c.snd.fst)
    match y with
    | some lg=>
     if lg=true then pure (ForInStep.done (none,c.snd.fst,c.snd.snd))
     else pure (ForInStep.yield (none,c.snd.fst+1,c.snd.snd+1))
    | _=>pure (ForInStep.done (some none,c.snd.fst,c.snd.snd))
  | _=>pure (ForInStep.done (some none,c.snd.fst,c.snd.snd))
section
variable {M:Model}{A:AI}{E:Q33}{s:AF}{D:Keyed->Prop}{L:Keyed->Keyed->Bool}{kd:SortKind}{st:SortSt}
noncomputable def Eqv (L:Keyed->Keyed->Bool) (x y:Keyed):Prop:=Le L x y/\Le L y x
theorem ZdL (q:Q () (setArr st (mirror a i j ((j-i)/2)))):wpS M A E s (reverseSlice' i j) Q (setArr st a):=by rw[reverseSlice'_eq];exact YCU q
theorem ZjY {a:Array Keyed}{lo n0 nr:Nat}{Q:AscSt->SortSt->Prop}(hC:CmpT L)(hP:PureC M A E s D L kd)(hk:kindOf st=kd)(hd:∀u∈a.toList,D u)(hn:lo+nr<=a.size)(h1:1<=n0)(hnn:n0<=nr)
  (hs:SegU L a lo (lo+n0)) (h:∀n,n0<=n->n<=nr->SegU L a lo (lo+n)->(n=nr\/L (at0 a (lo+n)) (at0 a (lo+n-1))=true)->Q (none,n) (setArr st a)):wpS M A E s (ascO lo n0 nr) Q (setArr st a):=by
 unfold ascO;refine YBa (I:=λx c st'=>st'=setArr st a/\c=(none,x)/\SegU L a lo (lo+x)) ?step ?fin ⟨rfl,rfl,hs⟩
 case fin=>
  rintro c st' ⟨rfl,rfl,hs'⟩;rw[show max n0 nr=nr by lia]at hs' ⊢;exact h nr hnn (YAP _) hs' (.inl rfl)
 case step=>
  rintro x c st' hax hxn ⟨rfl,rfl,hs'⟩;dsimp only;refine YAS (ZfM hP hk hd (by lia) (by lia) ?_);cases hl:L (at0 a (lo+x)) (at0 a (lo+x-1)) with
  | true=>exact YAc (h x hax (by lia) hs' (.inr hl))
  | false=>
   refine YAc ⟨rfl,rfl,λi j hli hij hj=>?_⟩;by_cases hjx:j<lo+x
   .exact hs' i j hli hij hjx
   .have hj':j=lo+x:=by lia
    subst hj';by_cases hi':i=lo+x
    .subst hi';exact hC.rf _
    .exact hC.t (hs' i (lo+x-1) hli (by lia) (by lia)) hl
theorem Zdt {a:Array Keyed}{lo n nr:Nat}{Q:Option Nat->SortSt->Prop}(hC:CmpT L)(hP:PureC M A E s D L kd)(hk:kindOf st=kd)(hd:∀u∈a.toList,D u)(hn:lo+nr<=a.size)(h1:1<=n)(hnn:n<=nr)
  (hs:SegD L a lo (lo+n)) (h:∀b m,Kept lo a b->1<=m->m<=nr->SegU L b lo (lo+m)->Q (some m) (setArr st b)):wpS M A E s (tailO lo n nr) Q (setArr st a):=by
 unfold tailO;refine YAS (ZdL ?_);have hK:Kept lo a (mirror a lo (lo+n) ((lo+n-lo)/2)):=Kept.mir (by lia) (YAP _);refine YAS (ZjY hC hP hk (hK.d hd) (by rw[hK.sz];exact hn) h1 hnn ?_ λm hm1 hm2 hsm _=>YAc (h _ m hK (by lia) hm2 hsm));intro i j hli hij hj;rw[Zg2 (by lia),Zg2 (by lia),YAM (by lia),YAM (by lia)];exact hs _ _ (by lia) (by lia) (by lia)
theorem ZeZ (hC:CmpT L)(hj:j<=a.size)(he:∀k,i<=k->k<j->Eqv L (at0 a k) (at0 a (j-1)))(k:Nat):Eqv L (at0 (mirror a i j ((j-i)/2)) k) (at0 a k):=by
 rw[Zg2 hj];split
 .have e1:=he (i+j-1-k) (by lia) (by lia);have e2:=he k (by lia) (by lia);exact⟨hC.t e1.1 e2.2,hC.t e2.1 e1.2⟩
 .exact⟨hC.rf _,hC.rf _⟩
theorem SegD.eqv (hC:CmpT L)(hs:SegD L a l h)(he:∀k,Eqv L (at0 b k) (at0 a k)):SegD L b l h:=
 λi j h1 h2 h3=>hC.t (he j).1 (hC.t (hs i j h1 h2 h3) (he i).2)
theorem SegD.more (hC:CmpT L)(hs:SegD L a l x)(hle:l<x->Le L (at0 a x) (at0 a (x-1))):SegD L a l (x+1):=by
 intro i j hli hij hj;by_cases hjx:j<x
 .exact hs i j hli hij hjx
 .have hj':j=x:=by lia
  subst hj';by_cases hi':i=j
  .subst hi';exact hC.rf _
  .exact hC.t (hle (by lia)) (hs i (j-1) hli (by lia) (by lia))
theorem ZhN {a:Array Keyed}{lo n nr:Nat}{Q:DescSt->SortSt->Prop}(hC:CmpT L)(hP:PureC M A E s D L kd)(hk:kindOf st=kd)(hd:∀u∈a.toList,D u)(hn:lo+nr<=a.size)(h1:1<=n)(hnn:n<=nr)
  (hs:SegD L a lo (lo+n))
  (h:∀b m nq,Kept lo a b->n<=m->m<=nr->SegD L b lo (lo+m)->nq+1<=m->(∀i,lo+m-(nq+1)<=i->i<lo+m->Eqv L (at0 b i) (at0 b (lo+m-1)))->Q (none,m,nq) (setArr st b)):
  wpS M A E s (descO lo n nr) Q (setArr st a):=by
 unfold descO;refine YBa (I:=λx c st'=>∃b nq,st'=setArr st b/\c=(none,x,nq)/\Kept lo a b/\SegD L b lo (lo+x)/\nq+1<=x /\
   (∀i,lo+x-(nq+1)<=i->i<lo+x->Eqv L (at0 b i) (at0 b (lo+x-1)))) ?step ?fin ⟨a,0,rfl,rfl,Kept.rf _ _,hs,by lia,λi h1 h2=>by rw[show i=lo+n-1 by lia];exact⟨hC.rf _,hC.rf _⟩⟩
 case fin=>
  rintro c st' ⟨b,nq,rfl,rfl,hK,hs',hq,he⟩;rw[show max n nr=nr by lia]at hs' hq he ⊢;exact h b nr nq hK hnn (YAP _) hs' hq he
 case step=>
  rintro x c st' hax hxn ⟨b,nq,rfl,rfl,hK,hs',hq,he⟩;have hbs:=hK.sz;have hdb:=hK.d hd;dsimp only;refine YAS (ZfM hP hk hdb (by lia) (by lia) ?_);cases hl:L (at0 b (lo+x)) (at0 b (lo+x-1)) with
  | true=>
   have hmore:SegD L b lo (lo+x+1):=hs'.more hC λ_=>hC.le hl;dsimp only;by_cases hq0:nq>0
   .rw[YAM rfl,YAM hq0];refine YAS (ZdL (YAc ⟨_,0,rfl,rfl,hK.tr (Kept.mir (by lia) (by lia)),hmore.eqv hC (ZeZ hC (by lia) he),by lia,λi h1 h2=>?_⟩));rw[show i=lo+(x+1)-1 by lia];exact⟨hC.rf _,hC.rf _⟩
   .rw[YAM rfl,YAJ hq0];refine YAc ⟨b,0,rfl,rfl,hK,hmore,by lia,λi h1 h2=>?_⟩;rw[show i=lo+(x+1)-1 by lia];exact⟨hC.rf _,hC.rf _⟩
  | false=>
   dsimp only;rw[YAJ YAC];refine YAS (ZfM hP hk hdb (by lia) (by lia) ?_);cases hg:L (at0 b (lo+x-1)) (at0 b (lo+x)) with
   | true=>exact YAc (h b x nq hK hax (by lia) hs' hq he)
   | false=>
    refine YAc ⟨b,nq+1,rfl,rfl,hK,hs'.more hC λ_=>hg,by lia,λi h1 h2=>?_⟩;rw[show lo+(x+1)-1=lo+x by lia];by_cases hix:i=lo+x
    .subst hix;exact⟨hC.rf _,hC.rf _⟩
    .have e:=he i (by lia) (by lia);exact⟨hC.t e.1 hl,hC.t hg e.2⟩
theorem ZmY {a:Array Keyed}{lo nr:Nat}{Q:Option Nat->SortSt->Prop}(hC:CmpT L)(hP:PureC M A E s D L kd)(hk:kindOf st=kd)(hd:∀u∈a.toList,D u)(hn:lo+nr<=a.size)(h1:1<=nr)
  (h:∀b m,Kept lo a b->1<=m->m<=nr->SegU L b lo (lo+m)->Q (some m) (setArr st b)):wpS M A E s (countRun' lo nr) Q (setArr st a):=by
 rw[countRun'_eq];refine YAS (YCL (ZjY (Q:=λc st'=>∃n,c=(none,n)/\st'=setArr st a/\1<=n/\n<=nr/\SegU L a lo (lo+n)/\(n=nr\/L (at0 a (lo+n)) (at0 a (lo+n-1))=true)) hC hP hk hd hn (YAP 1) h1 (λi j hl hij hj=>by have:i=j:=(by lia);subst this;exact hC.rf _) λn a1 a2 a3 a4=>⟨n,rfl,rfl,a1,a2,a3,a4⟩) ?_);rintro c st' ⟨n,rfl,rfl,hn1,hn2,hsn,hor⟩;dsimp only;by_cases hnn:n=nr
 .rw[YAM (by simpa using hnn)];exact YAc (h a n (Kept.rf _ _) hn1 hn2 hsn)
 .rw[YAJ (by simpa using hnn)];have A2:=hor.resolve_left hnn;by_cases hgt:n>1
  .rw[YAM hgt];refine YAS (ZfM hP hk hd (by lia) (by lia) ?_);cases hrose:L (at0 a lo) (at0 a (lo+n-1)) with
   | true=>
    dsimp only;rw[YAM rfl];exact YAc (h a n (Kept.rf _ _) hn1 hn2 hsn)
   | false=>
    dsimp only;rw[YAJ YAC];have hall:∀k,lo<=k->k<lo+n->Eqv L (at0 a k) (at0 a (lo+n-1)):=by intro k hk1 hk2;have a1:=hsn lo k (by lia) hk1 hk2;have a2:=hsn k (lo+n-1) hk1 (by lia) (by lia);exact⟨a2,hC.t hrose a1⟩
    have hsd:SegD L a lo (lo+(n+1)):=by refine SegD.more hC (λi j h1 h2 h3=>?_) λ_=>hC.le A2;replace h3:j<lo+n:=h3;exact hC.t (hall j (by lia) h3).1 (hall i h1 (by lia)).2
    have hK:Kept lo a (mirror a lo (lo+n) ((lo+n-lo)/2)):=Kept.mir (by lia) (YAP _);refine YAS (ZdL ?_);obtain⟨b,hb,hKb,hsb⟩:∃b,b=mirror a lo (lo+n) ((lo+n-lo)/2)/\Kept lo a b/\SegD L b lo (lo+(n+1)):=⟨_,rfl,hK,hsd.eqv hC (ZeZ hC (by lia) hall)⟩;rw[<-hb];have hbs:=Kept.sz hKb;refine YAS (wpS_lift (YBs ⟨rfl,?_⟩));refine YAS (ZhN hC hP hk (Kept.d hKb hd) (by lia) (by lia) (by lia) hsb λc m nq hK hm1 hm2 hs' hq he=>?_);have hcs:=hK.sz;have hdc:=hK.d (Kept.d hKb hd);dsimp only;by_cases hq0:nq>0
    .rw[YAM hq0];have hK2:Kept lo c (mirror c (lo+m-(nq+1)) (lo+m) ((lo+m-(lo+m-(nq+1)))/2)):=Kept.mir (by lia) (by lia);refine YAS (ZdL ?_);refine Eq.mp ?_ (Zdt (Q:=Q) hC hP hk (hK2.d hdc) (by rw[hK2.sz];lia) (by lia) hm2 (hs'.eqv hC (ZeZ hC (by lia) he)) λd k hc=>h d k (Kept.tr hKb (hK.tr (hK2.tr hc))));refine congrArg (λm=>wpS _ _ _ _ m _ _) ?_;unfold tailO ascO;refine congrArg _ (funext λ_=>congrArg _ (funext λc=>?_));obtain⟨r3,n3⟩:=c;cases r3<;>rfl
    .rw[YAJ hq0];refine Eq.mp ?_ (Zdt (Q:=Q) hC hP hk hdc (by lia) (by lia) hm2 hs' λd k hc=>h d k (Kept.tr hKb (hK.tr hc)));refine congrArg (λm=>wpS _ _ _ _ m _ _) ?_;unfold tailO ascO;refine congrArg _ (funext λ_=>congrArg _ (funext λc=>?_));obtain⟨r3,n3⟩:=c;cases r3<;>rfl
  .rw[YAJ hgt];obtain⟨b,hb,hKb,hsb⟩:∃b,b=a/\Kept lo a b/\SegD L b lo (lo+(n+1)):=⟨_,rfl,Kept.rf _ _,SegD.more hC (λi j h1 h2 h3=>by replace h3:j<lo+n:=h3;rw[show i=j by lia];exact hC.rf _) λ_=>hC.le A2⟩
   rw[<-hb];have hbs:=Kept.sz hKb;refine YAS (wpS_lift (YBs ⟨rfl,?_⟩));refine YAS (ZhN hC hP hk (Kept.d hKb hd) (by lia) (by lia) (by lia) hsb λc m nq hK hm1 hm2 hs' hq he=>?_);have hcs:=hK.sz;have hdc:=hK.d (Kept.d hKb hd);dsimp only;by_cases hq0:nq>0
   .rw[YAM hq0];have hK2:Kept lo c (mirror c (lo+m-(nq+1)) (lo+m) ((lo+m-(lo+m-(nq+1)))/2)):=Kept.mir (by lia) (by lia);refine YAS (ZdL ?_);refine Eq.mp ?_ (Zdt (Q:=Q) hC hP hk (hK2.d hdc) (by rw[hK2.sz];lia) (by lia) hm2 (hs'.eqv hC (ZeZ hC (by lia) he)) λd k hc=>h d k (Kept.tr hKb (hK.tr (hK2.tr hc))));refine congrArg (λm=>wpS _ _ _ _ m _ _) ?_;unfold tailO ascO;refine congrArg _ (funext λ_=>congrArg _ (funext λc=>?_));obtain⟨r3,n3⟩:=c;cases r3<;>rfl
   .rw[YAJ hq0];refine Eq.mp ?_ (Zdt (Q:=Q) hC hP hk hdc (by lia) (by lia) hm2 hs' λd k hc=>h d k (Kept.tr hKb (hK.tr hc)));refine congrArg (λm=>wpS _ _ _ _ m _ _) ?_;unfold tailO ascO;refine congrArg _ (funext λ_=>congrArg _ (funext λc=>?_));obtain⟨r3,n3⟩:=c;cases r3<;>rfl
end
noncomputable def Pd (L:Keyed->Keyed->Bool):Nat->List (Nat×Nat×Nat)->List (List Keyed)->Prop
 | _,[],[]=>True
 | o,t::ps,r::rs=>t.1=o/\t.2.1=r.length/\r≠[]/\r.Pairwise (Le L)/\Pd L (o+r.length) ps rs
 | _,_,_=>False
section
variable {M:Model}{A:AI}{E:Q33}{s:AF}{D:Keyed->Prop}{L:Keyed->Keyed->Bool}{kd:SortKind}{st:SortSt}
theorem Pd.len:∀ {ps:List (Nat×Nat×Nat)} {rs:List (List Keyed)} {o:Nat},Pd L o ps rs->ps.length=rs.length
 | [],[],_,_=>rfl
 | t::ps,r::rs,o,h=>by have:=Pd.len h.2.2.2.2;simp[this]
 | [],_::_,_,h=>h.elim
 | _::_,[],_,h=>h.elim
theorem Pd.le:∀ {ps:List (Nat×Nat×Nat)} {rs:List (List Keyed)} {o:Nat},Pd L o ps rs->ps.length<=rs.flatten.length
 | [],[],_,_=>by simp
 | t::ps,r::rs,o,h=>by
  have h1:=Pd.le h.2.2.2.2;have h2:=YBV.mpr h.2.2.1;rw[YDO,YAG,YAf];lia
 | [],_::_,_,h=>h.elim
 | _::_,[],_,h=>h.elim
theorem Pd.app:∀ {ps:List (Nat×Nat×Nat)} {rs:List (List Keyed)} {o:Nat} {t:Nat×Nat×Nat} {r:List Keyed},Pd L o ps rs->t.1=o+rs.flatten.length->t.2.1=r.length->r≠[]->r.Pairwise (Le L)->Pd L o (ps++[t]) (rs++[r])
 | [],[],o,t,r,_,h1,h2,h3,h4=>⟨by simpa using h1,h2,h3,h4,trivial⟩
 | t::ps,r::rs,o,t',r',h,h1,h2,h3,h4=>⟨h.1,h.2.1,h.2.2.1,h.2.2.2.1,Pd.app h.2.2.2.2 (by rw[h1,YDO,YAG];lia) h2 h3 h4⟩
 | [],_::_,_,_,_,h,_,_,_,_=>h.elim
 | _::_,[],_,_,_,h,_,_,_,_=>h.elim
theorem Pd.pow:∀ {ps qs:List (Nat×Nat×Nat)} {rs:List (List Keyed)} {o:Nat},Pd L o ps rs->ps.map (λt=>(t.1,t.2.1))=qs.map (λt=>(t.1,t.2.1))->Pd L o qs rs
 | [],qs,[],_,_,e=>by
  have:qs=[]:=by simpa using e.symm
  subst this;trivial
 | t::ps,qs,r::rs,o,h,e=>by
  cases qs with
  | nil=>simp at e
  | cons u qs=>
   simp only[YAi,List.cons.injEq,Prod.mk.injEq]at e;exact⟨e.1.1▸h.1,e.1.2▸h.2.1,h.2.2.1,h.2.2.2.1,Pd.pow h.2.2.2.2 e.2⟩
 | [],_,_::_,_,h,_=>h.elim
 | _::_,_,[],_,h,_=>h.elim
theorem Pd.pick:∀ {ps:List (Nat×Nat×Nat)} {rs:List (List Keyed)} {o i:Nat},Pd L o ps rs->i+1<ps.length ->
  ∃ra X Y rb pw pw2,rs=ra++X::Y::rb/\ps[i]?=some (o+ra.flatten.length,X.length,pw)/\ps[i+1]?=some (o+ra.flatten.length+X.length,Y.length,pw2)/\X≠[]/\Y≠[]/\X.Pairwise (Le L)/\Y.Pairwise (Le L) /\
   ∀V:List Keyed,V.length=X.length+Y.length->V.Pairwise (Le L)->Pd L o ((ps.set i (o+ra.flatten.length,X.length+Y.length,pw)).eraseIdx (i+1)) (ra++V::rb)
 | t::u::ps,r::r2::rs,o,0,h,_=>by
  obtain⟨a1,a2,a3,a4,b1,b2,b3,b4,b5⟩:=h;obtain⟨t1,t2,t3⟩:=t;obtain⟨u1,u2,u3⟩:=u;dsimp only at a1 a2 b1 b2;subst a1 a2 b1 b2;refine⟨[],r,r2,rs,t3,u3,rfl,by simp,by simp,a3,b3,a4,b4,λV hV hs=>?_⟩;refine⟨by simp,by simpa using hV.symm,?_,hs,?_⟩
  .intro e;rw[e]at hV;have:=YBV.mpr a3;simp at hV;lia
  .rw[hV,<-Nat.add_assoc];exact b5
 | t::ps,r::rs,o,i+1,h,hi=>by
  obtain⟨a1,a2,a3,a4,a5⟩:=h;obtain⟨ra,X,Y,rb,pw,pw2,h1,h2,h3,h4,h5,h6,h7,h8⟩:=Pd.pick a5 (i:=i) (by simpa using hi);refine⟨r::ra,X,Y,rb,pw,pw2,by rw[h1];rfl,?_,?_,h4,h5,h6,h7,λV hV hs=>?_⟩
  .rw[List.getElem?_cons_succ,h2,YDO,YAG,Nat.add_assoc]
  .rw[List.getElem?_cons_succ,h3,YDO,YAG,Nat.add_assoc o]
  .have:=h8 V hV hs;rw[List.set_cons_succ,List.eraseIdx_cons_succ,YDO,YAG,<-Nat.add_assoc];exact⟨a1,a2,a3,a4,this⟩
 | [_],[_],_,0,_,h=>by simp at h
 | [],_,_,_,_,h=>by simp at h
 | _::_,[],_,_,h,_=>h.elim
 | _::_::_,[_],_,0,h,_=>h.2.2.2.2.elim
 | [_],_::_::_,_,0,h,_=>h.2.2.2.2.elim
structure SI (L:Keyed->Keyed->Bool)(kd:SortKind)(a0:List Keyed)(n:Nat)(Z:List Keyed)(st:SortSt):Prop where
 kind:kindOf st=kd
 fail:failedOf st=none
 perm:(arrOf st).toList.Perm a0
 runs:∃rs:List (List Keyed),(arrOf st).toList=rs.flatten++Z/\rs.flatten.length=n/\Pd L 0 (pendingOf st).toList rs
theorem SI.merge (hC:CmpT L)(hP:PureC M A E s D L kd)(hd:∀u∈a0,D u)(h:SI L kd a0 n Z st)(hi:i+1<(pendingOf st).size)
  (q:∀st',SI L kd a0 n Z st'->(pendingOf st').size+1=(pendingOf st).size->Q true st'):wpS M A E s (mergeAt' i) Q st:=by
 obtain⟨h1,h2,h3,rs,h4,h5,h6⟩:=h;obtain⟨ra,X,Y,rb,pw,pw2,rfl,p1,p2,p3,p4,p5,p6,p7⟩:=h6.pick (i:=i) (by simpa using hi);rw[Nat.zero_add]at p1 p2;have ha:(arrOf st).toList=ra.flatten++X++Y++(rb.flatten++Z):=by rw[h4];simp
 refine Zox hC.to hP h1 h2 ha (λu hu=>hd u (h3.mem_iff.mp hu)) p3 p4 p5 p6 (by rw[<-YAr];exact p1) (by rw[<-YAr];exact p2) λV a g hV hp hs=>?_;have hl:=hp.length_eq;rw[YAG]at hl;refine q _ ⟨rfl,rfl,?_,ra++V::rb,?_,?_,?_⟩ ?_
 .show a.toList.Perm a0;refine List.Perm.trans ?_ h3;rw[hV,ha];have:=(YDS ra.flatten hp).append_right (rb.flatten++Z);simpa using this
 .show a.toList=_;rw[hV];simp
 .rw[<-h5];simp[hl];lia
 .show Pd L 0 (Array.eraseIdxIfInBounds _ _).toList _;have:=p7 V hl hs;rw[Nat.zero_add]at this;rw[Array.toList_eraseIdxIfInBounds,YCv];exact this
 .show (Array.eraseIdxIfInBounds _ _).size+1=_;rw[<-YAF,Array.toList_eraseIdxIfInBounds,YCv,YCM (by simpa using hi),List.length_set,YAF];lia
end
theorem Kept.pref {lo:Nat}{a b:Array Keyed}{F Z:List Keyed}(h:Kept lo a b)(ha:a.toList=F++Z)(hF:F.length=lo):b.toList=F++b.toList.drop lo:=by
 have e:b.toList.take lo=F:=by
  refine YCs λi=>?_;rw[YCg];by_cases hi:i<lo
  .rw[YAM hi,YAr,h.pre i hi,<-YAr,ha,YBC (by lia)]
  .rw[YAJ hi,YBb (by lia)]
 conv=>lhs;rw[<-YAu lo b.toList,e]
theorem SegU.pw {L:Keyed->Keyed->Bool}{b:Array Keyed}{lo m:Nat}(h:SegU L b lo (lo+m)):((b.toList.drop lo).take m).Pairwise (Le L):=by
 rw[YCy];intro i j hi hj hij;rw[YAW,YAp,YAF]at hi hj;have e:∀k (hk:k<((b.toList.drop lo).take m).length),at0 b (lo+k)=((b.toList.drop lo).take m)[k]:=by intro k hk;rw[YAW,YAp,YAF]at hk;unfold at0;rw[getElem?_pos b (lo+k) (by lia)];simp
 rw[<-e i (by simp;lia),<-e j (by simp;lia)];exact h _ _ (by lia) (by lia) (by lia)
section
variable {M:Model}{A:AI}{E:Q33}{s:AF}{D:Keyed->Prop}{L:Keyed->Keyed->Bool}{kd:SortKind}{st:SortSt}
theorem SI.push {a0 R Z:List Keyed}{lo n p:Nat}(h:SI L kd a0 lo (R++Z) st)(h1:R.length=n)(h2:R≠[])(h3:R.Pairwise (Le L)):SI L kd a0 (lo+n) Z (setPending st ((pendingOf st).push (lo,n,p))):=by
 obtain⟨a1,a2,a3,rs,a4,a5,a6⟩:=h;refine⟨a1,a2,a3,rs++[R],?_,?_,?_⟩
 .show (arrOf st).toList=_;rw[a4];simp
 .simp[a5,h1]
 .show Pd L 0 ((pendingOf st).push (lo,n,p)).toList _;rw[YBd];exact a6.app (by simp[a5]) h1.symm h2 h3
theorem Zif (g:α->β)(f:α->α)(h:∀x,g (f x)=g x)(l:List α)(k:Nat):(l.modify k f).map g=l.map g:=by
 refine YCs λi=>?_;rw[YAQ,YAQ,List.getElem?_modify];cases l[i]? with
 | none=>rfl
 | some x=>by_cases e:k=i<;>simp[e,h]
theorem SI.pow {a0 Z:List Keyed}{lo k w:Nat}(h:SI L kd a0 lo Z st):SI L kd a0 lo Z (setPending st ((pendingOf st).modify k λx=>(x.1,x.2.1,w))):=by obtain⟨a1,a2,a3,rs,a4,a5,a6⟩:=h;refine⟨a1,a2,a3,rs,a4,a5,?_⟩;show Pd L 0 ((pendingOf st).modify k _).toList _;rw[Array.toList_modify];exact a6.pow (Zif (λt=>(t.1,t.2.1)) (λx=>(x.1,x.2.1,w)) (λ_=>rfl) _ _).symm
theorem ZiO (hC:CmpT L)(hP:PureC M A E s D L kd)(hd:∀u∈a0,D u)(hk:kindOf st=kd)(hf:failedOf st=none)(hpe:pendingOf st=#[])(ha:(arrOf st).toList=a0)
  (q:∀st',(arrOf st').toList.Perm a0->(arrOf st').toList.Pairwise (Le L)->failedOf st'=none->Q () st'):wpS M A E s sortRuns' Q st:=by
 rw[sortRuns'_eq];refine YAS (wpS_get ?_);dsimp only;obtain⟨N,hN⟩:∃N,N=(arrOf st).size:=⟨_,rfl⟩;have hN':a0.length=N:=by rw[hN,<-ha,YAF]
 rw[<-hN];have hSI:SI L kd a0 0 a0 st:=⟨hk,hf,by rw[ha],[],by simpa using ha,rfl,by rw[hpe];trivial⟩;refine YAS (YCL (YBa (a:=0) (b:=N) (I:=λx c st'=>∃lo Z,c=(none,lo)/\SI L kd a0 lo Z st'/\x<=lo/\lo<=N)
  (Q:=λc st'=>∃Z,c=(none,N)/\SI L kd a0 N Z st') ?step ?fin ⟨0,a0,rfl,hSI,by lia,by lia⟩) ?post)
 case fin=>
  rintro c st' ⟨lo,Z,rfl,hS,hx,hl⟩;have:lo=N:=by lia
  subst this;exact⟨Z,rfl,hS⟩
 case post=>
  rintro c st' ⟨Z,rfl,hS⟩;have hZ:∀st',SI L kd a0 N Z st'->Z=[]:=by intro st' hS;obtain⟨h1,h2,h3,rs,h4,h5,h6⟩:=hS;have:=h3.length_eq;rw[h4,YAG,h5,hN']at this;exact YCZ.mp (by lia)
  dsimp only;refine YAS (YCL (YBa (a:=0) (b:=N) (I:=λx c st'=>c=(none,())/\SI L kd a0 N Z st'/\(pendingOf st').size+x<=N)
   (Q:=λc st'=>c=(none,())/\SI L kd a0 N Z st'/\(pendingOf st').size<=1) ?s2 ?f2 ⟨rfl,hS,?_⟩) ?p2)
  case f2=>
   rintro c st' ⟨rfl,hS,hx⟩;exact⟨rfl,hS,by lia⟩
  case p2=>
   rintro c st' ⟨rfl,hS,hx⟩;obtain⟨h1,h2,h3,rs,h4,h5,h6⟩:=hS;have:=hZ st' ⟨h1,h2,h3,rs,h4,h5,h6⟩;subst this;refine YAc (q st' h3 ?_ h2);have hl:=h6.len;rw[YAF]at hl;rw[h4,YCp];cases rs with
   | nil=>exact List.Pairwise.nil
   | cons r rs=>
    cases rs with
    | nil=>
     cases hps:(pendingOf st').toList with
     | nil=>rw[hps]at h6;exact h6.elim
     | cons t ps=>rw[hps]at h6;simpa using h6.2.2.2.1
    | cons r2 rs=>simp at hl;lia
  case s2=>
   rintro x c st' _ hx ⟨rfl,hS,hpx⟩;refine YAS (wpS_get ?_);by_cases hp1:(pendingOf st').size<=1
   .rw[YAM hp1];exact YAc ⟨rfl,hS,hp1⟩
   .rw[YAJ hp1];refine YAS (hS.merge hC hP hd ?_ λst2 hS2 hp2=>?_)
    .have hle:∀(c:Prop) [Decidable c] (k:Nat),(if c then k-1 else k)<=k:=λc _ k=>by split<;>lia
     exact YBf (YBj (hle _ _)) (by lia)
    .exact YAc ⟨rfl,hS2,by lia⟩
  .obtain⟨h1,h2,h3,rs,h4,h5,h6⟩:=hS;have:=h6.le;rw[YAF]at this;lia
 case step=>
  rintro x c st' _ hx ⟨lo,Z,rfl,hS,hxl,hl⟩;dsimp only;by_cases hlo:lo>=N
  .rw[YAM hlo];have:lo=N:=by lia
   subst this;exact YAc ⟨Z,rfl,hS⟩
  rw[YAJ hlo];obtain⟨h1,h2,h3,rs,h4,h5,h6⟩:=hS;have hsz:(arrOf st').size=N:=by rw[<-YAF,h3.length_eq,hN']
  have hda:∀u∈(arrOf st').toList,D u:=λu hu=>hd u (h3.mem_iff.mp hu);refine YAS (Eq.mp (congrArg (λv=>wpS M A E s (countRun' lo (N-lo)) _ v) (show setArr st' (arrOf st')=st' from rfl)) (ZmY hC hP h1 hda (by lia) (by lia) λb m hK hm1 hm2 hsm=>?_));dsimp only;have hbz:=hK.sz;by_cases hmr:m<minRun' N N 0
  .rw[YAM hmr];obtain⟨n,hn⟩:∃n,n=min (N-lo) (minRun' N N 0):=⟨_,rfl⟩;rw[<-hn];refine YAS (wpS_lift (YBs ⟨rfl,?_⟩));refine YAS (Zm1 hC hP h1 (hK.d hda) (by lia) (by lia) hsm λb2 hK2 hs2=>?_);rw[YAJ (by simp)];have hKb:=hK.tr hK2;have hn1:1<=n:=by lia
   have hn2:n<=N-lo:=by lia
   have hbz2:=Kept.sz hKb;have hb1:=Kept.pref hKb h4 h5;obtain⟨R,hR⟩:∃R,R=(List.drop lo (Array.toList b2)).take n:=⟨_,rfl⟩;obtain⟨Z2,hZ2⟩:∃Z2,Z2=(List.drop lo (Array.toList b2)).drop n:=⟨_,rfl⟩;have hRZ:(List.drop lo (Array.toList b2))=R++Z2:=by rw[hR,hZ2,YAu]
   have hRl:R.length=n:=by rw[hR,YAW,YAp,YAF];lia
   have hRn:R≠[]:=by intro e;rw[e]at hRl;simp at hRl;lia
   have hRs:R.Pairwise (Le L):=by rw[hR];exact SegU.pw hs2
   have hS:SI L kd a0 lo (R++Z2) (setArr st' b2):=⟨h1,h2,(YCN.mp (Kept.perm hKb)).trans h3,rs,by rw[<-hRZ];exact hb1,h5,h6⟩;refine YAS (wpS_get ?_);cases hb:(pendingOf (setArr st' b2)).back? with
   | none=>
    dsimp only;exact YAS (YCU (YAc ⟨lo+n,Z2,rfl,hS.push hRl hRn hRs,by lia,by lia⟩))
   | some t=>
    obtain⟨s1,n1,p1⟩:=t;dsimp only;refine YAS (YCL (YBa (a:=0) (b:=N) (I:=λy c st2=>c=(none,())/\SI L kd a0 lo (R++Z2) st2) (Q:=λc st2=>c=(none,())/\SI L kd a0 lo (R++Z2) st2) ?_ (λ_ _ h=>h) ⟨rfl,hS⟩) ?_)
    .rintro y c st2 _ _ ⟨hc,hS2⟩;subst hc;refine YAS (wpS_get ?_);by_cases hp:(pendingOf st2).size>1
     .rw[YAM hp];obtain⟨t,ht⟩:∃t,(pendingOf st2)[(pendingOf st2).size-2]?=some t:=⟨_,getElem?_pos _ _ (by lia)⟩;obtain⟨t1,t2,t3⟩:=t;rw[ht];dsimp only;split
      .exact YAc ⟨rfl,hS2⟩
      .exact YAS (hS2.merge hC hP hd (by lia) λst3 hS3 _=>YAc ⟨rfl,hS3⟩)
     .rw[YAJ hp];exact YAc ⟨rfl,hS2⟩
    .rintro c st2 ⟨hc,hS2⟩;subst hc;exact YAS (YCU (YAS (YCU (YAc ⟨lo+n,Z2,rfl,hS2.pow.push hRl hRn hRs,by lia,by lia⟩))))
  .rw[YAJ hmr];have hKb:=hK;have hbz2:=Kept.sz hKb;have hb1:=Kept.pref hKb h4 h5;obtain⟨R,hR⟩:∃R,R=(List.drop lo (Array.toList b)).take m:=⟨_,rfl⟩;obtain⟨Z2,hZ2⟩:∃Z2,Z2=(List.drop lo (Array.toList b)).drop m:=⟨_,rfl⟩;have hRZ:(List.drop lo (Array.toList b))=R++Z2:=by rw[hR,hZ2,YAu]
   have hRl:R.length=m:=by rw[hR,YAW,YAp,YAF];lia
   have hRn:R≠[]:=by intro e;rw[e]at hRl;simp at hRl;lia
   have hRs:R.Pairwise (Le L):=by rw[hR];exact SegU.pw hsm
   have hS:SI L kd a0 lo (R++Z2) (setArr st' b):=⟨h1,h2,(YCN.mp (Kept.perm hKb)).trans h3,rs,by rw[<-hRZ];exact hb1,h5,h6⟩;refine YAS (wpS_get ?_);cases hb:(pendingOf (setArr st' b)).back? with
   | none=>
    dsimp only;exact YAS (YCU (YAc ⟨lo+m,Z2,rfl,hS.push hRl hRn hRs,by lia,by lia⟩))
   | some t=>
    obtain⟨s1,n1,p1⟩:=t;dsimp only;refine YAS (YCL (YBa (a:=0) (b:=N) (I:=λy c st2=>c=(none,())/\SI L kd a0 lo (R++Z2) st2) (Q:=λc st2=>c=(none,())/\SI L kd a0 lo (R++Z2) st2) ?_ (λ_ _ h=>h) ⟨rfl,hS⟩) ?_)
    .rintro y c st2 _ _ ⟨hc,hS2⟩;subst hc;refine YAS (wpS_get ?_);by_cases hp:(pendingOf st2).size>1
     .rw[YAM hp];obtain⟨t,ht⟩:∃t,(pendingOf st2)[(pendingOf st2).size-2]?=some t:=⟨_,getElem?_pos _ _ (by lia)⟩;obtain⟨t1,t2,t3⟩:=t;rw[ht];dsimp only;split
      .exact YAc ⟨rfl,hS2⟩
      .exact YAS (hS2.merge hC hP hd (by lia) λst3 hS3 _=>YAc ⟨rfl,hS3⟩)
     .rw[YAJ hp];exact YAc ⟨rfl,hS2⟩
    .rintro c st2 ⟨hc,hS2⟩;subst hc;exact YAS (YCU (YAS (YCU (YAc ⟨lo+m,Z2,rfl,hS2.pow.push hRl hRn hRs,by lia,by lia⟩))))
end
noncomputable def keyD (κ:KeyKind) (p:Keyed):κ.α:=(κ.keyOf p.1).getD κ.dflt
noncomputable def ltD (κ:KeyKind) (x y:Keyed):Bool:=κ.blt (keyD κ x) (keyD κ y)
theorem Zmx (κ:KeyKind):CmpT (ltD κ):=
 ⟨λx y _ _ h=>KeyOrd.klt_asymm (O:=κ.toKeyOrd) h,λx y z _ _ _ h1 h2=>KeyOrd.kle_trans (O:=κ.toKeyOrd) h1 h2⟩
section
theorem ZkA (hO:κ.OneLt):PureC (model prog w) A E s (λp=>∃a,κ.keyOf p.1=some a) (ltD κ) oneType':=by
 rintro st ⟨x,p⟩ ⟨y,r⟩ Q hk ⟨a,ha⟩ ⟨b,hb⟩ q;have e:ltD κ (x,p) (y,r)=κ.blt a b:=by unfold ltD keyD;rw[ha,hb];rfl
 rw[e]at q;rw[lt'_eq];refine YAS (wpS_get ?_);rw[hk,keyLt'_oneType];exact YAS (wpS_lift (YDE (hO prog w A _ s x y a b ha hb ⟨rfl,YAc q⟩)))
theorem Zha {a0:Array Keyed}{st:SortSt}{Q:Unit->SortSt->Prop}(hO:κ.OneLt)(h0:KeysOf κ a0)(hk:kindOf st=oneType')(hf:failedOf st=none)(hp:pendingOf st=#[])(ha:arrOf st=a0)
  (q:∀st',(arrOf st').Perm a0->failedOf st'=none->SortedToK κ (arrOf st') a0.size->Q () st'):wpS (model prog w) A E s sortRuns' Q st:=by
 refine ZiO (a0:=a0.toList) (Zmx κ) (ZkA hO) h0 hk hf hp (by rw[ha]) λst' p1 p2 p3=>q st' (YCN.mpr p1) p3 ?_;have hsz:(arrOf st').size=a0.size:=by rw[<-YAF,p1.length_eq,YAF]
 intro i j hij hj;have hK:∀k (hk:k<(arrOf st').size),KK κ (arrOf st') k=keyD κ ((arrOf st').toList[k]'(by simpa using hk)):=by intro k hk;unfold KK keyD;rw[getElem?_pos _ k hk];rfl
 rw[hK i (by lia),hK j (by lia)];by_cases e:i=j
 .subst e;exact KeyOrd.kle_refl _
 .exact YCy.mp p2 i j (by simp;lia) (by simp;lia) (by lia)
end
section
theorem Zj7 (hO:κ.OneLt) {a:AE} {vs:AD} {n:Nat} {P:Fin->AF->Prop} (ho:s.heap.get? a=some (seqObj "list" vs.toArray n))
  (h0:KeysOf κ (pairsOf vs)) (hkk:∀x y r,vs=x::y::r->keyKind' (x::y::r).toArray=pure oneType') (hN:vs.length<=sizeLine)
  (h:∀v:SortSt,(arrOf v).Perm (pairsOf vs)->SortedToK κ (arrOf v) (pairsOf vs).size->P (.done (.ret .none)) { s with heap:=sortedHeap s.heap a vs ((arrOf v).map (·.2)) }):
  wpAny (model prog w) A (Builtin.«list.sort» ⟨[.ref a],[]⟩) P E s:=by
 by_cases h64:vs.length<64
 .exact list_sort_treeK hO ho h0 hkk h64 h
 obtain⟨x,y,r,hv⟩:∃x y r,vs=x::y::r:=by
  match vs,h64 with
  | x::y::r,_=>exact⟨x,y,r,rfl⟩
  | [x],h=>simp at h
  | [],h=>simp at h
 have h2:¬vs.toArray.size<2:=by rw[YAO];lia
 have A2:a<s.heap.objs.size:=YAN ho;have up:=get?_update_seq ho (λ_=>#[]);generalize hep:(if (#[]:Array Value).size == vs.toArray.size then n else n+1)=ep at up;have up3:(((s.heap.update a (Obj.mapSeq λ_=>#[])).push (seqObj "tuple" vs.toArray 0)).push (seqObj "list" #[] 0)).get? a=some (seqObj "list" #[] ep):=by
  rw[Heap.get?_push_ne,Heap.get?_push_ne]
  .exact up
  .rw[Heap.size_update];exact YAe A2
  .rw[size_push',Heap.size_update];exact YAe (YCW A2)
 rw[list_sort_plain];refine YAA (listItems_at ho rfl (YAA (listUpdate_at ho rfl (YAA (seqEpoch_at up rfl (YAA (wpAny_newTuple (YAA (YDD (YBN ?_)))))) ) (hsz:=by rw[YAO];exact hN))));dsimp only;rw[YAJ h2,YAJ h2];have hk1:keyKind' vs.toArray=pure oneType':=by rw[hv];exact hkk x y r hv
 rw[hk1];refine YAA (YAD (YAA (YBZ (Zha hO h0 (st:=SortSt.mk' oneType' (pairsOf vs) #[] 7 none) (Q:=λ_ v=>(arrOf v).Perm (pairsOf vs)/\failedOf v=none/\SortedToK κ (arrOf v) (pairsOf vs).size) rfl rfl rfl rfl λv p1 p2 p3=>⟨p1,p2,p3⟩) ?_ λ_ _ e=>e)));rintro⟨⟨⟩,v⟩ s2 ⟨rfl,p1,p2,p3⟩;dsimp only;refine YAA (seqEpoch_at up3 rfl (YAA (listUpdate_at up3 rfl ?_ (hsz2:=?_))))
 .rw[p2,bne_self_eq_false];exact YAD (h v p1 p3)
 .rw[Array.size_map,p1.size_eq,pairsOf_size];lia
end
section
theorem Zeo {vs:AD}{ms:Q22}{Q:Q33}(hv:Vals (ms.map tx) vs)(h64:ms.length<=sizeLine)
  (h:∀(h':Heap) (us:AD) (e:Nat),(∀b o,s.heap.get? b=some o->h'.get? b=some o)->h'.get? s.heap.objs.size=some { cls:=.type "list",data:=.seq us.toArray e }->Vals ((Zbs ms).map tx) us->Q (.ref s.heap.objs.size) { s with heap:=h' }):
  wpAny (model prog w) A (do let l <-newList vs;let _ <-holding [l] (call (.builtin "list.sort") [l] []);ret l) (λfin s'=>∃v,fin=Fin.done (Flow.ret v)/\Q v s') E s:=by
 have hS:=ZcN hv;have Au:vs.length<=sizeLine:=by rw[<-hv.length,YAB];exact h64
 refine YAA (YDD ?_ ?_)
 .have hoL:(s.heap.push (seqObj "list" vs.toArray 0)).get? s.heap.objs.size=some (seqObj "list" vs.toArray 0):=YAY _ rfl;refine YAA (YBN (YCc slot_list_sort ⟨_,hoL,rfl⟩ entry_list_sort (Zj7 strKind_oneLt hoL hS.keysOf (λv_1 v_2 rest e=>keyKind_strs (by rw[<-e];exact hS)) Au λst' a1 a2=>⟨_,rfl,?_⟩) (args_list_sort _)));obtain⟨ss',b1,b2,b3⟩:=sorted_out_str hS a1 a2;obtain⟨e,he⟩:=sortedHeap_at (out:=(arrOf st').map (·.2)) hoL;refine YAD ⟨_,rfl,h _ ((arrOf st').map (·.2)).toList e (λb o q=>?_) ?_ ?_⟩
  .have A2:=YAN q;have hlt':b<(s.heap.push (seqObj "list" vs.toArray 0)).objs.size:=by rw[YBm];exact YCW A2
   exact(sortedHeap_old (YAe A2) hlt').trans (YAE _ q)
  .have q:((arrOf st').map (·.2)).toList.toArray=(arrOf st').map (·.2):=YCT;rw[q];exact he
  .have p1:(ss'.map λx=>x.cps.toList).Perm ms:=by
    have:=b2.map (λx:Str=>x.cps.toList)
    rwa [ZhR]at this
   have e1:=ZbT p1 (ZcO b3);rw[<-e1];exact Zgx b1
 .exact Au
theorem Zgz (hh:A.handled=none)(hS:TxSet prog w s.heap S ls (!ZaR w))(h64:ls.length<=sizeLine)
  (h:∀(s':AF) (a:AE) (us:AD) (e:Nat),s.heap.get? a=none->(∀b o,s.heap.get? b=some o->s'.heap.get? b=some o)->s'.gens=s.gens->s'.os=s.os->s'.heap.get? a=some { cls:=.type "list",data:=.seq us.toArray e }->Vals ((Zbs ls).map tx) us->Q (.ref a) s'):
  wpAny (model prog w) A (call (.builtin "sorted") [.ref S]) Q E s:=by
 refine Calls.call_function_entry kind_sorted plain_sorted entry_sorted (args_sorted1 _) ?_;unfold Builtin.«sorted»;refine YAA (m:=checkCount "sorted" 1 1 _) (YAD ?_);refine YAA (Zd8 (by first | exact hh | simpa using hh) hS h64 λs' vs ms k1 hg ho hp hv=>?_);have hl:ms.length<=sizeLine:=by rw[hp.length_eq];exact h64
 refine Zeo hv hl λh' us e k2 he r=>?_;rw[ZcI hp]at r;exact h _ _ us e (by
  cases q:s.heap.get? s'.heap.objs.size with
  | none=>rfl
  | some o=>exact absurd (YAN (k1 _ _ q)) (YBE _)) (λb o q=>k2 b o (k1 b o q)) hg ho he r
end
section
end
section
theorem Zdo (hc:X.calm=true):Zcc X (.builtin "sorted") (λxs H Q=>∃a kvs ls,xs=[.ref a]/\Rd H a (.dK kvs)/\kvs.map (·.1)=ls.map kTx/\NewL ((Zbs ls).map tx) H Q):=by
 rintro Ar s U H xs us Q I r ⟨a,kvs,ls,rfl,ha,hk,q⟩;obtain⟨u,rfl,ru⟩:=r.one;cases ru;obtain⟨z,y,vs,rr,o,es,ep,eo⟩:=ha.ok I.hok;have hm:s.heap.DictAt (ZaB X.prog X.w) a vs ep:=⟨o,es,eo⟩;have hl2:vs.length=ls.length:=by rw[<-rr.length];have:=congrArg List.length hk;simpa using this
 have hz:ls.length<=sizeLine:=by rw[<-hl2,<-rr.length];exact z
 have hl:(Zbs ls).length<=sizeLine:=by rw[(ZaZ ls).length_eq];exact hz
 refine Calls.call_function_entry kind_sorted plain_sorted entry_sorted (args_sorted1 _) ?_;unfold Builtin.«sorted»;refine YAA (m:=checkCount "sorted" 1 1 _) (YAD ?_);refine YAA (Zdn (by first | exact I.ok.hd hc | simpa using I.ok.hd hc) y hm (by rw[hl2];exact hz) λs' us' k1 hg ho hv=>?_);have ev:(vs.map λp=>kV p.1)=ls.map tx:=by
  have e1:(vs.map λp=>kV p.1)=(vs.map (·.1)).map kV:=by rw[YAl];rfl
  rw[e1,<-rr.keys,hk,YAl];rfl
 rw[ev]at hv;refine Zeo hv hz λh' us2 e k2 he r2=>?_;have nw:s.heap.get? s'.heap.objs.size=none:=by
  cases q:s.heap.get? s'.heap.objs.size with
  | none=>rfl
  | some o=>exact absurd (YAN (k1 _ _ q)) (YBE _)
 exact⟨.ref s'.heap.objs.size,_,I.laid2 (s':={ s' with heap:=h' }) (o:=.lst ((Zbs ls).map tx)) ho hg (λb o z=>k2 b o (k1 b o z)) nw ⟨by rw[YAB];exact hl,us2,e,r2,he⟩,rfl,q _ (I.hok.none_of nw)⟩
end
theorem ZfR (b:Bool)(x y:Value):keyLt' (tuples' b) x y=(do
  let xs <-Builtin.List.listItems x
  let ys <-Builtin.List.listItems y
  for ((p,r),i) in (xs.toList.zip ys.toList).zipIdx do
   if !(<-eqBool p r) then return <-oneLt' (b&&i == 0) p r
  return xs.size<ys.size):=rfl
noncomputable def keyT (h:Heap):Value->Int×Q11
 | .ref a=>match h.get? a with
  | some o=>match o.data with
   | .seq xs _=>match xs.toList with
    | [.int n _,.str w _]=>(n,w.cps.toList)
    | _=>(0,[])
   | _=>(0,[])
  | none=>(0,[])
 | _=>(0,[])
noncomputable def ltP (a b:Int×Q11):Bool:=decide (a.1<b.1) || (a.1 == b.1&&decide (a.2<b.2))
noncomputable def ltT (h:Heap) (x y:Keyed):Bool:=ltP (keyT h x.1) (keyT h y.1)
theorem ZgH:ltP a b=true↔a.1<b.1\/(a.1=b.1/\a.2<b.2):=by unfold ltP;simp
theorem Zja:ltP b a=false↔a.1<b.1\/(a.1=b.1/\¬b.2<a.2):=by
 rw[<-Bool.not_eq_true,ZgH];constructor
 .intro h;by_cases e:a.1=b.1
  .exact .inr ⟨e,λk=>h (.inr ⟨e.symm,k⟩)⟩
  .exact .inl (by have:¬b.1<a.1:=λk=>h (.inl k);lia)
 .rintro (h | ⟨h,k⟩) (l | ⟨l,m⟩)
  .lia
  .lia
  .lia
  .exact k m
theorem Zmv (h:Heap):CmpT (ltT h):=by
 refine⟨λx y _ _ e=>?_,λx y z _ _ _ e f=>?_⟩
 .unfold ltT at e ⊢;rw[ZgH]at e;rw[Zja];rcases e with e | ⟨e,f⟩
  .exact .inl e
  .exact .inr ⟨e,List.lt_asymm f⟩
 .unfold ltT at e f ⊢;rw[Zja]at e f ⊢;rcases e with e | ⟨e,e2⟩<;>rcases f with f | ⟨f,f2⟩
  .exact .inl (by lia)
  .exact .inl (by lia)
  .exact .inl (by lia)
  .exact .inr ⟨by lia,List.not_lt.mpr (List.le_trans (List.not_lt.mp e2) (List.not_lt.mp f2))⟩
noncomputable def IsT (h:Heap) (v:Value) (n:Int) (c:Q11):Prop:=∃a t w u e,v=.ref a/\h.get? a=some (seqObj "tuple" #[.int n t,.str w u] e)/\w.cps.toList=c
theorem IsT.key (k:IsT h v n c):keyT h v=(n,c):=by obtain⟨a,t,w,u,e,rfl,ho,rfl⟩:=k;unfold keyT;dsimp only;rw[ho]
section
theorem Zid (h:Q (decide (a.cps.toList<b.cps.toList)) s):wpAny (model prog w) A (oneLt' false (.str a t) (.str b u)) Q E s:=by rw[oneLt'_eq];simp only[YCj,if_false];refine YAA (wpAny_richCompare_same (typeIs_str s a t) (typeIs_str s b u) slot_str_lt (call_str_lt ⟨(λz=>nomatch z),?_⟩));exact YCV h
theorem Zkz:PureC (model prog w) A E s (λp=>∃n c,IsT s.heap p.1 n c) (ltT s.heap) (tuples' true):=by
 rintro st ⟨x,p⟩ ⟨y,r⟩ Q hk ⟨n,c,hx⟩ ⟨m,d,hy⟩ q;have e:ltT s.heap (x,p) (y,r)=ltP (n,c) (m,d):=by unfold ltT;rw[hx.key,hy.key]
 rw[e]at q;obtain⟨a,t,v,u,ep,rfl,ho,rfl⟩:=hx;obtain⟨b,t2,v2,u2,ep2,rfl,ho2,rfl⟩:=hy;rw[lt'_eq];refine YAS (wpS_get ?_);rw[hk,ZfR];refine YAS (wpS_lift (YDE (YAA (listItems_at ho rfl (YAA (listItems_at ho2 rfl ?_))))));show wpAny _ _ (forIn [((Value.int n t,Value.int m t2),0),((Value.str v u,Value.str v2 u2),1)] _ _ >>= _) _ _ _;rw[List.forIn_cons];refine YAA (YAA (YAA (wpAny_eqBool_int ?_)));by_cases hnm:n=m
 .subst hnm;rw[YAJ (by simp)];refine YAD ?_;dsimp only;rw[List.forIn_cons];refine YAA (YAA (eqBool_str ?_));by_cases hv:v=v2
  .subst hv;rw[YAJ (by simp)];refine YAD ?_;dsimp only;rw[List.forIn_nil];refine YAD ?_;dsimp only;refine YAD ⟨rfl,YAc ?_⟩;have:ltP (n,v.cps.toList) (n,v.cps.toList)=false:=by unfold ltP;simp[List.lt_irrefl]
   rw[this]at q;simpa using q
  .rw[YAM (by simpa using hv)];refine YAA (Zid (YAD (YAD ?_)));dsimp only;refine YAD ⟨rfl,YAc ?_⟩;have:ltP (n,v.cps.toList) (n,v2.cps.toList)=decide (v.cps.toList<v2.cps.toList):=by unfold ltP;simp
   rw[this]at q;exact q
 .rw[YAM (by simpa using hnm)];refine YAA (oneLt_int (YAD (YAD ?_)));dsimp only;refine YAD ⟨rfl,YAc ?_⟩;have:ltP (n,v.cps.toList) (m,v2.cps.toList)=decide (n<m):=by unfold ltP;simp[hnm]
  rw[this]at q;exact q
end
section
theorem ZcG:∀ {vs:AD} {Q:List (Option Value)->AF->Prop},(∀v∈vs,∃n c,IsT s.heap v n c) ->
  (∀us:AD,us.length=vs.length->(∀u∈us,∃n t,u=.int n t)->Q (us.map some) s)->wpAny (model prog w) A (vs.mapM firstOfTuple') Q E s
 | [],Q,_,q=>by rw[List.mapM_nil];exact YAD (q [] rfl (by simp))
 | v::vs,Q,h,q=>by
  obtain⟨n,c,a,t,x,u,e,rfl,ho,rfl⟩:=h v (by simp);rw[List.mapM_cons];refine YAA ?_;show wpAny _ _ (do
   if (<-typeOf (.ref a)) != .type "tuple" then return none
   return (<-Builtin.List.listItems (.ref a))[0]?) _ _ _
  refine YAA (wpAny_typeOf_ref ho ?_);rw[YAJ (show ¬((Value.type "tuple" != Value.type "tuple")=true) by decide)];refine YAA (listItems_at ho rfl (YAD ?_));refine YAA (ZcG (λv hv=>h v (by simp[hv])) λus hl hu=>YAD ?_);refine q (.int n t::us) (by simp[hl]) λu hu'=>?_;rcases YAH.mp hu' with rfl | hu'
  .exact⟨n,t,rfl⟩
  .exact hu u hu'
theorem ZgK (hv:∀v∈vs,∃n c,IsT s.heap v n c)(hne:vs≠[])(q:Q (tuples' true) s):wpAny (model prog w) A (keyKind' vs.toArray) Q E s:=by
 rw[keyKind'_eq,List.mapM_toArray,map_eq_pure_bind,bind_assoc];refine YAA (ZcG hv λus hl hu=>?_);rw[pure_bind,YAM (by simp)];refine YAA (YBs ?_);have hI:IntsAre us (us.map numOf):=intsAre_map us hu;have e1:((us.map some).toArray.filterMap id)=us.toArray:=by simp
 rw[e1,oneTypeOnly'_eq,List.mapM_toArray,mapM_typeOf_ints hI];cases us with
 | nil=>
  cases vs with
  | nil=>exact absurd rfl hne
  | cons v vs=>simp at hl
 | cons u us=>
  simp only[map_pure,pure_bind];have h0:(List.map (λ_=>Value.type "int") (u::us)).toArray[0]?=some (Value.type "int"):=by simp
  have hall:((List.map (λ_=>Value.type "int") (u::us)).toArray.all λz=>z == Value.type "int")=true:=by rw[List.all_toArray,List.all_map,YBW];exact λ_ _=>rfl
  rw[h0];simp only[hall,if_true,pure_bind];exact YAD q
end
theorem Zh2 (a g:AE):Builtin.«list.sort» ⟨[.ref a],[(Str.ofString "key",.ref g)]⟩=(do
  let its <-Builtin.List.listItems (.ref a)
  Builtin.List.listUpdate (.ref a) λ_=>#[]
  let be <-seqEpoch a
  let hd <-newTuple its.toList
  let ks <-newList []
  holding [hd,ks] do
   rule "list.sort.key"
   for x in its do
    match <-(call (.ref g) [x]).attempt with
    | .ok k=>Builtin.List.listUpdate ks (·.push k)
    | .error e=>
     rule "list.sort.key-raised"
     let md <-Builtin.List.listItems ks
     Builtin.List.listUpdate ks λ_=>#[]
     letGo md.toList.reverse [e]
     Builtin.List.listUpdate (.ref a) λ_=>its
     throw e
   let kys <-Builtin.List.listItems ks
   let kind <-if its.size<2 then pure general' else keyKind' kys
   let ((),v) <-(if its.size<2 then pure () else sortRuns').run (SortSt.mk' kind (kys.zip its) #[] 7 none)
   Builtin.List.listUpdate ks λ_=>#[]
   letGo ((arrOf v).map (·.1)).toList (failedOf v).toList
   let tch:=(<-seqEpoch a) != be
   Builtin.List.listUpdate (.ref a) λ_=>(arrOf v).map (·.2)
   if let some e:=failedOf v then rule "list.sort.comparison-raised";throw e
   if tch then rule "list.sort.modified";raiseError "ValueError" "list modified during sort"
   ret .none):=rfl
noncomputable def Kp (h g:Heap):Prop:=∀b o,h.get? b=some o->g.get? b=some o
noncomputable def KeyCall (M:Model) (A:AI) (g:AE) (vs:AD) (kf:Value->Int×Q11) (s:AF):Prop:=
 ∀(E:Q33) (s':AF) (v:Value) (Q:Q33),v∈vs->Kp s.heap s'.heap->s'.gens=s.gens->s'.os=s.os ->
  (∀(s2:AF) (k:Value),Kp s'.heap s2.heap->s2.gens=s'.gens->s2.os=s'.os->IsT s2.heap k (kf v).1 (kf v).2->Q k s2)->wpAny M A (call (.ref g) [v]) Q E s'
theorem IsT.kp (k:IsT h v n c)(q:Kp h g):IsT g v n c:=by obtain⟨a,t,w,u,e,h1,h2,h3⟩:=k;exact⟨a,t,w,u,e,h1,q _ _ h2,h3⟩
theorem IsT.up {h:Heap} {v:Value} {n:Int} {c:Q11} {K:AE} {xs:Array Value} {m:Nat} {f:Obj->Obj} (k:IsT h v n c) (hK:h.get? K=some (seqObj "list" xs m)):IsT (h.update K f) v n c:=by
 obtain⟨a,t,w,u,e,h1,h2,h3⟩:=k;refine⟨a,t,w,u,e,h1,?_,h3⟩;rw[(YAn h K f).2 a ?_]
 .exact h2
 .rintro rfl;rw[h2]at hK;have:=congrArg Obj.cls (Option.some.inj hK);exact absurd (show Value.type "tuple"=Value.type "list" from this) (by decide)
noncomputable def KeysAre (h:Heap) (kf:Value->Int×Q11) (ks vs:AD):Prop:=ks.length=vs.length/\∀(i:Nat) (k v:Value),ks[i]?=some k->vs[i]?=some v->IsT h k (kf v).1 (kf v).2
section
theorem Zjn {g K a:AE}{vs:AD}{kf:Value->Int×Q11}{oa:Obj}{Q:PUnit->AF->Prop}{er:Value->Sem (ForInStep PUnit)}(hc:KeyCall (model prog w) A g vs kf s)(hK0:s.heap.get? K=none)(ha0:a≠K)(hN:vs.length<=sizeLine)
  (q:∀(s2:AF) ks n,Kp s.heap s2.heap->s2.gens=s.gens->s2.os=s.os->s2.heap.get? K=some (seqObj "list" ks.toArray n)->KeysAre s2.heap kf ks vs->s2.heap.get? a=some oa->Q ⟨⟩ s2):
  ∀(l dn ks:AD) (s':AF) (n:Nat),vs=dn++l->Kp s.heap s'.heap->s'.gens=s.gens->s'.os=s.os->s'.heap.get? K=some (seqObj "list" ks.toArray n)->KeysAre s'.heap kf ks dn->s'.heap.get? a=some oa ->
   wpAny (model prog w) A (forIn l PUnit.unit λx _=>do
    match <-(call (.ref g) [x]).attempt with
    | .ok k=>do
     Builtin.List.listUpdate (.ref K) (·.push k)
     pure (ForInStep.yield PUnit.unit)
    | .error e=>er e) Q E s'
 | [],dn,ks,s',n,hv,h1,h2,h3,h4,h5,h6=>by
  rw[YCp]at hv;subst hv;rw[List.forIn_nil];exact YAD (q s' ks n h1 h2 h3 h4 h5 h6)
 | x::l,dn,ks,s',n,hv,h1,h2,h3,h4,h5,h6=>by
  rw[List.forIn_cons];refine YAA (YAA (YDE (hc _ s' x _ (by rw[hv];simp) h1 h2 h3 λs2 k k1 k2 k3 k4=>?_)));have Au:ks.length<vs.length:=by rw[h5.1,hv];simp
  have hK2:=k1 _ _ h4;refine YAA (listUpdate_at hK2 rfl (YAD ?_) (hsz:=by rw[YAO];lia) (hsz2:=by rw[Array.size_push,YAO];lia));dsimp only;have sb:=YAn s2.heap K (Obj.mapSeq λz=>z.push k);refine Zjn hc hK0 ha0 hN q l (dn++[x]) (ks++[k]) _ _ (by rw[hv];simp) ?_ (k2.trans h2) (k3.trans h3) (by have:=get?_update_seq hK2 (λz=>z.push k);rw[List.push_toArray]at this;exact this) ?_ ?_
  .intro b o hb;refine(sb.2 b ?_).trans (k1 b o (h1 b o hb));rintro rfl;rw[hK0]at hb;cases hb
  .refine⟨by simp[h5.1],λi k' v' e1 e2=>?_⟩;by_cases hi:i<ks.length
   .rw[YBC hi]at e1;rw[YBC (by rw[<-h5.1];exact hi)]at e2;exact((h5.2 i k' v' e1 e2).kp k1).up hK2
   .have hi2:i=ks.length:=by have:=(YAU.mp e1).1;simp at this;lia
    subst hi2;rw[YBA (YAP _),YDQ]at e1;rw[h5.1,YBA (YAP _),YDQ]at e2;cases e1;cases e2;exact k4.up hK2
  .exact(sb.2 a ha0).trans (k1 a oa h6)
end
section
theorem Zgo (hk:KeysAre h kf ks vs){p:Keyed}(hp:p∈ks.zip vs):keyT h p.1=kf p.2/\∃n c,IsT h p.1 n c:=by
 obtain⟨i,hi,rfl⟩:=YBw hp;rw[List.length_zip]at hi;have h1:i<ks.length:=by lia
 have h2:i<vs.length:=by lia
 have:=hk.2 i ks[i] vs[i] (YAL h1) (YAL h2);rw[List.getElem_zip];exact⟨this.key,_,_,this⟩
theorem Zh1 (hc:KeyCall (model prog w) A g vs kf s0)(hb:Kp s0.heap s.heap)(hg:s.gens=s0.gens)(hos:s.os=s0.os)(ha0:s0.heap.get? a=none)
  (ho:s.heap.get? a=some (seqObj "list" vs.toArray n)) (hN:vs.length<=sizeLine)
  (h:∀(s':AF) (us:AD) (e:Nat),Kp s0.heap s'.heap->s'.gens=s0.gens->s'.os=s0.os->s'.heap.get? a=some (seqObj "list" us.toArray e)->us.Perm vs->us.Pairwise (λx y=>ltP (kf y) (kf x)=false)->P (.done (.ret .none)) s'):
  wpAny (model prog w) A (Builtin.«list.sort» ⟨[.ref a],[(Str.ofString "key",.ref g)]⟩) P E s:=by
 have A2:a<s.heap.objs.size:=YAN ho;have up:=get?_update_seq ho (λ_=>#[]);generalize hep:(if (#[]:Array Value).size == vs.toArray.size then n else n+1)=ep at up;obtain⟨h1,hh1⟩:∃h1,h1=s.heap.update a (Obj.mapSeq λ_=>#[]):=⟨_,rfl⟩;have k1:Kp s0.heap h1:=by
  intro b o q;rw[hh1,(YAn s.heap a _).2 b ?_]
  .exact hb b o q
  .rintro rfl;rw[ha0]at q;cases q
 rw[<-hh1]at up;obtain⟨K,hK⟩:∃K,K=(h1.push (seqObj "tuple" vs.toArray 0)).objs.size:=⟨_,rfl⟩;obtain⟨h3,hh3⟩:∃h3,h3=(h1.push (seqObj "tuple" vs.toArray 0)).push (seqObj "list" #[] 0):=⟨_,rfl⟩;have k3:Kp h1 h3:=λb o q=>by rw[hh3];exact YAE _ (YAE _ q)
 have oK:h3.get? K=some (seqObj "list" #[] 0):=by rw[hh3,hK];exact YAY _ rfl
 have nK:s0.heap.get? K=none:=by
  cases z:s0.heap.get? K with
  | none=>rfl
  | some o=>
   have:=YAN (k1 _ _ z);rw[hK,size_push']at this;exact absurd this (Nat.not_lt.mpr (YCn _))
 have aK:a≠K:=by rintro rfl;have h8:=YAN up;rw[hK,size_push']at h8;exact absurd h8 (Nat.not_lt.mpr (YCn _))
 subst hK;rw[Zh2];refine YAA (listItems_at ho rfl (YAA (listUpdate_at ho rfl ?_ (hsz:=by rw[YAO];exact hN))));rw[<-hh1];refine YAA (seqEpoch_at up rfl (YAA (wpAny_newTuple (YAA (YDD (YBN ?_))))));refine YAA (YBs ?_);rw[List.forIn_toArray];show wpAny _ _ _ _ _ { s with heap:=(h1.push (seqObj "tuple" vs.toArray 0)).push (seqObj "list" #[] 0) };rw[<-hh3];refine YAA (Zjn hc nK aK hN ?_ vs [] [] { s with heap:=h3 } 0 rfl (λb o q=>k3 b o (k1 b o q)) hg hos oK ⟨rfl,λi k v e _=>by simp at e⟩ (k3 a _ up));intro s2 ks m j1 j2 j3 j4 j5 j6;dsimp only;refine YAA (listItems_at j4 rfl ?_);have fin:∀v:SortSt,failedOf v=none->((arrOf v).map (·.2)).toList.Perm vs->((arrOf v).map (·.2)).toList.Pairwise (λx y=>ltP (kf y) (kf x)=false) ->
   wpAny (model prog w) A (do
    Builtin.List.listUpdate (.ref (h1.push (seqObj "tuple" vs.toArray 0)).objs.size) λ_=>#[]
    letGo ((arrOf v).map (·.1)).toList (failedOf v).toList
    let tch:=(<-seqEpoch a) != ep
    Builtin.List.listUpdate (.ref a) λ_=>(arrOf v).map (·.2)
    if let some e:=failedOf v then rule "list.sort.comparison-raised";throw e
    if tch then rule "list.sort.modified";raiseError "ValueError" "list modified during sort"
    ret .none) P E s2:=by
  intro v f1 f2 f3;have hl:=j5.1;refine YAA (listUpdate_at j4 rfl (YAA (wpAny_letGo ?_)) (hsz:=by rw[YAO];lia));have sb:=YAn s2.heap (h1.push (seqObj "tuple" vs.toArray 0)).objs.size (Obj.mapSeq λ_=>#[]);have a1:(s2.heap.update (h1.push (seqObj "tuple" vs.toArray 0)).objs.size (Obj.mapSeq λ_=>#[])).get? a=some (seqObj "list" #[] ep):=(sb.2 a aK).trans j6;refine YAA (seqEpoch_at a1 rfl (YAA (listUpdate_at a1 rfl ?_ (hsz2:=by have:=f2.length_eq;rw[YAF]at this;lia))))
  rw[f1,bne_self_eq_false];obtain⟨out,hout⟩:∃out,out=(arrOf v).map (·.2):=⟨_,rfl⟩;rw[<-hout]at f2 f3 ⊢;have a2:=get?_update_seq a1 (λ_=>out);generalize (if out.size == (#[]:Array Value).size then ep else ep+1)=e5 at a2;have e3:out.toList.toArray=out:=YCT;refine YAD (h _ out.toList e5 ?_ j2 j3 (by rw[e3];exact a2) f2 f3);intro b o q;refine((YAn _ a _).2 b ?_).trans ((sb.2 b ?_).trans (j1 b o q))
  .rintro rfl;rw[ha0]at q;cases q
  .rintro rfl;rw[nK]at q;cases q
 have zs:(ks.toArray.zip vs.toArray)=(ks.zip vs).toArray:=by simp
 have zm:((ks.zip vs).map (·.2))=vs:=List.map_snd_zip (by rw[j5.1];exact YAP _);by_cases h2:vs.toArray.size<2
 .rw[YAM h2,YAM h2];refine YAA (YAD ?_);rw[StateT.run_pure];refine YAA (YAD ?_);refine fin (SortSt.mk' general' (ks.toArray.zip vs.toArray) #[] 7 none) rfl ?_ ?_
  .show ((ks.toArray.zip vs.toArray).map (·.2)).toList.Perm vs;rw[zs,YDY,zm]
  .show ((ks.toArray.zip vs.toArray).map (·.2)).toList.Pairwise _;rw[zs,YDY,zm]
   match vs,h2 with
   | [],_=>exact List.Pairwise.nil
   | [x],_=>exact List.pairwise_singleton _ _
   | _::_::_,h2=>simp at h2;lia
 .rw[YAJ h2,YAJ h2];have hne:ks≠[]:=by intro e;have:=j5.1;rw[e]at this;rw[YAO,<-this]at h2;simp at h2
  refine YAA (ZgK (λv hv=>?_) hne ?_)
  .obtain⟨i,hi,rfl⟩:=YBw hv;have h2:i<vs.length:=by rw[<-j5.1];exact hi
   exact⟨_,_,j5.2 i ks[i] vs[i] (YAL hi) (YAL h2)⟩
  .refine YAA (YBZ (ZiO (a0:=ks.zip vs) (st:=SortSt.mk' (tuples' true) (ks.toArray.zip vs.toArray) #[] 7 none) (Q:=λ_ v=>(arrOf v).toList.Perm (ks.zip vs)/\(arrOf v).toList.Pairwise (Le (ltT s2.heap))/\failedOf v=none)
    (Zmv _) Zkz (λu hu=>(Zgo j5 hu).2) rfl rfl rfl (by show (ks.toArray.zip vs.toArray).toList=_;rw[zs]) λv p1 p2 p3=>⟨p1,p2,p3⟩) ?_ λ_ _ e=>e)
   rintro⟨⟨⟩,v⟩ s3 ⟨rfl,p1,p2,p3⟩;refine fin v p3 ?_ ?_
   .rw[YDY];have:=p1.map (λp:Keyed=>p.2);rw[zm]at this;exact this
   .rw[YDY,YBS];refine p2.imp_of_mem λ{x y} hx hy e=>?_;have e1:=(Zgo j5 (p1.mem_iff.mp hx)).1;have e2:=(Zgo j5 (p1.mem_iff.mp hy)).1;have e':ltP (keyT s3.heap y.1) (keyT s3.heap x.1)=false:=e;rw[e1,e2]at e';exact e'
end
def wordsOf (l:Q11)(n:Nat):Q22:=Zbs (ddl ((List.range (l.length+1-n)).map λi=>(l.drop i).take n))
theorem ZcF {x:Q11}:∀(ls acc:Q22),x∈ls.foldl addT acc↔x∈acc\/x∈ls
 | [],acc=>by simp
 | y::ls,acc=>by
  rw[YBy,ZcF ls];have h:x∈addT acc y↔x∈acc\/x=y:=by
   unfold addT;split
   .rename_i h
    constructor
    .exact .inl
    .rintro (q | q)
     .exact q
     .rw[q];exact h
   .rw[YAR,YAI]
  rw[h,YAH,or_assoc]
theorem ZdT:x∈ddl ls↔x∈ls:=by unfold ddl;rw[ZcF];simp
theorem ZbY (ls:Q22):(ddl ls).Nodup:=by rw[<-Zff];exact Zc3 _
open PySem.W (Frag)
def AtW (l w:Q11)(i:Nat):Prop:=i+w.length<=l.length/\(l.drop i).take w.length=w
def Inf (w l:Q11):Prop:=∃i,AtW l w i
theorem Zcf (l w:Q11)(i:Nat):StrLaws.At ⟨l.toArray⟩ ⟨w.toArray⟩ (⟨l.toArray⟩:Str).length i↔AtW l w i:=by
 have e1:(⟨l.toArray⟩:Str).length=l.length:=ZeN l;have e2:(⟨w.toArray⟩:Str).length=w.length:=ZeN w;unfold StrLaws.At AtW Builtin.Str.subAt;rw[e1,e2];refine and_congr_right λh=>?_;have e3:l.toArray.extract i (i+w.length)=((l.drop i).take w.length).toArray:=by
  apply Array.ext';simp only[List.extract_toArray,List.extract_eq_take_drop];have:i+w.length-i=w.length:=by lia
  rw[this]
 show (l.toArray.extract i (i+w.length) == w.toArray)=true↔_;rw[e3,beq_iff_eq];exact⟨λz=>by simpa using congrArg Array.toList z,λz=>by rw[z]⟩
theorem AtW.nil (l:Q11):AtW l [] 0:=⟨by simp,by simp⟩
theorem Inf.nil (l:Q11):Inf [] l:=⟨0,AtW.nil l⟩
theorem Inf.len (h:Inf w l):w.length<=l.length:=by obtain⟨i,h,_⟩:=h;lia
theorem Inf.mem (h:Inf w l){c:Nat}(hc:c∈w):c∈l:=by obtain⟨i,_,h⟩:=h;rw[<-h]at hc;exact YAg (YAZ hc)
theorem Inf.refl (l:Q11):Inf l l:=⟨0,by simp,by simp⟩
theorem AtW.trans (h1:AtW v u i)(h2:AtW w v j):AtW w u (j+i):=by
 obtain⟨a1,b1⟩:=h1;obtain⟨a2,b2⟩:=h2;refine⟨by lia,?_⟩;have e:(w.drop (j+i)).take u.length=((((w.drop j).take v.length).drop i).take u.length):=by rw[List.drop_take,YCI,YCd];congr 1;lia
 rw[e,b2,b1]
theorem Inf.trans (h1:Inf u v)(h2:Inf v w):Inf u w:=by obtain⟨i,h1⟩:=h1;obtain⟨j,h2⟩:=h2;exact⟨_,h1.trans h2⟩
theorem ZhB (w:Q11):Inf w.tail w:=by
 cases w with
 | nil=>exact Inf.nil _
 | cons c w=>exact⟨1,by simp;lia,by simp⟩
theorem ZhC (w:Q11):Inf w.dropLast w:=⟨0,by simp,by rw[YBh,YBJ,YDR]⟩
theorem ZmG (h:Inf v w)(hl:v.length<w.length):Inf v w.dropLast\/Inf v w.tail:=by
 obtain⟨i,h1,h2⟩:=h;cases i with
 | zero=>
  refine .inl ⟨0,by rw[YBJ];lia,?_⟩;rw[YBh]at h2 ⊢;rw[YDR,YCd];have:min v.length (w.length-1)=v.length:=by lia
  rw[this];exact h2
 | succ i=>
  refine .inr ⟨i,by rw[List.length_tail];lia,?_⟩;rw[List.drop_tail];exact h2
theorem Zly (h:Inf v w)(hl:w.length<=v.length):v=w:=by
 obtain⟨i,h1,h2⟩:=h;have hi:i=0:=by lia
 subst hi;rw[YBh,YAv hl]at h2;exact h2.symm
theorem Za4 (hn:n<=l.length+1):x∈wordsOf l n↔x.length=n/\Inf x l:=by
 unfold wordsOf;rw[(ZaZ _).mem_iff,ZdT,YAa];constructor
 .rintro⟨i,hi,rfl⟩;have hi:=YAw.mp hi;have hl:((l.drop i).take n).length=n:=by rw[YAW,YAp];lia
  exact⟨hl,i,by lia,by rw[hl]⟩
 .rintro⟨rfl,i,h1,h2⟩;exact⟨i,YAw.mpr (by lia),h2⟩
theorem ZdF (l:Q11)(n:Nat):(wordsOf l n).length<=l.length+1:=by
 unfold wordsOf;rw[(ZaZ _).length_eq];have:∀(ls acc:Q22),(ls.foldl addT acc).length<=acc.length+ls.length:=by
  intro ls;induction ls with
  | nil=>intro acc;simp
  | cons x ls ih=>
   intro acc;rw[YBy];refine YAK (ih _) ?_;unfold addT;split<;>simp<;>lia
 have h:=this ((List.range (l.length+1-n)).map λi=>(l.drop i).take n) [];rw[YAB,YBM]at h;unfold ddl;simp only[YDH]at h;lia
noncomputable def ZcX (sh st:Q22)(h:Q11)(c:Nat):Bool:=decide ((h++[c]).tail∈sh)&&!decide (h++[c]∈st)
def Ze4 (sh st:Q22)(m h:Q11):Q22:=(m.filter (ZcX sh st h)).map λc=>h++[c]
def Zeg (sh st:Q22)(m:Q11):Q22:=sh.flatMap (Ze4 sh st m)
def ZcW (l m:Q11)(i:Nat):Q22:=(List.range i).flatMap λk=>Zeg (wordsOf l k) (wordsOf l (k+1)) m
def Zaq (l m:Q11):Q22:=ZcW l m (l.length+1)
theorem ZdY (l m:Q11)(i:Nat):ZcW l m (i+1)=ZcW l m i++Zeg (wordsOf l i) (wordsOf l (i+1)) m:=by unfold ZcW;rw[YBo,List.flatMap_append,List.flatMap_singleton]
theorem ZfO (sh st:Q22)(m h:Q11):(Ze4 sh st m h).length<=m.length:=by unfold Ze4;rw[YAB];exact YAm _ _
theorem ZbI {α β:Type}{f:α->List β}{b:Nat}(h:∀x,(f x).length<=b):∀l:List α,(l.flatMap f).length<=l.length*b
 | []=>by simp
 | x::l=>by rw[List.flatMap_cons,YAG,YAf,Nat.succ_mul];have:=h x;have:=ZbI h l;lia
theorem Zjh (sh st:Q22)(m:Q11):(Zeg sh st m).length<=sh.length*m.length:=ZbI (ZfO sh st m) sh
theorem ZdS {sh st:Q22}{m w:Q11}:w∈Zeg sh st m↔∃h c,h∈sh/\c∈m/\w=h++[c]/\w.tail∈sh/\w∉st:=by
 unfold Zeg Ze4 ZcX;simp only[YDW,YAa,YAy,YAX,Bool.not_eq_true',decide_eq_true_iff,decide_eq_false_iff_not];constructor
 .rintro⟨h,hh,c,⟨hc,h1,h2⟩,rfl⟩;exact⟨h,c,hh,hc,rfl,h1,h2⟩
 .rintro⟨h,c,hh,hc,rfl,h1,h2⟩;exact⟨h,hh,c,⟨hc,h1,h2⟩,rfl⟩
structure Miss (l w:Q11):Prop where
 ne:w≠[]
 init:Inf w.dropLast l
 tail:Inf w.tail l
 no:¬Inf w l
theorem ZaK:w∈Zaq l m↔Miss l w/\∃c∈m,w.getLast?=some c:=by
 unfold Zaq ZcW;rw[YDW];constructor
 .rintro⟨k,hk,hw⟩;have hk:=YAw.mp hk;obtain⟨h,c,h1,hc,rfl,h3,h4⟩:=ZdS.mp hw;rw[Za4 (by lia)]at h1 h3;refine⟨⟨by simp,by simpa using h1.2,h3.2,λz=>h4 ((Za4 (by lia)).mpr ⟨by simp[h1.1],z⟩)⟩,c,hc,by simp⟩
 .rintro⟨⟨ne,hi,ht,hn⟩,c,hc,hl⟩;have e:w.dropLast++[c]=w:=by rw[YCD ne]at hl;have h:=YCi ne;rw[Option.some.inj hl]at h;exact h
  have Au:w.dropLast.length=w.length-1:=YBJ;have h1:1<=w.length:=YBV.mpr ne;refine⟨w.length-1,YAw.mpr (by have:=hi.len;lia),ZdS.mpr ⟨w.dropLast,c,?_,hc,e.symm,?_,?_⟩⟩
  .rw[Za4 (by have:=hi.len;lia)];exact⟨Au,hi⟩
  .rw[Za4 (by have:=hi.len;lia)];exact⟨List.length_tail,ht⟩
  .rw[Za4 (by have:=hi.len;lia)];exact λz=>hn z.2
theorem same_upd3' (h:H e=none)(s:Same H H2):Same H (upd H2 e o'):=λb u hb=>by
 have:b≠e:=λz=>by rw[z,h]at hb;cases hb
 rw[Zah this];exact s _ _ hb
section
variable {tt:TT}{te:TE}{Q:VK}{τ0:St}{H:Hp}{K:Frag}{a:AE}{xs:List V}
theorem CompRun.listL (b:Nat->Bool)(f:Nat->V)(hz:xs.length<=100000)(hx:SqL K H a xs)
  (ht:∀i H' Q' (h:i<xs.length),Same H H'->(∀H'',Same H' H''->Q' (b i) H'')->tt (τ0.set 0 (some (xs.getD i .non))) H' Q')
  (he:∀i H' Q' (h:i<xs.length),b i=true->Same H H'->(∀H'',Same H' H''->Q' (f i) H'')->te (τ0.set 0 (some (xs.getD i .non))) H' Q')
  (hQ:∀p H',Same H H'->H p=none->H' p=some (.lst (((List.range xs.length).filter b).map f))->Q (.ref p) H'):CompRun (Itl K a) τ0 (ZcL 0) tt te H Q:=by
 intro acc ha;refine⟨λi m τ H2=>i<=xs.length/\m=xs.length-i/\(∀w:Option V,τ.set 0 w=τ0.set 0 w)/\Same H H2/\H2 acc=some (.lst (((List.range i).filter b).map f)),⟨xs.length,YAt _,rfl,λ_=>rfl,Zat ha,Zae⟩,?_⟩;rintro i m τ H2 ⟨hi,rfl,hτ,hs,Av⟩;by_cases A2:i<xs.length
 .refine .inr ⟨⟨xs,xs[i],hs.seq hx,by simp[A2]⟩,λτ' H'=>(∀w:Option V,τ'.set 0 w=τ0.set 0 w)/\Same H H'/\H' acc=some (.lst (((List.range (i+1)).filter b).map f)),λτ' H' q=>⟨xs.length-(i+1),by lia,A2,rfl,q⟩,λx H3 y=>?_⟩;obtain⟨rfl,y⟩:=y;have ex:x=xs.getD i .non:=by rw[YAT,y xs (hs.seq hx)];rfl
  subst ex;show tt (τ.set 0 (some (xs.getD i .non))) _ _;rw[hτ];have hτ':∀w:Option V,(τ0.set 0 (some (xs.getD i .non))).set 0 w=τ0.set 0 w:=λw=>by rw[List.set_set]
  refine ht i _ _ A2 hs λH4 s4=>?_;cases hb:b i with
  | false=>
   rw[YAJ YAC];refine⟨hτ',hs.trans s4,?_⟩;rw[s4 _ _ Av,YBo,YBp];simp[hb]
  | true=>
   rw[YAM rfl];refine he i _ _ A2 hb (hs.trans s4) λH5 s5=>⟨_,s5 _ _ (s4 _ _ Av),?_,hτ',same_upd3' ha ((hs.trans s4).trans s5),?_⟩
   .rw[YAB];have:=YAm b (List.range i);rw[YBM]at this;rw[sizeLine_eq];lia
   .rw[Zae,YBo,YBp];simp[hb]
 .have e:i=xs.length:=by lia
  subst e;exact .inl ⟨⟨xs,hs.seq hx,YAP _⟩,hQ acc H2 hs ha Av⟩
theorem CompRun.tups (P:Nat->List V->Prop)(hz:xs.length<=100000)(hx:SqL K H a xs)
  (he:∀i H' Q' (h:i<xs.length),Same H H'->(∀p vs H'',Same H' H''->H'' p=some (.tup vs)->P i vs->Q' (.ref p) H'')->te (τ0.set 0 (some (xs.getD i .non))) H' Q')
  (hQ:∀p ys H',Same H H'->H p=none->H' p=some (.lst ys)->ys.length=xs.length->(∀i y,ys[i]?=some y->∃t vs,y=.ref t/\H' t=some (.tup vs)/\P i vs)->Q (.ref p) H'):CompRun (Itl K a) τ0 (ZcL 0) tAll te H Q:=by
 intro acc ha;refine⟨λi m τ H2=>i<=xs.length/\m=xs.length-i/\(∀w:Option V,τ.set 0 w=τ0.set 0 w)/\Same H H2/\∃ys,H2 acc=some (.lst ys)/\ys.length=i/\∀i y,ys[i]?=some y->∃t vs,y=.ref t/\H2 t=some (.tup vs)/\P i vs,
  ⟨xs.length,YAt _,rfl,λ_=>rfl,Zat ha,[],Zae,rfl,λi y h=>by simp at h⟩,?_⟩
 rintro i m τ H2 ⟨hi,rfl,hτ,hs,ys,Av,Au,hall⟩;by_cases A2:i<xs.length
 .refine .inr ⟨⟨xs,xs[i],hs.seq hx,by simp[A2]⟩,λτ' H'=>(∀w:Option V,τ'.set 0 w=τ0.set 0 w)/\Same H H'/\∃ys,H' acc=some (.lst ys)/\ys.length=i+1/\∀i y,ys[i]?=some y->∃t vs,y=.ref t/\H' t=some (.tup vs)/\P i vs,λτ' H' q=>⟨xs.length-(i+1),by lia,A2,rfl,q⟩,λx H3 y=>?_⟩;obtain⟨rfl,y⟩:=y;have ex:x=xs.getD i .non:=by rw[YAT,y xs (hs.seq hx)];rfl
  subst ex;unfold ZcL tAll;dsimp only;rw[YAM rfl,hτ];have hτ':∀w:Option V,(τ0.set 0 (some (xs.getD i .non))).set 0 w=τ0.set 0 w:=λw=>by rw[List.set_set]
  refine he i _ _ A2 hs λp vs H5 s5 hp hP=>⟨ys,s5 _ _ Av,by rw[Au,sizeLine_eq];lia,hτ',same_upd3' ha (hs.trans s5),ys++[.ref p],Zae,by simp[Au],λj z hz'=>?_⟩;have ne:∀ {t:AE} {us:List V},H5 t=some (.tup us)->t≠acc:=λh e=>by rw[e,s5 _ _ Av]at h;cases h
  by_cases hj:j<ys.length
  .rw[YBC hj]at hz';obtain⟨t,us,rfl,h1,h2⟩:=hall j z hz';have h1':=s5 _ _ h1;exact⟨t,us,rfl,by rw[Zah (ne h1')];exact h1',h2⟩
  .rw[YBA (by lia)]at hz';have hj':j-ys.length=0:=by
    rcases Nat.eq_zero_or_pos (j-ys.length) with h | h
    .exact h
    .rw[YBb (by simp;lia)]at hz';cases hz'
   rw[hj']at hz';cases hz';have:j=i:=by lia
   exact⟨p,vs,rfl,by rw[Zah (ne hp)];exact hp,by rw[this];exact hP⟩
 .have e:i=xs.length:=by lia
  subst e;exact .inl ⟨⟨xs,hs.seq hx,YAP _⟩,hQ acc ys H2 hs ha Av Au hall⟩
end
noncomputable def infB (w l:Q11):Bool:=(List.range (l.length+1)).any λi=>decide (i+w.length<=l.length)&&decide ((l.drop i).take w.length=w)
theorem ZbO:infB w l=true↔Inf w l:=by
 unfold infB Inf AtW;rw[YCG];constructor
 .rintro⟨i,_,h⟩;rw[YAX,decide_eq_true_eq,decide_eq_true_eq]at h;exact⟨i,h⟩
 .rintro⟨i,h1,h2⟩;refine⟨i,YAw.mpr (by lia),?_⟩;rw[YAX,decide_eq_true_eq,decide_eq_true_eq];exact⟨h1,h2⟩
theorem ZdB:infB w l=false↔¬Inf w l:=by rw[<-ZbO,Bool.not_eq_true]
theorem ZhF (w l:Q11):(!(Builtin.Str.occurrences ⟨l.toArray⟩ ⟨w.toArray⟩ 0 (⟨l.toArray⟩:Str).length 1).isEmpty)=infB w l:=by rw[YBU,StrLaws.found_iff,ZbO];exact⟨λ⟨i,h⟩=>⟨i,(Zcf l w i).mp h⟩,λ⟨i,h⟩=>⟨i,(Zcf l w i).mpr h⟩⟩
section
theorem Zhp:OpR X (compareOp .In) (λx y H Q=>∃w l,x=tx w/\y=tx l/\Q (.bl (infB w l)) H):=by rintro Ar s U H x y v u Q I rx ry ⟨w,l,rfl,rfl,q⟩;refine ZfG Ar s U H _ _ v u Q I rx ry ⟨_,_,rfl,rfl,?_⟩;rw[ZhF];exact q
theorem ZdR:OpR X (compareOp .NotIn) (λx y H Q=>∃w l,x=tx w/\y=tx l/\Q (.bl (!infB w l)) H):=by rintro Ar s U H x y v u Q I rx ry ⟨w,l,rfl,rfl,q⟩;refine ZfE Ar s U H _ _ v u Q I rx ry ⟨_,_,rfl,rfl,?_⟩;rw[ZhF];exact q
end
section
end
section
end
section
end
section
end
noncomputable def kfT:Value->Int×Q11
 | .str x _=>((x.length:Nat),x.cps.toList)
 | _=>(0,[])
noncomputable abbrev ZdX (x:Str)(p1 p2 p3 p4 p5:Pos)(k:Nat):Expr:=.Tuple [.Call (.Name "len" p1) [.Name x p2] [] p3,.Name x p4] k p5
structure LamSc (scope:Scope)(x:Str):Prop where
 kind:scope.kind=.function
 co:scope.isCoroutine=false
 gen:scope.isGenerator=false
 loc:scope.names.lookup x=some .local
 glb:scope.names.lookup ("len":Str)=some .globalImplicit
 nodbg:(x == ("__debug__":Str))=false
section
theorem ZjV (f:Str->Option NameKind){x:Str}{v:Value}(h:f x=some .local):bindL f [(x,v)] (λ_=>none) x=some v:=by unfold bindL bindL;rw[YAM h,YAM rfl]
theorem Zmz 
  (ho:s.heap.get? g=some o) (hod:o.data=.func (kla_fn name qual params (ZdX x p1 p2 p3 p4 p5 k) scope [] pm cv ctv)) (hcd:s.heap.CodeRec cv qual) (S:LamSc scope x)
  (hb:∀(s:AF) (u:Value),BindsTo s (kla_fn name qual params (ZdX x p1 p2 p3 p4 p5 k) scope [] pm cv ctv) ⟨[u],[]⟩ [(x,u)]) (hroom:A.depth<recursionLimit) (hlim:s.heap.NoLimit)
  (hg:s.heap.Ns mainGlobals mg) (hgl:mg "len"=none) (hbn:s.heap.Ns builtinsNs mb) (hbb:mb "len"=bootBuiltins "len") (hv:∀v∈vs,∃y t,v=.str y t/\y.length<=sizeLine):KeyCall (model prog w) A g vs kfT s:=by
 intro E s' v Q hvm hk hgen hos q;obtain⟨y,t,rfl,hy⟩:=hv v hvm;have hs:sizeLine=16777216:=sizeLine_eq;refine wpAny_call (PySem.W.kla_callFunE hroom (hk _ _ ho) hod S.co S.gen rfl (let ⟨c,oc,ws,tq,e1,e2,r⟩:=hcd;⟨c,oc,ws,tq,e1,hk _ _ e2,r⟩) (hb _ _ _ _ _ _ ?_));refine wpAny_newFunctionEnv_cells S.kind (λz hz=>.inl (by rw[YAI.mp hz];exact S.loc)) λenv he s1 X=>?_;refine⟨(hlim.keeps hk).keeps X.toInCall.keep,PySem.W.kla_codeExpr ?_⟩;subst he;obtain⟨h1,tk1,e1⟩:=X.toInCall.same;have kp1:Kp s'.heap s1.heap:=X.toInCall.keep;have lnm:∀(pp:Pos) (B:AI) (E2:Q33) (s2:AF) (Q2:Q33),Kp s1.heap s2.heap->Q2 (.str y t) s2->wpAny (model prog w) B (eval (.Name x pp) (newEnv scope s'.heap.objs.size mainGlobals (cellsFrom (s'.heap.objs.size+1) scope.names []) (qual++".<locals>.") (some g) cv none builtinsNs)) Q2 E2 s2:=λpp B E2 s2 Q2 k2 q2=>
  wpAny_Name (wpAny_loadName_local S.kind S.loc (X.toInCall.ns.keeps k2) (by exact ZjV _ S.loc) q2) S.nodbg
 refine wpAny_Tuple_spliced ?_;show wpAny _ _ (spliced ((false,eval (.Call (.Name "len" p1) [.Name x p2] [] p3) _)::backTo p5 (starEach [.Name x p4] _))) _ _ s1;refine YDL ?_;refine YCQ (Calls.Name_function_global S.kind S.glb (Calls.loadGlobal_builtin (v:=.builtin "len") (show s1.heap.Ns mainGlobals mg from(hg.keeps hk).keeps kp1) hgl (show s1.heap.Ns builtinsNs mb from(hbn.keeps hk).keeps kp1) (hbb.trans rfl) ?_) (by decide));refine PyProof.Rows.callWith_builtin1 ?_ rfl rfl;show wpAny _ _ (spliced ((false,eval (.Name x p2) _)::backTo p3 (starEach [] _))) _ _ s1;refine YDL (lnm p2 _ _ _ _ (λ_ _ e=>e) (Calls.spliced_nil ?_));refine len_str (by lia) ?_;show wpAny _ _ (spliced ((false,eval (.Name x p4) _)::backTo p5 (starEach [] _))) _ _ _;refine YDL (lnm p4 _ _ _ _ (λ_ _ e=>e) (Calls.spliced_nil ?_));refine⟨by rw[hs];show 2<=16777216;decide,?_⟩;rw[e1];refine q _ _ (λb o e=>YAE _ (by have:=kp1 b o e;rw[e1]at this;exact this)) rfl rfl ⟨_,_,_,_,_,rfl,YAY _ rfl,rfl⟩
end
theorem Zec (a v:Value):argsOk "sorted" ⟨[a],[(Str.ofString "key",v)]⟩:=by unfold argsOk;kernel_rfl
theorem Zc5 (a v:Value):argsOk "list.sort" ⟨[a],[(Str.ofString "key",v)]⟩:=by unfold argsOk;kernel_rfl
section
theorem ZgA (eo:s.heap.get? a=some (seqObj "list" its.toArray n)) (hc:KeyCall (model prog w) A.in1.in1 g its kf s) (hN:its.length<=sizeLine)
  (h:∀(s':AF) (r:AE) (us:AD) (e:Nat),s.heap.get? r=none->Kp s.heap s'.heap->s'.gens=s.gens->s'.os=s.os->s'.heap.get? r=some (seqObj "list" us.toArray e)->us.Perm its->us.Pairwise (λx y=>ltP (kf y) (kf x)=false)->Q (.ref r) s'):
  wpAny (model prog w) A (call (.builtin "sorted") [.ref a] [(Str.ofString "key",.ref g)]) Q E s:=by
 refine call_function_entry_kw kind_sorted plain_sorted entry_sorted (Zec _ _) ?_;unfold Builtin.«sorted»;refine YAA (m:=checkCount "sorted" 1 1 _) (YAD ?_);refine YAA (collect_list (PySem.IsL.isList eo) ?_ hN);have sb:=YAn (s.heap.push (seqObj "list" #[] 0)) s.heap.objs.size (Obj.mapSeq (·++its.toArray));have k1:Kp s.heap ((s.heap.push (seqObj "list" #[] 0)).update s.heap.objs.size (Obj.mapSeq (·++its.toArray))):=λb o e=>(sb.2 b (YAe (YAN e))).trans (YAE _ e);generalize ((s.heap.push (seqObj "list" #[] 0)).update s.heap.objs.size (Obj.mapSeq (·++its.toArray)))=g1 at k1 ⊢;have nw:s.heap.get? g1.objs.size=none:=by
  cases z:s.heap.get? g1.objs.size with
  | none=>rfl
  | some o=>exact absurd (YAN (k1 _ _ z)) (YBE _)
 refine YAA (YDD ?_ hN);have hoL:(g1.push (seqObj "list" its.toArray 0)).get? g1.objs.size=some (seqObj "list" its.toArray 0):=YAY _ rfl;refine YAA (YBN (wpAny_call_entry_kw slot_list_sort ⟨_,hoL,rfl⟩ entry_list_sort (Zh1 (s0:=s) hc (λb o e=>YAE _ (k1 b o e)) rfl rfl nw hoL hN λs' us e k2 e1 e2 e3 e4 e5=>⟨_,rfl,?_⟩) (Zc5 _ _)));exact YAD ⟨_,rfl,h s' _ us e nw k2 e1 e2 e3 e4 e5⟩
end
def BefW (a b:Q11):Prop:=a.length<b.length\/(a.length=b.length/\a<b)
theorem ZfL:∀ {a b:Q11} {x y:Q11},a.length=b.length->a<b->a++x<b++y
 | [],[],_,_,_,h=>by cases h
 | [],_::_,_,_,e,_=>by simp at e
 | _::_,[],_,_,e,_=>by simp at e
 | c::a,d::b,x,y,e,h=>by
  rw[YCP,YCP];cases h with
  | rel h=>exact List.Lex.rel h
  | cons h=>exact List.Lex.cons (ZfL (by simpa using e) h)
theorem Zi9:∀(a:Q11) {c d:Nat},c<d->a++[c]<a++[d]
 | [],_,_,h=>List.Lex.rel h
 | _::a,_,_,h=>List.Lex.cons (Zi9 a h)
theorem Zi8:∀(a b:Q11),a<b\/a=b\/b<a
 | [],[]=>.inr (.inl rfl)
 | [],_::_=>.inl .nil
 | _::_,[]=>.inr (.inr .nil)
 | c::a,d::b=>by
  rcases Nat.lt_trichotomy c d with h | h | h
  .exact .inl (List.Lex.rel h)
  .subst h;rcases Zi8 a b with h | h | h
   .exact .inl (List.Lex.cons h)
   .exact .inr (.inl (by rw[h]))
   .exact .inr (.inr (List.Lex.cons h))
  .exact .inr (.inr (List.Lex.rel h))
theorem Zfp (l:Q11)(n:Nat):(wordsOf l n).Pairwise (· < ·):=by
 have h1:(wordsOf l n).Pairwise (λa b=>leT a b=true):=Zbr _;have h2:(wordsOf l n).Nodup:=(ZaZ _).nodup_iff.mpr (by rw[<-Zff];exact Zc3 _);refine(h1.and h2).imp ?_;rintro a b ⟨x,y⟩;have x':¬b<a:=by simpa [leT] using x
 rcases Zi8 a b with z | z | z
 .exact z
 .exact absurd z y
 .exact absurd z x'
theorem ZaP (hm:m.Pairwise (· < ·)):(Zaq l m).Pairwise BefW:=by
 unfold Zaq ZcW;have len:∀k w,k<=l.length->w∈Zeg (wordsOf l k) (wordsOf l (k+1)) m->w.length=k+1:=λk w hk hw=>by obtain⟨h,c,h1,_,rfl,_⟩:=ZdS.mp hw;rw[Za4 (by lia)]at h1;rw[YAG,h1.1];rfl
 rw[List.pairwise_flatMap];refine⟨λk hk=>?_,?_⟩
 .have hk:=YAw.mp hk;unfold Zeg;rw[List.pairwise_flatMap];refine⟨λh hh=>?_,?_⟩
  .unfold Ze4;rw[YBS];exact(hm.filter _).imp λ{c d} hcd=>.inr ⟨by simp,Zi9 h hcd⟩
  .refine List.Pairwise.imp_of_mem ?_ (Zfp l k);intro a b ha hb hab x hx y hy;have la:=((Za4 (l:=l) (by lia)).mp ha).1;have lb:=((Za4 (l:=l) (by lia)).mp hb).1;unfold Ze4 at hx hy;obtain⟨c,_,rfl⟩:=YAa.mp hx;obtain⟨d,_,rfl⟩:=YAa.mp hy;exact .inr ⟨by simp[la,lb],ZfL (by rw[la,lb]) hab⟩
 .refine List.Pairwise.imp_of_mem ?_ List.pairwise_lt_range;intro i j hi hj hij x hx y hy;have hi:=YAw.mp hi;have hj:=YAw.mp hj;exact .inl (by rw[len i x (by lia) hx,len j y (by lia) hy];lia)
theorem Zc4:¬BefW a a:=λh=>h.elim (λh=>YBE _ h) λh=>List.lt_irrefl _ h.2
theorem Zii (hm:m.Pairwise (· < ·)):(Zaq l m).Nodup:=by unfold List.Nodup;exact(ZaP hm).imp λ{a b} h e=>by subst e;exact Zc4 h
theorem Zcn {α:Type}[DecidableEq α]:∀(l m:List α),l.Nodup->(∀x∈l,x∈m)->l.length<=m.length
 | [],m,_,_=>YAt _
 | x::l,m,nd,h=>by have hx:=h x YAd;have nd':=YBT.mp nd;have:=Zcn l (m.erase x) nd'.2 λy hy=>(YDa (λe=>by rw[e]at hy;exact nd'.1 hy)).mpr (h y (YAV _ hy));rw[List.length_erase_of_mem hx]at this;have pos:0<m.length:=List.length_pos_of_mem hx;rw[YAf];lia
theorem Zio (hu:AtW l u i)(hv:AtW l v j)(e:i+u.length=j+v.length)(hl:v.length<=u.length):v=u.drop (u.length-v.length):=by
 obtain⟨a1,a2⟩:=hu;obtain⟨b1,b2⟩:=hv;have hj:j=i+(u.length-v.length):=by lia
 rw[<-a2,YAW,YAp,YBg (by lia),List.drop_take,YCI,<-hj];rw[show u.length-(u.length-v.length)=v.length by lia];exact b2.symm
theorem ZkZ (h:Inf u l)(k:Nat):Inf (u.drop k) l:=by
 obtain⟨i,h1,h2⟩:=h;by_cases hk:k<=u.length
 .refine⟨i+k,by rw[YAp];lia,?_⟩;rw[YAp];have:(l.drop (i+k)).take (u.length-k)=((l.drop i).take u.length).drop k:=by rw[List.drop_take,YCI]
  rw[this,h2]
 .rw[YBr (by lia)];exact Inf.nil l
theorem Zeu (h:w.getLast?=some c):w=w.dropLast++[c]:=by
 have ne:w≠[]:=λe=>by rw[e]at h;cases h
 rw[YCD ne]at h;have h2:=YCi ne;rw[Option.some.inj h]at h2;exact h2.symm
theorem Zht (hw:Miss l w)(hv:Miss l v)(cw:w.getLast?=some c)(cv:v.getLast?=some c)(iw:AtW l w.dropLast i)(jv:AtW l v.dropLast j)(e:i+w.dropLast.length=j+v.dropLast.length)(hl:v.length<=w.length):v=w:=by
 have ew:=Zeu cw;have ev:=Zeu cv;have lw:w.dropLast.length=w.length-1:=YBJ;have lv:v.dropLast.length=v.length-1:=YBJ;have w1:1<=w.length:=YBV.mpr hw.ne;have v1:1<=v.length:=YBV.mpr hv.ne;have s:=Zio iw jv e (by lia);rw[show w.dropLast.length-v.dropLast.length=w.length-v.length by lia]at s;have h2:(w.dropLast++[c]).drop (w.length-v.length)=w.dropLast.drop (w.length-v.length)++[c]:=YCF (by lia);have vs:v=w.drop (w.length-v.length):=by have h3:v.dropLast++[c]=w.dropLast.drop (w.length-v.length)++[c]:=congrArg (·++[c]) s;rw[<-h2,<-ew,<-ev]at h3;exact h3
 by_cases eq:v.length=w.length
 .rw[vs,eq,YDQ];rfl
 .exfalso;apply hv.no;have:v=w.tail.drop (w.length-v.length-1):=by rw[<-List.drop_one,YCI,show 1+(w.length-v.length-1)=w.length-v.length by lia];exact vs
  rw[this];exact ZkZ hw.tail _
noncomputable def endOf (l w:Q11):Nat:=((List.range (l.length+1)).find? λe=>(List.range (l.length+1)).any λi=>decide (i+w.dropLast.length=e)&&decide (i+w.dropLast.length<=l.length)&&decide ((l.drop i).take w.dropLast.length=w.dropLast)).getD 0
theorem Zfd (h:Inf w.dropLast l):∃i,AtW l w.dropLast i/\endOf l w=i+w.dropLast.length:=by
 unfold endOf;cases f:(List.range (l.length+1)).find? λe=>(List.range (l.length+1)).any λi=>decide (i+w.dropLast.length=e)&&decide (i+w.dropLast.length<=l.length)&&decide ((l.drop i).take w.dropLast.length=w.dropLast) with
 | none=>
  obtain⟨i,h1,h2⟩:=h;have:=List.find?_eq_none.mp f (i+w.dropLast.length) (YAw.mpr (by lia));exfalso;apply this;rw[YCG];exact⟨i,YAw.mpr (by lia),by rw[decide_eq_true rfl,decide_eq_true h1,decide_eq_true h2];rfl⟩
 | some e=>
  have:=List.find?_some f;rw[YCG]at this;obtain⟨i,_,hi⟩:=this;simp only[YAX,decide_eq_true_iff]at hi;exact⟨i,⟨hi.1.2,hi.2⟩,hi.1.1.symm⟩
theorem ZfH {α β:Type}{f:α->β}:∀ {l:List α},l.Nodup->(∀x∈l,∀y∈l,f x=f y->x=y)->(l.map f).Nodup
 | [],_,_=>by simp
 | x::l,nd,h=>by have nd':=YBT.mp nd;rw[YAi,YBT];refine⟨λz=>?_,ZfH nd'.2 λa ha b hb=>h a (YAV _ ha) b (YAV _ hb)⟩;obtain⟨y,hy,e⟩:=YAa.mp z;have:=h y (YAV _ hy) x YAd e;rw[this]at hy;exact nd'.1 hy
theorem Zij (hm:m.Pairwise (· < ·)):(Zaq l m).length<=m.length*(l.length+1):=by
 have nd:=Zii (l:=l) hm;have inj:∀x∈Zaq l m,∀y∈Zaq l m,(x.getLast?,endOf l x)=(y.getLast?,endOf l y)->x=y:=by
  intro x hx y hy e;obtain⟨mx,c,hc,cx⟩:=ZaK.mp hx;obtain⟨my,d,hd,cy⟩:=ZaK.mp hy;have e1:x.getLast?=y.getLast?:=congrArg Prod.fst e;have e2:endOf l x=endOf l y:=congrArg Prod.snd e;obtain⟨i,hi,ei⟩:=Zfd mx.init;obtain⟨j,hj,ej⟩:=Zfd my.init;have cy':y.getLast?=some c:=by rw[<-e1];exact cx
  rcases Nat.le_total y.length x.length with h | h
  .exact(Zht mx my cx cy' hi hj (by lia) h).symm
  .exact Zht my mx cy' cx hj hi (by lia) h
 have nd2:=ZfH (f:=λw:Q11=>(w.getLast?,endOf l w)) nd inj;have h:=Zcn _ (m.flatMap λc=>(List.range (l.length+1)).map λe=>(some c,e)) nd2 λp hp=>by obtain⟨w,hw,rfl⟩:=YAa.mp hp;obtain⟨mw,c,hc,cw⟩:=ZaK.mp hw;obtain⟨i,hi,ei⟩:=Zfd mw.init;rw[YDW];refine⟨c,hc,YAa.mpr ⟨endOf l w,YAw.mpr (by have:=hi.1;lia),by rw[cw]⟩⟩
 rw[YAB]at h;have e:(m.flatMap λc=>(List.range (l.length+1)).map λe=>(some c,e)).length=m.length*(l.length+1):=by
  rw[List.length_flatMap];have:(m.map λc=>((List.range (l.length+1)).map λe=>(some c,e)).length)=List.replicate m.length (l.length+1):=by apply YCO (by simp);intro i h1 h2;simp
  rw[this,List.sum_replicate_nat]
 rw[e]at h;exact h
end L2
namespace L2
open PySem PySem.Spec PyProof.Rows PySem.W
noncomputable def Zds:HO->Bool
 | .tbl _=>true
 | _=>false
def SameL (H H':Hp):Prop:=∀b o,H b=some o->Zds o=false->H' b=some o
theorem SameL.refl (H:Hp):SameL H H:=λ_ _ e _=>e
theorem SameL.trans (a:SameL H H1)(b:SameL H1 H2):SameL H H2:=λc o e n=>b c o (a c o e n) n
theorem Same.l (s:Same H H'):SameL H H':=λb o e _=>s b o e
noncomputable def Zfo (c:AE)(q:Str):HO:=.ext λh=>h.CodeRec (.ref c) q
theorem Zk5 (x:h.CodeRec (.ref c) q):ObjOk P w H h c (Zfo c q):=by obtain⟨c',o,vs,t,e,e1,r⟩:=id x;cases e;refine⟨x,⟨o,e1⟩,λh1 h2 x1 k=>?_⟩;obtain⟨c',o,vs,t,e,e1,r⟩:=x1;cases e;exact⟨c,o,vs,t,rfl,k _ e1,r⟩
def TblOk (H:Hp)(P:AE)(pos:Pos)(q:Str):Prop:=∃ps,H P=some (.tbl ps)/\TriplesOk ps.toList/\(codeAmong pos ps.toList=none\/∃c,codeAmong pos ps.toList=some (.ref c)/\H c=some (Zfo c q))
theorem TblOk.same (t:TblOk H P pos q)(s:Same H H'):TblOk H' P pos q:=by obtain⟨ps,e,tr,h⟩:=t;exact⟨ps,s _ _ e,tr,h.imp id λ⟨c,e1,e2⟩=>⟨c,e1,s _ _ e2⟩⟩
theorem tbl_new (h:H P=some (.tbl #[])):TblOk H P pos q:=⟨#[],h,trivial,.inl rfl⟩
theorem Zd9 {pos pos':Pos}{c:Value}(hne:pos'.line≠pos.line\/pos'.col≠pos.col)(l:AD)(h:TriplesOk l):codeAmong pos' (l++[rawInt pos.line,rawInt pos.col,c])=codeAmong pos' l:=by
 fun_induction TriplesOk l with
 | case1=>
  simp only[List.nil_append,codeAmong,rawInt];rw[YAJ];intro z;simp only[YAX,beq_iff_eq]at z;rcases hne with n | n
  .exact n (by have:=z.1;lia)
  .exact n (by have:=z.2;lia)
 | case2 a t b u x rest ih=>
  simp only[YCP,codeAmong];rw[ih h]
 | case3 l h1 h2=>exact h.elim
def SameT (pos:Pos)(H H':Hp):Prop:=SameL H H'/\∀(P':AE) (pos':Pos) (q':Str),(pos'.line≠pos.line\/pos'.col≠pos.col)->TblOk H P' pos' q'->TblOk H' P' pos' q'
theorem SameT.then (s:SameT pos H H1)(t:Same H1 H2):SameT pos H H2:=⟨s.1.trans t.l,λP' p' q' n T=>(s.2 P' p' q' n T).same t⟩
structure LamEnv (base:Heap)(mg:AC)(c P:AE):Prop where
 hd:CodeHd base c P
 bm:base.BuiltinsAt mg P
section
theorem Inv.table (I:Inv X Ar U H s)(hP:H P=some (.tbl ps))(hx:Heap.ExtBut P s.heap h')(hc:s.heap.objs.size<=c')(hr:h'.CodeRec (.ref c') q)(ht:h'.get? P=some (tabObj (ps++more))):
  Inv X Ar U (upd (upd H P (.tbl (ps++more))) c' (Zfo c' q)) { s with heap:=h',toks:=t' }:=by
 have fc:H c'=none:=I.hok.fresh hc;have nPc:P≠c':=Zai hP fc;have nt:∀ {b u},H b=some u->(∀ps,u≠.tbl ps)->b≠P:=λe n z=>by rw[z,hP]at e;exact n _ (Option.some.inj e).symm
 have nc:∀ {b u},H b=some u->b≠c':=λe=>Zai e fc;have hz:∀ {b o},s.heap.get? b=some o->b≠c':=λe z=>absurd (YAN e) (by rw[z];exact Nat.not_lt.mpr hc);have nn:∀ {b},H b=none->b≠P:=λe z=>by rw[z,hP]at e;cases e
 refine I.call' (s':={ s with heap:=h',toks:=t' }) (ch:=[]) rfl ⟨λb o e n _ _=>hx b o (nn n) e,λb o e n _ _=>⟨o.slots,hx b o (nn n) e⟩,λb o e n _=>?_,λb o e _=>?_,λb xs e=>?_,λb o u e=>?_,λb qs e=>?_⟩ (λb u e=>?_) I.bare (λb z=>by cases z)
 .rw[Zah (hz e),Zah (nn n)];exact n
 .by_cases z:b=P
  .exact⟨_,by rw[z];exact ht⟩
  .exact⟨o,hx b o z e⟩
 .rw[Zah (nc e),Zah (nt e λ_ z=>by cases z)];exact e
 .rw[Zah (nc e),Zah (nt e λ_ z=>by cases z)];exact e
 .by_cases z:b=P
  .subst z;rw[hP]at e;cases e;exact⟨more,by rw[Zah nPc,Zae]⟩
  .exact⟨#[],by rw[Zah (nc e),Zah z,e];simp⟩
 .by_cases z1:b=c'
  .subst z1;rw[Zae]at e;cases e;exact Zk5 hr
  .rw[Zah z1]at e;by_cases z2:b=P
   .subst z2;rw[Zae]at e;cases e;exact ht
   .rw[Zah z2]at e;refine(I.hok b u e).stay (λd v hd k=>?_) (λd k=>?_) λd xs k=>?_
    .refine hx d v ?_ k;rcases hd with rfl | hd
     .exact z2
     .exact nt hd λ_ z=>by cases z
    .rw[Zah (nc k),Zah (nt k λ_ z=>by cases z)];exact k
    .rw[Zah (nc k),Zah (nt k λ_ z=>by cases z)];exact k
theorem Zjd (I:Inv X Ar U H s)(L:LamEnv X.base X.mg c P)(hcode:X.env.code=.ref c)(hcl:closureFor scope X.env=pure clos)(hdef:defaultsOf params X.env=([],[]))
  (hq:X.env.qual++"<lambda>"=q) (T:TblOk H P pos q)
  (h:∀(H1:Hp) (h':Heap) (tk:Nat) (c':AE) (ctv:Value),SameT pos H H1->TblOk H1 P pos q->(∀b,H1 b=none->H b=none)->Inv X Ar U H1 { s with heap:=h',toks:=tk }->h'.CodeRec (.ref c') q->H1 c'=some (Zfo c' q)->Q (.ref h'.objs.size) { s with heap:=h'.push (kla_obj "<lambda>" q params body scope clos ((X.mg "__name__").getD .none) c' ctv),toks:=tk }):
  wpAny (model X.prog X.w) X.A (eval (.Lambda params body scope pos) X.env) Q E s:=by
 obtain⟨ps,hP,tr,hc⟩:=T;have gP:s.heap.get? P=some (tabObj ps):=I.hok P _ hP;have C:CodeHd s.heap c P:=L.hd.keeps I.bk;have hg:s.heap.Ns mainGlobals X.mg:=I.mod.glob.keeps I.bk;have hgP:mainGlobals≠P:=λz=>by obtain⟨o,es,ep,e,hd,_⟩:=hg;rw[z,gP]at e;cases e;cases hd
 have hbm:s.heap.BuiltinsAt X.mg P:=let ⟨bm,o,a1,a2,a3,a4,a5,r⟩:=L.bm;⟨bm,o,a1,a2,a3,a4,I.bk _ _ a5,r⟩;refine kla_eval hdef ?_;rw[hq];rcases hc with hn | ⟨c',hf,hc'⟩
 .refine kla_makeFunction hcl I.ok.glob hg hcode C gP tr hn hgP hbm λc' ctv h' tk hx hge A2 hrec htab=>?_;have fc:H c'=none:=I.hok.fresh hge;have J:=I.table (t':=tk) hP hx hge hrec htab;have nPc:P≠c':=Zai hP fc;have el:(ps++#[rawInt pos.line,rawInt pos.col,Value.ref c']).toList=ps.toList++[rawInt pos.line,rawInt pos.col,.ref c']:=by simp
  refine h _ _ _ c' ctv ⟨λb o e n=>?_,λP' pos' q' hne T'=>?_⟩ ⟨_,by rw[Zah nPc,Zae],by rw[el];exact TriplesOk_snoc _ _ _ _ tr,.inr ⟨c',by rw[el];exact codeAmong_snoc _ tr hn,Zae⟩⟩ (λb e=>?_) J hrec Zae
  .rw[Zah (Zai e fc),Zah (λz=>by rw[z,hP]at e;cases e;cases n)];exact e
  .obtain⟨ps',e1,t1,h1⟩:=T';have keep:∀d,H d=some (Zfo d q')->upd (upd H P (.tbl (ps++#[rawInt pos.line,rawInt pos.col,Value.ref c']))) c' (Zfo c' q) d=some (Zfo d q'):=λd e=>by rw[Zah (Zai e fc),Zah (λz=>by rw[z,hP]at e;cases e)];exact e
   by_cases z:P'=P
   .subst z;rw[hP]at e1;cases e1;refine⟨_,by rw[Zah nPc,Zae],by rw[el];exact TriplesOk_snoc _ _ _ _ tr,?_⟩;rw[el,Zd9 hne _ tr];exact h1.imp id λ⟨d,f1,f2⟩=>⟨d,f1,keep d f2⟩
   .exact⟨ps',by rw[Zah (Zai e1 fc),Zah z];exact e1,t1,h1.imp id λ⟨d,f1,f2⟩=>⟨d,f1,keep d f2⟩⟩
  .by_cases z1:b=c'
   .rw[z1];exact fc
   .rw[Zah z1]at e;by_cases z2:b=P
    .rw[z2,Zae]at e;cases e
    .rw[Zah z2]at e;exact e
 .refine kla_makeFunctionHit hcl I.ok.glob hg hcode C gP tr hf hbm λctv h' tk hk hsz=>?_;have hrec:s.heap.CodeRec (.ref c') q:=(I.hok c' _ hc').1;exact h H _ _ c' ctv ⟨SameL.refl _,λ_ _ _ _ T=>T⟩ ⟨ps,hP,tr,.inr ⟨c',hf,hc'⟩⟩ (λb e=>e) (I.kept (t':=tk) hk) (hrec.keeps hk) hc'
theorem Zje (I:Inv X Ar U H s)(L:LamEnv X.base X.mg c P)(hcode:X.env.code=.ref c)(hcl:closureFor scope X.env=pure [])(hdef:defaultsOf params X.env=([],[]))
  (hq:X.env.qual++"<lambda>"=q) (T:TblOk H P pos q)
  (h:∀(g:AE) (H1:Hp) (s1:AF) (cv ctv pm:Value),SameT pos H H1->TblOk H1 P pos q->(∀b,H1 b=none->H b=none)->Inv X Ar U H1 s1->s1.heap.get? g=some { cls:=.type "function",data:=.func (kla_fn "<lambda>" q params body scope [] pm cv ctv) }->s1.heap.CodeRec cv q->Q (.ref g) s1):
  wpAny (model X.prog X.w) X.A (eval (.Lambda params body scope pos) X.env) Q E s:=
 Zjd I L hcode hcl hdef hq T λH1 h' tk c' ctv st t1 fr J hrec _=>h _ H1 _ (.ref c') ctv _ st t1 fr (J.kept (t':=tk) λb o e=>YAE _ e) (YAY _ rfl) (hrec.push _)
end
theorem ZeI:bootBuiltins "sorted"=some (.builtin "sorted"):=rfl
noncomputable def txV:Value->Q11
 | .str x _=>x.cps.toList
 | _=>[]
theorem ZeJ:∀ {ws:Q22} {us:AD},Vals (ws.map tx) us->ws=us.map txV/\(∀v∈us,∃y t,v=.str y t/\y.length=(txV v).length)
 | [],_,.nil=>⟨rfl,λv hv=>by cases hv⟩
 | w::ws,_,.cons ⟨t,e⟩ r=>by
  obtain⟨h1,h2⟩:=ZeJ (ws:=ws) r;subst e;refine⟨by rw[YAi,<-h1];simp[txV],λv hv=>?_⟩;rcases YAH.mp hv with rfl | hv
  .exact⟨_,t,rfl,by simp[txV,Str.length]⟩
  .exact h2 v hv
theorem Zc8:∀(us:AD),(∀v∈us,∃y t,v=.str y t)->Vals ((us.map txV).map tx) us
 | [],_=>.nil
 | v::us,h=>by obtain⟨y,t,rfl⟩:=h v YAd;exact .cons ⟨t,by simp[txV]⟩ (Zc8 us λu hu=>h u (YAV _ hu))
def Zlj (P:AE)(lpos:Pos)(q:Str)(ta:TA):TE:=λU H Q=>ta U H λvs H1=>∃(a:AE) (ws:Q22),vs=[.ref a]/\H1 a=some (.lst (ws.map tx))/\(∀w∈ws,w.length<=sizeLine)/\TblOk H1 P lpos q /\
 ∀(ws':Q22) (r:AE) (H2:Hp),ws'.Perm ws->ws'.Pairwise (λa b=>¬BefW b a)->SameT lpos H1 H2->TblOk H2 P lpos q->H1 r=none->H2 r=some (.lst (ws'.map tx))->Q (.ref r) H2
theorem Zmw:ltP ((b.length:Nat),b) ((a.length:Nat),a)=false↔¬BefW b a:=by
 rw[YBc,Ne,ZgH];unfold BefW;dsimp only;have e1:((b.length:Int)<(a.length:Int))↔b.length<a.length:=by lia
 have e2:((b.length:Int)=(a.length:Int))↔b.length=a.length:=by lia
 rw[e1,e2]
section
theorem Zhl (hr:Room k X.A) (L:LamEnv X.base X.mg c P) (hcode:X.env.code=.ref c) (hg:Gl X "sorted") (hm:X.mg "sorted"=none) (Au:X.mg "len"=none) (ha:PA X [e] ta) (hcl:closureFor scope X.env=pure []) (hdef:defaultsOf params X.env=([],[])) (hq:X.env.qual++"<lambda>"=q)
  (S:LamSc scope x) (hb:∀(s:AF) (u pm cv ctv:Value),BindsTo s (kla_fn "<lambda>" q params (ZdX x p1 p2 p3 p4 p5 kk) scope [] pm cv ctv) ⟨[u],[]⟩ [(x,u)])
  (he:backTo pos (starEach [e] X.env)=(false,eval e X.env)::backTo pos (starEach [] X.env):=by rfl) (hpl:(backTo pos (starEach [e] X.env)).any (·.1)=false:=by rfl):
  PE X (.Call (.Name "sorted" p) [e] [⟨some "key",.Lambda params (ZdX x p1 p2 p3 p4 p5 kk) scope lpos,kpos⟩] pos) (Zlj P lpos q ta):=by
 intro Ar s U H Q I h;refine YCQ (Zdm I hg hm ZeI ?_);refine PyProof.Rows.callWith_kw (thn (ha pos Ar s U H _ I h) λus s1 zz=>?_) he hpl;obtain⟨vs,H1,I1,r1,q1⟩:=zz;obtain⟨a,ws,rfl,hH,hw,T,q⟩:=q1;show wpAny _ _ (evalAll ((do let v <-eval (.Lambda params (ZdX x p1 p2 p3 p4 p5 kk) scope lpos) X.env;standAt pos;pure v)::[])) _ _ s1;refine wpAny_evalAll_cons (YAA (Zje I1 L hcode hcl hdef hq T λg H2 s2 cv ctv pm sl T2 fr I2 ho hcd=>YAA (wpAny_standAt (YAD (wpAny_evalAll_nil ?_)))));obtain⟨u,rfl,ru⟩:=r1.one;cases ru;have hH2:=sl.1 _ _ hH rfl;obtain⟨hz,its,n,r,hlen',eo⟩:=I2.lstM hH2;obtain⟨ew,hs⟩:=ZeJ r;have hN:its.length<=sizeLine:=by rw[<-r.length];exact hz
 obtain⟨mb,b1,b2⟩:=I2.mod.blt;have key:=Zmz (prog:=X.prog) (w:=X.w) (A:=X.A.in1.in1) (vs:=its) ho rfl hcd S (λs u=>hb s u pm cv ctv) (show X.A.depth<recursionLimit by have:=hr.dp;lia) (I2.mod.nolimit.keeps I2.bk) (I2.mod.glob.keeps I2.bk) Au (b1.keeps I2.bk) (b2 _ (by decide)) (λv hv=>by obtain⟨y,t,e1,e2⟩:=hs v hv;exact⟨y,t,e1,by rw[e2];exact hw _ (by rw[ew];exact YAx hv)⟩)
 refine ZgA eo key hN λs' r' us e nr kp g1 o1 er pm2 pw=>?_;have hs2:∀v∈us,∃y t,v=.str y t/\y.length=(txV v).length:=λv hv=>hs v (pm2.mem_iff.mp hv);have rv:Vals ((us.map txV).map tx) us:=Zc8 us λv hv=>let ⟨y,t,e,_⟩:=hs2 v hv;⟨y,t,e⟩;have hl2:us.length=its.length:=pm2.length_eq;have fr':H1 r'=none:=fr _ (I2.hok.none_of nr);have J:=I2.laid2 (s':=s') (a:=r') (o:=.lst ((us.map txV).map tx)) o1 g1 kp nr ⟨by rw[YAB,YAB];lia,us,e,rv,er⟩;have hr2:=I2.hok.none_of nr;refine⟨.ref r',_,J,rfl,q (us.map txV) r' _ (by rw[ew];exact pm2.map _) ?_ (sl.then (Zat hr2)) (T2.same (Zat hr2)) fr' Zae⟩;rw[YBS];refine pw.imp_of_mem λ{y z} hy hz e=>?_;rw[<-Zmw];obtain⟨y1,t1,e1,e2⟩:=hs2 y hy;obtain⟨z1,t2,e3,e4⟩:=hs2 z hz;subst e1 e3;have f1:kfT (.str y1 t1)=((((txV (.str y1 t1)).length:Nat):Int),txV (.str y1 t1)):=by rw[<-e2];rfl
 have f2:kfT (.str z1 t2)=((((txV (.str z1 t2)).length:Nat):Int),txV (.str z1 t2)):=by rw[<-e4];rfl
 rw[f1,f2]at e;exact e
end
end L2
namespace L2
open PySem PySem.Spec PyProof.Rows
section
theorem ZlO (l:List α):(l.zip l).reverse=l.reverse.zip l.reverse:=by
 induction l with
 | nil=>rfl
 | cons x l ih=>rw[List.zip_cons_cons,List.reverse_cons,List.reverse_cons,ih,List.zip_append rfl];rfl
theorem ZiF (ho:s.heap.get? a=some (seqObj "list" vs.toArray n)) (hv:Vals (ms.map tx) vs) (hN:vs.length<=9000)
  (h:∀(out:Array Value) (ls:Q22),ls.Perm ms->Vals (ls.map tx) out.toList->P (.done (.ret .none)) { s with heap:=sortedHeap s.heap a vs out }):
  wpAny (model prog w) A (Builtin.«list.sort» ⟨[.ref a],[(Str.ofString "reverse",.bool true)]⟩) P E s:=by
 rw[list_sort_rev];have ha:a<s.heap.objs.size:=YAN ho;have sl:vs.length<=sizeLine:=YAK hN (by rw[sizeLine_eq];decide);refine YAA (listItems_at ho rfl ?_);refine YAA (listUpdate_at ho rfl ?_);obtain⟨e1,ho1⟩:∃e1,(s.heap.update a (Obj.mapSeq λ_=>#[])).get? a=some (seqObj "list" #[] e1):=⟨_,get?_update_seq ho (λ_=>#[])⟩;refine YAA (seqEpoch_at ho1 rfl ?_);refine YAA (wpAny_newTuple ?_);refine YAA (YDD ?_);refine YBN ?_;have ho6:(((s.heap.update a (Obj.mapSeq λ_=>#[])).push (seqObj "tuple" vs.toArray 0)).push (seqObj "list" #[] 0)).get? a=some (seqObj "list" #[] e1):=by rw[Heap.get?_push_ne _ _ _ (by rw[size_push',Heap.size_update];exact YAe (YCW ha)),Heap.get?_push_ne _ _ _ (by rw[Heap.size_update];exact YAe ha)];exact ho1
 show wpAny (model prog w) A _ P E { s with heap:=((s.heap.update a (Obj.mapSeq λ_=>#[])).push (seqObj "tuple" vs.toArray 0)).push (seqObj "list" #[] 0) };have hvr:Vals (ms.reverse.map tx) vs.reverse:=by rw[List.map_reverse];exact hv.reverse
 have hS:=ZcN hvr;have er:(vs.toArray.zip vs.toArray).reverse=pairsOf vs.reverse:=by apply Array.toList_inj.mp;rw[YCx];show _=((vs.reverse.toArray.zip vs.reverse.toArray)).toList;rw[Array.toList_zip,Array.toList_zip];simp only[List.toList_toArray];exact(ZlO vs)
 have fin:∀st':SortSt,(arrOf st').Perm (pairsOf vs.reverse)->P (.done (.ret .none)) { s with heap:=sortedHeap s.heap a vs (((arrOf st').map (·.2)).reverse) }:=by
  intro st' hp;have pv:(((arrOf st').map (·.2)).reverse).toList.Perm vs:=by rw[YCx,YDY];refine(YDN _).trans (((YCN.mp hp).map _).trans ?_);show ((vs.reverse.toArray.zip vs.reverse.toArray).toList.map Prod.snd).Perm vs;rw[Array.toList_zip,List.map_snd_zip (by simp)];exact YDN _
  have al:∀v∈(((arrOf st').map (·.2)).reverse).toList,∃y t,v=.str y t:=λv hm=>by obtain⟨_,hs⟩:=ZeJ hv;obtain⟨y,t,e,_⟩:=hs v (pv.mem_iff.mp hm);exact⟨y,t,e⟩
  refine h _ ((((arrOf st').map (·.2)).reverse).toList.map txV) ?_ (Zc8 _ al);obtain⟨ew,_⟩:=ZeJ hv;rw[ew];exact pv.map _
 dsimp only;rw[YAM rfl];refine YAA (YBs ?_);simp only[if_true];rw[er];by_cases h2:vs.toArray.size<2
 .rw[YAM h2,YAM h2];refine YAA (YAD ?_);rw[StateT.run_pure];refine YAA (YAD ?_);dsimp only;refine YAA (seqEpoch_at ho6 rfl ?_);refine YAA (listUpdate_at ho6 rfl ?_ (hsz2:=by rw[Array.size_reverse,Array.size_map];show (pairsOf vs.reverse).size<=_;rw[pairsOf_size,List.length_reverse,sizeLine_eq];rw[YAO]at h2;lia))
  simp only[bne_self_eq_false,YCj,if_false];exact YAD (fin (SortSt.mk' general' (pairsOf vs.reverse) #[] 7 none) (Array.Perm.refl _))
 .rw[YAJ h2,YAJ h2];have hk1:keyKind' vs.toArray=pure oneType':=by
   obtain⟨x,y,r,hv'⟩:∃x y r,vs=x::y::r:=by
    match vs,h2 with
    | x::y::r,_=>exact⟨x,y,r,rfl⟩
    | [x],h=>simp at h
    | [],h=>simp at h
   rw[hv'];exact keyKind_strs (by rw[<-hv'];exact ZcN hv)
  rw[hk1];refine YAA (YAD (YAA (YBZ (Zha strKind_oneLt hS.keysOf (st:=SortSt.mk' oneType' (pairsOf vs.reverse) #[] 7 none) (Q:=λ_ v=>(arrOf v).Perm (pairsOf vs.reverse)/\failedOf v=none) rfl rfl rfl rfl λv p1 p2 p3=>⟨p1,p2⟩) ?_ λ_ _ e=>e)));rintro⟨⟨⟩,v⟩ s2 ⟨rfl,p1,p2⟩;dsimp only;refine YAA (seqEpoch_at ho6 rfl (YAA (listUpdate_at ho6 rfl ?_ (hsz2:=?_))))
  .rw[p2,bne_self_eq_false];exact YAD (fin v p1)
  .rw[Array.size_reverse,Array.size_map,p1.size_eq,pairsOf_size,List.length_reverse];lia
end
section
def Zli (ta:TA):TE:=λU H Q=>ta U H λvs H1=>∃a kvs ls,vs=[.ref a]/\Rd H1 a (.dK kvs)/\kvs.map (·.1)=ls.map kTx/\ls.length<=9000/\∀(ls':Q22) (r:AE) (H2:Hp),ls'.Perm ls->Same H1 H2->H1 r=none->H2 r=some (.lst (ls'.map tx))->Q (.ref r) H2
theorem Zkk (hc:X.calm=true) (hg:Gl X "sorted") (hm:X.mg "sorted"=none) (ha:PA X [e] ta)
  (he:backTo pos (starEach [e] X.env)=(false,eval e X.env)::backTo pos (starEach [] X.env):=by rfl) (hpl:(backTo pos (starEach [e] X.env)).any (·.1)=false:=by rfl):
  PE X (.Call (.Name "sorted" p) [e] [⟨some "reverse",.Constant (.bool true) j Ay,kpos⟩] pos) (Zli ta):=by
 intro Ar s U H Q I h;refine YCQ (Zdm I hg hm ZeI ?_);refine PyProof.Rows.callWith_kw (thn (ha pos Ar s U H _ I h) λus s1 zz=>?_) he hpl;obtain⟨vs,H1,I1,r1,q1⟩:=zz;obtain⟨a,kvs,ls,rfl,hH,hk,h9,q⟩:=q1;show wpAny _ _ (evalAll ((do let v <-eval (.Constant (.bool true) j Ay) X.env;standAt pos;pure v)::[])) _ _ s1;refine wpAny_evalAll_cons (YAA (Constant_bool (YAA (wpAny_standAt (YAD (wpAny_evalAll_nil ?_))))));obtain⟨u,rfl,ru⟩:=r1.one;cases ru;obtain⟨z,y,vs,rr,o,es,ep,eo⟩:=hH.ok I1.hok;have hm':s1.heap.DictAt (ZaB X.prog X.w) a vs ep:=⟨o,es,eo⟩;have hl2:vs.length=ls.length:=by rw[<-rr.length];have:=congrArg List.length hk;simpa using this
 have hz:ls.length<=sizeLine:=by rw[<-hl2,<-rr.length];exact z
 show wpAny _ _ (call (.builtin "sorted") [.ref a] [(Str.ofString "reverse",.bool true)]) _ _ s1;refine call_function_entry_kw kind_sorted plain_sorted entry_sorted (args_sorted_rev _ _) ?_;unfold Builtin.«sorted»;refine YAA (m:=checkCount "sorted" 1 1 _) (YAD ?_);refine YAA (Zdn (by first | exact I1.ok.hd hc | simpa using I1.ok.hd hc) y hm' (by rw[hl2];exact hz) λs' us' k1 hg ho hv=>?_);have ev:(vs.map λp=>kV p.1)=ls.map tx:=by
  have e1:(vs.map λp=>kV p.1)=(vs.map (·.1)).map kV:=by rw[YAl];rfl
  rw[e1,<-rr.keys,hk,YAl];rfl
 rw[ev]at hv;have Au:us'.length<=9000:=by rw[<-hv.length,YAB];exact h9
 refine YAA (YDD ?_ (YAK Au (by rw[sizeLine_eq];decide)));have hoL:(s'.heap.push (seqObj "list" us'.toArray 0)).get? s'.heap.objs.size=some (seqObj "list" us'.toArray 0):=YAY _ rfl;refine YAA (YBN (wpAny_call_entry_kw slot_list_sort ⟨_,hoL,rfl⟩ entry_list_sort (ZiF hoL hv Au λout ls' pm r2=>⟨_,rfl,?_⟩) (args_list_sort_rev _ _)));have nw:s1.heap.get? s'.heap.objs.size=none:=by
  cases q:s1.heap.get? s'.heap.objs.size with
  | none=>rfl
  | some o=>exact absurd (YAN (k1 _ _ q)) (YBE _)
 obtain⟨e,he⟩:=sortedHeap_at (out:=out) hoL;refine YAD ⟨_,rfl,.ref s'.heap.objs.size,_,I1.laid2 (s':={ s' with heap:=sortedHeap (s'.heap.push (seqObj "list" us'.toArray 0)) s'.heap.objs.size us' out }) (o:=.lst (ls'.map tx)) ho hg (λb o q=>?_) nw ⟨?_,out.toList,e,r2,?_⟩,rfl,q ls' _ _ pm (Zat (I1.hok.none_of nw)) (I1.hok.none_of nw) Zae⟩
 .have A2:=YAN (k1 _ _ q);have hlt':b<(s'.heap.push (seqObj "list" us'.toArray 0)).objs.size:=by rw[YBm];exact YCW A2
  exact(sortedHeap_old (YAe A2) hlt').trans (YAE _ (k1 _ _ q))
 .rw[YAB,pm.length_eq];exact hz
 .rw[YCT];exact he
end
section
def rInsert:V->List V->Hp->VK->Prop:=λx vs H Q=>∃(l:AE) (xs:List V) (i:Nat) (y:V),x=.ref l/\vs=[.int (i:Int),y]/\H l=some (.lst xs)/\i<=xs.length/\xs.length<100000/\Q .non (upd H l (.lst (xs.take i++[y]++xs.drop i)))
theorem Zi6:MtM X "list.insert" rInsert:=by
 intro Ar s U H x vs v us Q I rx rv h;obtain⟨l,xs,i,y,rfl,rfl,hH,hi,hz,q⟩:=h;cases rx;obtain⟨u,w,rfl,ru,rw'⟩:=rv.two;obtain⟨t,rfl⟩:=ru;obtain⟨z,its,n,r,hl,e⟩:=I.lstM hH;have fi:Builtin.List.listFitsIndex ((i:Nat):Int)=true:=fitsIndex_both (by lia) (by lia);obtain⟨k,ek⟩:∃k:Int,k=((i:Nat):Int):=⟨_,rfl⟩;rw[<-ek]at fi ⊢;have hsz:its.toArray.size<=sizeLine:=by rw[YAO,<-hl];exact z
 have hc0:¬(!Builtin.List.listFitsIndex k)=true:=by rw[fi];exact YAC
 generalize hA:its.toArray=AA at e hsz;have mm:=PySem.AutoSeq1.list_insert_list_int_val_1 l AA n k t w hc0 hsz;refine call_meets F.slot_list_insert ⟨_,e,rfl⟩ F.entry_list_insert (F.args_list_insert_3 _ _ _) mm ⟨e,?_⟩;subst hA ek;refine⟨.non,_,I.lset (its':=its.take i++[w]++its.drop i) hH e ?_ ?_ ?_,rfl,q⟩
 .show (its.toArray.extract 0 (if ((i:Nat):Int)<0 then (((i:Nat):Int)+(its.toArray.size:Int)).toNat else min ((i:Nat):Int).toNat its.toArray.size)).push w++its.toArray.extract (if ((i:Nat):Int)<0 then (((i:Nat):Int)+(its.toArray.size:Int)).toNat else min ((i:Nat):Int).toNat its.toArray.size)=_;rw[YAJ (by lia),YCJ,YAO,YBg (by lia)];apply Array.toList_inj.mp;simp;exact YAv (by rw[YAp];lia)
 .exact((r.take i).append (.cons rw' .nil)).append (r.drop i)
 .rw[YAG,YAG,YAW,YAp,YBF,sizeLine_eq];lia
end
open PySem.W (Frag)
section
end
theorem Zgw:∀(j a b:Nat),b % 2=1->2 ^ j∣a*b->2 ^ j∣a
 | 0,a,b,_,_=>⟨a,by simp⟩
 | j+1,a,b,hb,⟨c,hc⟩=>by
  have ev:a % 2=0:=by
   have h2:a*b % 2=0:=by rw[hc,YCR,YBY,YCm,YBY];exact Nat.mul_mod_right 2 _
   rw[Nat.mul_mod,hb]at h2;lia
  obtain⟨a',rfl⟩:∃a',a=2*a':=⟨a/2,by lia⟩;have h3:2*(a'*b)=2*(2 ^ j*c):=by rw[<-YBY,hc,YCR,YCm (2 ^ j) 2,YBY]
  obtain⟨d,hd⟩:=Zgw j a' b hb ⟨c,Nat.eq_of_mul_eq_mul_left (by decide) h3⟩;exact⟨d,by rw[hd,YCR,YCm (2 ^ j) 2,YBY]⟩
theorem Ze9:∀n:Nat,∃e,5 ^ n=4*e+1
 | 0=>⟨0,rfl⟩
 | n+1=>by obtain⟨e,he⟩:=Ze9 n;exact⟨5*e+1,by rw[YCR,he];lia⟩
theorem ZhJ:∀(k n c:Nat),5 ^ n=2 ^ (k+2)*c+1->2 ^ k∣n
 | 0,n,c,_=>⟨n,by simp⟩
 | k+1,n,c,h=>by
  obtain⟨e,he⟩:=Ze9 (n/2);have sq:5 ^ (2*(n/2))=8*(e*(2*e+1))+1:=by
   rw[Nat.pow_mul',he];have:(4*e+1) ^ 2=8*(e*(2*e+1))+1:=by
    rw[YCR,Nat.pow_one,Nat.mul_add e,Nat.mul_one,Nat.mul_add (4*e+1),Nat.mul_one,Nat.add_mul,Nat.one_mul,Nat.mul_left_comm e 2 e];have:4*e*(4*e)=16*(e*e):=by rw[Nat.mul_mul_mul_comm]
    rw[this];lia
   exact this
  have p3:2 ^ (k+1+2)=8*2 ^ k:=by rw[show k+1+2=k+3 from rfl,Nat.pow_add,YCm]
  rw[p3]at h;by_cases ev:n % 2=0
  .have en:2*(n/2)=n:=by lia
   rw[en,h,YBY]at sq;have:2 ^ k*c=e*(2*e+1):=by lia
   obtain⟨d,hd⟩:=Zgw k e (2*e+1) (by lia) ⟨c,this.symm⟩;have:=ZhJ k (n/2) d (by rw[he,hd,Nat.pow_add];rw[show (2:Nat) ^ 2=4 from rfl,YCm (2 ^ k) 4,YBY]);obtain⟨q,hq⟩:=this;exact⟨q,by rw[YCR,YCm (2 ^ k) 2,YBY,<-hq];exact en.symm⟩
  .exfalso;have en:n=2*(n/2)+1:=by lia
   rw[en,YCR,sq,YBY]at h;lia
noncomputable def hop (N:Nat):Nat->Nat->Nat
 | 0,i=>i
 | n+1,i=>hop N n ((i*5+1) % N)
theorem Zju {N:Nat}(hN:0<N):∀(n i:Nat),i<N->hop N n i<N
 | 0,i,h=>h
 | n+1,i,h=>Zju hN n _ (Nat.mod_lt _ hN)
theorem Zjv {N:Nat}:∀(a b i:Nat),hop N (a+b) i=hop N b (hop N a i)
 | 0,b,i=>by rw[Nat.zero_add];rfl
 | a+1,b,i=>by rw[Nat.add_right_comm];exact Zjv a b _
theorem ZhD {N:Nat}:∀(n i:Nat),∃c d,4*hop N n i+1+4*N*c=5 ^ n*(4*i+1)+4*N*d
 | 0,i=>⟨0,0,by simp[hop]⟩
 | n+1,i=>by
  obtain⟨c,d,h⟩:=ZhD (N:=N) n ((i*5+1) % N);have e:=Nat.div_add_mod (i*5+1) N;refine⟨c+5 ^ n*((i*5+1)/N),d,?_⟩;show 4*hop N n ((i*5+1) % N)+1+4*N*(c+5 ^ n*((i*5+1)/N))=_;have h5:5 ^ (n+1)*(4*i+1)=5 ^ n*(4*(i*5+1)+1):=by rw[YCR,YBY];congr 1;lia
  have h6:5 ^ n*(4*(i*5+1)+1)=5 ^ n*(4*((i*5+1) % N)+1)+4*N*(5 ^ n*((i*5+1)/N)):=by
   have:4*(i*5+1)+1=(4*((i*5+1) % N)+1)+4*(N*((i*5+1)/N)):=by lia
   rw[this,Nat.mul_add];congr 1;rw[Nat.mul_left_comm,YBY 4 N,Nat.mul_left_comm (5 ^ n) N]
  rw[h5,h6,Nat.mul_add];lia
theorem ZkL (hi:i<2 ^ k)(h:hop (2 ^ k) n i=i):2 ^ k∣n:=by
 obtain⟨c,d,e⟩:=ZhD (N:=2 ^ k) n i;rw[h]at e;obtain⟨q,hq⟩:=Ze9 n;rw[hq,Nat.add_mul,Nat.one_mul]at e;have e2:2 ^ k*c=q*(4*i+1)+2 ^ k*d:=by have a1:4*2 ^ k*c=4*(2 ^ k*c):=YBY _ _ _;have a2:4*2 ^ k*d=4*(2 ^ k*d):=YBY _ _ _;have a3:4*q*(4*i+1)=4*(q*(4*i+1)):=YBY _ _ _;lia
 have dv:2 ^ k∣q*(4*i+1):=(Nat.dvd_add_iff_left ⟨d,rfl⟩).mpr ⟨c,e2.symm⟩;obtain⟨r,hr⟩:=Zgw k q (4*i+1) (by lia) dv;refine ZhJ k n r ?_;rw[hq,hr,Nat.pow_add,show (2:Nat) ^ 2=4 from rfl,YCm (2 ^ k) 4,YBY]
theorem Zi3 {N:Nat}{l:Q11}(nd:l.Nodup)(hl:l.length=N)(hb:∀x∈l,x<N){j:Nat}(hj:j<N):j∈l:=by
 refine Classical.byContradiction λn=>?_;have len:∀(l m:Q11),l.Nodup->(∀x∈l,x∈m)->l.length<=m.length:=by
  intro l;induction l with
  | nil=>intro m _ _;exact YAt _
  | cons x l ih=>
   intro m nd h;have hx:=h x YAd;have nd':=YBT.mp nd;have:=ih (m.erase x) nd'.2 λy hy=>(YDa (λe=>by rw[e]at hy;exact nd'.1 hy)).mpr (h y (YAV _ hy));rw[List.length_erase_of_mem hx]at this;have pos:0<m.length:=List.length_pos_of_mem hx;rw[YAf];lia
 have:=len (j::l) (List.range N) (YBT.mpr ⟨n,nd⟩) λx hx=>by
  rcases YAH.mp hx with z | z
  .rw[z];exact YAw.mpr hj
  .exact YAw.mpr (hb x z)
 rw[YAf,YBM]at this;lia
theorem ZmJ (hi:i<2 ^ k)(hj:j<2 ^ k):∃n,n<2 ^ k/\hop (2 ^ k) n i=j:=by
 have pos:0<2 ^ k:=Nat.two_pow_pos k;have lt:∀a b,a<b->b<2 ^ k->hop (2 ^ k) a i≠hop (2 ^ k) b i:=λa b ab bl e=>by
  have:b=a+(b-a):=by lia
  rw[this,Zjv]at e;have dv:=ZkL (Zju pos a i hi) e.symm;have:=Nat.le_of_dvd (by lia) dv;lia
 have nd:((List.range (2 ^ k)).map λn=>hop (2 ^ k) n i).Nodup:=by unfold List.Nodup;rw[YBS];exact List.Pairwise.imp_of_mem (λ{a b} ha hb (h:a<b)=>lt a b h (YAw.mp hb)) (List.pairwise_lt_range (n:=2 ^ k))
 have:=Zi3 nd (by simp) (λx hx=>by obtain⟨n,_,rfl⟩:=YAa.mp hx;exact Zju pos n i hi) hj
 obtain⟨n,hn,e⟩:=YAa.mp this;exact⟨n,YAw.mp hn,e⟩
section
theorem ZnL (mask i:Nat):0<SetTable.runEnd mask i+1-i:=by unfold SetTable.runEnd;split<;>lia
theorem ZfZ {A0 i p:Nat}{R:Option Nat->Prop}(h1:∀x,owner.getD x (some 0)=none->R (some x))(h2:owner.getD i (some 0)≠none->R (SetTable.layClean.free mask owner A0 ((i*5+1+p/32) % (mask+1)) (p/32))):
  R (SetTable.layClean.free mask owner (A0+1) i p):=by
 unfold SetTable.layClean.free;cases hf:(List.range (SetTable.runEnd mask i+1-i)).find? λk=>(owner.getD (i+k) (some 0)).isNone with
 | some d=>
  have:=List.find?_some hf;exact h1 (i+d) (Option.isNone_iff_eq_none.mp this)
 | none=>
  refine h2 λe=>?_;have:=List.find?_eq_none.mp hf 0 (YAw.mpr (ZnL mask i));rw[Nat.add_zero,e]at this;exact this rfl
theorem ZfY (hj:owner.getD j (some 0)=none):∀(A0 n i:Nat),n<A0->hop (mask+1) n i=j->∃x,SetTable.layClean.free mask owner A0 i 0=some x/\owner.getD x (some 0)=none
 | 0,n,i,h,_=>absurd h (Nat.not_lt_zero _)
 | A0+1,n,i,h,e=>by
  refine ZfZ (R:=λr=>∃x,r=some x/\owner.getD x (some 0)=none) (λx hx=>⟨x,rfl,hx⟩) λne=>?_;cases n with
  | zero=>exact absurd (by rw[show i=j from e];exact hj) ne
  | succ n=>exact ZfY hj A0 n _ (by lia) e
theorem Zjz (hk:mask+1=2 ^ k)(hj:owner.getD j (some 0)=none)(hl:j<mask+1):∀(c A0 i p:Nat),p<32 ^ c->c+mask+1<=A0->i<mask+1->∃x,SetTable.layClean.free mask owner A0 i p=some x/\owner.getD x (some 0)=none
 | 0,A0,i,p,hp,hf,hi=>by
  have:p=0:=by simpa using hp
  subst this;obtain⟨n,hn,e⟩:=ZmJ (k:=k) (i:=i) (j:=j) (by lia) (by lia);rw[<-hk]at e hn;exact ZfY hj A0 n i (by lia) e
 | c+1,0,i,p,hp,hf,hi=>by lia
 | c+1,A0+1,i,p,hp,hf,hi=>by refine ZfZ (R:=λr=>∃x,r=some x/\owner.getD x (some 0)=none) (λx hx=>⟨x,rfl,hx⟩) λ_=>?_;exact Zjz hk hj hl c A0 _ _ (Nat.div_lt_of_lt_mul (by rw[YCR,YCm]at hp;exact hp)) (by lia) (Nat.mod_lt _ (Nat.succ_pos _))
theorem Zf0:∀ {l:List (Option Nat)},(l.filterMap id).length<l.length->∃j:Nat,l[j]?=some none
 | [],h=>by simp at h
 | none::l,_=>⟨0,rfl⟩
 | some x::l,h=>by have e:(some x::l).filterMap id=x::l.filterMap id:=rfl;rw[e,YAf,YAf]at h;obtain⟨j,e⟩:=Zf0 (l:=l) (by lia);exact⟨j+1,e⟩
theorem Znz {l:List (Option Nat)}{j x:Nat}(h:l[j]?=some none):((l.set j (some x)).filterMap id).Perm (l.filterMap id++[x]):=by
 obtain⟨hj,e⟩:=YAU.mp h;have e1:l=l.take j++none::l.drop (j+1):=by
  conv=>lhs;rw[<-YAu j l,YCz hj,e]
 have e2:l.set j (some x)=l.take j++some x::l.drop (j+1):=by rw[List.set_eq_take_append_cons_drop,YAM hj]
 have e3:l.filterMap id=(l.take j).filterMap id++(l.drop (j+1)).filterMap id:=by
  conv=>lhs;rw[e1]
  rw[List.filterMap_append];rfl
 have e4:(some x::l.drop (j+1)).filterMap id=x::(l.drop (j+1)).filterMap id:=rfl;rw[e2,e3,List.filterMap_append,e4,YAj];exact(List.perm_append_singleton x _).symm.append_left _
noncomputable def layF (mask:Nat)(acc:Option (Array (Option Nat)×Nat))(h:Int):Option (Array (Option Nat)×Nat):=do
 let (owner,k) <-acc
 let j <-SetTable.layClean.free mask owner (SetTable.turns mask) (SetTable.bits h % (mask+1)) (SetTable.bits h)
 pure (owner.setIfInBounds j (some k),k+1)
theorem Zhw (hk:mask+1=2 ^ k):∀(hs:List Int) (owner:Array (Option Nat)) (n:Nat),owner.size=mask+1->(owner.toList.filterMap id).Perm (List.range n)->n+hs.length<=mask+1 ->
  ∃o',hs.foldl (layF mask) (some (owner,n))=some (o',n+hs.length)/\o'.size=mask+1/\(o'.toList.filterMap id).Perm (List.range (n+hs.length))
 | [],owner,n,h1,h2,_=>⟨owner,rfl,h1,h2⟩
 | h::hs,owner,n,h1,h2,h3=>by
  rw[YAf]at h3;obtain⟨j,hj⟩:=Zf0 (l:=owner.toList) (by rw[h2.length_eq,YBM,YAF];lia);have jl:j<mask+1:=by have:=(YAU.mp hj).1;rw[YAF]at this;lia
  have hjd:owner.getD j (some 0)=none:=by rw[YAr]at hj;rw[Array.getD_eq_getD_getElem?,hj];rfl
  have bl:SetTable.bits h<32 ^ 13:=by
   unfold SetTable.bits;have a1:=YBX h (show (2 ^ 64:Int)≠0 by decide);have a2:=YBP h (show (0:Int)<2 ^ 64 by decide);have:(32:Nat) ^ 13=36893488147419103232:=by decide
   rw[this];lia
  obtain⟨x,hx,hn⟩:=Zjz hk hjd jl 13 (SetTable.turns mask) (SetTable.bits h % (mask+1)) (SetTable.bits h) bl (by unfold SetTable.turns;lia) (Nat.mod_lt _ (Nat.succ_pos _));have hx2:owner.toList[x]?=some none:=by
   rw[Array.getD_eq_getD_getElem?]at hn;rw[YAr];cases e:owner[x]? with
   | none=>rw[e]at hn;cases hn
   | some v=>rw[e]at hn;exact congrArg some hn
  have st:layF mask (some (owner,n)) h=some (owner.setIfInBounds x (some n),n+1):=by show (SetTable.layClean.free mask owner (SetTable.turns mask) (SetTable.bits h % (mask+1)) (SetTable.bits h) >>= λj=>pure (owner.setIfInBounds j (some n),n+1))=_;rw[hx];rfl
  rw[YBy,st,YAf,show n+(hs.length+1)=n+1+hs.length by lia];refine Zhw hk hs _ (n+1) (by rw[Array.size_setIfInBounds];exact h1) ?_ (by lia);rw[YCv,YBo];exact(Znz hx2).trans (h2.append_right [n])
theorem ZoB (hk:mask+1=2 ^ k)(hn:hs.size<=mask+1):∃o,SetTable.layClean mask hs=some o/\o.size=mask+1/\(o.toList.filterMap id).Perm (List.range hs.size):=by obtain⟨o,e,h1,h2⟩:=Zhw (k:=k) hk hs.toList (Array.replicate (mask+1) none) 0 (by simp) (by simp) (by rw[YAF];lia);refine⟨o,?_,h1,by rw[Nat.zero_add,YAF]at h2;exact h2⟩;unfold SetTable.layClean;rw[<-Array.foldl_toList];show (hs.toList.foldl (layF mask) (some (Array.replicate (mask+1) none,0))).map (·.1)=some o;rw[e];rfl
theorem Zjf {hs:Array Int}{finger moves:Nat}{led plain:Bool}(hk:mask+1=2 ^ k)(hn:hs.size<=mask+1):∃t order,SetTable.laid mask finger moves led plain hs=some (t,order)/\order.toList.Perm (List.range hs.size)/\t.mask=mask/\t.place.size=hs.size/\t.dummies=#[]/\t.led=led/\t.plain=plain:=by
 obtain⟨o,e,h1,h2⟩:=ZoB (hs:=hs) hk hn;have e3:((List.range (mask+1)).filterMap λj=>(o.getD j none).map (j,·)).map (·.2)=o.toList.filterMap id:=by
  have e4:o.toList=(List.range (mask+1)).map λj=>o.getD j none:=by
   apply YCO (by simp[h1]);intro i a b;have:i<o.size:=by simpa using a
   simp[Array.getD_eq_getD_getElem?,this]
  rw[e4,List.filterMap_map,List.map_filterMap];congr 1;funext j;show _=o.getD j none;cases o.getD j none<;>rfl
 refine⟨{ mask,place:=(((List.range (mask+1)).filterMap λj=>(o.getD j none).map (j,·)).map (·.1)).toArray,dummies:=#[],finger,led,moves,plain },(((List.range (mask+1)).filterMap λj=>(o.getD j none).map (j,·)).map (·.2)).toArray,?_,?_,rfl,?_,rfl,rfl,rfl⟩
 .unfold SetTable.laid;rw[e];rfl
 .rw[List.toList_toArray,e3];exact h2
 .have:=congrArg List.length e3;rw[YAB,h2.length_eq,YBM]at this;rw[YAO,YAB];exact this
end
theorem Zgl (n:Nat):∀(A0 size:Nat),(∃k,size=2 ^ k)->∃k,SetTable.sizeAbove.go n A0 size=2 ^ k
 | 0,size,h=>h
 | A0+1,size,⟨k,h⟩=>by
  unfold SetTable.sizeAbove.go;split
  .exact Zgl n A0 _ ⟨k+1,by rw[h,YCR]⟩
  .exact⟨k,h⟩
theorem ZhT (n:Nat):∀(A0 size:Nat),n<size*2 ^ A0->n<SetTable.sizeAbove.go n A0 size
 | 0,size,h=>by simpa [SetTable.sizeAbove.go] using h
 | A0+1,size,h=>by
  unfold SetTable.sizeAbove.go;split
  .exact ZhT n A0 _ (by rw[YCR]at h;rw[YBY,YCm 2];exact h)
  .lia
theorem ZhS (n:Nat):∀(A0 size:Nat),SetTable.sizeAbove.go n A0 size<=max size (2*n)
 | 0,size=>by unfold SetTable.sizeAbove.go;lia
 | A0+1,size=>by
  unfold SetTable.sizeAbove.go;split
  .have:=ZhS n A0 (size*2);lia
  .lia
theorem Zdb {α:Type}{es:Array α}{order:Array Nat}(h:order.toList.Perm (List.range es.size)):(order.filterMap (es[·]?)).toList.Perm es.toList:=by rw[Array.toList_filterMap];exact(h.filterMap _).trans (by rw[filterMap_getElem?_range])
theorem Zhj {h:Heap}{a:AE}{ob:Obj}{xs ys:Array (Int×Value)}{n:Nat}{t t':SetTable}(h1:h.get? a=some ob)(h2:ob.data=.set xs n t):(h.update a (Obj.putSet ys t')).get? a=some { ob with data:=.set ys (n+1) t' }:=by
 have q:=YBz (Obj.putSet ys t') h1 (by rw[putSet_of ys t' h2];rfl)
 rwa [putSet_of ys t' h2]at q
section
theorem Zep {es:Array (Int×Value)}{t:SetTable}{order:Array Nat}{Q:Array (Int×Value)×SetTable->AF->Prop}(h:order.toList.Perm (List.range es.size))(q:Q (order.filterMap (es[·]?),t) s):
  wpAny (model prog w) A (do
   let some (t,order):=some (t,order) | unsupported "internal:set-table-without-room"
   let es':=order.filterMap (es[·]?)
   if es'.size != es.size then unsupported "internal:set-table-lost-an-element"
   pure (es',t)) Q E s:=by
 have p:=Zdb h;have z:(order.filterMap (es[·]?)).size=es.size:=by rw[<-YAF,p.length_eq,YAF]
 show wpAny _ A (if ((order.filterMap (es[·]?)).size != es.size)=true then _ else _) _ _ _;rw[z,bne_self_eq_false,YAJ YAC];exact YAD q
theorem Zkg (ho:s.heap.get? r=some (Zcb led))(hn:n<scanBound)
  (h:∀h' ep t,Heap.SameBut r s.heap h'->h'.get? r=some { Zcb led with data:=.set #[] ep t }->t.fits 0=true->t.fill=0->t.led=led->t.plain=true->(∃k,t.mask+1=2 ^ k)->n<=t.mask->Q () { s with heap:=h' }):
  wpAny (model prog w) A (setRoomFor r n) Q E s:=by
 have n4:n<4096:=hn;have hd:(Zcb led).data=.set #[] 0 (.fresh 0 0 led):=rfl;have hf:(SetTable.fresh 0 0 led).fits (#[]:Array (Int×Value)).size=true:=rfl;unfold setRoomFor;refine YAA (YBG ho hd hf ?_);show wpAny _ A (match (SetTable.fresh 0 0 led).roomFor n with | some wanted=>setRelay r wanted | x=>pure PUnit.unit) _ _ _;have er:(SetTable.fresh 0 0 led).roomFor n=if (0+n)*5>=7*3 then some ((0+n)*2) else none:=rfl
 by_cases c:(0+n)*5>=7*3
 .rw[er,YAM c];show wpAny _ A (setRelay r ((0+n)*2)) _ _ _;have a1:=Zgl ((0+n)*2) 64 8 ⟨3,rfl⟩;have big:(8:Nat)*2 ^ 64=147573952589676412928:=by decide
  have a2:=ZhT ((0+n)*2) 64 8 (by rw[big];lia);have a3:=ZhS ((0+n)*2) 64 8;have a4:SetTable.sizeAbove ((0+n)*2)=SetTable.sizeAbove.go ((0+n)*2) 64 8:=rfl;rw[<-a4]at a1 a2 a3;unfold setRelay;refine YAA (YBG ho hd hf ?_);dsimp only;have hz:¬SetTable.sizeAbove ((0+n)*2)>sizeLine:=by
   have:40000<=sizeLine:=by rw[sizeLine_eq];decide
   lia
  rw[YAJ hz];obtain⟨k,hk⟩:=a1;obtain⟨t,order,e,pm,m1,m2,m3,m4,m5⟩:=Zjf (mask:=SetTable.sizeAbove ((0+n)*2)-1) (k:=k) (hs:=(#[]:Array (Int×Value)).map (·.1)) (finger:=0) (moves:=(SetTable.fresh 0 0 led).movedTo (SetTable.sizeAbove ((0+n)*2)-1)) (led:=led) (plain:=true) (by lia) (by simp);have e':(SetTable.fresh 0 0 led).relaid ((#[]:Array (Int×Value)).map (·.1)) ((0+n)*2)=some (t,order):=e;rw[e'];refine YAA (Zep (es:=#[]) (by simpa using pm) ?_);have oz:order.filterMap ((#[]:Array (Int×Value))[·]?)=#[]:=by have:=Zdb (es:=(#[]:Array (Int×Value))) (order:=order) (by simpa using pm);have l0:=this.length_eq;rw[YAF]at l0;exact Array.eq_empty_of_size_eq_zero (by simpa using l0)
  rw[oz];have z0:t.place.size=0:=by simpa using m2
  have tf:t.fill=0:=by unfold SetTable.fill;rw[z0,m3];rfl
  refine YCr ho hd ?_ (fits_of_scanBound (by show 0<4096;decide));refine h _ _ t (YAn _ _ _) (Zhj ho hd) ?_ tf m4 m5 ⟨k,by rw[m1];lia⟩ (by rw[m1];lia);unfold SetTable.fits;rw[tf,z0];simp
 .rw[er,YAJ c];exact YAD (h s.heap 0 _ (YCt _ _) ho rfl rfl rfl rfl ⟨3,rfl⟩ (by show n<=7;lia))
theorem ZiG (ho:s.heap.get? r=some (Zcb led))(hS:TxSet prog w s.heap S ls led)(ne:r≠S)
  (h:∀h',Heap.SameBut r s.heap h'->TxSet prog w h' r ls led->Q () { s with heap:=h' }):wpAny (model prog w) A (setMerge r S each) Q E s:=by
 obtain⟨o,es,ep,t,ms,hg,hex,hd,hel,hf,hled,hpl,hp,hv,hb⟩:=hS;have Au:es.size=ls.length:=by have q:=hv.length;rw[YAB,YAB]at q;rw[<-YAF,<-q,hp.length_eq]
 unfold setMerge;have e0:(r == S)=false:=by simpa using ne
 rw[e0,YAJ YAC];refine YAA (YBG hg hd hf ?_);dsimp only;by_cases z:es.isEmpty=true
 .rw[YAM z];have:ls=[]:=YCZ.mp (by rw[<-Au];simpa using z);subst this;exact YAD (h s.heap (YCt _ _) (Zfs ho))
 rw[YAJ z];have npl:t.plain=false:=by
  cases e:t.plain with
  | false=>rfl
  | true=>exact absurd (by simpa using hpl e) z
 refine YAA (Zkg ho hb λh1 ep1 t1 sb1 g1 f1 fl1 l1 p1 k1 n1=>?_);refine YAA (YBG (o:={ Zcb led with data:=.set #[] ep1 t1 }) g1 rfl f1 ?_);dsimp only;have fin:∀(es':Array (Int×Value)) (t':SetTable),es'.toList.Perm es.toList->t'.fits es'.size=true->t'.led=led->t'.plain=false->wpAny (model prog w) A (storeSet r es' t') Q E { s with heap:=h1 }:=λes' t' pm ft lt pt=>by
  have sz:es'.size=es.size:=by rw[<-YAF,pm.length_eq,YAF]
  refine YCr g1 rfl ?_ (fits_of_scanBound (by rw[sz];exact hb));obtain⟨ms',pm',hv'⟩:=Zcd (us:=es.toList.map (·.2)) (us':=es'.toList.map (·.2)) (pm.map _) hv;exact h _ (sb1.trans (YAn _ _ _)) ⟨_,es',_,t',ms',Zhj g1 rfl,⟨rfl,rfl,rfl⟩,rfl,hel.perm pm,ft,lt,λe=>(by rw[pt]at e;cases e),pm'.trans hp,hv',by rw[sz];exact hb⟩
 unfold SetTable.road;rw[fl1,bne_self_eq_false,YAJ YAC];by_cases c2:(t1.mask == t.mask&&t.dummies.isEmpty)=true
 .rw[YAM c2];dsimp only;exact fin es _ (.refl _) hf (by show (t1.led&&t.led)=led;rw[l1,hled,Bool.and_self]) (by show (t1.plain&&t.plain)=false;rw[npl,YBn])
 .rw[YAJ c2];dsimp only;obtain⟨k,hk⟩:=k1;obtain⟨t2,order,e,pm,m1,m2,m3,m4,m5⟩:=Zjf (mask:=t1.mask) (k:=k) (hs:=es.map (·.1)) (finger:=t1.finger) (moves:=t1.moves) (led:=t1.led&&t.led) (plain:=t1.plain&&t.plain) hk (by rw[Array.size_map];lia);rw[e];rw[Array.size_map]at pm m2;refine YAA (Zep pm ?_);have pp:=Zdb pm;have sz:(order.filterMap (es[·]?)).size=es.size:=by rw[<-YAF,pp.length_eq,YAF]
  refine fin _ t2 pp ?_ (by rw[m4,l1,hled,Bool.and_self]) (by rw[m5,npl,YBn]);unfold SetTable.fits SetTable.fill;rw[m1,m2,m3,sz];simp;lia
end
theorem ZcB (xs:Array α)(i:Nat):(SetTable.eraseAt xs i).toList=xs.toList.eraseIdx i:=by rw[List.eraseIdx_eq_take_drop_succ];simp[SetTable.eraseAt,List.extract_eq_take_drop,YAv]
theorem ZgO (xs:Array α)(p:Nat)(x:α):(SetTable.insertAt xs p x).size=xs.size+1:=by have:=(SetTable.insertAt_perm xs p x).length_eq;rw[YAF,YAF,Array.size_push]at this;exact this
theorem Zej:∀ {vs:List V} {us:AD} (j:Nat),Vals vs us->Vals (vs.eraseIdx j) (us.eraseIdx j)
 | [],_,j,r=>by cases r;exact .nil
 | v::vs,us,j,r=>by
  cases r with
  | cons r1 r2=>
   cases j with
   | zero=>exact r2
   | succ j=>exact .cons r1 (Zej j r2)
theorem ZdU {α β:Type}(f:α->β):∀(l:List α) (j:Nat),(l.eraseIdx j).map f=(l.map f).eraseIdx j
 | [],j=>rfl
 | x::l,0=>rfl
 | x::l,j+1=>by show f x::(l.eraseIdx j).map f=f x::(l.map f).eraseIdx j;rw[ZdU f l j]
noncomputable def Zcq (ls:Q22)(l:Q11):Q22:=if l∈ls then ls.erase l else ls++[l]
noncomputable def xorT (a b:Q22):Q22:=a.filter (λx=>decide (x∉b))++b.filter (λx=>decide (x∉a))
theorem ZmP (h:ls.Nodup):(Zcq ls l).Nodup:=by
 unfold Zcq;split
 .exact h.erase l
 .rename_i n
  rw[YBv];refine⟨h,by simp,λa ha b hb e=>?_⟩;have:b=l:=by simpa using hb
  subst e this;exact n ha
theorem ZkU (h:ls.Nodup):x∈Zcq ls l↔(if x=l then l∉ls else x∈ls):=by
 unfold Zcq;by_cases e:x=l
 .subst e;rw[YAM rfl];split
  .rename_i hm
   exact⟨λz=>absurd z (h.not_mem_erase),λz=>absurd hm z⟩
  .rename_i hm
   exact⟨λ_=>hm,λ_=>by simp⟩
 .rw[YAJ e];split
  .exact YDa e
  .simp[e]
theorem ZkV:(Zcq ls l).length<=ls.length+1:=by
 unfold Zcq;split
 .exact Nat.le_succ_of_le (List.length_erase_le)
 .simp
theorem Zf2:∀(xs ls:Q22),ls.Nodup->xs.Nodup->(xs.foldl Zcq ls).Nodup/\∀y,y∈xs.foldl Zcq ls↔(if y∈xs then y∉ls else y∈ls)
 | [],ls,h,_=>⟨h,λy=>by simp⟩
 | x::xs,ls,h,hx=>by
  have hx':=YBT.mp hx;obtain⟨a,b⟩:=Zf2 xs (Zcq ls x) (ZmP h) hx'.2;refine⟨a,λy=>?_⟩;rw[YBy,b y,ZkU h];by_cases e:y=x
  .subst e;rw[YAJ hx'.1,YAM rfl,YAM YAd]
  .rw[YAJ e];by_cases m:y∈xs
   .rw[YAM m,YAM (YAV _ m)]
   .rw[YAJ m,YAJ (λz=>by rcases YAH.mp z with q | q;exact e q;exact m q)]
theorem ZkT {xs a b:Q22}(ha:a.Nodup)(hb:b.Nodup)(p:xs.Perm a):(xs.foldl Zcq b).Perm (xorT a b):=by
 obtain⟨h1,h2⟩:=Zf2 xs b hb (p.nodup_iff.mpr ha);have nd:(xorT a b).Nodup:=by unfold xorT;rw[YBv];refine⟨ha.filter _,hb.filter _,λx hx y hy e=>?_⟩;subst e;have:=(YAy.mp hx).2;exact absurd (YAy.mp hy).1 (of_decide_eq_true this)
 refine(List.perm_ext_iff_of_nodup h1 nd).mpr λy=>?_;have mx:y∈xs↔y∈a:=p.mem_iff;rw[h2];unfold xorT;rw[YAR,YAy,YAy,decide_eq_true_iff,decide_eq_true_iff];by_cases m:y∈a
 .rw[YAM (mx.mpr m)];simp[m]
 .rw[YAJ (λz=>m (mx.mp z))];simp[m]
theorem ZmR {t:SetTable}{n:Nat}(h1:t.place.size=n)(h2:t.fill<=t.mask):t.fits n=true:=by unfold SetTable.fits;rw[h1,decide_eq_true h2];simp
theorem TxSet.perm (x:TxSet P w h a ls led)(p:ls.Perm ls'):TxSet P w h a ls' led:=by obtain⟨o,es,ep,t,ms,h1,h2,h3,h4,h5,h6,h7,h8,r⟩:=x;exact⟨o,es,ep,t,ms,h1,h2,h3,h4,h5,h6,h7,h8.trans p,r⟩
section
theorem ZgC (hS:TxSet prog w s.heap a ls led)
  (h1:∀h',Heap.SameBut a s.heap h'->l∈ls->TxSet prog w h' a (ls.erase l) led->Q true { s with heap:=h' }) (h2:l∉ls->Q false s):
  wpAny (model prog w) A (setDiscardHashed a (.str ⟨l.toArray⟩ tk) (keyH w (Sum.inr ⟨l.toArray⟩))) Q E s:=by
 obtain⟨o,es,ep,t,ms,ho,hex,hd,hel,hf,hled,hpl,hp,hv,hb⟩:=hS;have hkey:(ZaB prog w).is (Sum.inr (⟨l.toArray⟩:Str)) (.str ⟨l.toArray⟩ tk)=true:=ZcK prog w _ _;have hsc:(Value.str ⟨l.toArray⟩ tk).scannable=true:=rfl;have mem:=ZeK (l:=l) hv;have hl:l∈ms↔l∈ls:=hp.mem_iff;unfold setDiscardHashed setFind setFindIn;refine YAA (YAA (YBG ho hd hf ?_));dsimp only;rw[byScan_of hsc hb hel,YAM rfl];refine YAA (YBs (YAA (wpAny_setScan_of (knd:=ZaB prog w) (k:=Sum.inr (⟨l.toArray⟩:Str)) hkey ho hd hf hel ?_)));cases hr:List.findIdx? (λe=>(ZaB prog w).is (Sum.inr (⟨l.toArray⟩:Str)) e.2) es.toList with
 | none=>
  dsimp only;have hnin:l∉ls:=λz=>by obtain⟨e,he,hk⟩:=mem.mpr (hl.mpr z);have q:=List.findIdx?_eq_none_iff.mp hr e he;rw[show (ZaB prog w).is (Sum.inr (⟨l.toArray⟩:Str)) e.2=true from hk]at q;cases q
  exact YAD (YAD (h2 hnin))
 | some j=>
  dsimp only;obtain⟨hj,hpj,_⟩:=List.findIdx?_eq_some_iff_getElem.mp hr;have hin:l∈ls:=hl.mp (mem.mp ⟨es.toList[j],YCE hj,hpj⟩);have hj':j<es.size:=by simpa using hj
  refine YAD ?_;rw[Nat.zero_add];refine YAA (YBG ho hd hf ?_);dsimp only;have mj:ms[j]?=some l:=by
   have e1:(es.toList.map (·.2))[j]?=some es.toList[j].2:=by rw[YAQ,YAL hj];rfl
   obtain⟨v,hv1,rv⟩:=ZeL hv e1;rw[YAQ]at hv1;cases q:ms[j]? with
   | none=>rw[q]at hv1;cases hv1
   | some m=>
    rw[q]at hv1;cases hv1;have:=ZoN (l:=l) rv ⟨m,rfl⟩;rw[show ZcY (Sum.inr (⟨l.toArray⟩:Str):Key) es.toList[j].2=true from hpj,Zcr]at this;rw[of_decide_eq_true this.symm]
  obtain⟨jm,em⟩:=YAU.mp mj;have sz:(SetTable.eraseAt es j).size=es.size-1:=by rw[<-YAF,ZcB,YCM hj,YAF]
  have hfit:t.place.size=es.size/\t.fill<=t.mask:=by simp only[SetTable.fits,YAX,beq_iff_eq,decide_eq_true_eq]at hf;exact hf
  have td:(t.drop j).fits (SetTable.eraseAt es j).size=true/\(t.drop j).led=t.led/\(t.drop j).plain=t.plain:=by
   unfold SetTable.drop;have e:t.place[j]?=some (t.place[j]'(by lia)):=getElem?_pos _ _ (by lia);rw[e];have ps:(SetTable.eraseAt t.place j).size=es.size-1:=by rw[<-YAF,ZcB,YCM (by rw[YAF];lia),YAF,hfit.1]
   have h2:=hfit.2;unfold SetTable.fill at h2;refine⟨ZmR (ps.trans sz.symm) ?_,rfl,rfl⟩;show (SetTable.eraseAt t.place j).size+(SetTable.insertAt t.dummies (SetTable.below t.dummies (t.place[j]'(by lia))) (t.place[j]'(by lia))).size<=t.mask;rw[ps,ZgO];lia
  refine YAA (YCr ho hd (YAA (wpAny_point (YAD (h1 _ (YAn _ _ _) hin ?_)))) (fits_of_scanBound (by rw[sz];lia)));refine⟨_,SetTable.eraseAt es j,_,t.drop j,ms.eraseIdx j,Zhj ho hd,hex,rfl,λe he=>hel e (List.mem_of_mem_eraseIdx (by rw[<-ZcB];exact he)),td.1,td.2.1.trans hled,λe=>by rw[td.2.2]at e;have:=hpl e;rw[sz];lia,?_,?_,by rw[sz];lia⟩
  .have p1:(l::ms.eraseIdx j).Perm ms:=by have:=ZcA ms j jm;rw[em]at this;exact this
   exact(p1.trans (hp.trans (List.perm_cons_erase hin))).cons_inv
  .rw[ZcB,ZdU,ZdU];exact Zej j hv
end
section
theorem ZiP {es:List (Int×Value)}{ms:Q22}(hv:Vals (ms.map tx) (es.map (·.2))){e:Int×Value}(he:e∈es):∃l t,l∈ms/\e.2=.str ⟨l.toArray⟩ t:=by
 obtain⟨i,hi,rfl⟩:=YBw he;have e1:(es.map (·.2))[i]?=some es[i].2:=by rw[YAQ,YAL hi];rfl
 obtain⟨v,hv1,rv⟩:=ZeL hv e1;rw[YAQ]at hv1;cases q:ms[i]? with
 | none=>rw[q]at hv1;cases hv1
 | some m=>
  rw[q]at hv1;cases hv1;obtain⟨t,ht⟩:=rv;exact⟨m,t,YAh q,ht⟩
theorem Zki (h:∀a∈ls,∃led l2,TxSet prog w s.heap a l2 led)(q:Q true s):wpAny (model prog w) A (setsQuiet ls) Q E s:=by
 unfold setsQuiet;refine YAA (YBZ (wpAny_forIn_list _ (λrest (b:Option Bool×Unit) s'=>s'=s/\(∀a∈rest,a∈ls)/\b=(none,())) (λ(b:Option Bool×Unit) s'=>s'=s/\b=(none,())) ?_ ?_ _ _ ⟨rfl,λa ha=>ha,rfl⟩) ?_ λ_ _ h'=>h')
 .rintro a rest b s' ⟨rfl,hm,rfl⟩;obtain⟨led,l2,o,es,ep,t,ms,hg,hex,hd,hel,hf,hled,hpl,hp,hv,hb⟩:=h a (hm a YAd);refine YAA (wpAny_setEntries_of hg hd hf ?_);refine YAA (YBZ (wpAny_forIn_array' _ (λrest (b:Option Bool×Unit) s2=>s2=s'/\(∀a∈rest,a∈es.toList)/\b=(none,())) (λ(b:Option Bool×Unit) s2=>s2=s'/\b=(none,())) ?_ ?_ _ _ ⟨rfl,λa ha=>ha,rfl⟩) ?_ λ_ _ h'=>h')
  .rintro⟨hx,x⟩ rest2 b s2 ⟨rfl,hm2,rfl⟩;obtain⟨l,tk,_,e⟩:=ZiP hv (hm2 _ YAd);have e':x=.str ⟨l.toArray⟩ tk:=e;subst e';exact YAD ⟨rfl,λa ha=>hm2 a (YAV _ ha),rfl⟩
  .rintro b s2 ⟨rfl,_,rfl⟩;exact⟨rfl,rfl⟩
  .rintro b s2 ⟨rfl,rfl⟩;exact YAD ⟨rfl,λa ha=>hm a (YAV _ ha),rfl⟩
 .rintro b s' ⟨rfl,_,rfl⟩;exact⟨rfl,rfl⟩
 .rintro b s' ⟨rfl,rfl⟩;exact YAD q
theorem Zgt (hS:TxSet prog w s.heap S lS (!ZaR w))(hr:TxSet prog w s.heap r lr (!ZaR w))(ne:r≠S)
  (h:∀(h':Heap) (es:Array (Int×Value)) (xs:Q22),Heap.SameBut r s.heap h'->TxSet prog w h' r lr (!ZaR w)->xs.Perm lS->Vals (xs.map tx) (es.toList.map (·.2))->ElemsOf (ZaB prog w) es.toList->Q es { s with heap:=h' }):
  wpAny (model prog w) A (setWalkUnseen S [r] (some r)) Q E s:=by
 obtain⟨o,es,ep,t,ms,hg,hex,hd,hel,hf,hled,hpl,hp,hv,hb⟩:=id hS;obtain⟨o2,es2,ep2,t2,ms2,hg2,hex2,hd2,hel2,hf2,hled2,hpl2,hp2,hv2,hb2⟩:=id hr;unfold setWalkUnseen;refine YAA (YBG hg hd hf ?_);dsimp only;unfold setsByText;refine YAA (YAA (YBq (YAD ?_)));show wpAny _ _ (if (ZaR w || t.led&&t.plain || decide (es.size<=1))=true then _ else _) _ _ _;by_cases c:(ZaR w || t.led&&t.plain || decide (es.size<=1))=true
 .rw[YAM c];unfold setWalk;refine YAA (YBG hg hd hf ?_);dsimp only;unfold setsByText;refine YAA (YAA (YBq (YAD ?_)));show wpAny _ _ (if ZaR w=true then _ else (if (!t.plain&&decide (es.size>1))=true then _ else _)) _ _ _;by_cases b:ZaR w=true
  .rw[YAM b];refine YAA (YBq (YAD ?_));have pp:=Zbq (next:=w.params.setOrder S ep) (xs:=es);obtain⟨ms',p',r'⟩:=Zcd (pp.map (·.2)) hv;exact h s.heap _ ms' (YCt _ _) hr (p'.trans hp) r' (hel.perm pp)
  .rw[YAJ b];have sm:es.size<=1:=by
    rw[YBc.mpr b,Bool.false_or,Bool.or_eq_true,YAX,decide_eq_true_iff]at c;rcases c with⟨_,z⟩ | z
    .rw[hpl z];exact YAt _
    .exact z
   have n1:decide (es.size>1)=false:=decide_eq_false (by lia);rw[n1,YBn,YAJ YAC];show wpAny _ _ ((if (!t.led&&decide (es.size>1))=true then (do let _ <-(unsupported "set:maker-not-led":Sem Unit);pure ()) else pure ()) >>= λ_=>_) _ _ _;rw[n1,YBn,YAJ YAC];exact YAA (YAD (YAD (h s.heap es ms (YCt _ _) hr hp hv hel)))
 .rw[YAJ c];have c':=YBc.mpr c;rw[Bool.or_eq_false_iff,Bool.or_eq_false_iff,decide_eq_false_iff_not]at c';refine YAA (Zki (s:=s) (λa ha=>?_) ?_)
  .rcases YAH.mp ha with z | z
   .rw[z];exact⟨_,_,hS⟩
   .rw[YAI.mp z];exact⟨_,_,hr⟩
  rw[YCb,YAJ YAC];refine YAA (YBs ?_);refine YAA (YBG hg2 hd2 hf2 ?_);dsimp only;split
  .have npl:t.plain=false:=by
    cases e:t.plain with
    | false=>rfl
    | true=>exact absurd (hpl e) (by lia)
   refine YAA (YCr hg2 hd2 (YAD ?_) (fits_of_scanBound hb2));refine h _ es ms (YAn _ _ _) ⟨_,es2,_,_,ms2,Zhj hg2 hd2,hex2,rfl,hel2,hf2,?_,λe=>?_,hp2,hv2,hb2⟩ hp hv hel
   .show (t2.led&&t.led)=_;rw[hled,hled2,Bool.and_self]
   .have e':(t2.plain&&t.plain)=true:=e;rw[npl,YBn]at e';cases e'
  .exact YAD (h s.heap es ms (YCt _ _) hr hp hv hel)
end
theorem Zfc:entryFor table "set.__xor__"=some Builtin.«frozenset.__xor__»:=entryFor_alias (id':="frozenset.__xor__") (by kernel_rfl) rfl (by decide +kernel) (by kernel_rfl)
section
theorem Zfm (h:TxSet prog w s.heap v ls led)(q:Q true s):wpAny (model prog w) A (Builtin.Frozenset.isAnySet (.ref v)) Q E s:=by unfold Builtin.Frozenset.isAnySet;refine YAA (YDU (T:="set") h.typ sub_set_self ?_);exact YAD q
theorem ZhG:∀(xs ls:Q22),(xs.foldl Zcq ls).length<=ls.length+xs.length
 | [],ls=>YAP _
 | x::xs,ls=>by have h1:=ZhG xs (Zcq ls x);have h2:=ZkV (ls:=ls) (l:=x);rw[YBy,YAf];lia
theorem Zka (hS:TxSet prog w s.heap r ls led)(hn:ls.length+1<scanBound)
  (h:∀h',Heap.SameBut r s.heap h'->TxSet prog w h' r (Zcq ls l) led->Q () { s with heap:=h' }):
  wpAny (model prog w) A (holding [.str ⟨l.toArray⟩ tk] (do
   if !(<-setDiscardHashed r (.str ⟨l.toArray⟩ tk) (keyH w (Sum.inr ⟨l.toArray⟩))) then
    let _ <-setAddHashed r (.str ⟨l.toArray⟩ tk) (keyH w (Sum.inr ⟨l.toArray⟩)))) Q E s:=by
 refine YBN (YAA (ZgC hS (λh' sb hin hS'=>?_) λhnin=>?_))
 .rw[YCb,YAJ YAC];refine YAD (h h' sb ?_);unfold Zcq;rw[YAM hin];exact hS'
 .rw[Bool.not_false,YAM rfl];refine YAA (ZiH hS hn λh' b sb hS'=>YAD (h h' sb ?_));unfold addT at hS';unfold Zcq;rw[YAJ hnin]at hS' ⊢;exact hS'
theorem ZlQ {x:Value}{h:Int}{l:Q11}{tk:Tok}{es:List (Int×Value)}(hel:ElemsOf (ZaB prog w) es)(hm:(h,x)∈es)(e:x=.str ⟨l.toArray⟩ tk):h=keyH w (Sum.inr ⟨l.toArray⟩):=by
 obtain⟨⟨k,hk,eh⟩,_⟩:=hel _ hm;subst e;have:k=Sum.inr ⟨l.toArray⟩:=by
  cases k with
  | inl n=>exact absurd (show ZcY (Sum.inl n:Key) (Value.str ⟨l.toArray⟩ tk)=true from hk) (by simp[ZcY,Value.isInt])
  | inr y=>
   have hk':ZcY (Sum.inr y:Key) (Value.str ⟨l.toArray⟩ tk)=true:=hk;simp only[ZcY,Value.isStrOf]at hk';have:(⟨l.toArray⟩:Str)=y:=by simpa using hk'
   rw[this]
 subst this;exact eh
theorem Zl4 (ha:TxSet prog w s.heap a la (!ZaR w))(hb:TxSet prog w s.heap b lb (!ZaR w))(na:la.Nodup)(nb:lb.Nodup)(ne:a≠b)(hn:la.length+lb.length+1<scanBound)
  (h:∀(h':Heap),(∀c o,s.heap.get? c=some o->h'.get? c=some o)->TxSet prog w h' s.heap.objs.size (xorT la lb) (!ZaR w)->Q (.ref s.heap.objs.size) { s with heap:=h' }):
  wpAny (model prog w) A (binaryOp .BitXor (.ref a) (.ref b)) Q E s:=by
 refine wpAny_binaryOp_same ha.typ hb.typ F.fills_set_xor F.slot_set_xor (YCc F.slot_set_xor ha.typ Zfc ?_ (F.args_set_xor_2 _ _));unfold Builtin.«frozenset.__xor__»;show wpAny _ _ (Builtin.Frozenset.slot1 "__xor__" ⟨[.ref a,.ref b],[]⟩ >>= _) _ _ _;unfold Builtin.Frozenset.slot1 slotArgs;simp only[List.isEmpty_nil,YCb,YCj,↓reduceIte,bind_assoc,YAf,YDH,bne_self_eq_false];refine YAA (YAD ?_);dsimp only;refine YAA (YAD ?_);dsimp only;refine YAA ?_;show wpAny _ _ (Builtin.Frozenset.isAnySet (.ref a) >>= _) _ _ _;refine YAA (Zfm ha ?_);show wpAny _ _ (Builtin.Frozenset.isAnySet (.ref b)) _ _ _;refine Zfm hb ?_;rw[YCb,YAJ YAC];refine YAA (show wpAny _ _ (Builtin.Frozenset.addrOf (.ref a)) _ _ _ from YAD ?_);refine YAA ?_;show wpAny _ _ (Builtin.Frozenset.baseOf a >>= λcls=>Builtin.Frozenset.newFrom (toString "frozenset."++toString "__xor__") cls (.ref b) >>= λresult=>Builtin.Frozenset.addrOf result >>= λx=>holding [result] (Builtin.Frozenset.symmetricDifferenceUpdate (toString "frozenset."++toString "__xor__") x (.ref a)) >>= λ_=>pure result) _ _ _;unfold Builtin.Frozenset.baseOf;refine YAA (YAA (YDU (T:="set") ha.typ sub_set_self (YAD ?_)));rw[YAM rfl];refine YAA ?_;unfold Builtin.Frozenset.newFrom newSet setsByText;refine YAA (YAA (YAA (YBq (YAD ?_))));dsimp only;simp only[newObj];refine YAA (wpAny_alloc (YAD ?_));have hN:(s.heap.push (Zcb (!ZaR w))).get? s.heap.objs.size=some (Zcb (!ZaR w)):=YAY _ rfl;have k1:∀c o,s.heap.get? c=some o->(s.heap.push (Zcb (!ZaR w))).get? c=some o:=λc o e=>YAE _ e;have la_:a<s.heap.objs.size:=by obtain⟨o,_,_,_,_,ho,_⟩:=ha;exact YAN ho
 have lb_:b<s.heap.objs.size:=by obtain⟨o,_,_,_,_,ho,_⟩:=hb;exact YAN ho
 have ha1:=ha.keep (k1 a);have hb1:=hb.keep (k1 b);show wpAny _ _ (Builtin.Frozenset.addrOf (.ref s.heap.objs.size) >>= _) _ _ { s with heap:=s.heap.push (Zcb (!ZaR w)) };generalize s.heap.push (Zcb (!ZaR w))=H1 at hN k1 ha1 hb1;refine YAA (show wpAny _ _ (Builtin.Frozenset.addrOf (.ref s.heap.objs.size)) _ _ _ from YAD ?_);refine YAA (YBN ?_);unfold Builtin.Frozenset.updateFrom;refine YAA (Zfm (s:={ s with heap:=H1 }) hb1 ?_);rw[YAM rfl];refine YAA (show wpAny _ _ (Builtin.Frozenset.addrOf (.ref b)) _ _ _ from YAD ?_);unfold Builtin.Frozenset.merge;obtain⟨ob,eb,epb,tb,msb,gb,exb,db,elb,fb,rb⟩:=id hb1;refine YAA (YDM gb db fb ?_);refine ZiG (s:={ s with heap:=H1 }) hN hb1 (YAk (YAe lb_)) λH2 sb2 hr2=>?_;have k2:∀c o,c≠s.heap.objs.size->H1.get? c=some o->H2.get? c=some o:=λc o n e=>(sb2.2 c n).trans e;have na_:a≠s.heap.objs.size:=YAe la_;have ha2:=ha1.keep λo e=>k2 a o na_ e;refine YAD (YAA (show wpAny _ _ (Builtin.Frozenset.addrOf (.ref s.heap.objs.size)) _ _ _ from YAD ?_));refine YAA (YBN ?_);show wpAny _ _ _ _ _ { s with heap:=H2 };unfold Builtin.Frozenset.symmetricDifferenceUpdate;have e0:(Value.ref a == Value.ref s.heap.objs.size)=false:=by have:¬Value.ref a=Value.ref s.heap.objs.size:=λz=>na_ (by injection z);simpa using this
 rw[e0,YAJ YAC];refine YAA (wpAny_typeOf (s:={ s with heap:=H2 }) (T:="set") ha2.typ ?_);rw[show (Value.type "set" == Value.type "dict")=false by decide,YAJ YAC];refine YAA (Zfm (s:={ s with heap:=H2 }) ha2 ?_);rw[YAM rfl];refine YAA (YAD ?_);refine YAA (show wpAny _ _ (Builtin.Frozenset.addrOf (.ref a)) _ _ _ from YAD ?_);obtain⟨oa,ea,epa,ta,msa,ga,exa,da,ela,fa,ra⟩:=id ha2;refine YAA (YDM (s:={ s with heap:=H2 }) ga da fa ?_);refine YBN ?_;refine YAA (Zgt (s:={ s with heap:=H2 }) ha2 hr2 (YAk na_) λH3 es xs sb3 hr3 px hv hel=>?_);show wpAny _ _ _ _ _ { s with heap:=H3 };have xl:xs.length=la.length:=px.length_eq;refine YAA (YBZ (wpAny_forIn_array' _ (λrest (_:PUnit) s'=>∃(h':Heap) (dn re:Q22),s'={ s with heap:=h' }/\Heap.SameBut s.heap.objs.size H2 h'/\xs=dn++re/\Vals (re.map tx) (rest.map (·.2))/\(∀e∈rest,e∈es.toList)/\TxSet prog w h' s.heap.objs.size (dn.foldl Zcq lb) (!ZaR w))
  (λ(_:PUnit) s'=>∃h':Heap,s'={ s with heap:=h' }/\Heap.SameBut s.heap.objs.size H2 h'/\TxSet prog w h' s.heap.objs.size (xs.foldl Zcq lb) (!ZaR w)) ?_ ?_ _ _ ⟨H3,[],xs,rfl,sb3,rfl,hv,λe he=>he,hr3⟩) ?_ λ_ _ h'=>h')
 .rintro⟨hx,x⟩ rest _ s' ⟨h',dn,re,rfl,sb,ex,hv',hm,hr'⟩;cases re with
  | nil=>cases hv'
  | cons l re=>
   cases hv' with
   | cons r1 r2=>
    obtain⟨tk,e⟩:=r1;have e':x=.str ⟨l.toArray⟩ tk:=e;have ek:=ZlQ hel (hm _ YAd) e';subst e' ek;have dl:dn.length+(re.length+1)=la.length:=by rw[<-xl,ex,YAG,YAf]
    have fl:=ZhG dn lb;refine YAA (Zka (s:={ s with heap:=h' }) hr' (by lia) λh2 sb2' hr2'=>?_);show wpAny _ _ _ _ _ { s with heap:=h2 };have sb4:=sb.trans sb2';have ga':h2.get? a=some oa:=(sb4.2 a na_).trans ga;unfold Builtin.Frozenset.unchanged;refine YAA (YAA (YDM (s:={ s with heap:=h2 }) ga' da fa ?_));rw[bne_self_eq_false,YAJ YAC];refine YAD (YAD ⟨h2,dn++[l],re,rfl,sb4,by rw[ex];simp,r2,λe he=>hm e (YAV _ he),?_⟩);rw[List.foldl_append];exact hr2'
 .rintro _ s' ⟨h',dn,re,rfl,sb,ex,hv',hm,hr'⟩;cases re with
  | cons l re=>cases hv'
  | nil=>
   rw[YCp]at ex;subst ex;exact⟨h',rfl,sb,hr'⟩
 .rintro _ s' ⟨h',rfl,sb,hr'⟩;refine YAD (YAD (YAD ⟨_,rfl,λz=>(by cases z),h h' (λc o e=>?_) (hr'.perm (ZkT na nb px))⟩));have nc:c≠s.heap.objs.size:=YAe (YAN e);exact(sb.2 c nc).trans (k2 c o nc (k1 c o e))
end
def rXor (P:AH)(w:AJ):R2:=λx y H Q=>∃a b la lb,x=.ref a/\y=.ref b/\H a=some (tset P w a la)/\H b=some (tset P w b lb)/\la.Nodup/\lb.Nodup/\a≠b/\la.length+lb.length<=4000/\∀p,H p=none->Q (.ref p) (upd H p (tset P w p (xorT la lb)))
theorem Zml (hP:X.prog=P)(hw:X.w=w):OpR X (binaryOp .BitXor) (rXor P w):=by subst hP hw;intro Ar s U H x y v u Q I rx ry h;obtain⟨a,b,la,lb,rfl,rfl,ha,hb,na,nb,ne,hz,q⟩:=h;cases rx;cases ry;have hA:TxSet X.prog X.w s.heap a la (!ZaR X.w):=(I.hok a _ ha).1;have hB:TxSet X.prog X.w s.heap b lb (!ZaR X.w):=(I.hok b _ hb).1;exact Zl4 hA hB na nb ne (by show _<4096;lia) λh' k hS=>⟨.ref s.heap.objs.size,_,I.laid (t':=s.toks) k (YAP _) (ZiA hS),rfl,q _ I.fresh⟩
section
end
open PySem.W (Frag)
section
end
theorem Zkv {K:Frag}{H:Hp}{Q:VK}{a b:AE}{vs:List V}(h1:SqT K H a vs)(h2:SqT K H b vs)(hf:vs.all Zbp=true)(q:Q (.bl false) H):rEqD K true (.ref a) (.ref b) H Q:=
 .inr ⟨_,_,datT h1 hf,datT h2 hf,λz=>YAC z.1,(ownT h1 hf).2.2,by rw[(ownT h1 hf).2.1];exact q⟩
noncomputable def frT (a b:Int):Int:=a/(Int.gcd a b:Nat)
noncomputable def frB (a b:Int):Int:=b/(Int.gcd a b:Nat)
theorem Zcp (ha:0<=a)(hb:0<b):0<=frT a b/\frT a b<=a/\1<=frB a b/\frB a b<=b/\Int.gcd (frT a b) (frB a b)=1/\frT a b*b=frB a b*a:=by
 have hg:0<Int.gcd a b:=Int.gcd_pos_of_ne_zero_right a (by lia);have hg':(0:Int)<(Int.gcd a b:Nat):=by lia
 obtain⟨x,hx⟩:=Int.gcd_dvd_left a b;obtain⟨y,hy⟩:=Int.gcd_dvd_right a b;have e1:frT a b=x:=by unfold frT;exact Int.ediv_eq_of_eq_mul_right (by lia) hx
 have e2:frB a b=y:=by unfold frB;exact Int.ediv_eq_of_eq_mul_right (by lia) hy
 rw[e1,e2];have hy1:1<=y:=by
  rcases (by lia:y<1\/1<=y) with h | h
  .have:((Int.gcd a b:Nat):Int)*y<=0:=Int.mul_nonpos_of_nonneg_of_nonpos (by lia) (by lia);lia
  .exact h
 have hx0:0<=x:=by
  rcases (by lia:x<0\/0<=x) with h | h
  .have:((Int.gcd a b:Nat):Int)*x<0:=Int.mul_neg_of_pos_of_neg hg' h;lia
  .exact h
 refine⟨hx0,?_,hy1,?_,?_,?_⟩
 .have:1*x<=((Int.gcd a b:Nat):Int)*x:=YDT (by lia) hx0;lia
 .have:1*y<=((Int.gcd a b:Nat):Int)*y:=YDT (by lia) (by lia);lia
 .have h:=Int.gcd_mul_left ((Int.gcd a b:Nat):Int) x y;rw[<-hx,<-hy,Int.natAbs_natCast]at h;exact Nat.eq_of_mul_eq_mul_left hg (by lia)
 .generalize Int.gcd a b=g at hx hy;rw[hx,hy,<-YDK,<-YDK,Int.mul_comm x,Int.mul_comm y,YDK,YDK,Int.mul_comm x y]
def Bt (n:Nat)(i:Int):Prop:=0<=i/\i.toNat<2 ^ n
theorem Bt.mono (h:Bt n i)(l:n<=k):Bt k i:=⟨h.1,YAs h.2 (Nat.pow_le_pow_right (by decide) l)⟩
theorem Bt.le (h:Bt n j)(h0:0<=i)(l:i<=j):Bt n i:=⟨h0,YBf (by lia) h.2⟩
theorem Bt.mul (h1:Bt n i)(h2:Bt k j):Bt (n+k) (i*j):=by obtain⟨a,rfl⟩:∃a:Nat,i=(a:Int):=⟨i.toNat,by have:=h1.1;lia⟩;obtain⟨b,rfl⟩:∃b:Nat,j=(b:Int):=⟨j.toNat,by have:=h2.1;lia⟩;have ha:a<2 ^ n:=h1.2;have hb:b<2 ^ k:=h2.2;rw[<-YCq];refine⟨by lia,?_⟩;show a*b<2 ^ (n+k);rw[Nat.pow_add];exact Nat.mul_lt_mul_of_lt_of_lt ha hb
theorem Bt.bits (h:Bt n i)(l:n<=8000):Builtin.Int.intBits i<=2 ^ 20:=by
 have e:i.natAbs=i.toNat:=by have:=h.1;lia
 exact YAK (intBits_le (k:=n) (by rw[e];exact h.2)) (YAK l (by decide))
theorem Bt.log (h:Bt n i)(l:n<=8000):i.natAbs.log2<9000:=by
 have e:i.natAbs=i.toNat:=by have:=h.1;lia
 rw[e];by_cases z:i.toNat=0
 .rw[z];decide
 .have:=(Nat.log2_lt z).mpr h.2;lia
def Zna (i j:Int):Prop:=0<j/\∃n,n<=8000/\Bt n j
def Zq0 (i j:Int):Prop:=∃n,n<=8000/\Bt n i/\Bt n j
section
theorem Zdy:OpR X (binaryOp .FloorDiv) (rI Zna λi j=>.int (i/j)):=opI λi j _ _ _ _ _ hc q=>by obtain⟨h1,n,hn,h2⟩:=hc;have h1:(0:Int)<j:=h1;exact floordiv_int (by lia) (by rw[Int.fdiv_eq_ediv_of_nonneg i (by lia)];exact q) (.inl (PyProof.noPylong_of_log2 (h2.log hn)))
theorem ZbC:OpR X (binaryOp .Mult) (rI Zq0 λi j=>.int (i*j)):=opI λ_ _ _ _ _ _ _ hc q=>by obtain⟨n,hn,h1,h2⟩:=hc;exact mul_int q (.of_bits (h1.bits hn) (h2.bits hn))
end
structure Lin {α:Type}(lt:α->α->Bool):Prop where
 asym:∀a b,lt a b=true->lt b a=false
 trans:∀a b c,lt a b=true->lt b c=true->lt a c=true
 tri:∀a b,lt a b=false->lt b a=false->a=b
noncomputable def lexB {α β:Type} [DecidableEq α] (f:α->α->Bool) (g:β->β->Bool) (a b:α×β):Bool:=if a.1=b.1 then g a.2 b.2 else f a.1 b.1
section
end
section
end
section
end
noncomputable def fpl (l w:Q11):Nat:=((List.range (l.length+1)).find? λi=>decide (i+w.length<=l.length)&&decide ((l.drop i).take w.length=w)).getD 0
theorem ZlC (h:AtW l w i)(hm:∀j,j<i->¬AtW l w j):fpl l w=i:=by
 unfold fpl;have:((List.range (l.length+1)).find? λi=>decide (i+w.length<=l.length)&&decide ((l.drop i).take w.length=w))=some i:=by
  rw[List.find?_range_eq_some];refine⟨by rw[decide_eq_true h.1,decide_eq_true h.2];rfl,YAw.mpr (by have:=h.1;lia),λj hj=>?_⟩;rw[Bool.not_eq_true',Bool.and_eq_false_iff,decide_eq_false_iff_not,decide_eq_false_iff_not];by_cases c:j+w.length<=l.length
  .exact .inr λz=>hm j hj ⟨c,z⟩
  .exact .inl c
 rw[this];rfl
theorem Zgj (h1:BefW a b)(h2:BefW b a):False:=by
 rcases h1 with h1 | ⟨h1,k1⟩<;>rcases h2 with h2 | ⟨h2,k2⟩
 .lia
 .lia
 .lia
 .exact List.lt_asymm k1 k2
theorem Zby:∀ {a b:Q22},a.Pairwise BefW->b.Pairwise BefW->(∀x,x∈a↔x∈b)->a=b
 | [],[],_,_,_=>rfl
 | [],y::b,_,_,h=>by have:=(h y).mpr YAd;cases this
 | x::a,[],_,_,h=>by have:=(h x).mp YAd;cases this
 | x::a,y::b,ha,hb,h=>by
  have pa:=YBB.mp ha;have pb:=YBB.mp hb;have e:x=y:=by
   rcases YAH.mp ((h x).mp YAd) with z | z
   .exact z
   .rcases YAH.mp ((h y).mpr YAd) with z2 | z2
    .exact z2.symm
    .exact(Zgj (pb.1 x z) (pa.1 y z2)).elim
  subst e;congr 1;refine Zby pa.2 pb.2 λz=>?_;constructor
  .intro hz;rcases YAH.mp ((h z).mp (YAV _ hz)) with e | e
   .rw[e]at hz;exact(Zc4 (pa.1 x hz)).elim
   .exact e
  .intro hz;rcases YAH.mp ((h z).mpr (YAV _ hz)) with e | e
   .rw[e]at hz;exact(Zc4 (pb.1 x hz)).elim
   .exact e
theorem ZbG (e:kTx x=kTx y):x=y:=by unfold kTx at e;injection e with e;injection e with e;injection e
def LInv (l m:Q11)(ws:Q22)(i j:Nat)(L:Q22):Prop:=L.Nodup/\L.length<=4*i+j/\∀x,x∈L↔Miss l x/\∃c w,x=c::w/\((w∈ws.take i/\c∈m)\/(ws[i]?=some w/\c∈m.take j))
def Ext (s L:Q11):Prop:=(∃c,L=s++[c])\/∃c,L=c::s
theorem Ext.len (h:Ext s L):L.length=s.length+1:=by rcases h with⟨c,rfl⟩|⟨c,rfl⟩<;>simp
theorem Ext.inf (h:Ext s L):Inf s L:=by
 rcases h with⟨c,rfl⟩|⟨c,rfl⟩
 .have:=ZhC (s++[c]);rwa [YCw]at this
 .exact ZhB (c::s)
def Frs (s L w:Q11):Prop:=Inf w L/\¬Inf w s
theorem Frs.ne (h:Frs s L w):w≠[]:=λe=>h.2 (e▸Inf.nil s)
theorem Ze6 (l:Q11)(k:Nat):Inf (l.take k) l:=⟨0,by rw[YAW];lia,by rw[YBh,List.take_eq_take_iff,YAW];lia⟩
theorem Ze7 (l:Q11)(k:Nat):Inf (l.drop k) l:=by
 by_cases h:k<=l.length
 .exact⟨k,by rw[YAp];lia,by rw[YBL]⟩
 .rw[YBr (by lia)];exact Inf.nil l
theorem ZdC (h:Ext s L)(f:Frs s L w):((∃c,L=s++[c])/\w=L.drop (L.length-w.length))\/((∃c,L=c::s)/\w=L.take w.length):=by
 obtain⟨⟨i,h1,h2⟩,hn⟩:=f;rcases h with⟨c,rfl⟩|⟨c,rfl⟩
 .refine .inl ⟨⟨c,rfl⟩,?_⟩;rw[YAG,YBF]at h1 ⊢;have hi:i+w.length=s.length+1:=by
   by_cases z:i+w.length<=s.length
   .refine absurd ⟨i,z,?_⟩ hn;rw[YCF (by lia),List.take_append_of_le_length (by rw[YAp];lia)]at h2;exact h2
   .lia
  have e:s.length+1-w.length=i:=by lia
  rw[e];rw[YAv (by rw[YAp,YAG,YBF];lia)]at h2;exact h2.symm
 .refine .inr ⟨⟨c,rfl⟩,?_⟩;cases i with
  | zero=>rw[YBh]at h2;exact h2.symm
  | succ i=>
   refine absurd ⟨i,?_,?_⟩ hn
   .rw[YAf]at h1;lia
   .rw[List.drop_succ_cons]at h2;exact h2
theorem Zjy (h:Ext s L):Frs s L w↔(∃k,1<=k/\k<=L.length/\(w=L.take k\/w=L.drop (L.length-k)))/\¬Inf w s:=by
 constructor
 .intro f;have h1:1<=w.length:=YBV.mpr f.ne;refine⟨⟨w.length,h1,f.1.len,?_⟩,f.2⟩;rcases ZdC h f with⟨_,e⟩|⟨_,e⟩
  .exact .inr e
  .exact .inl e
 .rintro⟨⟨k,_,_,rfl | rfl⟩,hn⟩
  .exact⟨Ze6 _ _,hn⟩
  .exact⟨Ze7 _ _,hn⟩
theorem ZfX (h:Ext s L)(fu:Frs s L u)(fv:Frs s L v)(hl:u.length<=v.length):Inf u v:=by
 have l1:=fu.1.len;have l2:=fv.1.len;rcases ZdC h fu with⟨⟨c,e⟩,eu⟩|⟨⟨c,e⟩,eu⟩
 .rcases ZdC h fv with⟨_,ev⟩|⟨⟨d,e2⟩,ev⟩
  .have:u=v.drop (v.length-u.length):=by
    have:v.drop (v.length-u.length)=L.drop (L.length-u.length):=by
     conv=>lhs;rw[ev]
     rw[YCI,YAp];congr 1;lia
    rw[this];exact eu
   rw[this];exact Ze7 _ _
  .
   have hv:v.length=L.length:=by
    by_cases z:v.length=L.length
    .exact z
    .exfalso;refine fv.2 ?_;have:v=s.take v.length:=by
      conv=>lhs;rw[ev,e]
      rw[List.take_append_of_le_length];have:=h.len;lia
     rw[this];exact Ze6 _ _
   have:v=L:=by rw[ev,hv,YBL]
   rw[this];exact fu.1
 .rcases ZdC h fv with⟨⟨d,e2⟩,ev⟩|⟨_,ev⟩
  .have hv:v.length=L.length:=by
    by_cases z:v.length=L.length
    .exact z
    .exfalso;refine fv.2 ?_;have:v=s.drop (s.length-v.length):=by
      have h3:=h.len
      conv=>lhs;rw[ev,e]
      have e4:(c::s).length-v.length=(s.length-v.length)+1:=by rw[YAf];lia
      rw[e4,List.drop_succ_cons]
     rw[this];exact Ze7 _ _
   have:v=L:=by rw[ev,hv,YDQ,YBh]
   rw[this];exact fu.1
  .have:u=v.take u.length:=by
    have:v.take u.length=L.take u.length:=by
     conv=>lhs;rw[ev]
     rw[YCd];congr 1;lia
    rw[this];exact eu
   rw[this];exact Ze6 _ _
theorem ZmN (h:Ext s L)(fu:Frs s L u)(fv:Frs s L v)(hl:u.length=v.length):u=v:=Zly (ZfX h fu fv (by lia)) (by lia)
theorem ZgQ (h:Ext s L)(f0:Frs s L w0)(hm:∀w,Frs s L w->¬BefW w w0)(w:Q11):Miss s w/\Inf w L↔w=w0:=by
 have sh:∀w,Frs s L w->w0.length<=w.length:=λw f=>by
  by_cases z:w.length<w0.length
  .exact absurd (.inl z) (hm w f)
  .lia
 have ne:=f0.ne;have l1:1<=w0.length:=YBV.mpr ne;constructor
 .rintro⟨ms,hi⟩;have fw:Frs s L w:=⟨hi,ms.no⟩;have hc:=ZfX h f0 fw (sh w fw);by_cases z:w0.length<w.length
  .rcases ZmG hc z with k | k
   .exact absurd (k.trans ms.init) f0.2
   .exact absurd (k.trans ms.tail) f0.2
  .exact(Zly hc (by lia)).symm
 .rintro rfl;have small:∀u,Inf u L->u.length<w.length->Inf u s:=λu hu hl=>by
   by_cases z:Inf u s
   .exact z
   .have:=sh u ⟨hu,z⟩;lia
  exact⟨⟨ne,small _ ((ZhC w).trans f0.1) (by rw[YBJ];lia),small _ ((ZhB w).trans f0.1) (by rw[List.length_tail];lia),f0.2⟩,f0.1⟩
noncomputable def shOf (s w:Q11)[Decidable (Inf w.dropLast s)]:Q11:=if Inf w.dropLast s then w.tail else w.dropLast
instance (w l:Q11):Decidable (Inf w l):=decidable_of_iff (∃i,i<l.length+1/\i+w.length<=l.length/\(l.drop i).take w.length=w) ⟨λ⟨i,_,h⟩=>⟨i,h⟩,λ⟨i,h⟩=>⟨i,by have:=h.1;lia,h⟩⟩
def Opn (s L m w:Q11):Prop:=∃sh c,Frs s L sh/\c∈m/\(w=sh++[c]\/w=c::sh)/\Miss L w
theorem Zmk (h:Ext s L)(hm:∀x∈L,x∈m):Opn s L m w↔w∈Zaq L m/\w∉Zaq s m:=by
 constructor
 .rintro⟨sh,c,f,hc,e,ms⟩;refine⟨ZaK.mpr ⟨ms,?_⟩,λhw=>?_⟩
  .rcases e with rfl | rfl
   .exact⟨c,hc,by simp⟩
   .refine⟨sh.getLast f.ne,hm _ (f.1.mem (List.getLast_mem _)),?_⟩;rw[YCD (by simp),List.getLast_cons f.ne]
  .have k:=(ZaK.mp hw).1;rcases e with rfl | rfl
   .exact f.2 (by have:=k.init;rwa [YCw]at this)
   .exact f.2 k.tail
 .rintro⟨hw,hn⟩;obtain⟨ms,c,hc,hl⟩:=ZaK.mp hw;have ns:¬Inf w s:=λz=>ms.no (z.trans h.inf);have hn':¬(Inf w.dropLast s/\Inf w.tail s):=λ⟨a,b⟩=>hn (ZaK.mpr ⟨⟨ms.ne,a,b,ns⟩,c,hc,hl⟩);by_cases z:Inf w.dropLast s
  .have z2:¬Inf w.tail s:=λk=>hn' ⟨z,k⟩;have f:Frs s L w.tail:=⟨ms.tail,z2⟩
   match w,ms,f with
   | d::r,ms,f=>
    have f:Frs s L r:=f;refine⟨r,d,f,?_,.inr rfl,ms⟩
    match r,f.ne with
    | e::r,_=>exact hm _ (ms.init.mem (by simp))
  .refine⟨w.dropLast,c,⟨ms.init,z⟩,hc,.inl ?_,ms⟩;rw[YCD ms.ne]at hl;have h2:=YCi ms.ne;rw[Option.some.inj hl]at h2;exact h2.symm
theorem ZnY (h:Ext s L)(f:Frs s L sh)(e:w=sh++[c]\/w=c::sh)(ms:Miss L w):shOf s w=sh:=by
 unfold shOf;rcases e with rfl | rfl
 .rw[YCw,YAJ f.2]
 .by_cases z:Inf (c::sh).dropLast s
  .rw[YAM z];rfl
  .rw[YAJ z];exact ZmN h ⟨ms.init,z⟩ f (by rw[YBJ];simp)
theorem ZfN (h:Ext s L)(f0:Frs s L w0)(hmn:∀w,Frs s L w->¬BefW w w0)(hw:w∈Zaq s m):w∈Zaq L m↔w≠w0:=by
 obtain⟨ms,hc⟩:=ZaK.mp hw;constructor
 .rintro k rfl;exact(ZaK.mp k).1.no ((ZgQ h f0 hmn w).mpr rfl).2
 .intro k;have ni:¬Inf w L:=λz=>k ((ZgQ h f0 hmn w).mp ⟨ms,z⟩);exact ZaK.mpr ⟨⟨ms.ne,ms.init.trans h.inf,ms.tail.trans h.inf,ni⟩,hc⟩
theorem ZmT (h:Ext s L)(hm:∀x∈L,x∈m)(f0:Frs s L w0)(hmn:∀w,Frs s L w->¬BefW w w0):w0∈Zaq s m:=by have k:=(ZgQ h f0 hmn w0).mpr rfl;exact ZaK.mpr ⟨k.1,w0.getLast k.1.ne,hm _ (k.2.mem (List.getLast_mem _)),YCD _⟩
def opnL (s L m:Q11):Q22:=(Zaq L m).filter λw=>decide (w∉Zaq s m)
def filL (s L m:Q11):Q22:=(Zaq s m).filter λw=>decide (w∉Zaq L m)
theorem Ze0:w∈opnL s L m↔w∈Zaq L m/\w∉Zaq s m:=by unfold opnL;simp
theorem Ze1:w∈filL s L m↔w∈Zaq s m/\w∉Zaq L m:=by unfold filL;simp
theorem ZkW (h:Ext s L)(hm:∀x∈L,x∈m)(hr:m.Pairwise (· < ·))(f0:Frs s L w0)(hmn:∀w,Frs s L w->¬BefW w w0):filL s L m=[w0]:=by
 refine Zby ((ZaP hr).filter _) (by simp) λw=>?_;rw[Ze1,YAI];constructor
 .rintro⟨a,b⟩;by_cases z:w=w0
  .exact z
  .exact absurd ((ZfN h f0 hmn a).mpr z) b
 .rintro rfl;have k:=ZmT h hm f0 hmn;exact⟨k,λz=>(ZfN h f0 hmn k).mp z rfl⟩
theorem ZbK {ws ws':Q22}(pm:ws'.Perm ws)(pw:ws'.Pairwise λa b=>¬BefW b a)(nd:ws.Nodup):ws'.Pairwise BefW:=by
 refine(pw.and (pm.nodup_iff.mpr nd)).imp ?_;rintro a b ⟨h1,h2⟩;rcases Nat.lt_trichotomy a.length b.length with z | z | z
 .exact .inl z
 .rcases Zi8 a b with k | k | k
  .exact .inr ⟨z,k⟩
  .exact absurd k h2
  .exact absurd (.inr ⟨z.symm,k⟩) h1
 .exact absurd (.inl z) h1
theorem ZbD {ws:Q22}(h:ws.Pairwise BefW):ws.Nodup:=h.imp λhab e=>by rw[e]at hab;exact Zc4 hab
theorem ZmA {old new came gone ws':Q22}(ho:old.Pairwise BefW)(hn:new.Pairwise BefW)(hc:∀w,w∈came↔w∈new/\w∉old)(nc:came.Nodup)(hg:∀w,w∈gone↔w∈old/\w∉new)(pm:ws'.Perm (old.filter (λw=>decide (w∉gone))++came))(pw:ws'.Pairwise λa b=>¬BefW b a):ws'=new:=by
 have nd:(old.filter (λw=>decide (w∉gone))++came).Nodup:=by rw[YBv];refine⟨(ZbD ho).filter _,nc,λa ha b hb e=>?_⟩;subst e;exact((hc a).mp hb).2 (YAy.mp ha).1
 refine Zby (ZbK pm pw nd) hn λw=>?_;rw[pm.mem_iff,YAR,YAy,hc,decide_eq_true_iff,hg];constructor
 .rintro (⟨a,b⟩|⟨a,b⟩)
  .by_cases z:w∈new
   .exact z
   .exact absurd ⟨a,z⟩ b
  .exact a
 .intro a;by_cases z:w∈old
  .exact .inl ⟨z,λk=>k.2 a⟩
  .exact .inr ⟨a,z⟩
theorem ZkD (hm:m.Pairwise (· < ·)):Zaq [] m=signs m:=by
 unfold signs;refine Zby (ZaP hm) ?_ λw=>?_
 .rw[YBS];exact hm.imp λh=>.inr ⟨rfl,List.Lex.rel h⟩
 .rw[ZaK,YAa];constructor
  .rintro⟨ms,c,hc,hl⟩;have h:=ms.init.len;rw[YBJ,YDH]at h;have h1:1<=w.length:=YBV.mpr ms.ne
   match w,h,h1,hl with
   | [d],_,_,hl=>exact⟨c,hc,by simpa using hl.symm⟩
  .rintro⟨c,hc,rfl⟩;exact⟨⟨by simp,Inf.nil _,Inf.nil _,λz=>by have:=z.len;simp at this⟩,c,hc,rfl⟩
end L2
namespace L2
noncomputable def DD:Nat:=33452526613163807108170062053440751665152000000000*33452526613163807108170062053440751665152000000000
def wtN (n:Nat):Nat:=DD/(n*n)
theorem ZlR:∀n:Fin 42,n.val=0\/n.val*n.val*wtN n.val=DD:=by decide +kernel
theorem Zir (h1:1<=n)(h2:n<=41):n*n*wtN n=DD:=(ZlR ⟨n,by lia⟩).resolve_left (by show ¬n=0;lia)
theorem Zgn:0<DD:=by decide +kernel
def WS (ws:Q22):Nat:=(ws.map λw=>wtN w.length).sum
theorem ZlM:WS []=0:=rfl
theorem Zj0 (ws:Q22)(w:Q11):WS (ws++[w])=WS ws+wtN w.length:=by unfold WS;simp
theorem Zm6 (h:xs.Perm ys):WS xs=WS ys:=by unfold WS;exact(h.map _).sum_nat
theorem Zpf (xs ys:Q22):WS (xs++ys)=WS xs+WS ys:=by unfold WS;simp
theorem Zlc:∀ {xs ys:Q22},xs.Nodup->(∀w∈xs,w∈ys)->WS xs<=WS ys
 | [],_,_,_=>YAt _
 | x::xs,ys,nd,h=>by have hx:=h x (by simp);have p:=List.perm_cons_erase hx;rw[Zm6 p];have ih:=Zlc (xs:=xs) (ys:=ys.erase x) (YBT.mp nd).2 λw hw=>(YDa (λ(e:w=x)=>(YBT.mp nd).1 (e▸hw))).mpr (h w (by simp[hw]));unfold WS at *;simp only[YAi,List.sum_cons];lia
structure IsDiff (a b ds:Q22):Prop where
 nd:ds.Nodup
 mem:∀w,w∈ds↔(w∈a/\w∉b)\/(w∈b/\w∉a)
theorem IsDiff.ws (h:IsDiff a b ds)(g:IsDiff a b es):WS ds=WS es:=
 Nat.le_antisymm (Zlc h.nd λw hw=>(g.mem w).mpr ((h.mem w).mp hw)) (Zlc g.nd λw hw=>(h.mem w).mpr ((g.mem w).mp hw))
theorem IsDiff.flip (h:IsDiff a b ds):IsDiff b a ds:=⟨h.nd,λw=>(h.mem w).trans Or.comm⟩
theorem tri (h1:IsDiff a b x)(h2:IsDiff b c y)(h3:IsDiff c a z):WS y<=WS x+WS z:=by rw[<-Zpf];refine Zlc h2.nd λw hw=>?_;rw[YAR,h1.mem,h3.mem];have:=(h2.mem w).mp hw;by_cases ha:w∈a<;>by_cases hb:w∈b<;>by_cases hc:w∈c<;>simp_all
theorem ZjE (h:a∣b*c)(g:Int.gcd a b=1):a∣c:=by rw[<-Int.natAbs_dvd_natAbs]at h ⊢;rw[Int.natAbs_mul]at h;exact Nat.Coprime.dvd_of_dvd_mul_left g h
theorem ZgP (hx:0<=x)(hy:0<y)(hu:0<=u)(hv:0<v)(h:x*v=u*y):frT x y=frT u v/\frB x y=frB u v:=by
 obtain⟨a1,a2,a3,a4,a5,a6⟩:=Zcp hx hy;obtain⟨b1,b2,b3,b4,b5,b6⟩:=Zcp hu hv;generalize frT x y=p at *;generalize frB x y=q at *;generalize frT u v=r at *;generalize frB u v=s at *;have yv:y*v≠0:=Int.ne_of_gt (Int.mul_pos hy hv);have e:p*s=r*q:=by
  apply Int.eq_of_mul_eq_mul_right yv;have l:p*s*(y*v)=(p*y)*(s*v):=by ac_rfl
  have k:r*q*(y*v)=(r*v)*(q*y):=by ac_rfl
  rw[l,k,a6,b6];have l2:q*x*(s*v)=q*s*(x*v):=by ac_rfl
  have k2:s*u*(q*y)=q*s*(u*y):=by ac_rfl
  rw[l2,k2,h]
 have d1:q∣s:=ZjE (b:=p) (c:=s) ⟨r,by rw[e];ac_rfl⟩ (by rw[Int.gcd_comm];exact a5);have d2:s∣q:=ZjE (b:=r) (c:=q) ⟨p,by rw[<-e];ac_rfl⟩ (by rw[Int.gcd_comm];exact b5);have qs:q=s:=Int.dvd_antisymm (by lia) (by lia) d1 d2;subst qs;exact⟨Int.eq_of_mul_eq_mul_right (by lia) e,rfl⟩
end L2
namespace L2
open PySem PySem.Spec PyProof.Rows
open PySem.W (Frag)
theorem Zhs:MtM X "str.find" (λx vs H Q=>∃l w,x=tx l/\vs=[tx w]/\∀r:Int,((r=-1/\¬Inf w l)\/∃i:Nat,r=(i:Int)/\AtW l w i/\∀j,j<i->¬AtW l w j)->Q (.int r) H):=by
 rintro Ar s U H x vs v us Q I rx rv ⟨l,w,rfl,rfl,q⟩;obtain⟨t,rfl⟩:=rx;obtain⟨u,rfl,t',rfl⟩:=rv.one;refine SC.find ?_;refine⟨.int _,H,I.tok _,⟨_,rfl⟩,q _ ?_⟩;rcases find_whole (⟨l.toArray⟩:Str) ⟨w.toArray⟩ with⟨h1,h2⟩|⟨i,h1,h2,h3⟩
 .exact .inl ⟨h1,λ⟨i,hi⟩=>h2 i ((Zcf l w i).mpr hi)⟩
 .exact .inr ⟨i,h1,(Zcf l w i).mp h2,λj hj hA=>h3 j hj ((Zcf l w j).mpr hA)⟩
section
end
section
end
end L2
namespace L2
open PySem PySem.Spec PyProof.Rows PySem.Builtin.Str
def tOr2 (t1 t2:TE):TE:=λU H Q=>t1 U H Q\/t2 U H Q
theorem Zer (h1:PE X e t1)(h2:PE X e t2):PE X e (tOr2 t1 t2):=λAr s U H Q I h=>h.elim (h1 Ar s U H Q I) (h2 Ar s U H Q I)
section
end
end L2
namespace L2
open PySem PySem.Spec PyProof.Rows
section
end
section
def Zpg (H:Hp)(ys:List V)(xs:List (Key×V)):Prop:=ys.length=xs.length/\∀(i:Nat) (y:V),ys[i]?=some y->∃(x:Key×V) (b:AE),xs[i]?=some x/\y=.ref b/\H b=some (.tup [kV x.1,x.2])
end
end L2
namespace L2
open PySem PySem.Spec PyProof.Rows PySem.W
noncomputable def ZoO (o:Obj):Bool:=match o.cls,o.data with
 | .none,.fields _=>true
 | _,_=>false
def Zku (K:Frag):Bool:=K.all λp=>!ZoO p.2
theorem ZfI {K:Frag}(h:Zku K=true){b:AE}{o:Obj}(e:K.lookup b=some o):ZoO o=false:=by
 unfold Zku at h;rw[YBW]at h;have:∀(l:AB),l.lookup b=some o->(b,o)∈l:=λl=>by
  induction l with
  | nil=>intro e;cases e
  | cons q r ih=>
   intro e;obtain⟨b',o'⟩:=q;rw[YCC]at e;by_cases z:b=b'
   .subst z;simp at e;subst e;exact YAd
   .have z':(b == b')=false:=by simpa using z
    rw[z']at e;exact YAV _ (ih e)
 have:=h _ (this K e);simpa using this
structure TabOf (mg:AC)(h:Heap)(n:Str)(c P:AE):Prop where
 fn:∃a o fd,mg n=some (.ref a)/\h.get? a=some o/\o.data=.func fd/\fd.code=.ref c
 code:h.IsCode c P #[]
 tab:h.TableAt c P #[]
theorem TabOf.codeEq (t:TabOf mg h n c P)(e1:mg n=some (.ref a))(e2:h.get? a=some o)(e3:o.data=.func fd):fd.code=.ref c:=by obtain⟨a',o',fd',f1,f2,f3,f4⟩:=t.fn;rw[e1]at f1;cases f1;rw[e2]at f2;cases f2;rw[e3]at f3;cases f3;exact f4
theorem Zjc {P:AH}{w:AJ}{K:Q4}{mg mb:AC}{CX:CXT}{k:Nat}{fa a:AE}{fd:AG}{x:Str}{sp:Sp}{s_1:AF}{vs:AD}{ns:List Int}{nms:AK}{tb:Str->AE×AE}
  (KX:K.In s_1.heap) (hns:s_1.heap.Ns mainGlobals mg) (hb:s_1.heap.Ns builtinsNs mb) (hbb:∀x:Str,x≠"__name__"->mb x=bootBuiltins x) (hlim:s_1.heap.NoLimit) (hg:s_1.gens=#[])
  (ha:s_1.heap.get? a=some { cls:=.type "list",data:=.seq vs.toArray }) (hi:IntsAre vs ns) (hl:ns.length<=sizeLine) (hr:Room k callerA)
  (hT:∀n∈nms,TabOf mg s_1.heap n (tb n).1 (tb n).2) (hKt:Zku K=true) (hbm:∃bm ob,mg "__builtins__"=some (.ref bm)/\bm≠builtinsNs/\s_1.heap.get? bm=some ob/\ob.cls=.type "module"/\ob.dict=some builtinsNs/\ob.data=.plain)
  (F:∀base:Heap,K.In base->base.Ns mainGlobals mg->(∀n∈nms,LamEnv base mg (tb n).1 (tb n).2)->FnOk P w K mg base CX k fa fd [x] sp) (hbind:∀(s:AF) (u:Value),BindsTo s fd ⟨[u],[]⟩ [(x,u)])
  (hsp:∀H:Hp,(∀n∈nms,H (tb n).2=some (.tbl #[]))->SqL K H a (ns.map V.int)->sp [.ref a] H (λv _=>v=.bl true) λ_ _ _=>False)
  (hCX:∀H e s',CX [] H s_1 (λ_ _ _=>False) e s'->False):
  codeAny (model P w) callerA (.call (.ref fa) ⟨[.ref a],[]⟩) (λr s'=>r=.ok (.ret (.bool true))/\OldK s_1.heap s'.heap/\s'.os=s_1.os/\AllBare s'.gens) s_1:=by
 have rv:=Zfq hi;have lenV:=hi.length;have hta:∀n∈nms,s_1.heap.get? (tb n).2=some (tabObj #[]):=λn hn=>(hT n hn).tab.2;have aP:∀n∈nms,(tb n).2≠a:=λn hn z=>by have e:=hta n hn;rw[z,ha]at e;have:=congrArg Obj.cls (Option.some.inj e);exact absurd (show Value.type "list"=Value.none from this) (by simp)
 let isP:AE->Prop:=λb=>∃n∈nms,(tb n).2=b
 have core:∀H:Hp,SqL K H a (ns.map V.int)->HOk P w H s_1.heap->(∀b,H b≠none->(b=a/\∃o xs,H b=some (.frz o (.lst xs)))\/(isP b/\H b=some (.tbl #[])))->(∀b,isP b->H b=some (.tbl #[]))->(H a≠none->K.lookup a=none) ->
   codeAny (model P w) callerA (.call (.ref fa) ⟨[.ref a],[]⟩) (λr s'=>r=.ok (.ret (.bool true))/\OldK s_1.heap s'.heap/\s'.os=s_1.os/\AllBare s'.gens) s_1:=by
  intro H hS hok hA hPt hK;have base_of:∀ {b:AE} {o:Obj},s_1.heap.get? b=some o->H b=none->(hidT s_1.heap H).get? b=some o:=λe n=>ZkM e n;have noT:∀ {b:AE} {o:Obj},s_1.heap.get? b=some o->o≠tabObj #[]->o.cls≠.type "list"->H b=none:=λ{b o} e n1 n2=>by
   cases q:H b with
   | none=>rfl
   | some u=>
    rcases hA b (by rw[q];simp) with⟨e',_⟩|⟨⟨n,hn,e'⟩,_⟩
    .subst e';rw[ha]at e;cases e;exact absurd rfl n2
    .subst e';rw[hta n hn]at e;cases e;exact absurd rfl n1
  have noA:∀ {b:AE} {o:Obj} {es:Array DictEntry} {ep:Nat},s_1.heap.get? b=some o->o.data=.dict es ep->H b=none:=λ{b o es ep} e d=>by
   cases q:H b with
   | none=>rfl
   | some u=>
    rcases hA b (by rw[q];simp) with⟨e',_⟩|⟨⟨n,hn,e'⟩,_⟩
    .subst e';rw[ha]at e;cases e;have d':Data.seq vs.toArray _=Data.dict es ep:=d;cases d'
    .subst e';rw[hta n hn]at e;cases e;cases d
  have nsK:∀ {b:AE} {m:AC},s_1.heap.Ns b m->(hidT s_1.heap H).Ns b m:=λ{b m} ⟨o,es,ep,e,d,r⟩=>⟨o,es,ep,base_of e (noA e d),d,r⟩;have hKb:K.In (hidT s_1.heap H):=λb o e=>base_of (KX b o e) (by
   cases q:H b with
   | none=>rfl
   | some u=>
    rcases hA b (by rw[q];simp) with⟨e',_⟩|⟨⟨n,hn,e'⟩,_⟩
    .subst e';rw[hK (by rw[q];simp)]at e;cases e
    .subst e';have e1:=KX _ _ e;rw[hta n hn]at e1;have e2:=ZfI hKt e;rw[<-Option.some.inj e1]at e2;cases e2)
  have hM:Mod K mg (hidT s_1.heap H):=⟨hKb,nsK hns,⟨mb,nsK hb,hbb⟩,let ⟨mc,h1,h2⟩:=hlim;⟨mc,nsK h1,h2⟩⟩;have e0:Env0 P w K mg (hidT s_1.heap H) callerA [] s_1 H:=⟨rfl,hM,λb o e=>Zmt e,YCo (Zjw _ _),trivial,λb hb=>absurd (show b∈([]:List AE) from hb) (by simp),hok,.of_eq hg⟩;have hL:∀n∈nms,LamEnv (hidT s_1.heap H) mg (tb n).1 (tb n).2:=λn hn=>by
   obtain⟨bm,ob,b1,b2,b3,b4,b5,b6⟩:=hbm;obtain⟨oc,vc,file,tf,flags,tg,inF,text,tt,c1,c2,c3,r⟩:=CodeHd.of (hT n hn).code (hT n hn).tab;refine⟨⟨oc,vc,file,tf,flags,tg,inF,text,tt,base_of c1 (noT c1 (λz=>by rw[z]at c2;cases c2) (λz=>by rw[c2]at z;exact absurd z (by decide))),c2,c3,r⟩,bm,ob,b1,b2,λz=>?_,λz=>?_,base_of b3 (noT b3 (λz=>by rw[z]at b4;cases b4) (λz=>by rw[b4]at z;exact absurd z (by decide))),b4,b5,b6⟩
   .obtain⟨o,es,ep,e,d,_⟩:=hns;rw[<-z,b3]at e;cases e;rw[b6]at d;cases d
   .rw[z,hta n hn]at b3;cases b3;cases b4
  refine codeAny_mono ((F _ hKb (nsK hns) hL).run callerA [] s_1 H ⟨[.ref a],[]⟩ [.ref a] [.ref a] _ _ hr e0 (hbind s_1 (.ref a)) (.cons rfl .nil) (hsp H (λn hn=>hPt _ ⟨n,hn,rfl⟩) hS)) λr s' h=>?_;cases r with
  | error e=>exact(hCX H e s' h).elim
  | ok fl=>
   cases fl with
   | next=>exact False.elim h
   | brk=>exact False.elim h
   | cont=>exact False.elim h
   | ret u=>
    obtain⟨v,H',os,bare,un,hok',r',q⟩:=h;have q':v=.bl true:=q;subst q';obtain rfl:u=Value.bool true:=r';refine⟨rfl,⟨λb o e=>?_,λb o e=>un.there b o e (by simp)⟩,os,bare⟩;cases q:H b with
    | none=>exact .inl (un.keep b o e q (by intro z;exact absurd (show b∈([]:List AE) from z) (by simp)) (by simp))
    | some u=>
     rcases hA b (by rw[q];simp) with⟨_,ob,xs,z⟩|⟨⟨n,hn,e'⟩,z⟩
     .have z2:=un.frzs b ob _ z;obtain⟨e1,_⟩:=hok b _ z;obtain⟨e2,_⟩:=hok' b _ z2;rw[e]at e1;cases e1;exact .inl e2
     .obtain⟨more,z2⟩:=un.tbls b _ z;have e1:s_1.heap.get? b=some (tabObj #[]):=hok b _ z;have e2:s'.heap.get? b=some (tabObj (#[]++more)):=hok' b _ z2;rw[e]at e1;cases e1;exact .inr (.inl ⟨by rw[<-e'];exact(hT n hn).tab.isCodeTable,rfl,#[],more,rfl,e2⟩)
 cases hk:K.lookup a with
 | some o=>
  have e:=KX a o hk;rw[ha]at e;cases e
  haveI:DecidablePred isP:=λ_=>Classical.propDecidable _
  refine core (λb=>if isP b then some (.tbl #[]) else none) (.inr ⟨_,vs.toArray,_,hk,rfl,rfl,rfl,by rw[YAO,lenV];exact hl,by simpa using rv⟩) (λb u z=>?_) (λb z=>?_) (λb hb=>YAM hb) λz=>?_
  .by_cases hb:isP b
   .have z':=(YAM hb).symm.trans z;cases z';obtain⟨n,hn,rfl⟩:=hb;exact hta n hn
   .have z':=(YAJ hb).symm.trans z;cases z'
  .by_cases hb:isP b
   .exact .inr ⟨hb,YAM hb⟩
   .exact absurd (YAJ hb) z
  .have:¬isP a:=λ⟨n,hn,e⟩=>aP n hn e;exact absurd (YAJ this) z
 | none=>
  haveI:DecidablePred isP:=λ_=>Classical.propDecidable _
  refine core (λb=>if b=a then some (.frz { cls:=.type "list",data:=.seq vs.toArray } (.lst (ns.map V.int))) else if isP b then some (.tbl #[]) else none) (.inl (.inr ⟨{ cls:=.type "list",data:=.seq vs.toArray },YAM rfl⟩)) (λb u z=>?_) (λb z=>?_) (λb hb=>?_) λ_=>hk
  .by_cases hb:b=a
   .have z':=(YAM hb).symm.trans z;cases z';subst hb;exact⟨ha,by rw[YAB];exact hl,vs,_,rv,ha⟩
   .have z':=(YAJ hb).symm.trans z;by_cases hp:isP b
    .have z2:=(YAM hp).symm.trans z';cases z2;obtain⟨n,hn,rfl⟩:=hp;exact hta n hn
    .have z2:=(YAJ hp).symm.trans z';cases z2
  .by_cases hb:b=a
   .exact .inl ⟨hb,_,_,YAM hb⟩
   .by_cases hp:isP b
    .exact .inr ⟨hp,by rw[YAJ hb,YAM hp]⟩
    .exact absurd (by rw[YAJ hb,YAJ hp]) z
  .have nb:b≠a:=by obtain⟨n,hn,rfl⟩:=hb;exact aP n hn
   rw[YAJ nb,YAM hb]
theorem walk_ofT {l:PySem.W.OpenLaw}{n k:Nat}{q:AH}{loose:AK}{XP:(AC)->Heap->Prop}{YP:AJ->Heap->Prop}{d:DefRec}{K:Params->Q4}{CX:CXT}{sp:Q4->(Str->AE×AE)->Sp}{x:Str}(nms:AK)
  (hn:l.most=some n) (hn2:n<=sizeLine) (hdf:d.params.defaults=[]) (hr:Room k callerA)
  (hY:∀(w:AJ) (h:Heap),YP w h->(K w.params).In h) (hKt:∀P:Params,Zku (K P)=true) (hnm:(nms.all λn=>(recsOf q).any λe=>e.name == n)=true)
  (F:∀(w:AJ) (mg:AC) (fa:AE) (h:Heap) (tb:Str->AE×AE),(K w.params).In h->h.Ns mainGlobals mg->mg d.name=some (.ref fa)->(∀n∈nms,TabOf mg h n (tb n).1 (tb n).2) ->
   ∃fd:AG,(∀(s:AF) (u:Value),BindsTo s fd ⟨[u],[]⟩ [(x,u)]) /\
    ∀base:Heap,(K w.params).In base->base.Ns mainGlobals mg->(∀n∈nms,LamEnv base mg (tb n).1 (tb n).2)->FnOk l.prog w (K w.params) mg base CX k fa fd [x] (sp (K w.params) tb))
  (hsp:∀(K:Q4) (tb:Str->AE×AE) (H:Hp) (a:AE) (ns:List Int),ns.length<=n->(∀n∈nms,H (tb n).2=some (.tbl #[]))->SqL K H a (ns.map V.int)->sp K tb [.ref a] H (λv _=>v=.bl true) λ_ _ _=>False)
  (hCX:∀(H:Hp) (s:AF) (e:Value) (s':AF),CX [] H s (λ_ _ _=>False) e s'->False):
  PySem.W.WalkO q loose XP YP l.row.toRowW d [] (λf vs=>PySem.call f vs):=by
 refine Att.attach_call hn hdf λw s_0 s_1 mg mb fa o pm cd doc a vs ns G Y ho hd hcd hmg hobj hints Au hg=>?_;have KX:=hY w _ Y;have ex:∀n:Str,∃cp:AE×AE,n∈nms->TabOf mg s_1.heap n cp.1 cp.2:=λn=>by
  by_cases h:n∈nms
  .rw[YBW]at hnm;have:=hnm n h;rw[YCG]at this;obtain⟨e,he,en⟩:=this;have en:e.name=n:=by simpa using en
   obtain⟨a',o',fd',c,P,h1,h2,h3,h4,h5,h6⟩:=G.T.tab e he;exact⟨(c,P),λ_=>⟨⟨a',o',fd',by rw[<-en];exact h1,h2,h3,h4⟩,h5,h6⟩⟩
  .exact⟨(0,0),λz=>absurd z h⟩
 obtain⟨tb,htb⟩:=Classical.skolem.mp ex;obtain⟨fd,hb,hF⟩:=F w mg fa _ tb KX G.T.g hmg htb;exact Zjc KX G.T.g G.T.b G.T.builtins G.T.nolimit hg hobj hints (YAK Au hn2) hr htb (hKt _) G.T.bmain hF hb (λH hP hS=>hsp (K w.params) tb H a ns Au hP hS) λH e s'=>hCX H s_1 e s'
section
variable {P:AH}{w:AJ}{K:Q4}{mg:AC}{base:Heap}
theorem Fun.okC {x qual:Str}{st:Stmt}{f:AE}{fd:AG}{N ps:AK}{k:Nat}{sp:Sp}{c:Value}(F:Fun K x qual st f fd)(hc:fd.code=c)(S:FnScope N ps (Zaj st))(len:∀vs H Q E,sp vs H Q E->vs.length=ps.length)
  (body:∀(A:AI) (outer:List Env) (s:AF) (H:Hp) (vs:List V) (Q:VK) (E:XK),Room k (A.deeper (envOfC qual (Zaj st) s.heap.objs.size f c))->sp vs H Q E ->
   ∃t,PSs (cxOf CX0 P w K mg base N qual (Zaj st) f c A outer s H E).nox (ZaL st) t/\t { nx:=λ_ H'=>Q .non H',rt:=Q } (start N vs) H):FnOk P w K mg base CX0 (k+1) f fd ps sp:=by
 obtain⟨⟨oc,od,kV,doc,pm,an,As,ct,osl,rfl,l,cc⟩,_⟩:=F;obtain rfl:As=c:=hc;refine Zo1 l cc S len λA outer s H vs Q E hr hsp=>?_;obtain⟨t,h,q⟩:=body A outer s H vs Q E hr hsp;exact⟨t,h.nox,q⟩
theorem Fun.at {x qual:Str}{st:Stmt}{f:AE}{fd:AG}{h:Heap}(F:Fun K x qual st f fd)(KX:K.In h):∃o,h.get? f=some o/\o.data=.func fd:=by obtain⟨⟨oc,od,kV,doc,pm,an,As,ct,osl,rfl,l,cc⟩,_⟩:=F;exact⟨_,KX _ _ l,rfl⟩
end
end L2
namespace L2
open PySem PySem.Spec PyProof.Rows
section
end
section
end
end L2
namespace PySem
section
variable {prog:AH}{w:AJ}{K:Type}[DecidableEq K]{knd:HeapKind prog w K}{A:AI}{E:Q33}{s:AF}
end
end PySem
namespace L2
open PySem PySem.Spec PyProof.Rows
section
end
end L2
namespace L2
open PySem PySem.Spec PyProof.Rows PySem.W
section
end
section
end
section
end
end L2
namespace L2
open PySem PySem.Spec PyProof.Rows
section
end
end L2
namespace L2
open PySem PySem.Spec PyProof.Rows PySem.W
noncomputable def Itv (o:Obj)(kvs:List (Key×V))(a:AE):It:=
 ⟨λi H=>H a=some (.frz o (.dK kvs))/\i<kvs.length,λi H x H'=>H'=H/\∃p,kvs[i]?=some p/\x=p.2,λi H=>H a=some (.frz o (.dK kvs))/\kvs.length<=i⟩
section
end
section
end
section
end
end L2
namespace PySem
noncomputable def RawD (h:Heap) (d:AE) (es:Array DictEntry) (ep:Nat):Prop:=∃o,h.get? d=some o/\o.ExactDict/\o.data=.dict es ep
section
theorem RawD.at (x:RawD h d es ep)(e:∀o,h.get? d=some o->h'.get? d=some o):RawD h' d es ep:=let ⟨o,ho,r⟩:=x;⟨o,e _ ho,r⟩
end
end PySem
namespace L2
open PySem PySem.Spec PyProof.Rows PySem.W
theorem KT.at (r:KT H kvs xs):∀(i:Nat) (x:List Key×V) (u:List Key×AE×Value),kvs[i]?=some x->xs[i]?=some u->RelV x.2 u.2.2:=by
 induction r with
 | nil=>intro i x u h;simp at h
 | cons hd _ ih=>
  intro i x u h1 h2;cases i with
  | zero=>
   have e1:=Option.some.inj h1;have e2:=Option.some.inj h2;rw[<-e1,<-e2];exact hd.2.2
  | succ i=>exact ih i x u (by simpa using h1) (by simpa using h2)
section
end
end L2
namespace L2
open PySem PySem.Spec PyProof.Rows
section
end
section
end
noncomputable def noStar:Expr->Bool
 | .Starred ..=>false
 | _=>true
theorem Zl2 (h:noStar e=true):starEach (e::es) env=(false,eval e env)::starEach es env:=by cases e<;>first | rfl | cases h
structure PAz (X:Cx)(es:List Expr)(t:TA):Prop where
 h:PA X es t
theorem Zmj:PAz X [] tNil:=⟨Zac⟩
theorem Zbj (ha:PE X e te)(hr:PAz X es t)(h:noStar e=true:=by rfl):PAz X (e::es) (ZlZ te t):=⟨Zaa ha hr.h (Zl2 h)⟩
theorem Zmg (ha:PAz X es t):PE X (.List es pos) (tLst t):=ZbX ha.h
abbrev KR:=Int×Q11
noncomputable def ltR:KR->KR->Bool:=lexB (λa b=>decide (a<b)) λa b=>decide (a<b)
section
end
section
end
section
end
end L2
namespace L2
open PySem PySem.Spec PyProof.Rows PySem.W
section
end
end L2
namespace L2
open PySem PySem.Spec PyProof.Rows
open PySem.W (Frag)
section
end
def Za9 (t:TS):TS:=t
theorem Zad {X:Cx}{st:List Stmt}{t:TS}(h:PSs X st t):PSs X st (Za9 t):=h
theorem Zag (h:t D U H):Za9 t D U H:=h
section
end
def Chg (S:List AE)(H H':Hp):Prop:=∀b o,H b=some o->b∉S->Zds o=false->H' b=some o
theorem SameL.chg (s:SameL H H'):Chg S H H':=λb o e _ t=>s b o e t
theorem Same.chg (s:Same H H'):Chg S H H':=λb o e _ _=>s b o e
theorem Chg.trans (a:Chg S H H1)(b:Chg S H1 H2):Chg S H H2:=λc o e n t=>b c o (a c o e n t) n t
theorem Chg.upd (h:a∈S):Chg S H (upd H a o):=λb u e n _=>by rw[Zah (show b≠a from λz=>n (by rw[z];exact h))];exact e
theorem Chg.mono (h:Chg S H H')(k:∀b∈S,b∈S'):Chg S' H H':=λb o e n t=>h b o e (λz=>n (k b z)) t
theorem Chg.l (h:Chg [] H H'):SameL H H':=λb o e t=>h b o e (by simp) t
def Nw (H:Hp)(r:AE):Prop:=∀o,H r=some o->Zds o=true
theorem Nw.of (h:H r=none):Nw H r:=λo e=>by rw[h]at e;cases e
theorem Nw.ne (n:Nw H r)(h:H b=some o)(t:Zds o=false):b≠r:=λz=>by rw[z]at h;rw[n o h]at t;cases t
theorem Nw.l (n:Nw H1 r)(s:SameL H H1):Nw H r:=λo e=>by
 cases t:Zds o with
 | true=>rfl
 | false=>rw[<-t];exact n o (s r o e t)
theorem Nw.same (n:Nw H1 r)(s:Same H H1):Nw H r:=n.l s.l
theorem Nw.chg (n:Nw H1 r)(c:Chg S H H1)(hS:∀b∈S,∃o,H1 b=some o/\Zds o=false):Nw H r:=λo e=>by
 by_cases z:r∈S
 .obtain⟨u,hu,tu⟩:=hS r z;exact absurd rfl (n.ne hu tu)
 .cases t:Zds o with
  | true=>rfl
  | false=>rw[<-t];exact n o (c r o e z t)
noncomputable def ZkK:HO->Bool
 | .ext _=>true
 | _=>false
theorem TblOk.upd (T:TblOk H P pos q)(h:H a=some o)(t:Zds o=false)(x:ZkK o=false):TblOk (L2.upd H a o') P pos q:=by
 obtain⟨ps,e,tr,hc⟩:=T;refine⟨ps,?_,tr,hc.imp id ?_⟩
 .rw[Zah (λz=>by rw[z,h]at e;cases e;cases t)];exact e
 .rintro⟨c,e1,e2⟩;refine⟨c,e1,?_⟩;rw[Zah (λz=>by rw[z,h]at e2;unfold Zfo at e2;cases e2;cases x)];exact e2
def RowA (H:Hp)(y:V)(r:Q11×List V):Prop:=∃a b,y=.ref a/\H a=some (.tup [tx r.1,.ref b])/\H b=some (.tup r.2)
def RowsA (H:Hp)(ys:List V)(rs:List (Q11×List V)):Prop:=ys.length=rs.length/\∀(i:Nat) (y:V),ys[i]?=some y->∃r,rs[i]?=some r/\RowA H y r
theorem RowsA.chg (h:RowsA H ys rs)(c:Chg S H H')(hS:∀b∈S,∀us,H b≠some (.tup us)):RowsA H' ys rs:=by refine⟨h.1,λi y hy=>?_⟩;obtain⟨r,hr,a,b,e,h1,h2⟩:=h.2 i y hy;exact⟨r,hr,a,b,e,c _ _ h1 (λz=>hS _ z _ h1) rfl,c _ _ h2 (λz=>hS _ z _ h2) rfl⟩
theorem RowsA.l (h:RowsA H ys rs)(s:SameL H H'):RowsA H' ys rs:=h.chg (S:=[]) s.chg (by simp)
def rowD (r:Q11×List V):DT:=.t [.f (tx r.1),.t (r.2.map .f)]
theorem Zfg {K:Q4}{H:Hp}:∀ {ds:List DT} {vs:List V},vs.length=ds.length->(∀(i:Nat) (v:V),vs[i]?=some v->∃d,ds[i]?=some d/\DatOk K H d v)->DatsOk K H ds vs
 | [],[],_,_=>by unfold DatsOk;rfl
 | [],_::_,h,_=>by simp at h
 | _::_,[],h,_=>by simp at h
 | d::ds,v::vs,h,g=>by unfold DatsOk;obtain⟨d',e,hd⟩:=g 0 v rfl;cases e;exact⟨v,vs,rfl,hd,Zfg (by simpa using h) λi u hu=>g (i+1) u hu⟩
theorem RowA.dat {K:Q4}{H:Hp}{y:V}{r:Q11×List V}(h:RowA H y r)(hf:r.2.all Zbp=true):DatOk K H (rowD r) y:=by obtain⟨a,b,rfl,h1,h2⟩:=h;unfold rowD DatOk;refine⟨a,_,rfl,.mk h1,?_⟩;unfold DatsOk;refine⟨_,_,rfl,datF rfl,?_⟩;unfold DatsOk;refine⟨_,_,rfl,datT (.mk h2) hf,?_⟩;unfold DatsOk;rfl
theorem RowsA.dat {K:Q4}{H:Hp}{ys:List V}{rs:List (Q11×List V)}(h:RowsA H ys rs)(hf:∀r∈rs,r.2.all Zbp=true):DatsOk K H (rs.map rowD) ys:=by refine Zfg (by rw[YAB];exact h.1) λi y hy=>?_;obtain⟨r,hr,ra⟩:=h.2 i y hy;exact⟨rowD r,by rw[YAQ,hr];rfl,ra.dat (hf r (YAh hr))⟩
theorem Zbt:∀ {ds:List DT},(∀d∈ds,deq d d=true)->deqs ds ds=true
 | [],_=>by unfold deqs;rfl
 | d::ds,h=>by unfold deqs;rw[h d YAd,Zbt λe he=>h e (YAV _ he)];rfl
theorem ZhO (hf:r.2.all Zbp=true):deq (rowD r) (rowD r)=true:=by
 unfold rowD deq;refine Zbt λd hd=>?_;rcases YAH.mp hd with rfl | hd
 .unfold deq;exact ZdD rfl
 .rw[YAI.mp hd];unfold deq;exact Zb0 hf
theorem ZcM {n:Nat}:∀ {ds:List DT},(∀d∈ds,dep d<=n)->deps ds<=n
 | [],_=>by unfold deps;exact YAt _
 | d::ds,h=>by unfold deps;exact Nat.max_le.mpr ⟨h d YAd,ZcM λe he=>h e (YAV _ he)⟩
theorem Zk3 (r:Q11×List V):dep (rowD r)<=2:=by
 unfold rowD dep;refine YBj (ZcM λd hd=>?_);rcases YAH.mp hd with rfl | hd
 .unfold dep;exact YAt _
 .rw[YAI.mp hd];unfold dep;rw[Zb1];exact YAP _
def ansD (rc rg:List (Q11×List V)):DT:=.t [.l (rc.map rowD),.l (rg.map rowD)]
def Zgm (rs:List (Q11×List V)):Prop:=∀r∈rs,r.2.all Zbp=true
theorem ZjZ {K:Q4}{H:Hp}{t c g:AE}{ys zs:List V}{rc rg:List (Q11×List V)}(ht:H t=some (.tup [.ref c,.ref g]))(hc:SqL K H c ys)(hg:SqL K H g zs)(h1:RowsA H ys rc)(h2:RowsA H zs rg)(f1:Zgm rc)(f2:Zgm rg):DatOk K H (ansD rc rg) (.ref t):=by
 unfold ansD DatOk;refine⟨t,_,rfl,.mk ht,?_⟩;unfold DatsOk;refine⟨_,_,rfl,?_,?_⟩
 .unfold DatOk;exact⟨c,ys,rfl,hc,h1.dat f1⟩
 .unfold DatsOk;refine⟨_,_,rfl,?_,?_⟩
  .unfold DatOk;exact⟨g,zs,rfl,hg,h2.dat f2⟩
  .unfold DatsOk;rfl
theorem Zpd (f1:Zgm rc)(f2:Zgm rg):deq (ansD rc rg) (ansD rc rg)=true:=by
 unfold ansD deq;refine Zbt λd hd=>?_;rcases YAH.mp hd with rfl | hd
 .unfold deq;refine Zbt λd hd=>?_;obtain⟨r,hr,rfl⟩:=YAa.mp hd;exact ZhO (f1 r hr)
 .rw[YAI.mp hd];unfold deq;refine Zbt λd hd=>?_;obtain⟨r,hr,rfl⟩:=YAa.mp hd;exact ZhO (f2 r hr)
theorem Zm4 (rc rg:List (Q11×List V)):dep (ansD rc rg)<=60:=by
 unfold ansD dep;refine YAK (YBj (ZcM (n:=3) λd hd=>?_)) (by decide);have go:∀rs:List (Q11×List V),dep (.l (rs.map rowD))<=3:=λrs=>by unfold dep;refine YBj (ZcM λd hd=>?_);obtain⟨r,hr,rfl⟩:=YAa.mp hd;exact Zk3 r
 rcases YAH.mp hd with rfl | hd
 .exact go _
 .rw[YAI.mp hd];exact go _
def ZcE (rs:Q11)(s L m:Q11):List (Q11×List V):=(opnL s L m).map λw=>(w,[tx rs,tx (shOf s w),.int (fpl L (shOf s w):Nat)])
def ZcJ (rs:Q11)(s L m:Q11):List (Q11×List V):=(filL s L m).map λw=>(w,[tx rs,.int (fpl L w:Nat)])
theorem ZhH (rs s L m:Q11):Zgm (ZcE rs s L m):=λr hr=>by obtain⟨w,_,rfl⟩:=YAa.mp hr;rfl
theorem ZhI (rs s L m:Q11):Zgm (ZcJ rs s L m):=λr hr=>by obtain⟨w,_,rfl⟩:=YAa.mp hr;rfl
noncomputable def PUT:Q11:=[112,117,116]
noncomputable def DROP:Q11:=[100,114,111,112]
def Zga (d:Bool×Nat):List V:=[tx (if d.1 then PUT else DROP),tx [d.2]]
def DeedsA (H:Hp)(ts:List V)(ds:List (Bool×Nat)):Prop:=ts.length=ds.length/\∀(i:Nat) (y:V),ts[i]?=some y->∃d,ds[i]?=some d/\∃t,y=.ref t/\H t=some (.tup (Zga d))
theorem DeedsA.chg (h:DeedsA H ts ds)(c:Chg S H H')(hS:∀b∈S,∀us,H b≠some (.tup us)):DeedsA H' ts ds:=by refine⟨h.1,λi y hy=>?_⟩;obtain⟨d,hd,t,e,ht⟩:=h.2 i y hy;exact⟨d,hd,t,e,c _ _ ht (λz=>hS _ z _ ht) rfl⟩
theorem DeedsA.snoc (h:DeedsA H ts ds)(ht:H t=some (.tup (Zga d))):DeedsA H (ts++[.ref t]) (ds++[d]):=by
 refine⟨by rw[YAG,YAG,h.1];rfl,λi y hy=>?_⟩;by_cases z:i<ts.length
 .rw[YBC z]at hy;obtain⟨d',hd,r⟩:=h.2 i y hy;exact⟨d',by rw[YBC (by rw[<-h.1];exact z)];exact hd,r⟩
 .rw[YBA (by lia)]at hy;have e:i-ts.length=0:=by
   rcases Nat.eq_zero_or_pos (i-ts.length) with q | q
   .exact q
   .rw[YBb (by simp;lia)]at hy;cases hy
  rw[e]at hy;cases hy;refine⟨d,?_,t,rfl,ht⟩;rw[YBA (by rw[<-h.1];lia),<-h.1,e];rfl
theorem DeedsA.init (h:DeedsA H ts (ds++[d])):∃ts' t,ts=ts'++[.ref t]/\H t=some (.tup (Zga d))/\DeedsA H ts' ds:=by
 have hl:ts.length=ds.length+1:=by rw[h.1];simp
 have ne:ts≠[]:=λe=>by rw[e]at hl;simp at hl
 have e:=YCi ne;have hlast:ts[ds.length]?=some (ts.getLast ne):=by rw[List.getLast_eq_getElem,YAL (by lia)];congr 2;lia
 obtain⟨d',hd,t,et,ht⟩:=h.2 _ _ hlast;rw[YBA (YAP _),YDQ]at hd;cases hd;refine⟨ts.dropLast,t,by rw[<-et];exact e.symm,ht,by rw[YBJ];lia,λi y hy=>?_⟩;rw[YDR,YCg]at hy;by_cases z:i<ts.length-1
 .rw[YAM z]at hy;obtain⟨d',hd,r⟩:=h.2 i y hy;rw[YBC (by lia)]at hd;exact⟨d',hd,r⟩
 .rw[YAJ z]at hy;cases hy
def Zd7 (d:Bool×Nat):DT:=.t ((Zga d).map .f)
theorem DeedsA.dat {K:Q4}{H:Hp}{ts:List V}{ds:List (Bool×Nat)}(h:DeedsA H ts ds):DatsOk K H (ds.map Zd7) ts:=by refine Zfg (by rw[YAB];exact h.1) λi y hy=>?_;obtain⟨d,hd,t,rfl,ht⟩:=h.2 i y hy;exact⟨Zd7 d,by rw[YAQ,hd];rfl,datT (.mk ht) rfl⟩
theorem ZjH (d:Bool×Nat):deq (Zd7 d) (Zd7 d)=true:=by unfold Zd7 deq;exact Zb0 rfl
theorem ZjI (d:Bool×Nat):dep (Zd7 d)<=1:=by unfold Zd7 dep;rw[Zb1];exact YAP _
inductive Run (m:Q11):List (Bool×Nat)->Q11->Prop
 | nil:Run m [] []
 | put {ds:List (Bool×Nat)} {l:Q11} {c:Nat} (h:Run m ds l) (hc:c∈m) (hl:l.length<40):Run m (ds++[(true,c)]) (l++[c])
 | drop {ds:List (Bool×Nat)} {l:Q11} {c:Nat} (h:Run m ds (c::l)):Run m (ds++[(false,c)]) l
theorem Run.len (h:Run m ds l):l.length<=40:=by
 induction h with
 | nil=>simp
 | put h hc hl ih=>simp;lia
 | drop h ih=>simp at ih;lia
theorem Run.mem (h:Run m ds l):∀x∈l,x∈m:=by
 induction h with
 | nil=>intro x hx;cases hx
 | put h hc hl ih=>
  intro x hx;rcases YAR.mp hx with hx | hx
  .exact ih x hx
  .rw[YAI.mp hx];exact hc
 | drop h ih=>exact λx hx=>ih x (YAV _ hx)
theorem Run.last (h:Run m ds' l)(ne:ds'≠[]):∃ds c,(ds'=ds++[(true,c)]/\∃l0,l=l0++[c]/\Run m ds l0)\/(ds'=ds++[(false,c)]/\Run m ds (c::l)):=by
 cases h with
 | nil=>exact absurd rfl ne
 | put h hc hl=>exact⟨_,_,.inl ⟨rfl,_,rfl,h⟩⟩
 | drop h=>exact⟨_,_,.inr ⟨rfl,h⟩⟩
def sF (l m:Q11)(la da:AE):List (Str×V):=[("own_text",tx l),("own_kinds",tx m),("own_lacking",.ref la),("own_deeds",.ref da)]
theorem f_tk:¬(("own_text":Str)="own_kinds"):=by decide +kernel
theorem f_tl:¬(("own_text":Str)="own_lacking"):=by decide +kernel
theorem f_td:¬(("own_text":Str)="own_deeds"):=by decide +kernel
theorem f_kl:¬(("own_kinds":Str)="own_lacking"):=by decide +kernel
theorem f_kd:¬(("own_kinds":Str)="own_deeds"):=by decide +kernel
theorem f_ld:¬(("own_lacking":Str)="own_deeds"):=by decide +kernel
theorem ZeT:putF f v ((f,x)::r)=(f,v)::r:=by unfold putF;rw[YAM rfl]
theorem Zbe (h:¬g=f):putF f v ((g,x)::r)=(g,x)::putF f v r:=by
 conv=>lhs;unfold putF
 rw[YAJ h]
theorem ZiM:putF "own_text" (tx l') (sF l m la da)=sF l' m la da:=ZeT
theorem ZiN:putF "own_lacking" (.ref la') (sF l m la da)=sF l m la' da:=by unfold sF;rw[Zbe f_tl,Zbe f_kl,ZeT]
theorem Zke:putF "own_deeds" (.ref da') (sF l m la da)=sF l m la da':=by unfold sF;rw[Zbe f_td,Zbe f_kd,Zbe f_ld,ZeT]
theorem Zll:putF "own_deeds" (.ref da) (putF "own_lacking" (.ref la) (putF "own_kinds" (tx m) (putF "own_text" (tx l) [])))=sF l m la da:=by have e2:∀(f:Str) (v:V),putF f v []=[(f,v)]:=λ_ _=>rfl;rw[e2,Zbe f_tk,e2,Zbe f_tl,Zbe f_kl,e2,Zbe f_td,Zbe f_kd,Zbe f_ld,e2];rfl
theorem Zfx:sF l m la da=putF "own_deeds" (.ref da) (putF "own_lacking" (.ref la) (putF "own_kinds" (tx m) (putF "own_text" (tx l) []))):=Zll.symm
theorem Zbc:(sF l m la da).lookup ("own_text":Str)=some (tx l):=by rw[Zfx,Zas,YAJ f_td,Zas,YAJ f_tl,Zas,YAJ f_tk,Zas,YAM rfl]
theorem Zch:(sF l m la da).lookup ("own_kinds":Str)=some (tx m):=by rw[Zfx,Zas,YAJ f_kd,Zas,YAJ f_kl,Zas,YAM rfl]
theorem Zdv:(sF l m la da).lookup ("own_lacking":Str)=some (.ref la):=by rw[Zfx,Zas,YAJ f_ld,Zas,YAM rfl]
theorem Zbz:(sF l m la da).lookup ("own_deeds":Str)=some (.ref da):=by rw[Zfx,Zas,YAM rfl]
theorem Zp8 {l m:Q11} {la da:AE} {x:Str} (h1:¬x="own_text") (h2:¬x="own_kinds") (h3:¬x="own_lacking") (h4:¬x="own_deeds"):(sF l m la da).lookup x=none:=by rw[Zfx,Zas,YAJ h4,Zas,YAJ h3,Zas,YAJ h2,Zas,YAJ h1];rfl
noncomputable def LETx:Q11:=[97,98,99,100,101,102,103,104,105,106,107,108,109,110,111,112,113,114,115,116,117,118,119,120,121,122]
def iskx (l:Q11):Bool:=decide (1<=l.length)&&decide (l.length<=4)&&(l.all λc=>LETx.contains c)&&decide (signs l=Zbs (ddl (signs l)))
def Zdq (C:AE)(H:Hp)(p la da:AE)(l m:Q11):Prop:=∃dx,H p=some (.ins C dx (sF l m la da))
structure KindsOk (m:Q11):Prop where
 k:iskx m=true
 m1:1<=m.length
 m4:m.length<=4
 rise:m.Pairwise (· < ·)
structure StripAt (C:AE)(H:Hp)(p la da:AE)(l m:Q11)(ds:List (Bool×Nat)):Prop where
 fld:Zdq C H p la da l m
 lack:H la=some (.lst ((Zaq l m).map tx))
 deed:∃ts,H da=some (.lst ts)/\DeedsA H ts ds
 run:Run m ds l
 ok:KindsOk m
 ne:la≠da
theorem StripAt.chg (h:StripAt C H p la da l m ds)(c:Chg S H H')(hS:∀b∈S,∀us,H b≠some (.tup us))(n1:p∉S)(n2:la∉S)(n3:da∉S):StripAt C H' p la da l m ds:=by obtain⟨⟨dx,f⟩,k,⟨ts,d1,d2⟩,r,o,n⟩:=h;exact⟨⟨dx,c _ _ f n1 rfl⟩,c _ _ k n2 rfl,⟨ts,c _ _ d1 n3 rfl,d2.chg c hS⟩,r,o,n⟩
theorem StripAt.l {C:AE}{H H':Hp}{p la da:AE}{l m:Q11}{ds:List (Bool×Nat)}(h:StripAt C H p la da l m ds)(s:SameL H H'):StripAt C H' p la da l m ds:=h.chg (S:=[]) s.chg (by simp) (by simp) (by simp) (by simp)
theorem StripAt.same {C:AE}{H H':Hp}{p la da:AE}{l m:Q11}{ds:List (Bool×Nat)}(h:StripAt C H p la da l m ds)(s:Same H H'):StripAt C H' p la da l m ds:=h.l s.l
structure AnsS (H H2:Hp)(t c g la:AE)(rc rg:List (Q11×List V)):Prop where
 tup:H2 t=some (.tup [.ref c,.ref g])
 came:∃ys,H2 c=some (.lst ys)/\RowsA H2 ys rc
 went:∃zs,H2 g=some (.lst zs)/\RowsA H2 zs rg
 nc:Nw H c
 ng:Nw H g
 nl:Nw H la
 ncg:c≠g
 ncl:c≠la
 ngl:g≠la
open PySem.W (Frag)
section
variable {tt:TT}{te:TE}{Q:VK}{τ0:St}{H:Hp}{K:Frag}{a:AE}{xs:List V}
theorem CompRun.dataF (b:Nat->Bool)(D:Hp->V->Nat->Prop)(mono:∀H H' y i,(∀c us,H c=some (.tup us)->H' c=some (.tup us))->D H y i->D H' y i)(hz:xs.length<=100000)(hx:SqL K H a xs)
  (ht:∀i H' Q' (h:i<xs.length),Same H H'->(∀H'',Same H' H''->Q' (b i) H'')->tt (τ0.set 0 (some (xs.getD i .non))) H' Q')
  (he:∀i H' Q' (h:i<xs.length),b i=true->Same H H'->(∀y H'',Same H' H''->D H'' y i->Q' y H'')->te (τ0.set 0 (some (xs.getD i .non))) H' Q')
  (hQ:∀p ys H',Same H H'->H p=none->H' p=some (.lst ys)->ys.length=((List.range xs.length).filter b).length->(∀(k:Nat) (y:V),ys[k]?=some y->∃i,((List.range xs.length).filter b)[k]?=some i/\D H' y i)->Q (.ref p) H'):CompRun (Itl K a) τ0 (ZcL 0) tt te H Q:=by
 intro acc ha;refine⟨λi m τ H2=>i<=xs.length/\m=xs.length-i/\(∀w:Option V,τ.set 0 w=τ0.set 0 w)/\Same H H2/\∃ys,H2 acc=some (.lst ys)/\ys.length=((List.range i).filter b).length/\∀(k:Nat) (y:V),ys[k]?=some y->∃j,((List.range i).filter b)[k]?=some j/\D H2 y j,
  ⟨xs.length,YAt _,rfl,λ_=>rfl,Zat ha,[],Zae,rfl,λi y h=>by simp at h⟩,?_⟩
 rintro i m τ H2 ⟨hi,rfl,hτ,hs,ys,Av,Au,hall⟩;by_cases A2:i<xs.length
 .refine .inr ⟨⟨xs,xs[i],hs.seq hx,by simp[A2]⟩,λτ' H'=>(∀w:Option V,τ'.set 0 w=τ0.set 0 w)/\Same H H'/\∃ys,H' acc=some (.lst ys)/\ys.length=((List.range (i+1)).filter b).length/\∀(k:Nat) (y:V),ys[k]?=some y->∃j,((List.range (i+1)).filter b)[k]?=some j/\D H' y j,λτ' H' q=>⟨xs.length-(i+1),by lia,A2,rfl,q⟩,λx H3 y=>?_⟩;obtain⟨rfl,y⟩:=y;have ex:x=xs.getD i .non:=by rw[YAT,y xs (hs.seq hx)];rfl
  subst ex;show tt (τ.set 0 (some (xs.getD i .non))) _ _;rw[hτ];have hτ':∀w:Option V,(τ0.set 0 (some (xs.getD i .non))).set 0 w=τ0.set 0 w:=λw=>by rw[List.set_set]
  refine ht i _ _ A2 hs λH4 s4=>?_;cases hb:b i with
  | false=>
   rw[YAJ YAC];have ef:(List.range (i+1)).filter b=(List.range i).filter b:=by rw[YBo,YBp];simp[hb]
   refine⟨hτ',hs.trans s4,ys,s4 _ _ Av,by rw[ef];exact Au,λk y hy=>?_⟩;obtain⟨j,h1,h2⟩:=hall k y hy;exact⟨j,by rw[ef];exact h1,mono _ _ _ _ (λc us e=>s4 _ _ e) h2⟩
  | true=>
   rw[YAM rfl];have ef:(List.range (i+1)).filter b=(List.range i).filter b++[i]:=by rw[YBo,YBp];simp[hb]
   have fl:=YAm b (List.range i);rw[YBM]at fl;refine he i _ _ A2 hb (hs.trans s4) λy H5 s5 hD=>⟨ys,s5 _ _ (s4 _ _ Av),by rw[Au,sizeLine_eq];lia,hτ',same_upd3' ha ((hs.trans s4).trans s5),ys++[y],Zae,by rw[ef,YAG,YAG,Au];rfl,λk z hz'=>?_⟩;have ne:∀c us,H5 c=some (.tup us)->upd H5 acc (.lst (ys++[y])) c=some (.tup us):=λc us h=>by rw[Zah (λe=>by rw[e,s5 _ _ (s4 _ _ Av)]at h;cases h)];exact h
   rw[ef];by_cases hk:k<ys.length
   .rw[YBC hk]at hz';obtain⟨j,h1,h2⟩:=hall k z hz';exact⟨j,by rw[YBC (by rw[<-Au];exact hk)];exact h1,mono _ _ _ _ ne (mono _ _ _ _ (λc us e=>s5 _ _ (s4 _ _ e)) h2)⟩
   .rw[YBA (by lia)]at hz';have hk':k-ys.length=0:=by
     rcases Nat.eq_zero_or_pos (k-ys.length) with h | h
     .exact h
     .rw[YBb (by simp;lia)]at hz';cases hz'
    rw[hk']at hz';cases hz';exact⟨i,by rw[YBA (by rw[<-Au];lia),<-Au,hk'];rfl,mono _ _ _ _ ne hD⟩
 .have e:i=xs.length:=by lia
  subst e;exact .inl ⟨⟨xs,hs.seq hx,YAP _⟩,hQ acc ys H2 hs ha Av Au hall⟩
end
end L2
namespace L2
open PySem PySem.Spec PyProof.Rows
section
end
section
end
section
theorem Zb8 (hc:X.calm=true):Zcc X (.builtin "sorted") (λxs H Q=>∃a ls,xs=[.ref a]/\H a=some (tset X.prog X.w a ls)/\ls.length<=sizeLine/\NewL ((Zbs ls).map tx) H Q):=by
 rintro Ar s U H xs us Q I r ⟨a,ls,rfl,ha,h64,q⟩;obtain⟨u,rfl,ru⟩:=r.one;cases ru;have hS:TxSet X.prog X.w s.heap a ls (!ZaR X.w):=(I.hok a _ ha).1;refine Zgz (I.ok.hd hc) hS h64 λs' b us e nw k hg ho hb rv=>?_;have hl:(Zbs ls).length<=sizeLine:=by rw[(ZaZ ls).length_eq];exact h64
 exact⟨.ref b,_,I.laid2 (o:=.lst ((Zbs ls).map tx)) ho hg k nw ⟨by rw[YAB];exact hl,us,e,rv,hb⟩,rfl,q b (I.hok.none_of nw)⟩
theorem Zip (hc:X.calm=true):Zcc X (.type "list") (λxs H Q=>∃a kvs,xs=[.ref a]/\Rd H a (.dK kvs)/\NewL (kvs.map λp=>kV p.1) H Q):=by
 rintro Ar s U H xs us Q I r ⟨a,kvs,rfl,ha,q⟩;obtain⟨u,rfl,ru⟩:=r.one;cases ru;obtain⟨z,y,vs,rr,o,es,ep,eo⟩:=ha.ok I.hok;have hm:s.heap.DictAt (ZaB X.prog X.w) a vs ep:=⟨o,es,eo⟩;have hl:vs.length<=sizeLine:=by rw[<-rr.length];exact z
 refine PySem.W.kdl_call (PySem.W.kdl_dict y) (I.ok.hd hc) hm hl λh' tk acc' c' hk hS Av=>?_;have hv:Vals (kvs.map λp=>kV p.1) acc'.toList:=by
  have e1:(kvs.map λp=>kV p.1)=(vs.map λp=>kV p.1):=by
   have e2:(kvs.map λp=>kV p.1)=(kvs.map (·.1)).map kV:=by rw[YAl];rfl
   have e3:(vs.map λp=>kV p.1)=(vs.map (·.1)).map kV:=by rw[YAl];rfl
   rw[e2,e3,rr.keys]
  rw[e1];refine ZcH (by rw[YAB];exact(Array.length_toList.trans Av.1).symm) λi x u h1 h2=>?_;rw[YAr]at h2;obtain⟨k,v,e,hk⟩:=Av.2 i u h2;rw[YAQ,e]at h1;cases h1;exact ZmF hk
 exact⟨.ref s.heap.objs.size,_,I.laid (t':=tk) (o:=.lst (kvs.map λp=>kV p.1)) hk (YAP _) ⟨by rw[YAB];exact z,acc'.toList,c',hv,by rw[YCT];exact hS⟩,rfl,q _ I.fresh⟩
end
end L2
set_option maxHeartbeats 400000000
namespace Pk84
open PySem L2
noncomputable def top (i:Nat):Stmt:=PySem.Challenge.pw_lackword_k84_whole_shelf_ranked.main.body.getD i (.Pass ⟨0,0,0,0⟩)
abbrev s_LG:Stmt:=top 15
abbrev s_LI:Stmt:=top 16
abbrev s_LL:Stmt:=top 17
abbrev s_LC:Stmt:=top 18
abbrev s_K5:Stmt:=top 19
abbrev s_LD:Stmt:=top 20
abbrev s_KP:Stmt:=top 21
abbrev s_LH:Stmt:=top 24
abbrev s_LW:Stmt:=top 25
abbrev s_MB:Stmt:=top 27
abbrev s_LF:Stmt:=top 28
abbrev s_ME:Stmt:=top 29
abbrev s_L1:Stmt:=top 30
abbrev s_K6:Stmt:=top 32
abbrev s_LP:Stmt:=top 33
abbrev s_LE:Stmt:=top 34
abbrev s_LK:Stmt:=top 37
abbrev s_L0:Stmt:=top 40
abbrev s_L3:Stmt:=top 44
abbrev s_L2:Stmt:=top 46
abbrev s_LQ:Stmt:=top 47
abbrev s_LV:Stmt:=top 48
abbrev s_L5:Stmt:=top 51
abbrev s_L9:Stmt:=top 52
abbrev s_L8:Stmt:=top 53
abbrev s_LS:Stmt:=top 54
abbrev s_LM:Stmt:=top 55
abbrev s_LO:Stmt:=top 56
abbrev s_LU:Stmt:=top 57
abbrev s_L4:Stmt:=top 58
abbrev s_MD:Stmt:=top 59
abbrev s_LR:Stmt:=top 60
abbrev s_LT:Stmt:=top 61
abbrev s_L6:Stmt:=top 62
abbrev s_L7:Stmt:=top 63
abbrev s_MC:Stmt:=top 64
abbrev s_LJ:Stmt:=top 65
abbrev s_LN:Stmt:=top 66
abbrev Zca:Stmt:=top 67
abbrev s_KY:Stmt:=inClass (top 38) 0
abbrev s_KL:Stmt:=inClass (top 38) 1
abbrev s_KA:Stmt:=inClass (top 38) 2
abbrev s_K9:Stmt:=inClass (top 38) 3
abbrev s_KM:Stmt:=inClass (top 38) 4
abbrev s_KZ:Stmt:=inClass (top 38) 5
abbrev s_KN:Stmt:=inClass (top 38) 6
abbrev s_K0:Stmt:=inClass (top 38) 7
abbrev s_LA:Stmt:=inClass (top 38) 8
abbrev s_KX:Stmt:=inClass (top 38) 9
abbrev s_KW:Stmt:=inClass (top 38) 10
abbrev s_KH:Stmt:=inClass (top 38) 11
abbrev s_K7:Stmt:=inClass (top 41) 0
abbrev s_KQ:Stmt:=inClass (top 41) 1
abbrev s_K8:Stmt:=inClass (top 41) 2
abbrev s_KB:Stmt:=inClass (top 41) 3
abbrev s_KS:Stmt:=inClass (top 41) 4
abbrev s_KR:Stmt:=inClass (top 41) 7
abbrev s_KF:Stmt:=inClass (top 41) 8
abbrev s_KV:Stmt:=inClass (top 42) 0
abbrev s_K4:Stmt:=inClass (top 49) 0
abbrev s_KE:Stmt:=inClass (top 49) 1
abbrev s_KO:Stmt:=inClass (top 49) 2
abbrev s_LB:Stmt:=inClass (top 49) 3
abbrev s_K2:Stmt:=inClass (top 49) 4
abbrev s_K1:Stmt:=inClass (top 49) 5
abbrev s_K3:Stmt:=inClass (top 49) 6
abbrev s_KK:Stmt:=inClass (top 49) 7
abbrev s_KI:Stmt:=inClass (top 49) 8
abbrev s_KJ:Stmt:=inClass (top 49) 9
structure Ad where
 (c_LY c_MA c_LX c_LZ aO bc bf bg bh bi bj bn bo bq br bv bC aQ aR bD bE bF bG aS aT bH bI bJ bK bL bM bN bO bP f_LG f_LI f_LL f_LC f_K5 f_LD f_KP f_LH f_LW f_MB f_LF f_ME f_L1 f_K6 f_LP f_LE f_LK f_L0 f_L3 f_L2 f_LQ f_LV f_L5 f_L9 f_L8 f_LS f_LM f_LO f_LU f_L4 f_MD f_LR f_LT f_L6 f_L7 f_MC f_LJ f_LN f_law t_LH k_LH t_LO k_LO:AE)
 (bZ b0 b7 b8 b9 ce cf cg cj ck cn cq cu cz cA cB cC cF cG cH cI cJ cK cL cM cN cO cP cQ cR d_LG d_LI d_LL d_LC d_K5 d_LD d_KP d_LH d_LW d_MB d_LF d_ME d_L1 d_K6 d_LP d_LE d_LK d_L0 d_L3 d_L2 d_LQ d_LV d_L5 d_L9 d_L8 d_LS d_LM d_LO d_LU d_L4 d_MD d_LR d_LT d_L6 d_L7 d_MC d_LJ d_LN d_law:AG)
structure Txt (K:Q4)(mg:AC)(a:Ad):Prop where
 D_has_only:DF K mg "has_only" s_LG a.f_LG a.d_LG ["text","letters"]
 D_is_kinds:DF K mg "is_kinds" s_LI a.f_LI a.d_LI ["thing"]
 D_is_word:DF K mg "is_word" s_LL a.f_LL a.d_LL ["thing","kinds","most"]
 D_is_letter:DF K mg "is_letter" s_LC a.f_LC a.d_LC ["thing","kinds"]
 D_need_kinds:DF K mg "need_kinds" s_K5 a.f_K5 a.d_K5 ["thing"]
 D_need_word:DF K mg "need_word" s_LD a.f_LD a.d_LD ["thing","kinds","most"]
 D_need_letter:DF K mg "need_letter" s_KP a.f_KP a.d_KP ["thing","kinds"]
 D_in_order:DF K mg "in_order" s_LH a.f_LH a.d_LH ["words"]
 D_pieces:DF K mg "pieces" s_LW a.f_LW a.d_LW ["text","length"]
 D_gdiv:DF K mg "greatest_divisor" s_MB a.f_MB a.d_MB ["one","other"]
 D_fraction:DF K mg "fraction" s_LF a.f_LF a.d_LF ["top","bottom"]
 D_plus:DF K mg "plus" s_ME a.f_ME a.d_ME ["one","other"]
 D_below:DF K mg "below" s_L1 a.f_L1 a.d_L1 ["one","other"]
 D_same_kinds:DF K mg "need_same_kinds" s_K6 a.f_K6 a.d_K6 ["one","other"]
 D_reasons:DF K mg "reasons" s_LP a.f_LP a.d_LP ["one","other"]
 D_distance:DF K mg "distance" s_LE a.f_LE a.d_LE ["one","other"]
 D_is_name:DF K mg "is_name" s_LK a.f_LK a.d_LK ["thing"]
 D_among:DF K mg "lacking_among" s_L0 a.f_L0 a.d_L0 ["shorter","standing","kinds"]
 D_lacks:DF K mg "lacks" s_L3 a.f_L3 a.d_L3 ["text","word"]
 D_fresh:DF K mg "fresh_words" s_L2 a.f_L2 a.d_L2 ["lesser","longer"]
 D_filled:DF K mg "filled" s_LQ a.f_LQ a.d_LQ ["lesser","longer","reason"]
 D_opened:DF K mg "opened" s_LV a.f_LV a.d_LV ["lesser","longer","kinds","reason"]
 D_lcell:DF K mg "_law_cell" s_L5 a.f_L5 a.d_L5 ["_law_script","_law_k"]
 D_whole:DF K mg "_law_whole" s_L9 a.f_L9 a.d_L9 ["_law_thing"]
 D_mixed:DF K mg "_law_mixed" s_L8 a.f_L8 a.d_L8 ["_law_cell_here","_law_k"]
 D_lkinds:DF K mg "_law_kinds" s_LS a.f_LS a.d_LS ["_law_cell_here"]
 D_letters:DF K mg "_law_letters" s_LM a.f_LM a.d_LM ["_law_way","_law_cell_here","_law_kinds_here","_law_size"]
 D_missing:DF K mg "_law_missing" s_LO a.f_LO a.d_LO ["_law_text","_law_kinds_here"]
 D_lstrip:DF K mg "_law_strip" s_LU a.f_LU a.d_LU ["_law_text","_law_kinds_here","_law_cell_here"]
 D_lband:DF K mg "_law_band" s_L4 a.f_L4 a.d_L4 ["_law_text","_law_kinds_here","_law_cell_here"]
 D_lsum:DF K mg "_law_sum" s_MD a.f_MD a.d_MD ["_law_words"]
 D_lapart:DF K mg "_law_apart" s_LR a.f_LR a.d_LR ["_law_mine","_law_yours"]
 D_lshare:DF K mg "_law_share" s_LT a.f_LT a.d_LT ["_law_found","_law_due_here"]
 D_ldeed:DF K mg "_law_deed" s_L6 a.f_L6 a.d_L6 ["_law_shelf","_law_beside","_law_name","_law_cell_here","_law_kinds_here"]
 D_lless:DF K mg "_law_less" s_L7 a.f_L7 a.d_L7 ["_law_one","_law_other"]
 D_ldue:DF K mg "_law_due" s_MC a.f_MC a.d_MC ["_law_texts","_law_asked","_law_kinds_here"]
 D_gone_on:DF K mg "_law_gone_on" s_LJ a.f_LJ a.d_LJ ["_law_band_here","_law_asked","_law_kinds_here","_law_k"]
 D_lranked:DF K mg "_law_ranked" s_LN a.f_LN a.d_LN ["_law_shelf","_law_texts","_law_asked","_law_band_here","_law_kinds_here"]
 D_law:DF K mg "law" Zca a.f_law a.d_law ["_law_script"]
 m_LY:mg "Shelf"=some (.ref a.c_LY)
 cr_LY:ClsRead K a.c_LY "__init__" (.ref a.aO)
 aj:Cls K a.c_LY
 aU:Mk K a.c_LY a.aO
 bQ:Meth K a.c_LY "kinds" a.bc
 bR:Meth K a.c_LY "need_free" a.bf
 aV:Meth K a.c_LY "lay" a.bg
 aW:Meth K a.c_LY "names" a.bh
 aI:Meth K a.c_LY "kept" a.bi
 bS:Meth K a.c_LY "shown" a.bj
 bT:Meth K a.c_LY "take" a.bn
 bU:Meth K a.c_LY "put" a.bo
 bV:Meth K a.c_LY "drop" a.bq
 bW:Meth K a.c_LY "back" a.br
 aN:Meth K a.c_LY "ranked" a.bv
 aG:NoAttr K a.c_LY "own_text"
 ao:NoAttr K a.c_LY "own_kinds"
 aA:NoAttr K a.c_LY "own_lacking"
 aE:NoAttr K a.c_LY "own_deeds"
 ae:NoAttr K a.c_LY "own_strips"
 ty_LY:∀ {H:Hp} {x dx:AE} {fs:List (Str×V)},H x=some (.ins a.c_LY dx fs)->TyOf K H (.ref x) (.ref a.c_LY)
 m_MA:mg "Band"=some (.ref a.c_MA)
 cS:ClsRead K a.c_MA "__init__" (.ref a.bC)
 cl_MA:Cls K a.c_MA
 m_LX:mg "Plain"=some (.ref a.c_LX)
 cr_LX:ClsRead K a.c_LX "__init__" (.ref a.aS)
 az:Cls K a.c_LX
 k_LX:ClsOk K a.c_LX [.ref a.c_LX,.ref a.c_MA,.type "object"]
 bX:Mk K a.c_LX a.aS
 au:Meth K a.c_LX "kinds" a.aQ
 ay:Meth K a.c_LX "text" a.aR
 av:Meth K a.c_LX "words" a.bE
 aq:Meth K a.c_LX "laid_out" a.bD
 ax:Meth K a.c_LX "reach" a.bF
 am:Meth K a.c_LX "lacking" a.bG
 ai:NoAttr K a.c_LX "own_text"
 ak:NoAttr K a.c_LX "own_kinds"
 aB:NoAttr K a.c_LX "own_lacking"
 aF:NoAttr K a.c_LX "own_deeds"
 aC:NoAttr K a.c_LX "own_strips"
 cW:∀ {H:Hp} {x dx:AE} {fs:List (Str×V)},H x=some (.ins a.c_LX dx fs)->TyOf K H (.ref x) (.ref a.c_LX)
 cU:mg "Strip"=some (.ref a.c_LZ)
 cr_LZ:ClsRead K a.c_LZ "__init__" (.ref a.aT)
 ac:Cls K a.c_LZ
 bY:ClsOk K a.c_LZ [.ref a.c_LZ,.ref a.c_MA,.type "object"]
 aX:Mk K a.c_LZ a.aT
 aw:Meth K a.c_LZ "kinds" a.aQ
 ag:Meth K a.c_LZ "text" a.aR
 aL:Meth K a.c_LZ "deeds" a.bI
 aY:Meth K a.c_LZ "lacking" a.bH
 aJ:Meth K a.c_LZ "put" a.bJ
 aM:Meth K a.c_LZ "drop" a.bK
 aZ:Meth K a.c_LZ "back" a.bL
 a7:Meth K a.c_LZ "grow" a.bM
 a8:Meth K a.c_LZ "shrink" a.bN
 a9:Meth K a.c_LZ "change" a.bO
 ba:Meth K a.c_LZ "copied" a.bP
 aa:NoAttr K a.c_LZ "own_text"
 ah:NoAttr K a.c_LZ "own_kinds"
 af:NoAttr K a.c_LZ "own_lacking"
 ad:NoAttr K a.c_LZ "own_deeds"
 aD:NoAttr K a.c_LZ "own_strips"
 cV:∀ {H:Hp} {x dx:AE} {fs:List (Str×V)},H x=some (.ins a.c_LZ dx fs)->TyOf K H (.ref x) (.ref a.c_LZ)
 M_Shelf_init:MF K "__init__" "Shelf.__init__" s_KY a.aO a.bZ ["self","kinds"]
 M_Shelf_kinds:MF K "kinds" "Shelf.kinds" s_KL a.bc a.b0 ["self"]
 M_Shelf_need_free:MF K "need_free" "Shelf.need_free" s_KA a.bf a.b7 ["self","name"]
 M_Shelf_lay:MF K "lay" "Shelf.lay" s_K9 a.bg a.b8 ["self","name","strip"]
 M_Shelf_names:MF K "names" "Shelf.names" s_KM a.bh a.b9 ["self"]
 M_Shelf_kept:MF K "kept" "Shelf.kept" s_KZ a.bi a.ce ["self","name"]
 M_Shelf_shown:MF K "shown" "Shelf.shown" s_KN a.bj a.cf ["self","name"]
 M_Shelf_take:MF K "take" "Shelf.take" s_K0 a.bn a.cg ["self","name"]
 M_Shelf_put:MF K "put" "Shelf.put" s_LA a.bo a.cj ["self","name","letter"]
 M_Shelf_drop:MF K "drop" "Shelf.drop" s_KX a.bq a.ck ["self","name"]
 M_Shelf_back:MF K "back" "Shelf.back" s_KW a.br a.cn ["self","name"]
 M_Shelf_ranked:MF K "ranked" "Shelf.ranked" s_KH a.bv a.cq ["self","strip"]
 M_Band_init:MF K "__init__" "Band.__init__" s_K7 a.bC a.cu ["self","text","kinds"]
 M_Band_kinds:MF K "kinds" "Band.kinds" s_KQ a.aQ a.cz ["self"]
 M_Band_text:MF K "text" "Band.text" s_K8 a.aR a.cA ["self"]
 M_Band_laid_out:MF K "laid_out" "Band.laid_out" s_KB a.bD a.cB ["self","length"]
 M_Band_words:MF K "words" "Band.words" s_KS a.bE a.cC ["self","length"]
 M_Band_reach:MF K "reach" "Band.reach" s_KR a.bF a.cF ["self"]
 M_Band_lacking:MF K "lacking" "Band.lacking" s_KF a.bG a.cG ["self"]
 M_Plain_init:MF K "__init__" "Plain.__init__" s_KV a.aS a.cH ["self","text","kinds"]
 M_Strip_init:MF K "__init__" "Strip.__init__" s_K4 a.aT a.cI ["self","kinds"]
 M_Strip_lacking:MF K "lacking" "Strip.lacking" s_KE a.bH a.cJ ["self"]
 M_Strip_deeds:MF K "deeds" "Strip.deeds" s_KO a.bI a.cK ["self"]
 M_Strip_put:MF K "put" "Strip.put" s_LB a.bJ a.cL ["self","letter"]
 M_Strip_drop:MF K "drop" "Strip.drop" s_K2 a.bK a.cM ["self"]
 M_Strip_back:MF K "back" "Strip.back" s_K1 a.bL a.cN ["self"]
 M_Strip_grow:MF K "grow" "Strip.grow" s_K3 a.bM a.cO ["self","longer"]
 M_Strip_shrink:MF K "shrink" "Strip.shrink" s_KK a.bN a.cP ["self","lesser"]
 M_Strip_change:MF K "change" "Strip.change" s_KI a.bO a.cQ ["self","text","came","went"]
 M_Strip_copied:MF K "copied" "Strip.copied" s_KJ a.bP a.cR ["self"]
 nd:[a.c_LX,a.c_LZ,a.c_MA].Nodup
 z_len:mg "len"=none
 z_range:mg "range"=none
 z_enumerate:mg "enumerate"=none
 z_isinstance:mg "isinstance"=none
 z_all:mg "all"=none
 z_min:mg "min"=none
 z_list:mg "list"=none
 z_tuple:mg "tuple"=none
 z_set:mg "set"=none
 z_sorted:mg "sorted"=none
 z_str:mg "str"=none
 z_int:mg "int"=none
 z_bool:mg "bool"=none
 aH:mg "ValueError"=none
 c_KD:∃t,mg "SMALL_LETTERS"=some (.str (Str.ofString "abcdefghijklmnopqrstuvwxyz") t)
 c_KU:∃t,mg "MOST_KINDS"=some (.int 4 t)
 c_KC:∃t,mg "MOST_IN_STRIP"=some (.int 40 t)
 c_KT:∃t,mg "MOST_ASKED"=some (.int 60 t)
 c_KG:∃t,mg "MOST_IN_NAME"=some (.int 8 t)
 bl:∀(s:AF) (u:Value),BindsTo s a.d_law ⟨[u],[]⟩ [("_law_script",u)]
structure TL (K:Q4)(mg:AC)(base:Heap)(a:Ad)(tb:Str->AE×AE):Prop extends Txt K mg a where
 L_in_order:LamEnv base mg a.k_LH a.t_LH
 cd_LH:a.d_LH.code=.ref a.k_LH
 e_LH:a.t_LH=(tb "in_order").2
 L_missing:LamEnv base mg a.k_LO a.t_LO
 cd_LO:a.d_LO.code=.ref a.k_LO
 e_LO:a.t_LO=(tb "_law_missing").2
theorem lenA {P:AD->Prop}(h:∀a,P [a]):∀us:AD,us.length=1->P us:=by
 intro us ee;cases us with
 | nil=>cases ee
 | cons a us=>
  cases us with
  | nil=>exact h a
  | cons _ _=>cases ee
local macro_rules | `(tactic| walk_at "b1") => `(tactic| (intro _ _ _ _ _ _; refine lenA ?_; intros; rfl))
theorem lenB {P:AD->Prop}(h:∀a b,P [a,b]):∀us:AD,us.length=2->P us:=by
 intro us ee;cases us with
 | nil=>cases ee
 | cons a us=>
  cases us with
  | nil=>cases ee
  | cons b us=>
   cases us with
   | nil=>exact h a b
   | cons _ _=>cases ee
local macro_rules | `(tactic| walk_at "b2") => `(tactic| (intro _ _ _ _ _ _; refine lenB ?_; intros; rfl))
theorem lenC {P:AD->Prop}(h:∀a b c,P [a,b,c]):∀us:AD,us.length=3->P us:=by
 intro us ee;cases us with
 | nil=>cases ee
 | cons a us=>
  cases us with
  | nil=>cases ee
  | cons b us=>
   cases us with
   | nil=>cases ee
   | cons c us=>
    cases us with
    | nil=>exact h a b c
    | cons _ _=>cases ee
local macro_rules | `(tactic| walk_at "b3") => `(tactic| (intro _ _ _ _ _ _; refine lenC ?_; intros; rfl))
theorem lenD {P:AD->Prop}(h:∀a b c d,P [a,b,c,d]):∀us:AD,us.length=4->P us:=by
 intro us ee;cases us with
 | nil=>cases ee
 | cons a us=>
  cases us with
  | nil=>cases ee
  | cons b us=>
   cases us with
   | nil=>cases ee
   | cons c us=>
    cases us with
    | nil=>cases ee
    | cons d us=>
     cases us with
     | nil=>exact h a b c d
     | cons _ _=>cases ee
local macro_rules | `(tactic| walk_at "b4") => `(tactic| (intro _ _ _ _ _ _; refine lenD ?_; intros; rfl))
theorem lenE {P:AD->Prop}(h:∀a b c d e,P [a,b,c,d,e]):∀us:AD,us.length=5->P us:=by
 intro us ee;cases us with
 | nil=>cases ee
 | cons a us=>
  cases us with
  | nil=>cases ee
  | cons b us=>
   cases us with
   | nil=>cases ee
   | cons c us=>
    cases us with
    | nil=>cases ee
    | cons d us=>
     cases us with
     | nil=>cases ee
     | cons e us=>
      cases us with
      | nil=>exact h a b c d e
      | cons _ _=>cases ee
local macro_rules | `(tactic| walk_at "b5") => `(tactic| (intro _ _ _ _ _ _; refine lenE ?_; intros; rfl))
theorem txt_mk (X:K.In h)(G:h.Ns mainGlobals mg){cdk_LX:ClassData}{cdk_LZ:ClassData}{aO bc bf bg bh bi bj bn bo bq br bv bC aQ aR bD bE bF bG aS aT bH bI bJ bK bL bM bN bO bP c_LY c_MA c_LX c_LZ f_LG f_LI f_LL f_LC f_K5 f_LD f_KP f_LH f_LW f_MB f_LF f_ME f_L1 f_K6 f_LP f_LE f_LK f_L0 f_L3 f_L2 f_LQ f_LV f_L5 f_L9 f_L8 f_LS f_LM f_LO f_LU f_L4 f_MD f_LR f_LT f_L6 f_L7 f_MC f_LJ f_LN f_law t_LH k_LH t_LO k_LO:AE}{bZ b0 b7 b8 b9 ce cf cg cj ck cn cq cu cz cA cB cC cF cG cH cI cJ cK cL cM cN cO cP cQ cR d_LG d_LI d_LL d_LC d_K5 d_LD d_KP d_LH d_LW d_MB d_LF d_ME d_L1 d_K6 d_LP d_LE d_LK d_L0 d_L3 d_L2 d_LQ d_LV d_L5 d_L9 d_L8 d_LS d_LM d_LO d_LU d_L4 d_MD d_LR d_LT d_L6 d_L7 d_MC d_LJ d_LN d_law:AG}{tk_KD tk_KU tk_KC tk_KT tk_KG:Tok}
  (ow_hn:specialIn K (.builtin "object.__class__") "__get__"=some (some (.builtin "getset_descriptor.__get__")))
  (ow_tk:takesIn K (.builtin "object.__class__")=some true)
  (a_LY:nsIn K mainGlobals "Shelf"=some (some (.ref c_LY)))
  (pg_LY:plainGet K c_LY Str.empty=true)
  (hd_LY:hasDictIn K c_LY=true)
  (po_LY:plainOver K c_LY=true)
  (sa_LY:findIn K (.ref c_LY) "__setattr__"=some (some (.builtin "object.__setattr__")))
  (rs_LY:specialIn K (.ref c_LY) "__getattribute__"=some (some (.builtin "type.__getattribute__")))
  (rr_LY:readsIn K c_LY (.type "type")=true)
  (rf_LY:findCls K (.ref c_LY) (.type "type") "__init__"=some (.val (.ref aO)))
  (aU:makesIn K c_LY=true)
  (in_LY:findIn K (.ref c_LY) "__init__"=some (some (.ref aO)))
  (kc_LY:keepIn K (.ref c_LY)=true)
  (ha_LY:findIn K (.ref c_LY) "__class__"=some (some (.builtin "object.__class__")))
  (mo_LY:mroIn K c_LY (.type "object")=some true)
  (bQ:findIn K (.ref c_LY) "kinds"=some (some (.ref bc)))
  (bR:findIn K (.ref c_LY) "need_free"=some (some (.ref bf)))
  (aV:findIn K (.ref c_LY) "lay"=some (some (.ref bg)))
  (aW:findIn K (.ref c_LY) "names"=some (some (.ref bh)))
  (aI:findIn K (.ref c_LY) "kept"=some (some (.ref bi)))
  (bS:findIn K (.ref c_LY) "shown"=some (some (.ref bj)))
  (bT:findIn K (.ref c_LY) "take"=some (some (.ref bn)))
  (bU:findIn K (.ref c_LY) "put"=some (some (.ref bo)))
  (bV:findIn K (.ref c_LY) "drop"=some (some (.ref bq)))
  (bW:findIn K (.ref c_LY) "back"=some (some (.ref br)))
  (aN:findIn K (.ref c_LY) "ranked"=some (some (.ref bv)))
  (aG:findIn K (.ref c_LY) "own_text"=some none)
  (ao:findIn K (.ref c_LY) "own_kinds"=some none)
  (aA:findIn K (.ref c_LY) "own_lacking"=some none)
  (aE:findIn K (.ref c_LY) "own_deeds"=some none)
  (ae:findIn K (.ref c_LY) "own_strips"=some none)
  (a_MA:nsIn K mainGlobals "Band"=some (some (.ref c_MA)))
  (pg_MA:plainGet K c_MA Str.empty=true)
  (hd_MA:hasDictIn K c_MA=true)
  (po_MA:plainOver K c_MA=true)
  (sa_MA:findIn K (.ref c_MA) "__setattr__"=some (some (.builtin "object.__setattr__")))
  (rs_MA:specialIn K (.ref c_MA) "__getattribute__"=some (some (.builtin "type.__getattribute__")))
  (rr_MA:readsIn K c_MA (.type "type")=true)
  (rf_MA:findCls K (.ref c_MA) (.type "type") "__init__"=some (.val (.ref bC)))
  (a_LX:nsIn K mainGlobals "Plain"=some (some (.ref c_LX)))
  (pg_LX:plainGet K c_LX Str.empty=true)
  (hd_LX:hasDictIn K c_LX=true)
  (po_LX:plainOver K c_LX=true)
  (sa_LX:findIn K (.ref c_LX) "__setattr__"=some (some (.builtin "object.__setattr__")))
  (rs_LX:specialIn K (.ref c_LX) "__getattribute__"=some (some (.builtin "type.__getattribute__")))
  (rr_LX:readsIn K c_LX (.type "type")=true)
  (rf_LX:findCls K (.ref c_LX) (.type "type") "__init__"=some (.val (.ref aS)))
  (kq_LX:clsIn K c_LX=some cdk_LX)
  (kr_LX:cdk_LX.mro=[.ref c_LX,.ref c_MA,.type "object"])
  (kt_LX:typeIn K (.ref c_LX)=some (.type "type"))
  (bX:makesIn K c_LX=true)
  (in_LX:findIn K (.ref c_LX) "__init__"=some (some (.ref aS)))
  (kc_LX:keepIn K (.ref c_LX)=true)
  (ha_LX:findIn K (.ref c_LX) "__class__"=some (some (.builtin "object.__class__")))
  (mo_LX:mroIn K c_LX (.type "object")=some true)
  (au:findIn K (.ref c_LX) "kinds"=some (some (.ref aQ)))
  (ay:findIn K (.ref c_LX) "text"=some (some (.ref aR)))
  (av:findIn K (.ref c_LX) "words"=some (some (.ref bE)))
  (aq:findIn K (.ref c_LX) "laid_out"=some (some (.ref bD)))
  (ax:findIn K (.ref c_LX) "reach"=some (some (.ref bF)))
  (am:findIn K (.ref c_LX) "lacking"=some (some (.ref bG)))
  (ai:findIn K (.ref c_LX) "own_text"=some none)
  (ak:findIn K (.ref c_LX) "own_kinds"=some none)
  (aB:findIn K (.ref c_LX) "own_lacking"=some none)
  (aF:findIn K (.ref c_LX) "own_deeds"=some none)
  (aC:findIn K (.ref c_LX) "own_strips"=some none)
  (a_LZ:nsIn K mainGlobals "Strip"=some (some (.ref c_LZ)))
  (pg_LZ:plainGet K c_LZ Str.empty=true)
  (hd_LZ:hasDictIn K c_LZ=true)
  (po_LZ:plainOver K c_LZ=true)
  (sa_LZ:findIn K (.ref c_LZ) "__setattr__"=some (some (.builtin "object.__setattr__")))
  (rs_LZ:specialIn K (.ref c_LZ) "__getattribute__"=some (some (.builtin "type.__getattribute__")))
  (rr_LZ:readsIn K c_LZ (.type "type")=true)
  (rf_LZ:findCls K (.ref c_LZ) (.type "type") "__init__"=some (.val (.ref aT)))
  (kq_LZ:clsIn K c_LZ=some cdk_LZ)
  (kr_LZ:cdk_LZ.mro=[.ref c_LZ,.ref c_MA,.type "object"])
  (kt_LZ:typeIn K (.ref c_LZ)=some (.type "type"))
  (aX:makesIn K c_LZ=true)
  (in_LZ:findIn K (.ref c_LZ) "__init__"=some (some (.ref aT)))
  (kc_LZ:keepIn K (.ref c_LZ)=true)
  (ha_LZ:findIn K (.ref c_LZ) "__class__"=some (some (.builtin "object.__class__")))
  (mo_LZ:mroIn K c_LZ (.type "object")=some true)
  (aw:findIn K (.ref c_LZ) "kinds"=some (some (.ref aQ)))
  (ag:findIn K (.ref c_LZ) "text"=some (some (.ref aR)))
  (aL:findIn K (.ref c_LZ) "deeds"=some (some (.ref bI)))
  (aY:findIn K (.ref c_LZ) "lacking"=some (some (.ref bH)))
  (aJ:findIn K (.ref c_LZ) "put"=some (some (.ref bJ)))
  (aM:findIn K (.ref c_LZ) "drop"=some (some (.ref bK)))
  (aZ:findIn K (.ref c_LZ) "back"=some (some (.ref bL)))
  (a7:findIn K (.ref c_LZ) "grow"=some (some (.ref bM)))
  (a8:findIn K (.ref c_LZ) "shrink"=some (some (.ref bN)))
  (a9:findIn K (.ref c_LZ) "change"=some (some (.ref bO)))
  (ba:findIn K (.ref c_LZ) "copied"=some (some (.ref bP)))
  (aa:findIn K (.ref c_LZ) "own_text"=some none)
  (ah:findIn K (.ref c_LZ) "own_kinds"=some none)
  (af:findIn K (.ref c_LZ) "own_lacking"=some none)
  (ad:findIn K (.ref c_LZ) "own_deeds"=some none)
  (aD:findIn K (.ref c_LZ) "own_strips"=some none)
  (AW:MG K "__init__" "Shelf.__init__" s_KY aO bZ)
  (AY:MG K "kinds" "Shelf.kinds" s_KL bc b0)
  (Ab:MG K "need_free" "Shelf.need_free" s_KA bf b7)
  (AZ:MG K "lay" "Shelf.lay" s_K9 bg b8)
  (Aa:MG K "names" "Shelf.names" s_KM bh b9)
  (AX:MG K "kept" "Shelf.kept" s_KZ bi ce)
  (Af:MG K "shown" "Shelf.shown" s_KN bj cf)
  (Ag:MG K "take" "Shelf.take" s_K0 bn cg)
  (Ac:MG K "put" "Shelf.put" s_LA bo cj)
  (AV:MG K "drop" "Shelf.drop" s_KX bq ck)
  (AU:MG K "back" "Shelf.back" s_KW br cn)
  (Ae:MG K "ranked" "Shelf.ranked" s_KH bv cq)
  (AL:MG K "__init__" "Band.__init__" s_K7 bC cu)
  (AM:MG K "kinds" "Band.kinds" s_KQ aQ cz)
  (AR:MG K "text" "Band.text" s_K8 aR cA)
  (AO:MG K "laid_out" "Band.laid_out" s_KB bD cB)
  (AS:MG K "words" "Band.words" s_KS bE cC)
  (AQ:MG K "reach" "Band.reach" s_KR bF cF)
  (AN:MG K "lacking" "Band.lacking" s_KF bG cG)
  (AT:MG K "__init__" "Plain.__init__" s_KV aS cH)
  (An:MG K "__init__" "Strip.__init__" s_K4 aT cI)
  (Ao:MG K "lacking" "Strip.lacking" s_KE bH cJ)
  (Ak:MG K "deeds" "Strip.deeds" s_KO bI cK)
  (Ap:MG K "put" "Strip.put" s_LB bJ cL)
  (Al:MG K "drop" "Strip.drop" s_K2 bK cM)
  (Ah:MG K "back" "Strip.back" s_K1 bL cN)
  (Am:MG K "grow" "Strip.grow" s_K3 bM cO)
  (Aq:MG K "shrink" "Strip.shrink" s_KK bN cP)
  (Ai:MG K "change" "Strip.change" s_KI bO cQ)
  (Aj:MG K "copied" "Strip.copied" s_KJ bP cR)
  (nd:[c_LX,c_LZ,c_MA].Nodup)
  (D_has_only:DG K "has_only" s_LG f_LG d_LG)
  (D_is_kinds:DG K "is_kinds" s_LI f_LI d_LI)
  (D_is_word:DG K "is_word" s_LL f_LL d_LL)
  (D_is_letter:DG K "is_letter" s_LC f_LC d_LC)
  (D_need_kinds:DG K "need_kinds" s_K5 f_K5 d_K5)
  (D_need_word:DG K "need_word" s_LD f_LD d_LD)
  (D_need_letter:DG K "need_letter" s_KP f_KP d_KP)
  (D_in_order:DG K "in_order" s_LH f_LH d_LH)
  (D_pieces:DG K "pieces" s_LW f_LW d_LW)
  (D_gdiv:DG K "greatest_divisor" s_MB f_MB d_MB)
  (D_fraction:DG K "fraction" s_LF f_LF d_LF)
  (D_plus:DG K "plus" s_ME f_ME d_ME)
  (D_below:DG K "below" s_L1 f_L1 d_L1)
  (D_same_kinds:DG K "need_same_kinds" s_K6 f_K6 d_K6)
  (D_reasons:DG K "reasons" s_LP f_LP d_LP)
  (D_distance:DG K "distance" s_LE f_LE d_LE)
  (D_is_name:DG K "is_name" s_LK f_LK d_LK)
  (D_among:DG K "lacking_among" s_L0 f_L0 d_L0)
  (D_lacks:DG K "lacks" s_L3 f_L3 d_L3)
  (D_fresh:DG K "fresh_words" s_L2 f_L2 d_L2)
  (D_filled:DG K "filled" s_LQ f_LQ d_LQ)
  (D_opened:DG K "opened" s_LV f_LV d_LV)
  (D_lcell:DG K "_law_cell" s_L5 f_L5 d_L5)
  (D_whole:DG K "_law_whole" s_L9 f_L9 d_L9)
  (D_mixed:DG K "_law_mixed" s_L8 f_L8 d_L8)
  (D_lkinds:DG K "_law_kinds" s_LS f_LS d_LS)
  (D_letters:DG K "_law_letters" s_LM f_LM d_LM)
  (D_missing:DG K "_law_missing" s_LO f_LO d_LO)
  (D_lstrip:DG K "_law_strip" s_LU f_LU d_LU)
  (D_lband:DG K "_law_band" s_L4 f_L4 d_L4)
  (D_lsum:DG K "_law_sum" s_MD f_MD d_MD)
  (D_lapart:DG K "_law_apart" s_LR f_LR d_LR)
  (D_lshare:DG K "_law_share" s_LT f_LT d_LT)
  (D_ldeed:DG K "_law_deed" s_L6 f_L6 d_L6)
  (D_lless:DG K "_law_less" s_L7 f_L7 d_L7)
  (D_ldue:DG K "_law_due" s_MC f_MC d_MC)
  (D_gone_on:DG K "_law_gone_on" s_LJ f_LJ d_LJ)
  (D_lranked:DG K "_law_ranked" s_LN f_LN d_LN)
  (D_law:DG K "law" Zca f_law d_law)
  (z_len:nsIn K mainGlobals "len"=some none)
  (z_range:nsIn K mainGlobals "range"=some none)
  (z_enumerate:nsIn K mainGlobals "enumerate"=some none)
  (z_isinstance:nsIn K mainGlobals "isinstance"=some none)
  (z_all:nsIn K mainGlobals "all"=some none)
  (z_min:nsIn K mainGlobals "min"=some none)
  (z_list:nsIn K mainGlobals "list"=some none)
  (z_tuple:nsIn K mainGlobals "tuple"=some none)
  (z_set:nsIn K mainGlobals "set"=some none)
  (z_sorted:nsIn K mainGlobals "sorted"=some none)
  (z_str:nsIn K mainGlobals "str"=some none)
  (z_int:nsIn K mainGlobals "int"=some none)
  (z_bool:nsIn K mainGlobals "bool"=some none)
  (aH:nsIn K mainGlobals "ValueError"=some none)
  (c_KD:nsIn K mainGlobals "SMALL_LETTERS"=some (some (.str (Str.ofString "abcdefghijklmnopqrstuvwxyz") tk_KD)))
  (c_KU:nsIn K mainGlobals "MOST_KINDS"=some (some (.int 4 tk_KU)))
  (c_KC:nsIn K mainGlobals "MOST_IN_STRIP"=some (some (.int 40 tk_KC)))
  (c_KT:nsIn K mainGlobals "MOST_ASKED"=some (some (.int 60 tk_KT)))
  (c_KG:nsIn K mainGlobals "MOST_IN_NAME"=some (some (.int 8 tk_KG))):∃a,Txt K mg a/\a.t_LH=t_LH/\a.k_LH=k_LH/\a.t_LO=t_LO/\a.k_LO=k_LO:=by
 obtain⟨_,_,_,_,_,_,_,_,_,rfl,_⟩:=id D_law.2.ex;refine⟨{ c_LY,c_MA,c_LX,c_LZ,aO,bZ,bc,b0,bf,b7,bg,b8,bh,b9,bi,ce,bj,cf,bn,cg,bo,cj,bq,ck,br,cn,bv,cq,bC,cu,aQ,cz,aR,cA,bD,cB,bE,cC,bF,cF,bG,cG,aS,cH,aT,cI,bH,cJ,bI,cK,bJ,cL,bK,cM,bL,cN,bM,cO,bN,cP,bO,cQ,bP,cR,f_LG,d_LG,f_LI,d_LI,f_LL,d_LL,f_LC,d_LC,f_K5,d_K5,f_LD,d_LD,f_KP,d_KP,f_LH,d_LH,f_LW,d_LW,f_MB,d_MB,f_LF,d_LF,f_ME,d_ME,f_L1,d_L1,f_K6,d_K6,f_LP,d_LP,f_LE,d_LE,f_LK,d_LK,f_L0,d_L0,f_L3,d_L3,f_L2,d_L2,f_LQ,d_LQ,f_LV,d_LV,f_L5,d_L5,f_L9,d_L9,f_L8,d_L8,f_LS,d_LS,f_LM,d_LM,f_LO,d_LO,f_LU,d_LU,f_L4,d_L4,f_MD,d_MD,f_LR,d_LR,f_LT,d_LT,f_L6,d_L6,f_L7,d_L7,f_MC,d_MC,f_LJ,d_LJ,f_LN,d_LN,f_law,t_LH,k_LH,t_LO,k_LO,d_law:=_ },{ D_has_only:=Za6 X G D_has_only (by walk_at "b2"),D_is_kinds:=Za6 X G D_is_kinds (by walk_at "b1"),D_is_word:=Za6 X G D_is_word (by walk_at "b3"),D_is_letter:=Za6 X G D_is_letter (by walk_at "b2"),D_need_kinds:=Za6 X G D_need_kinds (by walk_at "b1"),D_need_word:=Za6 X G D_need_word (by walk_at "b3"),D_need_letter:=Za6 X G D_need_letter (by walk_at "b2"),D_in_order:=Za6 X G D_in_order (by walk_at "b1"),D_pieces:=Za6 X G D_pieces (by walk_at "b2"),D_gdiv:=Za6 X G D_gdiv (by walk_at "b2"),D_fraction:=Za6 X G D_fraction (by walk_at "b2"),D_plus:=Za6 X G D_plus (by walk_at "b2"),D_below:=Za6 X G D_below (by walk_at "b2"),D_same_kinds:=Za6 X G D_same_kinds (by walk_at "b2"),D_reasons:=Za6 X G D_reasons (by walk_at "b2"),D_distance:=Za6 X G D_distance (by walk_at "b2"),D_is_name:=Za6 X G D_is_name (by walk_at "b1"),D_among:=Za6 X G D_among (by walk_at "b3"),D_lacks:=Za6 X G D_lacks (by walk_at "b2"),D_fresh:=Za6 X G D_fresh (by walk_at "b2"),D_filled:=Za6 X G D_filled (by walk_at "b3"),D_opened:=Za6 X G D_opened (by walk_at "b4"),D_lcell:=Za6 X G D_lcell (by walk_at "b2"),D_whole:=Za6 X G D_whole (by walk_at "b1"),D_mixed:=Za6 X G D_mixed (by walk_at "b2"),D_lkinds:=Za6 X G D_lkinds (by walk_at "b1"),D_letters:=Za6 X G D_letters (by walk_at "b4"),D_missing:=Za6 X G D_missing (by walk_at "b2"),D_lstrip:=Za6 X G D_lstrip (by walk_at "b3"),D_lband:=Za6 X G D_lband (by walk_at "b3"),D_lsum:=Za6 X G D_lsum (by walk_at "b1"),D_lapart:=Za6 X G D_lapart (by walk_at "b2"),D_lshare:=Za6 X G D_lshare (by walk_at "b2"),D_ldeed:=Za6 X G D_ldeed (by walk_at "b5"),D_lless:=Za6 X G D_lless (by walk_at "b2"),D_ldue:=Za6 X G D_ldue (by walk_at "b3"),D_gone_on:=Za6 X G D_gone_on (by walk_at "b4"),D_lranked:=Za6 X G D_lranked (by walk_at "b5"),D_law:=Za6 X G D_law (by walk_at "b1"),m_LY:=YCY X G a_LY,cr_LY:=⟨rs_LY,rr_LY,rf_LY,rfl⟩,aj:=⟨pg_LY,hd_LY,po_LY,sa_LY⟩,aU:=⟨aU,in_LY,AW.2,kc_LY⟩,bQ:=⟨bQ,AY.2,AY.1.kp⟩,bR:=⟨bR,Ab.2,Ab.1.kp⟩,aV:=⟨aV,AZ.2,AZ.1.kp⟩,aW:=⟨aW,Aa.2,Aa.1.kp⟩,aI:=⟨aI,AX.2,AX.1.kp⟩,bS:=⟨bS,Af.2,Af.1.kp⟩,bT:=⟨bT,Ag.2,Ag.1.kp⟩,bU:=⟨bU,Ac.2,Ac.1.kp⟩,bV:=⟨bV,AV.2,AV.1.kp⟩,bW:=⟨bW,AU.2,AU.1.kp⟩,aN:=⟨aN,Ae.2,Ae.1.kp⟩,aG,ao,aA,aE,ae,ty_LY:=λe=>.ins e ⟨pg_LY,hd_LY,po_LY,sa_LY⟩ ha_LY ow_hn ow_tk mo_LY,m_MA:=YCY X G a_MA,cS:=⟨rs_MA,rr_MA,rf_MA,rfl⟩,cl_MA:=⟨pg_MA,hd_MA,po_MA,sa_MA⟩,m_LX:=YCY X G a_LX,cr_LX:=⟨rs_LX,rr_LX,rf_LX,rfl⟩,az:=⟨pg_LX,hd_LX,po_LX,sa_LX⟩,k_LX:=⟨⟨_,kq_LX,kr_LX⟩,kt_LX,rfl⟩,bX:=⟨bX,in_LX,AT.2,kc_LX⟩,au:=⟨au,AM.2,AM.1.kp⟩,ay:=⟨ay,AR.2,AR.1.kp⟩,av:=⟨av,AS.2,AS.1.kp⟩,aq:=⟨aq,AO.2,AO.1.kp⟩,ax:=⟨ax,AQ.2,AQ.1.kp⟩,am:=⟨am,AN.2,AN.1.kp⟩,ai,ak,aB,aF,aC,cW:=λe=>.ins e ⟨pg_LX,hd_LX,po_LX,sa_LX⟩ ha_LX ow_hn ow_tk mo_LX,cU:=YCY X G a_LZ,cr_LZ:=⟨rs_LZ,rr_LZ,rf_LZ,rfl⟩,ac:=⟨pg_LZ,hd_LZ,po_LZ,sa_LZ⟩,bY:=⟨⟨_,kq_LZ,kr_LZ⟩,kt_LZ,rfl⟩,aX:=⟨aX,in_LZ,An.2,kc_LZ⟩,aw:=⟨aw,AM.2,AM.1.kp⟩,ag:=⟨ag,AR.2,AR.1.kp⟩,aL:=⟨aL,Ak.2,Ak.1.kp⟩,aY:=⟨aY,Ao.2,Ao.1.kp⟩,aJ:=⟨aJ,Ap.2,Ap.1.kp⟩,aM:=⟨aM,Al.2,Al.1.kp⟩,aZ:=⟨aZ,Ah.2,Ah.1.kp⟩,a7:=⟨a7,Am.2,Am.1.kp⟩,a8:=⟨a8,Aq.2,Aq.1.kp⟩,a9:=⟨a9,Ai.2,Ai.1.kp⟩,ba:=⟨ba,Aj.2,Aj.1.kp⟩,aa,ah,af,ad,aD,cV:=λe=>.ins e ⟨pg_LZ,hd_LZ,po_LZ,sa_LZ⟩ ha_LZ ow_hn ow_tk mo_LZ,M_Shelf_init:=Zbm AW (by walk_at "b2"),M_Shelf_kinds:=Zbm AY (by walk_at "b1"),M_Shelf_need_free:=Zbm Ab (by walk_at "b2"),M_Shelf_lay:=Zbm AZ (by walk_at "b3"),M_Shelf_names:=Zbm Aa (by walk_at "b1"),M_Shelf_kept:=Zbm AX (by walk_at "b2"),M_Shelf_shown:=Zbm Af (by walk_at "b2"),M_Shelf_take:=Zbm Ag (by walk_at "b2"),M_Shelf_put:=Zbm Ac (by walk_at "b3"),M_Shelf_drop:=Zbm AV (by walk_at "b2"),M_Shelf_back:=Zbm AU (by walk_at "b2"),M_Shelf_ranked:=Zbm Ae (by walk_at "b2"),M_Band_init:=Zbm AL (by walk_at "b3"),M_Band_kinds:=Zbm AM (by walk_at "b1"),M_Band_text:=Zbm AR (by walk_at "b1"),M_Band_laid_out:=Zbm AO (by walk_at "b2"),M_Band_words:=Zbm AS (by walk_at "b2"),M_Band_reach:=Zbm AQ (by walk_at "b1"),M_Band_lacking:=Zbm AN (by walk_at "b1"),M_Plain_init:=Zbm AT (by walk_at "b3"),M_Strip_init:=Zbm An (by walk_at "b2"),M_Strip_lacking:=Zbm Ao (by walk_at "b1"),M_Strip_deeds:=Zbm Ak (by walk_at "b1"),M_Strip_put:=Zbm Ap (by walk_at "b2"),M_Strip_drop:=Zbm Al (by walk_at "b1"),M_Strip_back:=Zbm Ah (by walk_at "b1"),M_Strip_grow:=Zbm Am (by walk_at "b2"),M_Strip_shrink:=Zbm Aq (by walk_at "b2"),M_Strip_change:=Zbm Ai (by walk_at "b4"),M_Strip_copied:=Zbm Aj (by walk_at "b1"),nd,z_len:=YBH X G z_len,z_range:=YBH X G z_range,z_enumerate:=YBH X G z_enumerate,z_isinstance:=YBH X G z_isinstance,z_all:=YBH X G z_all,z_min:=YBH X G z_min,z_list:=YBH X G z_list,z_tuple:=YBH X G z_tuple,z_set:=YBH X G z_set,z_sorted:=YBH X G z_sorted,z_str:=YBH X G z_str,z_int:=YBH X G z_int,z_bool:=YBH X G z_bool,aH:=YBH X G aH,c_KD:=⟨_,YCY X G c_KD⟩,c_KU:=⟨_,YCY X G c_KU⟩,c_KC:=⟨_,YCY X G c_KC⟩,c_KT:=⟨_,YCY X G c_KT⟩,c_KG:=⟨_,YCY X G c_KG⟩,bl:=λs u=>.of_eq rfl },rfl,rfl,rfl,rfl⟩
end Pk84
namespace Pk84
open PySem L2
noncomputable def lpos:Pos:=⟨60,29,60,59⟩
noncomputable def lq:Str:="in_order.<locals>.<lambda>"
noncomputable def Zoz:Pos:=⟨329,34,329,79⟩
noncomputable def lqM:Str:="_law_missing.<locals>.<lambda>"
noncomputable def LET:Q11:=[97,98,99,100,101,102,103,104,105,106,107,108,109,110,111,112,113,114,115,116,117,118,119,120,121,122]
def isk (l:Q11):Bool:=decide (1<=l.length)&&decide (l.length<=4)&&(l.all λc=>LET.contains c)&&decide (signs l=Zbs (ddl (signs l)))
noncomputable def isw (l m:Q11)(most:Int):Bool:=decide ((l.length:Int)<=most)&&l.all λc=>m.contains c
def ZeO:Q11->Q11->Bool
 | _,[]=>true
 | last,c::r=>decide (c∈LET)&&decide (last < [c])&&ZeO [c] r
def Zg6 (l:Q11):Bool:=decide (1<=l.length)&&decide (l.length<=4)&&ZeO [] l
theorem ZiZ {a b:Nat}:([a] < [b])↔a<b:=by
 constructor
 .intro h;cases h with
  | rel h=>exact h
  | cons h=>cases h
 .exact λh=>List.Lex.rel h
theorem Zg7:∀(l:Q11) (d:Nat),ZeO [d] l=true↔(∀c∈l,c∈LET)/\(d::l).Pairwise (· < ·)
 | [],d=>by simp[ZeO]
 | c::r,d=>by
  rw[ZeO,YAX,YAX,decide_eq_true_iff,decide_eq_true_iff,ZiZ,Zg7 r c];simp only[YBB,YAH,forall_eq_or_imp];constructor
  .rintro⟨⟨h1,h2⟩,h3,h4,h5⟩;exact⟨⟨h1,h3⟩,⟨h2,λx hx=>Nat.lt_trans h2 (h4 x hx)⟩,h4,h5⟩
  .rintro⟨⟨h1,h3⟩,⟨h2,_⟩,h4,h5⟩;exact⟨⟨h1,h2⟩,h3,h4,h5⟩
theorem ZdH (l:Q11):ZeO [] l=true↔(∀c∈l,c∈LET)/\l.Pairwise (· < ·):=by
 cases l with
 | nil=>simp[ZeO]
 | cons c r=>
  rw[ZeO,YAX,YAX,decide_eq_true_iff,decide_eq_true_iff,Zg7 r c];simp only[YAH,forall_eq_or_imp];constructor
  .rintro⟨⟨h1,_⟩,h3,h4⟩;exact⟨⟨h1,h3⟩,h4⟩
  .rintro⟨⟨h1,h3⟩,h4⟩;exact⟨⟨h1,by simp⟩,h3,h4⟩
theorem ZeA:∀(ls acc:Q22),(acc++ls).Nodup->ls.foldl addT acc=acc++ls
 | [],acc,_=>by simp
 | x::ls,acc,h=>by
  have hx:¬x∈acc:=by rw[YBv]at h;exact λhm=>h.2.2 x hm x YAd rfl
  rw[YBy,addT,YAJ hx,ZeA ls (acc++[x]) (by simpa using h)];simp
theorem ZgB (h:l.Pairwise (· < ·)):(signs l).Nodup:=by unfold signs List.Nodup;rw[YBS];exact h.imp λhab e=>by injection e with e;lia
theorem ZjM (ls:Q22):(ddl ls).Nodup:=by rw[<-Zff];exact Zc3 _
theorem Zh0 (l:Q11):signs l=Zbs (ddl (signs l))↔l.Pairwise (· < ·):=by
 constructor
 .intro e;have h1:(signs l).Pairwise (λa b=>leT a b=true):=by rw[e];exact Zbr _
  have h2:(signs l).Nodup:=by rw[e];exact(ZaZ _).nodup_iff.mpr (ZjM _)
  unfold signs at h1;unfold signs List.Nodup at h2;rw[YBS]at h1 h2;refine(h1.and h2).imp ?_;rintro a b ⟨x,y⟩;have y':a≠b:=λe=>y (by rw[e]);have x':¬([b] < [a]):=by simpa [leT] using x
  rw[ZiZ]at x';lia
 .intro h;have e:ddl (signs l)=signs l:=by unfold ddl;rw[ZeA _ _ (by simpa using ZgB h)];simp
  rw[e];refine ZbT (List.Perm.refl _) ?_;unfold signs;rw[YBS];refine h.imp λ{a b} hab=>?_;have:¬([b] < [a]):=by rw[ZiZ];lia
  simpa [leT] using this
theorem ZfU (l:Q11):isk l=Zg6 l:=by
 have h1:(l.all λc=>LET.contains c)=decide (∀c∈l,c∈LET):=by rw[YBU,YBW,decide_eq_true_iff];simp
 have h2:decide (signs l=Zbs (ddl (signs l)))=decide (l.Pairwise (· < ·)):=by rw[YBU,decide_eq_true_iff,decide_eq_true_iff,Zh0]
 have h3:ZeO [] l=(decide (∀c∈l,c∈LET)&&decide (l.Pairwise (· < ·))):=by rw[YBU,YAX,decide_eq_true_iff,decide_eq_true_iff,ZdH]
 unfold isk Zg6;rw[h1,h2,h3,Bool.and_assoc]
theorem all_range (l m:Q11):((List.range l.length).map (λi=>decide (l.getD i 0∈m))).all id=l.all λc=>m.contains c:=by
 rw[YBU,YBW,YBW];constructor
 .intro h c hc;obtain⟨i,hi,rfl⟩:=List.mem_iff_getElem.mp hc;have:=h _ (YAx (YAw.mpr hi));simpa [YAT,YAL hi] using this
 .intro h b hb;obtain⟨i,hi,rfl⟩:=YAa.mp hb;have hi:=YAw.mp hi;have:=h _ (YCE hi);simpa [YAT,YAL hi] using this
noncomputable def cell (ns:List Int)(k:Int):Int:=ns.getD k.toNat 0
theorem Zm3 {ns:List Int}{k:Int}(h0:0<=k)(h1:k<ns.length):atI (ns.map V.int) k=some (.int (cell ns k)):=by
 have hk:k.toNat<ns.length:=by lia
 unfold atI ixN cell;rw[YAB,YAM h0,YAM h1,YDA,YAQ,YAT,YAL hk];rfl
theorem Zbn (h:l.length<=1000):LenV K (tx l) H l.length:=by
 have e:(⟨l.toArray⟩:Str).length=l.length:=by simp[Str.length]
 have:l.length<=sizeLine:=YAK h (by rw[sizeLine_eq];decide);exact⟨by rw[e];exact this,e.symm⟩
theorem cm (h:0<m)(h2:m<=2 ^ 64):CMul (x % m) y:=.inl ⟨by have:=YBX x (show m≠0 by lia);lia,by have:=YBP x h;lia⟩
theorem ZfQ:kitOne K t t=some true:=by unfold kitOne;simp
theorem Zgk (h0:0<=i)(h1:i<xs.length):∃v,atI xs i=some v/\v∈xs:=by
 have hi:i.toNat<xs.length:=by lia
 refine⟨xs[i.toNat],?_,YCE hi⟩;unfold atI ixN;rw[YAM h0,YAM h1,YDA,YAL hi]
theorem ZbH (xs:Q22):(xs.map tx).all Zbp=true:=by rw[YBW];intro v hv;obtain⟨x,_,rfl⟩:=YAa.mp hv;rfl
theorem same_upd3 (s:Same H H2)(h:H e=none):Same H (upd H2 e o'):=λb u hb=>by
 have:b≠e:=λz=>by rw[z,h]at hb;cases hb
 rw[Zah this];exact s _ _ hb
theorem Zdg (p:α->Bool)(d:α)(ls:List α):((List.range ls.length).filter λi=>p (ls.getD i d)).map (λi=>ls.getD i d)=ls.filter p:=by
 have e:(List.range ls.length).map (λi=>ls.getD i d)=ls:=by
  apply YCO
  .simp
  .intro i h1 h2;simp[h2]
 have h:=YDJ (p:=p) (f:=λi=>ls.getD i d) (l:=List.range ls.length);rw[e]at h;rw[h];rfl
theorem Zco {ls:Q22}{k:Nat}(h:k<ls.length):(ls.map tx).getD k V.non=tx (ls.getD k []):=by rw[YAT,YAQ,YAT,YAL h];rfl
theorem ZfV {x:Q11}{ls:Q22}:inV (tx x) (ls.map tx)=decide (x∈ls):=by
 unfold inV;rw[YBU,YCG,decide_eq_true_iff];constructor
 .rintro⟨y,hy,e⟩;obtain⟨l,hl,rfl⟩:=YAa.mp hy;rw[ZlD,decide_eq_true_iff,Zel]at e;rw[<-e];exact hl
 .intro h;exact⟨tx x,YAx h,by rw[ZlD];exact decide_eq_true rfl⟩
theorem ZgU:∀(xs ys:Q22),deqs ((xs.map tx).map DT.f) ((ys.map tx).map DT.f)=decide (xs=ys)
 | [],[]=>by unfold deqs;rfl
 | [],y::ys=>by simp only[YAi,List.map_nil];unfold deqs;rfl
 | x::xs,[]=>by simp only[YAi,List.map_nil];unfold deqs;rfl
 | x::xs,y::ys=>by
  simp only[YAi];unfold deqs;rw[ZgU xs ys];have e:deq (DT.f (tx x)) (DT.f (tx y))=decide (x=y):=by unfold deq;rw[<-Zcr];show ((⟨x.toArray⟩:Str) == ⟨y.toArray⟩)=_;rw[YBU,beq_iff_eq,decide_eq_true_iff];exact⟨λh=>by unfold tx;rw[h],λh=>by unfold tx at h;injection h⟩
  rw[e,YBU,YAX,decide_eq_true_iff,decide_eq_true_iff,decide_eq_true_iff,List.cons.injEq]
theorem Zoq {K:Q4}{H:Hp}{Q:VK}{a b:AE}{xs:Q22}(h1:SqL K H a (xs.map tx))(h2:SqL K H b (xs.map tx))(q:Q (.bl false) H):rEqD K true (.ref a) (.ref b) H Q:=
 .inr ⟨_,_,datL h1 (ZbH _),datL h2 (ZbH _),λz=>YAC z.1,(ownL h1 (ZbH _)).2.2,by unfold deq;rw[ZgU,decide_eq_true rfl];exact q⟩
theorem Zo3 {K:Q4}{H:Hp}{Q:VK}{a b:AE}{xs ys:Q22}(h1:SqL K H a (xs.map tx))(h2:SqL K H b (ys.map tx))(q:Q (.bl (decide (xs=ys))) H):rEqD K false (.ref a) (.ref b) H Q:=
 .inr ⟨_,_,datL h1 (ZbH _),datL h2 (ZbH _),λz=>YAC z.1,(ownL h1 (ZbH _)).2.2,by unfold deq;rw[ZgU];exact q⟩
theorem Zjb:V.str (Str.ofString "abcdefghijklmnopqrstuvwxyz")=tx LET:=congrArg V.str (by decide +kernel)
theorem ZmV (l:Q11):(ddl (signs l)).length<=l.length:=by
 have:∀(ls acc:Q22),(ls.foldl addT acc).length<=acc.length+ls.length:=by
  intro ls;induction ls with
  | nil=>intro acc;simp
  | cons x ls ih=>
   intro acc;rw[YBy];refine YAK (ih _) ?_;unfold addT;split<;>simp<;>lia
 have h:=this (signs l) [];unfold ddl;unfold signs at h ⊢;simpa using h
theorem signs_length (l:Q11):(signs l).length=l.length:=by unfold signs;rw[YAB]
theorem ZoC:kitOne K (.type "int") (.type "bool")=some false:=by rfl
def flds (l m:Q11):List (Str×V):=putF "own_kinds" (tx m) (putF "own_text" (tx l) [])
theorem kt:¬(("own_text":Str)="own_kinds"):=by decide +kernel
theorem Zd3:(flds l m).lookup ("own_text":Str)=some (tx l):=by unfold flds;rw[Zas,YAJ kt,Zas,YAM rfl]
theorem ZeB:(flds l m).lookup ("own_kinds":Str)=some (tx m):=by unfold flds;rw[Zas,YAM rfl]
theorem Zdf {l m:Q11} {x:Str} (h1:¬x="own_text") (h2:¬x="own_kinds"):(flds l m).lookup x=none:=by unfold flds;rw[Zas,YAJ h2,Zas,YAJ h1];rfl
def Zb9 (C:AE)(H:Hp)(p:AE)(l m:Q11):Prop:=∃dx,H p=some (.ins C dx (flds l m))
structure StripOk (l m:Q11):Prop where
 k:isk m=true
 m1:1<=m.length
 m4:m.length<=4
 l40:l.length<=40
 mem:∀x∈l,x∈m
theorem Zo7 (ls:Q22):(ddl ls).length<=ls.length:=by
 have:∀(ls acc:Q22),(ls.foldl addT acc).length<=acc.length+ls.length:=by
  intro ls;induction ls with
  | nil=>intro acc;simp
  | cons x ls ih=>
   intro acc;rw[YBy];refine YAK (ih _) ?_;unfold addT;split<;>simp<;>lia
 simpa [ddl] using this ls []
theorem ZoL (h:StripOk l m):isw l m 40=true:=by have h2:=h.l40;unfold isw;rw[YAX,decide_eq_true_iff,YBW];exact⟨by lia,λx hx=>by simpa using h.mem x hx⟩
theorem Zls:∀k,k<26->LET[k]?=some (97+k):=by decide
theorem Zmy (h1:97<=c)(h2:c<=122):c∈LET:=by
 have:=Zls (c-97) (by lia);have e:97+(c-97)=c:=by lia
 rw[e]at this;exact YAh this
theorem ZoM (h1:1<=m.length)(h4:m.length<=4)(hm:∀c∈m,c∈LET)(hp:m.Pairwise (· < ·)):isk m=true:=by rw[ZfU];unfold Zg6;rw[(ZdH m).mpr ⟨hm,hp⟩];simp[h1,h4]
theorem Zo8 (l:Q11){i:Int}(h:0<=i):cut l none (some i)=l.take i.toNat:=by obtain⟨k,rfl⟩:∃k:Nat,i=(k:Int):=⟨i.toNat,by lia⟩;rw[ZhP,YCJ]
theorem ZmX (l:Q11){i:Int}(h:0<=i):cut l (some i) none=l.drop i.toNat:=by obtain⟨k,rfl⟩:∃k:Nat,i=(k:Int):=⟨i.toNat,by lia⟩;rw[ZcD,YCJ]
theorem iteT' {p q:Prop}[Decidable True](h:p):if True then p else q:=by rw[YAM True.intro];exact h
theorem Zlg (Pv:St->Prop)(μ:St->Nat)(h0:Pv U)
  (hs:∀U,Pv U->∃b:Bool,(∀Q:Bool->Hp->Prop,Q b H->c U H Q)/\if b=true then tb { D with nx:=λU' H'=>(H'=H/\Pv U')/\μ U'<μ U,ct:=λU' H'=>(H'=H/\Pv U')/\μ U'<μ U,bk:=D.nx } U H else D.nx U H):WhileRun c tb D U H:=by
 refine⟨λm U H'=>m=μ U/\H'=H/\Pv U,⟨_,rfl,rfl,h0⟩,?_⟩;rintro m U _ ⟨rfl,rfl,p⟩;obtain⟨b,hc,hb⟩:=hs U p;refine hc _ ?_;cases b with
 | true=>exact⟨_,λU' H' ⟨p',l⟩=>⟨_,l,rfl,p'⟩,hb⟩
 | false=>exact hb
theorem Zhf (l:Q11)(n:Int):(repT l n).length=n.toNat*l.length:=by unfold repT;simp
theorem Zkh (h:x∈repT l n):x∈l:=by unfold repT at h;obtain⟨y,hy,hx⟩:=List.mem_flatten.mp h;rw[(List.mem_replicate.mp hy).2]at hx;exact hx
theorem fill {f m:Q11}{n:Nat}{e:Int}(hn:0<n)(hf:f.length=n)(hm:∀x∈f,x∈m)(he:1<=e):(cut (repT (cut f none (some e)) (n:Nat)) none (some ((n:Nat):Int))).length=n/\∀x∈cut (repT (cut f none (some e)) (n:Nat)) none (some ((n:Nat):Int)),x∈m:=by
 rw[ZhP,Zo8 f (by lia)];have ht:1<=(f.take e.toNat).length:=by rw[YAW];lia
 have hl:n<=(repT (f.take e.toNat) (n:Nat)).length:=by rw[Zhf,YCJ];exact Nat.le_mul_of_pos_right n ht
 refine⟨by rw[YAW];lia,λx hx=>?_⟩;exact hm x (YAZ (Zkh (YAZ hx)))
theorem put1 {f m:Q11}{n c:Nat}{i:Int}(hf:f.length=n)(hm:∀x∈f,x∈m)(hc:c∈m)(h0:0<=i)(h1:i<(n:Nat)):(cut f none (some i)++[c]++cut f (some (i+1)) none).length=n/\∀x∈cut f none (some i)++[c]++cut f (some (i+1)) none,x∈m:=by
 rw[Zo8 f h0,ZmX f (by lia)];refine⟨by rw[YAG,YAG,YAW,YAp,YBF];lia,λx hx=>?_⟩;rcases YAR.mp hx with hx | hx
 .rcases YAR.mp hx with hx | hx
  .exact hm x (YAZ hx)
  .rw[YAI.mp hx];exact hc
 .exact hm x (YAg hx)
theorem Zi4 (h:Q (.bl false) H):rEqD K true (tx x) (tx x) H Q:=.inl ⟨rfl,by rw[YAM rfl,decide_eq_true rfl];exact h⟩
theorem ZgR (h:Q (.bl true) H):rEqD K false (tx x) (tx x) H Q:=.inl ⟨rfl,by rw[YAJ YAC,decide_eq_true rfl];exact h⟩
theorem ZgY (w:Q11):cut w none (some (-1))=w.dropLast:=by
 unfold cut;have e1:HT.sIx w.length w.length (some (-1))=w.length-1:=by unfold HT.sIx;simp only[];rw[YAM (by decide)];lia
 have e2:HT.sIx w.length 0 none=0:=rfl;rw[e1,e2,YBh,YDR];rfl
theorem Zfj (w:Q11):cut w (some 1) none=w.tail:=by have:=ZcD w 1;rw[List.drop_one]at this;exact this
theorem Zde (hm:m.length<=4)(hl:l.length<=40)(hi:i<=41):(ZcW l m i).length<=6724:=by have h1:∀k,(Zeg (wordsOf l k) (wordsOf l (k+1)) m).length<=164:=λk=>YAK (Zjh _ _ _) (YAK (YDP (ZdF l k) hm) (by lia));have h2:=ZbI (f:=λk=>Zeg (wordsOf l k) (wordsOf l (k+1)) m) h1 (List.range i);rw[YBM]at h2;have:i*164<=41*164:=YDZ _ hi;unfold ZcW;lia
theorem ZcV (hl:l.length<=40)(h:w∈Zaq l m):w.length<=41:=by have:=(ZaK.mp h).1.init.len;rw[YBJ]at this;lia
theorem Zce {α:Type}{l:List α}{i:Nat}{x:α}(h:l[i]?=some x):l.take (i+1)=l.take i++[x]:=by rw[List.take_succ,h];rfl
structure KOk (m:Q11):Prop where
 k:isk m=true
 m1:1<=m.length
 m4:m.length<=4
theorem ZmD (h:(l.length:Int)<=most)(hm:∀x∈l,x∈m):isw l m most=true:=by unfold isw;rw[YAX,decide_eq_true_iff,YBW];exact⟨h,λx hx=>by simpa using hm x hx⟩
theorem ZiL (h:H e=none):Same H (upd (upd H e o) e o'):=λb u hb=>by
 have:b≠e:=λz=>by rw[z,h]at hb;cases hb
 rw[Zah this,Zah this];exact hb
def Zjg (l x:Q11):Bool:=!infB x l&&(infB x.tail l&&infB x.dropLast l)
theorem atI0:atI (x::xs) 0=some x:=by unfold atI ixN;rw[YAM (Int.le_refl _),YAM (by rw[YAf];lia)];rfl
theorem Zc0 (h:isk m=true):m.Pairwise (· < ·):=by rw[ZfU]at h;unfold Zg6 at h;rw[YAX]at h;exact((ZdH m).mp h.2).2
def isl (l m:Q11):Bool:=isw l m 1&&decide ((l.length:Int)=1)
theorem KOk.kinds (h:KOk m):KindsOk m:=⟨h.k,h.m1,h.m4,Zc0 h.k⟩
theorem Zjm (h:KindsOk m):KOk m:=⟨h.k,h.m1,h.m4⟩
theorem ZmE (h:c∈m):isl [c] m=true:=by unfold isl;rw[ZmD (by show ((1:Nat):Int)<=1;decide) (λx hx=>by rw[YAI.mp hx];exact h)];rfl
theorem ZfP (ne:x≠[]):Zjg l x=true↔Miss l x:=by
 unfold Zjg;rw[YAX,YAX,Bool.not_eq_true',ZdB,ZbO,ZbO];constructor
 .rintro⟨a,b,c⟩;exact⟨ne,c,b,a⟩
 .rintro⟨_,c,b,a⟩;exact⟨a,b,c⟩
noncomputable def Zba (L:Q11)(i:Nat):Q22:=(List.range i).flatMap λk=>[L.take (k+1),L.drop (L.length-(k+1))]
theorem ZeC (L:Q11)(i:Nat):Zba L (i+1)=Zba L i++[L.take (i+1),L.drop (L.length-(i+1))]:=by unfold Zba;rw[YBo,List.flatMap_append,List.flatMap_singleton]
theorem Zc2 (L:Q11):∀i,(Zba L i).length=2*i
 | 0=>rfl
 | i+1=>by rw[ZeC,YAG,Zc2 L i];simp;lia
theorem ZfK:w∈Zba L i↔∃k,1<=k/\k<=i/\(w=L.take k\/w=L.drop (L.length-k)):=by
 unfold Zba;rw[YDW];constructor
 .rintro⟨k,hk,h⟩;have hk:=YAw.mp hk;simp only[YAH,YAz,or_false]at h;exact⟨k+1,by lia,by lia,h⟩
 .rintro⟨k,h1,h2,h⟩;refine⟨k-1,YAw.mpr (by lia),?_⟩;have e:k-1+1=k:=by lia
  rw[e];simpa using h
theorem Zhe (h:RowsA H zs rs){i:Nat}(hi:i<zs.length):∃t u,zs.getD i .non=.ref t/\H t=some (.tup [tx ((rs.map (·.1)).getD i []),u]):=by obtain⟨r,hr,t,b,e,h1,_⟩:=h.2 i zs[i] (YAL hi);refine⟨t,.ref b,by rw[YAT,YAL hi];exact e,?_⟩;rw[h1,YAT,YAQ,hr];rfl
theorem ZjQ {rs:List (Q11×List V)}{n:Nat}(h:n=rs.length):((List.range n).filter λ_=>true).map (λi=>tx ((rs.map (·.1)).getD i []))=(rs.map (·.1)).map tx:=by
 subst h;rw[List.filter_eq_self.mpr (λ_ _=>rfl)];apply YCO (by simp);intro i h1 h2;have hi:i<rs.length:=by simpa using h2
 simp[YAT,YAL hi]
theorem ZgJ {kvs:List (Key×V)}{k:Key}{v:V}(h:valV kvs k=some v):k∈kvs.map (·.1):=by
 unfold valV at h;obtain⟨p,hp,_⟩:=YBI.mp h;have e:p.1=k:=by simpa using List.find?_some hp
 rw[<-e];exact YAx (List.mem_of_find?_eq_some hp)
theorem ZkG (l:List (Key×V))(v:V)(h:k∈l.map (·.1)):(putK l k v).map (·.1)=l.map (·.1):=by
 unfold putK;have ha:(l.any λkv=>decide (kv.1=k))=true:=by obtain⟨p,hp,e⟩:=YAa.mp h;exact YCG.mpr ⟨p,hp,decide_eq_true e⟩
 rw[YAM ha,YAl];refine YCK λp _=>?_;show (if p.1=k then (p.1,v) else p).1=p.1;split<;>rfl
structure DI (H:Hp)(s L rs:Q11)(S:Q11->Prop)(kvs:List (Key×V))(ws:Q22):Prop where
 keys:kvs.map (·.1)=ws.map kTx
 nd:ws.Nodup
 mem:∀w,w∈ws↔Miss L w/\S w
 val:∀w∈ws,∃b,valV kvs (kTx w)=some (.ref b)/\H b=some (.tup [tx rs,tx (shOf s w),.int (fpl L (shOf s w):Nat)])
theorem DI.grow (h:DI H s L rs S kvs ws)(sm:∀b us,H b=some (.tup us)->H' b=some (.tup us))(hS:∀w,Miss L w->(S w↔S' w)):DI H' s L rs S' kvs ws:=
 ⟨h.keys,h.nd,λw=>(h.mem w).trans ⟨λ⟨a,b⟩=>⟨a,(hS w a).mp b⟩,λ⟨a,b⟩=>⟨a,(hS w a).mpr b⟩⟩,λw hw=>let ⟨b,h1,h2⟩:=h.val w hw;⟨b,h1,sm _ _ h2⟩⟩
theorem DI.put (h:DI H s L rs S kvs ws)(mx:Miss L x)(hb:H b=some (.tup [tx rs,tx (shOf s x),.int (fpl L (shOf s x):Nat)])):
  ∃ws',DI H s L rs (λw=>S w\/w=x) (putK kvs (kTx x) (.ref b)) ws':=by
 by_cases hx:x∈ws
 .refine⟨ws,?_,h.nd,λw=>?_,λw hw=>?_⟩
  .rw[ZkG,h.keys];rw[h.keys];exact YAx hx
  .rw[h.mem];constructor
   .rintro⟨a,c⟩;exact⟨a,.inl c⟩
   .rintro⟨a,c | rfl⟩
    .exact⟨a,c⟩
    .exact(h.mem w).mp hx
  .rw[ZeM];by_cases e:w=x
   .subst e;exact⟨b,by rw[YAM rfl],hb⟩
   .rw[YAJ (λz=>e (ZbG z))];exact h.val w hw
 .have hv:valV kvs (kTx x)=none:=by
   cases e:valV kvs (kTx x) with
   | none=>rfl
   | some v=>
    exfalso;have:=ZgJ e;rw[h.keys]at this;obtain⟨y,hy,e2⟩:=YAa.mp this;exact hx (ZbG e2▸hy)
  refine⟨ws++[x],?_,?_,λw=>?_,λw hw=>?_⟩
  .rw[Zcu _ hv,YAb,h.keys,YAb];rfl
  .rw[YBv];refine⟨h.nd,by simp,λa ha c hc e=>?_⟩;rw[YAI.mp hc]at e;exact hx (e▸ha)
  .rw[YAR,YAI,h.mem];constructor
   .rintro (⟨a,c⟩ | rfl)
    .exact⟨a,.inl c⟩
    .exact⟨mx,.inr rfl⟩
   .rintro⟨a,c | rfl⟩
    .exact .inl ⟨a,c⟩
    .exact .inr rfl
  .rw[ZeM];by_cases e:w=x
   .subst e;exact⟨b,by rw[YAM rfl],hb⟩
   .rw[YAJ (λz=>e (ZbG z))];rcases YAR.mp hw with z | z
    .exact h.val w z
    .exact absurd (YAI.mp z) e
theorem Zg8 (T:TblOk H P pos q)(k:∀b o,H b=some o->b≠pd->H' b=some o)(h:H pd=some o0)(t:Zds o0=false)(x:ZkK o0=false):TblOk H' P pos q:=by obtain⟨ps,e,tr,hc⟩:=T;refine⟨ps,k _ _ e (λz=>by rw[z,h]at e;cases e;cases t),tr,hc.imp id ?_⟩;rintro⟨c,e1,e2⟩;exact⟨c,e1,k _ _ e2 (λz=>by rw[z,h]at e2;unfold Zfo at e2;cases e2;cases x)⟩
theorem Zci (rs s L m:Q11):(ZcE rs s L m).map (·.1)=opnL s L m:=by unfold ZcE;rw[YAl];exact List.map_id' _
theorem Zcj (rs s L m:Q11):(ZcJ rs s L m).map (·.1)=filL s L m:=by unfold ZcJ;rw[YAl];exact List.map_id' _
theorem ZbZ (hm:m.length<=4)(hl:l.length<=40):(Zaq l m).length<=6724:=Zde hm hl (by lia)
theorem ZdA 
  (hp:StripAt C H p la da l m ds) (c3:Chg [da] H H3) (d3:H3 da=some (.lst ts2)) (e3:DeedsA H3 ts2 ds2) (ch:Chg [p] H3 H4) (f4:Zdq C H4 p la2 da l2 m) (l4:H4 la2=some (.lst ((Zaq l2 m).map tx))) (an:AnsS H3 H4 t c g la2 rc rg) (run:Run m ds2 l2):
  Chg [p,da] H H4/\StripAt C H4 p la2 da l2 m ds2/\AnsS H H4 t c g la2 rc rg:=by
 obtain⟨⟨dx,f⟩,hk,⟨ts,d1,d2⟩,_,ok,nld⟩:=id hp;have npd:p≠da:=λz=>by rw[z,d1]at f;cases f
 have f3:=c3 _ _ f (by simpa using npd) rfl;have nw:∀r,Nw H3 r->Nw H r:=λr n=>n.chg c3 λb hb=>by obtain rfl:=YAI.mp hb;exact⟨_,d3,rfl⟩
 refine⟨(c3.mono (by simp)).trans (ch.mono (by simp)),⟨f4,l4,⟨ts2,ch _ _ d3 (by simpa using YAk npd) rfl,e3.chg ch λb hb us z=>by rw[YAI.mp hb,f3]at z;cases z⟩,run,ok,YAk (an.nl.ne d3 rfl)⟩,⟨an.tup,an.came,an.went,nw _ an.nc,nw _ an.ng,nw _ an.nl,an.ncg,an.ncl,an.ngl⟩⟩
theorem Zd6 (h:SqL K H r ts)(d:DeedsA H ts ds):DatOk K H (.l (ds.map Zd7)) (.ref r):=by unfold DatOk;exact⟨r,ts,rfl,h,d.dat⟩
theorem Zf9 (ds:List (Bool×Nat)):dep (.l (ds.map Zd7))<=2:=by unfold dep;refine YBj (ZcM λd hd=>?_);obtain⟨x,_,rfl⟩:=YAa.mp hd;exact ZjI x
theorem ZbS (h:StripAt C H p la da l m ds):StripOk l m:=⟨h.ok.k,h.ok.m1,h.ok.m4,h.run.len,h.run.mem⟩
noncomputable def okN (x:Str):Bool:=!decide (x="own_text")&&!decide (x="own_kinds")&&!decide (x="own_lacking")&&!decide (x="own_deeds")
theorem sN (h:okN x=true:=by decide +kernel):(sF l m la da).lookup x=none:=by unfold okN at h;simp only[YAX,Bool.not_eq_true',decide_eq_false_iff_not]at h;exact Zp8 h.1.1.1 h.1.1.2 h.1.2 h.2
structure RingOk (l m:Q11):Prop where
 k:isk m=true
 m1:1<=m.length
 m4:m.length<=4
 l1:1<=l.length
 l20:l.length<=20
 mem:∀x∈l,x∈m
theorem ZhE (hx:0<=x)(hy:0<y):Int.gcd y (x % y)=Int.gcd x y:=by obtain⟨m,rfl⟩:∃m:Nat,x=(m:Int):=⟨x.toNat,by lia⟩;obtain⟨n,rfl⟩:∃n:Nat,y=(n:Int):=⟨y.toNat,by lia⟩;have e:((m:Int) % (n:Int))=((m % n:Nat):Int):=(Int.natCast_emod m n).symm;rw[e];show Nat.gcd _ _=Nat.gcd _ _;simp only[Int.natAbs_natCast];rw[Nat.gcd_comm m n,Nat.gcd_rec n m,Nat.gcd_comm]
theorem at2 {x y:Int}{k:Bool}:∃z:Int,atI [V.int x,V.int y] (if k then 1 else 0)=some (.int z):=by
 cases k
 .exact⟨x,rfl⟩
 .exact⟨y,rfl⟩
def TT (a:Ad)(H:Hp):Prop:=TblOk H a.t_LH lpos lq/\TblOk H a.t_LO Zoz lqM
theorem TT.same (t:TT a H)(s:Same H H'):TT a H':=⟨t.1.same s,t.2.same s⟩
theorem TT.upd (t:TT a H)(h:H b=some o)(n1:Zds o=false)(n2:ZkK o=false):TT a (upd H b o'):=⟨t.1.upd h n1 n2,t.2.upd h n1 n2⟩
theorem Ziz (T:TT a H)(k:∀b o,H b=some o->b≠pd->H' b=some o)(h:H pd=some o0)(t:Zds o0=false)(x:ZkK o0=false):TT a H':=⟨Zg8 T.1 k h t x,Zg8 T.2 k h t x⟩
def BandA (a:Ad)(H:Hp)(p:AE)(l m:Q11):Prop:=Zb9 a.c_LX H p l m\/∃la da ds,StripAt a.c_LZ H p la da l m ds
theorem BandA.l {a:Ad}{H H':Hp}{p:AE}{l m:Q11}(h:BandA a H p l m)(s:SameL H H'):BandA a H' p l m:=by
 rcases h with⟨dx,h⟩|⟨la,da,ds,h⟩
 .exact .inl ⟨dx,s _ _ h rfl⟩
 .exact .inr ⟨la,da,ds,h.l s⟩
def ZqZ (H:Hp)(zs:List V)(ds xs:Q22):Prop:=zs.length=ds.length/\∀(i:Nat) (y:V),zs[i]?=some y->∃w t,ds[i]?=some w/\y=.ref t/\H t=some (.tup [tx w,.int (if w∈xs then 0 else 1)])
structure LsOk (xs:Q22):Prop where
 srt:xs.Pairwise BefW
 len:xs.length<=200
 w:∀w∈xs,1<=w.length/\w.length<=41
theorem Zea {a:Ad} {H:Hp} {p:AE} {l m:Q11} {x:Str} {R1 R2:Prop} (h:BandA a H p l m) (n1:¬x="own_text") (n2:¬x="own_kinds") (n3:okN x=true) (r1:Zb9 a.c_LX H p l m->R1) (r2:∀la da ds,StripAt a.c_LZ H p la da l m ds->R2):
  (∃(a_1 dx:AE) (fs:List (Str×V)),V.ref p=V.ref a_1/\H a_1=some (HO.ins a.c_LX dx fs)/\fs.lookup x=none/\R1)\/∃(a_1 dx:AE) (fs:List (Str×V)),V.ref p=V.ref a_1/\H a_1=some (HO.ins a.c_LZ dx fs)/\fs.lookup x=none/\R2:=by
 rcases h with⟨dx,f⟩|⟨la,da,ds,h⟩
 .exact .inl ⟨p,dx,_,rfl,f,Zdf n1 n2,r1 ⟨dx,f⟩⟩
 .obtain⟨dx,f⟩:=id h.fld;exact .inr ⟨p,dx,_,rfl,f,sN n3,r2 la da ds h⟩
theorem Zlp (n:x≠y)(h:Q (.bl true) H):rEqD K true (tx x) (tx y) H Q:=.inl ⟨rfl,by rw[YAM rfl,Zcr,decide_eq_false n];exact h⟩
theorem lsOk (ok:StripOk l m):LsOk (Zaq l m):=by refine⟨ZaP (Zc0 ok.k),YAK (Zij (Zc0 ok.k)) (YAK (YDP ok.m4 (YBj ok.l40)) (by decide)),λw hw=>?_⟩;have ms:=(ZaK.mp hw).1;have h1:=ms.tail.len;rw[List.length_tail]at h1;have h2:=YBV.mpr ms.ne;have:=ok.l40;lia
theorem Zf7 (h:ds.Perm (Zbs (xorT (ddl a) (ddl b)))):IsDiff a b ds:=by
 have h:=h.trans (ZaZ _);refine⟨h.nodup_iff.mpr ?_,λw=>?_⟩
 .unfold xorT;rw[YBv];refine⟨(ZbY _).filter _,(ZbY _).filter _,λx hx y hy e=>?_⟩;subst e;have h1:=(YAy.mp hx).1;have h2:=of_decide_eq_true (YAy.mp hy).2;exact h2 h1
 .rw[h.mem_iff];unfold xorT;simp[YAR,YAy,ZdT]
theorem ZdG {C T:AE->Hp->Prop}{R:Prop}(h1:(∀r H,C r H->T r H)->R)(h2:∀r H,C r H->T r H):R:=h1 h2
theorem ZlH (ls:Q22):(ddl ls).length<=ls.length:=Zcn _ _ (ZbY ls) λ_ h=>ZdT.mp h
theorem Zf6 (h:IsDiff a b ds)(ha:LsOk a)(hb:LsOk b){w:Q11}(hw:w∈ds):1<=w.length/\w.length<=41:=((h.mem w).mp hw).elim (λz=>ha.w w z.1) (λz=>hb.w w z.1)
theorem ZdE (h:IsDiff a b ds)(ha:LsOk a)(hb:LsOk b):ds.length<=400:=by have:=Zcn ds (a++b) h.nd λw hw=>YAR.mpr (((h.mem w).mp hw).imp (λz=>z.1) (λz=>z.1));rw[YAG]at this;have:=ha.len;have:=hb.len;lia
theorem Zpi:Bt 340 ((400*DD:Nat):Int):=⟨by lia,by show 400*DD<2 ^ 340;decide +kernel⟩
theorem ZjA (h:W<=400*DD):Bt 340 (frT (W:Nat) (DD:Nat))/\Bt 340 (frB (W:Nat) (DD:Nat))/\0<frB (W:Nat) (DD:Nat):=by have dp:=Zgn;obtain⟨a1,a2,a3,a4,_⟩:=Zcp (a:=(W:Nat)) (b:=(DD:Nat)) (by lia) (by lia);exact⟨Zpi.le a1 (by lia),Zpi.le (by lia) (by lia),by lia⟩
theorem Zm7 (h:∀w∈ws,1<=w.length/\w.length<=41):WS ws<=ws.length*DD:=by
 induction ws with
 | nil=>exact YAt _
 | cons w ws ih=>
  have i:=ih λu hu=>h u (by simp[hu]);obtain⟨h1,h2⟩:=h w (by simp);have e:=Zir h1 h2;have k:wtN w.length<=DD:=by rw[<-e];exact Nat.le_mul_of_pos_left _ (Nat.mul_pos h1 h1)
  unfold WS at *;simp only[YAi,List.sum_cons,YAf,Nat.add_mul,Nat.one_mul];lia
theorem ZmO (h1:1<=n)(h2:n<=41)(hs:s=((n*n:Nat):Int)):
  frT (frT (W:Nat) (DD:Nat)*frB 1 s+frT 1 s*frB (W:Nat) (DD:Nat)) (frB (W:Nat) (DD:Nat)*frB 1 s)=frT ((W+wtN n:Nat):Int) (DD:Nat)/\frB (frT (W:Nat) (DD:Nat)*frB 1 s+frT 1 s*frB (W:Nat) (DD:Nat)) (frB (W:Nat) (DD:Nat)*frB 1 s)=frB ((W+wtN n:Nat):Int) (DD:Nat):=by
 have dp:=Zgn;have sp:0<s:=by rw[hs];have:=Nat.mul_pos h1 h1;lia
 have e:s*(wtN n:Nat)=(DD:Nat):=by rw[hs,<-YCq,Zir h1 h2]
 obtain⟨a1,a2,a3,a4,a5,a6⟩:=Zcp (a:=(W:Nat)) (b:=(DD:Nat)) (by lia) (by lia);obtain⟨b1,b2,b3,b4,b5,b6⟩:=Zcp (a:=1) (b:=s) (by decide) sp;generalize frT (W:Nat) (DD:Nat)=x at *;generalize frB (W:Nat) (DD:Nat)=y at *;generalize frT 1 s=z at *;generalize frB 1 s=u at *;refine ZgP (Int.add_nonneg (Int.mul_nonneg a1 (by lia)) (Int.mul_nonneg b1 (by lia))) (Int.mul_pos (by lia) (by lia)) (by lia) (by lia) ?_;have q1:(x*u+z*y)*(DD:Nat)=(x*(DD:Nat))*u+z*y*(DD:Nat):=by rw[Int.add_mul];congr 1;ac_rfl
 have q2:z*y*(DD:Nat)=(z*s)*(y*(wtN n:Nat)):=by rw[<-e];ac_rfl
 rw[q1,q2,a6,b6,Int.natCast_add,Int.add_mul,Int.mul_one];congr 1<;>ac_rfl
theorem ZmS (p:Q11->Bool)(xs:Q22):((List.range (xs.map tx).length).filter λi=>p (xs.getD i [])).map (λi=>tx (xs.getD i []))=(xs.filter p).map tx:=by rw[YAB,<-Zdg p [] xs,YAl];rfl
theorem Zfe (hx:xs.Nodup)(hy:ys.Nodup):IsDiff xs ys ((xs.filter λv=>!decide (v∈ys))++ys.filter λv=>!decide (v∈xs)):=by refine⟨?_,λw=>by simp[YAR,YAy]⟩;rw[YBv];refine⟨hx.filter _,hy.filter _,λx h y k e=>?_⟩;subst e;have h1:=(YAy.mp h).1;have h2:=(YAy.mp k).2;rw[decide_eq_true h1]at h2;cases h2
theorem ZqX {ws:Q22}{i:Nat}{x:V}(h:(ws.map tx)[i]?=some x):∃w,ws[i]?=some w/\x=tx w:=by rw[YAQ]at h;obtain⟨w,h1,h2⟩:=YBI.mp h;exact⟨w,h1,h2.symm⟩
theorem Zlf:(Value.ref C::l).contains (.ref C)=true:=by simp[List.contains_cons]
def Zph (l:Q11)(kvs:List (Key×V)):Prop:=(∀kv∈kvs,∃x:Q11,kv.1=kTx x/\Inf x l)/\∀x:Q11,(valV kvs (kTx x)).isSome=infB x l
theorem ZmH (h:s<=e)(he:e<=l.length):Inf ((l.drop s).take (e-s)) l:=by
 refine⟨s,?_,?_⟩
 .rw[YAW,YAp];lia
 .rw[YAW,YAp,YBg (by lia)]
theorem ZoQ (h:Inf x l):∃s e,s<=e/\e<=l.length/\x=(l.drop s).take (e-s):=by obtain⟨i,h1,h2⟩:=h;exact⟨i,i+x.length,by lia,h1,by rw[show i+x.length-i=x.length by lia];exact h2.symm⟩
def Sound (l:Q11)(kvs:List (Key×V)):Prop:=∀kv∈kvs,∃x:Q11,kv.1=kTx x/\Inf x l
theorem Sound.put (h:Sound l kvs)(hx:Inf x l):Sound l (putK kvs (kTx x) v):=by
 intro kv hkv;unfold putK at hkv;split at hkv
 .obtain⟨k0,h0,rfl⟩:=YAa.mp hkv;obtain⟨y,e,hy⟩:=h k0 h0;refine⟨y,?_,hy⟩;show (if k0.1=kTx x then (k0.1,v) else k0).1=kTx y;split<;>exact e
 .rcases YAR.mp hkv with h1 | h1
  .exact h kv h1
  .rw[YAI.mp h1];exact⟨x,rfl,hx⟩
theorem ZcP {kvs:List (Key×V)}{k k':Key}{v:V}(h:(valV kvs k').isSome=true\/k'=k):(valV (putK kvs k v) k').isSome=true:=by
 rw[ZeM];split
 .rfl
 .rcases h with h | h
  .exact h
  .exact absurd h (by assumption)
theorem ZkF (h1:Sound l kvs)(h0:(valV kvs (kTx [])).isSome=true)(h2:∀s e,s<l.length->s<=e->e<=l.length->(valV kvs (kTx ((l.drop s).take (e-s)))).isSome=true):Zph l kvs:=by
 refine⟨h1,λx=>?_⟩;rw[YBU,ZbO];constructor
 .intro h;obtain⟨v,hv⟩:=YDB.mp h;obtain⟨kv,hk,ek⟩:=YAa.mp (Zgv hv);obtain⟨y,ey,hy⟩:=h1 kv hk;rw[<-ZbG (ek.symm.trans ey)]at hy;exact hy
 .intro h;obtain⟨s,e,a,b,rfl⟩:=ZoQ h;by_cases c:s<l.length
  .exact h2 s e c a b
  .have:(l.drop s).take (e-s)=[]:=by rw[YBr (by lia)];simp
   rw[this];exact h0
theorem Zkw {kvs:List (Key×V)}{k:Key}(v:V)(hn:(kvs.map (·.1)).Nodup):((putK kvs k v).map (·.1)).Nodup:=by
 cases h:valV kvs k with
 | none=>exact Zmu v hn h
 | some x=>
  have e:(putK kvs k v).map (·.1)=kvs.map (·.1):=by unfold putK;rw[YAM (by obtain⟨kv,hk,ek⟩:=YAa.mp (Zgv h);exact YCG.mpr ⟨kv,hk,decide_eq_true ek⟩),YAl];refine YCK λp _=>?_;show (if p.1=k then (p.1,v) else p).1=p.1;split<;>rfl
  rw[e];exact hn
def ZlN (l:Q11)(kvs:List (Key×V)):Prop:=Zph l kvs/\(kvs.map (·.1)).Nodup/\kvs.length<=3000
def SoundD (l:Q11)(kvs:List (Key×V)):Prop:=Sound l kvs/\(kvs.map (·.1)).Nodup
theorem SoundD.put (h:SoundD l kvs)(hx:Inf x l):SoundD l (putK kvs (kTx x) v):=⟨h.1.put hx,Zkw v h.2⟩
theorem Zhz:∀ {kvs:List (Key×V)},(∀kv∈kvs,∃x:Q11,kv.1=kTx x)->∃ss:Q22,ss.map kTx=kvs.map (·.1)
 | [],_=>⟨[],rfl⟩
 | kv::kvs,h=>by obtain⟨ss,e⟩:=Zhz (kvs:=kvs) λp hp=>h p (YAV _ hp);obtain⟨x,ex⟩:=h kv YAd;exact⟨x::ss,by rw[YAi,YAi,e,ex]⟩
def Zbu (kvs:List (Key×V))(w:Q11)(c:Nat):Bool:=!(valV kvs (kTx (c::w))).isSome&&(valV kvs (kTx (c::w).dropLast)).isSome
def ZbL (kvs:List (Key×V))(m w:Q11):Q22:=(m.filter (Zbu kvs w)).map λc=>c::w
theorem Zj4 {α:Type}{es:List α}{n:Nat}{r:α}(h:es[n]?=some r):es.take (n+1)=es.take n++[r]:=by rw[YBl,h];rfl
theorem Zk9 (ok:StripOk l m)(kn:ZlN l kvs){ss:Q22}(hs:ss.map kTx=kvs.map (·.1)):(ss.flatMap (ZbL kvs m)).Nodup/\∀w,w∈ss.flatMap (ZbL kvs m)↔w∈Zaq l m:=by
 have nds:ss.Nodup:=by have:=kn.2.1;rw[<-hs]at this;exact List.Pairwise.imp (λh e=>h (by rw[e])) (YBS.mp this)
 have hm:m.Pairwise (· < ·):=Zc0 ok.k;have mem:∀u,u∈ss↔Inf u l:=λu=>by
  have e:=kn.1.2 u;constructor
  .intro h;have:kTx u∈kvs.map (·.1):=by rw[<-hs];exact YAx h
   obtain⟨kv,hk,ek⟩:=YAa.mp this;obtain⟨x,ex,hx⟩:=kn.1.1 kv hk;rw[ZbG (ek.symm.trans ex)];exact hx
  .intro h;rw[<-ZbO,<-e]at h;obtain⟨v,hv⟩:=YDB.mp h;obtain⟨kv,hk,ek⟩:=YAa.mp (Zgv hv);have:kTx u∈ss.map kTx:=by rw[hs,<-ek];exact YAx hk
   obtain⟨x,hx,ex⟩:=YAa.mp this;rw[<-ZbG ex];exact hx
 refine⟨?_,λw=>?_⟩
 .unfold List.Nodup;rw[List.pairwise_flatMap];refine⟨λu _=>?_,nds.imp λ{u v} huv x hx y hy e=>?_⟩
  .unfold ZbL;rw[YBS];exact List.Pairwise.imp (λ{a b} (h:a<b) (e:a::u=b::u)=>YAe h (by simpa using e)) (hm.filter (Zbu kvs u))
  .unfold ZbL at hx hy;obtain⟨c,_,rfl⟩:=YAa.mp hx;obtain⟨d,_,rfl⟩:=YAa.mp hy;exact huv (List.cons.inj e).2
 .rw[ZaK,YDW];constructor
  .rintro⟨u,hu,hw⟩;unfold ZbL at hw;obtain⟨c,hc,rfl⟩:=YAa.mp hw;obtain⟨hcm,hb⟩:=YAy.mp hc;unfold Zbu at hb;rw[kn.1.2,kn.1.2,YAX,Bool.not_eq_true']at hb;have hu:=(mem u).mp hu;refine⟨⟨by simp,ZbO.mp hb.2,hu,ZdB.mp hb.1⟩,?_⟩;cases hr:u.getLast? with
   | none=>rw[List.getLast?_eq_none_iff.mp hr];exact⟨c,hcm,rfl⟩
   | some d=>
    obtain⟨u',rfl⟩:=List.getLast?_eq_some_iff.mp hr;exact⟨d,ok.mem d (hu.mem (by simp)),by rw[<-YCP,List.getLast?_concat]⟩
  .rintro⟨ms,c,hc,hl⟩;obtain⟨d,u,rfl⟩:=YCu ms.ne;refine⟨u,(mem u).mpr ms.tail,?_⟩;unfold ZbL Zbu;refine YAa.mpr ⟨d,YAy.mpr ⟨?_,?_⟩,rfl⟩
   .by_cases z:u=[]
    .subst z;cases hl;exact hc
    .obtain⟨y,u',rfl⟩:=YCu z;exact ok.mem d (ms.init.mem (by simp))
   .rw[kn.1.2,kn.1.2,YAX,Bool.not_eq_true'];exact⟨ZdB.mpr ms.no,ZbO.mpr ms.init⟩
def BandN (a:Ad)(H0 H:Hp)(p:AE)(l m:Q11):Prop:=Zb9 a.c_LX H p l m\/∃la da ds,StripAt a.c_LZ H p la da l m ds/\Nw H0 la/\Nw H0 da
def BandX (a:Ad)(H:Hp)(c p:AE)(l m:Q11):Prop:=Zb9 a.c_LX H p l m\/∃la da ds,StripAt a.c_LZ H p la da l m ds/\c≠la/\c≠da
theorem BandN.x (h:BandN a H0 H p l m)(e:H0 c=some (.lst xs)):BandX a H c p l m:=by
 rcases h with h | ⟨la,da,ds,h,n1,n2⟩
 .exact .inl h
 .exact .inr ⟨la,da,ds,h,n1.ne e rfl,n2.ne e rfl⟩
theorem BandX.a {a:Ad}{H:Hp}{c p:AE}{l m:Q11}(h:BandX a H c p l m):BandA a H p l m:=h.imp id λ⟨la,da,ds,h,_,_⟩=>⟨la,da,ds,h⟩
theorem BandX.l {a:Ad}{H H':Hp}{c p:AE}{l m:Q11}(h:BandX a H c p l m)(s:SameL H H'):BandX a H' c p l m:=by
 rcases h with⟨dx,h⟩|⟨la,da,ds,h,n1,n2⟩
 .exact .inl ⟨dx,s _ _ h rfl⟩
 .exact .inr ⟨la,da,ds,h.l s,n1,n2⟩
theorem Zny (h:SqL K H a xs)(s:SameL H H'):SqL K H' a xs:=by
 rcases h with h | h
 .rcases h with h | ⟨o,h⟩
  .exact .inl (.inl (s _ _ h rfl))
  .exact .inl (.inr ⟨o,s _ _ h rfl⟩)
 .exact .inr h
structure Kp where
 n:Q11
 p:AE
 la:AE
 da:AE
 l:Q11
 ds:List (Bool×Nat)
structure ApA (r s:Kp):Prop where
 p:r.p≠s.p
 ll:r.la≠s.la
 ld:r.la≠s.da
 dl:r.da≠s.la
 dd:r.da≠s.da
def isn (n:Q11):Bool:=isw n LET 8&&decide (n≠[])
def KeepB (p:AE)(H H':Hp):Prop:=∀b o,H b=some o->b≠p->H' b=some o
theorem KeepB.chg (k:KeepB p H H'):Chg [p] H H':=λb o e n _=>k b o e (by simpa using n)
theorem KeepB.tt (k:KeepB p H H')(t:TT a H)(h:H p=some (.dK kvs)):TT a H':=Ziz t k h rfl rfl
def shF (m:Q11)(dA:AE):List (Str×V):=putF "own_strips" (.ref dA) (putF "own_kinds" (tx m) [])
def kpKV (F:List Kp):List (Key×V):=F.map λr=>(kTx r.n,V.ref r.p)
structure ShelfAt (a:Ad)(H:Hp)(p dA:AE)(m:Q11)(F:List Kp):Prop where
 fld:∃dx,H p=some (.ins a.c_LY dx (shF m dA))
 dct:H dA=some (.dK (kpKV F))
 str:∀r∈F,StripAt a.c_LZ H r.p r.la r.da r.l m r.ds
 nm:∀r∈F,isn r.n=true
 nd:(F.map (·.n)).Nodup
 kok:KOk m
def ZqY (a:Ad)(H:Hp)(p:AE)(m:Q11):Prop:=(∃l,BandA a H p l m)\/∃dA F,ShelfAt a H p dA m F
theorem shK:(shF m dA).lookup ("own_kinds":Str)=some (tx m):=by unfold shF;rw[Zas,YAJ (by decide +kernel),Zas,YAM rfl]
theorem shS:(shF m dA).lookup ("own_strips":Str)=some (.ref dA):=by unfold shF;rw[Zas,YAM rfl]
theorem shN {m:Q11} {dA:AE} {x:Str} (h1:¬x="own_strips":=by decide +kernel)(h2:¬x="own_kinds":=by decide +kernel):(shF m dA).lookup x=none:=by unfold shF;rw[Zas,YAJ h1,Zas,YAJ h2];rfl
theorem ZgN (h:isn n=true):n.length<=8:=by unfold isn isw at h;rw[YAX,YAX,decide_eq_true_iff]at h;lia
theorem ZkE (h:∀r∈F,r.n≠n):valV (kpKV F) (kTx n)=none:=by
 induction F with
 | nil=>rfl
 | cons r F ih=>
  rw[show kpKV (r::F)=(kTx r.n,V.ref r.p)::kpKV F from rfl,Zbb (λe=>h r (by simp) (ZbG e))];exact ih λs hs=>h s (by simp[hs])
theorem Zlt {α:Type}{f:α->Q11}{g:α->V}{F:List α}(nd:(F.map f).Nodup){r:α}(hr:r∈F):valV (F.map λr=>(kTx (f r),g r)) (kTx (f r))=some (g r):=by
 induction F with
 | nil=>cases hr
 | cons s F ih=>
  rw[YAi,YBT]at nd;rw[YAi];rcases YAH.mp hr with rfl | z
  .exact Zbi rfl
  .rw[Zbb (λe=>nd.1 (by rw[show f s=f r from ZbG e];exact YAx z))];exact ih nd.2 z
theorem ZdZ (nd:(F.map (·.n)).Nodup){r:Kp}(hr:r∈F):valV (kpKV F) (kTx r.n)=some (.ref r.p):=Zlt (f:=Kp.n) (g:=λr=>V.ref r.p) nd hr
theorem Ziu {F:List Kp}(nd:(F.map (·.n)).Nodup){r:Kp}(hr:r∈F):valV (F.map λr=>(kTx r.n,tx r.l)) (kTx r.n)=some (tx r.l):=Zlt (f:=Kp.n) (g:=λr=>tx r.l) nd hr
theorem Zjk (F:List Kp)(n:Q11):Zei (kpKV F) (kTx n)=kpKV (F.filter λx=>decide (x.n≠n)):=by unfold Zei kpKV;rw[YDJ];congr 1;refine List.filter_congr λx _=>?_;show decide (kTx x.n≠kTx n)=decide (x.n≠n);rw[decide_eq_decide];exact⟨λh e=>h (by rw[e]),λh e=>h (ZbG e)⟩
theorem Zji (F:List Kp):(kpKV F).length=F.length:=by unfold kpKV;rw[YAB]
theorem Zjj (F:List Kp):(kpKV F).map (·.1)=(F.map (·.n)).map kTx:=by unfold kpKV;rw[YAl,YAl];rfl
theorem ZaG (h:StripAt C H p la da l m ds):(∃dx fs,H p=some (.ins C dx fs))/\(∃xs,H la=some (.lst xs))/\∃xs,H da=some (.lst xs):=by obtain⟨⟨dx,f⟩,k,⟨ts,d1,_⟩,_⟩:=h;exact⟨⟨dx,_,f⟩,⟨_,k⟩,ts,d1⟩
theorem ShelfAt.l (h:ShelfAt a H p dA m F)(s:SameL H H'):ShelfAt a H' p dA m F:=by obtain⟨⟨dx,f⟩,d,st,nm,nd,k⟩:=h;exact⟨⟨dx,s _ _ f rfl⟩,s _ _ d rfl,λr hr=>(st r hr).l s,nm,nd,k⟩
theorem ShelfAt.same (h:ShelfAt a H p dA m F)(s:Same H H'):ShelfAt a H' p dA m F:=h.l s.l
theorem ZaM (st:StripAt C H q la da l m ds)(k:KeepB dA H H')(d:H dA=some (.dK kvs)):StripAt C H' q la da l m ds:=by
 obtain⟨⟨_,_,x1⟩,⟨_,x2⟩,_,x3⟩:=ZaG st;have nd:∀ {b o},H b=some o->(∀kvs,o≠.dK kvs)->b∉[dA]:=λe n z=>by rw[YAI.mp z,d]at e;exact n _ (Option.some.inj e).symm
 exact st.chg k.chg (λb hb us z=>by rw[YAI.mp hb,d]at z;cases z) (nd x1 λ_ z=>by cases z) (nd x2 λ_ z=>by cases z) (nd x3 λ_ z=>by cases z)
theorem ZbP (f:H p=some (.ins C dx fs))(k:KeepB dA H H')(d:H dA=some (.dK kvs)):H' p=some (.ins C dx fs):=k _ _ f λz=>by rw[z,d]at f;cases f
theorem ShelfAt.lay (h:ShelfAt a H p dA m F)(s:Same H H')(st:StripAt a.c_LZ H' r.p r.la r.da r.l m r.ds)(hn:isn r.n=true)(nf:∀s∈F,s.n≠r.n):
  ShelfAt a (upd H' dA (.dK (putK (kpKV F) (kTx r.n) (.ref r.p)))) p dA m (F++[r])/\KeepB dA H (upd H' dA (.dK (putK (kpKV F) (kTx r.n) (.ref r.p)))):=by
 have h':=h.same s;have d':=h'.dct;have k:KeepB dA H' (upd H' dA (.dK (putK (kpKV F) (kTx r.n) (.ref r.p)))):=λb o e ne=>by rw[Zah ne];exact e
 obtain⟨dx,f⟩:=h'.fld;refine⟨⟨⟨dx,ZbP f k d'⟩,?_,λt ht=>?_,λt ht=>?_,?_,h.kok⟩,λb o e ne=>k _ _ (s _ _ e) ne⟩
 .rw[Zae,Zcu _ (ZkE nf)];unfold kpKV;rw[YAb];rfl
 .rcases YAR.mp ht with z | z
  .exact ZaM (h'.str t z) k d'
  .rw[YAI.mp z];exact ZaM st k d'
 .rcases YAR.mp ht with z | z
  .exact h.nm t z
  .rw[YAI.mp z];exact hn
 .rw[YAb,YBv];refine⟨h.nd,by simp,λx hx y hy e=>?_⟩;obtain⟨t,ht,rfl⟩:=YAa.mp hx;rw[YCf,YAI]at hy;exact nf t ht (e.trans hy)
theorem ShelfAt.take (h:ShelfAt a H p dA m F)(s:Same H H'):
  ShelfAt a (upd H' dA (.dK (Zei (kpKV F) (kTx n)))) p dA m (F.filter λx=>decide (x.n≠n))/\KeepB dA H (upd H' dA (.dK (Zei (kpKV F) (kTx n)))):=by
 have h':=h.same s;have d':=h'.dct;have k:KeepB dA H' (upd H' dA (.dK (Zei (kpKV F) (kTx n)))):=λb o e ne=>by rw[Zah ne];exact e
 obtain⟨dx,f⟩:=h'.fld;exact⟨⟨⟨dx,ZbP f k d'⟩,by rw[Zae,Zjk],λr hr=>ZaM (h'.str r (YAy.mp hr).1) k d',λr hr=>h.nm r (YAy.mp hr).1,h.nd.sublist (List.filter_sublist.map _),h.kok⟩,λb o e ne=>k _ _ (s _ _ e) ne⟩
theorem Zfn (h:AnsS H1 H2 t c g la rc rg)(s:Same H H1):AnsS H H2 t c g la rc rg:={ h with nc:=h.nc.same s,ng:=h.ng.same s,nl:=h.nl.same s }
def TxD (H:Hp)(pT:AE)(F:List Kp):Prop:=∃F':List Kp,F'.Perm F/\H pT=some (.dK (F'.map λr=>(kTx r.n,tx r.l)))
theorem TxD.l (h:TxD H pT F)(s:SameL H H'):TxD H' pT F:=let ⟨F',pm,e⟩:=h;⟨F',pm,s _ _ e rfl⟩
def Wd (l1 l2 m:Q11):Nat:=WS (((Zaq l1 m).filter λv=>!decide (v∈Zaq l2 m))++(Zaq l2 m).filter λv=>!decide (v∈Zaq l1 m))
theorem lsOk.nd (h:LsOk xs):xs.Nodup:=ZbD h.srt
theorem Zpe (h1:StripOk l1 m)(h2:StripOk l2 m){ds:Q22}(d:IsDiff (Zaq l1 m) (Zaq l2 m) ds):WS ds=Wd l1 l2 m:=d.ws (Zfe (lsOk.nd (lsOk h1)) (lsOk.nd (lsOk h2)))
theorem Zlb (h1:StripOk l1 m)(h2:StripOk l2 m):Wd l1 l2 m<=400*DD:=by have d:=Zfe (lsOk.nd (lsOk h1)) (lsOk.nd (lsOk h2));exact YAK (Zm7 λw hw=>Zf6 d (lsOk h1) (lsOk h2) hw) (YDZ _ (ZdE d (lsOk h1) (lsOk h2)))
def RowA (H:Hp)(t:AE)(x:Q11×Nat):Prop:=∃u,H t=some (.tup [tx x.1,.ref u])/\H u=some (.tup [.int (frT (x.2:Nat) (DD:Nat)),.int (frB (x.2:Nat) (DD:Nat))])
def Zg3 (H:Hp)(zs:List V)(R:List (Q11×Nat)):Prop:=∃rs:List (AE×Q11×Nat),zs=rs.map (λr=>V.ref r.1)/\R=rs.map (·.2)/\∀r∈rs,RowA H r.1 r.2
def ltR (x y:Q11×Nat):Prop:=x.2<y.2\/(x.2=y.2/\x.1<y.1)
noncomputable def ltRB (x y:Q11×Nat):Bool:=if x.2=y.2 then decide (x.1<y.1) else decide (x.2<y.2)
theorem Zhu:ltRB x y=true↔ltR x y:=by
 unfold ltRB ltR;split
 .rename_i h
  rw[decide_eq_true_iff];exact⟨λz=>.inr ⟨h,z⟩,λz=>z.elim (λz=>absurd h (YAe z)) (λz=>z.2)⟩
 .rename_i h
  rw[decide_eq_true_iff];exact⟨.inl,λz=>z.elim id (λz=>absurd z.1 h)⟩
theorem ltR.trans (h:ltR x y)(g:ltR y z):ltR x z:=by
 rcases h with h | ⟨h,h'⟩<;>rcases g with g | ⟨g,g'⟩
 .exact .inl (Nat.lt_trans h g)
 .exact .inl (g▸h)
 .exact .inl (h▸g)
 .exact .inr ⟨h.trans g,List.lt_trans h' g'⟩
theorem ltR.asym (h:ltR x y)(g:ltR y x):False:=by
 rcases h with h | ⟨h,h'⟩<;>rcases g with g | ⟨g,g'⟩
 .exact Nat.lt_asymm h g
 .lia
 .lia
 .exact List.lt_asymm h' g'
theorem Zjs {p:Q11×Nat->Bool}{x:Q11×Nat}:∀ {xs:List (Q11×Nat)},xs.Pairwise ltR->(∀y∈xs,p y=true->ltR y x)->(∀y∈xs,p y=false->ltR x y)->(xs.take (xs.filter p).length++[x]++xs.drop (xs.filter p).length).Pairwise ltR
 | [],_,_,_=>by simp
 | y::ys,hs,h1,h2=>by
  obtain⟨hy,hs⟩:=YBB.mp hs;cases e:p y with
  | true=>
   have ih:=Zjs (p:=p) (x:=x) hs (λz hz=>h1 z (by simp[hz])) (λz hz=>h2 z (by simp[hz]));rw[List.filter_cons_of_pos e,YAf,List.take_succ_cons,List.drop_succ_cons,YCP,YCP,YBB];refine⟨λz hz=>?_,ih⟩;rcases YAR.mp hz with hz | hz
   .rcases YAR.mp hz with hz | hz
    .exact hy z (YAZ hz)
    .rw[YAI.mp hz];exact h1 y (by simp) e
   .exact hy z (YAg hz)
  | false=>
   have lx:=h2 y (by simp) e;have no:ys.filter p=[]:=List.filter_eq_nil_iff.mpr λz hz pz=>(lx.trans (hy z hz)).asym (h1 z (by simp[hz]) pz);rw[List.filter_cons_of_neg (by simp[e]),no];show ([x]++(y::ys)).Pairwise ltR;rw[List.singleton_append,YBB,YBB];exact⟨λz hz=>(YAH.mp hz).elim (λh=>h▸lx) (λh=>lx.trans (hy z h)),hy,hs⟩
theorem ZhA (xs:List α)(x:α)(k:Nat):(xs.take k++[x]++xs.drop k).Perm (xs++[x]):=by
 conv=>rhs;rw[<-YAu k xs]
 rw[YAj,YAj];exact List.perm_append_comm.append_left _
def RankOk (l m:Q11)(F:List Kp)(R:List (Q11×Nat)):Prop:=R.Pairwise ltR/\R.Perm (F.map λr=>(r.n,Wd l r.l m))
theorem RankOk.same (h:RankOk l m F R)(g:RankOk l m G S)(p:F.Perm G):R=S:=
 List.Perm.eq_of_pairwise (λa b _ _ h1 h2=>(h1.asym h2).elim) h.1 g.1 (h.2.trans ((p.map _).trans g.2.symm))
theorem ZkP (x y:Nat):decide (frT (x:Nat) (DD:Nat)*frB (y:Nat) (DD:Nat)<frT (y:Nat) (DD:Nat)*frB (x:Nat) (DD:Nat))=decide (x<y):=by
 have dp:=Zgn;obtain⟨_,_,x3,_,_,ex⟩:=Zcp (a:=(x:Nat)) (b:=(DD:Nat)) (by lia) (by lia);obtain⟨_,_,y3,_,_,ey⟩:=Zcp (a:=(y:Nat)) (b:=(DD:Nat)) (by lia) (by lia);generalize frT (x:Nat) (DD:Nat)=a1 at *;generalize frB (x:Nat) (DD:Nat)=b1 at *;generalize frT (y:Nat) (DD:Nat)=a2 at *;generalize frB (y:Nat) (DD:Nat)=b2 at *;have bp:(0:Int)<b1*b2:=Int.mul_pos (by lia) (by lia);have dq:(0:Int)<(DD:Nat):=by lia
 have e1:a1*b2*(DD:Nat)=(b1*b2)*(x:Nat):=by rw[show a1*b2*(DD:Nat)=(a1*(DD:Nat))*b2 by ac_rfl,ex];ac_rfl
 have e2:a2*b1*(DD:Nat)=(b1*b2)*(y:Nat):=by rw[show a2*b1*(DD:Nat)=(a2*(DD:Nat))*b1 by ac_rfl,ey];ac_rfl
 rw[decide_eq_decide,<-Int.mul_lt_mul_right dq,e1,e2,Int.mul_lt_mul_left bp];lia
theorem Zo0 (h1:frT (x:Nat) (DD:Nat)=frT (y:Nat) (DD:Nat))(h2:frB (x:Nat) (DD:Nat)=frB (y:Nat) (DD:Nat)):x=y:=by have a:=ZkP x y;have b:=ZkP y x;rw[h1,h2,decide_eq_false (Int.lt_irrefl _)]at a b;have a:=of_decide_eq_false a.symm;have b:=of_decide_eq_false b.symm;lia
theorem RowA.ext (h:RowA H t x)(k:∀b vs,H b=some (.tup vs)->H' b=some (.tup vs)):RowA H' t x:=let ⟨u,e1,e2⟩:=h;⟨u,k _ _ e1,k _ _ e2⟩
theorem srtF (F:List Kp):∃F':List Kp,F'.Perm F/\F'.map (·.n)=Zbs (F.map (·.n)):=by have pm:=List.mergeSort_perm F (λa b=>leT a.n b.n);refine⟨_,pm,ZbT (pm.map _) ?_⟩;rw[YBS];exact List.pairwise_mergeSort (le:=λa b:Kp=>leT a.n b.n) (λa b c h1 h2=>Zbh.mpr (List.le_trans (Zbh.mp h1) (Zbh.mp h2))) (λa b=>Bool.or_eq_true_iff.mpr ((List.le_total a.n b.n).imp Zbh.mpr Zbh.mpr)) F
theorem Zgc (p:α->Bool)(d:α)(R:List α):((List.range R.length).filter λi=>p (R.getD i d)).length=(R.filter p).length:=by
 have e:R=(List.range R.length).map λi=>R.getD i d:=by apply YCO (by simp);intro i h1 h2;simp[YAT,h1]
 conv=>rhs;rw[e]
 rw[YDJ,YAB];rfl
theorem ZqQ (h1:H u1=some (.tup [.int (frT (x:Nat) (DD:Nat)),.int (frB (x:Nat) (DD:Nat))]))(h2:H u2=some (.tup [.int (frT (y:Nat) (DD:Nat)),.int (frB (y:Nat) (DD:Nat))]))(q:Q (.bl (!decide (x=y))) H):rEqD K true (.ref u1) (.ref u2) H Q:=by
 refine .inr ⟨_,_,datT (.mk h1) rfl,datT (.mk h2) rfl,λz=>YAC z.1,?_,?_⟩
 .unfold dep;rw[Zb1];decide
 .rw[YAM rfl];unfold deq;rw[Zf8 (λv hv w hw=>?_)]
  .rw[show decide (([V.int (frT (x:Nat) (DD:Nat)),V.int (frB (x:Nat) (DD:Nat))]:List V)=[V.int (frT (y:Nat) (DD:Nat)),V.int (frB (y:Nat) (DD:Nat))])=decide (x=y) from decide_eq_decide.mpr ⟨λe=>by injection e with e1 e2;injection e2 with e2 _;injection e1 with e1;injection e2 with e2;exact Zo0 e1 e2,λe=>by rw[e]⟩]
   exact q
  .simp only[YAH,YAz,or_false]at hv hw;rcases hv with rfl | rfl<;>rcases hw with rfl | rfl<;>(simp[eqV];rfl)
def ZgE (R:List (Q11×Nat)):DT:=.l (R.map λx=>.t [.f (tx x.1),.t ([V.int (frT (x.2:Nat) (DD:Nat)),.int (frB (x.2:Nat) (DD:Nat))].map .f)])
theorem Zdw (h:SqL K H r zs)(d:Zg3 H zs R):DatOk K H (ZgE R) (.ref r):=by obtain⟨rs,rfl,rfl,ha⟩:=d;unfold ZgE DatOk;refine⟨r,_,rfl,h,Zfg (by simp) λi y hy=>?_⟩;rw[YAQ]at hy;obtain⟨x,e1,rfl⟩:=YBI.mp hy;obtain⟨u,f1,f2⟩:=ha x (YAh e1);refine⟨_,by rw[YAQ,YAQ,e1];rfl,?_⟩;unfold DatOk;refine⟨x.1,_,rfl,.mk f1,?_⟩;unfold DatsOk;refine⟨_,_,rfl,datF rfl,?_⟩;unfold DatsOk;refine⟨_,_,rfl,datT (.mk f2) rfl,?_⟩;unfold DatsOk;rfl
theorem Zhg (R:List (Q11×Nat)):deq (ZgE R) (ZgE R)=true:=by
 unfold ZgE deq;refine Zbt λd hd=>?_;obtain⟨x,_,rfl⟩:=YAa.mp hd;unfold deq;refine Zbt λd hd=>?_;simp only[YAH,YAz,or_false]at hd;rcases hd with rfl | rfl
 .unfold deq;exact ZdD rfl
 .unfold deq;exact Zb0 rfl
theorem Zhh (R:List (Q11×Nat)):dep (ZgE R)<=60:=by
 unfold ZgE dep;refine YAK (YBj (ZcM (n:=2) λd hd=>?_)) (by decide);obtain⟨x,_,rfl⟩:=YAa.mp hd;unfold dep;refine YBj (ZcM (n:=1) λd hd=>?_);simp only[YAH,YAz,or_false]at hd;rcases hd with rfl | rfl
 .unfold dep;exact YAt _
 .unfold dep;rw[Zb1];exact YAP _
theorem Zdz {N:Q22}{i:Nat}{n:Q11}(nd:N.Nodup)(h:N[i]?=some n):n∉N.take i:=λhm=>by obtain⟨j,hj,e⟩:=YBw hm;rw[YAW]at hj;rw[List.getElem_take]at e;obtain⟨hi,e2⟩:=YAU.mp h;have:=(List.getElem_inj nd).mp (e.trans e2.symm);lia
theorem Znd (e:H d=some u)(s:SameL (upd H d (.frz o u)) H'):SameL H (upd H' d u):=λb v h t=>by
 by_cases z:b=d
 .rw[z,Zae];rw[z,e]at h;exact h
 .rw[Zah z];exact s _ _ (by rw[Zah z];exact h) t
theorem ltR.tot (n:x.1≠y.1)(h:¬ltR x y):ltR y x:=by
 rcases Nat.lt_trichotomy x.2 y.2 with z | z | z
 .exact absurd (.inl z) h
 .refine .inr ⟨z.symm,?_⟩;rcases List.le_iff_lt_or_eq.mp (List.not_lt.mp λw=>h (.inr ⟨z,w⟩)) with w | w
  .exact w
  .exact absurd w.symm n
 .exact .inl z
theorem ShelfAt.dict (h:ShelfAt a H p dA m F)(e:H q=some (.dK kvs))(n:q≠dA):ShelfAt a (upd H q o) p dA m F:=by
 have k:KeepB q H (upd H q o):=λb u x z=>by rw[Zah z];exact x
 obtain⟨dx,f⟩:=h.fld;exact⟨⟨dx,ZbP f k e⟩,k _ _ h.dct (YAk n),λr hr=>ZaM (h.str r hr) k e,h.nm,h.nd,h.kok⟩
theorem sk9 {K:Q4}{H:Hp}{x y:Int}{A B:Hp->Prop}(n:x≠y)(h:B H):rEqD K false (.int x) (.int y) H λu H'=>∃k,u=V.bl k/\if k=true then A H' else B H':=
 .inl ⟨rfl,by rw[YAJ YAC,decide_eq_false (λe=>n (by injection e))];exact⟨false,rfl,iteF h⟩⟩
theorem go9 {K:Q4}{H:Hp}{x y:Int}{A B:Hp->Prop}(e:x=y)(h:A H):rEqD K false (.int x) (.int y) H λu H'=>∃k,u=V.bl k/\if k=true then A H' else B H':=
 .inl ⟨rfl,by rw[YAJ YAC,decide_eq_true (by rw[e])];exact⟨true,rfl,iteT h⟩⟩
def AllAt (a:Ad)(H:Hp)(m:Q11)(A:List Kp):Prop:=(∀r∈A,StripAt a.c_LZ H r.p r.la r.da r.l m r.ds)/\A.Pairwise ApA
def kpP (p0 la:AE)(l:Q11)(ds:List (Bool×Nat))(r:Kp):Kp:=if r.p=p0 then ⟨r.n,r.p,la,r.da,l,ds⟩ else r
theorem ApA.symm (h:ApA r s):ApA s r:=⟨YAk h.p,YAk h.ll,YAk h.dl,YAk h.ld,YAk h.dd⟩
theorem ZdQ {α:Type}{R:α->α->Prop}(sy:∀ {x y},R x y->R y x){A:List α}(h:A.Pairwise R){r s:α}(hr:r∈A)(hs:s∈A):r=s\/R r s:=by
 induction A with
 | nil=>cases hr
 | cons x A ih=>
  obtain⟨h1,h2⟩:=YBB.mp h;rcases YAH.mp hr with rfl | z<;>rcases YAH.mp hs with rfl | y
  .exact .inl rfl
  .exact .inr (h1 s y)
  .exact .inr (sy (h1 r z))
  .exact ih h2 z y
theorem AllAt.ap (h:AllAt a H m A){r s:Kp}(hr:r∈A)(hs:s∈A)(n:s.p≠r.p):ApA r s:=(ZdQ ApA.symm h.2 hr hs).resolve_left λe=>n (by rw[e])
theorem AllAt.one (h:AllAt a H m A){r s:Kp}(hr:r∈A)(hs:s∈A)(e:s.p=r.p):s=r:=((ZdQ ApA.symm h.2 hs hr).resolve_right λz=>z.p e)
theorem AllAt.tup (h:AllAt a H m A){r:Kp}(hr:r∈A):∀b∈[r.p,r.da],∀us,H b≠some (.tup us):=λb hb us z=>by
 obtain⟨⟨_,_,x1⟩,_,_,x3⟩:=ZaG (h.1 r hr);rcases YAH.mp hb with y | y
 .rw[y,x1]at z;cases z
 .rw[YAI.mp y,x3]at z;cases z
theorem AllAt.moved (h:AllAt a H m A)(hr:r∈A)(c:Chg [r.p,r.da] H H2)(st:StripAt a.c_LZ H2 r.p la2 r.da l2 m ds2)(nl:Nw H la2):AllAt a H2 m (A.map (kpP r.p la2 l2 ds2)):=by
 obtain⟨⟨_,_,e1⟩,⟨_,e2⟩,_,e3⟩:=ZaG (h.1 r hr);refine⟨λs hs=>?_,?_⟩
 .obtain⟨t,ht,rfl⟩:=YAa.mp hs;unfold kpP;by_cases e:t.p=r.p
  .rw[YAM e,h.one hr ht e];exact st
  .rw[YAJ e];have k:=h.ap hr ht e;obtain⟨⟨_,_,x1⟩,⟨_,x2⟩,_,x3⟩:=ZaG (h.1 t ht);refine(h.1 t ht).chg c (h.tup hr) ?_ ?_ ?_<;>simp only[YAH,YAz,or_false,not_or]
   .exact⟨e,λz=>by rw[z,e3]at x1;cases x1⟩
   .exact⟨λz=>(by rw[z,e1]at x2;cases x2),YAk k.dl⟩
   .exact⟨λz=>(by rw[z,e1]at x3;cases x3),YAk k.dd⟩
 .rw[YBS];refine h.2.imp_of_mem λ{x y} hx hy k=>?_;obtain⟨_,⟨_,x2⟩,_,x3⟩:=ZaG (h.1 x hx);obtain⟨_,⟨_,y2⟩,_,y3⟩:=ZaG (h.1 y hy);unfold kpP;by_cases ex:x.p=r.p
  .have ey:y.p≠r.p:=λz=>k.p (by rw[ex,z]);rw[YAM ex,YAJ ey];exact⟨k.p,YAk (nl.ne y2 rfl),YAk (nl.ne y3 rfl),k.dl,k.dd⟩
  .rw[YAJ ex];by_cases ey:y.p=r.p
   .rw[YAM ey];exact⟨k.p,nl.ne x2 rfl,k.ld,nl.ne x3 rfl,k.dd⟩
   .rw[YAJ ey];exact k
theorem Zhx {p0 la:AE}{l:Q11}{ds:List (Bool×Nat)}{A:List Kp}(h:∀r∈A,r.p≠p0):A.map (kpP p0 la l ds)=A:=by
 conv=>rhs;rw[<-List.map_id A]
 exact YCK λr hr=>YAJ (h r hr)
theorem Zjl (r:Kp):(kpP p0 la l ds r).n=r.n/\(kpP p0 la l ds r).p=r.p/\(kpP p0 la l ds r).da=r.da:=by unfold kpP;split<;>exact⟨rfl,rfl,rfl⟩
theorem Zlu (A:List Kp):kpKV (A.map (kpP p0 la l ds))=kpKV A:=by unfold kpKV;rw[YAl];refine YCK λs _=>?_;show (kTx (kpP p0 la l ds s).n,V.ref (kpP p0 la l ds s).p)=_;rw[(Zjl s).1,(Zjl s).2.1]
def Zq1 (a:Ad)(H:Hp)(q:AE)(l m:Q11)(Z:List Kp):Prop:=(Z=[]/\Zb9 a.c_LX H q l m)\/∃z,Z=[z]/\z.p=q/\z.l=l
structure Wld (a:Ad)(H:Hp)(p dA dB q:AE)(m l:Q11)(F G Z:List Kp):Prop where
 fld:∃dx,H p=some (.ins a.c_LY dx (shF m dA))
 dct:H dA=some (.dK (kpKV F))
 bes:H dB=some (.dK (kpKV G))
 all:AllAt a H m (F++G++Z)
 nm:∀r∈F,isn r.n=true
 nd:(F.map (·.n)).Nodup
 ne:dA≠dB
 bd:Zq1 a H q l m Z
 kok:KOk m
 ok:StripOk l m
def kk (r:Kp):Q11×Q11×List (Bool×Nat):=(r.n,r.l,r.ds)
theorem Wld.shelf (h:Wld a H p dA dB q m l F G Z):ShelfAt a H p dA m F:=⟨h.fld,h.dct,λr hr=>h.all.1 r (by simp[hr]),h.nm,h.nd,h.kok⟩
theorem Wld.band (h:Wld a H p dA dB q m l F G Z):BandA a H q l m:=by
 rcases h.bd with⟨_,r⟩|⟨z,e,e1,e2⟩
 .exact .inl r
 .refine .inr ⟨z.la,z.da,z.ds,?_⟩;rw[<-e1,<-e2];exact h.all.1 z (by simp[e])
theorem Zik {F G:List Kp}(h:F.map kk=G.map kk):F.map (·.n)=G.map (·.n):=by
 have:=congrArg (List.map Prod.fst) h
 rwa [YAl,YAl]at this
theorem Zlv {F G:List Kp}(h:F.map kk=G.map kk){s:Kp}(hs:s∈G):∃r∈F,r.n=s.n/\r.l=s.l/\r.ds=s.ds:=by
 have:kk s∈F.map kk:=by rw[h];exact YAx hs
 obtain⟨r,hr,e⟩:=YAa.mp this;unfold kk at e;injection e with e1 e2;injection e2 with e2 e3;exact⟨r,hr,e1,e2,e3⟩
def Frm (dA dB:AE)(F G:List Kp)(H H2:Hp):Prop:=∃S:List AE,Chg S H H2/\∀b∈S,b=dA\/b=dB\/∃r∈F++G,b=r.p\/b=r.da
def KpLe (A B:List Kp):Prop:=∀r∈B,∃s∈A,r.da=s.da/\r.ds.length<=s.ds.length+1
theorem pas {A B:Prop}(h:A->B)(a:A):B:=h a
theorem Wld.fg (h:Wld a H p dA dB q m l F G Z){s r:Kp}(hs:s∈F)(hr:r∈G):ApA s r:=
 (YAq.mp (YAq.mp h.all.2).1).2.2 s hs r hr
theorem Wld.z (h:Wld a H p dA dB q m l F G Z){t z:Kp}(ht:t∈F++G)(hz:z∈Z):ApA t z:=(YAq.mp h.all.2).2.2 t ht z hz
theorem Zlx {H:Hp}{p q C D dx dy:AE}{fs gs:List (Str×V)}(x:Str)(h1:H p=some (.ins C dx fs))(h2:H q=some (.ins D dy gs))(n:fs.lookup x≠gs.lookup x):p≠q:=λz=>by rw[z,h2]at h1;injection h1 with h1;injection h1 with _ _ h1;exact n (by rw[h1])
theorem Wld.obs (h:Wld a H p dA dB q m l F G Z)(ht:t∈F++G++Z)(c:Chg [t.p,t.da] H H1):(∃dx,H1 p=some (.ins a.c_LY dx (shF m dA)))/\H1 dA=some (.dK (kpKV F))/\H1 dB=some (.dK (kpKV G)):=by
 obtain⟨⟨_,_,e1⟩,⟨_,e2⟩,_,e3⟩:=ZaG (h.all.1 t ht);obtain⟨dt,ft⟩:=id (h.all.1 t ht).fld;have dk:∀ {b kvs},H b=some (.dK kvs)->H1 b=some (.dK kvs):=λ{b kvs} e=>c _ _ e (by simp only[YAH,YAz,or_false,not_or];exact⟨λz=>(by rw[z,e1]at e;cases e),λz=>(by rw[z,e3]at e;cases e)⟩) rfl
 obtain⟨dx,f⟩:=h.fld;refine⟨⟨dx,c _ _ f ?_ rfl⟩,dk h.dct,dk h.bes⟩;simp only[YAH,YAz,or_false,not_or];refine⟨Zlx "own_text" f ft ?_,λz=>by rw[z,e3]at f;cases f⟩;rw[shN,Zbc];exact λz=>by cases z
theorem Wld.stepZ {a:Ad}{H H1:Hp}{p dA dB q la2:AE}{m l l2:Q11}{ds2:List (Bool×Nat)}{F G:List Kp}{z:Kp}(h:Wld a H p dA dB q m l F G [z])(c:Chg [z.p,z.da] H H1)(st:StripAt a.c_LZ H1 z.p la2 z.da l2 m ds2)(nl:Nw H la2)(e:z.p=q):Wld a H1 p dA dB q m l2 F G [⟨z.n,z.p,la2,z.da,l2,ds2⟩]:=by
 have hA:z∈F++G++[z]:=by simp
 have al:=h.all.moved hA c st nl;obtain⟨o1,o2,o3⟩:=h.obs hA c;rw[YAb,Zhx (A:=F++G) λt ht=>(h.z ht (by simp)).p]at al;have ez:[z].map (kpP z.p la2 l2 ds2)=[⟨z.n,z.p,la2,z.da,l2,ds2⟩]:=by rw[YCf];unfold kpP;rw[YAM rfl]
 rw[ez]at al;exact⟨o1,o2,o3,al,h.nm,h.nd,h.ne,.inr ⟨_,rfl,e,rfl⟩,h.kok,ZbS st⟩
theorem Wld.step (h:Wld a H p dA dB q m l F G Z)(ht:t∈F++G)(c:Chg [t.p,t.da] H H1)(st:StripAt a.c_LZ H1 t.p la2 t.da l2 m ds2)(nl:Nw H la2):Wld a H1 p dA dB q m l (F.map (kpP t.p la2 l2 ds2)) (G.map (kpP t.p la2 l2 ds2)) Z:=by
 have hA:t∈F++G++Z:=YBe _ ht;have al:=h.all.moved hA c st nl;obtain⟨o1,o2,o3⟩:=h.obs hA c;obtain⟨_,_,_,e3⟩:=ZaG (h.all.1 t hA);obtain⟨dt,ft⟩:=id (h.all.1 t hA).fld;have zz:Z.map (kpP t.p la2 l2 ds2)=Z:=Zhx λz hz=>YAk (h.z ht hz).p;rw[YAb,YAb,zz]at al;refine⟨o1,by rw[Zlu];exact o2,by rw[Zlu];exact o3,al,λr hr=>?_,?_,h.ne,?_,h.kok,h.ok⟩
 .obtain⟨s,hs,rfl⟩:=YAa.mp hr;rw[(Zjl s).1];exact h.nm s hs
 .rw[YAl,show (Kp.n ∘ kpP t.p la2 l2 ds2)=Kp.n from funext λs=>(Zjl s).1];exact h.nd
 .rcases h.bd with⟨z,dy,g⟩ | z
  .refine .inl ⟨z,dy,c _ _ g ?_ rfl⟩;simp only[YAH,YAz,or_false,not_or];refine⟨Zlx "own_lacking" g ft ?_,λz=>by rw[z,e3]at g;cases g⟩;rw[Zdf (by decide +kernel) (by decide +kernel),Zdv];exact λz=>by cases z
  .exact .inr z
theorem Wld.mid (h:Wld a H p dA dB q m l F G Z)(hs:s∈F)(hr:r∈G)(c:Chg [s.p,s.da] H H1):StripAt a.c_LZ H1 r.p r.la r.da r.l m r.ds:=by
 have k:=h.fg hs hr;have hA:s∈F++G++Z:=by simp[hs]
 have hB:r∈F++G++Z:=by simp[hr]
 obtain⟨⟨_,_,e1⟩,⟨_,e2⟩,_,e3⟩:=ZaG (h.all.1 s hA);obtain⟨⟨_,_,x1⟩,⟨_,x2⟩,_,x3⟩:=ZaG (h.all.1 r hB);refine(h.all.1 r hB).chg c (h.all.tup hA) ?_ ?_ ?_<;>simp only[YAH,YAz,or_false,not_or]
 .exact⟨YAk k.p,λz=>by rw[z,e3]at x1;cases x1⟩
 .exact⟨λz=>(by rw[z,e1]at x2;cases x2),YAk k.dl⟩
 .exact⟨λz=>(by rw[z,e1]at x3;cases x3),YAk k.dd⟩
theorem Wld.both (h:Wld a H p dA dB q m l F G Z)(ky:F.map kk=G.map kk)(hs:s∈F)(hr:r∈G)(en:s.n=r.n)(c1:Chg [s.p,s.da] H H1)(st1:StripAt a.c_LZ H1 s.p la1 s.da l2 m ds2)(nl1:Nw H la1)(c2:Chg [r.p,r.da] H1 H2)(st2:StripAt a.c_LZ H2 r.p la2 r.da l2 m ds2)(nl2:Nw H1 la2)(dl:ds2.length<=r.ds.length+1)(ed:s.ds=r.ds):
  ∃F2 G2,Frm dA dB F G H H2/\Wld a H2 p dA dB q m l F2 G2 Z/\F2.map kk=G2.map kk/\G2.length<=G.length/\KpLe (F++G) (F2++G2):=by
 have w1:=h.step (YBe _ hs) c1 st1 nl1;have g1:G.map (kpP s.p la1 l2 ds2)=G:=Zhx λx hx=>YAk (h.fg hs hx).p;rw[g1]at w1;have w2:=w1.step (YBD _ hr) c2 st2 nl2;have f1:(F.map (kpP s.p la1 l2 ds2)).map (kpP r.p la2 l2 ds2)=F.map (kpP s.p la1 l2 ds2):=Zhx λx hx=>(w1.fg hx hr).p;rw[f1]at w2;have ndG:(G.map (·.n)).Nodup:=by rw[<-Zik ky];exact h.nd
 have one:∀ {A:List Kp} {x y:Kp},(A.map (·.n)).Nodup->A.Pairwise ApA->x∈A->y∈A->(x.p=y.p↔x.n=y.n):=λ{A x y} nd ap hx hy=>by
  constructor
  .intro e;rcases ZdQ ApA.symm ap hx hy with z | z
   .rw[z]
   .exact absurd e z.p
  .intro e;have ap2:A.Pairwise (λx y=>x.n≠y.n):=YBS.mp nd;rcases ZdQ (λz=>YAk z) ap2 hx hy with z | z
   .rw[z]
   .exact absurd e z
 have pa:=(YAq.mp (YAq.mp h.all.2).1);have kkE:∀ {A:List Kp} {y:Kp} {la:AE},(A.map (·.n)).Nodup->A.Pairwise ApA->y∈A->(A.map (kpP y.p la l2 ds2)).map kk=(A.map kk).map λk=>if k.1=y.n then (k.1,l2,ds2) else k:=λ{A y la} nd ap hy=>by
  rw[YAl,YAl];refine YCK λx hx=>?_;show kk (kpP y.p la l2 ds2 x)=if x.n=y.n then (x.n,l2,ds2) else kk x
  unfold kpP;by_cases e:x.n=y.n
  .rw[YAM e,YAM ((one nd ap hx hy).mpr e)];rfl
  .rw[YAJ e,YAJ (λz=>e ((one nd ap hx hy).mp z))]
 refine⟨_,_,⟨[s.p,s.da,r.p,r.da],λb o e n t=>c2 _ _ (c1 _ _ e (λz=>n ?_) t) (λz=>n ?_) t,λb hb=>?_⟩,w2,?_,by rw[YAB];exact YAP _,λx hx=>?_⟩
 .simp only[YAH,YAz,or_false]at z ⊢;rcases z with z | z<;>simp[z]
 .simp only[YAH,YAz,or_false]at z ⊢;rcases z with z | z<;>simp[z]
 .simp only[YAH,YAz,or_false]at hb;rcases hb with z | z | z | z
  .exact .inr (.inr ⟨s,by simp[hs],.inl z⟩)
  .exact .inr (.inr ⟨s,by simp[hs],.inr z⟩)
  .exact .inr (.inr ⟨r,by simp[hr],.inl z⟩)
  .exact .inr (.inr ⟨r,by simp[hr],.inr z⟩)
 .rw[kkE h.nd pa.1 hs,kkE ndG pa.2.1 hr,ky,en]
 .have gen:∀ {A:List Kp} {y:Kp} {la:AE},y.ds.length+1>=ds2.length->y∈A->A.Pairwise ApA->x∈A.map (kpP y.p la l2 ds2)->∃s∈A,x.da=s.da/\x.ds.length<=s.ds.length+1:=λ{A y la} hl hy ap hx=>by
   obtain⟨u,hu,rfl⟩:=YAa.mp hx;refine⟨u,hu,(Zjl u).2.2,?_⟩;unfold kpP;by_cases e:u.p=y.p
   .rw[YAM e];rcases ZdQ ApA.symm ap hu hy with z | z
    .rw[z];exact hl
    .exact absurd e z.p
   .rw[YAJ e];lia
  rcases YAR.mp hx with z | z
  .obtain⟨u,hu,e⟩:=gen (by rw[ed];exact dl) hs pa.1 z;exact⟨u,YBe _ hu,e⟩
  .obtain⟨u,hu,e⟩:=gen dl hr pa.2.1 z;exact⟨u,YBD _ hu,e⟩
theorem Zc6 (st:StripAt C H p2 la2 da2 l m ds)(st2:StripAt C H2 p2 la2 da2 l m ds)(an:AnsS H H2 t c g la rc rg)(an2:AnsS H2 H3 t2 c2 g2 la' rc rg)(ch:Chg [p2,da2] H2 H3)(f1:Zgm rc)(f2:Zgm rg)(q:Q (.bl true) H3):rEqD K false (.ref t) (.ref t2) H3 Q:=by
 obtain⟨⟨_,_,x1⟩,⟨_,x2⟩,_,x3⟩:=ZaG st;obtain⟨⟨_,_,y1⟩,⟨_,y2⟩,_,y3⟩:=ZaG st2;have hS:∀b∈[p2,da2],∀us,H2 b≠some (.tup us):=λb hb us z=>by
  rcases YAH.mp hb with y | y
  .rw[y,y1]at z;cases z
  .rw[YAI.mp y,y3]at z;cases z
 have out:∀ {b:AE},Nw H b->b∉[p2,da2]:=λn=>by simp only[YAH,YAz,or_false,not_or];exact⟨YAk (n.ne x1 rfl),YAk (n.ne x3 rfl)⟩
 obtain⟨ys,hc,rw1⟩:=an.came;obtain⟨zs,hg,rw2⟩:=an.went;obtain⟨ys2,hc2,rw3⟩:=an2.came;obtain⟨zs2,hg2,rw4⟩:=an2.went;refine .inr ⟨_,_,ZjZ (ch _ _ an.tup (λz=>hS _ z _ an.tup) rfl) (.mk (ch _ _ hc (out an.nc) rfl)) (.mk (ch _ _ hg (out an.ng) rfl)) (rw1.chg ch hS) (rw2.chg ch hS) f1 f2,ZjZ an2.tup (.mk hc2) (.mk hg2) rw3 rw4 f1 f2,λz=>YAC z.1,Zm4 _ _,?_⟩;rw[YAJ YAC,Zpd f1 f2];exact q
theorem Wld.less (h:Wld a H p dA dB q m l F G Z)(k:∀b o,H b=some o->b≠dA->b≠dB->H2 b=some o)(d1:H2 dA=some (.dK (kpKV (F.filter λx=>decide (x.n≠n)))))(d2:H2 dB=some (.dK (kpKV (G.filter λx=>decide (x.n≠n))))):Wld a H2 p dA dB q m l (F.filter λx=>decide (x.n≠n)) (G.filter λx=>decide (x.n≠n)) Z:=by
 have sub:((F.filter λx=>decide (x.n≠n))++(G.filter λx=>decide (x.n≠n))++Z).Sublist (F++G++Z):=(List.filter_sublist.append List.filter_sublist).append (List.Sublist.refl Z);have nn:∀ {b o},H b=some o->(∀kvs,o≠.dK kvs)->H2 b=some o:=λ{b o} e n=>k _ _ e (λz=>by rw[z,h.dct]at e;exact n _ (Option.some.inj e).symm) (λz=>by rw[z,h.bes]at e;exact n _ (Option.some.inj e).symm);have c:Chg [dA,dB] H H2:=λb o e n _=>k _ _ e (λz=>n (by simp[z])) (λz=>n (by simp[z]));obtain⟨dx,f⟩:=h.fld;refine⟨⟨dx,nn f λ_ z=>by cases z⟩,d1,d2,⟨λr hr=>?_,h.all.2.sublist sub⟩,λr hr=>h.nm r (YAy.mp hr).1,h.nd.sublist (List.filter_sublist.map _),h.ne,?_,h.kok,h.ok⟩
 .have st:=h.all.1 r (sub.subset hr);obtain⟨⟨_,_,e1⟩,⟨_,e2⟩,_,e3⟩:=ZaG st;have o:∀ {b o},H b=some o->(∀kvs,o≠.dK kvs)->b∉[dA,dB]:=λ{b o} e n=>by simp only[YAH,YAz,or_false,not_or];exact⟨λz=>(by rw[z,h.dct]at e;exact n _ (Option.some.inj e).symm),λz=>(by rw[z,h.bes]at e;exact n _ (Option.some.inj e).symm)⟩
  refine st.chg c (λb hb us z=>?_) (o e1 λ_ z=>by cases z) (o e2 λ_ z=>by cases z) (o e3 λ_ z=>by cases z);simp only[YAH,YAz,or_false]at hb;rcases hb with y | y
  .rw[y,h.dct]at z;cases z
  .rw[y,h.bes]at z;cases z
 .rcases h.bd with⟨z,dy,g⟩ | z
  .exact .inl ⟨z,dy,nn g λ_ z=>by cases z⟩
  .exact .inr z
theorem ZkH {F G:List Kp}(ky:F.map kk=G.map kk)(n:Q11):(F.filter λx=>decide (x.n≠n)).map kk=(G.filter λx=>decide (x.n≠n)).map kk:=by
 have e:∀A:List Kp,(A.filter λx=>decide (x.n≠n)).map kk=(A.map kk).filter λk=>decide (k.1≠n):=λA=>by rw[YDJ];rfl
 rw[e,e,ky]
theorem ZjG (ds:List (Bool×Nat)):deq (.l (ds.map Zd7)) (.l (ds.map Zd7))=true:=by unfold deq;exact Zbt λd hd=>by obtain⟨x,_,rfl⟩:=YAa.mp hd;exact ZjH x
theorem ZkY (h1:H x=some (.lst xs))(h2:DeedsA H xs ds)(h3:H y=some (.lst ys))(h4:DeedsA H ys ds)(q:Q (.bl (!neg)) H):rEqD K neg (.ref x) (.ref y) H Q:=.inr ⟨_,_,Zd6 (.mk h1) h2,Zd6 (.mk h3) h4,λz=>YAC z.1,YAK (Zf9 ds) (by decide),by
 rw[ZjG];cases neg
 .exact q
 .exact q⟩
theorem Zk4 (l:List α)(x:α):cut (l++[x]) none (some (-1))=l:=by
 unfold cut;rw[HT.sIx_none];have e:HT.sIx (l++[x]).length (l++[x]).length (some (-1))=l.length:=by show (if (-1:Int)<0 then (-1+(((l++[x]).length:Nat):Int)).toNat else min (-1:Int).toNat (l++[x]).length)=_;rw[YAM (by decide),YAG];show (-1+((l.length+1:Nat):Int)).toNat=l.length;lia
 rw[e,YBh,Nat.sub_zero,List.take_left]
theorem ZcC (h:DeedsA H ts ds)(s:Same H H'):DeedsA H' ts ds:=h.chg (S:=[]) s.chg (by simp)
theorem ZfJ (h1:H x=some (.lst xs))(h2:DeedsA H xs ds)(h3:H y=some (.lst []))(q:Q (.bl (decide (ds≠[]))) H):rEqD K true (.ref x) (.ref y) H Q:=
 .inr ⟨_,_,Zd6 (.mk h1) h2,datL (vs:=[]) (.mk h3) rfl,λz=>YAC z.1,YAK (Zf9 ds) (by decide),by
  rw[YAM rfl];cases ds with
  | nil=>exact q
  | cons d ds=>exact q⟩
theorem Wld.l {a:Ad}{H H':Hp}{p dA dB q:AE}{m l:Q11}{F G Z:List Kp}(h:Wld a H p dA dB q m l F G Z)(s:SameL H H'):Wld a H' p dA dB q m l F G Z:=by
 obtain⟨⟨dx,f⟩,d1,d2,al,nm,nd,ne,bd,k,ok⟩:=h;refine⟨⟨dx,s _ _ f rfl⟩,s _ _ d1 rfl,s _ _ d2 rfl,⟨λr hr=>(al.1 r hr).l s,al.2⟩,nm,nd,ne,?_,k,ok⟩;rcases bd with⟨z,dy,g⟩ | z
 .exact .inl ⟨z,dy,s _ _ g rfl⟩
 .exact .inr z
theorem Wld.same {a:Ad}{H H':Hp}{p dA dB q:AE}{m l:Q11}{F G Z:List Kp}(h:Wld a H p dA dB q m l F G Z)(s:Same H H'):Wld a H' p dA dB q m l F G Z:=h.l s.l
theorem Zgp {C T:Hp->Prop}{R:Prop}(h1:(∀H,C H->T H)->R)(h2:∀H,C H->T H):R:=h1 h2
theorem Zop (e:x=[])(h:Q (.bl false) H):rEqD K true (tx x) (tx []) H Q:=by rw[e];exact Zi4 h
inductive LInv (a:Ad) (b bl dA dB p q:AE) (m:Q11) (cs:List Int) (i:Nat) (U:St) (H:Hp):Prop
 | mk:∀(v2 v7 v8 v9 v10 v11 v12 v13:Option V) (l:Q11) (F G Z:List Kp),U=[some (.ref b),some (tx m),v2,some (tx l),some (.ref q),some (.ref p),some (.ref dB),v7,v8,v9,v10,v11,v12,v13]->Wld a H p dA dB q m l F G Z->F.map kk=G.map kk->G.length<=i->(∀r∈F++G++Z,r.da≠bl/\r.ds.length<=300+i)->TT a H->H bl=some (.lst (cs.map V.int))->LInv a b bl dA dB p q m cs i U H
inductive Mid8 (a:Ad) (bl dA dB p q:AE) (m l:Q11) (cs:List Int) (i:Nat) (Z:List Kp) (H:Hp):Prop
 | mk:∀(F G:List Kp),Wld a H p dA dB q m l F G Z->F.map kk=G.map kk->G.length<=i->(∀r∈F++G++Z,r.da≠bl/\r.ds.length<=300+i)->TT a H->H bl=some (.lst (cs.map V.int))->Mid8 a bl dA dB p q m l cs i Z H
theorem ZhV {C:Hp->Prop}{T:Option V->Option V->Hp->Prop}{R:Prop}(h1:(∀x y H,C H->T x y H)->R)(h2:∀x y H,C H->T x y H):R:=h1 h2
theorem Wld.lay {a:Ad}{H H9 HA:Hp}{p dA dB q:AE}{m l:Q11}{F G Z:List Kp}{r g:Kp}(w:Wld a H p dA dB q m l F G Z)(s9:SameL H H9)(gs:StripAt a.c_LZ H9 g.p g.la g.da g.l m g.ds)(n1:Nw H g.p)(n2:Nw H g.la)(n3:Nw H g.da)(f1:H9 r.p=none)(f2:H9 r.la=none)(f3:H9 r.da=none)(k:KeepB dA H9 HA)(sh:ShelfAt a HA p dA m (F++[r]))(nf:∀s∈G,s.n≠g.n):
  Wld a (upd HA dB (.dK (putK (kpKV G) (kTx g.n) (.ref g.p)))) p dA dB q m l (F++[r]) (G++[g]) Z:=by
 have w9:=w.l s9;have dA9:=w9.dct;have bA:=k _ _ w9.bes (YAk w.ne);have kB:KeepB dB HA (upd HA dB (.dK (putK (kpKV G) (kTx g.n) (.ref g.p)))):=λb o e z=>by rw[Zah z];exact e
 have both:∀ {C q la da l m ds},StripAt C H9 q la da l m ds->StripAt C (upd HA dB (.dK (putK (kpKV G) (kTx g.n) (.ref g.p)))) q la da l m ds:=λst=>ZaM (ZaM st k dA9) kB bA;obtain⟨dx,f⟩:=sh.fld;have ng:∀s∈F++G++Z,ApA s g:=λs hs=>by obtain⟨⟨_,_,x1⟩,⟨_,x2⟩,_,x3⟩:=ZaG (w.all.1 s hs);exact⟨n1.ne x1 rfl,n2.ne x2 rfl,n3.ne x2 rfl,n2.ne x3 rfl,n3.ne x3 rfl⟩
 have nr:∀ {s:Kp},StripAt a.c_LZ H9 s.p s.la s.da s.l m s.ds->ApA s r:=λ{s} st=>by obtain⟨⟨_,_,x1⟩,⟨_,x2⟩,_,x3⟩:=ZaG st;exact⟨Zai x1 f1,Zai x2 f2,Zai x2 f3,Zai x3 f2,Zai x3 f3⟩
 have pw:((F++G++Z)++[g]++[r]).Pairwise ApA:=by
  rw[YAq,YAq];refine⟨⟨w.all.2,by simp,λs hs t ht=>?_⟩,by simp,λs hs t ht=>?_⟩
  .rw[YAI.mp ht];exact ng s hs
  .rw[YAI.mp ht];rcases YAR.mp hs with z | z
   .exact nr (w9.all.1 s z)
   .rw[YAI.mp z];exact nr gs
 have pm:((F++G++Z)++[g]++[r]).Perm ((F++[r])++(G++[g])++Z):=by
  simp only[YAj];refine YDS F ?_;refine(List.perm_append_comm_assoc G Z ([g]++[r])).trans ?_;have e1:(Z++(G++([g]++[r]))).Perm ((G++([g]++[r]))++Z):=List.perm_append_comm;refine e1.trans ?_;have e2:((G++([g]++[r]))++Z).Perm (([r]++(G++[g]))++Z):=by refine List.Perm.append_right Z ?_;rw[<-YAj];exact List.perm_append_comm
  simpa only[YAj] using e2
 refine⟨⟨dx,ZbP f kB bA⟩,by rw[Zah w.ne];exact sh.dct,?_,⟨λs hs=>?_,(pm.pairwise_iff λ{x y} h=>h.symm).mp pw⟩,sh.nm,sh.nd,w.ne,?_,w.kok,w.ok⟩
 .rw[Zae,Zcu _ (ZkE nf)];unfold kpKV;rw[YAb];rfl
 .rcases YAR.mp hs with z | z
  .rcases YAR.mp z with z | z
   .exact ZaM (sh.str s z) kB bA
   .rcases YAR.mp z with z | z
    .exact both (w9.all.1 s (by simp[z]))
    .rw[YAI.mp z];exact both gs
  .exact both (w9.all.1 s (by simp[z]))
 .rcases w9.bd with⟨z,dy,g'⟩ | z
  .exact .inl ⟨z,dy,ZbP (ZbP g' k dA9) kB bA⟩
  .exact .inr z
theorem ZoD {F G:List Kp}(h:F.map kk=G.map kk):(G.map λr=>(kTx r.n,tx r.l))=F.map λr=>(kTx r.n,tx r.l):=by have:=congrArg (List.map λk=>(kTx k.1,tx k.2.1)) h;rw[YAl,YAl]at this;exact this.symm
theorem Znc {F:List Kp}{n:Q11}(h:∀r∈F,r.n≠n):valV (F.map λr=>(kTx r.n,tx r.l)) (kTx n)=none:=by
 induction F with
 | nil=>rfl
 | cons r F ih=>
  rw[YAi,Zbb (λe=>h r (by simp) (ZbG e))];exact ih λs hs=>h s (by simp[hs])
theorem ZfC (h:xs.Perm ys):∀ {G:List α},ys=G.map f->∃G':List α,G'.Perm G/\G'.map f=xs:=by
 induction h with
 | nil=>exact λ{G} e=>⟨[],by rw[List.map_eq_nil_iff.mp e.symm],rfl⟩
 | cons x _ ih=>
  intro G e;cases G with
  | nil=>cases e
  | cons g G=>
   injection e with e1 e2;obtain⟨G',p,q⟩:=ih e2;exact⟨g::G',p.cons g,by rw[YAi,q,e1]⟩
 | swap x y l=>
  intro G e
  match G,e with
  | g::k::G,e=>
   injection e with e1 e2;injection e2 with e2 e3;exact⟨k::g::G,.swap g k G,by rw[YAi,YAi,e1,e2,e3]⟩
 | trans _ _ ih1 ih2=>
  intro G e;obtain⟨G',p,q⟩:=ih2 e;obtain⟨G2,p2,q2⟩:=ih1 q.symm;exact⟨G2,p2.trans p,q2⟩
theorem Wld.keepD {a:Ad}{H H':Hp}{p dA dB q d:AE}{m l:Q11}{F G Z:List Kp}{kvs:List (Key×V)}(h:Wld a H p dA dB q m l F G Z)(k:KeepB d H H')(e:H d=some (.dK kvs))(n1:d≠dA)(n2:d≠dB):Wld a H' p dA dB q m l F G Z:=by
 obtain⟨⟨dx,f⟩,d1,d2,al,nm,nd,ne,bd,kk,ok⟩:=h;refine⟨⟨dx,ZbP f k e⟩,k _ _ d1 (YAk n1),k _ _ d2 (YAk n2),⟨λr hr=>ZaM (al.1 r hr) k e,al.2⟩,nm,nd,ne,?_,kk,ok⟩;rcases bd with⟨z,dy,g⟩ | z
 .exact .inl ⟨z,dy,ZbP g k e⟩
 .exact .inr z
def kl (r:Kp):Q11×Q11:=(r.n,r.l)
theorem RankOk.same2 (h:RankOk l m F R)(g:RankOk l m G S)(p:(F.map kl).Perm (G.map kl)):R=S:=by
 have e:∀A:List Kp,(A.map λr=>(r.n,Wd l r.l m))=(A.map kl).map λk=>(k.1,Wd l k.2 m):=λA=>by rw[YAl];rfl
 refine List.Perm.eq_of_pairwise (λa b _ _ h1 h2=>(h1.asym h2).elim) h.1 g.1 (h.2.trans (?_:List.Perm _ _) |>.trans g.2.symm);rw[e,e];exact p.map _
theorem ZqR {F G:List Kp}(h:F.map kl=G.map kl):(F.map λr=>(kTx r.n,tx r.l))=G.map λr=>(kTx r.n,tx r.l):=by have:=congrArg (List.map λk=>(kTx k.1,tx k.2)) h;rw[YAl,YAl]at this;exact this
theorem ZoI {F G:List Kp}(h:F.map kk=G.map kk):F.map kl=G.map kl:=by have:=congrArg (List.map λk=>(k.1,k.2.1)) h;rw[YAl,YAl]at this;exact this
theorem ZhU {C T:Q11->Hp->Prop}{R:Prop}(h1:(∀l H,C l H->T l H)->R)(h2:∀l H,C l H->T l H):R:=h1 h2
inductive sp_LG (K:Q4) (a:Ad) (vs:List V) (H:Hp) (Q:VK) (E:XK):Prop
 | mk:∀l m,(vs=[tx l,tx m])->(l.length<=1000)->(∀H2,Same H H2->Q (.bl (l.all λc=>m.contains c)) H2)->sp_LG K a vs H Q E
inductive sp_LI (K:Q4) (a:Ad) (vs:List V) (H:Hp) (Q:VK) (E:XK):Prop
 | mk:∀l,(vs=[tx l])->(l.length<=1000)->(∀H2,Same H H2->Q (.bl (isk l)) H2)->sp_LI K a vs H Q E
inductive sp_LL (K:Q4) (a:Ad) (vs:List V) (H:Hp) (Q:VK) (E:XK):Prop
 | mk:∀l m most,(vs=[tx l,tx m,.int most])->(l.length<=1000)->(∀H2,Same H H2->Q (.bl (isw l m most)) H2)->sp_LL K a vs H Q E
inductive sp_K5 (K:Q4) (a:Ad) (vs:List V) (H:Hp) (Q:VK) (E:XK):Prop
 | mk:∀l,(vs=[tx l])->(l.length<=1000)->(isk l=true)->(∀H2,Same H H2->Q .non H2)->sp_K5 K a vs H Q E
inductive sp_LD (K:Q4) (a:Ad) (vs:List V) (H:Hp) (Q:VK) (E:XK):Prop
 | mk:∀l m most,(vs=[tx l,tx m,.int most])->(l.length<=1000)->(isw l m most=true)->(∀H2,Same H H2->Q .non H2)->sp_LD K a vs H Q E
inductive sp_LW (K:Q4) (a:Ad) (vs:List V) (H:Hp) (Q:VK) (E:XK):Prop
 | mk:∀(l:Q11) (n:Nat),(vs=[tx l,.int n])->(l.length<=200)->(n<=l.length+1)->(l.length<n+63)->(∀p H2,Same H H2->H p=none->H2 p=some (.lst ((wordsOf l n).map tx))->Q (.ref p) H2)->sp_LW K a vs H Q E
inductive sp_L0 (K:Q4) (a:Ad) (vs:List V) (H:Hp) (Q:VK) (E:XK):Prop
 | mk:∀(b1 b2:AE) (sh st:Q22) (m:Q11),(vs=[.ref b1,.ref b2,tx m])->(H b1=some (.lst (sh.map tx)))->(H b2=some (.lst (st.map tx)))->(sh.length<=100)->(m.length<=4)->((∀w∈sh,w.length<=100))->(∀p H2,Same H H2->H p=none->H2 p=some (.lst ((Zeg sh st m).map tx))->Q (.ref p) H2)->sp_L0 K a vs H Q E
inductive sp_KV (K:Q4) (a:Ad) (vs:List V) (H:Hp) (Q:VK) (E:XK):Prop
 | mk:∀(p dx:AE) (l m:Q11),(vs=[.ref p,tx l,tx m])->(H p=some (.ins a.c_LX dx []))->(StripOk l m)->(∀H2,Zb9 a.c_LX H2 p l m->(∀b o,H b=some o->b≠p->H2 b=some o)->Q .non H2)->sp_KV K a vs H Q E
inductive sp_KB (K:Q4) (a:Ad) (vs:List V) (H:Hp) (Q:VK) (E:XK):Prop
 | mk:∀(p:AE) (l m:Q11) (n:Nat),(vs=[.ref p,.int n])->(Zb9 a.c_LX H p l m)->(Q (tx l) H)->sp_KB K a vs H Q E
inductive sp_KS (K:Q4) (a:Ad) (vs:List V) (H:Hp) (Q:VK) (E:XK):Prop
 | mk:∀(p:AE) (l m:Q11) (n:Nat),(vs=[.ref p,.int n])->(Zb9 a.c_LX H p l m)->(StripOk l m)->(n<=l.length+1)->(∀q H2,Same H H2->H q=none->H2 q=some (.lst ((wordsOf l n).map tx))->Q (.ref q) H2)->sp_KS K a vs H Q E
inductive sp_KR (K:Q4) (a:Ad) (vs:List V) (H:Hp) (Q:VK) (E:XK):Prop
 | mk:∀(p:AE) (l m:Q11),(vs=[.ref p])->(Zb9 a.c_LX H p l m)->(StripOk l m)->(Q (.int ((l.length:Nat)+1)) H)->sp_KR K a vs H Q E
inductive sp_KF (K:Q4) (a:Ad) (vs:List V) (H:Hp) (Q:VK) (E:XK):Prop
 | mk:∀(p:AE) (l m:Q11),(vs=[.ref p])->(Zb9 a.c_LX H p l m)->(StripOk l m)->(∀q H2,Same H H2->H2 q=some (.lst ((Zaq l m).map tx))->Q (.ref q) H2)->sp_KF K a vs H Q E
inductive sp_LH (K:Q4) (a:Ad) (vs:List V) (H:Hp) (Q:VK) (E:XK):Prop
 | mk:∀(p:AE) (ws:Q22),(vs=[.ref p])->(H p=some (.lst (ws.map tx)))->((∀w∈ws,w.length<=1000))->(TT a H)->(∀(ws':Q22) (r:AE) (H2:Hp),ws'.Perm ws->ws'.Pairwise (λa b=>¬BefW b a)->SameL H H2->TT a H2->H r=none->H2 r=some (.lst (ws'.map tx))->Q (.ref r) H2)->sp_LH K a vs H Q E
inductive sp_L3 (K:Q4) (a:Ad) (vs:List V) (H:Hp) (Q:VK) (E:XK):Prop
 | mk:∀(l x:Q11),(vs=[tx l,tx x])->(l.length<=1000)->(x.length<=1000)->(Q (.bl (Zjg l x)) H)->sp_L3 K a vs H Q E
inductive sp_L2 (K:Q4) (a:Ad) (vs:List V) (H:Hp) (Q:VK) (E:XK):Prop
 | mk:∀(s L:Q11),(vs=[tx s,tx L])->(L.length<=41)->(Ext s L)->(TT a H)->(∀(F:Q22) (r:AE) (H2:Hp),F.Pairwise BefW->(∀w,w∈F↔Frs s L w)->SameL H H2->TT a H2->Nw H r->H2 r=some (.lst (F.map tx))->Q (.ref r) H2)->sp_L2 K a vs H Q E
inductive sp_LQ (K:Q4) (a:Ad) (vs:List V) (H:Hp) (Q:VK) (E:XK):Prop
 | mk:∀(s L rs m:Q11),(vs=[tx s,tx L,tx rs])->(L.length<=41)->(Ext s L)->((∀x∈L,x∈m))->(m.Pairwise (· < ·))->(TT a H)->(∀(ys:List V) (r:AE) (H2:Hp),SameL H H2->TT a H2->Nw H r->H2 r=some (.lst ys)->RowsA H2 ys (ZcJ rs s L m)->Q (.ref r) H2)->sp_LQ K a vs H Q E
inductive sp_LV (K:Q4) (a:Ad) (vs:List V) (H:Hp) (Q:VK) (E:XK):Prop
 | mk:∀(s L rs m:Q11),(vs=[tx s,tx L,tx m,tx rs])->(L.length<=41)->(Ext s L)->((∀x∈L,x∈m))->(m.Pairwise (· < ·))->(m.length<=4)->(TT a H)->(∀(ys:List V) (r:AE) (H2:Hp),SameL H H2->TT a H2->Nw H r->H2 r=some (.lst ys)->RowsA H2 ys (ZcE rs s L m)->Q (.ref r) H2)->sp_LV K a vs H Q E
inductive sp_KE (K:Q4) (a:Ad) (vs:List V) (H:Hp) (Q:VK) (E:XK):Prop
 | mk:∀(p la da:AE) (l m:Q11) (ds:List (Bool×Nat)),(vs=[.ref p])->(StripAt a.c_LZ H p la da l m ds)->(∀r,H r=none->Q (.ref r) (upd H r (.lst ((Zaq l m).map tx))))->sp_KE K a vs H Q E
inductive sp_KO (K:Q4) (a:Ad) (vs:List V) (H:Hp) (Q:VK) (E:XK):Prop
 | mk:∀(p la da:AE) (l m:Q11) (ds:List (Bool×Nat)),(vs=[.ref p])->(StripAt a.c_LZ H p la da l m ds)->(∀r ts,H r=none->DeedsA H ts ds->Q (.ref r) (upd H r (.lst ts)))->sp_KO K a vs H Q E
inductive sp_KI (K:Q4) (a:Ad) (vs:List V) (H:Hp) (Q:VK) (E:XK):Prop
 | mk:∀(p la da c g:AE) (l l2 m:Q11) (old new:Q22) (ys zs:List V) (rc rg:List (Q11×List V)),(vs=[.ref p,tx l2,.ref c,.ref g])->(Zdq a.c_LZ H p la da l m)->(H la=some (.lst (old.map tx)))->(H c=some (.lst ys))->(RowsA H ys rc)->(H g=some (.lst zs))->(RowsA H zs rg)->(old.Pairwise BefW)->(new.Pairwise BefW)->((rc.map (·.1)).Nodup)->((∀w,w∈rc.map (·.1)↔w∈new/\w∉old))->((∀w,w∈rg.map (·.1)↔w∈old/\w∉new))->(old.length<=9000)->(rc.length<=9000)->(rg.length<=9000)->((∀w∈old,w.length<=1000))->((∀w∈new,w.length<=1000))->(TT a H)->(∀(t la2:AE) (H2:Hp),Chg [p] H H2->Zdq a.c_LZ H2 p la2 da l2 m->Nw H la2->H2 la2=some (.lst (new.map tx))->H2 t=some (.tup [.ref c,.ref g])->TT a H2->Q (.ref t) H2)->sp_KI K a vs H Q E
inductive sp_K3 (K:Q4) (a:Ad) (vs:List V) (H:Hp) (Q:VK) (E:XK):Prop
 | mk:∀(p la da:AE) (s L m:Q11),(vs=[.ref p,tx L])->(Zdq a.c_LZ H p la da s m)->(H la=some (.lst ((Zaq s m).map tx)))->(L.length<=40)->(Ext s L)->((∀x∈L,x∈m))->(KindsOk m)->(TT a H)->(∀(t c g la2:AE) (H2:Hp),Chg [p] H H2->Zdq a.c_LZ H2 p la2 da L m->H2 la2=some (.lst ((Zaq L m).map tx))->AnsS H H2 t c g la2 (ZcE [102,105,114,115,116] s L m) (ZcJ [115,116,97,110,100,115] s L m)->TT a H2->Q (.ref t) H2)->sp_K3 K a vs H Q E
inductive sp_KK (K:Q4) (a:Ad) (vs:List V) (H:Hp) (Q:VK) (E:XK):Prop
 | mk:∀(p la da:AE) (s L m:Q11),(vs=[.ref p,tx s])->(Zdq a.c_LZ H p la da L m)->(H la=some (.lst ((Zaq L m).map tx)))->(L.length<=40)->(Ext s L)->((∀x∈L,x∈m))->(KindsOk m)->(TT a H)->(∀(t c g la2:AE) (H2:Hp),Chg [p] H H2->Zdq a.c_LZ H2 p la2 da s m->H2 la2=some (.lst ((Zaq s m).map tx))->AnsS H H2 t c g la2 (ZcJ [115,116,111,111,100] s L m) (ZcE [108,97,115,116] s L m)->TT a H2->Q (.ref t) H2)->sp_KK K a vs H Q E
inductive sp_K7 (K:Q4) (a:Ad) (vs:List V) (H:Hp) (Q:VK) (E:XK):Prop
 | mk:∀(p dx C:AE) (l m:Q11),(vs=[.ref p,tx l,tx m])->((C=a.c_LX\/C=a.c_LZ))->(H p=some (.ins C dx []))->(∀H2,H2 p=some (.ins C dx (putF "own_kinds" (tx m) (putF "own_text" (tx l) [])))->(∀b o,H b=some o->b≠p->H2 b=some o)->Q .non H2)->sp_K7 K a vs H Q E
inductive sp_LC (K:Q4) (a:Ad) (vs:List V) (H:Hp) (Q:VK) (E:XK):Prop
 | mk:∀l m,(vs=[tx l,tx m])->(l.length<=1000)->(∀H2,Same H H2->Q (.bl (isl l m)) H2)->sp_LC K a vs H Q E
inductive sp_KP (K:Q4) (a:Ad) (vs:List V) (H:Hp) (Q:VK) (E:XK):Prop
 | mk:∀l m,(vs=[tx l,tx m])->(l.length<=1000)->(isl l m=true)->(∀H2,Same H H2->Q .non H2)->sp_KP K a vs H Q E
inductive sp_K4 (K:Q4) (a:Ad) (vs:List V) (H:Hp) (Q:VK) (E:XK):Prop
 | mk:∀(p dx:AE) (m:Q11),(vs=[.ref p,tx m])->(H p=some (.ins a.c_LZ dx []))->(KOk m)->(∀la da H2,StripAt a.c_LZ H2 p la da [] m []->H la=none->H da=none->(∀b o,H b=some o->b≠p->H2 b=some o)->Q .non H2)->sp_K4 K a vs H Q E
inductive sp_LB (K:Q4) (a:Ad) (vs:List V) (H:Hp) (Q:VK) (E:XK):Prop
 | mk:∀(p la da:AE) (l m:Q11) (ds:List (Bool×Nat)) (c0:Nat),(vs=[.ref p,tx [c0]])->(StripAt a.c_LZ H p la da l m ds)->(ds.length<=9000)->(TT a H)->(c0∈m)->(l.length<40)->(∀(t c g la2:AE) (H2:Hp),Chg [p,da] H H2->StripAt a.c_LZ H2 p la2 da (l++[c0]) m (ds++[(true,c0)])->AnsS H H2 t c g la2 (ZcE [102,105,114,115,116] l (l++[c0]) m) (ZcJ [115,116,97,110,100,115] l (l++[c0]) m)->TT a H2->Q (.ref t) H2)->sp_LB K a vs H Q E
inductive sp_K2 (K:Q4) (a:Ad) (vs:List V) (H:Hp) (Q:VK) (E:XK):Prop
 | mk:∀(p la da:AE) (c0:Nat) (l0 m:Q11) (ds:List (Bool×Nat)),(vs=[.ref p])->(StripAt a.c_LZ H p la da (c0::l0) m ds)->(ds.length<=9000)->(TT a H)->(∀(t c g la2:AE) (H2:Hp),Chg [p,da] H H2->StripAt a.c_LZ H2 p la2 da l0 m (ds++[(false,c0)])->AnsS H H2 t c g la2 (ZcJ [115,116,111,111,100] l0 (c0::l0) m) (ZcE [108,97,115,116] l0 (c0::l0) m)->TT a H2->Q (.ref t) H2)->sp_K2 K a vs H Q E
inductive sp_K1 (K:Q4) (a:Ad) (vs:List V) (H:Hp) (Q:VK) (E:XK):Prop
 | mk:∀(p la da:AE) (l m:Q11) (ds:List (Bool×Nat)),(vs=[.ref p])->(StripAt a.c_LZ H p la da l m ds)->(ds.length<=9000)->(TT a H)->(((∃ds0 c0 l0,ds=ds0++[(true,c0)]/\l=l0++[c0]/\∀(t c g la2:AE) (H2:Hp),Chg [p,da] H H2->StripAt a.c_LZ H2 p la2 da l0 m ds0->AnsS H H2 t c g la2 (ZcJ [115,116,111,111,100] l0 (l0++[c0]) m) (ZcE [108,97,115,116] l0 (l0++[c0]) m)->TT a H2->Q (.ref t) H2)\/(∃ds0 c0,ds=ds0++[(false,c0)]/\∀(t c g la2:AE) (H2:Hp),Chg [p,da] H H2->StripAt a.c_LZ H2 p la2 da (c0::l) m ds0->AnsS H H2 t c g la2 (ZcE [102,105,114,115,116] l (c0::l) m) (ZcJ [115,116,97,110,100,115] l (c0::l) m)->TT a H2->Q (.ref t) H2)))->sp_K1 K a vs H Q E
inductive sp_KJ (K:Q4) (a:Ad) (vs:List V) (H:Hp) (Q:VK) (E:XK):Prop
 | mk:∀(p la da:AE) (l m:Q11) (ds:List (Bool×Nat)),(vs=[.ref p])->(StripAt a.c_LZ H p la da l m ds)->(∀(p2 la2 da2:AE) (H2:Hp),Same H H2->StripAt a.c_LZ H2 p2 la2 da2 l m ds->H p2=none->H la2=none->H da2=none->Q (.ref p2) H2)->sp_KJ K a vs H Q E
inductive sp_L5 (K:Q4) (a:Ad) (vs:List V) (H:Hp) (Q:VK) (E:XK):Prop
 | mk:∀(b:AE) (ns:List Int) (k:Int),(vs=[.ref b,.int k])->(SqL K H b (ns.map V.int))->(0<=k)->(k<=1000)->(∀r:Int,Q (.int r) H)->sp_L5 K a vs H Q E
inductive sp_L8 (K:Q4) (a:Ad) (vs:List V) (H:Hp) (Q:VK) (E:XK):Prop
 | mk:∀c k,(vs=[.int c,.int k])->(∀r:Int,0<=r->Q (.int r) H)->sp_L8 K a vs H Q E
inductive sp_LS (K:Q4) (a:Ad) (vs:List V) (H:Hp) (Q:VK) (E:XK):Prop
 | mk:∀c,(vs=[.int c])->(∀m,isk m=true->1<=m.length->m.length<=4->Q (tx m) H)->sp_LS K a vs H Q E
inductive sp_LM (K:Q4) (a:Ad) (vs:List V) (H:Hp) (Q:VK) (E:XK):Prop
 | mk:∀(w c:Int) (m:Q11) (n:Nat),(vs=[.int w,.int c,tx m,.int n])->(1<=m.length)->(m.length<=4)->(n<=60)->(∀(l:Q11) H2,l.length=n->(∀x∈l,x∈m)->Same H H2->Q (tx l) H2)->sp_LM K a vs H Q E
inductive sp_L9 (K:Q4) (a:Ad) (vs:List V) (H:Hp) (Q:VK) (E:XK):Prop
 | mk:∀i:Int,(vs=[.int i])->(Q (.bl true) H)->sp_L9 K a vs H Q E
inductive sp_MB (K:Q4) (a:Ad) (vs:List V) (H:Hp) (Q:VK) (E:XK):Prop
 | mk:∀(x y:Int),(vs=[.int x,.int y])->(0<=x)->(0<=y)->(Q (.int (Int.gcd x y:Nat)) H)->sp_MB K a vs H Q E
inductive sp_LF (K:Q4) (a:Ad) (vs:List V) (H:Hp) (Q:VK) (E:XK):Prop
 | mk:∀(x y:Int) (n:Nat),(vs=[.int x,.int y])->(0<=x)->(0<y)->(Bt n y)->(n<=8000)->(∀p H2,Same H H2->H2 p=some (.tup [.int (frT x y),.int (frB x y)])->Q (.ref p) H2)->sp_LF K a vs H Q E
inductive sp_ME (K:Q4) (a:Ad) (vs:List V) (H:Hp) (Q:VK) (E:XK):Prop
 | mk:∀(p q:AE) (x y z u:Int) (n:Nat),(vs=[.ref p,.ref q])->(H p=some (.tup [.int x,.int y]))->(H q=some (.tup [.int z,.int u]))->(0<y)->(0<u)->(Bt n x)->(Bt n y)->(Bt n z)->(Bt n u)->(n<=3900)->(∀p H2,Same H H2->H2 p=some (.tup [.int (frT (x*u+z*y) (y*u)),.int (frB (x*u+z*y) (y*u))])->Q (.ref p) H2)->sp_ME K a vs H Q E
inductive sp_KQ (K:Q4) (a:Ad) (vs:List V) (H:Hp) (Q:VK) (E:XK):Prop
 | mk:∀(p:AE) (l m:Q11),(vs=[.ref p])->(BandA a H p l m)->(Q (tx m) H)->sp_KQ K a vs H Q E
inductive sp_LO (K:Q4) (a:Ad) (vs:List V) (H:Hp) (Q:VK) (E:XK):Prop
 | mk:∀(l m:Q11),(vs=[tx l,tx m])->(StripOk l m)->(TT a H)->(∀r H2,SameL H H2->TT a H2->Nw H r->H2 r=some (.lst ((Zaq l m).map tx))->Q (.ref r) H2)->sp_LO K a vs H Q E
inductive sp_LU (K:Q4) (a:Ad) (vs:List V) (H:Hp) (Q:VK) (E:XK):Prop
 | mk:∀(l m:Q11) (c:Int),(vs=[tx l,tx m,.int c])->(StripOk l m)->(TT a H)->(∀p la da ds H2,SameL H H2->TT a H2->StripAt a.c_LZ H2 p la da l m ds->Nw H p->Nw H la->Nw H da->ds.length<=200->Q (.ref p) H2)->sp_LU K a vs H Q E
inductive sp_L4 (K:Q4) (a:Ad) (vs:List V) (H:Hp) (Q:VK) (E:XK):Prop
 | mk:∀(l m:Q11) (c:Int),(vs=[tx l,tx m,.int c])->(StripOk l m)->(TT a H)->(∀p H2,SameL H H2->TT a H2->(Zb9 a.c_LX H2 p l m\/∃la da ds,StripAt a.c_LZ H2 p la da l m ds/\Nw H p/\Nw H la/\Nw H da/\ds.length<=200)->Q (.ref p) H2)->sp_L4 K a vs H Q E
inductive sp_MD (K:Q4) (a:Ad) (vs:List V) (H:Hp) (Q:VK) (E:XK):Prop
 | mk:∀(b:AE) (ws:Q22),(vs=[.ref b])->(H b=some (.lst (ws.map tx)))->(ws.length<=400)->((∀w∈ws,1<=w.length/\w.length<=41))->(∀t H2,Same H H2->H2 t=some (.tup [.int (frT (WS ws:Nat) (DD:Nat)),.int (frB (WS ws:Nat) (DD:Nat))])->Q (.ref t) H2)->sp_MD K a vs H Q E
inductive sp_LR (K:Q4) (a:Ad) (vs:List V) (H:Hp) (Q:VK) (E:XK):Prop
 | mk:∀(b c:AE) (xs ys:Q22),(vs=[.ref b,.ref c])->(H b=some (.lst (xs.map tx)))->(H c=some (.lst (ys.map tx)))->(LsOk xs)->(LsOk ys)->(∀(r:AE) (ds:Q22) (H2:Hp),Same H H2->H r=none->H2 r=some (.lst (ds.map tx))->IsDiff xs ys ds->ds.length<=400->Q (.ref r) H2)->sp_LR K a vs H Q E
inductive sp_LT (K:Q4) (a:Ad) (vs:List V) (H:Hp) (Q:VK) (E:XK):Prop
 | mk:∀(t u:AE) (x y:Int),(vs=[.ref t,.ref u])->(H t=some (.tup [.int x,.int y]))->(H u=some (.tup [.int x,.int y]))->(Q (.bl true) H)->sp_LT K a vs H Q E
inductive sp_K6 (K:Q4) (a:Ad) (vs:List V) (H:Hp) (Q:VK) (E:XK):Prop
 | mk:∀(p q:AE) (l m:Q11),(vs=[.ref p,.ref q])->(ZqY a H p m)->(BandA a H q l m)->(Q .non H)->sp_K6 K a vs H Q E
inductive sp_K8 (K:Q4) (a:Ad) (vs:List V) (H:Hp) (Q:VK) (E:XK):Prop
 | mk:∀(p:AE) (l m:Q11),(vs=[.ref p])->(BandA a H p l m)->(Q (tx l) H)->sp_K8 K a vs H Q E
inductive sp_L1 (K:Q4) (a:Ad) (vs:List V) (H:Hp) (Q:VK) (E:XK):Prop
 | mk:∀(p q:AE) (x y:Nat),(vs=[.ref p,.ref q])->(H p=some (.tup [.int (frT (x:Nat) (DD:Nat)),.int (frB (x:Nat) (DD:Nat))]))->(H q=some (.tup [.int (frT (y:Nat) (DD:Nat)),.int (frB (y:Nat) (DD:Nat))]))->(x<=400*DD)->(y<=400*DD)->(Q (.bl (decide (x<y))) H)->sp_L1 K a vs H Q E
inductive sp_LP (K:Q4) (a:Ad) (vs:List V) (H:Hp) (Q:VK) (E:XK):Prop
 | mk:∀(p1 p2:AE) (l1 l2 m:Q11),(vs=[.ref p1,.ref p2])->(BandA a H p1 l1 m)->(BandA a H p2 l2 m)->(TT a H)->(StripOk l1 m)->(StripOk l2 m)->(∀(r:AE) (zs:List V) (ds:Q22) (H2:Hp),SameL H H2->TT a H2->Nw H r->H2 r=some (.lst zs)->ZqZ H2 zs ds (Zaq l1 m)->IsDiff (Zaq l1 m) (Zaq l2 m) ds->Q (.ref r) H2)->sp_LP K a vs H Q E
inductive sp_LE (K:Q4) (a:Ad) (vs:List V) (H:Hp) (Q:VK) (E:XK):Prop
 | mk:∀(p1 p2:AE) (l1 l2 m:Q11),(vs=[.ref p1,.ref p2])->(BandA a H p1 l1 m)->(BandA a H p2 l2 m)->(TT a H)->(StripOk l1 m)->(StripOk l2 m)->(∀(t:AE) (H2:Hp),SameL H H2->TT a H2->H2 t=some (.tup [.int (frT (Wd l1 l2 m:Nat) (DD:Nat)),.int (frB (Wd l1 l2 m:Nat) (DD:Nat))])->Q (.ref t) H2)->sp_LE K a vs H Q E
inductive sp_LK (K:Q4) (a:Ad) (vs:List V) (H:Hp) (Q:VK) (E:XK):Prop
 | mk:∀n,(vs=[tx n])->(isn n=true)->(∀H2,Same H H2->Q (.bl true) H2)->sp_LK K a vs H Q E
inductive sp_KY (K:Q4) (a:Ad) (vs:List V) (H:Hp) (Q:VK) (E:XK):Prop
 | mk:∀(p dx:AE) (m:Q11),(vs=[.ref p,tx m])->(H p=some (.ins a.c_LY dx []))->(KOk m)->(∀dA H2,ShelfAt a H2 p dA m []->H dA=none->(∀b o,H b=some o->b≠p->H2 b=some o)->Q .non H2)->sp_KY K a vs H Q E
inductive sp_KL (K:Q4) (a:Ad) (vs:List V) (H:Hp) (Q:VK) (E:XK):Prop
 | mk:∀(p dA:AE) (m:Q11) (F:List Kp),(vs=[.ref p])->(ShelfAt a H p dA m F)->(Q (tx m) H)->sp_KL K a vs H Q E
inductive sp_KA (K:Q4) (a:Ad) (vs:List V) (H:Hp) (Q:VK) (E:XK):Prop
 | mk:∀(p dA:AE) (m:Q11) (F:List Kp) (n:Q11),(vs=[.ref p,tx n])->(ShelfAt a H p dA m F)->(isn n=true)->((∀r∈F,r.n≠n))->(∀H2,Same H H2->Q .non H2)->sp_KA K a vs H Q E
inductive sp_K9 (K:Q4) (a:Ad) (vs:List V) (H:Hp) (Q:VK) (E:XK):Prop
 | mk:∀(p dA q la da:AE) (l m n:Q11) (ds:List (Bool×Nat)) (F:List Kp),(vs=[.ref p,tx n,.ref q])->(ShelfAt a H p dA m F)->(StripAt a.c_LZ H q la da l m ds)->(isn n=true)->((∀r∈F,r.n≠n))->(F.length<=1000)->(∀(r:Kp) (H2:Hp),r.n=n->r.l=l->r.ds=ds->H r.p=none->H r.la=none->H r.da=none->KeepB dA H H2->ShelfAt a H2 p dA m (F++[r])->Q .non H2)->sp_K9 K a vs H Q E
inductive sp_KM (K:Q4) (a:Ad) (vs:List V) (H:Hp) (Q:VK) (E:XK):Prop
 | mk:∀(p dA:AE) (m:Q11) (F:List Kp),(vs=[.ref p])->(ShelfAt a H p dA m F)->(F.length<=1000)->(∀r H2,Same H H2->H r=none->H2 r=some (.lst ((Zbs (F.map (·.n))).map tx))->Q (.ref r) H2)->sp_KM K a vs H Q E
inductive sp_KZ (K:Q4) (a:Ad) (vs:List V) (H:Hp) (Q:VK) (E:XK):Prop
 | mk:∀(p dA:AE) (m:Q11) (F:List Kp) (r:Kp),(vs=[.ref p,tx r.n])->(ShelfAt a H p dA m F)->(r∈F)->(∀H2,Same H H2->Q (.ref r.p) H2)->sp_KZ K a vs H Q E
inductive sp_KN (K:Q4) (a:Ad) (vs:List V) (H:Hp) (Q:VK) (E:XK):Prop
 | mk:∀(p dA:AE) (m:Q11) (F:List Kp) (r:Kp),(vs=[.ref p,tx r.n])->(ShelfAt a H p dA m F)->(r∈F)->(∀(p2 la2 da2:AE) (H2:Hp),Same H H2->StripAt a.c_LZ H2 p2 la2 da2 r.l m r.ds->H p2=none->H la2=none->H da2=none->Q (.ref p2) H2)->sp_KN K a vs H Q E
inductive sp_K0 (K:Q4) (a:Ad) (vs:List V) (H:Hp) (Q:VK) (E:XK):Prop
 | mk:∀(p dA:AE) (m:Q11) (F:List Kp) (r:Kp),(vs=[.ref p,tx r.n])->(ShelfAt a H p dA m F)->(r∈F)->(∀H2,KeepB dA H H2->ShelfAt a H2 p dA m (F.filter λx=>decide (x.n≠r.n))->Q (.ref r.p) H2)->sp_K0 K a vs H Q E
inductive sp_LA (K:Q4) (a:Ad) (vs:List V) (H:Hp) (Q:VK) (E:XK):Prop
 | mk:∀(p dA:AE) (m:Q11) (F:List Kp) (r:Kp) (c0:Nat),(vs=[.ref p,tx r.n,tx [c0]])->(ShelfAt a H p dA m F)->(r∈F)->(TT a H)->(r.ds.length<=9000)->(c0∈m)->(r.l.length<40)->(∀(t c g la2:AE) (H2:Hp),Chg [r.p,r.da] H H2->StripAt a.c_LZ H2 r.p la2 r.da (r.l++[c0]) m (r.ds++[(true,c0)])->AnsS H H2 t c g la2 (ZcE [102,105,114,115,116] r.l (r.l++[c0]) m) (ZcJ [115,116,97,110,100,115] r.l (r.l++[c0]) m)->TT a H2->Q (.ref t) H2)->sp_LA K a vs H Q E
inductive sp_KX (K:Q4) (a:Ad) (vs:List V) (H:Hp) (Q:VK) (E:XK):Prop
 | mk:∀(p dA:AE) (m:Q11) (F:List Kp) (r:Kp) (c0:Nat) (l0:Q11),(vs=[.ref p,tx r.n])->(ShelfAt a H p dA m F)->(r∈F)->(TT a H)->(r.ds.length<=9000)->(r.l=c0::l0)->(∀(t c g la2:AE) (H2:Hp),Chg [r.p,r.da] H H2->StripAt a.c_LZ H2 r.p la2 r.da l0 m (r.ds++[(false,c0)])->AnsS H H2 t c g la2 (ZcJ [115,116,111,111,100] l0 (c0::l0) m) (ZcE [108,97,115,116] l0 (c0::l0) m)->TT a H2->Q (.ref t) H2)->sp_KX K a vs H Q E
inductive sp_KW (K:Q4) (a:Ad) (vs:List V) (H:Hp) (Q:VK) (E:XK):Prop
 | mk:∀(p dA:AE) (m:Q11) (F:List Kp) (r:Kp),(vs=[.ref p,tx r.n])->(ShelfAt a H p dA m F)->(r∈F)->(TT a H)->(r.ds.length<=9000)->(((∃ds0 c0 l0,r.ds=ds0++[(true,c0)]/\r.l=l0++[c0]/\∀(t c g la2:AE) (H2:Hp),Chg [r.p,r.da] H H2->StripAt a.c_LZ H2 r.p la2 r.da l0 m ds0->AnsS H H2 t c g la2 (ZcJ [115,116,111,111,100] l0 (l0++[c0]) m) (ZcE [108,97,115,116] l0 (l0++[c0]) m)->TT a H2->Q (.ref t) H2)\/(∃ds0 c0,r.ds=ds0++[(false,c0)]/\∀(t c g la2:AE) (H2:Hp),Chg [r.p,r.da] H H2->StripAt a.c_LZ H2 r.p la2 r.da (c0::r.l) m ds0->AnsS H H2 t c g la2 (ZcE [102,105,114,115,116] r.l (c0::r.l) m) (ZcJ [115,116,97,110,100,115] r.l (c0::r.l) m)->TT a H2->Q (.ref t) H2)))->sp_KW K a vs H Q E
inductive sp_KH (K:Q4) (a:Ad) (vs:List V) (H:Hp) (Q:VK) (E:XK):Prop
 | mk:∀(p q dA:AE) (l m:Q11) (F:List Kp),(vs=[.ref p,.ref q])->(ShelfAt a H p dA m F)->(BandA a H q l m)->(StripOk l m)->(F.length<=1000)->(TT a H)->(∀(t:AE) (zs:List V) (R:List (Q11×Nat)) (H2:Hp),SameL H H2->TT a H2->Nw H t->H2 t=some (.lst zs)->Zg3 H2 zs R->RankOk l m F R->Q (.ref t) H2)->sp_KH K a vs H Q E
inductive sp_L7 (K:Q4) (a:Ad) (vs:List V) (H:Hp) (Q:VK) (E:XK):Prop
 | mk:∀(x y:Q11×Nat) (t u:AE),(vs=[.ref t,.ref u])->(RowA H t x)->(RowA H u y)->(x.1.length<=1000)->(y.1.length<=1000)->(x.2<=400*DD)->(y.2<=400*DD)->(Q (.bl (ltRB x y)) H)->sp_L7 K a vs H Q E
inductive sp_MC (K:Q4) (a:Ad) (vs:List V) (H:Hp) (Q:VK) (E:XK):Prop
 | mk:∀(d:AE) (l m:Q11) (F:List Kp),(vs=[.ref d,tx l,tx m])->(StripOk l m)->((∀r∈F,StripOk r.l m/\isn r.n=true))->((F.map (·.n)).Nodup)->(F.length<=1000)->(H d=some (.dK (F.map λr=>(kTx r.n,tx r.l))))->(TT a H)->(∀(t:AE) (zs:List V) (R:List (Q11×Nat)) (H2:Hp),SameL H H2->TT a H2->Nw H t->H2 t=some (.lst zs)->Zg3 H2 zs R->RankOk l m F R->Q (.ref t) H2)->sp_MC K a vs H Q E
inductive sp_LJ (K:Q4) (a:Ad) (vs:List V) (H:Hp) (Q:VK) (E:XK):Prop
 | mk:∀(q:AE) (l m:Q11) (k:Nat),(vs=[.ref q,tx l,tx m,.int k])->(StripOk l m)->(TT a H)->(((Zb9 a.c_LX H q l m/\Q (tx l) H)\/∃la da ds,StripAt a.c_LZ H q la da l m ds/\ds.length<=9000/\∀(la2:AE) (l2:Q11) (ds2:List (Bool×Nat)) (H2:Hp),Chg [q,da] H H2->TT a H2->StripAt a.c_LZ H2 q la2 da l2 m ds2->Nw H la2->ds2.length<=ds.length+1->Q (tx l2) H2))->sp_LJ K a vs H Q E
inductive sp_LN (K:Q4) (a:Ad) (vs:List V) (H:Hp) (Q:VK) (E:XK):Prop
 | mk:∀(p dA d q:AE) (l m:Q11) (F:List Kp),(vs=[.ref p,.ref d,tx l,.ref q,tx m])->(ShelfAt a H p dA m F)->(BandA a H q l m)->(StripOk l m)->(F.length<=1000)->(TxD H d F)->(d≠dA)->(TT a H)->(∀H2,SameL H H2->TT a H2->Q (.bl true) H2)->sp_LN K a vs H Q E
inductive sp_L6 (K:Q4) (a:Ad) (vs:List V) (H:Hp) (Q:VK) (E:XK):Prop
 | mk:∀(p dA dB q:AE) (n m l:Q11) (F G Z:List Kp) (c:Int),(vs=[.ref p,.ref dB,tx n,.int c,tx m])->(Wld a H p dA dB q m l F G Z)->(F.map kk=G.map kk)->((∃r∈G,r.n=n))->((∀r∈G,r.ds.length<=8000))->(TT a H)->(∀(F2 G2:List Kp) (H2:Hp),Frm dA dB F G H H2->Wld a H2 p dA dB q m l F2 G2 Z->F2.map kk=G2.map kk->G2.length<=G.length->KpLe (F++G) (F2++G2)->TT a H2->Q (.bl true) H2)->sp_L6 K a vs H Q E
def spLaw (K:Q4)(tb:Str->AE×AE):Sp:=λvs H Q _=>∃(b:AE) (ns:List Int),vs=[.ref b]/\SqL K H b (ns.map V.int)/\ns.length<=63/\TblOk H (tb "in_order").2 lpos lq/\TblOk H (tb "_law_missing").2 Zoz lqM/\∀H2,Q (.bl true) H2
theorem sz (k:Nat)(h:k<=9000):k<=sizeLine:=YAK h (by rw[sizeLine_eq];decide)
section
local macro_rules | `(tactic| walk_at "r0") => `(tactic| simp only [tSeq, tAsg, tPar, tOp, tUn, tVar, tC, ZcL, gNil, ZoZ, tRet, tIfS, ZlV, tB, tNot, tAnd, tOr, Znx, Znk, tIf, Znp, tNil, ZlZ, Zqe, Zqb, Zqd, Zqc, ZnR, Zj6, tCB, tBM, tBM0, tSl, Znj, tNoPart, tNext, L2.start, cxK, bxK, cxPr, cxWo, suxK, Zpq, Zpp, Znq, Zg9, Zqf, ZnQ, ZoT, ZoS, ZmI, ZoU, ZoR, gTup, pick, Option.bind_some, Option.bind_none, Option.join_some, Option.join_none, List.map_cons, List.map_nil, List.length_cons, List.length_nil, Nat.zero_add, Nat.reduceAdd, Nat.reduceSub, List.replicate_succ, List.replicate_zero, List.cons_append, List.nil_append, List.append_nil, List.getElem?_cons_zero, List.getElem?_cons_succ, List.set_cons_zero, List.set_cons_succ, q_I, q_I0, q_U, q_T, q_b, q_var, q_var', Zmc, Znn, ZlX, tFld, sFld, sNo, tDNewK, ZnJ, Zlj, Znu, tDIn, ZiC, ZnH, ZoV, tOr2, Zlk, Zli])
local macro_rules | `(tactic| walk_at "r1") => do
 let some t <-Lean.Macro.expandMacro? (<-`(tactic| walk_at "r0")) | Lean.Macro.throwUnsupported
 match (⟨t⟩:Lean.TSyntax `tactic) with
 | `(tactic| simp only[$l,*])=>let d:=⟨l.elemsAndSeps⟩;`(tactic| dsimp only[$d,*])
 | _=>Lean.Macro.throwUnsupported
theorem ZkC (h:let T:=Za9 t;tSeq s T D U H):tSeq s (Za9 t) D U H:=h
local macro_rules | `(tactic| walk_at "rd") => `(tactic| ((try (with_reducible refine ZkC ?_; intro)); first | (walk_at "r1"; try walk_at "r0") | walk_at "r0"))
local macro_rules | `(tactic| walk_at "sc") => `(tactic| exact ⟨rfl, rfl, rfl, by decide +kernel, rfl, by decide +kernel, by decide +kernel⟩)
local macro_rules | `(tactic| walk_at "rd?") => `(tactic| (try walk_at "rd"))
local macro_rules | `(tactic| walk_at "g") => `(tactic| (refine Zag ?_;walk_at "rd"))
local macro_rules | `(tactic| walk_at "h") => `(tactic| (show Za9 _ _ _ _;walk_at "g"))
local macro_rules | `(tactic| walk_at "k") => `(tactic| (walk_at "rd?";walk_at "g"))
local macro_rules | `(tactic| walk_at "ln") => `(tactic| (intro _ _ _ _ h; rcases h with ⟨⟩; subst_vars; rfl))
theorem Zpy:FnScope ["text","letters"] ["text","letters"] (Zaj s_LG):=by walk_at "sc"
theorem Zpx:FnScope ["words"] ["words"] (Zaj s_LH):=by walk_at "sc"
theorem Zps:FnScope ["text","length"] ["text","length"] (Zaj s_LW):=by walk_at "sc"
theorem Zkb:FnScope ["one","other","rest"] ["one","other"] (Zaj s_MB):=by walk_at "sc"
theorem ZpI:FnScope ["one","other"] ["one","other"] (Zaj s_L1):=by walk_at "sc"
theorem ZpV:FnScope ["self"] ["self"] (Zaj s_KL):=by walk_at "sc"
theorem ZpQ:FnScope ["self"] ["self"] (Zaj s_KQ):=by walk_at "sc"
theorem ZpW:FnScope ["self"] ["self"] (Zaj s_KE):=by walk_at "sc"
theorem ZiJ:FnScope ["shorter","standing","kinds","found","head","letter","word"] ["shorter","standing","kinds"] (Zaj s_L0):=by walk_at "sc"
theorem ZpX:FnScope ["self","length"] ["self","length"] (Zaj s_KB):=by walk_at "sc"
theorem ZpP:FnScope ["self"] ["self"] (Zaj s_KR):=by walk_at "sc"
theorem ZpH:FnScope ["text","word"] ["text","word"] (Zaj s_L3):=by walk_at "sc"
theorem ZpF:FnScope ["_law_script","_law_k"] ["_law_script","_law_k"] (Zaj s_L5):=by walk_at "sc"
theorem ZpD:FnScope ["_law_thing"] ["_law_thing"] (Zaj s_L9):=by walk_at "sc"
theorem Zl7:FnScope ["_law_cell_here","_law_k","_law_number"] ["_law_cell_here","_law_k"] (Zaj s_L8):=by walk_at "sc"
theorem Zfv:FnScope ["_law_cell_here","_law_letters_here","_law_at","_law_left","_law_k"] ["_law_cell_here"] (Zaj s_LS):=by walk_at "sc"
theorem Zfw:FnScope ["_law_text","_law_kinds_here","_law_stands","_law_start","_law_end","_law_found","_law_word","_law_letter","_law_longer"] ["_law_text","_law_kinds_here"] (Zaj s_LO):=by walk_at "sc"
theorem Zp1:FnScope ["self","text","kinds"] ["self","text","kinds"] (Zaj s_K7):=by walk_at "sc"
theorem ZeR:FnScope ["_law_words","_law_top","_law_bottom","_law_word","_law_one","_law_other"] ["_law_words"] (Zaj s_MD):=by walk_at "sc"
theorem ZnA:FnScope ["_law_mine","_law_yours","_law_here"] ["_law_mine","_law_yours"] (Zaj s_LR):=by walk_at "sc"
theorem ZpS:FnScope ["self"] ["self"] (Zaj s_KO):=by walk_at "sc"
theorem Zp0:FnScope ["self"] ["self"] (Zaj s_K8):=by walk_at "sc"
theorem ZpE:FnScope ["_law_one","_law_other"] ["_law_one","_law_other"] (Zaj s_L7):=by walk_at "sc"
theorem ZpU:FnScope ["self"] ["self"] (Zaj s_KM):=by walk_at "sc"
theorem Zpw:FnScope ["thing"] ["thing"] (Zaj s_LI):=by walk_at "sc"
theorem Zpu:FnScope ["thing","kinds","most"] ["thing","kinds","most"] (Zaj s_LL):=by walk_at "sc"
theorem ZnD:FnScope ["top","bottom","divisor"] ["top","bottom"] (Zaj s_LF):=by walk_at "sc"
theorem Zp2:FnScope ["one","other"] ["one","other"] (Zaj s_K6):=by walk_at "sc"
theorem ZpO:FnScope ["self","length"] ["self","length"] (Zaj s_KS):=by walk_at "sc"
theorem Zl8:FnScope ["lesser","longer","edges","size"] ["lesser","longer"] (Zaj s_L2):=by walk_at "sc"
theorem Zdr:FnScope ["_law_way","_law_cell_here","_law_kinds_here","_law_size","_law_found","_law_left","_law_k","_law_number","_law_at","_law_letter"] ["_law_way","_law_cell_here","_law_kinds_here","_law_size"] (Zaj s_LM):=by walk_at "sc"
theorem Zma:FnScope ["self","text","came","went","gone","kept"] ["self","text","came","went"] (Zaj s_KI):=by walk_at "sc"
theorem Zpt:FnScope ["_law_found","_law_due_here"] ["_law_found","_law_due_here"] (Zaj s_LT):=by walk_at "sc"
theorem ZgD:FnScope ["_law_texts","_law_asked","_law_kinds_here","_law_due_here","_law_yours","_law_name","_law_row","_law_ahead"] ["_law_texts","_law_asked","_law_kinds_here"] (Zaj s_MC):=by walk_at "sc"
theorem ZpA:FnScope ["thing","kinds"] ["thing","kinds"] (Zaj s_LC):=by walk_at "sc"
theorem Zp3:FnScope ["thing"] ["thing"] (Zaj s_K5):=by walk_at "sc"
theorem Zpz:FnScope ["thing","kinds","most"] ["thing","kinds","most"] (Zaj s_LD):=by walk_at "sc"
theorem Zpr:FnScope ["one","other"] ["one","other"] (Zaj s_ME):=by walk_at "sc"
theorem Zh7:FnScope ["self","found","shorter","length","standing"] ["self"] (Zaj s_KF):=by walk_at "sc"
theorem Zpv:FnScope ["thing"] ["thing"] (Zaj s_LK):=by walk_at "sc"
theorem ZnB:FnScope ["lesser","longer","reason","word"] ["lesser","longer","reason"] (Zaj s_LQ):=by walk_at "sc"
theorem Zh4:FnScope ["lesser","longer","kinds","reason","found","shorter","told","letter","word"] ["lesser","longer","kinds","reason"] (Zaj s_LV):=by walk_at "sc"
theorem ZpR:FnScope ["thing","kinds"] ["thing","kinds"] (Zaj s_KP):=by walk_at "sc"
theorem Zkc:FnScope ["one","other","first","second","words"] ["one","other"] (Zaj s_LP):=by walk_at "sc"
theorem Zmb:FnScope ["self","longer","came","went"] ["self","longer"] (Zaj s_K3):=by walk_at "sc"
theorem Zp4:FnScope ["self","kinds"] ["self","kinds"] (Zaj s_K4):=by walk_at "sc"
theorem Zl9:FnScope ["self","lesser","came","went"] ["self","lesser"] (Zaj s_KK):=by walk_at "sc"
theorem ZpN:FnScope ["self","text","kinds"] ["self","text","kinds"] (Zaj s_KV):=by walk_at "sc"
theorem ZpJ:FnScope ["self","name"] ["self","name"] (Zaj s_KZ):=by walk_at "sc"
theorem ZpY:FnScope ["self","name"] ["self","name"] (Zaj s_KA):=by walk_at "sc"
theorem ZpK:FnScope ["self","kinds"] ["self","kinds"] (Zaj s_KY):=by walk_at "sc"
theorem Zkd:FnScope ["one","other","total","reason"] ["one","other"] (Zaj s_LE):=by walk_at "sc"
theorem ZpB:FnScope ["self","letter"] ["self","letter"] (Zaj s_LB):=by walk_at "sc"
theorem Zp5:FnScope ["self"] ["self"] (Zaj s_K2):=by walk_at "sc"
theorem ZnG:FnScope ["self","name","strip"] ["self","name"] (Zaj s_K0):=by walk_at "sc"
theorem ZnF:FnScope ["self","deed"] ["self"] (Zaj s_K1):=by walk_at "sc"
theorem Zh5:FnScope ["_law_text","_law_kinds_here","_law_cell_here","_law_strip_here","_law_many","_law_k","_law_letter"] ["_law_text","_law_kinds_here","_law_cell_here"] (Zaj s_LU):=by walk_at "sc"
theorem ZpC:FnScope ["self","name","letter"] ["self","name","letter"] (Zaj s_LA):=by walk_at "sc"
theorem ZpM:FnScope ["self","name"] ["self","name"] (Zaj s_KW):=by walk_at "sc"
theorem ZpL:FnScope ["self","name"] ["self","name"] (Zaj s_KX):=by walk_at "sc"
theorem ZnC:FnScope ["_law_band_here","_law_asked","_law_kinds_here","_law_k","_law_letter"] ["_law_band_here","_law_asked","_law_kinds_here","_law_k"] (Zaj s_LJ):=by walk_at "sc"
theorem ZnE:FnScope ["self","twin"] ["self"] (Zaj s_KJ):=by walk_at "sc"
theorem ZiK:FnScope ["self","strip","ranks","name","share","ahead"] ["self","strip"] (Zaj s_KH):=by walk_at "sc"
theorem ZpG:FnScope ["_law_text","_law_kinds_here","_law_cell_here"] ["_law_text","_law_kinds_here","_law_cell_here"] (Zaj s_L4):=by walk_at "sc"
theorem ZeS:FnScope ["_law_shelf","_law_beside","_law_name","_law_cell_here","_law_kinds_here","_law_strip_here","_law_way","_law_text","_law_taken","_law_letter","_law_deed_here","_law_due_here"] ["_law_shelf","_law_beside","_law_name","_law_cell_here","_law_kinds_here"] (Zaj s_L6):=by walk_at "sc"
theorem ZpT:FnScope ["self","name"] ["self","name"] (Zaj s_KN):=by walk_at "sc"
theorem ZpZ:FnScope ["self","name","strip"] ["self","name","strip"] (Zaj s_K9):=by walk_at "sc"
theorem Zh6:FnScope ["_law_shelf","_law_texts","_law_asked","_law_band_here","_law_kinds_here","_law_found","_law_due_here","_law_name","_law_near"] ["_law_shelf","_law_texts","_law_asked","_law_band_here","_law_kinds_here"] (Zaj s_LN):=by walk_at "sc"
theorem Zbl:FnScope ["_law_script","_law_kinds_here","_law_cell_here","_law_asked","_law_band_here","_law_shelf","_law_beside","_law_k","_law_names","_law_name","_law_letters_here","_law_strip_here","_law_texts","_law_anew"] ["_law_script"] (Zaj Zca):=by walk_at "sc"
variable (T:TL K mg base a tb)
include T
theorem Zn9:FnOk P w K mg base CX0 1 a.f_LG a.d_LG ["text","letters"] (sp_LG K a):=by
 refine T.D_has_only.u.ok Zpy (by walk_at "ln") (λAs A outer s H vs Q E hr h=>?_);obtain⟨l,m,rfl,hl,q⟩:=h;refine⟨_,(Zaf (Zao (Zap (ZjU rfl) rfl T.z_all Zpc (Zaa (Zcm (N:=["sign","letters"]) (ix:=[none,some 1]) rfl (Zbk rfl) rfl (ZdN (pv 0)) (λ_ _ _ _=>(Zax (i:=0) (show (["sign","letters"]:AK).Nodup from by decide +kernel) rfl (Or.inl rfl) (Or.inr rfl))) (λ_ _ _ _=>Zcw) (λ_ _ _ _=>(ZaW Zia (pv 0) (pv 1) rfl))) Zac)))),?_⟩;walk_at "rd";refine⟨l,rfl,CompRun.text (λ_=>true) (λi=>.bl (decide (l.getD i 0∈m))) hl ?_ ?_ ?_⟩
 .intro i H1 Q1 hi s1 q1;exact q1 H1 (Same.refl _)
 .intro i H1 Q1 hi _ s1 q1;walk_at "rd";exact⟨_,m,rfl,rfl,q1 H1 (Same.refl _)⟩
 .intro p H1 s1 n1 l1;refine⟨p,(List.range l.length).map (λi=>decide (l.getD i 0∈m)),rfl,?_,?_⟩
  .rw[l1,filter_all,YAl];rfl
  .rw[all_range];exact q H1 s1
theorem Zkn:FnOk P w K mg base CX0 1 a.f_LH a.d_LH ["words"] (sp_LH K a):=by refine T.D_in_order.u.okC T.cd_LH Zpx (by walk_at "ln") (λA outer s H vs Q E hr h=>?_);obtain⟨p,ws,rfl,hp,hw,tk,q⟩:=h;refine⟨_,(Zaf (Zao (Zhl (q:="in_order.<locals>.<lambda>") hr T.L_in_order rfl rfl T.z_sorted T.z_len (Zaa (pv 0) Zac) rfl rfl (by kernel_rfl) ⟨rfl,rfl,rfl,rfl,rfl,rfl⟩ (λ_ _ _ _ _=>.of_eq rfl)))),?_⟩;have sz:∀k:Nat,k<=1000->k<=sizeLine:=λk h=>YAK h (by rw[sizeLine_eq];decide);walk_at "rd";exact⟨p,ws,rfl,hp,λw h=>sz _ (hw w h),tk.1,λws' r H2 a b c d=>q ws' r H2 a b c.1 ⟨d,c.2 _ _ _ (by decide) tk.2⟩⟩
theorem Zqo:FnOk P w K mg base CX0 1 a.f_LW a.d_LW ["text","length"] (sp_LW K a):=by
 refine T.D_pieces.u.ok Zps (by walk_at "ln") (λAs A outer s H vs Q E hr h=>?_);obtain⟨l,n,rfl,hl,hn,h63,q⟩:=h;refine⟨_,(Zaf (Zao (Zap (Zcs rfl) rfl T.z_sorted Zb2 (Zaa (Za0 (ZbJ rfl) rfl T.z_set Zge (Zaa (Zcm (N:=["start","length","text"]) (ix:=[none,some 1,some 0]) rfl (Zbk rfl) rfl (ZbV rfl T.z_range (Zaa (Zar Zbo (Zar ZiV (Zap (Zau (K:=K) rfl) rfl T.z_len ZaT (Zaa (pv 0) Zac)) (pv 1)) Zak) Zac)) (λ_ _ _ _=>(Zax (i:=0) (show (["start","length","text"]:AK).Nodup from by decide +kernel) rfl (Or.inl rfl) (Or.inr rfl))) (λ_ _ _ _=>Zcw) (λ_ _ _ _=>(ZaN Zcg (pv 2) (ZaS (pv 0)) (ZaS (Zar Zbo (pv 0) (pv 1)))))) Zac)) Zac)))),?_⟩;walk_at "rd";have sz:l.length<=sizeLine:=YAK hl (by rw[sizeLine_eq];decide);have ec:((l.length:Int)-(n:Nat)+1).toNat=l.length+1-n:=by lia
 refine⟨_,_,rfl,Zbn (by lia),_,rfl,by lia,by lia,?_⟩;rw[ec];refine CompRun.rangeA (λi=>tx ((l.drop i).take n)) (by lia) ?_ ?_
 .intro i H1 Q1 hi s1 q1;walk_at "rd";refine⟨_,rfl,_,rfl,l,rfl,sz,?_⟩;have e1:(0+(i:Int))=((i:Nat):Int):=by lia
  have e2:((i:Nat):Int)+(n:Nat)=((i+n:Nat):Int):=by lia
  rw[e1,e2,ZjP];have e3:i+n-i=n:=by lia
  rw[e3];exact q1 H1 (Same.refl _)
 .intro p H1 s1 n1 l1;refine⟨(List.range (l.length+1-n)).map (λi=>(l.drop i).take n),by simp;lia,.inr ⟨p,rfl,.mk (by rw[l1,YAl];rfl)⟩,λp2 n2=>⟨p2,_,rfl,Zae,?_,NewL.of λp3 H3 s3 n3 l3=>q p3 H3 (s1.trans ((Zat n2).trans s3)) ((s1.trans (Zat n2)).free n3) l3⟩⟩;refine YBf (Zo7 _) ?_;rw[YAB,YBM];lia
theorem Zqn:FnOk P w K mg base CX0 1 a.f_MB a.d_MB ["one","other"] (sp_MB K a):=by
 refine T.D_gdiv.u.ok Zkb (by walk_at "ln") (λAs A outer s H vs Q E hr h=>?_);obtain⟨x,y,rfl,hx,hy,q⟩:=h;refine⟨_,(Zab (Zhk YAo (Zaw Zib (pv 1) Zak (Zaz _))
  (Zab (Zam (i:=2) Zkb.nd (Zar ZaX (pv 0) (pv 1)))
  (Zab (Zam (i:=0) Zkb.nd (pv 1))
  (Zaf (Zam (i:=1) Zkb.nd (pv 2))))))
  (Zaf (Zao (pv 0)))),?_⟩
 walk_at "rd";refine Zlg (λU=>∃(u v:Int) (r:Option V),U=[some (.int u),some (.int v),r]/\0<=u/\0<=v/\Int.gcd u v=Int.gcd x y) (λU=>match U with | [_,some (.int s),_]=>s.toNat | _=>0) ⟨x,y,none,rfl,hx,hy,rfl⟩ ?_;rintro U ⟨u,v,r,rfl,hu,hv,hg⟩;refine⟨decide (v>0),λQ1 h1=>?_,?_⟩
 .walk_at "rd";exact h1
 .walk_at "rd";by_cases h:v>0
  .rw[decide_eq_true h];have m0:=YBX u (show v≠0 by lia);have m1:=YBP u h;exact iteT ⟨h,⟨trivial,_,_,_,rfl,by lia,m0,(ZhE hu h).trans hg⟩,by lia⟩
  .rw[decide_eq_false h];have e:v=0:=by lia
   subst e;refine iteF ?_;rw[<-hg,Int.gcd_zero_right]at q;have:((u.natAbs:Nat):Int)=u:=by lia
   rw[this]at q;exact q
theorem ZqD:FnOk P w K mg base CX0 1 a.f_L1 a.d_L1 ["one","other"] (sp_L1 K a):=by refine T.D_below.u.ok ZpI (by walk_at "ln") (λAs A outer s H vs Q E hr h=>?_);obtain⟨p,r,x,y,rfl,hp,hr_,hx,hy,q⟩:=h;refine⟨_,(Zaf (Zao (ZaW Zh9 (Zar ZbC (ZaY (ZaF (K:=K) rfl) (pv 0) Zak (λ_ _=>rfl)) (ZaY (ZaF (K:=K) rfl) (pv 1) Zak (λ_ _=>rfl))) (Zar ZbC (ZaY (ZaF (K:=K) rfl) (pv 1) Zak (λ_ _=>rfl)) (ZaY (ZaF (K:=K) rfl) (pv 0) Zak (λ_ _=>rfl))) (Zaz _)))),?_⟩;walk_at "rd";obtain⟨a1,a2,a3⟩:=ZjA hx;obtain⟨b1,b2,b3⟩:=ZjA hy;rw[<-ZkP x y]at q;exact⟨p,_,_,_,rfl,rfl,.mk hp,rfl,r,_,_,_,rfl,rfl,.mk hr_,rfl,_,_,rfl,rfl,⟨340,by decide,a1,b2⟩,r,_,_,_,rfl,rfl,.mk hr_,rfl,p,_,_,_,rfl,rfl,.mk hp,rfl,_,_,rfl,rfl,⟨340,by decide,b1,a2⟩,_,_,rfl,rfl,q⟩
theorem ZqL:FnOk P w K mg base CX0 1 a.bc a.b0 ["self"] (sp_KL K a):=by refine T.M_Shelf_kinds.u.ok ZpV (by walk_at "ln") (λAs A outer s H vs Q E hr h=>?_);obtain⟨p,dA,m,F,rfl,hp,q⟩:=h;refine⟨_,(Zaf (Zao (Zay (K:=K) rfl (pv 0) rfl))),?_⟩;obtain⟨dx,f⟩:=hp.fld;walk_at "rd";exact⟨p,_,dx,_,_,rfl,f,T.aj,T.ao,shK,q⟩
theorem Zkp:FnOk P w K mg base CX0 1 a.aQ a.cz ["self"] (sp_KQ K a):=by
 refine T.M_Band_kinds.u.ok ZpQ (by walk_at "ln") (λAs A outer s H vs Q E hr h=>?_);obtain⟨p,l,m,rfl,hp,q⟩:=h;refine⟨_,(Zaf (Zao (Zay (K:=K) rfl (pv 0) rfl))),?_⟩;walk_at "rd";rcases hp with⟨dx,f⟩|⟨la,da,ds,⟨dx,f⟩,_⟩
 .exact⟨p,_,dx,_,_,rfl,f,T.az,T.ak,ZeB,q⟩
 .exact⟨p,_,dx,_,_,rfl,f,T.ac,T.ah,Zch,q⟩
theorem Zoj:FnOk P w K mg base CX0 1 a.bH a.cJ ["self"] (sp_KE K a):=by refine T.M_Strip_lacking.u.ok ZpW (by walk_at "ln") (λAs A outer s H vs Q E hr h=>?_);obtain⟨p,la,da,l,m,ds,rfl,hp,q⟩:=h;refine⟨_,(Zaf (Zao (Za0 (Zbx (K:=K) rfl) rfl T.z_list Zct (Zaa (Zay (K:=K) rfl (pv 0) rfl) Zac)))),?_⟩;obtain⟨dx,f⟩:=hp.fld;walk_at "rd";exact⟨p,_,dx,_,_,rfl,f,T.ac,T.af,Zdv,la,_,rfl,.inl (.mk hp.lack),q⟩
theorem ZqE:FnOk P w K mg base CX0 1 a.f_L0 a.d_L0 ["shorter","standing","kinds"] (sp_L0 K a):=by
 refine T.D_among.u.ok ZiJ (by walk_at "ln") (λAs A outer s H vs Q E hr h=>?_);obtain⟨b1,b2,sh,st,m,rfl,hb1,hb2,hsh,hm,hw,q⟩:=h;refine⟨_,(Zab (Zam (i:=3) ZiJ.nd (ZbX Zac))
  (Zab (Za8 YAo rfl (ZaU (K:=K) rfl (pv 0)) (Zax (i:=4) ZiJ.nd rfl (Or.inl rfl))
  (Zaf (Za8 YAo rfl (ZdN (pv 2)) (Zax (i:=5) ZiJ.nd rfl (Or.inl rfl))
  (Zab (Zam (i:=6) ZiJ.nd (Zar Za1 (pv 4) (pv 5)))
  (Zaf (Za7 (PW.pt (Zdl (Zaw (Zdc (K:=K) rfl) (ZaN Zcg (pv 6) (ZaS Zak) Zbf) (pv 0) rfl) (Zck (Zaw (Zbw (K:=K) rfl) (pv 6) (pv 1) rfl)))) (Zaf (ZaH (ZeY YBO YCB YCA ZbE (pv 3) (Zaa (pv 6) Zac)))) ZaA))))))
  (Zaf (Zao (pv 3))))),?_⟩
 walk_at "rd";refine⟨YAt _,NewL.of λpf H1 s1 nf lf=>⟨b1,rfl,⟨_,.mk (s1 _ _ hb1)⟩,ForRun.list (xs:=sh.map tx) (λi U H'=>∃v4 v5 v6,U=[some (.ref b1),some (.ref b2),some (tx m),some (.ref pf),v4,v5,v6]/\Same H H'/\H' pf=some (.lst (((sh.take i).flatMap (Ze4 sh st m)).map tx))) ⟨_,_,_,rfl,s1,lf⟩ (λi U H' _ ⟨_,_,_,_,s',_⟩=>.mk (s' _ _ hb1)) ?_ ?_⟩⟩
 .rintro i x U H2 hx ⟨v4,v5,v6,rfl,s2,l2⟩;obtain⟨h,hh,rfl⟩:∃h,sh[i]?=some h/\x=tx h:=by
   rw[YAQ]at hx;cases e:sh[i]? with
   | none=>rw[e]at hx;cases hx
   | some h=>rw[e]at hx;exact⟨h,rfl,(Option.some.inj hx).symm⟩
  have hw1:=hw h (YAh hh);have fl:=ZbI (f:=Ze4 sh st m) (b:=4) (λx=>YAK (ZfO _ _ _ _) hm) (sh.take i);have tl:(sh.take i).length<=100:=by rw[YAW];lia
  walk_at "rd";refine⟨m,rfl,ForRun.text (λj U H'=>∃v5 v6,U=[some (.ref b1),some (.ref b2),some (tx m),some (.ref pf),some (tx h),v5,v6]/\Same H H'/\H' pf=some (.lst (((sh.take i).flatMap (Ze4 sh st m)++((m.take j).filter (ZcX sh st h)).map (λc=>h++[c])).map tx))) ⟨_,_,rfl,s2,by simpa using l2⟩ ?_ ?_⟩
  .rintro j c U H3 hc ⟨v5,v6,rfl,s3,l3⟩;have fj:=YAm (ZcX sh st h) (m.take j);rw[YAW]at fj;have fe:(m.take (j+1)).filter (ZcX sh st h)=(m.take j).filter (ZcX sh st h)++if ZcX sh st h c=true then [c] else []:=by
    rw[Zce hc,YBp];congr 1;by_cases z:ZcX sh st h c=true
    .rw[YAM z,List.filter_cons_of_pos z];rfl
    .rw[YAJ z,List.filter_cons_of_neg z];rfl
   rw[fe];walk_at "rd";refine⟨by rw[sizeLine_eq];lia,_,rfl,_,rfl,by rw[YAG,YBF,sizeLine_eq];lia,?_⟩;rw[Zfj];refine⟨b1,_,rfl,.inl (.mk (s3 _ _ hb1)),rfl,ZbH _,_,rfl,?_⟩;rw[YAJ YAC,ZfV];by_cases t1:(h++[c]).tail∈sh
   .rw[decide_eq_true t1];refine iteT ⟨b2,_,rfl,.inl (.mk (s3 _ _ hb2)),rfl,ZbH _,_,rfl,?_⟩;rw[YAM rfl,ZfV];by_cases t2:h++[c]∈st
    .have e:¬ZcX sh st h c=true:=by unfold ZcX;rw[decide_eq_true t2];simp
     rw[decide_eq_true t2,YCb,YAJ e,YCp];exact iteF ⟨_,_,rfl,s3,l3⟩
    .have e:ZcX sh st h c=true:=by unfold ZcX;rw[decide_eq_true t1,decide_eq_false t2];rfl
     rw[decide_eq_false t2,Bool.not_false,YAM e];refine iteT ⟨.inl ⟨rfl,_,.mk l3⟩,pf,_,_,rfl,rfl,l3,by rw[YAB,YAG,YAB,sizeLine_eq];lia,_,_,rfl,same_upd3 s3 nf,?_⟩;rw[Zae];simp
   .have e:¬ZcX sh st h c=true:=by unfold ZcX;rw[decide_eq_false t1];simp
    rw[decide_eq_false t1,YAJ e,YCp];exact iteF (iteF ⟨_,_,rfl,s3,l3⟩)
  .rintro U H3 ⟨v5,v6,rfl,s3,l3⟩;refine⟨_,_,_,rfl,s3,?_⟩;rw[l3,Zce hh,List.flatMap_append,List.flatMap_singleton,YBL];rfl
 .rintro U H2 ⟨v4,v5,v6,rfl,s2,l2⟩;walk_at "rd";rw[YAB,YBL]at l2;exact q pf H2 s2 nf l2
theorem ZqM:FnOk P w K mg base CX0 1 a.bD a.cB ["self","length"] (sp_KB K a):=by refine T.M_Band_laid_out.u.ok ZpX (by walk_at "ln") (λAs A outer s H vs Q E hr h=>?_);obtain⟨p,l,m,n,rfl,hp,q⟩:=h;refine⟨_,(Zaf (Zao (Zay (K:=K) rfl (pv 0) rfl))),?_⟩;obtain⟨dx,hp⟩:=hp;walk_at "rd";exact⟨p,_,dx,_,_,rfl,hp,T.az,T.ai,Zd3,q⟩
theorem ZqI:FnOk P w K mg base CX0 1 a.bF a.cF ["self"] (sp_KR K a):=by refine T.M_Band_reach.u.ok ZpP (by walk_at "ln") (λAs A outer s H vs Q E hr h=>?_);obtain⟨p,l,m,rfl,hp,ok,q⟩:=h;refine⟨_,(Zaf (Zao (Zar Zbo (Zap (Zau (K:=K) rfl) rfl T.z_len ZaT (Zaa (Zay (K:=K) rfl (pv 0) rfl) Zac)) Zak))),?_⟩;obtain⟨dx,hp⟩:=hp;have l40:=ok.l40;walk_at "rd";exact⟨p,_,dx,_,_,rfl,hp,T.az,T.ai,Zd3,_,_,rfl,Zbn (by lia),q⟩
theorem ZqC:FnOk P w K mg base CX0 1 a.f_L3 a.d_L3 ["text","word"] (sp_L3 K a):=by
 refine T.D_lacks.u.ok ZpH (by walk_at "ln") (λAs A outer s H vs Q E hr h=>?_);obtain⟨l,x,rfl,hl,hx,q⟩:=h;refine⟨_,(Zaf (Zao (ZbA (ZaW ZdR (pv 1) (pv 0) rfl) (ZbA (ZaW Zhp (ZaN Zcg (pv 1) (ZaS Zak) Zbf) (pv 0) rfl) (Zb7 (ZaW Zhp (ZaN Zcg (pv 1) Zbf (ZaS (Zh8 Zek Zak))) (pv 0) rfl)))))),?_⟩;walk_at "rd";have sx:x.length<=sizeLine:=YAK hx (by rw[sizeLine_eq];decide);unfold Zjg at q;refine⟨x,l,rfl,rfl,ite2 (λh1=>⟨_,rfl,x,rfl,sx,_,l,rfl,rfl,ite2 (λh2=>⟨_,rfl,x,rfl,sx,_,l,rfl,rfl,?_⟩) (λh2=>?_)⟩) (λh1=>?_)⟩
 .rw[Zfj]at h2;rw[ZgY];rw[h1,h2,YCa,YCa]at q;exact q
 .rw[Zfj]at h2;rw[h1,YBc.mpr h2,YBi,YBn]at q;exact q
 .rw[YBc.mpr h1,YBi]at q;exact q
theorem Zko:FnOk P w K mg base CX0 1 a.f_L5 a.d_L5 ["_law_script","_law_k"] (sp_L5 K a):=by
 refine T.D_lcell.u.ok ZpF (by walk_at "ln") (λAs A outer s H vs Q E hr h=>?_);obtain⟨b,ns,k,rfl,hS,hk,hk1,q⟩:=h;refine⟨_,(Zab (Za7 (Zaw Zh9 (pv 1) (Zap (Zau (K:=K) rfl) rfl T.z_len ZaT (Zaa (pv 0) Zac)) (Zaz _)) (Zaf (Zao (ZaY (ZcZ (K:=K) rfl) (pv 0) (pv 1) (λ_ _=>rfl)))) ZaA)
  (Zaf (Zao Zak))),?_⟩
 walk_at "rd";refine⟨_,_,rfl,.inl ⟨_,hS,rfl⟩,?_⟩;rw[YAB];refine ite2 (λh=>?_) (λh=>?_)
 .have h':k<ns.length:=of_decide_eq_true h;exact⟨b,_,k,_,rfl,rfl,hS,Zm3 hk h',q _⟩
 .exact q _
theorem Zoa:FnOk P w K mg base CX0 1 a.f_L9 a.d_L9 ["_law_thing"] (sp_L9 K a):=by refine T.D_whole.u.ok ZpD (by walk_at "ln") (λAs A outer s H vs Q E hr h=>?_);obtain⟨i,rfl,q⟩:=h;refine⟨_,(Zaf (Zao (ZbA (Zap (Za2 (K:=K) rfl) rfl T.z_isinstance ZaV (Zaa (pv 0) (Zaa (Zda (v:=.ty "int") rfl T.z_int ZlL rfl) Zac))) (Zb7 (ZnW (Zap (Za2 (K:=K) rfl) rfl T.z_isinstance ZaV (Zaa (pv 0) (Zaa (Zda (v:=.ty "bool") rfl T.z_bool Zm0 rfl) Zac)))))))),?_⟩;walk_at "rd";exact⟨_,_,_,_,true,rfl,rfl,.ty (.pl (.int _)),ZfQ,iteT ⟨_,_,_,_,false,rfl,rfl,.ty (.pl (.int _)),ZoC,q⟩⟩
theorem Zqy:FnOk P w K mg base CX0 1 a.f_L8 a.d_L8 ["_law_cell_here","_law_k"] (sp_L8 K a):=by
 refine T.D_mixed.u.ok Zl7 (by walk_at "ln") (λAs A outer s H vs Q E hr h=>?_);obtain⟨c,k,rfl,q⟩:=h;refine⟨_,(Zab (Zam (i:=2) Zl7.nd (Zar ZaX (Zar Zbo (Zar Zbo (Zar Zes (pv 0) Zak) (Zar Zes (pv 1) Zak)) Zak) Zak))
  (Zab (Zam (i:=2) Zl7.nd (Zar ZaX (Zar Zbo (Zar Zbo (Zar Zes (Zar ZaX (Zar Zes (pv 2) (pv 2)) Zak) Zak) (Zar Zes (pv 1) Zak)) Zak) Zak))
  (Zaf (Zao (Zar ZaX (Zar Zes (pv 2) (pv 2)) Zak))))),?_⟩
 walk_at "rd";exact⟨.inr ⟨by decide,by decide⟩,.inr ⟨by decide,by decide⟩,by decide,cm (by decide) (by decide),by decide,.inr ⟨by decide,by decide⟩,.inr ⟨by decide,by decide⟩,by decide,cm (by decide) (by decide),by decide,q _ (YBX _ (by decide))⟩
theorem Zqq:FnOk P w K mg base CX0 1 a.f_LS a.d_LS ["_law_cell_here"] (sp_LS K a):=by
 refine T.D_lkinds.u.ok Zfv (by walk_at "ln") (λAs A outer s H vs Q E hr h=>?_);obtain⟨c,rfl,q⟩:=h;refine⟨_,(Zab (Zam (i:=1) Zfv.nd (ZaD (l:=[]) (by decide +kernel)))
  (Zab (Zam (i:=2) Zfv.nd (Zar ZaX (Zar Zbg (pv 0) Zak) Zak))
  (Zab (Zam (i:=3) Zfv.nd (Zar Zbg (pv 0) Zak))
  (Zab (Za8 YAo rfl (ZbV rfl T.z_range (Zaa (Zar Zbo Zak (Zar ZaX (pv 0) Zak)) Zac)) (Zax (i:=4) Zfv.nd rfl (Or.inl rfl))
  (Zab (Zam (i:=1) Zfv.nd (Zar Za1 (pv 1) (ZaY ZgL (ZaD (l:=[97,98,99,100,101,102,103,104,105,106,107,108,109,110,111,112,113,114,115,116,117,118,119,120,121,122]) (by decide +kernel)) (pv 2) (λ_ _=>rfl))))
  (Zab (Zam (i:=2) Zfv.nd (Zar Zbo (Zar Zbo (pv 2) Zak) (Zar ZaX (pv 3) Zak)))
  (Zaf (Zam (i:=3) Zfv.nd (Zar Zbg (pv 3) Zak))))))
  (Zaf (Zao (pv 1))))))),?_⟩
 walk_at "rd";have b1:=YBX c (show (4:Int)≠0 by decide);have b2:=YBP c (show (0:Int)<4 by decide);generalize c % 4=c4 at b1 b2;refine⟨⟨by decide,by decide⟩,by decide,⟨by decide,by decide⟩,by decide,_,rfl,by lia,by lia,ForRun.range (λi U H'=>H'=H/\∃(l:Q11) (at_ le:Int) (v4:Option V),U=[some (.int c),some (tx l),some (.int at_),some (.int le),v4]/\l.length=i/\0<=at_/\at_<=7+5*i/\(∀x∈l,97<=x/\(x:Int)<97+at_)/\(∀x∈l,x<=122)/\l.Pairwise (· < ·)) ⟨rfl,[],_,_,none,rfl,rfl,by lia,by lia,by simp,by simp,List.Pairwise.nil⟩ ?_ ?_⟩
 .rintro i U H1 hi ⟨rfl,l,at_,le,v4,rfl,hl,h0,h7,hx,hy,hp⟩;have hi4:i<4:=by lia
  have hk:at_.toNat<26:=by lia
  walk_at "rd";refine⟨LET,_,97+at_.toNat,rfl,rfl,by rw[sizeLine_eq];decide,?_,by rw[sizeLine_eq];lia,by decide,⟨by decide,by decide⟩,by trivial,l++[97+at_.toNat],_,_,_,rfl,by simp[hl],by lia,by lia,?_,?_,?_⟩
  .unfold atI ixN;rw[YAM h0,YAM (show at_<((LET.length:Nat):Int) by show at_<26;lia),YDA,Zls _ hk]
  .intro x hm;rcases YAR.mp hm with hm | hm
   .have:=hx x hm;lia
   .rw[YAI.mp hm];lia
  .intro x hm;rcases YAR.mp hm with hm | hm
   .exact hy x hm
   .rw[YAI.mp hm];lia
  .rw[YAq];refine⟨hp,List.pairwise_singleton _ _,λx hm y hy=>?_⟩;rw[YAI.mp hy];have:=hx x hm;lia
 .rintro U H1 ⟨rfl,l,at_,le,v4,rfl,hl,h0,h7,hx,hy,hp⟩;walk_at "rd";exact q l (ZoM (by lia) (by lia) (λx hm=>Zmy (hx x hm).1 (hy x hm)) hp) (by lia) (by lia)
theorem Zn5:FnOk P w K mg base CX0 1 a.f_LO a.d_LO ["_law_text","_law_kinds_here"] (sp_LO K a):=by
 refine T.D_missing.u.okC T.cd_LO Zfw (by walk_at "ln") (λA outer s H vs Q E hr h=>?_);have Aw:=hr.units;have hu1:=ZaC hr;obtain⟨l,m,rfl,ok,tk,q⟩:=h;refine⟨_,(Zab (Zam (i:=2) Zfw.nd (Zmh (Zkj (ZaD (l:=[]) (by decide +kernel)) ZcR Zmd) rfl rfl (by simp) (by decide)))
  (Zad (Zab (Za8 YAo rfl (ZbV rfl T.z_range (Zaa (Zap (Zau (K:=K) rfl) rfl T.z_len ZaT (Zaa (pv 0) Zac)) Zac)) (Zax (i:=3) Zfw.nd rfl (Or.inl rfl))
  (Zaf (Za8 YAo rfl (ZdO rfl T.z_range (Zaa (Zar Zbo (pv 3) Zak) (Zaa (Zar Zbo (Zap (Zau (K:=K) rfl) rfl T.z_len ZaT (Zaa (pv 0) Zac)) Zak) Zac))) (Zax (i:=4) Zfw.nd rfl (Or.inl rfl))
  (Zaf (Zc9 hu1 (pv 2) (ZaN Zcg (pv 0) (ZaS (pv 3)) (ZaS (pv 4))) ZcR rfl)))))
  (Zab (Zam (i:=5) Zfw.nd (ZbX Zac))
  (Zad (Zab (ZeU (Za8 YAo rfl (ZeW (pv 2)) (Zax (i:=6) Zfw.nd rfl (Or.inl rfl))
  (Zaf (Za8 YAo rfl (ZdN (pv 1)) (Zax (i:=7) Zfw.nd rfl (Or.inl rfl))
  (Zab (Zam (i:=8) Zfw.nd (Zar Za1 (pv 7) (pv 6)))
  (Zaf (Za7 (PW.pt (Zdl (Zfz (ZfD hu1 (pv 8) (pv 2))) (Zck (PW.pt (Zfy (Zaw (ZaO (K:=K) rfl Aw) (pv 6) (ZaD (l:=[]) (by decide +kernel)) (Zaz _)) (Zdk (Zfz (ZiU hu1 (ZaN Zcg (pv 8) Zbf (ZaS (Zh8 Zek Zak))) (pv 2))))))))) (Zaf (ZaH (ZeY YBO YCB YCA ZbE (pv 5) (Zaa (pv 8) Zac)))) ZaA)))))))
  (Zaf (Zao (Zhl (q:="_law_missing.<locals>.<lambda>") hr T.L_missing rfl rfl T.z_sorted T.z_len (Zaa (pv 5) Zac) rfl rfl (by kernel_rfl) ⟨rfl,rfl,rfl,rfl,rfl,rfl⟩ (λ_ _ _ _ _=>.of_eq rfl)))))))))),?_⟩
 have sz:∀k:Nat,k<=100000->k<=sizeLine:=λk h=>YAK h (by rw[sizeLine_eq];decide);have l40:=ok.l40;have m4:=ok.m4;walk_at "rd";intro p hp;refine⟨Zae,[(kTx [],.bl true)],rfl,by show (1:Nat)<=15;decide,Zag ?_⟩;have s1:Same H (upd (upd H p (.dK [])) p (.dK (ZbN [] [(kTx [],.bl true)]))):=ZiL hp;have h1:upd (upd H p (.dK [])) p (.dK (ZbN [] [(kTx [],.bl true)])) p=some (.dK (ZbN [] [(kTx [],.bl true)])):=Zae;have k1:SoundD l (ZbN [] [(kTx [],.bl true)]):=by show SoundD l (putK [] (kTx []) (.bl true));exact SoundD.put ⟨λ_ h=>(by cases h),List.nodup_nil⟩ (Inf.nil l)
 have l1:(ZbN [] [(kTx [],.bl true)]).length<=1:=Zb6 _ _;have z1:(valV (ZbN [] [(kTx [],.bl true)]) (kTx [])).isSome=true:=by show (valV (putK [] (kTx []) (.bl true)) (kTx [])).isSome=true;exact ZcP (.inr rfl)
 generalize ZbN [] [(kTx [],.bl true)]=kv0 at s1 h1 k1 l1 z1;generalize upd (upd H p (.dK [])) p (.dK kv0)=H1 at s1 h1;walk_at "rd";refine⟨_,_,rfl,Zbn (by lia),_,rfl,by lia,by lia,?_⟩;rw[YCJ];refine ForRun.range (λi U H'=>∃v2 v3 kvs,U=[some (tx l),some (tx m),some (.ref p),v2,v3,none,none,none,none]/\Same H H'/\H' p=some (.dK kvs)/\SoundD l kvs/\kvs.length<=1+40*i/\(valV kvs (kTx [])).isSome=true/\∀s e,s<i->s<=e->e<=l.length->(valV kvs (kTx ((l.drop s).take (e-s)))).isSome=true) ⟨_,_,_,rfl,s1,h1,k1,by lia,z1,λs e h=>by lia⟩ ?_ ?_
 .rintro i U H2 hi ⟨v2,v3,kvs,rfl,s2,h2,k2,n2,z2,c2⟩;walk_at "rd";refine⟨_,_,rfl,Zbn (by lia),_,_,rfl,⟨by lia,by lia,by lia,by lia⟩,?_⟩;refine ForRun.range (λj U H'=>∃v3 kvs,U=[some (tx l),some (tx m),some (.ref p),some (.int (0+(i:Int))),v3,none,none,none,none]/\Same H H'/\H' p=some (.dK kvs)/\SoundD l kvs/\kvs.length<=1+40*i+j/\(valV kvs (kTx [])).isSome=true/\(∀s e,s<i->s<=e->e<=l.length->(valV kvs (kTx ((l.drop s).take (e-s)))).isSome=true)/\∀e,i<e->e<=i+j->(valV kvs (kTx ((l.drop i).take (e-i)))).isSome=true) ⟨_,_,rfl,s2,h2,k2,by lia,z2,c2,λe a b=>by lia⟩ ?_ ?_
  .rintro j U H3 hj ⟨v3,kvs,rfl,s3,h3,k3,n3,z3,c3,e3⟩;have q1:(0+(i:Int))=((i:Nat):Int):=by lia
   have q2:(0+(i:Int)+1+(j:Int))=((i+1+j:Nat):Int):=by lia
   walk_at "rd";refine⟨_,rfl,_,rfl,l,rfl,sz _ (by lia),?_⟩;rw[q2,q1,ZjP];refine⟨p,_,rfl,DPut.k (k:=kTx ((l.drop i).take (i+1+j-i))) h3 (YAs (show _<3000 by lia) (sz 3000 (by decide))),_,_,rfl,same_upd3 s3 hp,Zae,k3.put (ZmH (by lia) (by lia)),?_,ZcP (.inl z3),λs e a b d=>ZcP (.inl (c3 s e a b d)),λe a b=>?_⟩
   .have:=ZbF kvs (kTx ((l.drop i).take (i+1+j-i))) (.bl true);lia
   .by_cases ee:e=i+1+j
    .rw[ee];exact ZcP (.inr rfl)
    .exact ZcP (.inl (e3 e a (by lia)))
  .rintro U H3 ⟨v3,kvs,rfl,s3,h3,k3,n3,z3,c3,e3⟩;refine⟨_,_,_,rfl,s3,h3,k3,by lia,z3,λs e a b d=>?_⟩;by_cases hs:s<i
   .exact c3 s e hs b d
   .have hsi:s=i:=by lia
    subst hsi;by_cases he:e=s
    .rw[he];simpa using z3
    .exact e3 e (by lia) (by lia)
 .rintro U H2 ⟨v2,v3,kvs,rfl,s2,h2,k2,n2,z2,c2⟩;have kn:ZlN l kvs:=⟨ZkF k2.1 z2 c2,k2.2,by lia⟩;walk_at "rd";refine⟨YAt _,NewL.of λpf H3 s3 n3 l3=>Zag ?_⟩;have ne:p≠pf:=Zai h2 n3;have nfH:H pf=none:=s2.free n3;obtain⟨ss,hs⟩:∃ss:Q22,ss.map kTx=kvs.map (·.1):=Zhz λkv hk=>let ⟨x,e,_⟩:=kn.1.1 kv hk;⟨x,e⟩;have sl:ss.length=kvs.length:=by have:=congrArg List.length hs;simpa using this
  have al4:∀u,(ZbL kvs m u).length<=4:=λu=>by unfold ZbL;rw[YAB];exact YAK (YAm _ _) m4
  walk_at "rd";refine⟨p,kvs,s3 _ _ h2,p,kvs,rfl,s3 _ _ h2,λo=>ForRun.dict (λi U H'=>∃(v5 v6 v7:Option V),U=[some (tx l),some (tx m),some (.ref p),v2,v3,some (.ref pf),v5,v6,v7]/\Same H H'/\H' p=some (.frz o (.dK kvs))/\H' pf=some (.lst (((ss.take i).flatMap (ZbL kvs m)).map tx))) ⟨_,_,_,rfl,same_upd3 (s2.trans s3) hp,Zae,by rw[Zah (YAk ne)];exact l3⟩ (λi U H' ⟨_,_,_,_,_,h,_⟩=>h) ?_ ?_⟩
  .rintro i kv U H4 hkv ⟨v5,v6,v7,rfl,s4,h4,f4⟩;have hi:i<kvs.length:=(YAU.mp hkv).1;obtain⟨x,hx⟩:∃x,ss[i]?=some x:=⟨_,YAL (by lia)⟩;have ex:kv.1=kTx x:=by have:=congrArg (λl=>l[i]?) hs;simp only[YAQ,hx,hkv,YDF]at this;exact(Option.some.inj this).symm
   have xi:Inf x l:=by obtain⟨y,ey,hy⟩:=kn.1.1 kv (YAh hkv);rw[ZbG (ex.symm.trans ey)];exact hy
   have xl0:=xi.len;have fl:((ss.take i).flatMap (ZbL kvs m)).length<=12000:=by have:=ZbI (f:=ZbL kvs m) (b:=4) al4 (ss.take i);rw[YAW]at this;lia
   rw[ex,ZkI];walk_at "rd";refine⟨m,rfl,ForRun.text (λj U H'=>∃(v6 v7:Option V),U=[some (tx l),some (tx m),some (.ref p),v2,v3,some (.ref pf),some (tx x),v6,v7]/\Same H H'/\H' p=some (.frz o (.dK kvs))/\H' pf=some (.lst (((ss.take i).flatMap (ZbL kvs m)++((m.take j).filter (Zbu kvs x)).map λc=>c::x).map tx))) ⟨_,_,rfl,s4,h4,by rw[List.take_zero];simpa using f4⟩ ?_ ?_⟩
   .rintro j c U H5 hc ⟨v6,v7,rfl,s5,h5,f5⟩;have hj:j<m.length:=(YAU.mp hc).1;have xl:(c::x).length<=41:=by rw[YAf];lia
    have fl2:((m.take j).filter (Zbu kvs x)).length<=4:=YAK (YAm _ _) (by rw[YAW];lia);have tk:m.take (j+1)=m.take j++[c]:=by rw[YBl,hc];rfl
    walk_at "rd";have no:Zbu kvs x c=false->((m.take (j+1)).filter (Zbu kvs x))=(m.take j).filter (Zbu kvs x):=λh=>by rw[tk,YBp,List.filter_cons,h];simp
    have c1:cut (c::x) none (some (-1))=(c::x).dropLast:=ZgY _;have fin:Zbu kvs x c=true->tyV K "list" (V.ref pf) H5/\rAppend (V.ref pf) [tx (c::x)] H5 λx_1 H1=>∃v6 v7,[some (tx l),some (tx m),some (V.ref p),v2,v3,some (V.ref pf),some (tx x),some (tx [c]),some (tx (c::x))]=[some (tx l),some (tx m),some (V.ref p),v2,v3,some (V.ref pf),some (tx x),v6,v7]/\Same H H1/\H1 p=some (HO.frz o (HO.dK kvs))/\H1 pf=some (HO.lst (List.map tx (List.flatMap (ZbL kvs m) (List.take i ss)++List.map (λc=>c::x) (List.filter (Zbu kvs x) (List.take (j+1) m))))):=λyes=>by refine⟨.inl ⟨rfl,_,.mk f5⟩,pf,_,_,rfl,rfl,f5,by rw[YAB,YAG,YAB];exact YAs (show _<100000 by lia) (sz 100000 (YAP _)),_,_,rfl,same_upd3 s5 nfH,by rw[Zah ne];exact h5,?_⟩;rw[Zae,tk,YBp,List.filter_cons,yes];simp
    have stay:Zbu kvs x c=false->∃v6 v7,[some (tx l),some (tx m),some (V.ref p),v2,v3,some (V.ref pf),some (tx x),some (tx [c]),some (tx (c::x))]=[some (tx l),some (tx m),some (V.ref p),v2,v3,some (V.ref pf),some (tx x),v6,v7]/\Same H H5/\H5 p=some (HO.frz o (HO.dK kvs))/\H5 pf=some (HO.lst (List.map tx (List.flatMap (ZbL kvs m) (List.take i ss)++List.map (λc=>c::x) (List.filter (Zbu kvs x) (List.take (j+1) m))))):=λn0=>⟨_,_,rfl,s5,h5,by rw[no n0];exact f5⟩;refine⟨sz _ (by simp only[YAf,YDH]at xl ⊢;lia),?_⟩;walk_at "rd?";refine⟨p,_,rfl,.inl ⟨kvs,kTx (c::x),.inr ⟨o,h5⟩,rfl,rfl⟩,ite2 (λh=>?_) (λh=>?_)⟩
    .refine .inl ⟨rfl,?_⟩;rw[YAJ YAC,Zcr];refine⟨_,rfl,ite2 (λh2=>iteT' (fin ?_)) (λh2=>?_)⟩
     .have ex0:=of_decide_eq_true h2;unfold Zbu;rw[h,ex0];exact z2
     .refine⟨_,rfl,c::x,rfl,sz _ (by lia),?_⟩;rw[c1];refine⟨p,_,rfl,.inl ⟨kvs,kTx (c::x).dropLast,.inr ⟨o,h5⟩,rfl,rfl⟩,ite2 (λh3=>fin ?_) (λh3=>stay ?_)⟩
      .unfold Zbu;rw[h,h3];rfl
      .unfold Zbu;rw[YBc.mpr h3,YBn]
    .exact iteF (stay (by unfold Zbu;rw[YBc.mpr h,YBi]))
   .rintro U H5 ⟨v6,v7,rfl,s5,h5,f5⟩;refine⟨_,_,_,rfl,s5,h5,?_⟩;rw[f5,YBL,Zj4 hx,List.flatMap_append];simp[ZbL]
  .rintro U H4 ⟨v5,v6,v7,rfl,s4,h4,f4⟩;refine⟨o,kvs,h4,?_⟩;walk_at "rd";rw[<-sl,YBL]at f4;obtain⟨nd,me⟩:=Zk9 ok kn hs;have s5:Same H (upd H4 p (.dK kvs)):=same_upd3 s4 hp;refine⟨pf,_,rfl,by rw[Zah (YAk ne)];exact f4,λw hw=>sz _ (by have:=(lsOk ok).w w ((me w).mp hw);lia),tk.2.same s5,λws' r H6 pm pw s6 t6 n6 e6=>?_⟩;have ew:ws'=Zaq l m:=Zby (ZbK pm pw nd) (ZaP (Zc0 ok.k)) λw=>by rw[pm.mem_iff];exact me w
   rw[ew]at e6;exact q r H6 (s5.l.trans s6.1) ⟨s6.2 _ _ _ (by decide) (tk.1.same s5),t6⟩ (Nw.of (s5.free n6)) e6
theorem Zol:FnOk P w K mg base CX0 1 a.bC a.cu ["self","text","kinds"] (sp_K7 K a):=by
 refine T.M_Band_init.u.ok Zp1 (by walk_at "ln") (λAs A outer s H vs Q E hr h=>?_);obtain⟨p,dx,C,l,m,rfl,hC,hp,q⟩:=h;refine⟨_,(Zab (Zcl (pv 0) (pv 1) rfl)
  (Zaf (Zcl (pv 0) (pv 2) rfl))),?_⟩
 walk_at "rd";rcases hC with rfl | rfl
 .exact⟨p,a.c_LX,dx,[],rfl,hp,T.az,T.ai,(by show 0<1000;decide),p,a.c_LX,dx,_,rfl,Zae,T.az,T.ak,(by show 1<1000;decide),q _ Zae (λb o e ne=>by rw[Zah ne,Zah ne];exact e)⟩
 .exact⟨p,a.c_LZ,dx,[],rfl,hp,T.ac,T.aa,(by show 0<1000;decide),p,a.c_LZ,dx,_,rfl,Zae,T.ac,T.ah,(by show 1<1000;decide),q _ Zae (λb o e ne=>by rw[Zah ne,Zah ne];exact e)⟩
theorem Zql:FnOk P w K mg base CX0 1 a.f_MD a.d_MD ["_law_words"] (sp_MD K a):=by
 refine T.D_lsum.u.ok ZeR (by walk_at "ln") (λAs A outer s H vs Q E hr h=>?_);obtain⟨b,ws,rfl,hb,hn,hw,q⟩:=h;refine⟨_,(Zab (Zam (i:=1) ZeR.nd Zak)
  (Zad (Zab (Zam (i:=2) ZeR.nd Zak)
  (Zad (Zab (Za8 YAo rfl (ZaU (K:=K) rfl (pv 0)) (Zax (i:=3) ZeR.nd rfl (Or.inl rfl))
  (Zab (Zam (i:=1) ZeR.nd (Zar Zbo (Zar ZbC (Zar ZbC (pv 1) (Zap (Zau (K:=K) rfl) rfl T.z_len ZaT (Zaa (pv 3) Zac))) (Zap (Zau (K:=K) rfl) rfl T.z_len ZaT (Zaa (pv 3) Zac))) (pv 2)))
  (Zaf (Zam (i:=2) ZeR.nd (Zar ZbC (Zar ZbC (pv 2) (Zap (Zau (K:=K) rfl) rfl T.z_len ZaT (Zaa (pv 3) Zac))) (Zap (Zau (K:=K) rfl) rfl T.z_len ZaT (Zaa (pv 3) Zac)))))))
  (Zad (Zab (Zam (i:=4) ZeR.nd (pv 1))
  (Zad (Zab (Zam (i:=5) ZeR.nd (pv 2))
  (Zad (Zab (Zhk YAo (Zaw Zib (pv 5) Zak (Zaz _))
  (Zaf (ZnS (i:=4) (j:=5) rfl ZeR.nd rfl rfl (by decide) rfl rfl (Zaa (pv 5) (Zaa (Zar ZaX (pv 4) (pv 5)) Zac)) rfl)))
  (Zad (Zaf (Zao (ZbW (Zaa (Zar Zdy (pv 1) (pv 4)) (Zaa (Zar Zdy (pv 2) (pv 4)) Zac))))))))))))))))),?_⟩
 have dp:=Zgn;walk_at "rd";walk_at "g";walk_at "g";refine⟨b,rfl,⟨_,.mk hb⟩,ForRun.list (xs:=ws.map tx) (λi U H'=>∃(tp bt:Int) (v3:Option V),U=[some (.ref b),some (.int tp),some (.int bt),v3,none,none]/\H'=H/\0<=tp/\0<bt/\Bt (11*i+1) bt/\tp*(DD:Nat)=(WS (ws.take i):Nat)*bt) ⟨0,1,_,rfl,rfl,by decide,by decide,⟨by decide,by decide⟩,by rw[List.take_zero,ZlM];simp⟩ (λi U H' _ ⟨_,_,_,_,e,_⟩=>by rw[e];exact .mk hb) ?_ ?_⟩
 .rintro i x U H1 hx ⟨tp,bt,v3,rfl,rfl,h0,h1,hb1,he⟩;obtain⟨w_,hw1,rfl⟩:=ZqX hx;obtain⟨w1,w41⟩:=hw w_ (YAh hw1);have hi:i<ws.length:=(YAU.mp hw1).1;have wb:=Zm7 (ws:=ws.take i) λu hu=>hw u (YAZ hu);have wl:(ws.take i).length<=400:=by rw[YAW];lia
  have wb2:WS (ws.take i)<=400*DD:=YAK wb (YDZ _ wl);have le:tp<=400*bt:=by
   refine Int.le_of_mul_le_mul_right (a:=((DD:Nat):Int)) ?_ (by lia);rw[he];have:(400*bt)*(DD:Nat)=((400*DD:Nat):Int)*bt:=by rw[YCq];ac_rfl
   rw[this];exact YDT (by lia) (by lia)
  have b4:Bt 9 400:=⟨by decide,by decide⟩;have bt1:Bt (9+(11*i+1)) tp:=(b4.mul hb1).le h0 le;have bl:Bt 6 ((w_.length:Nat):Int):=⟨by lia,by show w_.length<2 ^ 6;lia⟩;walk_at "rd";have s1:Bt 11 ((w_.length:Nat)*(w_.length:Nat):Int):=by rw[<-YCq];have:=YDP w41 w41;exact⟨by lia,by show w_.length*w_.length<2 ^ 11;lia⟩
  have wp:(0:Int)<(w_.length:Nat)*(w_.length:Nat):=Int.mul_pos (by lia) (by lia);refine⟨_,_,rfl,Zbn (by lia),⟨9+(11*i+1),by lia,bt1,bl.mono (by lia)⟩,_,_,rfl,Zbn (by lia),⟨9+(11*i+1)+6,by lia,bt1.mul bl,bl.mono (by lia)⟩,_,_,rfl,Zbn (by lia),⟨11*i+6,by lia,hb1.mono (by lia),bl.mono (by lia)⟩,_,_,rfl,Zbn (by lia),⟨11*i+1+6,by lia,hb1.mul bl,bl.mono (by lia)⟩,_,_,_,rfl,trivial,?_,?_,?_,?_⟩
  .rw[YDK];exact Int.add_nonneg (Int.mul_nonneg h0 (Int.le_of_lt wp)) (by lia)
  .rw[YDK];exact Int.mul_pos h1 wp
  .rw[YDK];exact(hb1.mul s1).mono (by lia)
  .have e:=Zir w1 w41;have e2:((DD:Nat):Int)=(w_.length:Nat)*(w_.length:Nat)*(wtN w_.length:Nat):=by rw[<-e,YCq,YCq]
   rw[YBl,hw1];show _=((WS (ws.take i++[w_]):Nat):Int)*_;rw[Zj0,Int.natCast_add,Int.add_mul,Int.add_mul];congr 1
   .have:tp*(w_.length:Nat)*(w_.length:Nat)*(DD:Nat)=(tp*(DD:Nat))*((w_.length:Nat)*(w_.length:Nat)):=by ac_rfl
    rw[this,he];ac_rfl
   .rw[e2];ac_rfl
 .rintro U H1 ⟨tp,bt,v3,rfl,rfl,h0,h1,hb1,he⟩;rw[YAB,YBL]at he;rw[YAB]at hb1;obtain⟨f1,f2⟩:=ZgP h0 h1 (u:=((WS ws:Nat):Int)) (v:=(DD:Nat)) (by lia) (by lia) he;walk_at "k";walk_at "g";walk_at "g";refine Zlg (λU=>∃(u v:Int),U=[some (.ref b),some (.int tp),some (.int bt),v3,some (.int u),some (.int v)]/\0<=u/\0<=v/\Int.gcd u v=Int.gcd tp bt) (λU=>match U with | [_,_,_,_,_,some (.int s)]=>s.toNat | _=>0) ⟨tp,bt,rfl,h0,by lia,rfl⟩ ?_;rintro U ⟨u,v,rfl,hu,hv,hg⟩;refine⟨decide (v>0),λQ1 h1=>?_,?_⟩
  .walk_at "rd";exact h1
  .walk_at "rd";by_cases h:v>0
   .rw[decide_eq_true h];have m0:=YBX u (show v≠0 by lia);have m1:=YBP u h;exact iteT ⟨h,_,_,rfl,⟨trivial,_,_,rfl,by lia,m0,(ZhE hu h).trans hg⟩,by show (u % v).toNat<v.toNat;lia⟩
   .rw[decide_eq_false h];have e:v=0:=by lia
    subst e;rw[Int.gcd_zero_right]at hg;have eu:u=((Int.gcd tp bt:Nat):Int):=by rw[<-hg];lia
    have g0:0<Int.gcd tp bt:=Int.gcd_pos_of_ne_zero_right tp (by lia);have g1:((Int.gcd tp bt:Nat):Int)<=bt:=Int.le_of_dvd h1 (Int.gcd_dvd_right tp bt);have cd:∀z:Int,Zna z u:=λz=>⟨by lia,_,by lia,hb1.le hu (by lia)⟩;refine iteF (Zag ?_);walk_at "rd";refine⟨cd _,cd _,sz 2 (by decide),NewT.of λt H2 s2 n2 l2=>q t H2 s2 ?_⟩;rw[l2,<-f1,<-f2,eu];rfl
theorem Zqr:FnOk P w K mg base CX0 1 a.f_LR a.d_LR ["_law_mine","_law_yours"] (sp_LR K a):=by
 refine T.D_lapart.u.ok ZnA (by walk_at "ln") (λAs A outer s H vs Q E hr h=>?_);obtain⟨b,c,xs,ys,rfl,hb,hc,okx,oky,q⟩:=h;refine⟨_,(Zab (ZeV (i:=2) (N:=["_law_word","_law_yours"]) (ix:=[none,some 1]) rfl ZnA.nd rfl rfl rfl (Zbk rfl) rfl (ZaU (K:=K) rfl (pv 0)) (λ_ _ _ _=>(Zax (i:=0) (show (["_law_word","_law_yours"]:AK).Nodup from by decide +kernel) rfl (Or.inl rfl) (Or.inr rfl))) (λ_ _ _ _=>(Zcv (Zaw (Zbw (K:=K) rfl) (pv 0) (pv 1) rfl))) (λ_ _ _ _=>(pv 0)))
  (Zad (Zaf (Zao (Zar Zhq (pv 2) (Zcm (N:=["_law_word","_law_mine"]) (ix:=[none,some 0]) rfl (Zbk rfl) rfl (ZaU (K:=K) rfl (pv 1)) (λ_ _ _ _=>(Zax (i:=0) (show (["_law_word","_law_mine"]:AK).Nodup from by decide +kernel) rfl (Or.inl rfl) (Or.inr rfl))) (λ_ _ _ _=>(Zcv (Zaw (Zbw (K:=K) rfl) (pv 0) (pv 1) rfl))) (λ_ _ _ _=>(pv 0)))))))),?_⟩
 have nx:=okx.len;have ny:=oky.len;have half:∀ {a1 a2:AE} {us vs:Q22} {H1:Hp} {τ:V} (Q1:VK),us.length<=200->H1 a1=some (.lst (us.map tx))->H1 a2=some (.lst (vs.map tx))->(∀p H',Same H1 H'->H1 p=none->H' p=some (.lst ((us.filter λv=>!decide (v∈vs)).map tx))->Q1 (.ref p) H')->CompRun (Itl K a1) [none,some (V.ref a2)] (ZcL 0) (ZlV (tOp (rIn K true) (tVar 0) (tVar 1))) (tVar 0) H1 Q1:=λ{a1 a2 us vs H1 τ} Q1 hl h1 h2 hq=>by
  refine CompRun.listL (xs:=us.map tx) (λi=>!decide (us.getD i []∈vs)) (λi=>tx (us.getD i [])) (by rw[YAB];lia) (.mk h1) ?_ ?_ ?_
  .intro i H2 Q2 hi s2 q2;rw[YAB]at hi;rw[Zco hi];walk_at "rd";refine⟨a2,_,rfl,.inl (.mk (s2 _ _ h2)),rfl,ZbH _,_,rfl,?_⟩;rw[YAM rfl,ZfV];exact q2 H2 (Same.refl _)
  .intro i H2 Q2 hi _ s2 q2;rw[YAB]at hi;rw[Zco hi];walk_at "rd";exact q2 H2 (Same.refl _)
  .intro p H2 s2 n2 l2;rw[ZmS (λv=>!decide (v∈vs))]at l2;exact hq p H2 s2 n2 l2
 walk_at "rd";refine⟨b,rfl,⟨_,.mk hb⟩,half (τ:=.non) _ nx hb hc λr1 H1 s1 n1 e1=>Zag ?_⟩;walk_at "rd";refine⟨c,rfl,⟨_,.mk (s1 _ _ hc)⟩,half (τ:=.non) _ ny (s1 _ _ hc) (s1 _ _ hb) λr2 H2 s2 n2 e2=>?_⟩;have d:=Zfe (ZbD okx.srt) (ZbD oky.srt);have dl:=ZdE d okx oky;refine⟨r1,r2,_,_,rfl,rfl,s2 _ _ e1,e2,?_,λr3 n3=>?_⟩
 .rw[YAG]at dl;rw[YAB,YAB];exact YAK dl (by rw[sizeLine_eq];decide)
 .exact q r3 _ _ (s1.trans (s2.trans (Zat n3))) (s1.free (s2.free n3)) (by rw[Zae,YAb]) d dl
theorem Zkq:FnOk P w K mg base CX0 1 a.bI a.cK ["self"] (sp_KO K a):=by refine T.M_Strip_deeds.u.ok ZpS (by walk_at "ln") (λAs A outer s H vs Q E hr h=>?_);obtain⟨p,la,da,l,m,ds,rfl,hp,q⟩:=h;refine⟨_,(Zaf (Zao (Za0 (Zbx (K:=K) rfl) rfl T.z_list Zct (Zaa (Zay (K:=K) rfl (pv 0) rfl) Zac)))),?_⟩;obtain⟨dx,f⟩:=hp.fld;obtain⟨ts,d1,d2⟩:=hp.deed;walk_at "rd";exact⟨p,_,dx,_,_,rfl,f,T.ac,T.ad,Zbz,da,_,rfl,.inl (.mk d1),λr hr=>q r ts hr d2⟩
theorem Zef:FnOk P w K mg base CX0 1 a.aR a.cA ["self"] (sp_K8 K a):=by
 refine T.M_Band_text.u.ok Zp0 (by walk_at "ln") (λAs A outer s H vs Q E hr h=>?_);obtain⟨p,l,m,rfl,hp,q⟩:=h;refine⟨_,(Zaf (Zao (Zay (K:=K) rfl (pv 0) rfl))),?_⟩;walk_at "rd";rcases hp with⟨dx,f⟩|⟨la,da,ds,⟨dx,f⟩,_⟩
 .exact⟨p,_,dx,_,_,rfl,f,T.az,T.ai,Zd3,q⟩
 .exact⟨p,_,dx,_,_,rfl,f,T.ac,T.aa,Zbc,q⟩
theorem Zqz:FnOk P w K mg base CX0 1 a.f_L7 a.d_L7 ["_law_one","_law_other"] (sp_L7 K a):=by
 refine T.D_lless.u.ok ZpE (by walk_at "ln") (λAs A outer s H vs Q E hr h=>?_);have Aw:=hr.units;obtain⟨x,y,t,u,rfl,ht,hu_,hx,hy,wx,wy,q⟩:=h;refine⟨_,(Zab (Za7 (Zaw (ZbB (K:=K) rfl Aw) (ZaY (ZaF (K:=K) rfl) (pv 0) Zak (λ_ _=>rfl)) (ZaY (ZaF (K:=K) rfl) (pv 1) Zak (λ_ _=>rfl)) (Zaz _)) (Zaf (Zao (ZaW Zh9 (Zar ZbC (ZaY (ZaF (K:=K) rfl) (ZaY (ZaF (K:=K) rfl) (pv 0) Zak (λ_ _=>rfl)) Zak (λ_ _=>rfl)) (ZaY (ZaF (K:=K) rfl) (ZaY (ZaF (K:=K) rfl) (pv 1) Zak (λ_ _=>rfl)) Zak (λ_ _=>rfl))) (Zar ZbC (ZaY (ZaF (K:=K) rfl) (ZaY (ZaF (K:=K) rfl) (pv 1) Zak (λ_ _=>rfl)) Zak (λ_ _=>rfl)) (ZaY (ZaF (K:=K) rfl) (ZaY (ZaF (K:=K) rfl) (pv 0) Zak (λ_ _=>rfl)) Zak (λ_ _=>rfl))) (Zaz _)))) ZaA)
  (Zad (Zaf (Zao (ZaW Zkm (ZaY (ZaF (K:=K) rfl) (pv 0) Zak (λ_ _=>rfl)) (ZaY (ZaF (K:=K) rfl) (pv 1) Zak (λ_ _=>rfl)) (Zaz _)))))),?_⟩
 obtain⟨u1,e1,e2⟩:=ht;obtain⟨u2,f1,f2⟩:=hu_;obtain⟨a1,a2,a3⟩:=ZjA wx;obtain⟨b1,b2,b3⟩:=ZjA wy;walk_at "rd";refine⟨t,_,_,_,rfl,rfl,.mk e1,rfl,u,_,_,_,rfl,rfl,.mk f1,rfl,ZqQ e2 f2 ⟨_,rfl,?_⟩⟩;by_cases z:x.2=y.2
 .rw[decide_eq_true z];refine iteF ?_;walk_at "h";refine⟨t,_,_,_,rfl,rfl,.mk e1,rfl,u,_,_,_,rfl,rfl,.mk f1,rfl,?_⟩;unfold ltRB at q;rw[YAM z]at q;exact⟨_,_,rfl,rfl,trivial,q⟩
 .rw[decide_eq_false z];unfold ltRB at q;rw[YAJ z,<-ZkP]at q;refine iteT ⟨t,_,_,_,rfl,rfl,.mk e1,rfl,u1,_,_,_,rfl,rfl,.mk e2,rfl,u,_,_,_,rfl,rfl,.mk f1,rfl,u2,_,_,_,rfl,rfl,.mk f2,rfl,_,_,rfl,rfl,⟨340,by decide,a1,b2⟩,u,_,_,_,rfl,rfl,.mk f1,rfl,u2,_,_,_,rfl,rfl,.mk f2,rfl,t,_,_,_,rfl,rfl,.mk e1,rfl,u1,_,_,_,rfl,rfl,.mk e2,rfl,_,_,rfl,rfl,⟨340,by decide,b1,a2⟩,_,_,rfl,rfl,q⟩
theorem Zoe:FnOk P w K mg base CX0 1 a.bh a.b9 ["self"] (sp_KM K a):=by refine T.M_Shelf_names.u.ok ZpU (by walk_at "ln") (λAs A outer s H vs Q E hr h=>?_);obtain⟨p,dA,m,F,rfl,hp,hF,q⟩:=h;refine⟨_,(Zaf (Zao (Zap (Zdo rfl) rfl T.z_sorted Zb2 (Zaa (Zay (K:=K) rfl (pv 0) rfl) Zac)))),?_⟩;obtain⟨dx,f⟩:=hp.fld;walk_at "rd";exact⟨p,_,dx,_,_,rfl,f,T.aj,T.ae,shS,dA,_,_,rfl,.inl hp.dct,Zjj F,NewL.of λr H2 s2 n2 e2=>q r H2 s2 n2 e2⟩
theorem Zqt:FnOk P w K mg base CX0 2 a.f_LI a.d_LI ["thing"] (sp_LI K a):=by
 refine T.D_is_kinds.u.ok Zpw (by walk_at "ln") (λAs A outer s H vs Q E hr h=>?_);have Aw:=hr.units;obtain⟨l,rfl,hl,q⟩:=h;refine⟨_,(Zab (Za7 (ZbM (Zbv (Zap (Za2 (K:=K) rfl) rfl T.z_isinstance ZaV (Zaa (pv 0) (Zaa (Zda (v:=.ty "str") rfl T.z_str ZlK rfl) Zac))))) (Zaf (Zao ZcR)) ZaA)
  (Zab (Za7 (PW.pt (Zfy (Zaw Zh9 (Zap (Zau (K:=K) rfl) rfl T.z_len ZaT (Zaa (pv 0) Zac)) Zak (Zaz _)) (Zdk (Zaw Zib (Zap (Zau (K:=K) rfl) rfl T.z_len ZaT (Zaa (pv 0) Zac)) (Zdx rfl T.c_KU) (Zaz _))))) (Zaf (Zao ZcR)) ZaA)
  (Zaf (Zao (ZbA (Zal (Zn9 T) (hM hr) rfl T.D_has_only Zan (Zaa (pv 0) (Zaa (Zhm rfl T.c_KD) Zac))) (Zb7 (ZaW (ZaO (K:=K) rfl Aw) (Za0 (Zdp rfl) rfl T.z_list Zct (Zaa (pv 0) Zac)) (Zap (Zcs rfl) rfl T.z_sorted Zb2 (Zaa (Za0 (ZbJ rfl) rfl T.z_set Zge (Zaa (pv 0) Zac)) Zac)) (Zaz _)))))))),?_⟩
 walk_at "rd";refine⟨_,_,_,_,true,rfl,rfl,.ty (.pl (.str _)),ZfQ,iteF ?_⟩;refine⟨_,_,rfl,Zbn hl,?_⟩;refine ite2 (λh=>iteT' ?_) (λh=>?_)
 .have h1:¬1<=l.length:=by have:=of_decide_eq_true h;lia
  have e:=q H (Same.refl _);unfold isk at e;rw[decide_eq_false h1,YBi,YBi,YBi]at e;exact e
 .have h1:1<=l.length:=by have:¬((l.length:Nat):Int)<1:=λz=>h (decide_eq_true z);lia
  refine⟨_,_,rfl,Zbn hl,?_⟩;refine ite2 (λh'=>?_) (λh'=>?_)
  .have h4:¬l.length<=4:=by have:=of_decide_eq_true h';lia
   have e:=q H (Same.refl _);unfold isk at e;rw[decide_eq_false h4,YBn,YBi,YBi]at e;exact e
  .have h4:l.length<=4:=by have:¬4<((l.length:Nat):Int):=λz=>h' (decide_eq_true z);lia
   refine⟨l,LET,by rw[Zjb],hl,λH2 s2=>⟨_,rfl,?_⟩⟩;refine ite2 (λha=>?_) (λha=>?_)
   .refine⟨l,rfl,hl,NewL.of λp1 H3 s3 n3 l3=>?_⟩;refine⟨signs l,by rw[signs_length];exact hl,.inl ⟨l,rfl,rfl⟩,λp4 n4=>?_⟩;refine⟨p4,ddl (signs l),rfl,Zae,YBf (ZmV l) (by lia),NewL.of λp5 H5 s5 n5 l5=>?_⟩;refine Zo3 (.mk ((Zat n4).trans s5 _ _ l3)) (.mk l5) ?_;have e:=q H5 (s2.trans (s3.trans ((Zat n4).trans s5)));unfold isk at e;rw[decide_eq_true h1,decide_eq_true h4,ha,YCa,YCa,YCa]at e;exact e
   .have e:=q H2 s2;unfold isk at e;rw[YBc.mpr ha,YBn,YBi]at e;exact e
theorem Zmo:FnOk P w K mg base CX0 2 a.f_LL a.d_LL ["thing","kinds","most"] (sp_LL K a):=by
 refine T.D_is_word.u.ok Zpu (by walk_at "ln") (λAs A outer s H vs Q E hr h=>?_);obtain⟨l,m,most,rfl,hl,q⟩:=h;refine⟨_,(Zaf (Zao (ZbA (Zap (Za2 (K:=K) rfl) rfl T.z_isinstance ZaV (Zaa (pv 0) (Zaa (Zda (v:=.ty "str") rfl T.z_str ZlK rfl) Zac))) (ZbA (ZaW Zqh (Zap (Zau (K:=K) rfl) rfl T.z_len ZaT (Zaa (pv 0) Zac)) (pv 2) (Zaz _)) (Zb7 (Zal (Zn9 T) (hM hr) rfl T.D_has_only Zan (Zaa (pv 0) (Zaa (pv 1) Zac)))))))),?_⟩;walk_at "rd";refine⟨_,_,_,_,true,rfl,rfl,.ty (.pl (.str _)),ZfQ,iteT ?_⟩;refine⟨_,_,rfl,Zbn hl,?_⟩;refine ite2 (λh=>?_) (λh=>?_)
 .refine⟨l,m,rfl,hl,λH2 s2=>?_⟩;have e:=q H2 s2;unfold isw at e;rw[h,YCa]at e;exact e
 .have e:=q H (Same.refl _);unfold isw at e;rw[YBc.mpr h,YBi]at e;exact e
theorem Zmp:FnOk P w K mg base CX0 2 a.f_LF a.d_LF ["top","bottom"] (sp_LF K a):=by
 refine T.D_fraction.u.ok ZnD (by walk_at "ln") (λAs A outer s H vs Q E hr h=>?_);obtain⟨x,y,n,rfl,hx,hy,hy1,n8,q⟩:=h;refine⟨_,(Zab (Zam (i:=2) ZnD.nd (Zal (Zqn T) (hM hr) rfl T.D_gdiv Zan (Zaa (pv 0) (Zaa (pv 1) Zac))))
  (Zaf (Zao (ZbW (Zaa (Zar Zdy (pv 0) (pv 2)) (Zaa (Zar Zdy (pv 1) (pv 2)) Zac)))))),?_⟩
 walk_at "rd";have hg:0<Int.gcd x y:=Int.gcd_pos_of_ne_zero_right x (by lia);have hg1:Int.gcd x y<=y:=Int.le_of_dvd hy (Int.gcd_dvd_right x y);have cd:∀z:Int,Zna z (Int.gcd x y:Nat):=λz=>⟨by lia,n,n8,hy1.le (by lia) hg1⟩;exact⟨x,y,rfl,hx,by lia,_,_,rfl,rfl,cd _,_,_,rfl,rfl,cd _,by rw[sizeLine_eq];decide,NewT.of λp H2 s2 n2 l2=>q p H2 s2 l2⟩
theorem Zmr:FnOk P w K mg base CX0 2 a.f_K6 a.d_K6 ["one","other"] (sp_K6 K a):=by
 refine T.D_same_kinds.u.ok Zp2 (by walk_at "ln") (λAs A outer s H vs Q E hr h=>?_);have Aw:=hr.units;obtain⟨p,q_,l,m,rfl,hp,hq,q⟩:=h;refine⟨_,(Zaf (Za7 (Zaw (ZbB (K:=K) rfl Aw) (Zer (Zav (pv 0) T.az T.au (Zkp T) (hM hr) T.M_Band_kinds.b .nil Zan) (Zer (Zav (pv 0) T.ac T.aw (Zkp T) (hM hr) T.M_Band_kinds.b .nil Zan) (Zav (pv 0) T.aj T.bQ (ZqL T) (hM hr) T.M_Shelf_kinds.b .nil Zan))) (Zer (Zav (pv 1) T.az T.au (Zkp T) (hM hr) T.M_Band_kinds.b .nil Zan) (Zav (pv 1) T.ac T.aw (Zkp T) (hM hr) T.M_Band_kinds.b .nil Zan)) (Zaz _)) (Zaf Zee) ZaA)),?_⟩;walk_at "rd";have two:∀H1,H1=H->((∃a_2 dx fs,V.ref q_=V.ref a_2/\H1 a_2=some (HO.ins a.c_LX dx fs)/\List.lookup (Str.ofString "kinds") fs=none/\sp_KQ K a [V.ref q_] H1 (λy H2=>rEqD K true (tx m) y H2 λx H'=>∃k,x=V.bl k/\if k=true then False else Q V.non H') E0)\/∃a_2 dx fs,V.ref q_=V.ref a_2/\H1 a_2=some (HO.ins a.c_LZ dx fs)/\List.lookup (Str.ofString "kinds") fs=none/\sp_KQ K a [V.ref q_] H1 (λy H2=>rEqD K true (tx m) y H2 λx H'=>∃k,x=V.bl k/\if k=true then False else Q V.non H') E0):=λH1 e=>by subst e;exact Zea hq (by decide +kernel) (by decide +kernel) (by decide +kernel) (λ_=>⟨q_,l,m,rfl,hq,Zi4 ⟨false,rfl,iteF q⟩⟩) (λ_ _ _ _=>⟨q_,l,m,rfl,hq,Zi4 ⟨false,rfl,iteF q⟩⟩)
 rcases hp with⟨l1,h⟩|⟨dA,F,h⟩
 .exact or_assoc.mp (.inl (Zea h (by decide +kernel) (by decide +kernel) (by decide +kernel) (λ_=>⟨p,l1,m,rfl,h,two _ rfl⟩) (λ_ _ _ _=>⟨p,l1,m,rfl,h,two _ rfl⟩)))
 .obtain⟨dx,f⟩:=h.fld;exact .inr (.inr ⟨p,dx,_,rfl,f,shN,p,dA,m,F,rfl,h,two _ rfl⟩)
theorem Zod:FnOk P w K mg base CX0 2 a.bE a.cC ["self","length"] (sp_KS K a):=by refine T.M_Band_words.u.ok ZpO (by walk_at "ln") (λAs A outer s H vs Q E hr h=>?_);obtain⟨p,l,m,n,rfl,hp,ok,hn,q⟩:=h;refine⟨_,(Zaf (Zao (Zal (Zqo T) (hM hr) rfl T.D_pieces Zan (Zaa (ZaE (pv 0) T.az T.aq (ZqM T) (hM hr) T.M_Band_laid_out.b .nil Zan (Zaa (pv 1) Zac)) (Zaa (pv 1) Zac))))),?_⟩;obtain⟨dx,hp⟩:=hp;have l40:=ok.l40;walk_at "rd";exact⟨p,dx,_,rfl,hp,Zdf (by decide +kernel) (by decide +kernel),p,l,m,n,rfl,⟨dx,hp⟩,l,n,rfl,by lia,by lia,by lia,q⟩
theorem Zob:FnOk P w K mg base CX0 2 a.f_L2 a.d_L2 ["lesser","longer"] (sp_L2 K a):=by
 refine T.D_fresh.u.ok Zl8 (by walk_at "ln") (λAs A outer s H vs Q E hr h=>?_);obtain⟨s_,L,rfl,hL,ex,tk,q⟩:=h;refine⟨_,(Zab (Zam (i:=2) Zl8.nd (ZbX Zac))
  (Zad (Zab (Za8 YAo rfl (ZdO rfl T.z_range (Zaa Zak (Zaa (Zar Zbo (Zap (Zau (K:=K) rfl) rfl T.z_len ZaT (Zaa (pv 1) Zac)) Zak) Zac))) (Zax (i:=3) Zl8.nd rfl (Or.inl rfl))
  (Zab (ZaH (ZeY YBO YCB YCA ZbE (pv 2) (Zaa (ZaN Zcg (pv 1) Zbf (ZaS (pv 3))) Zac)))
  (Zaf (ZaH (ZeY YBO YCB YCA ZbE (pv 2) (Zaa (ZaN Zcg (pv 1) (ZaS (Zar ZiV (Zap (Zau (K:=K) rfl) rfl T.z_len ZaT (Zaa (pv 1) Zac)) (pv 3))) Zbf) Zac))))))
  (Zad (Zaf (Zao (Zal (Zkn T) (hM hr) rfl T.D_in_order Zan (Zaa (Zap (Zb8 rfl) rfl T.z_sorted Zb2 (Zaa (Za0 (ZbJ rfl) rfl T.z_set Zge (Zaa (Zcm (N:=["word","lesser"]) (ix:=[none,some 0]) rfl (Zbk rfl) rfl (ZaU (K:=K) rfl (pv 2)) (λ_ _ _ _=>(Zax (i:=0) (show (["word","lesser"]:AK).Nodup from by decide +kernel) rfl (Or.inl rfl) (Or.inr rfl))) (λ_ _ _ _=>(Zcv (Zaw ZdR (pv 0) (pv 1) rfl))) (λ_ _ _ _=>(pv 0))) Zac)) Zac)) Zac)))))))),?_⟩
 walk_at "rd";refine⟨YAt _,NewL.of λpe H1 s1 ne le=>?_⟩;walk_at "g";refine⟨_,_,rfl,Zbn (by lia),_,_,rfl,⟨by decide,by decide,by lia,by lia⟩,?_⟩;have ej:((L.length:Int)+1-1).toNat=L.length:=by lia
 rw[ej];refine ForRun.range (λi U H'=>∃v3,U=[some (tx s_),some (tx L),some (.ref pe),v3]/\Same H H'/\H' pe=some (.lst ((Zba L i).map tx))) ⟨_,rfl,s1,le⟩ ?_ ?_
 .rintro i U H2 hi ⟨v3,rfl,s2,h2⟩;have el:=Zc2 L i;have e1:(1+(i:Int))=((i+1:Nat):Int):=by lia
  have e2:(L.length:Int)-(1+(i:Int))=((L.length-(i+1):Nat):Int):=by lia
  walk_at "rd";refine⟨.inl ⟨rfl,_,.mk h2⟩,_,rfl,L,rfl,sz _ (by lia),pe,_,_,rfl,rfl,h2,by rw[YAB];exact sz _ (by lia),.inl ⟨rfl,_,.mk Zae⟩,_,_,rfl,Zbn (by lia),_,rfl,L,rfl,sz _ (by lia),pe,_,_,rfl,rfl,Zae,by rw[YAG,YAB];exact sz _ (by rw[YBF];lia),_,rfl,?_,?_⟩
  .exact same_upd3 (same_upd3 s2 ne) ne
  .rw[Zae,e1,ZhP,<-e1,e2,ZcD,ZeC,YAb,YAj];rfl
 .rintro U H2 ⟨v3,rfl,s2,h2⟩;walk_at "k";have el:=Zc2 L L.length;refine⟨pe,rfl,⟨_,.mk h2⟩,CompRun.listL (xs:=(Zba L L.length).map tx) (λi=>!infB ((Zba L L.length).getD i []) s_) (λi=>tx ((Zba L L.length).getD i [])) (by rw[YAB];lia) (.mk h2) ?_ ?_ ?_⟩
  .intro i H3 Q3 hi s3 q3;rw[YAB]at hi;rw[Zco hi];walk_at "rd";exact⟨_,_,rfl,rfl,q3 H3 (Same.refl _)⟩
  .intro i H3 Q3 hi _ s3 q3;rw[YAB]at hi;rw[Zco hi];walk_at "rd";exact q3 H3 (Same.refl _)
  .intro p3 H3 s3 n3 l3;have eh:((List.range ((Zba L L.length).map tx).length).filter λi=>!infB ((Zba L L.length).getD i []) s_).map (λi=>tx ((Zba L L.length).getD i []))=((Zba L L.length).filter λv=>!infB v s_).map tx:=by rw[YAB,<-Zdg (λv=>!infB v s_) [] (Zba L L.length),YAl];rfl
   rw[eh]at l3;have fl:=YAm (λv=>!infB v s_) (Zba L L.length);generalize hF:(Zba L L.length).filter (λv=>!infB v s_)=F0 at l3 fl;have mF:∀w,w∈F0↔Frs s_ L w:=λw=>by rw[<-hF,YAy,ZfK,Zjy ex,Bool.not_eq_true',ZdB]
   have dl:=Zo7 F0;refine⟨F0,by lia,.inr ⟨p3,rfl,.mk l3⟩,λp4 n4=>⟨p4,_,rfl,Zae,sz _ (by lia),NewL.of λp5 H5 s5 n5 l5=>?_⟩⟩;have s25:Same H H5:=s2.trans (s3.trans ((Zat n4).trans s5));have pm0:=ZaZ (ddl F0);refine⟨p5,_,rfl,l5,λw hw=>?_,tk.same s25,λws r H6 pm pw sl tk6 nr lr=>?_⟩
   .have:=((mF w).mp (ZdT.mp (pm0.mem_iff.mp hw))).1.len;lia
   .refine q ws r H6 (ZbK pm pw (pm0.nodup_iff.mpr (ZbY F0))) (λw=>?_) (λb o e t=>sl _ _ (s25 _ _ e) t) tk6 ((Nw.of nr).same s25) lr;rw[pm.mem_iff,pm0.mem_iff,ZdT,mF]
theorem Zn6:FnOk P w K mg base CX0 2 a.f_LM a.d_LM ["_law_way","_law_cell_here","_law_kinds_here","_law_size"] (sp_LM K a):=by
 refine T.D_letters.u.ok Zdr (by walk_at "ln") (λAs A outer s H vs Q E hr h=>?_);have Aw:=hr.units;obtain⟨w_,c,m,n,rfl,hm,h4,hn,q⟩:=h;refine⟨_,(Zab (Zam (i:=4) Zdr.nd (ZaD (l:=[]) (by decide +kernel)))
  (Zab (Zam (i:=5) Zdr.nd (pv 1))
  (Zab (Za8 YAo rfl (ZbV rfl T.z_range (Zaa (pv 3) Zac)) (Zax (i:=6) Zdr.nd rfl (Or.inl rfl))
  (Zab (Zam (i:=7) Zdr.nd (pv 5))
  (Zab (Za7 (PW.pt (Zfy (Zaw (ZaO (K:=K) rfl Aw) (Zar ZaX (pv 0) Zak) Zak (Zaz _)) (Zdk (Zaw (Zdc (K:=K) rfl) (pv 5) (ZbW (Zaa Zak (Zaa (Zh8 Zek Zak) Zac))) rfl)))) (Zaf (Zam (i:=7) Zdr.nd (Zal (Zqy T) (hM hr) rfl T.D_mixed Zan (Zaa (pv 1) (Zaa (Zar Zbo Zak (pv 6)) Zac))))) ZaA)
  (Zab (Zam (i:=4) Zdr.nd (Zar Za1 (pv 4) (ZaY ZgL (pv 2) (Zar ZaX (pv 7) (Zap (Zau (K:=K) rfl) rfl T.z_len ZaT (Zaa (pv 2) Zac))) (λ_ _=>rfl))))
  (Zaf (Zam (i:=5) Zdr.nd (Zar Zbg (pv 5) (Zap (Zau (K:=K) rfl) rfl T.z_len ZaT (Zaa (pv 2) Zac)))))))))
  (Zab (Za7 (PW.pt (Zdl (Zaw (ZaO (K:=K) rfl Aw) (Zar ZaX (Zar Zbg (pv 0) Zak) Zak) Zak (Zaz _)) (Zck (Zaw Zib (pv 3) Zak (Zaz _))))) (Zab (Zam (i:=8) Zdr.nd (Zar ZaX (Zar Zbg (pv 0) Zak) (pv 3)))
  (Zab (Zam (i:=4) Zdr.nd (ZaN Zcg (Zar ZiW (ZaN Zcg (pv 4) Zbf (ZaS (Zar Zbo Zak (Zar ZaX (Zar Zbg (pv 0) Zak) Zak)))) (pv 3)) Zbf (ZaS (pv 3))))
  (Zab (Zam (i:=9) Zdr.nd (ZaY ZgL (pv 2) (Zar ZaX (Zar Zbg (pv 0) Zak) (Zap (Zau (K:=K) rfl) rfl T.z_len ZaT (Zaa (pv 2) Zac))) (λ_ _=>rfl)))
  (Zaf (Za7 (Zaw (ZaO (K:=K) rfl Aw) (Zar ZaX (Zar Zbg (pv 0) Zak) Zak) Zak (Zaz _)) (Zaf (Zam (i:=4) Zdr.nd (Zar Za1 (Zar Za1 (ZaN Zcg (pv 4) Zbf (ZaS (pv 8))) (pv 9)) (ZaN Zcg (pv 4) (ZaS (Zar Zbo (pv 8) Zak)) Zbf)))) ZaA))))) ZaA)
  (Zaf (Zao (pv 4))))))),?_⟩
 walk_at "rd";have hM:m.length<=1000:=by lia
 have sz:m.length<=sizeLine:=YAK hM (by rw[sizeLine_eq];decide);have pm:(0:Int)<m.length:=by lia
 have at_:∀x:Int,∃v,atI m (x % m.length)=some v/\v∈m:=λx=>Zgk (YBX _ (by lia)) (YBP _ pm);refine⟨_,rfl,by lia,by lia,ForRun.range (λi U H'=>Same H H'/\∃(f:Q11) (le:Int) (v6 v7:Option V),U=[some (.int w_),some (.int c),some (tx m),some (.int (n:Nat)),some (tx f),some (.int le),v6,v7,none,none]/\f.length=i/\∀x∈f,x∈m) ⟨Same.refl _,[],c,none,none,rfl,rfl,λx hx=>by cases hx⟩ ?_ ?_⟩
 .rintro i U H1 hi ⟨s1,f,le,v6,v7,rfl,hf,hfm⟩;have sf:f.length+1<=sizeLine:=by rw[sizeLine_eq];lia
  have cd:CDiv le m.length:=⟨pm,by lia⟩;have mem:∀ {v:Nat},v∈m->∀x∈f++[v],x∈m:=λhv x hx=>(YAR.mp hx).elim (hfm x) λh=>by rw[YAI.mp h];exact hv
  walk_at "rd";refine⟨by decide,.inl ⟨rfl,_,rfl,ite2 (λh=>iteT' ?_) (λh=>⟨by rw[sizeLine_eq];decide,NewT.of λp2 H2 s2 n2 l2=>⟨p2,_,rfl,.inr (.mk l2),rfl,rfl,_,rfl,ite2 (λh=>?_) (λh=>?_)⟩⟩)⟩⟩
  .refine⟨_,_,rfl,λr hr=>?_⟩;walk_at "rd";obtain⟨c1,hc1,hm1⟩:=at_ r;exact⟨_,_,rfl,Zbn hM,pm,m,_,c1,rfl,rfl,sz,hc1,sf,_,_,rfl,Zbn hM,cd,s1,_,_,_,_,rfl,by simp[hf],mem hm1⟩
  .refine⟨_,_,rfl,λr hr=>?_⟩;walk_at "rd";obtain⟨c1,hc1,hm1⟩:=at_ r;exact⟨_,_,rfl,Zbn hM,pm,m,_,c1,rfl,rfl,sz,hc1,sf,_,_,rfl,Zbn hM,cd,s1.trans s2,_,_,_,_,rfl,by simp[hf],mem hm1⟩
  .obtain⟨c1,hc1,hm1⟩:=at_ le;exact⟨_,_,rfl,Zbn hM,pm,m,_,c1,rfl,rfl,sz,hc1,sf,_,_,rfl,Zbn hM,cd,s1.trans s2,_,_,_,_,rfl,by simp[hf],mem hm1⟩
 .rintro U H1 ⟨s1,f,le,v6,v7,rfl,hf,hfm⟩;rw[YCJ]at hf;walk_at "rd";refine⟨⟨by decide,by decide⟩,by decide,.inl ⟨rfl,_,rfl,ite2 (λh=>ite2 (λh2=>?_) (λh2=>q f H1 hf hfm s1)) (λh=>iteF (q f H1 hf hfm s1))⟩⟩;have hn0:0<n:=by have:=of_decide_eq_true h2;lia
  obtain⟨c1,hc1,hm1⟩:=at_ (w_/2000);have cl:=ZeE f none (some (1+w_/6 % 4));obtain⟨g1,g2⟩:=fill (e:=1+w_/6 % 4) hn0 hf hfm (by lia);have gl:(repT (cut f none (some (1+w_/6 % 4))) (n:Nat)).length<=60*60:=by rw[Zhf,YCJ];exact YDP hn (by lia)
  have m0:=YBX (w_/24) (show ((n:Nat):Int)≠0 by lia);have m1:=YBP (w_/24) (show (0:Int)<(n:Nat) by lia);refine⟨⟨by decide,by decide⟩,by lia,⟨by decide,by decide⟩,by decide,_,rfl,f,rfl,by rw[sizeLine_eq];lia,_,_,rfl,rfl,by lia,by lia,by lia,_,rfl,_,rfl,by rw[sizeLine_eq];lia,⟨by decide,by decide⟩,_,_,rfl,Zbn hM,pm,m,_,c1,rfl,rfl,sz,hc1,⟨by decide,by decide⟩,by decide,.inl ⟨rfl,_,rfl,ite2 (λh3=>?_) (λh3=>q _ H1 g1 g2 s1)⟩⟩;generalize cut (repT (cut f none (some (1+w_/6 % 4))) (n:Nat)) none (some ((n:Nat):Int))=g at g1 g2;obtain⟨k1,k2⟩:=put1 (c:=c1) (i:=w_/24 % (n:Nat)) g1 g2 hm1 m0 m1;have e1:=k1;rw[YAG,YAG,YBF]at e1;refine⟨_,rfl,g,rfl,by rw[sizeLine_eq];lia,by rw[sizeLine_eq];lia,_,rfl,g,rfl,by rw[sizeLine_eq];lia,by rw[sizeLine_eq,YAG,YBF];lia,q _ H1 k1 k2 s1⟩
theorem Zoh:FnOk P w K mg base CX0 2 a.bO a.cQ ["self","text","came","went"] (sp_KI K a):=by
 refine T.M_Strip_change.u.ok Zma (by walk_at "ln") (λAs A outer s H vs Q E hr h=>?_);obtain⟨p,la,da,c,g,l,l2,m,old,new,ys,zs,rc,rg,rfl,hp,hla,hc,rwc,hg,rwg,ho,hn,nd,mc,mg_,lo,lc,lg,wo,wn,tk,q⟩:=h;refine⟨_,(Zad (Zab (Zeq (i:=4) Zma.nd rfl (Or.inr rfl) (Zcm (N:=["told"]) (ix:=[none]) rfl (Zbk rfl) rfl (ZaU (K:=K) rfl (pv 3)) (λ_ _ _ _=>(Zax (i:=0) (show (["told"]:AK).Nodup from by decide +kernel) rfl (Or.inl rfl) (Or.inr rfl))) (λ_ _ _ _=>Zcw) (λ_ _ _ _=>(ZaY (ZaF (K:=K) rfl) (pv 0) Zak (λ_ _=>rfl)))))
  (Zad (Zab (ZeV (i:=5) (N:=["word","gone"]) (ix:=[none,some 4]) rfl Zma.nd rfl rfl rfl (Zbk rfl) rfl (ZaU (K:=K) rfl (Zay (K:=K) rfl (pv 0) rfl)) (λ_ _ _ _=>(Zax (i:=0) (show (["word","gone"]:AK).Nodup from by decide +kernel) rfl (Or.inl rfl) (Or.inr rfl))) (λ_ _ _ _=>(Zcv (Zaw (Zbw (K:=K) rfl) (pv 0) (pv 1) rfl))) (λ_ _ _ _=>(pv 0)))
  (Zad (Zab (Zcl (pv 0) (Zal (Zkn T) (hM hr) rfl T.D_in_order Zan (Zaa (Zar Zhq (pv 5) (Zcm (N:=["told"]) (ix:=[none]) rfl (Zbk rfl) rfl (ZaU (K:=K) rfl (pv 2)) (λ_ _ _ _=>(Zax (i:=0) (show (["told"]:AK).Nodup from by decide +kernel) rfl (Or.inl rfl) (Or.inr rfl))) (λ_ _ _ _=>Zcw) (λ_ _ _ _=>(ZaY (ZaF (K:=K) rfl) (pv 0) Zak (λ_ _=>rfl))))) Zac)) rfl)
  (Zad (Zab (Zcl (pv 0) (pv 1) rfl)
  (Zaf (Zao (ZbW (Zaa (pv 2) (Zaa (pv 3) Zac))))))))))))),?_⟩
 have sz:∀k:Nat,k<=30000->k<=sizeLine:=λk h=>YAK h (by rw[sizeLine_eq];decide);obtain⟨dx,f⟩:=hp;walk_at "rd";walk_at "g";have zl:=rwg.1;have yl:=rwc.1;refine⟨g,rfl,⟨_,.mk hg⟩,CompRun.listL (xs:=zs) (λ_=>true) (λi=>tx ((rg.map (·.1)).getD i [])) (by lia) (.mk hg) (λi H' Q' _ _ q=>q H' (Same.refl _)) ?_ ?_⟩
 .intro i H1 Q1 hi _ s1 q1;obtain⟨t,u,e1,e2⟩:=Zhe rwg hi;rw[e1];walk_at "rd";exact⟨t,_,_,_,rfl,rfl,.mk (s1 _ _ e2),atI0,q1 H1 (Same.refl _)⟩
 .intro pg H1 s1 n1 l1;rw[ZjQ zl]at l1;walk_at "g";refine⟨p,_,dx,_,_,rfl,s1 _ _ f,T.ac,T.af,Zdv,la,rfl,⟨_,.mk (s1 _ _ hla)⟩,CompRun.listL (xs:=old.map tx) (λi=>!decide (old.getD i []∈rg.map (·.1))) (λi=>tx (old.getD i [])) (by rw[YAB];lia) (.mk (s1 _ _ hla)) ?_ ?_ ?_⟩
  .intro i H2 Q2 hi s2 q2;rw[YAB]at hi;rw[Zco hi];walk_at "rd";refine⟨pg,_,rfl,.inl (.mk (s2 _ _ l1)),rfl,ZbH _,_,rfl,?_⟩;rw[YAM rfl,ZfV];exact q2 H2 (Same.refl _)
  .intro i H2 Q2 hi _ s2 q2;rw[YAB]at hi;rw[Zco hi];walk_at "rd";exact q2 H2 (Same.refl _)
  .intro pk H2 s2 n2 l2k;have eh:((List.range (old.map tx).length).filter λi=>!decide (old.getD i []∈rg.map (·.1))).map (λi=>tx (old.getD i []))=(old.filter λv=>!decide (v∈rg.map (·.1))).map tx:=by rw[YAB,<-Zdg (λv=>!decide (v∈rg.map (·.1))) [] old,YAl];rfl
   have e2:(old.filter λv=>!decide (v∈rg.map (·.1)))=old.filter λv=>decide (v∉rg.map (·.1)):=by congr 1;funext v;rw[decide_not]
   rw[eh,e2]at l2k;have fl:=YAm (λv=>decide (v∉rg.map (·.1))) old;generalize hk:old.filter (λv=>decide (v∉rg.map (·.1)))=kept at l2k fl;have s02:=s1.trans s2;walk_at "g";refine⟨c,rfl,⟨_,.mk (s02 _ _ hc)⟩,CompRun.listL (xs:=ys) (λ_=>true) (λi=>tx ((rc.map (·.1)).getD i [])) (by lia) (.mk (s02 _ _ hc)) (λi H' Q' _ _ q=>q H' (Same.refl _)) ?_ ?_⟩
   .intro i H3 Q3 hi _ s3 q3;obtain⟨t,u,e1,e2⟩:=Zhe rwc hi;rw[e1];walk_at "rd";exact⟨t,_,_,_,rfl,rfl,.mk ((s02.trans s3) _ _ e2),atI0,q3 H3 (Same.refl _)⟩
   .intro pc H3 s3 n3 l3;rw[ZjQ yl]at l3;rw[ZnR];refine⟨_,_,s3 _ _ l2k,l3,by rw[YAB,YAB,YAB];exact sz _ (by lia),NewL.of λpw H4 s4 n4 l4=>?_⟩;have s04:Same H H4:=s02.trans (s3.trans s4);rw[<-YAb]at l4;refine⟨pw,_,rfl,l4,λw hw=>?_,tk.same s04,λws r H5 pm pw5 sl tk5 nr lr=>?_⟩
    .rcases YAR.mp hw with h | h
     .rw[<-hk]at h;exact wo w (YAy.mp h).1
     .exact wn w ((mc w).mp h).1
    .rw[<-hk]at pm;have en:=ZmA ho hn mc nd mg_ pm pw5;rw[en]at lr;have f5:=sl _ _ (s04 _ _ f) rfl;refine⟨p,_,dx,_,rfl,f5,T.ac,T.af,(by show 4<1000;decide),?_⟩;rw[show putF (Str.ofString "own_lacking") (.ref r) (sF l m la da)=sF l m r da from ZiN];walk_at "g";refine⟨p,_,dx,_,rfl,Zae,T.ac,T.aa,(by show 4<1000;decide),sz _ (by decide),NewT.of λt H7 s7 n7 l7=>?_⟩;rw[show putF (Str.ofString "own_text") (tx l2) (sF l m r da)=sF l2 m r da from ZiM]at s7;have nrp:p≠r:=Zai (s04 _ _ f) nr;refine q t r H7 ?_ ⟨dx,s7 _ _ Zae⟩ ((Nw.of nr).same s04) (s7 _ _ (by rw[Zah (YAk nrp),Zah (YAk nrp)];exact lr)) l7 ?_
     .exact s04.chg.trans (sl.chg.trans ((Chg.upd (by simp)).trans ((Chg.upd (by simp)).trans s7.chg)))
     .exact((tk5.upd f5 rfl rfl).upd Zae rfl rfl).same s7
theorem Zqp:FnOk P w K mg base CX0 2 a.f_LT a.d_LT ["_law_found","_law_due_here"] (sp_LT K a):=by
 refine T.D_lshare.u.ok Zpt (by walk_at "ln") (λAs A outer s H vs Q E hr h=>?_);have Aw:=hr.units;obtain⟨t,u,x,y,rfl,ht,hu_,q⟩:=h;refine⟨_,(Zab (Za7 (PW.pt (Zfy (ZbM (Zbv (Zap (Za2 (K:=K) rfl) rfl T.z_isinstance ZaV (Zaa (pv 0) (Zaa (Zda (v:=.ty "tuple") rfl T.z_tuple Zk7 rfl) Zac))))) (Zdk (Zaw (ZbB (K:=K) rfl Aw) (pv 0) (pv 1) (Zaz _))))) (Zaf (Zao ZcR)) ZaA)
  (Zaf (Zao (ZbA (Zal (Zoa T) (hM hr) rfl T.D_whole Zan (Zaa (ZaY (ZaF (K:=K) rfl) (pv 0) Zak (λ_ _=>rfl)) Zac)) (Zb7 (Zal (Zoa T) (hM hr) rfl T.D_whole Zan (Zaa (ZaY (ZaF (K:=K) rfl) (pv 0) Zak (λ_ _=>rfl)) Zac))))))),?_⟩
 walk_at "rd";exact⟨_,_,_,_,true,rfl,rfl,.ty (.seqT (.mk ht)),ZfQ,iteF (Zkv (.mk ht) (.mk hu_) rfl ⟨false,rfl,iteF ⟨t,_,0,_,rfl,rfl,.mk ht,rfl,x,rfl,true,rfl,iteT ⟨t,_,1,_,rfl,rfl,.mk ht,rfl,y,rfl,q⟩⟩⟩)⟩
theorem Zqm:FnOk P w K mg base CX0 2 a.f_MC a.d_MC ["_law_texts","_law_asked","_law_kinds_here"] (sp_MC K a):=by
 refine T.D_ldue.u.ok ZgD (by walk_at "ln") (λAs A outer s H vs Q E hr h=>?_);have hu1:=ZaC hr;obtain⟨d,l,m,F,rfl,ok,hF,nd,fl,hd,tk,q⟩:=h;refine⟨_,(Zab (Zam (i:=3) ZgD.nd (ZbX Zac))
  (Zad (Zab (Zam (i:=4) ZgD.nd (Zal (Zn5 T) (hM hr) rfl T.D_missing Zan (Zaa (pv 1) (Zaa (pv 2) Zac))))
  (Zad (Zab (ZeU (Za8 YAo rfl (ZeW (pv 0)) (Zax (i:=5) ZgD.nd rfl (Or.inl rfl))
  (Zab (Zeq (i:=6) ZgD.nd rfl (Or.inr rfl) (ZbW (Zaa (pv 5) (Zaa (Zal (Zql T) (hM hr) rfl T.D_lsum Zan (Zaa (Zal (Zqr T) (hM hr) rfl T.D_lapart Zan (Zaa (Zal (Zn5 T) (hM hr) rfl T.D_missing Zan (Zaa (Zb5 hu1 (pv 0) (pv 5) (λ_ _=>rfl)) (Zaa (pv 2) Zac))) (Zaa (pv 4) Zac))) Zac)) Zac))))
  (Zad (Zab (ZeV (i:=7) (N:=["_law_one","_law_row"]) (ix:=[none,some 6]) rfl ZgD.nd rfl rfl rfl (Zbk rfl) rfl (ZaU (K:=K) rfl (pv 3)) (λ_ _ _ _=>(Zax (i:=0) (show (["_law_one","_law_row"]:AK).Nodup from by decide +kernel) rfl (Or.inl rfl) (Or.inr rfl))) (λ_ _ _ _=>(Zcv (Zbv (Zal (Zqz T) (hM hr) rfl T.D_lless Zan (Zaa (pv 0) (Zaa (pv 1) Zac)))))) (λ_ _ _ _=>(pv 0)))
  (Zad (Zaf (Zam (i:=3) ZgD.nd (Zar Zhq (Zar Zhq (ZaN (ZeQ (K:=K) rfl) (pv 3) Zbf (ZaS (Zap (Zau (K:=K) rfl) rfl T.z_len ZaT (Zaa (pv 7) Zac)))) (ZbX (Zaa (pv 6) Zac))) (ZaN (ZeQ (K:=K) rfl) (pv 3) (ZaS (Zap (Zau (K:=K) rfl) rfl T.z_len ZaT (Zaa (pv 7) Zac))) Zbf))))))))))
  (Zad (Zaf (Zao (pv 3))))))))),?_⟩
 walk_at "rd";refine⟨YAt _,NewL.of λp0 H1 s1 n1 e1=>Zag ?_⟩;walk_at "rd";refine⟨l,m,rfl,ok,tk.same s1,λpy H2 s2 tk2 n2 e2=>?_⟩;walk_at "h";have d2:=s2 _ _ (s1 _ _ hd) rfl;have s12:SameL H H2:=s1.l.trans s2;have lk:=lsOk ok;have e02:=s2 _ _ e1 rfl;have nd0:∀ {b ys},H2 b=some (.lst ys)->b≠d:=λe z=>by rw[z,d2]at e;cases e
 refine⟨d,_,d2,d,_,rfl,d2,λo=>ForRun.dict (λi U H'=>∃v5 v6 v7 pd zs R,U=[some (.ref d),some (tx l),some (tx m),some (.ref pd),some (.ref py),v5,v6,v7]/\SameL (upd H2 d (.frz o (.dK (F.map λr=>(kTx r.n,tx r.l))))) H'/\TT a H'/\Nw H pd/\H' pd=some (.lst zs)/\Zg3 H' zs R/\R.Pairwise ltR/\R.Perm ((F.take i).map λr=>(r.n,Wd l r.l m))) ⟨_,_,_,p0,[],[],rfl,(Same.refl _).l,tk2.upd d2 rfl rfl,Nw.of n1,by rw[Zah (nd0 e02)];exact e02,⟨[],rfl,rfl,λr h=>(by cases h)⟩,.nil,.nil⟩ (λi U H' ⟨_,_,_,_,_,_,_,s',_⟩=>s' _ _ Zae rfl) ?_ ?_⟩
 .rintro i kv U H3 hkv ⟨v5,v6,v7,pd,zs,R,rfl,s3,tk3,nw3,e3,ra,pw,pR⟩;rw[YAQ]at hkv;obtain⟨r,hr,rfl⟩:=YBI.mp hkv;have hrF:r∈F:=YAh hr;have okr:=(hF r hrF).1;have hi:i<F.length:=(YAU.mp hr).1;have d3:=s3 _ _ Zae rfl;have y3:H3 py=some (.lst ((Zaq l m).map tx)):=s3 _ _ (by rw[Zah (nd0 e2)];exact e2) rfl;rw[ZkI];walk_at "rd";refine⟨d,_,rfl,.inl ⟨_,kTx r.n,.inr ⟨o,d3⟩,rfl,(Ziu nd hrF).symm⟩,r.l,m,rfl,okr,tk3,λpm H4 s4 tk4 n4 e4=>⟨pm,py,Zaq r.l m,Zaq l m,rfl,e4,s4 _ _ y3 rfl,lsOk okr,lk,λpa ds H5 s5 n5 e5 df dl=>⟨pa,ds,rfl,e5,dl,λw hw=>Zf6 df (lsOk okr) lk hw,λts H6 s6 e6=>⟨sz 2 (by decide),NewT.of λt H7 s7 n7 e7=>?_⟩⟩⟩⟩;walk_at "h";have eW:WS ds=Wd l r.l m:=Zpe ok okr df.flip;rw[eW]at e6;have e6':=s7 _ _ e6;have s37:SameL H3 H7:=s4.trans ((s5.trans (s6.trans s7)).l);have tk7:=tk4.same (s5.trans (s6.trans s7));have e37:=s37 _ _ e3 rfl;obtain⟨rs,rfl,rfl,ha⟩:=ra;have ha7:∀x∈rs,RowA H7 x.1 x.2:=λx hx=>(ha x hx).ext λb vs e=>s37 _ _ e rfl;have wl:=Zlb ok okr;have inF:∀x∈rs,∃r'∈F.take i,x.2=(r'.n,Wd l r'.l m):=λx hx=>by obtain⟨r',hr',e⟩:=YAa.mp (pR.mem_iff.mp (YAx (f:=(·.2)) hx));exact⟨r',hr',e.symm⟩
  have lrs:rs.length<=1000:=by have:=pR.length_eq;rw[YAB,YAB,YAW]at this;lia
  have n8:=ZgN (hF r hrF).2;refine⟨pd,rfl,⟨_,.mk e37⟩,CompRun.dataF (xs:=rs.map λr=>V.ref r.1) (λi=>ltRB (rs.getD i (0,[],0)).2 (r.n,Wd l r.l m)) (λ_ _ _=>True) (λ_ _ _ _ _ _=>trivial) (by rw[YAB];lia) (.mk e37) (λj H' Q' h s' q'=>?_) (λj H' Q' h _ s' q'=>?_) (λpa ya H8 s8 n8 e8 l8 _=>?_)⟩
  .rw[YAB]at h;have hg:(rs.map λr=>V.ref r.1).getD j V.non=.ref (rs.getD j (0,[],0)).1:=by simp[YAT,h]
   have hm:rs.getD j (0,[],0)∈rs:=by simp[YAT,h]
   rw[hg];generalize rs.getD j (0,[],0)=y at hm q' ⊢;obtain⟨r',hr',ey⟩:=inF y hm;obtain⟨ok',in'⟩:=hF r' (YAZ hr');have n8':=ZgN in';walk_at "rd";exact⟨y.2,(r.n,Wd l r.l m),y.1,t,rfl,(ha7 y hm).ext λb vs e=>s' _ _ e,⟨ts,s' _ _ e7,s' _ _ e6'⟩,by rw[ey];show r'.n.length<=1000;lia,by show r.n.length<=1000;lia,by rw[ey];exact Zlb ok ok',wl,_,rfl,q' H' (Same.refl _)⟩
  .walk_at "rd";exact q' _ H' (Same.refl _) trivial
  .walk_at "h";obtain⟨k,ek⟩:∃k,k=(rs.filter λy=>ltRB y.2 (r.n,Wd l r.l m)).length:=⟨_,rfl⟩;rw[YAB,Zgc (λy:AE×Q11×Nat=>ltRB y.2 (r.n,Wd l r.l m)),<-ek]at l8;have kl:k<=rs.length:=by rw[ek];exact YAm _ _
   have e38:=s8 _ _ e37;have cT:cutV (rs.map λr=>V.ref r.1) none (some ((k:Nat):Int))=(rs.take k).map λr=>V.ref r.1:=by show cut _ _ _=_;rw[ZhP,YBx]
   have cD:cutV (rs.map λr=>V.ref r.1) (some ((k:Nat):Int)) none=(rs.drop k).map λr=>V.ref r.1:=by show cut _ _ _=_;rw[ZcD,YDG]
   refine⟨_,_,rfl,.inl ⟨_,.mk e8,rfl⟩,_,rfl,?_⟩;rw[l8];refine⟨pd,_,rfl,.mk e38,λp1 f1=>?_⟩;rw[cT];refine⟨sz 1 (by decide),NewL.of λp2 H9 s9 n9 e9=>⟨p1,p2,_,_,rfl,rfl,s9 _ _ Zae,e9,by rw[YAB,YAW];exact sz _ (by show _+1<=9000;lia),λp3 f3=>?_⟩⟩;have s89:Same H8 H9:=(Zat f1).trans s9;have e3':upd H9 p3 (.lst ((rs.take k).map (λr=>V.ref r.1)++[V.ref t])) p3=some (.lst ((rs.take k).map (λr=>V.ref r.1)++[V.ref t])):=Zae;have s9':Same H8 (upd H9 p3 (.lst ((rs.take k).map (λr=>V.ref r.1)++[V.ref t]))):=s89.trans (Zat f3);generalize upd H9 p3 (.lst ((rs.take k).map (λr=>V.ref r.1)++[V.ref t]))=HA at e3' s9';refine⟨_,_,rfl,.inl ⟨_,.mk (s9' _ _ e8),rfl⟩,_,rfl,?_⟩;rw[l8];refine⟨pd,_,rfl,.mk (s9' _ _ e38),λp4 f4=>?_⟩;rw[cD];refine⟨p3,p4,_,_,rfl,rfl,by rw[Zah (Zai e3' f4)];exact e3',Zae,by rw[YAG,YAB,YAW,YAB,YAp];exact sz _ (by show _+1+_<=9000;lia),λp5 f5=>?_⟩;have sB:Same H8 (upd (upd HA p4 (.lst ((rs.drop k).map λr=>V.ref r.1))) p5 (.lst ((rs.take k).map (λr=>V.ref r.1)++[V.ref t]++(rs.drop k).map λr=>V.ref r.1))):=s9'.trans ((Zat f4).trans (Zat f5));have eB:upd (upd HA p4 (.lst ((rs.drop k).map λr=>V.ref r.1))) p5 (.lst ((rs.take k).map (λr=>V.ref r.1)++[V.ref t]++(rs.drop k).map λr=>V.ref r.1)) p5=some (.lst ((rs.take k).map (λr=>V.ref r.1)++[V.ref t]++(rs.drop k).map λr=>V.ref r.1)):=Zae;have n5':H8 p5=none:=(s9'.trans (Zat f4)).free f5;generalize upd (upd HA p4 (.lst ((rs.drop k).map λr=>V.ref r.1))) p5 (.lst ((rs.take k).map (λr=>V.ref r.1)++[V.ref t]++(rs.drop k).map λr=>V.ref r.1))=HB at sB eB;have s3B:SameL H3 HB:=s37.trans (s8.trans sB).l;refine⟨_,_,_,p5,_,(rs.take k++[(t,r.n,Wd l r.l m)]++rs.drop k).map (·.2),rfl,s3.trans s3B,tk7.same (s8.trans sB),?_,eB,⟨rs.take k++[(t,r.n,Wd l r.l m)]++rs.drop k,by rw[YAb,YAb];rfl,rfl,?_⟩,?_,?_⟩
   .have w3:=(((Nw.of n5').same s8).l s37).l s3;have nd5:=w3.ne Zae rfl;have w2:Nw H2 p5:=λo' eo=>w3 o' (by rw[Zah (YAk nd5)];exact eo);exact w2.l s12
   .intro y hy;have up:∀b vs,H7 b=some (.tup vs)->HB b=some (.tup vs):=λb vs e=>sB _ _ (s8 _ _ e);rcases YAR.mp hy with z | z
    .rcases YAR.mp z with z | z
     .exact(ha7 y (YAZ z)).ext up
     .rw[YAI.mp z];exact⟨ts,up _ _ e7,up _ _ e6'⟩
    .exact(ha7 y (YAg z)).ext up
   .rw[YAb,YAb,YBx,YDG];have ek2:k=((rs.map (·.2)).filter λy=>ltRB y (r.n,Wd l r.l m)).length:=by rw[ek,YDJ,YAB];rfl
    rw[ek2];refine Zjs pw (λy hy py=>Zhu.mp py) (λy hy py=>?_);obtain⟨r',hr',rfl⟩:=YAa.mp (pR.mem_iff.mp hy);have ne:r'.n≠r.n:=λe=>by have:=Zdz nd (i:=i) (n:=r.n) (by rw[YAQ,hr];rfl);rw[<-e,<-YBx]at this;exact this (YAx hr')
    exact ltR.tot ne (λz=>by rw[Zhu.mpr z]at py;cases py)
   .rw[YAb,YAb,YBx,YDG];refine(ZhA _ _ _).trans ?_;rw[YBl,hr];show (rs.map (·.2)++[(r.n,Wd l r.l m)]).Perm ((F.take i++[r]).map _);rw[YAb];exact pR.append_right _
 .rintro U H3 ⟨v5,v6,v7,pd,zs,R,rfl,s3,tk3,nw3,e3,ra,pw,pR⟩;rw[YAB,YBL]at pR;have d3:=s3 _ _ Zae rfl;have np:pd≠d:=YAk (nw3.ne hd rfl);refine⟨o,_,d3,?_⟩;walk_at "k";refine q pd zs R _ (s12.trans (Znd d2 s3)) (tk3.upd d3 rfl rfl) nw3 (by rw[Zah np];exact e3) ?_ ⟨pw,pR⟩;obtain⟨rs,a1,a2,ha⟩:=ra;exact⟨rs,a1,a2,λx hx=>(ha x hx).ext λb vs e=>by rw[Zah (λz=>by rw[z,d3]at e;cases e)];exact e⟩
theorem Zqw:FnOk P w K mg base CX0 3 a.f_LC a.d_LC ["thing","kinds"] (sp_LC K a):=by
 refine T.D_is_letter.u.ok ZpA (by walk_at "ln") (λAs A outer s H vs Q E hr h=>?_);have Aw:=hr.units;obtain⟨l,m,rfl,hl,q⟩:=h;refine⟨_,(Zaf (Zao (ZbA (Zal (Zmo T) (hM hr) rfl T.D_is_word Zan (Zaa (pv 0) (Zaa (pv 1) (Zaa Zak Zac)))) (Zb7 (ZaW (ZaO (K:=K) rfl Aw) (Zap (Zau (K:=K) rfl) rfl T.z_len ZaT (Zaa (pv 0) Zac)) Zak (Zaz _)))))),?_⟩;walk_at "rd";refine⟨l,m,1,rfl,hl,λH1 s1=>⟨_,rfl,ite2 (λh=>?_) (λh=>?_)⟩⟩
 .refine⟨_,_,rfl,Zbn hl,.inl ⟨rfl,?_⟩⟩;have e:=q H1 s1;unfold isl at e;rw[h,YCa]at e;rw[YAJ YAC];simpa using e
 .have e:=q H1 s1;unfold isl at e;rw[YBc.mpr h,YBi]at e;exact e
theorem Zms:FnOk P w K mg base CX0 3 a.f_K5 a.d_K5 ["thing"] (sp_K5 K a):=by refine T.D_need_kinds.u.ok Zp3 (by walk_at "ln") (λAs A outer s H vs Q E hr h=>?_);obtain⟨l,rfl,hl,hk,q⟩:=h;refine⟨_,(Zaf (Za7 (ZbM (Zbv (Zal (Zqt T) (hM hr) rfl T.D_is_kinds Zan (Zaa (pv 0) Zac)))) (Zaf Zee) ZaA)),?_⟩;walk_at "rd";refine⟨l,rfl,hl,λH2 s2=>⟨_,rfl,?_⟩⟩;rw[hk,YCb];exact iteF (q H2 s2)
theorem Zqv:FnOk P w K mg base CX0 3 a.f_LD a.d_LD ["thing","kinds","most"] (sp_LD K a):=by refine T.D_need_word.u.ok Zpz (by walk_at "ln") (λAs A outer s H vs Q E hr h=>?_);obtain⟨l,m,most,rfl,hl,hk,q⟩:=h;refine⟨_,(Zaf (Za7 (ZbM (Zbv (Zal (Zmo T) (hM hr) rfl T.D_is_word Zan (Zaa (pv 0) (Zaa (pv 1) (Zaa (pv 2) Zac)))))) (Zaf Zee) ZaA)),?_⟩;walk_at "rd";refine⟨l,m,most,rfl,hl,λH2 s2=>⟨_,rfl,?_⟩⟩;rw[hk,YCb];exact iteF (q H2 s2)
theorem Zqk:FnOk P w K mg base CX0 3 a.f_ME a.d_ME ["one","other"] (sp_ME K a):=by refine T.D_plus.u.ok Zpr (by walk_at "ln") (λAs A outer s H vs Q E hr h=>?_);obtain⟨p,r,x,y,z,u,n,rfl,hp,hr_,hy,hu,bx,by_,bz,bu,n8,q⟩:=h;refine⟨_,(Zaf (Zao (Zal (Zmp T) (hM hr) rfl T.D_fraction Zan (Zaa (Zar Zbo (Zar ZbC (ZaY (ZaF (K:=K) rfl) (pv 0) Zak (λ_ _=>rfl)) (ZaY (ZaF (K:=K) rfl) (pv 1) Zak (λ_ _=>rfl))) (Zar ZbC (ZaY (ZaF (K:=K) rfl) (pv 1) Zak (λ_ _=>rfl)) (ZaY (ZaF (K:=K) rfl) (pv 0) Zak (λ_ _=>rfl)))) (Zaa (Zar ZbC (ZaY (ZaF (K:=K) rfl) (pv 0) Zak (λ_ _=>rfl)) (ZaY (ZaF (K:=K) rfl) (pv 1) Zak (λ_ _=>rfl))) Zac))))),?_⟩;walk_at "rd";have b2:Bt (n+n) (x*u):=bx.mul bu;have b3:Bt (n+n) (z*y):=bz.mul by_;have b4:Bt (n+n) (y*u):=by_.mul bu;refine⟨p,_,_,_,rfl,rfl,.mk hp,rfl,r,_,_,_,rfl,rfl,.mk hr_,rfl,_,_,rfl,rfl,⟨n,by lia,bx,bu⟩,r,_,_,_,rfl,rfl,.mk hr_,rfl,p,_,_,_,rfl,rfl,.mk hp,rfl,_,_,rfl,rfl,⟨n,by lia,bz,by_⟩,_,_,rfl,rfl,p,_,_,_,rfl,rfl,.mk hp,rfl,r,_,_,_,rfl,rfl,.mk hr_,rfl,_,_,rfl,rfl,⟨n,by lia,by_,bu⟩,?_⟩;exact⟨_,_,n+n,rfl,Int.add_nonneg b2.1 b3.1,Int.mul_pos hy hu,b4,by lia,q⟩
theorem Zoi:FnOk P w K mg base CX0 3 a.bG a.cG ["self"] (sp_KF K a):=by
 refine T.M_Band_lacking.u.ok Zh7 (by walk_at "ln") (λAs A outer s H vs Q E hr h=>?_);obtain⟨p,l,m,rfl,hp,ok,q⟩:=h;refine⟨_,(Zab (Zam (i:=1) Zh7.nd (ZbX Zac))
  (Zab (Zam (i:=2) Zh7.nd (ZaE (pv 0) T.az T.av (Zod T) (hM hr) T.M_Band_words.b .nil Zan (Zaa Zak Zac)))
  (Zab (Za8 YAo rfl (ZdO rfl T.z_range (Zaa Zak (Zaa (Zar Zbo (Zav (pv 0) T.az T.ax (ZqI T) (hM hr) T.M_Band_reach.b .nil Zan) Zak) Zac))) (Zax (i:=3) Zh7.nd rfl (Or.inl rfl))
  (Zab (Zam (i:=4) Zh7.nd (ZaE (pv 0) T.az T.av (Zod T) (hM hr) T.M_Band_words.b .nil Zan (Zaa (pv 3) Zac)))
  (Zab (ZaH (ZeY YBO PySem.F.slot_list_extend PySem.F.type_list_extend Zi7 (pv 1) (Zaa (Zal (ZqE T) (hM hr) rfl T.D_among Zan (Zaa (pv 2) (Zaa (pv 4) (Zaa (Zay (K:=K) rfl (pv 0) rfl) Zac)))) Zac)))
  (Zaf (Zam (i:=2) Zh7.nd (pv 4))))))
  (Zaf (Zao (pv 1)))))),?_⟩
 obtain⟨dx,hp⟩:=hp;have l40:=ok.l40;have m4:=ok.m4;walk_at "rd";refine⟨YAt _,NewL.of λpf H1 s1 nf lf=>?_⟩;refine⟨p,dx,_,rfl,s1 _ _ hp,Zdf (by decide +kernel) (by decide +kernel),p,l,m,0,rfl,⟨dx,s1 _ _ hp⟩,ok,YAt _,λq0 H2 s2 n2 e2=>?_⟩;refine⟨p,dx,_,rfl,(s1.trans s2) _ _ hp,Zdf (by decide +kernel) (by decide +kernel),p,l,m,rfl,⟨dx,(s1.trans s2) _ _ hp⟩,ok,?_⟩;walk_at "rd";have ej:((l.length:Nat)+1+1-1:Int).toNat=l.length+1:=by lia
 refine⟨_,_,rfl,⟨by lia,by lia,by lia,by lia⟩,?_⟩;rw[ej];refine ForRun.range (λi U H'=>∃(v3 v4:Option V) (q0:AE),U=[some (.ref p),some (.ref pf),some (.ref q0),v3,v4]/\Same H H'/\H' pf=some (.lst ((ZcW l m i).map tx))/\H' q0=some (.lst ((wordsOf l i).map tx))/\pf≠q0) ⟨_,_,q0,rfl,s1.trans s2,s2 _ _ lf,e2,Zai lf n2⟩ ?_ ?_
 .rintro i U H3 hi ⟨v3,v4,q0,rfl,s3,h3,h4,ne0⟩;have e1:(1+(i:Int))=((i+1:Nat):Int):=by lia
  have ll:=Zde (l:=l) (m:=m) (i:=i) m4 l40 (by lia);have la:=Zde (l:=l) (m:=m) (i:=i+1) m4 l40 (by lia);rw[ZdY,YAG]at la;rw[e1];walk_at "rd";refine⟨p,dx,_,rfl,s3 _ _ hp,Zdf (by decide +kernel) (by decide +kernel),p,l,m,i+1,rfl,⟨dx,s3 _ _ hp⟩,ok,by lia,λq1 H4 s4 n4 e4=>?_⟩;have h3':=s4 _ _ h3;have ne1:pf≠q1:=Zai h3 n4;refine⟨.inl ⟨rfl,_,.mk h3'⟩,p,_,dx,_,_,rfl,(s3.trans s4) _ _ hp,T.az,T.ak,ZeB,?_⟩;refine⟨q0,q1,wordsOf l i,wordsOf l (i+1),m,rfl,s4 _ _ h4,e4,by have:=ZdF l i;lia,m4,λw hw=>by have:=(Za4 (l:=l) (by lia)).mp hw;lia,λr H5 s5 n5 e5=>?_⟩;refine⟨pf,r,_,_,rfl,rfl,s5 _ _ h3',e5,by rw[YAB,YAB,sizeLine_eq];lia,_,_,q1,rfl,same_upd3 (s3.trans (s4.trans s5)) nf,?_,?_,ne1⟩
  .rw[Zae,ZdY,YAb]
  .rw[Zah (YAk ne1)];exact s5 _ _ e4
 .rintro U H3 ⟨v3,v4,q0,rfl,s3,h3,h4,ne0⟩;walk_at "rd";exact q pf H3 s3 h3
theorem Zn7:FnOk P w K mg base CX0 3 a.f_LK a.d_LK ["thing"] (sp_LK K a):=by refine T.D_is_name.u.ok Zpv (by walk_at "ln") (λAs A outer s H vs Q E hr h=>?_);have Aw:=hr.units;obtain⟨n,rfl,hn,q⟩:=h;refine⟨_,(Zaf (Zao (ZbA (Zal (Zmo T) (hM hr) rfl T.D_is_word Zan (Zaa (pv 0) (Zaa (Zhm rfl T.c_KD) (Zaa (Zdx rfl T.c_KG) Zac)))) (Zb7 (ZaW (ZbB (K:=K) rfl Aw) (pv 0) (ZaD (l:=[]) (by decide +kernel)) (Zaz _)))))),?_⟩;walk_at "rd";rw[Zjb];have n8:=ZgN hn;unfold isn at hn;rw[YAX]at hn;refine⟨_,LET,8,rfl,by lia,λH2 s2=>?_⟩;rw[hn.1];exact⟨_,rfl,iteT (.inl ⟨rfl,by rw[YAM rfl,Zcr,<-decide_not,hn.2];exact q H2 s2⟩)⟩
theorem Zn4:FnOk P w K mg base CX0 3 a.f_LQ a.d_LQ ["lesser","longer","reason"] (sp_LQ K a):=by
 refine T.D_filled.u.ok ZnB (by walk_at "ln") (λAs A outer s H vs Q E hr h=>?_);obtain⟨s_,L,rs,m,rfl,hL,ex,hm,hrise,tk,q⟩:=h;refine⟨_,(Zab (Zam (i:=3) ZnB.nd (ZaY (ZcZ (K:=K) rfl) (Zal (Zob T) (hM hr) rfl T.D_fresh Zan (Zaa (pv 0) (Zaa (pv 1) Zac))) Zak (λ_ _=>rfl)))
  (Zaf (Zao (ZbX (Zaa (ZbW (Zaa (pv 3) (Zaa (ZbW (Zaa (pv 2) (Zaa (Zln (K:=K) rfl PySem.F.plainAttrs_str PySem.F.slot_str_find PySem.F.type_str_find Zhs (pv 1) (Zaa (pv 3) Zac)) Zac))) Zac))) Zac))))),?_⟩
 walk_at "rd";refine⟨s_,L,rfl,hL,ex,tk,λF r H1 pw mF sl tk1 nr lr=>?_⟩;walk_at "rd?";obtain⟨w0,F',rfl⟩:∃w0 F',F=w0::F':=by
  have:L∈F:=(mF L).mpr ⟨Inf.refl L,λz=>by have:=z.len;have:=ex.len;lia⟩;cases F with
  | nil=>cases this
  | cons x F'=>exact⟨x,F',rfl⟩
 have f0:=(mF w0).mp YAd;have hmn:∀w,Frs s_ L w->¬BefW w w0:=λw hw hb=>by
  rcases YAH.mp ((mF w).mpr hw) with rfl | h
  .exact Zc4 hb
  .exact Zgj hb ((YBB.mp pw).1 w h)
 have eF:=ZkW ex hm hrise f0 hmn;refine⟨r,_,_,_,rfl,rfl,.mk lr,atI0,rfl,L,w0,rfl,rfl,λk hk=>⟨sz _ (by decide),NewT.of λt1 H2 s2 n2 l2=>⟨sz _ (by decide),NewT.of λt2 H3 s3 n3 l3=>⟨sz _ (by decide),NewL.of λp4 H4 s4 n4 l4=>?_⟩⟩⟩⟩;have ek:k=((fpl L w0:Nat):Int):=by
  rcases hk with⟨_,no⟩|⟨i,rfl,at_,mn⟩
  .exact absurd f0.1 no
  .rw[ZlC at_ mn]
 have s14:=s2.trans (s3.trans s4);refine q [.ref t2] p4 H4 (sl.trans s14.l) (tk1.same s14) ((((Nw.of n4).same s3).same s2).l sl) l4 ?_;subst ek;unfold ZcJ;rw[eF];refine⟨rfl,λi y hy=>?_⟩
 match i,hy with
 | 0,hy=>
  cases hy;exact⟨_,rfl,t2,t1,rfl,s4 _ _ l3,(s3.trans s4) _ _ l2⟩
theorem Zn3:FnOk P w K mg base CX0 3 a.f_LV a.d_LV ["lesser","longer","kinds","reason"] (sp_LV K a):=by
 refine T.D_opened.u.ok Zh4 (by walk_at "ln") (λAs A outer s H vs Q E hr h=>?_);have hu1:=ZaC hr;obtain⟨s_,L,rs,m,rfl,hL,ex,hm,hrise,m4,tk,q⟩:=h;refine⟨_,(Zab (Zeq (i:=4) Zh4.nd rfl (Or.inr rfl) ZcQ)
  (Zad (Zab (Za8 YAo rfl (ZaU (K:=K) rfl (Zal (Zob T) (hM hr) rfl T.D_fresh Zan (Zaa (pv 0) (Zaa (pv 1) Zac)))) (Zax (i:=5) Zh4.nd rfl (Or.inl rfl))
  (Zab (Zam (i:=6) Zh4.nd (ZbW (Zaa (pv 3) (Zaa (pv 5) (Zaa (Zln (K:=K) rfl PySem.F.plainAttrs_str PySem.F.slot_str_find PySem.F.type_str_find Zhs (pv 1) (Zaa (pv 5) Zac)) Zac)))))
  (Zaf (Za8 YAo rfl (ZdN (pv 2)) (Zax (i:=7) Zh4.nd rfl (Or.inl rfl))
  (Zaf (Za8 YAo rfl (ZaU (K:=K) rfl (ZbX (Zaa (Zar Za1 (pv 5) (pv 7)) (Zaa (Zar Za1 (pv 7) (pv 5)) Zac)))) (Zax (i:=8) Zh4.nd rfl (Or.inl rfl))
  (Zaf (Za7 (Zbv (Zal (ZqC T) (hM hr) rfl T.D_lacks Zan (Zaa (pv 1) (Zaa (pv 8) Zac)))) (Zad (Zaf (Zc9 hu1 (pv 4) (pv 8) (pv 6) rfl))) ZaA))))))))
  (Zaf (Zao (Zcm (N:=["word","found"]) (ix:=[none,some 4]) rfl (Zbk rfl) rfl (ZaU (K:=K) rfl (Zal (Zkn T) (hM hr) rfl T.D_in_order Zan (Zaa (Za0 (Zip rfl) rfl T.z_list Zct (Zaa (pv 4) Zac)) Zac))) (λ_ _ _ _=>(Zax (i:=0) (show (["word","found"]:AK).Nodup from by decide +kernel) rfl (Or.inl rfl) (Or.inr rfl))) (λ_ _ _ _=>Zcw) (λ_ _ _ _=>(ZbW (Zaa (pv 0) (Zaa (Zb5 hu1 (pv 1) (pv 0) (λ_ _=>rfl)) Zac)))))))))),?_⟩
 walk_at "rd";intro pd hpd;walk_at "g";have s0:Same H (upd H pd (.dK [])):=Zat hpd;have h0:upd H pd (.dK []) pd=some (.dK []):=Zae;generalize upd H pd (.dK [])=H0 at s0 h0;refine⟨s_,L,rfl,hL,ex,tk.same s0,λF pF H1 pw mF sl tk1 nF lF=>?_⟩;have d1:=sl _ _ h0 rfl;have nFd:pd≠pF:=λz=>by rw[z,lF]at d1;cases d1
 have FL:F.length<=82:=by have nd:F.Nodup:=ZbD pw;have hs:∀w∈F,w∈Zba L L.length:=λw hw=>ZfK.mpr ((Zjy ex).mp ((mF w).mp hw)).1;have:=Zcn F _ nd hs;rw[Zc2]at this;lia
 refine⟨pF,rfl,⟨_,.mk lF⟩,ForRun.list (xs:=F.map tx) (λi U H'=>∃v5 v6 v7 v8 kvs ws,U=[some (tx s_),some (tx L),some (tx m),some (tx rs),some (.ref pd),v5,v6,v7,v8]/\(∀b o,H1 b=some o->b≠pd->H' b=some o)/\H' pd=some (.dK kvs)/\DI H' s_ L rs (λw=>∃sh∈F.take i,∃c∈m,w=sh++[c]\/w=c::sh) kvs ws/\kvs.length<=i*8) ⟨_,_,_,_,[],[],rfl,λb o e _=>e,d1,⟨rfl,by simp,λw=>by simp,by simp⟩,by simp⟩ (λi U H' _ ⟨_,_,_,_,_,_,_,k',_⟩=>.mk (k' _ _ lF (YAk nFd))) ?_ ?_⟩
 .rintro i x U H2 hx ⟨v5,v6,v7,v8,kvs,ws,rfl,k2,d2,i2,n2⟩;obtain⟨sh,hsh,rfl⟩:∃sh,F[i]?=some sh/\x=tx sh:=by
   rw[YAQ]at hx;cases e:F[i]? with
   | none=>rw[e]at hx;cases hx
   | some sh=>rw[e]at hx;exact⟨sh,rfl,(Option.some.inj hx).symm⟩
  have fsh:=(mF sh).mp (YAh hsh);have shl:=fsh.1.len;have hi:i<F.length:=(YAU.mp hsh).1;walk_at "rd";refine⟨rfl,L,sh,rfl,rfl,λr hr=>⟨sz _ (by decide),NewT.of λt1 H3 s3 n3 l3=>?_⟩⟩;have er:r=((fpl L sh:Nat):Int):=by
   rcases hr with⟨_,no⟩|⟨i,rfl,at_,mn⟩
   .exact absurd fsh.1 no
   .rw[ZlC at_ mn]
  subst er;have d3:=s3 _ _ d2;refine⟨m,rfl,ForRun.text (λj U H'=>∃v7 v8 kvs ws,U=[some (tx s_),some (tx L),some (tx m),some (tx rs),some (.ref pd),some (tx sh),some (.ref t1),v7,v8]/\(∀b o,H1 b=some o->b≠pd->H' b=some o)/\H' t1=some (.tup [tx rs,tx sh,.int ((fpl L sh:Nat):Int)])/\H' pd=some (.dK kvs)/\DI H' s_ L rs (λw=>(∃sh∈F.take i,∃c∈m,w=sh++[c]\/w=c::sh)\/∃c∈m.take j,w=sh++[c]\/w=c::sh) kvs ws/\kvs.length<=i*8+2*j) ⟨_,_,_,_,rfl,λb o e nb=>s3 _ _ (k2 b o e nb),l3,d3,i2.grow (λb us e=>s3 _ _ e) (λw _=>by simp),by lia⟩ ?_ ?_⟩
  .rintro j c U H4 hc ⟨v7,v8,kvs,ws,rfl,k4,t4,d4,i4,n4⟩;have hcm:c∈m:=YAh hc;have hj:j<m.length:=(YAU.mp hc).1;walk_at "rd";refine⟨sz _ (by lia),sz _ (by lia),sz _ (by decide),NewL.of λpl H5 s5 n5 l5=>?_⟩;have nl:pd≠pl:=Zai d4 n5;refine⟨pl,rfl,⟨_,.mk l5⟩,ForRun.list (xs:=[tx (sh++[c]),tx (c::sh)]) (λk U H'=>∃v8 kvs ws,U=[some (tx s_),some (tx L),some (tx m),some (tx rs),some (.ref pd),some (tx sh),some (.ref t1),some (tx [c]),v8]/\(∀b o,H1 b=some o->b≠pd->H' b=some o)/\H' t1=some (.tup [tx rs,tx sh,.int ((fpl L sh:Nat):Int)])/\H' pl=some (.lst [tx (sh++[c]),tx (c::sh)])/\H' pd=some (.dK kvs)/\DI H' s_ L rs (λw=>((∃sh∈F.take i,∃c∈m,w=sh++[c]\/w=c::sh)\/∃c∈m.take j,w=sh++[c]\/w=c::sh)\/w∈[sh++[c],c::sh].take k) kvs ws/\kvs.length<=i*8+2*j+k) ⟨_,_,_,rfl,λb o e nb=>s5 _ _ (k4 b o e nb),s5 _ _ t4,l5,s5 _ _ d4,i4.grow (λb us e=>s5 _ _ e) (λw _=>by simp),by lia⟩ (λk U H' _ ⟨_,_,_,_,_,_,l',_⟩=>.mk l') ?_ ?_⟩
   .rintro k y U H6 hy ⟨v8,kvs,ws,rfl,k6,t6,l6,d6,i6,n6⟩;obtain⟨z,hz,rfl,ez⟩:∃z,[sh++[c],c::sh][k]?=some z/\y=tx z/\(z=sh++[c]\/z=c::sh):=by
     match k,hy with
     | 0,hy=>cases hy;exact⟨_,rfl,rfl,.inl rfl⟩
     | 1,hy=>cases hy;exact⟨_,rfl,rfl,.inr rfl⟩
    have zl:z.length=sh.length+1:=by rcases ez with rfl | rfl<;>simp
    have zne:z≠[]:=λe=>by rw[e]at zl;simp at zl
    have hk:k<2:=(YAU.mp hz).1;walk_at "rd";refine⟨L,z,rfl,by lia,by lia,_,rfl,?_⟩;have tkS:∀w,w∈[sh++[c],c::sh].take (k+1)↔(w∈[sh++[c],c::sh].take k\/w=z):=λw=>by rw[Zce hz,YAR,YAI]
    cases hb:Zjg L z with
    | false=>
     have nm:¬Miss L z:=λh=>by rw[(ZfP zne).mpr h]at hb;cases hb
     refine iteF ⟨_,kvs,ws,rfl,k6,t6,l6,d6,i6.grow (λ_ _ e=>e) (λw mw=>?_),by lia⟩;rw[tkS];constructor
     .rintro (h | h)
      .exact .inl h
      .exact .inr (.inl h)
     .rintro (h | h | h)
      .exact .inl h
      .exact .inr h
      .exact absurd (h▸mw) nm
    | true=>
     have mz:=(ZfP zne).mp hb;refine iteT ?_;walk_at "g";have es:shOf s_ z=sh:=ZnY ex fsh ez mz;obtain⟨ws',i7⟩:=i6.put (x:=z) (b:=t1) mz (by rw[es];exact t6);have np:pd≠pl:=λe=>by rw[e,l6]at d6;cases d6
     have nt:t1≠pd:=λe=>by rw[e,d6]at t6;cases t6
     have lp:=ZbF kvs (kTx z) (.ref t1);refine⟨pd,_,rfl,DPut.k (k:=kTx z) d6 (YAs (show _<9000 by lia) (sz 9000 (YAP _))),_,putK kvs (kTx z) (.ref t1),ws',rfl,λb o e nb=>by rw[Zah nb];exact k6 b o e nb,by rw[Zah nt];exact t6,by rw[Zah (YAk np)];exact l6,Zae,i7.grow (λb us e=>?_) (λw _=>?_),by lia⟩
     .rw[Zah (λe2=>by rw[e2,d6]at e;cases e)];exact e
     .rw[tkS];constructor
      .rintro ((h | h) | h)
       .exact .inl h
       .exact .inr (.inl h)
       .exact .inr (.inr h)
      .rintro (h | h | h)
       .exact .inl (.inl h)
       .exact .inl (.inr h)
       .exact .inr h
   .rintro U H6 ⟨v8,kvs,ws,rfl,k6,t6,l6,d6,i6,n6⟩;refine⟨_,_,kvs,ws,rfl,k6,t6,d6,i6.grow (λ_ _ e=>e) (λw _=>?_),by simp at n6;lia⟩;rw[Zce hc];simp only[YAR,YAI];constructor
    .rintro ((h | ⟨d,hd,h⟩) | h)
     .exact .inl h
     .exact .inr ⟨d,.inl hd,h⟩
     .exact .inr ⟨c,.inr rfl,by simpa using h⟩
    .rintro (h | ⟨d,hd | rfl,h⟩)
     .exact .inl (.inl h)
     .exact .inl (.inr ⟨d,hd,h⟩)
     .exact .inr (by simpa using h)
  .rintro U H4 ⟨v7,v8,kvs,ws,rfl,k4,t4,d4,i4,n4⟩;refine⟨_,_,_,_,kvs,ws,rfl,k4,d4,i4.grow (λ_ _ e=>e) (λw _=>?_),by lia⟩;rw[YBL,Zce hsh];simp only[YAR,YAI];constructor
   .rintro (⟨s',hs,h⟩ | h)
    .exact⟨s',.inl hs,h⟩
    .exact⟨sh,.inr rfl,h⟩
   .rintro⟨s',hs | rfl,h⟩
    .exact .inl ⟨s',hs,h⟩
    .exact .inr h
 .rintro U H2 ⟨v5,v6,v7,v8,kvs,ws,rfl,k2,d2,i2,n2⟩;walk_at "rd";rw[YAB,YBL]at i2;have e3:kvs.map (λp=>kV p.1)=ws.map tx:=by
   have:kvs.map (λp=>kV p.1)=(kvs.map (·.1)).map kV:=by rw[YAl];rfl
   rw[this,i2.keys,YAl];rfl
  refine⟨pd,kvs,rfl,.inl d2,NewL.of λp3 H3 s3 n3 l3=>?_⟩;rw[e3]at l3;have mws:∀w,w∈ws↔w∈opnL s_ L m:=λw=>by
   rw[i2.mem,Ze0,<-Zmk ex hm];constructor
   .rintro⟨ms,sh,h1,c,h2,h3⟩;exact⟨sh,c,(mF sh).mp h1,h2,h3,ms⟩
   .rintro⟨sh,c,h1,h2,h3,ms⟩;exact⟨ms,sh,(mF sh).mpr h1,c,h2,h3⟩
  have tk2:=Ziz tk1 k2 d1 rfl rfl;refine⟨p3,ws,rfl,l3,λw hw=>?_,tk2.same s3,λws' r H4 pm pw4 sl4 tk4 nr lr=>?_⟩
  .have:=((i2.mem w).mp hw).1.init.len;rw[YBJ]at this;lia
  .have ew:ws'=opnL s_ L m:=Zby (ZbK pm pw4 i2.nd) ((ZaP hrise).filter _) λw=>by rw[pm.mem_iff,mws]
   subst ew;have d4:=sl4 _ _ (s3 _ _ d2) rfl;have ol:(opnL s_ L m).length<=9000:=by have:=pm.length_eq;have e5:=congrArg List.length e3;rw[YAB,YAB]at e5;rw[YAB]at n2;lia
   refine⟨r,rfl,⟨_,.mk lr⟩,CompRun.tups (xs:=(opnL s_ L m).map tx) (λi vs=>∃w b,(opnL s_ L m)[i]?=some w/\vs=[tx w,.ref b]/\valV kvs (kTx w)=some (.ref b)) (by rw[YAB];lia) (.mk lr) ?_ ?_⟩
   .intro i H5 Q5 hi s5 q5;rw[YAB]at hi;rw[Zco hi];have hw:(opnL s_ L m)[i]?=some ((opnL s_ L m).getD i []):=by rw[YAT,YAL hi];rfl
    obtain⟨b,hv,_⟩:=i2.val _ ((mws _).mpr (YAh hw));walk_at "rd";have dg:=DGet.k (k:=kTx ((opnL s_ L m).getD i [])) (s5 _ _ d4);rw[hv]at dg;refine⟨pd,_,rfl,dg,sz _ (by decide),NewT.of λt6 H6 s6 n6 l6=>q5 t6 _ H6 s6 l6 ⟨_,b,hw,rfl,hv⟩⟩
   .intro p5 ys H5 s5 n5 l5 yl hys;have n4':Nw H p5:=((((Nw.of n5).l sl4).same s3).chg (S:=[pd]) (H:=H1) (λb o e nb _=>k2 b o e (by simpa using nb)) (λb hb=>by obtain rfl:=YAI.mp hb;exact⟨_,d2,rfl⟩)).l (s0.l.trans sl);refine q ys p5 H5 (λb o e t=>?_) (tk4.same s5) n4' l5 ⟨?_,λi y hy=>?_⟩
    .have nb:b≠pd:=Zai e hpd;exact s5 _ _ (sl4 _ _ (s3 _ _ (k2 _ _ (sl _ _ (s0 _ _ e) t) nb)) t)
    .unfold ZcE;rw[YAB,yl,YAB]
    .obtain⟨t,vs,rfl,ht,w,b,hw,rfl,hv⟩:=hys i y hy;obtain⟨b',hv',hb'⟩:=i2.val w ((mws w).mpr (YAh hw));obtain rfl:b=b':=by rw[hv]at hv';injection hv' with e;injection e
     refine⟨_,by unfold ZcE;rw[YAQ,hw];rfl,t,b,rfl,ht,s5 _ _ (sl4 _ _ (s3 _ _ hb') rfl)⟩
theorem ZqJ:FnOk P w K mg base CX0 4 a.f_KP a.d_KP ["thing","kinds"] (sp_KP K a):=by refine T.D_need_letter.u.ok ZpR (by walk_at "ln") (λAs A outer s H vs Q E hr h=>?_);obtain⟨l,m,rfl,hl,hk,q⟩:=h;refine⟨_,(Zaf (Za7 (ZbM (Zbv (Zal (Zqw T) (hM hr) rfl T.D_is_letter Zan (Zaa (pv 0) (Zaa (pv 1) Zac))))) (Zaf Zee) ZaA)),?_⟩;walk_at "rd";refine⟨l,m,rfl,hl,λH2 s2=>⟨_,rfl,?_⟩⟩;rw[hk,YCb];exact iteF (q H2 s2)
theorem Zqs:FnOk P w K mg base CX0 4 a.f_LP a.d_LP ["one","other"] (sp_LP K a):=by
 refine T.D_reasons.u.ok Zkc (by walk_at "ln") (λAs A outer s H vs Q E hr h=>?_);obtain⟨p1,p2,l1,l2,m,rfl,h1,h2,tk,ok1,ok2,q⟩:=h;refine⟨_,(Zab (ZaH (Zal (Zmr T) (hM hr) rfl T.D_same_kinds Zan (Zaa (pv 0) (Zaa (pv 1) Zac))))
  (Zad (Zab (Zeq (i:=2) Zkc.nd rfl (Or.inr rfl) (Zer (Zav (pv 0) T.az T.am (Zoi T) (hM hr) T.M_Band_lacking.b .nil Zan) (Zav (pv 0) T.ac T.aY (Zoj T) (hM hr) T.M_Strip_lacking.b .nil Zan)))
  (Zad (Zab (Zam (i:=3) Zkc.nd (Zer (Zav (pv 1) T.az T.am (Zoi T) (hM hr) T.M_Band_lacking.b .nil Zan) (Zav (pv 1) T.ac T.aY (Zoj T) (hM hr) T.M_Strip_lacking.b .nil Zan)))
  (Zad (Zab (Zam (i:=4) Zkc.nd (Zal (Zkn T) (hM hr) rfl T.D_in_order Zan (Zaa (Zap (Zb8 rfl) rfl T.z_sorted Zb2 (Zaa (Zar (Zml (P:=P) (w:=w) rfl rfl) (Za0 (ZbJ rfl) rfl T.z_set Zge (Zaa (pv 2) Zac)) (Za0 (ZbJ rfl) rfl T.z_set Zge (Zaa (pv 3) Zac))) Zac)) Zac)))
  (Zad (Zaf (Zao (Zcm (N:=["word","first"]) (ix:=[none,some 2]) rfl (Zbk rfl) rfl (ZaU (K:=K) rfl (pv 4)) (λ_ _ _ _=>(Zax (i:=0) (show (["word","first"]:AK).Nodup from by decide +kernel) rfl (Or.inl rfl) (Or.inr rfl))) (λ_ _ _ _=>Zcw) (λ_ _ _ _=>(ZbW (Zaa (pv 0) (Zaa (Zkl (Zaw (Zdc (K:=K) rfl) (pv 0) (pv 1) rfl) Zak Zak) Zac))))))))))))))),?_⟩
 walk_at "rd";have o1:=lsOk ok1;have o2:=lsOk ok2;have n1:=o1.len;have n2:=o2.len;refine⟨p1,p2,l2,m,rfl,.inl ⟨l1,h1⟩,h2,?_⟩;walk_at "h";apply ZdG (C:=λr H'=>Same H H'/\H' r=some (.lst ((Zaq l1 m).map tx)))
 .intro tail;exact Zea h1 (by decide +kernel) (by decide +kernel) (by decide +kernel) (λr=>⟨p1,l1,m,rfl,r,ok1,λq H2 s e=>tail q H2 ⟨s,e⟩⟩) (λla da ds h=>⟨p1,la,da,l1,m,ds,rfl,h,λr n=>tail r _ ⟨Zat n,Zae⟩⟩)
 rintro r1 H1 ⟨s1,e1⟩;walk_at "g";have h2:=h2.l s1.l;apply ZdG (C:=λr H'=>Same H1 H'/\H' r=some (.lst ((Zaq l2 m).map tx)))
 .intro tail;exact Zea h2 (by decide +kernel) (by decide +kernel) (by decide +kernel) (λr=>⟨p2,l2,m,rfl,r,ok2,λq H2 s e=>tail q H2 ⟨s,e⟩⟩) (λla da ds h=>⟨p2,la,da,l2,m,ds,rfl,h,λr n=>tail r _ ⟨Zat n,Zae⟩⟩)
 rintro r2 H2 ⟨s2,e2⟩;have e1:=s2 _ _ e1;have s02:=s1.trans s2;walk_at "g";refine⟨Zaq l1 m,by lia,.inr ⟨r1,rfl,.mk e1⟩,λt1 f1=>⟨Zaq l2 m,by lia,.inr ⟨r2,rfl,.mk (Zat f1 _ _ e2)⟩,λt2 f2=>?_⟩⟩;have l1':=ZlH (Zaq l1 m);have l2':=ZlH (Zaq l2 m);have ne12:t1≠t2:=λz=>by rw[<-z,Zae]at f2;cases f2
 refine⟨t1,t2,_,_,rfl,rfl,by rw[Zah ne12,Zae],Zae,ZbY _,ZbY _,ne12,by lia,λt3 f3=>⟨t3,_,rfl,Zae,sz _ ?_,NewL.of λt4 H4 s4 f4 e4=>?_⟩⟩
 .unfold xorT;rw[YAG];have:=YAm (λx=>decide (x∉ddl (Zaq l2 m))) (ddl (Zaq l1 m));have:=YAm (λx=>decide (x∉ddl (Zaq l1 m))) (ddl (Zaq l2 m));lia
 have s24:Same H2 H4:=((Zat f1).trans ((Zat f2).trans (Zat f3))).trans s4;have s04:=s02.trans s24;have dx:=Zf7 (a:=Zaq l1 m) (b:=Zaq l2 m) (List.Perm.refl _);refine⟨t4,_,rfl,e4,λw hw=>by have:=(Zf6 dx o1 o2 hw).2;lia,tk.same s04,λws' r H5 pm pw s5 tk5 n5 e5=>?_⟩;have df:=Zf7 pm;have bw:=ZbK pm pw dx.nd;have nw:=ZdE df o1 o2;have e15:=s5 _ _ (s24 _ _ e1) rfl;walk_at "h";refine⟨r,rfl,⟨_,.mk e5⟩,CompRun.dataF (xs:=ws'.map tx) (λ_=>true) (λH y i=>∃t,y=.ref t/\H t=some (.tup [tx (ws'.getD i []),.int (if ws'.getD i []∈Zaq l1 m then 0 else 1)])) (λ_ _ _ _ k ⟨t,e,h⟩=>⟨t,e,k _ _ h⟩) (by rw[YAB];lia) (.mk e5) (λi H' Q' h s' q'=>q' _ (Same.refl _)) (λi H' Q' h _ s' q'=>?_) (λp6 ys6 H6 s6 n6 h6 e6 al6=>?_)⟩
 .rw[Zco (by simpa using h)];walk_at "rd";refine⟨r1,(Zaq l1 m).map tx,rfl,.inl (.mk (s' _ _ e15)),rfl,ZbH _,decide (ws'.getD i []∈Zaq l1 m),by rw[YAJ YAC,ZfV],?_⟩;by_cases z:ws'.getD i []∈Zaq l1 m
  .rw[decide_eq_true z];exact iteT ⟨sz 2 (by decide),NewT.of λt H7 s7 n7 l7=>q' _ _ s7 ⟨t,rfl,by rw[l7,YAM z]⟩⟩
  .rw[decide_eq_false z];exact iteF ⟨sz 2 (by decide),NewT.of λt H7 s7 n7 l7=>q' _ _ s7 ⟨t,rfl,by rw[l7,YAJ z]⟩⟩
 .rw[List.filter_eq_self.mpr (λ_ _=>rfl),YBM,YAB]at e6;refine q p6 ys6 ws' H6 ((s04.l.trans s5).trans s6.l) (tk5.same s6) (((Nw.of n6).l s5).same s04) h6 ⟨e6,λi y hy=>?_⟩ df;obtain⟨j,hj,t,e7,h7⟩:=al6 i y hy;rw[List.filter_eq_self.mpr (λ_ _=>rfl)]at hj;have hi:=(YAU.mp hy).1;rw[e6]at hi;rw[List.getElem?_range (by rw[YAB];exact hi)]at hj;cases hj;exact⟨ws'.getD i [],t,by rw[YAT,YAL hi];rfl,e7,h7⟩
theorem Zon:FnOk P w K mg base CX0 4 a.bM a.cO ["self","longer"] (sp_K3 K a):=by
 refine T.M_Strip_grow.u.ok Zmb (by walk_at "ln") (λAs A outer s H vs Q E hr h=>?_);obtain⟨p,la,da,s_,L,m,rfl,hp,hla,hL,ex,hm,ok,tk,q⟩:=h;refine⟨_,(Zad (Zab (Zam (i:=2) Zmb.nd (Zal (Zn3 T) (hM hr) rfl T.D_opened Zan (Zaa (Zay (K:=K) rfl (pv 0) rfl) (Zaa (pv 1) (Zaa (Zay (K:=K) rfl (pv 0) rfl) (Zaa (ZaD (l:=[102,105,114,115,116]) (by decide +kernel)) Zac))))))
  (Zad (Zab (Zam (i:=3) Zmb.nd (Zal (Zn4 T) (hM hr) rfl T.D_filled Zan (Zaa (Zay (K:=K) rfl (pv 0) rfl) (Zaa (pv 1) (Zaa (ZaD (l:=[115,116,97,110,100,115]) (by decide +kernel)) Zac)))))
  (Zad (Zaf (Zao (ZaE (pv 0) T.ac T.a9 (Zoh T) (hM hr) T.M_Strip_change.b .nil Zan (Zaa (pv 1) (Zaa (pv 2) (Zaa (pv 3) Zac))))))))))),?_⟩
 obtain⟨dx,f⟩:=hp;have m4:=ok.m4;walk_at "rd";walk_at "g";refine⟨p,_,dx,_,_,rfl,f,T.ac,T.aa,Zbc,p,_,dx,_,_,rfl,f,T.ac,T.ah,Zch,?_⟩;refine⟨s_,L,_,m,rfl,by lia,ex,hm,ok.rise,m4,tk,λys c H1 sl1 tk1 n1 l1 r1=>?_⟩;walk_at "g";have f1:=sl1 _ _ f rfl;refine⟨p,_,dx,_,_,rfl,f1,T.ac,T.aa,Zbc,?_⟩;refine⟨s_,L,_,m,rfl,by lia,ex,hm,ok.rise,tk1,λzs g H2 sl2 tk2 n2 l2 r2=>?_⟩;walk_at "g";have f2:=sl2 _ _ f1 rfl;have l12:=sl2 _ _ l1 rfl;have la2:=sl2 _ _ (sl1 _ _ hla rfl) rfl;have sl02:=sl1.trans sl2;have ncg:c≠g:=n2.ne l1 rfl;refine⟨p,dx,_,rfl,f2,sN,p,la,da,c,g,s_,L,m,Zaq s_ m,Zaq L m,ys,zs,_,_,rfl,⟨dx,f2⟩,la2,l12,r1.l sl2,l2,r2,ZaP ok.rise,ZaP ok.rise,?_,?_,?_,?_,?_,?_,?_,?_,tk2,?_⟩
 .rw[Zci];exact ZbD ((ZaP ok.rise).filter _)
 .intro w;rw[Zci,Ze0]
 .intro w;rw[Zcj,Ze1]
 .exact YAK (ZbZ m4 (by have:=ex.len;lia)) (by decide)
 .rw[<-YAB (f:=(·.1)),Zci];exact YAK (YAm _ _) (YAK (ZbZ m4 (by lia)) (by decide))
 .rw[<-YAB (f:=(·.1)),Zcj];exact YAK (YAm _ _) (YAK (ZbZ m4 (by have:=ex.len;lia)) (by decide))
 .intro w hw;have:=ZcV (by have:=ex.len;lia) hw;lia
 .intro w hw;have:=ZcV hL hw;lia
 .intro t la3 H3 ch3 f3 nl3 e3 t3 tk3;have np:∀us,H2 p≠some (.tup us):=λus z=>by rw[f2]at z;cases z
  have ncp:p≠c:=n1.ne f rfl;have ngp:p≠g:=n2.ne f1 rfl;refine q t c g la3 H3 (sl02.chg.trans ch3) f3 e3 ⟨t3,⟨ys,ch3 _ _ l12 (by simpa using YAk ncp) rfl,(r1.l sl2).chg ch3 (λb hb us=>by rw[YAI.mp hb];exact np us)⟩,⟨zs,ch3 _ _ l2 (by simpa using YAk ngp) rfl,r2.chg ch3 (λb hb us=>by rw[YAI.mp hb];exact np us)⟩,n1,n2.l sl1,nl3.l sl02,ncg,nl3.ne l12 rfl,nl3.ne l2 rfl⟩ tk3
theorem Zom:FnOk P w K mg base CX0 4 a.aT a.cI ["self","kinds"] (sp_K4 K a):=by
 refine T.M_Strip_init.u.ok Zp4 (by walk_at "ln") (λAs A outer s H vs Q E hr h=>?_);obtain⟨p,dx,m,rfl,hp,kok,q⟩:=h;refine⟨_,(Zab (ZaH (Zal (Zms T) (hM hr) rfl T.D_need_kinds Zan (Zaa (pv 1) Zac)))
  (Zad (Zab (ZaH (Zho rfl T.m_MA T.cS (Zol T) (hM hr) T.M_Band_init.u.kp T.M_Band_init.b .nil Zan (Zaa (pv 0) (Zaa (ZaD (l:=[]) (by decide +kernel)) (Zaa (pv 1) Zac)))))
  (Zad (Zab (Zcl (pv 0) (Za0 (Zdp rfl) rfl T.z_list Zct (Zaa (pv 1) Zac)) rfl)
  (Zad (Zaf (Zcl (pv 0) (ZbX Zac) rfl)))))))),?_⟩
 walk_at "rd";have m4:=kok.m4;refine⟨m,rfl,by lia,kok.k,λH1 s1=>?_⟩;walk_at "h";refine⟨p,dx,_,[],m,rfl,.inr rfl,s1 _ _ hp,λH2 f2 k2=>?_⟩;walk_at "h";refine⟨m,rfl,by lia,NewL.of λla H3 s3 n3 l3=>?_⟩;have f3:=s3 _ _ f2;refine⟨p,_,dx,_,rfl,f3,T.ac,T.af,(by show 2<1000;decide),?_⟩;walk_at "g";refine⟨YAt _,NewL.of λda H4 s4 n4 l4=>?_⟩;have nla:p≠la:=Zai f2 n3;have kr:=kok.kinds;have f4:=s4 _ _ (Zae (H:=H3) (a:=p) (o:=.ins a.c_LZ dx (putF (Str.ofString "own_lacking") (.ref la) (putF "own_kinds" (tx m) (putF "own_text" (tx []) [])))));have l4':upd H3 p (.ins a.c_LZ dx (putF (Str.ofString "own_lacking") (.ref la) (putF "own_kinds" (tx m) (putF "own_text" (tx []) [])))) la=some (.lst ((signs m).map tx)):=by rw[Zah (YAk nla)];exact l3
 have nda:p≠da:=Zai Zae n4;have ned:la≠da:=Zai l4' n4;have n3':H3 da=none:=by rw[Zah (YAk nda)]at n4;exact n4
 have back:∀b,b≠p->H2 b=none->H b=none:=λb hb e=>by
  cases z:H1 b with
  | none=>exact s1.free z
  | some o=>rw[k2 b o z hb]at e;cases e
 refine⟨p,_,dx,_,rfl,f4,T.ac,T.ad,(by show 3<1000;decide),q la da _ ⟨⟨dx,?_⟩,?_,⟨[],?_,rfl,λi y h=>by simp at h⟩,.nil,kr,ned⟩ (back la (YAk nla) n3) (back da (YAk nda) (s3.free n3')) λb o hb nb=>?_⟩
 .rw[Zae];exact congrArg (λz=>some (HO.ins a.c_LZ dx z)) Zll
 .rw[Zah (YAk nla),ZkD kr.rise];exact s4 _ _ l4'
 .rw[Zah (YAk nda)];exact l4
 .rw[Zah nb];exact s4 _ _ (by rw[Zah nb];exact s3 _ _ (k2 _ _ (s1 _ _ hb) nb))
theorem Zof:FnOk P w K mg base CX0 4 a.bN a.cP ["self","lesser"] (sp_KK K a):=by
 refine T.M_Strip_shrink.u.ok Zl9 (by walk_at "ln") (λAs A outer s H vs Q E hr h=>?_);obtain⟨p,la,da,s_,L,m,rfl,hp,hla,hL,ex,hm,ok,tk,q⟩:=h;refine⟨_,(Zab (Zam (i:=2) Zl9.nd (Zal (Zn4 T) (hM hr) rfl T.D_filled Zan (Zaa (pv 1) (Zaa (Zay (K:=K) rfl (pv 0) rfl) (Zaa (ZaD (l:=[115,116,111,111,100]) (by decide +kernel)) Zac)))))
  (Zab (Zam (i:=3) Zl9.nd (Zal (Zn3 T) (hM hr) rfl T.D_opened Zan (Zaa (pv 1) (Zaa (Zay (K:=K) rfl (pv 0) rfl) (Zaa (Zay (K:=K) rfl (pv 0) rfl) (Zaa (ZaD (l:=[108,97,115,116]) (by decide +kernel)) Zac))))))
  (Zaf (Zao (ZaE (pv 0) T.ac T.a9 (Zoh T) (hM hr) T.M_Strip_change.b .nil Zan (Zaa (pv 1) (Zaa (pv 2) (Zaa (pv 3) Zac)))))))),?_⟩
 obtain⟨dx,f⟩:=hp;have m4:=ok.m4;walk_at "rd";refine⟨p,_,dx,_,_,rfl,f,T.ac,T.aa,Zbc,?_⟩;refine⟨s_,L,_,m,rfl,by lia,ex,hm,ok.rise,tk,λys c H1 sl1 tk1 n1 l1 r1=>?_⟩;walk_at "rd?";have f1:=sl1 _ _ f rfl;refine⟨p,_,dx,_,_,rfl,f1,T.ac,T.aa,Zbc,p,_,dx,_,_,rfl,f1,T.ac,T.ah,Zch,?_⟩;refine⟨s_,L,_,m,rfl,by lia,ex,hm,ok.rise,m4,tk1,λzs g H2 sl2 tk2 n2 l2 r2=>?_⟩;walk_at "rd?";have f2:=sl2 _ _ f1 rfl;have l12:=sl2 _ _ l1 rfl;have la2:=sl2 _ _ (sl1 _ _ hla rfl) rfl;have sl02:=sl1.trans sl2;have ncg:c≠g:=n2.ne l1 rfl;refine⟨p,dx,_,rfl,f2,sN,p,la,da,c,g,L,s_,m,Zaq L m,Zaq s_ m,ys,zs,_,_,rfl,⟨dx,f2⟩,la2,l12,r1.l sl2,l2,r2,ZaP ok.rise,ZaP ok.rise,?_,?_,?_,?_,?_,?_,?_,?_,tk2,?_⟩
 .rw[Zcj];exact ZbD ((ZaP ok.rise).filter _)
 .intro w;rw[Zcj,Ze1]
 .intro w;rw[Zci,Ze0]
 .exact YAK (ZbZ m4 (by lia)) (by decide)
 .rw[<-YAB (f:=(·.1)),Zcj];exact YAK (YAm _ _) (YAK (ZbZ m4 (by have:=ex.len;lia)) (by decide))
 .rw[<-YAB (f:=(·.1)),Zci];exact YAK (YAm _ _) (YAK (ZbZ m4 (by lia)) (by decide))
 .intro w hw;have:=ZcV hL hw;lia
 .intro w hw;have:=ZcV (by have:=ex.len;lia) hw;lia
 .intro t la3 H3 ch3 f3 nl3 e3 t3 tk3;have np:∀us,H2 p≠some (.tup us):=λus z=>by rw[f2]at z;cases z
  have ncp:p≠c:=n1.ne f rfl;have ngp:p≠g:=n2.ne f1 rfl;refine q t c g la3 H3 (sl02.chg.trans ch3) f3 e3 ⟨t3,⟨ys,ch3 _ _ l12 (by simpa using YAk ncp) rfl,(r1.l sl2).chg ch3 (λb hb us=>by rw[YAI.mp hb];exact np us)⟩,⟨zs,ch3 _ _ l2 (by simpa using YAk ngp) rfl,r2.chg ch3 (λb hb us=>by rw[YAI.mp hb];exact np us)⟩,n1,n2.l sl1,nl3.l sl02,ncg,nl3.ne l12 rfl,nl3.ne l2 rfl⟩ tk3
theorem ZqH:FnOk P w K mg base CX0 4 a.aS a.cH ["self","text","kinds"] (sp_KV K a):=by
 refine T.M_Plain_init.u.ok ZpN (by walk_at "ln") (λAs A outer s H vs Q E hr h=>?_);obtain⟨p,dx,l,m,rfl,hp,ok,q⟩:=h;refine⟨_,(Zab (ZaH (Zal (Zms T) (hM hr) rfl T.D_need_kinds Zan (Zaa (pv 2) Zac)))
  (Zab (ZaH (Zal (Zqv T) (hM hr) rfl T.D_need_word Zan (Zaa (pv 1) (Zaa (pv 2) (Zaa (Zdx rfl T.c_KC) Zac)))))
  (Zaf (ZaH (Zho rfl T.m_MA T.cS (Zol T) (hM hr) T.M_Band_init.u.kp T.M_Band_init.b .nil Zan (Zaa (pv 0) (Zaa (pv 1) (Zaa (pv 2) Zac)))))))),?_⟩
 walk_at "rd";have m4:=ok.m4;have l40:=ok.l40;refine⟨m,rfl,by lia,ok.k,λH1 s1=>?_⟩;walk_at "rd?";refine⟨l,m,40,rfl,by lia,ZoL ok,λH2 s2=>?_⟩;walk_at "rd?";exact⟨p,dx,_,l,m,rfl,.inl rfl,s1.trans s2 _ _ hp,λH3 r k=>q H3 ⟨dx,r⟩ λb o e ne=>k b o (s1.trans s2 _ _ e) ne⟩
theorem Zi1:FnOk P w K mg base CX0 4 a.bi a.ce ["self","name"] (sp_KZ K a):=by
 refine T.M_Shelf_kept.u.ok ZpJ (by walk_at "ln") (λAs A outer s H vs Q E hr h=>?_);have hu1:=ZaC hr;obtain⟨p,dA,m,F,r,rfl,hp,hrF,q⟩:=h;refine⟨_,(Zab (Za7 (PW.pt (Zfy (ZbM (Zbv (Zal (Zn7 T) (hM hr) rfl T.D_is_name Zan (Zaa (pv 1) Zac)))) (Zdk (Zfz (ZfD hu1 (pv 1) (Zay (K:=K) rfl (pv 0) rfl)))))) (Zaf Zee) ZaA)
  (Zaf (Zao (Zb5 hu1 (Zay (K:=K) rfl (pv 0) rfl) (pv 1) (λ_ _=>rfl))))),?_⟩
 obtain⟨dx,f⟩:=hp.fld;have hk:=hp.nm r hrF;have g:=ZdZ hp.nd hrF;walk_at "rd";refine⟨r.n,rfl,hk,λH2 s2=>⟨_,rfl,iteF ?_⟩⟩;refine⟨p,_,dx,_,_,rfl,s2 _ _ f,T.aj,T.ae,shS,dA,_,rfl,.inl ⟨_,kTx r.n,.inl (s2 _ _ hp.dct),rfl,rfl⟩,?_⟩;rw[g];exact iteF ⟨p,_,dx,_,_,rfl,s2 _ _ f,T.aj,T.ae,shS,dA,_,rfl,.inl ⟨_,kTx r.n,.inl (s2 _ _ hp.dct),rfl,g.symm⟩,q H2 s2⟩
theorem ZqN:FnOk P w K mg base CX0 4 a.bf a.b7 ["self","name"] (sp_KA K a):=by
 refine T.M_Shelf_need_free.u.ok ZpY (by walk_at "ln") (λAs A outer s H vs Q E hr h=>?_);have hu1:=ZaC hr;obtain⟨p,dA,m,F,n,rfl,hp,hn,nf,q⟩:=h;refine⟨_,(Zab (Za7 (ZbM (Zbv (Zal (Zn7 T) (hM hr) rfl T.D_is_name Zan (Zaa (pv 1) Zac)))) (Zaf Zee) ZaA)
  (Zad (Zaf (Za7 (Zfz (ZiU hu1 (pv 1) (Zay (K:=K) rfl (pv 0) rfl))) (Zaf Zee) ZaA)))),?_⟩
 obtain⟨dx,f⟩:=hp.fld;walk_at "rd";refine⟨n,rfl,hn,λH2 s2=>⟨_,rfl,iteF ?_⟩⟩;walk_at "h";refine⟨p,_,dx,_,_,rfl,s2 _ _ f,T.aj,T.ae,shS,dA,_,rfl,.inl ⟨_,kTx n,.inl (s2 _ _ hp.dct),rfl,rfl⟩,?_⟩;rw[ZkE nf];exact iteF (q H2 s2)
theorem Zoc:FnOk P w K mg base CX0 4 a.aO a.bZ ["self","kinds"] (sp_KY K a):=by
 refine T.M_Shelf_init.u.ok ZpK (by walk_at "ln") (λAs A outer s H vs Q E hr h=>?_);obtain⟨p,dx,m,rfl,hp,kok,q⟩:=h;refine⟨_,(Zab (ZaH (Zal (Zms T) (hM hr) rfl T.D_need_kinds Zan (Zaa (pv 1) Zac)))
  (Zad (Zab (Zcl (pv 0) (pv 1) rfl)
  (Zad (Zaf (Zcl (pv 0) ZcQ rfl)))))),?_⟩
 walk_at "rd";have m4:=kok.m4;refine⟨m,rfl,by lia,kok.k,λH1 s1=>?_⟩;walk_at "h";refine⟨p,_,dx,_,rfl,s1 _ _ hp,T.aj,T.ao,(by show 0<1000;decide),Zag ?_⟩;have f2:upd H1 p (.ins a.c_LY dx (putF (Str.ofString "own_kinds") (tx m) [])) p=some (.ins a.c_LY dx (putF "own_kinds" (tx m) [])):=Zae;have k2:∀b o,H b=some o->b≠p->upd H1 p (.ins a.c_LY dx (putF (Str.ofString "own_kinds") (tx m) [])) b=some o:=λb o e n=>by rw[Zah n];exact s1 _ _ e
 generalize upd H1 p (.ins a.c_LY dx (putF (Str.ofString "own_kinds") (tx m) []))=H2 at f2 k2;walk_at "rd";intro dA nA;have nd:p≠dA:=Zai f2 nA;refine⟨p,_,dx,_,rfl,by rw[Zah nd];exact f2,T.aj,T.ae,(by show 1<1000;decide),q dA _ ⟨⟨dx,Zae⟩,by rw[Zah (YAk nd),Zae];rfl,λr hr=>(by cases hr),λr hr=>(by cases hr),.nil,kok⟩ ?_ λb o e n=>?_⟩
 .cases e:H dA with
  | none=>rfl
  | some o=>rw[k2 _ _ e (YAk nd)]at nA;cases nA
 .rw[Zah n,Zah (Zai (k2 _ _ e n) nA)];exact k2 _ _ e n
theorem Zqu:FnOk P w K mg base CX0 5 a.f_LE a.d_LE ["one","other"] (sp_LE K a):=by
 refine T.D_distance.u.ok Zkd (by walk_at "ln") (λAs A outer s H vs Q E hr h=>?_);obtain⟨p1,p2,l1,l2,m,rfl,h1,h2,tk,ok1,ok2,q⟩:=h;refine⟨_,(Zab (Zam (i:=2) Zkd.nd (Zal (Zmp T) (hM hr) rfl T.D_fraction Zan (Zaa Zak (Zaa Zak Zac))))
  (Zad (Zab (Za8 YAo rfl (ZaU (K:=K) rfl (Zal (Zqs T) (hM hr) rfl T.D_reasons Zan (Zaa (pv 0) (Zaa (pv 1) Zac)))) (Zax (i:=3) Zkd.nd rfl (Or.inl rfl))
  (Zaf (Zam (i:=2) Zkd.nd (Zal (Zqk T) (hM hr) rfl T.D_plus Zan (Zaa (pv 2) (Zaa (Zal (Zmp T) (hM hr) rfl T.D_fraction Zan (Zaa Zak (Zaa (Zar ZnZ (Zap (Zau (K:=K) rfl) rfl T.z_len ZaT (Zaa (ZaY (ZaF (K:=K) rfl) (pv 3) Zak (λ_ _=>rfl)) Zac)) Zak) Zac))) Zac))))))
  (Zad (Zaf (Zao (pv 2))))))),?_⟩
 have dp:=Zgn;walk_at "rd";refine⟨0,1,1,rfl,by decide,by decide,⟨by decide,by decide⟩,by decide,λt0 H1 s1 e1=>?_⟩;walk_at "h";have o1:=lsOk ok1;have o2:=lsOk ok2;refine⟨p1,p2,l1,l2,m,rfl,h1.l s1.l,h2.l s1.l,tk.same s1,ok1,ok2,λr zs ds H2 s2 tk2 n2 e2 da df=>?_⟩;have dl:=ZdE df o1 o2;have zl:=da.1;have i0:(0:Int)=frT ((WS (ds.take 0):Nat):Int) (DD:Nat)/\(1:Int)=frB ((WS (ds.take 0):Nat):Int) (DD:Nat):=by rw[List.take_zero];have:=ZgP (x:=0) (y:=1) (u:=((WS []:Nat):Int)) (v:=(DD:Nat)) (by decide) (by decide) (by lia) (by lia) (by rw[ZlM];simp);rw[<-this.1,<-this.2];exact⟨rfl,rfl⟩
 refine⟨r,rfl,⟨_,.mk e2⟩,ForRun.list (xs:=zs) (λi U H'=>∃t v3,U=[some (.ref p1),some (.ref p2),some (.ref t),v3]/\Same H2 H'/\H' t=some (.tup [.int (frT (WS (ds.take i):Nat) (DD:Nat)),.int (frB (WS (ds.take i):Nat) (DD:Nat))])) ⟨t0,_,rfl,Same.refl _,by rw[<-i0.1,<-i0.2];exact s2 _ _ e1 rfl⟩ (λi U H' _ ⟨_,_,_,s',_⟩=>.mk (s' _ _ e2)) ?_ ?_⟩
 .rintro i x U H3 hx ⟨t,v3,rfl,s3,e3⟩;obtain⟨w_,tw,hw,rfl,ew⟩:=da.2 i x hx;obtain⟨w1,w41⟩:=Zf6 df o1 o2 (YAh hw);have wb:=Zm7 (ws:=ds.take i) λu hu=>Zf6 df o1 o2 (YAZ hu);have wl:(ds.take i).length<=400:=by rw[YAW];lia
  have wb2:WS (ds.take i)<=400*DD:=YAK wb (YDZ _ wl);obtain⟨f1,f2,f3⟩:=ZjA wb2;have hs:((w_.length:Nat):Int) ^ Int.toNat 2=((w_.length*w_.length:Nat):Int):=by show ((w_.length:Nat):Int) ^ 2=_;rw[YCq,Int.pow_succ,Int.pow_succ,Int.pow_zero,Int.one_mul]
  have sm:w_.length*w_.length<=41*41:=YDP w41 w41;have sp:0<w_.length*w_.length:=Nat.mul_pos w1 w1;have bs:Bt 11 (((w_.length*w_.length:Nat)):Int):=⟨by lia,by show w_.length*w_.length<2 ^ 11;lia⟩;obtain⟨c1,c2,c3,c4,_⟩:=Zcp (a:=1) (b:=(((w_.length*w_.length:Nat)):Int)) (by decide) (by lia);have st:=ZmO (W:=WS (ds.take i)) w1 w41 rfl;walk_at "rd";refine⟨tw,_,0,_,rfl,rfl,.mk (s3 _ _ ew),rfl,_,_,rfl,Zbn (by lia),⟨by decide,by decide,by show w_.length<2 ^ 64;lia⟩,?_⟩;rw[hs];refine⟨1,_,11,rfl,by decide,by lia,bs,by decide,λtf H4 s4 e4=>⟨t,tf,_,_,_,_,340,rfl,s4 _ _ e3,e4,f3,by lia,f1,f2,(bs.le c1 (by lia)).mono (by decide),(bs.le (by lia) c4).mono (by decide),by decide,λtp H5 s5 e5=>⟨tp,_,rfl,s3.trans (s4.trans s5),?_⟩⟩⟩;rw[e5,st.1,st.2,YBl,hw];show _=some (HO.tup [V.int (frT (WS (ds.take i++[w_]):Nat) (DD:Nat)),V.int (frB (WS (ds.take i++[w_]):Nat) (DD:Nat))]);rw[Zj0]
 .rintro U H3 ⟨t,v3,rfl,s3,e3⟩;rw[zl,YBL]at e3;walk_at "k";rw[Zpe ok1 ok2 df]at e3;exact q t H3 ((s1.l.trans s2).trans s3.l) (tk2.same s3) e3
theorem Zi0:FnOk P w K mg base CX0 5 a.bJ a.cL ["self","letter"] (sp_LB K a):=by
 refine T.M_Strip_put.u.ok ZpB (by walk_at "ln") (λAs A outer s H vs Q E hr h=>?_);obtain⟨p,la,da,l,m,ds,c0,rfl,hp,hd,tk,hc,hl,q⟩:=h;refine⟨_,(Zad (Zab (ZaH (Zal (ZqJ T) (hM hr) rfl T.D_need_letter Zan (Zaa (pv 1) (Zaa (Zay (K:=K) rfl (pv 0) rfl) Zac))))
  (Zab (Za7 (Zaw Zqi (Zap (Zau (K:=K) rfl) rfl T.z_len ZaT (Zaa (Zay (K:=K) rfl (pv 0) rfl) Zac)) (Zdx rfl T.c_KC) (Zaz _)) (Zad (Zaf Zee)) ZaA)
  (Zad (Zab (ZaH (ZeY YBO YCB YCA ZbE (Zay (K:=K) rfl (pv 0) rfl) (Zaa (ZbW (Zaa (ZaD (l:=[112,117,116]) (by decide +kernel)) (Zaa (pv 1) Zac))) Zac)))
  (Zaf (Zao (ZaE (pv 0) T.ac T.a7 (Zon T) (hM hr) T.M_Strip_grow.b .nil Zan (Zaa (Zar Za1 (Zay (K:=K) rfl (pv 0) rfl) (pv 1)) Zac))))))))),?_⟩
 have sz:∀k:Nat,k<=30000->k<=sizeLine:=λk h=>YAK h (by rw[sizeLine_eq];decide);obtain⟨⟨dx,f⟩,hk,⟨ts,d1,d2⟩,run,ok,nld⟩:=id hp;have m4:=ok.m4;have l40:=run.len;have tl:=d2.1;have npd:p≠da:=λz=>by rw[z,d1]at f;cases f
 walk_at "rd";walk_at "g";refine⟨p,_,dx,_,_,rfl,f,T.ac,T.ah,Zch,?_⟩;refine⟨[c0],m,rfl,by simp,ZmE hc,λH1 s1=>?_⟩;walk_at "rd?";refine⟨p,_,dx,_,_,rfl,s1 _ _ f,T.ac,T.aa,Zbc,_,_,rfl,Zbn (by lia),?_⟩;rw[decide_eq_false (by lia)];refine iteF ?_;walk_at "g";refine⟨p,_,dx,_,_,rfl,s1 _ _ f,T.ac,T.ad,Zbz,.inl ⟨rfl,_,.mk (s1 _ _ d1)⟩,sz _ (by decide),NewT.of λtd H2 s2 n2 l2=>?_⟩;have s02:=s1.trans s2;refine⟨da,_,_,rfl,rfl,s02 _ _ d1,by rw[tl];exact sz _ (by lia),?_⟩;have c3:Chg [da] H (upd H2 da (.lst (ts++[.ref td]))):=s02.chg.trans (Chg.upd (by simp));have d3:upd H2 da (.lst (ts++[.ref td])) da=some (.lst (ts++[.ref td])):=Zae;have t3:upd H2 da (.lst (ts++[.ref td])) td=some (.tup (Zga (true,c0))):=by rw[Zah (λz=>by rw[z,s02 _ _ d1]at l2;cases l2)];exact l2
 have tk3:=(tk.same s02).upd (o':=.lst (ts++[.ref td])) (s02 _ _ d1) rfl rfl;generalize upd H2 da (.lst (ts++[.ref td]))=H3 at c3 d3 t3 tk3;have e3:DeedsA H3 (ts++[.ref td]) (ds++[(true,c0)]):=(d2.chg c3 (λb hb us z=>by rw[YAI.mp hb,d1]at z;cases z)).snoc t3;have f3:=c3 _ _ f (by simpa using npd) rfl;have k3:=c3 _ _ hk (by simpa using nld) rfl;have r3:=run.put hc hl;refine⟨p,dx,_,rfl,f3,sN,p,_,dx,_,_,rfl,f3,T.ac,T.aa,Zbc,l,[c0],rfl,rfl,sz _ (by rw[YBF];lia),?_⟩;refine⟨p,la,da,l,l++[c0],m,rfl,⟨dx,f3⟩,k3,r3.len,.inl ⟨c0,rfl⟩,r3.mem,ok,tk3,λt c g la2 H4 ch f4 l4 an tk4=>?_⟩;obtain⟨q1,q2,q3⟩:=ZdA hp c3 d3 e3 ch f4 l4 an r3;exact q t c g la2 H4 q1 q2 q3 tk4
theorem Zkr:FnOk P w K mg base CX0 5 a.bK a.cM ["self"] (sp_K2 K a):=by
 refine T.M_Strip_drop.u.ok Zp5 (by walk_at "ln") (λAs A outer s H vs Q E hr h=>?_);have Aw:=hr.units;obtain⟨p,la,da,c0,l0,m,ds,rfl,hp,hd,tk,q⟩:=h;refine⟨_,(Zad (Zab (Za7 (Zaw (ZaO (K:=K) rfl Aw) (Zay (K:=K) rfl (pv 0) rfl) (ZaD (l:=[]) (by decide +kernel)) (Zaz _)) (Zaf Zee) ZaA)
  (Zad (Zab (ZaH (ZeY YBO YCB YCA ZbE (Zay (K:=K) rfl (pv 0) rfl) (Zaa (ZbW (Zaa (ZaD (l:=[100,114,111,112]) (by decide +kernel)) (Zaa (ZaY ZgL (Zay (K:=K) rfl (pv 0) rfl) Zak (λ_ _=>rfl)) Zac))) Zac)))
  (Zaf (Zao (ZaE (pv 0) T.ac T.a8 (Zof T) (hM hr) T.M_Strip_shrink.b .nil Zan (Zaa (ZaN Zcg (Zay (K:=K) rfl (pv 0) rfl) (ZaS Zak) Zbf) Zac)))))))),?_⟩
 have sz:∀k:Nat,k<=30000->k<=sizeLine:=λk h=>YAK h (by rw[sizeLine_eq];decide);obtain⟨⟨dx,f⟩,hk,⟨ts,d1,d2⟩,run,ok,nld⟩:=id hp;have m4:=ok.m4;have l40:=run.len;have tl:=d2.1;have npd:p≠da:=λz=>by rw[z,d1]at f;cases f
 walk_at "rd";walk_at "g";refine⟨p,_,dx,_,_,rfl,f,T.ac,T.aa,Zbc,.inl ⟨rfl,?_⟩⟩;rw[YAJ YAC,Zcr];rw[decide_eq_false (by simp)];refine⟨_,rfl,iteF ?_⟩;walk_at "g";refine⟨p,_,dx,_,_,rfl,f,T.ac,T.ad,Zbz,.inl ⟨rfl,_,.mk d1⟩,p,_,dx,_,_,rfl,f,T.ac,T.aa,Zbc,c0::l0,0,c0,rfl,rfl,sz _ (by lia),atI0,sz _ (by decide),NewT.of λtd H2 s2 n2 l2=>?_⟩;refine⟨da,_,_,rfl,rfl,s2 _ _ d1,by rw[tl];exact sz _ (by lia),?_⟩;have c3:Chg [da] H (upd H2 da (.lst (ts++[.ref td]))):=s2.chg.trans (Chg.upd (by simp));have d3:upd H2 da (.lst (ts++[.ref td])) da=some (.lst (ts++[.ref td])):=Zae;have t3:upd H2 da (.lst (ts++[.ref td])) td=some (.tup (Zga (false,c0))):=by rw[Zah (λz=>by rw[z,s2 _ _ d1]at l2;cases l2)];exact l2
 have tk3:=(tk.same s2).upd (o':=.lst (ts++[.ref td])) (s2 _ _ d1) rfl rfl;generalize upd H2 da (.lst (ts++[.ref td]))=H3 at c3 d3 t3 tk3;have e3:DeedsA H3 (ts++[.ref td]) (ds++[(false,c0)]):=(d2.chg c3 (λb hb us z=>by rw[YAI.mp hb,d1]at z;cases z)).snoc t3;have f3:=c3 _ _ f (by simpa using npd) rfl;have k3:=c3 _ _ hk (by simpa using nld) rfl;refine⟨p,dx,_,rfl,f3,sN,p,_,dx,_,_,rfl,f3,T.ac,T.aa,Zbc,_,rfl,c0::l0,rfl,sz _ (by lia),?_⟩;rw[Zfj];refine⟨p,la,da,l0,c0::l0,m,rfl,⟨dx,f3⟩,k3,l40,.inr ⟨c0,rfl⟩,run.mem,ok,tk3,λt c g la2 H4 ch f4 l4 an tk4=>?_⟩;obtain⟨q1,q2,q3⟩:=ZdA hp c3 d3 e3 ch f4 l4 an run.drop;exact q t c g la2 H4 q1 q2 q3 tk4
theorem ZqO:FnOk P w K mg base CX0 5 a.bn a.cg ["self","name"] (sp_K0 K a):=by
 refine T.M_Shelf_take.u.ok ZnG (by walk_at "ln") (λAs A outer s H vs Q E hr h=>?_);obtain⟨p,dA,m,F,r,rfl,hp,hrF,q⟩:=h;refine⟨_,(Zab (Zam (i:=2) ZnG.nd (ZaE (pv 0) T.aj T.aI (Zi1 T) (hM hr) T.M_Shelf_kept.b .nil Zan (Zaa (pv 1) Zac)))
  (Zad (Zab (ZaH (Zhn (Zay (K:=K) rfl (pv 0) rfl) (pv 1) ⟨rfl,rfl,rfl,rfl⟩))
  (Zad (Zaf (Zao (pv 2))))))),?_⟩
 obtain⟨dx,f⟩:=hp.fld;walk_at "rd";refine⟨p,dx,_,rfl,f,shN,p,dA,m,F,r,rfl,hp,hrF,λH1 s1=>?_⟩;have g:=ZdZ hp.nd hrF;walk_at "h";have d1:=s1 _ _ hp.dct;obtain⟨k1,k2⟩:=hp.take (n:=r.n) s1;refine⟨p,_,dx,_,_,rfl,s1 _ _ f,T.aj,T.ae,shS,dA,rfl,.inl ⟨_,.inl d1⟩,_,kTx r.n,_,d1,rfl,g,Zag ?_⟩;walk_at "rd";exact q _ k2 k1
theorem Zoo:FnOk P w K mg base CX0 5 a.bL a.cN ["self"] (sp_K1 K a):=by
 refine T.M_Strip_back.u.ok ZnF (by walk_at "ln") (λAs A outer s H vs Q E hr h=>?_);have Aw:=hr.units;obtain⟨p,la,da,l,m,ds,rfl,hp,hd,tk,q⟩:=h;refine⟨_,(Zad (Zab (Za7 (Zaw (ZaO (K:=K) rfl Aw) (Zap (Zau (K:=K) rfl) rfl T.z_len ZaT (Zaa (Zay (K:=K) rfl (pv 0) rfl) Zac)) Zak (Zaz _)) (Zaf Zee) ZaA)
  (Zad (Zab (Zam (i:=1) ZnF.nd (Zlo YBO PySem.F.slot_list_pop PySem.F.type_list_pop Zos (Zay (K:=K) rfl (pv 0) rfl)))
  (Zad (Zab (Za7 (Zaw (ZaO (K:=K) rfl Aw) (ZaY (ZaF (K:=K) rfl) (pv 1) Zak (λ_ _=>rfl)) (ZaD (l:=[112,117,116]) (by decide +kernel)) (Zaz _)) (Zaf (Zao (ZaE (pv 0) T.ac T.a8 (Zof T) (hM hr) T.M_Strip_shrink.b .nil Zan (Zaa (ZaN Zcg (Zay (K:=K) rfl (pv 0) rfl) Zbf (ZaS (Zh8 Zek Zak))) Zac)))) ZaA)
  (Zaf (Zao (ZaE (pv 0) T.ac T.a7 (Zon T) (hM hr) T.M_Strip_grow.b .nil Zan (Zaa (Zar Za1 (ZaY (ZaF (K:=K) rfl) (pv 1) Zak (λ_ _=>rfl)) (Zay (K:=K) rfl (pv 0) rfl)) Zac)))))))))),?_⟩
 have sz:∀k:Nat,k<=30000->k<=sizeLine:=λk h=>YAK h (by rw[sizeLine_eq];decide);obtain⟨⟨dx,f⟩,hk,⟨ts,d1,d2⟩,run,ok,nld⟩:=id hp;have m4:=ok.m4;have l40:=run.len;have tl:=d2.1;have npd:p≠da:=λz=>by rw[z,d1]at f;cases f
 walk_at "rd";walk_at "g";refine⟨p,_,dx,_,_,rfl,f,T.ac,T.ad,Zbz,_,_,rfl,.inl ⟨_,.mk d1,rfl⟩,.inl ⟨rfl,?_⟩⟩;rw[YAJ YAC];have pop:∀(ds0:List (Bool×Nat)) (d:Bool×Nat),ds=ds0++[d]->∃ts' td,ts=ts'++[.ref td]/\H td=some (.tup (Zga d))/\DeedsA H ts' ds0:=λds0 d e=>(e▸d2).init;have ne0:ds≠[]->decide (V.int ((ts.length:Nat):Int)=V.int 0)=false:=λh=>decide_eq_false λe=>by injection e with e;rw[tl]at e;exact h (YCZ.mp (by lia))
 have go:∀(ds0:List (Bool×Nat)) (d:Bool×Nat),ds=ds0++[d]->∃td H3 ts',Chg [da] H H3/\H3 da=some (.lst ts')/\DeedsA H3 ts' ds0/\H3 td=some (.tup (Zga d))/\TT a H3/\ts[ts.length-1]?=some (.ref td)/\upd H da (.lst ts.dropLast)=H3:=λds0 d e=>by
  obtain⟨ts',td,rfl,h1,h2⟩:=pop ds0 d e;refine⟨td,_,ts',Chg.upd (by simp),by rw[Zae,YCw],?_,?_,tk.upd d1 rfl rfl,by simp,rfl⟩
  .exact h2.chg (S:=[da]) (Chg.upd (by simp)) (λb hb us z=>by rw[YAI.mp hb,d1]at z;cases z)
  .rw[Zah (λz=>by rw[z,d1]at h1;cases h1)];exact h1
 rcases q with⟨ds0,c0,l0,e0,rfl,q⟩|⟨ds0,c0,e0,q⟩
 .rw[ne0 (by rw[e0];simp)];refine⟨_,rfl,iteF ?_⟩;walk_at "g";obtain⟨td,H3,ts',c3,d3,e3,t3,tk3,hy,eH⟩:=go ds0 (true,c0) e0;refine⟨p,_,dx,_,_,rfl,f,T.ac,T.ad,Zbz,.inl ⟨rfl,_,.mk d1⟩,da,_,_,rfl,rfl,d1,hy,?_⟩;rw[eH];walk_at "g";have f3:=c3 _ _ f (by simpa using npd) rfl;have k3:=c3 _ _ hk (by simpa using nld) rfl;have run0:Run m ds0 l0:=by
   obtain⟨ds1,c1,⟨e1,l1,e2,r1⟩|⟨e1,_⟩⟩:=run.last (by rw[e0];simp)
   .rw[e0]at e1;have e3:=List.append_inj' e1 rfl;have e4:=List.append_inj' e2 rfl;rw[e3.1,e4.1];exact r1
   .rw[e0]at e1;have e3:=(List.append_inj' e1 rfl).2;cases e3
  refine⟨td,_,_,_,rfl,rfl,.mk t3,atI0,.inl ⟨rfl,true,?_,iteT ?_⟩⟩
  .rw[YAJ YAC];exact congrArg V.bl (decide_eq_true rfl)
  .refine⟨p,dx,_,rfl,f3,sN,p,_,dx,_,_,rfl,f3,T.ac,T.aa,Zbc,_,rfl,l0++[c0],rfl,sz _ (by lia),?_⟩;rw[ZgY,YCw];refine⟨p,la,da,l0,l0++[c0],m,rfl,⟨dx,f3⟩,k3,l40,.inl ⟨c0,rfl⟩,run.mem,ok,tk3,λt c g la2 H4 ch f4 l4 an tk4=>?_⟩;obtain⟨q1,q2,q3⟩:=ZdA hp c3 d3 e3 ch f4 l4 an run0;exact q t c g la2 H4 q1 q2 q3 tk4
 .rw[ne0 (by rw[e0];simp)];refine⟨_,rfl,iteF ?_⟩;walk_at "g";obtain⟨td,H3,ts',c3,d3,e3,t3,tk3,hy,eH⟩:=go ds0 (false,c0) e0;refine⟨p,_,dx,_,_,rfl,f,T.ac,T.ad,Zbz,.inl ⟨rfl,_,.mk d1⟩,da,_,_,rfl,rfl,d1,hy,?_⟩;rw[eH];walk_at "g";have f3:=c3 _ _ f (by simpa using npd) rfl;have k3:=c3 _ _ hk (by simpa using nld) rfl;have run0:Run m ds0 (c0::l):=by
   obtain⟨ds1,c1,⟨e1,l1,e2,r1⟩|⟨e1,r1⟩⟩:=run.last (by rw[e0];simp)
   .rw[e0]at e1;have e3:=(List.append_inj' e1 rfl).2;cases e3
   .rw[e0]at e1;have e3:=List.append_inj' e1 rfl;have e4:=e3.2;injection e4 with e4 _;injection e4 with _ e4;rw[e3.1,e4];exact r1
  have l41:=run0.len;rw[YAf]at l41;refine⟨td,_,_,_,rfl,rfl,.mk t3,atI0,.inl ⟨rfl,false,?_,iteF ?_⟩⟩
  .rw[YAJ YAC];exact congrArg V.bl (show decide (tx DROP=tx [112,117,116])=false by rw[Zcr];decide)
  .refine⟨p,dx,_,rfl,f3,sN,td,_,_,_,rfl,rfl,.mk t3,rfl,p,_,dx,_,_,rfl,f3,T.ac,T.aa,Zbc,[c0],l,rfl,rfl,sz _ (by rw[YBF];lia),?_⟩;refine⟨p,la,da,l,c0::l,m,rfl,⟨dx,f3⟩,k3,run0.len,.inr ⟨c0,rfl⟩,run0.mem,ok,tk3,λt c g la2 H4 ch f4 l4 an tk4=>?_⟩;obtain⟨q1,q2,q3⟩:=ZdA hp c3 d3 e3 ch f4 l4 an run0;exact q t c g la2 H4 q1 q2 q3 tk4
theorem Zmm:FnOk P w K mg base CX0 6 a.f_LU a.d_LU ["_law_text","_law_kinds_here","_law_cell_here"] (sp_LU K a):=by
 refine T.D_lstrip.u.ok Zh5 (by walk_at "ln") (λAs A outer s H vs Q E hr h=>?_);obtain⟨l,m,c,rfl,ok,tk,q⟩:=h;refine⟨_,(Zab (Zam (i:=3) Zh5.nd (ZdP T.aX (Zom T) (hM hr) rfl T.cU T.M_Strip_init.b .nil Zan (Zaa (pv 1) Zac)))
  (Zad (Zab (Zam (i:=4) Zh5.nd (Zap (ZjR rfl) rfl T.z_min Zpb (Zaa (Zar ZiV Zak (Zap (Zau (K:=K) rfl) rfl T.z_len ZaT (Zaa (pv 0) Zac))) (Zaa (Zar ZaX (pv 2) Zak) Zac))))
  (Zad (Zab (Za8 YAo rfl (ZbV rfl T.z_range (Zaa (pv 4) Zac)) (Zax (i:=5) Zh5.nd rfl (Or.inl rfl))
  (Zaf (ZaH (ZaE (pv 3) T.ac T.aJ (Zi0 T) (hM hr) T.M_Strip_put.b .nil Zan (Zaa (ZaY ZgL (pv 1) (Zar ZaX (Zar Zbg (pv 2) Zak) (Zap (Zau (K:=K) rfl) rfl T.z_len ZaT (Zaa (pv 1) Zac))) (λ_ _=>rfl)) Zac)))))
  (Zad (Zab (Za8 YAo rfl (ZdN (pv 0)) (Zax (i:=6) Zh5.nd rfl (Or.inl rfl))
  (Zaf (ZaH (ZaE (pv 3) T.ac T.aJ (Zi0 T) (hM hr) T.M_Strip_put.b .nil Zan (Zaa (pv 6) Zac)))))
  (Zad (Zab (Za8 YAo rfl (ZbV rfl T.z_range (Zaa (pv 4) Zac)) (Zax (i:=5) Zh5.nd rfl (Or.inl rfl))
  (Zaf (ZaH (Zav (pv 3) T.ac T.aM (Zkr T) (hM hr) T.M_Strip_drop.b .nil Zan))))
  (Zad (Zaf (Zao (pv 3))))))))))))),?_⟩
 have l40:=ok.l40;have kok:KOk m:=⟨ok.k,ok.m1,ok.m4⟩;walk_at "rd";intro p dx np ndx ne;refine⟨p,dx,m,rfl,Zae,kok,λla0 da H1 at1 nla nda k1=>⟨rfl,Zag ?_⟩⟩;have s1:Same H H1:=λb o e=>k1 b o (by rw[Zah (Zai e np),Zah (Zai e ndx)];exact e) (Zai e np);have tk1:=tk.same s1;have nda0:H da=none:=by
  cases e:H da with
  | none=>rfl
  | some o=>rw[Zah (Zai e np),Zah (Zai e ndx),e]at nda;cases nda
 have nla0:H la0=none:=by
  cases e:H la0 with
  | none=>rfl
  | some o=>rw[Zah (Zai e np),Zah (Zai e ndx),e]at nla;cases nla
 walk_at "rd";have keepN:∀ {H':Hp} {r:AE},SameL H H'->Nw H' r->Nw H r:=λs n o e=>by
  cases z:Zds o with
  | true=>rfl
  | false=>rw[<-n o (s _ _ e z),z]
 have keepL:∀ {H' H'':Hp},SameL H H'->Chg [p,da] H' H''->SameL H H'':=λsl ch bb o e t=>ch _ _ (sl _ _ e t) (by
  simp only[YAH,YAz,or_false,not_or];refine⟨λz=>?_,λz=>?_⟩
  .rw[z,np]at e;cases e
  .rw[z,nda0]at e;cases e) t
 have m1:=ok.m1;have m4:=ok.m4;have pm:(0:Int)<m.length:=by lia
 obtain⟨N,eN,hN⟩:∃N:Nat,(if c % 4<40-(l.length:Nat) then c % 4 else 40-(l.length:Nat))=(N:Int)/\N+l.length<=40:=by
  have a1:=YBX c (show (4:Int)≠0 by decide);have a2:=YBP c (show (0:Int)<4 by decide);by_cases z:c % 4<40-(l.length:Nat)
  .rw[YAM z];exact⟨(c % 4).toNat,by lia,by lia⟩
  .rw[YAJ z];exact⟨40-l.length,by lia,by lia⟩
 obtain⟨c1,hc1,mc1⟩:=Zgk (xs:=m) (i:=c/4 % m.length) (YBX _ (by lia)) (YBP _ pm);refine⟨_,_,rfl,Zbn (by lia),by decide,_,_,rfl,Zag ?_⟩;rw[eN];walk_at "rd";refine⟨_,rfl,by lia,by lia,?_⟩;rw[show ((N:Nat):Int).toNat=N by lia];refine ForRun.range (λi U H'=>∃v5 la ds,U=[some (tx l),some (tx m),some (.int c),some (.ref p),some (.int (N:Nat)),v5,none]/\StripAt a.c_LZ H' p la da (List.replicate i c1) m ds/\ds.length<=i/\TT a H'/\SameL H H'/\Nw H la) ⟨_,la0,[],rfl,at1,YAP _,tk1,s1.l,Nw.of nla0⟩ ?_ ?_
 .rintro i U H2 hi ⟨v5,la,ds,rfl,at2,dl,tk2,sl2,nw2⟩;obtain⟨dx2,f2⟩:=id at2.fld;walk_at "rd";refine⟨p,dx2,_,rfl,f2,sN,⟨by decide,by decide⟩,_,_,rfl,Zbn (by lia),pm,m,_,c1,rfl,rfl,sz _ (by lia),hc1,p,la,da,_,m,ds,c1,rfl,at2,by lia,tk2,mc1,by rw[List.length_replicate];lia,λt c g la2 H3 q1 q2 q3 q4=>⟨_,la2,ds++[(true,c1)],rfl,?_,by rw[YAG];exact YBj dl,q4,keepL sl2 q1,keepN sl2 q3.nl⟩⟩;rw[show List.replicate i c1++[c1]=c1::List.replicate i c1 by rw[<-List.replicate_succ',List.replicate_succ]]at q2;exact q2
 .rintro U H2 ⟨v5,la,ds,rfl,at2,dl,tk2,sl2,nw2⟩;walk_at "k";refine⟨l,rfl,ForRun.text (λi U H'=>∃v6 la ds,U=[some (tx l),some (tx m),some (.int c),some (.ref p),some (.int (N:Nat)),v5,v6]/\StripAt a.c_LZ H' p la da (List.replicate N c1++l.take i) m ds/\ds.length<=N+i/\TT a H'/\SameL H H'/\Nw H la) ⟨_,la,ds,rfl,by rw[List.take_zero,YCp];exact at2,dl,tk2,sl2,nw2⟩ ?_ ?_⟩
  .rintro i x U H3 hx ⟨v6,la,ds,rfl,at3,dl,tk3,sl3,nw3⟩;have hi:i<l.length:=(YAU.mp hx).1;obtain⟨dx3,f3⟩:=id at3.fld;walk_at "rd";refine⟨p,dx3,_,rfl,f3,sN,p,la,da,_,m,ds,x,rfl,at3,by lia,tk3,ok.mem x (YAh hx),by rw[YAG,List.length_replicate,YAW];lia,λt c g la2 H4 q1 q2 q3 q4=>⟨_,la2,ds++[(true,x)],rfl,?_,by rw[YAG];exact YBj dl,q4,keepL sl3 q1,keepN sl3 q3.nl⟩⟩;rw[YBl,hx];rw[YAj]at q2;exact q2
  .rintro U H3 ⟨v6,la,ds,rfl,at3,dl,tk3,sl3,nw3⟩;rw[YBL]at at3;walk_at "k";refine⟨_,rfl,by lia,by lia,?_⟩;rw[show ((N:Nat):Int).toNat=N by lia];refine ForRun.range (λi U H'=>∃v5 la ds,U=[some (tx l),some (tx m),some (.int c),some (.ref p),some (.int (N:Nat)),v5,v6]/\StripAt a.c_LZ H' p la da (List.replicate (N-i) c1++l) m ds/\ds.length<=100+i/\TT a H'/\SameL H H'/\Nw H la) ⟨_,la,ds,rfl,at3,by lia,tk3,sl3,nw3⟩ ?_ ?_
   .rintro i U H4 hi ⟨v5,la,ds,rfl,at4,dl,tk4,sl4,nw4⟩;obtain⟨dx4,f4⟩:=id at4.fld;obtain⟨k,ek⟩:∃k,N-i=k+1:=⟨N-i-1,by lia⟩;have ek2:N-(i+1)=k:=by lia
    rw[ek,List.replicate_succ]at at4;walk_at "rd";refine⟨p,dx4,_,rfl,f4,sN,p,la,da,c1,_,m,ds,rfl,at4,by lia,tk4,λt c g la2 H5 q1 q2 q3 q4=>⟨_,la2,ds++[(false,c1)],rfl,?_,by rw[YAG];exact YBj dl,q4,keepL sl4 q1,keepN sl4 q3.nl⟩⟩;rw[ek2];exact q2
   .rintro U H4 ⟨v5,la,ds,rfl,at4,dl,tk4,sl4,nw4⟩;rw[YDQ]at at4;walk_at "k";exact q p la da ds H4 sl4 tk4 at4 (Nw.of np) nw4 (Nw.of nda0) (by lia)
theorem Zqx:FnOk P w K mg base CX0 6 a.bo a.cj ["self","name","letter"] (sp_LA K a):=by refine T.M_Shelf_put.u.ok ZpC (by walk_at "ln") (λAs A outer s H vs Q E hr h=>?_);obtain⟨p,dA,m,F,r,c0,rfl,hp,hrF,tk,hd,hc,hl,q⟩:=h;refine⟨_,(Zaf (Zao (ZaE (ZaE (pv 0) T.aj T.aI (Zi1 T) (hM hr) T.M_Shelf_kept.b .nil Zan (Zaa (pv 1) Zac)) T.ac T.aJ (Zi0 T) (hM hr) T.M_Strip_put.b .nil Zan (Zaa (pv 2) Zac)))),?_⟩;obtain⟨dx,f⟩:=hp.fld;walk_at "rd";refine⟨p,dx,_,rfl,f,shN,p,dA,m,F,r,rfl,hp,hrF,λH1 s1=>?_⟩;have st:=(hp.str r hrF).same s1;obtain⟨dy,g⟩:=id st.fld;exact⟨r.p,dy,_,rfl,g,sN,r.p,r.la,r.da,r.l,m,r.ds,c0,rfl,st,hd,tk.same s1,hc,hl,λt c g la2 H2 c2 st2 an tk2=>q t c g la2 H2 (s1.chg.trans c2) st2 (Zfn an s1) tk2⟩
theorem ZqG:FnOk P w K mg base CX0 6 a.br a.cn ["self","name"] (sp_KW K a):=by
 refine T.M_Shelf_back.u.ok ZpM (by walk_at "ln") (λAs A outer s H vs Q E hr h=>?_);obtain⟨p,dA,m,F,r,rfl,hp,hrF,tk,hd,q⟩:=h;refine⟨_,(Zaf (Zao (Zav (ZaE (pv 0) T.aj T.aI (Zi1 T) (hM hr) T.M_Shelf_kept.b .nil Zan (Zaa (pv 1) Zac)) T.ac T.aZ (Zoo T) (hM hr) T.M_Strip_back.b .nil Zan))),?_⟩;obtain⟨dx,f⟩:=hp.fld;walk_at "rd";refine⟨p,dx,_,rfl,f,shN,p,dA,m,F,r,rfl,hp,hrF,λH1 s1=>?_⟩;have st:=(hp.str r hrF).same s1;obtain⟨dy,g⟩:=id st.fld;refine⟨r.p,dy,_,rfl,g,sN,r.p,r.la,r.da,r.l,m,r.ds,rfl,st,hd,tk.same s1,?_⟩;rcases q with⟨ds0,c0,l0,ed,el,q⟩|⟨ds0,c0,ed,q⟩
 .exact .inl ⟨ds0,c0,l0,ed,el,λt c g la2 H2 c2 st2 an tk2=>q t c g la2 H2 (s1.chg.trans c2) st2 (Zfn an s1) tk2⟩
 .exact .inr ⟨ds0,c0,ed,λt c g la2 H2 c2 st2 an tk2=>q t c g la2 H2 (s1.chg.trans c2) st2 (Zfn an s1) tk2⟩
theorem ZqF:FnOk P w K mg base CX0 6 a.bq a.ck ["self","name"] (sp_KX K a):=by refine T.M_Shelf_drop.u.ok ZpL (by walk_at "ln") (λAs A outer s H vs Q E hr h=>?_);obtain⟨p,dA,m,F,r,c0,l0,rfl,hp,hrF,tk,hd,el,q⟩:=h;refine⟨_,(Zaf (Zao (Zav (ZaE (pv 0) T.aj T.aI (Zi1 T) (hM hr) T.M_Shelf_kept.b .nil Zan (Zaa (pv 1) Zac)) T.ac T.aM (Zkr T) (hM hr) T.M_Strip_drop.b .nil Zan))),?_⟩;obtain⟨dx,f⟩:=hp.fld;walk_at "rd";refine⟨p,dx,_,rfl,f,shN,p,dA,m,F,r,rfl,hp,hrF,λH1 s1=>?_⟩;have st:=(hp.str r hrF).same s1;obtain⟨dy,g⟩:=id st.fld;rw[el]at st;exact⟨r.p,dy,_,rfl,g,sN,r.p,r.la,r.da,c0,l0,m,r.ds,rfl,st,hd,tk.same s1,λt c g la2 H2 c2 st2 an tk2=>q t c g la2 H2 (s1.chg.trans c2) st2 (Zfn an s1) tk2⟩
theorem Zn8:FnOk P w K mg base CX0 6 a.f_LJ a.d_LJ ["_law_band_here","_law_asked","_law_kinds_here","_law_k"] (sp_LJ K a):=by
 refine T.D_gone_on.u.ok ZnC (by walk_at "ln") (λAs A outer s H vs Q E hr h=>?_);have Aw:=hr.units;obtain⟨q_,l,m,k,rfl,ok,tk,q⟩:=h;refine⟨_,(Zab (Za7 (ZbM (Zbv (Zap (Za2 (K:=K) rfl) rfl T.z_isinstance ZaV (Zaa (pv 0) (Zaa (ZeX (v:=.ref a.c_LZ) rfl T.cU rfl) Zac))))) (Zaf (Zao (pv 1))) ZaA)
  (Zad (Zab (Za7 (PW.pt (Zfy (Zaw Zib (Zap (Zau (K:=K) rfl) rfl T.z_len ZaT (Zaa (pv 1) Zac)) Zak (Zaz _)) (Zdk (PW.pt (Zdl (Zaw (ZaO (K:=K) rfl Aw) (Zar ZaX (pv 3) Zak) Zak (Zaz _)) (Zck (Zaw (ZbB (K:=K) rfl Aw) (pv 1) (ZaD (l:=[]) (by decide +kernel)) (Zaz _)))))))) (Zab (ZaH (Zav (pv 0) T.ac T.aM (Zkr T) (hM hr) T.M_Strip_drop.b .nil Zan))
  (Zad (Zaf (Zao (ZaN Zcg (pv 1) (ZaS Zak) Zbf))))) ZaA)
  (Zad (Zab (Zam (i:=4) ZnC.nd (ZaY ZgL (pv 2) (Zar ZaX (pv 3) (Zap (Zau (K:=K) rfl) rfl T.z_len ZaT (Zaa (pv 2) Zac))) (λ_ _=>rfl)))
  (Zad (Zab (ZaH (ZaE (pv 0) T.ac T.aJ (Zi0 T) (hM hr) T.M_Strip_put.b .nil Zan (Zaa (pv 4) Zac)))
  (Zad (Zaf (Zao (Zar Za1 (pv 1) (pv 4)))))))))))),?_⟩
 have m1:=ok.m1;have m4:=ok.m4;have l40:=ok.l40;walk_at "rd";rcases q with⟨⟨dx,f⟩,q⟩|⟨la,da,ds,st,hd,q⟩
 .obtain⟨h1,h2⟩:a.c_LZ≠a.c_LX/\a.c_LZ≠a.c_MA:=by have:=T.nd;simp at this;exact⟨YAk this.1.1,this.2⟩
  exact⟨_,_,_,_,false,rfl,rfl,.ty (.pl (T.cW f)),ZgI T.k_LX T.bY (by simp[List.contains_cons,h1,h2]) (λe=>absurd e.symm h1),iteT q⟩
 .obtain⟨dx,f⟩:=id st.fld;refine⟨_,_,_,_,true,rfl,rfl,.ty (.pl (T.cV f)),ZgI T.bY T.bY Zlf (λ_=>rfl),iteF ?_⟩;walk_at "h";refine⟨_,_,rfl,Zbn (by lia),?_⟩;by_cases z:15<l.length
  case' pos=>
   have ln:l≠[]:=λe=>by rw[e]at z;simp at z
   rw[decide_eq_true (show (15:Int)<(l.length:Nat) by lia)];refine iteT (iteT' ?d1)
  case' neg=>
   rw[decide_eq_false (show ¬(15:Int)<(l.length:Nat) by lia)];refine iteF ⟨by decide,?_⟩;rcases Decidable.em (((k:Nat):Int) % 4=3) with w_ | w_
   rotate_left
   case' inr=>refine sk9 w_ (iteF ?t2)
   case' inl=>
    refine go9 w_ ?_;rcases Decidable.em (l=[]) with ln | ln
    case' inl=>
     rw[ln];refine Zi4 ⟨false,rfl,iteF ?_⟩;rw[<-ln];refine ?t1
    case' inr=>refine Zlp ln ⟨true,rfl,iteT ?d2⟩
  rotate_right
  iterate 2
   focus
    obtain⟨c0,l0,el⟩:=YCu ln;subst el;refine⟨q_,dx,_,rfl,f,sN,q_,la,da,c0,l0,m,ds,rfl,st,hd,tk,λt c g la2 H2 c2 st2 an tk2=>?_⟩;walk_at "g";refine⟨_,rfl,_,rfl,sz _ (by lia),?_⟩;rw[show cut (c0::l0) (some 1) none=l0 from ZcD (c0::l0) 1];exact q la2 l0 _ H2 c2 tk2 st2 an.nl (by rw[YAG];exact YAP _)
  all_goals
   walk_at "h";obtain⟨c1,hc1,mc1⟩:=Zgk (xs:=m) (i:=((k:Nat):Int) % m.length) (YBX _ (by lia)) (YBP _ (by lia));refine⟨_,_,rfl,Zbn (by lia),by lia,m,_,c1,rfl,rfl,sz _ (by lia),hc1,Zag ?_⟩;walk_at "rd";refine⟨q_,dx,_,rfl,f,sN,q_,la,da,l,m,ds,c1,rfl,st,hd,tk,mc1,by lia,λt c g la2 H2 c2 st2 an tk2=>?_⟩;walk_at "g";exact⟨sz _ (by lia),q la2 _ _ H2 c2 tk2 st2 an.nl (by rw[YAG];exact YAP _)⟩
theorem Zog:FnOk P w K mg base CX0 6 a.bP a.cR ["self"] (sp_KJ K a):=by
 refine T.M_Strip_copied.u.ok ZnE (by walk_at "ln") (λAs A outer s H vs Q E hr h=>?_);obtain⟨p,la,da,l,m,ds,rfl,hp,q⟩:=h;refine⟨_,(Zab (Zam (i:=1) ZnE.nd (ZdP T.aX (Zom T) (hM hr) rfl T.cU T.M_Strip_init.b .nil Zan (Zaa (Zay (K:=K) rfl (pv 0) rfl) Zac)))
  (Zad (Zab (Zcl (pv 1) (Zay (K:=K) rfl (pv 0) rfl) rfl)
  (Zad (Zab (Zcl (pv 1) (Za0 (Zbx (K:=K) rfl) rfl T.z_list Zct (Zaa (Zay (K:=K) rfl (pv 0) rfl) Zac)) rfl)
  (Zad (Zab (Zcl (pv 1) (Za0 (Zbx (K:=K) rfl) rfl T.z_list Zct (Zaa (Zay (K:=K) rfl (pv 0) rfl) Zac)) rfl)
  (Zad (Zaf (Zao (pv 1))))))))))),?_⟩
 obtain⟨⟨dx,f⟩,hk,⟨ts,d1,d2⟩,run,ok,nld⟩:=id hp;walk_at "rd";refine⟨p,_,dx,_,_,rfl,f,T.ac,T.ah,Zch,λx dx2 nx ndx ne=>?_⟩;refine⟨x,dx2,m,rfl,Zae,Zjm ok,λla2 da2 H2 at2 nla nda k2=>⟨rfl,?_⟩⟩;have s2:Same H H2:=λb o e=>k2 b o (by rw[Zah (Zai e nx),Zah (Zai e ndx)];exact e) (Zai e nx);obtain⟨dx3,f2⟩:=at2.fld;have npx:p≠x:=Zai f nx;walk_at "g";refine⟨p,_,dx,_,_,rfl,s2 _ _ f,T.ac,T.aa,Zbc,x,_,dx3,_,rfl,f2,T.ac,T.aa,(by show 4<1000;decide),?_⟩;rw[show putF (Str.ofString "own_text") (tx l) (sF [] m la2 da2)=sF l m la2 da2 from ZiM];have s3:Same H (upd H2 x (.ins a.c_LZ dx3 (sF l m la2 da2))):=same_upd3 s2 nx;have f3:upd H2 x (.ins a.c_LZ dx3 (sF l m la2 da2)) x=some (.ins a.c_LZ dx3 (sF l m la2 da2)):=Zae;generalize upd H2 x (.ins a.c_LZ dx3 (sF l m la2 da2))=H3 at s3 f3;walk_at "g";refine⟨p,_,dx,_,_,rfl,s3 _ _ f,T.ac,T.af,Zdv,la,_,rfl,.inl (.mk (s3 _ _ hk)),λl4 n4=>?_⟩;have s4:Same H3 (upd H3 l4 (.lst ((Zaq l m).map tx))):=Zat n4;have e4:upd H3 l4 (.lst ((Zaq l m).map tx)) l4=some (.lst ((Zaq l m).map tx)):=Zae;generalize upd H3 l4 (.lst ((Zaq l m).map tx))=H4 at s4 e4;have nx4:x≠l4:=Zai f3 n4;refine⟨x,_,dx3,_,rfl,s4 _ _ f3,T.ac,T.af,(by show 4<1000;decide),?_⟩;rw[show putF (Str.ofString "own_lacking") (.ref l4) (sF l m la2 da2)=sF l m l4 da2 from ZiN];have s5:Same H (upd H4 x (.ins a.c_LZ dx3 (sF l m l4 da2))):=same_upd3 (s3.trans s4) nx;have f5:upd H4 x (.ins a.c_LZ dx3 (sF l m l4 da2)) x=some (.ins a.c_LZ dx3 (sF l m l4 da2)):=Zae;have e5:upd H4 x (.ins a.c_LZ dx3 (sF l m l4 da2)) l4=some (.lst ((Zaq l m).map tx)):=by rw[Zah (YAk nx4)];exact e4
 generalize upd H4 x (.ins a.c_LZ dx3 (sF l m l4 da2))=H5 at s5 f5 e5;walk_at "g";refine⟨p,_,dx,_,_,rfl,s5 _ _ f,T.ac,T.ad,Zbz,da,_,rfl,.inl (.mk (s5 _ _ d1)),λl6 n6=>?_⟩;have s6:Same H5 (upd H5 l6 (.lst ts)):=Zat n6;have e6:upd H5 l6 (.lst ts) l6=some (.lst ts):=Zae;generalize upd H5 l6 (.lst ts)=H6 at s6 e6;have nx6:x≠l6:=Zai f5 n6;have n46:l4≠l6:=Zai e5 n6;refine⟨x,_,dx3,_,rfl,s6 _ _ f5,T.ac,T.ad,(by show 4<1000;decide),?_⟩;rw[show putF (Str.ofString "own_deeds") (.ref l6) (sF l m l4 da2)=sF l m l4 l6 from Zke];walk_at "g";have s7:Same H (upd H6 x (.ins a.c_LZ dx3 (sF l m l4 l6))):=same_upd3 (s5.trans s6) nx;refine q x l4 l6 _ s7 ⟨⟨dx3,Zae⟩,?_,⟨ts,?_,d2.chg s7.chg (S:=[]) (by simp)⟩,run,ok,n46⟩ nx (s3.free n4) (s5.free n6)
 .rw[Zah (YAk nx4)];exact s6 _ _ e5
 .rw[Zah (YAk nx6)];exact e6
theorem Zmq:FnOk P w K mg base CX0 6 a.bv a.cq ["self","strip"] (sp_KH K a):=by
 refine T.M_Shelf_ranked.u.ok ZiK (by walk_at "ln") (λAs A outer s H vs Q E hr h=>?_);have hu1:=ZaC hr;obtain⟨p,q_,dA,l,m,F,rfl,hp,hq,ok,hF,tk,q⟩:=h;refine⟨_,(Zab (ZaH (Zal (Zmr T) (hM hr) rfl T.D_same_kinds Zan (Zaa (pv 0) (Zaa (pv 1) Zac))))
  (Zad (Zab (Zam (i:=2) ZiK.nd (ZbX Zac))
  (Zad (Zab (Za8 YAo rfl (ZaU (K:=K) rfl (Zav (pv 0) T.aj T.aW (Zoe T) (hM hr) T.M_Shelf_names.b .nil Zan)) (Zax (i:=3) ZiK.nd rfl (Or.inl rfl))
  (Zab (Zeq (i:=4) ZiK.nd rfl (Or.inr rfl) (Zal (Zqu T) (hM hr) rfl T.D_distance Zan (Zaa (pv 1) (Zaa (Zb5 hu1 (Zay (K:=K) rfl (pv 0) rfl) (pv 3) (λ_ _=>rfl)) Zac))))
  (Zad (Zab (ZeV (i:=5) (N:=["rank","share"]) (ix:=[none,some 4]) rfl ZiK.nd rfl rfl rfl (Zbk rfl) rfl (ZaU (K:=K) rfl (pv 2)) (λ_ _ _ _=>(Zax (i:=0) (show (["rank","share"]:AK).Nodup from by decide +kernel) rfl (Or.inl rfl) (Or.inr rfl))) (λ_ _ _ _=>(Zcv (ZbM (Zbv (Zal (ZqD T) (hM hr) rfl T.D_below Zan (Zaa (pv 1) (Zaa (ZaY (ZaF (K:=K) rfl) (pv 0) Zak (λ_ _=>rfl)) Zac))))))) (λ_ _ _ _=>(pv 0)))
  (Zad (Zaf (ZaH (ZeY YBO PySem.F.slot_list_insert PySem.F.type_list_insert Zi6 (pv 2) (Zaa (Zap (Zau (K:=K) rfl) rfl T.z_len ZaT (Zaa (pv 5) Zac)) (Zaa (ZbW (Zaa (pv 3) (Zaa (pv 4) Zac))) Zac))))))))))
  (Zad (Zaf (Zao (pv 2))))))))),?_⟩
 obtain⟨dx,f⟩:=hp.fld;obtain⟨F',pm,eN⟩:=srtF F;have lF:F'.length=F.length:=pm.length_eq;walk_at "rd";refine⟨p,q_,l,m,rfl,.inr ⟨dA,F,hp⟩,hq,?_⟩;walk_at "h";refine⟨YAt _,NewL.of λpr H1 s1 n1 e1=>Zag ?_⟩;walk_at "rd";refine⟨p,dx,_,rfl,s1 _ _ f,shN,p,dA,m,F,rfl,hp.same s1,hF,λpn H2 s2 n2 e2=>?_⟩;rw[<-eN]at e2;have npn:pn≠pr:=λz=>by rw[z,e1]at n2;cases n2
 have srt:(F'.map (·.n)).Pairwise (λa b=>leT a b=true):=by rw[eN];exact Zbr _
 have ndF:(F'.map (·.n)).Nodup:=((pm.map _).nodup_iff).mpr hp.nd;refine⟨pn,rfl,⟨_,.mk e2⟩,ForRun.list (xs:=(F'.map (·.n)).map tx) (λi U H'=>∃v3 v4 v5 zs R,U=[some (.ref p),some (.ref q_),some (.ref pr),v3,v4,v5]/\SameL H H'/\TT a H'/\H' pn=some (.lst ((F'.map (·.n)).map tx))/\H' pr=some (.lst zs)/\Zg3 H' zs R/\R.Pairwise ltR/\R.Perm ((F'.take i).map λr=>(r.n,Wd l r.l m))) ⟨_,_,_,[],[],rfl,(s1.trans s2).l,tk.same (s1.trans s2),e2,s2 _ _ e1,⟨[],rfl,rfl,λr h=>(by cases h)⟩,.nil,.nil⟩ (λi U H' _ ⟨_,_,_,_,_,_,_,_,e',_⟩=>.mk e') ?_ ?_⟩
 .rintro i x U H3 hx ⟨v3,v4,v5,zs,R,rfl,s3,tk3,en3,e3,ra,pw,pR⟩;rw[YAl,YAQ]at hx;obtain⟨r,hr,rfl⟩:=YBI.mp hx;have hrF:r∈F:=pm.mem_iff.mp (YAh hr);have hi:i<F'.length:=(YAU.mp hr).1;have g:=ZdZ hp.nd hrF;have hp3:=hp.l s3;have st:=hp3.str r hrF;have okr:=ZbS st;have f3:=s3 _ _ f rfl;walk_at "rd";refine⟨p,_,dx,_,_,rfl,f3,T.aj,T.ae,shS,dA,_,rfl,.inl ⟨_,kTx r.n,.inl hp3.dct,rfl,g.symm⟩,q_,r.p,l,r.l,m,rfl,hq.l s3,.inr ⟨r.la,r.da,r.ds,st⟩,tk3,ok,okr,λt H4 s4 tk4 e4=>?_⟩;walk_at "h";obtain⟨rs,rfl,rfl,ha⟩:=ra;have ha4:∀x∈rs,RowA H4 x.1 x.2:=λx hx=>(ha x hx).ext λb vs e=>s4 _ _ e rfl;have pr4:=s4 _ _ e3 rfl;have wl:=Zlb ok okr;have bd:∀x∈rs,x.2.2<=400*DD:=λx hx=>by
   obtain⟨r',hr',e⟩:=YAa.mp (pR.mem_iff.mp (YAx (f:=(·.2)) hx));have:x.2.2=Wd l r'.l m:=by rw[<-e]
   rw[this];exact Zlb ok (ZbS (hp.str r' (pm.mem_iff.mp (YAZ hr'))))
  have lrs:rs.length<=1000:=by have:=pR.length_eq;rw[YAB,YAB,YAW]at this;lia
  refine⟨pr,rfl,⟨_,.mk pr4⟩,CompRun.dataF (xs:=rs.map λr=>V.ref r.1) (λi=>!decide (Wd l r.l m<(rs.getD i (0,[],0)).2.2)) (λ_ _ _=>True) (λ_ _ _ _ _ _=>trivial) (by rw[YAB];lia) (.mk pr4) (λj H' Q' h s' q'=>?_) (λj H' Q' h _ s' q'=>?_) (λpa ya H5 s5 n5 e5 l5 _=>?_)⟩
  .rw[YAB]at h;have hg:(rs.map λr=>V.ref r.1).getD j V.non=.ref (rs.getD j (0,[],0)).1:=by simp[YAT,h]
   have hm:rs.getD j (0,[],0)∈rs:=by simp[YAT,h]
   rw[hg];generalize rs.getD j (0,[],0)=y at hm q' ⊢;obtain⟨u,u1,u2⟩:=(ha4 y hm).ext λb vs e=>s' _ _ e;walk_at "rd";exact⟨y.1,_,_,_,rfl,rfl,.mk u1,rfl,t,u,Wd l r.l m,y.2.2,rfl,s' _ _ e4,u2,wl,bd y hm,_,rfl,q' H' (Same.refl _)⟩
  .walk_at "rd";exact q' _ H' (Same.refl _) trivial
  .walk_at "h";have k5:∀b vs,H4 b=some (.tup vs)->H5 b=some (.tup vs):=λb vs e=>s5 _ _ e;obtain⟨k,ek⟩:∃k,k=(rs.filter λy=>!decide (Wd l r.l m<y.2.2)).length:=⟨_,rfl⟩;rw[YAB,Zgc (λy:AE×Q11×Nat=>!decide (Wd l r.l m<y.2.2)),<-ek]at l5;have kl:k<=rs.length:=by rw[ek];exact YAm _ _
   have pr5:=s5 _ _ pr4;refine⟨.inl ⟨rfl,_,.mk pr5⟩,_,_,rfl,.inl ⟨_,.mk e5,rfl⟩,sz 2 (by decide),NewT.of λt6 H6 s6 n6 e6=>?_⟩;have pr6:=s6 _ _ pr5;rw[l5];refine⟨pr,_,k,_,rfl,rfl,pr6,by rw[YAB];exact kl,by rw[YAB];lia,_,_,_,_,_,rfl,?_,?_,?_,Zae,⟨rs.take k++[(t6,r.n,Wd l r.l m)]++rs.drop k,?_,rfl,?_⟩,?_,?_⟩
   .exact λb o e z=>by rw[Zah (Zai e n1)];exact s6 _ _ (s5 _ _ (s4 _ _ (s3 _ _ e z) z))
   .exact(tk4.same (s5.trans s6)).upd pr6 rfl rfl
   .rw[Zah npn];exact s6 _ _ (s5 _ _ (s4 _ _ en3 rfl))
   .rw[YAb,YAb,YBx,YDG];rfl
   .have up:∀b vs,H6 b=some (.tup vs)->upd H6 pr (.lst ((rs.map λr=>V.ref r.1).take k++[.ref t6]++(rs.map λr=>V.ref r.1).drop k)) b=some (.tup vs):=λb vs e=>by rw[Zah (λz=>by rw[z,pr6]at e;cases e)];exact e
    intro y hy;rcases YAR.mp hy with z | z
    .rcases YAR.mp z with z | z
     .exact(ha4 y (YAZ z)).ext λb vs e=>up _ _ (s6 _ _ (k5 _ _ e))
     .rw[YAI.mp z];exact⟨t,up _ _ e6,up _ _ (s6 _ _ (k5 _ _ e4))⟩
    .exact(ha4 y (YAg z)).ext λb vs e=>up _ _ (s6 _ _ (k5 _ _ e))
   .rw[YAb,YAb,YBx,YDG];have ek2:k=((rs.map (·.2)).filter λy=>!decide (Wd l r.l m<y.2)).length:=by rw[ek,YDJ,YAB];rfl
    rw[ek2];refine Zjs pw (λy hy py=>?_) (λy hy py=>?_)
    .obtain⟨r',hr',rfl⟩:=YAa.mp (pR.mem_iff.mp hy);have lt:r'.n<r.n:=by
      have h1:leT r'.n r.n=true:=by obtain⟨j,hj,e⟩:=YBw hr';rw[YAW]at hj;rw[List.getElem_take]at e;have:=YCy.mp srt j i (by rw[YAB];lia) (by rw[YAB];exact hi) (by lia);rw[List.getElem_map,List.getElem_map,e,(YAU.mp hr).2]at this;exact this
      have ne:r'.n≠r.n:=λe=>by have:=Zdz ndF (i:=i) (n:=r.n) (by rw[YAQ,hr];rfl);rw[<-e,<-YBx]at this;exact this (YAx hr')
      rcases List.le_iff_lt_or_eq.mp (Zbh.mp h1) with z | z
      .exact z
      .exact absurd z ne
     have w1:¬Wd l r.l m<Wd l r'.l m:=by simpa using py
     rcases Nat.lt_or_eq_of_le (Nat.le_of_not_lt w1) with z | z
     .exact .inl z
     .exact .inr ⟨z,lt⟩
    .exact .inl (by simpa using py)
   .rw[YAb,YAb,YBx,YDG];refine(ZhA _ _ _).trans ?_;rw[YBl,hr];show (rs.map (·.2)++[(r.n,Wd l r.l m)]).Perm ((F'.take i++[r]).map _);rw[YAb];exact pR.append_right _
 .rintro U H3 ⟨v3,v4,v5,zs,R,rfl,s3,tk3,en3,e3,ra,pw,pR⟩;rw[YAB,YAB,YBL]at pR;walk_at "k";exact q pr zs R H3 s3 tk3 (Nw.of n1) e3 ra ⟨pw,pR.trans (pm.map _)⟩
theorem ZqB:FnOk P w K mg base CX0 7 a.f_L4 a.d_L4 ["_law_text","_law_kinds_here","_law_cell_here"] (sp_L4 K a):=by
 refine T.D_lband.u.ok ZpG (by walk_at "ln") (λAs A outer s H vs Q E hr h=>?_);have Aw:=hr.units;obtain⟨l,m,c,rfl,ok,tk,q⟩:=h;refine⟨_,(Zab (Za7 (Zaw (ZaO (K:=K) rfl Aw) (Zar ZaX (pv 2) Zak) Zak (Zaz _)) (Zaf (Zao (ZdP T.bX (ZqH T) (hM hr) rfl T.m_LX T.M_Plain_init.b .nil Zan (Zaa (pv 0) (Zaa (pv 1) Zac))))) ZaA)
  (Zaf (Zao (Zal (Zmm T) (hM hr) rfl T.D_lstrip Zan (Zaa (pv 0) (Zaa (pv 1) (Zaa (Zar Zbg (pv 2) Zak) Zac))))))),?_⟩
 walk_at "rd";refine⟨by decide,.inl ⟨rfl,_,rfl,ite2 (λ_=>?_) (λ_=>⟨⟨by decide,by decide⟩,l,m,_,rfl,ok,tk,λp la da ds H2 s t at2 n0 n1 n2 d=>q p H2 s t (.inr ⟨la,da,ds,at2,n0,n1,n2,d⟩)⟩)⟩⟩;intro p dx np ndx ne;refine⟨p,dx,l,m,rfl,Zae,ok,λH2 r k=>⟨rfl,?_⟩⟩;have s:Same H H2:=λb o e=>k b o (by rw[Zah (Zai e np),Zah (Zai e ndx)];exact e) (Zai e np);exact q p H2 s.l (tk.same s) (.inl r)
theorem ZqA:FnOk P w K mg base CX0 7 a.f_L6 a.d_L6 ["_law_shelf","_law_beside","_law_name","_law_cell_here","_law_kinds_here"] (sp_L6 K a):=by
 refine T.D_ldeed.u.ok ZeS (by walk_at "ln") (λAs A outer s H vs Q E hr h=>?_);have Aw:=hr.units;have hu1:=ZaC hr;obtain⟨p,dA,dB,q_,n,m,l,F,G,Z,c,rfl,wl,ky,hn,hg,tk,q⟩:=h;refine⟨_,(Zab (Zam (i:=5) ZeS.nd (Zb5 hu1 (pv 1) (pv 2) (λ_ _=>rfl)))
  (Zad (Zab (Zam (i:=6) ZeS.nd (Zar ZaX (pv 3) Zak))
  (Zad (Zab (Zam (i:=7) ZeS.nd (Zav (pv 5) T.ac T.ag (Zef T) (hM hr) T.M_Band_text.b .nil Zan))
  (Zad (Zab (Za7 (Zaw (ZaO (K:=K) rfl Aw) (pv 6) Zak (Zaz _)) (Zad (Zab (Zam (i:=8) ZeS.nd (ZaE (pv 0) T.aj T.bT (ZqO T) (hM hr) T.M_Shelf_take.b .nil Zan (Zaa (pv 2) Zac)))
  (Zad (Zab (ZaH (Zhn (pv 1) (pv 2) ⟨rfl,rfl,rfl,rfl⟩))
  (Zad (Zaf (Zao (ZbA (Zap (Za2 (K:=K) rfl) rfl T.z_isinstance ZaV (Zaa (pv 8) (Zaa (ZeX (v:=.ref a.c_LZ) rfl T.cU rfl) Zac))) (ZbA (ZaW (ZaO (K:=K) rfl Aw) (Zav (pv 8) T.ac T.ag (Zef T) (hM hr) T.M_Band_text.b .nil Zan) (pv 7) (Zaz _)) (Zb7 (ZaW (ZaO (K:=K) rfl Aw) (Zav (pv 8) T.ac T.aL (Zkq T) (hM hr) T.M_Strip_deeds.b .nil Zan) (Zav (pv 5) T.ac T.aL (Zkq T) (hM hr) T.M_Strip_deeds.b .nil Zan) (Zaz _)))))))))))) ZaA)
  (Zad (Zab (Za7 (PW.pt (Zdl (Zaw Zh9 (pv 6) Zak (Zaz _)) (Zck (Zaw Zh9 (Zap (Zau (K:=K) rfl) rfl T.z_len ZaT (Zaa (pv 7) Zac)) Zak (Zaz _))))) (Zad (Zab (Zam (i:=9) ZeS.nd (ZaY ZgL (pv 4) (Zar ZaX (Zar Zbg (pv 3) Zak) (Zap (Zau (K:=K) rfl) rfl T.z_len ZaT (Zaa (pv 4) Zac))) (λ_ _=>rfl)))
  (Zad (Zaf (Zao (ZbA (ZaW (ZaO (K:=K) rfl Aw) (ZaE (pv 0) T.aj T.bU (Zqx T) (hM hr) T.M_Shelf_put.b .nil Zan (Zaa (pv 2) (Zaa (pv 9) Zac))) (ZaE (pv 5) T.ac T.aJ (Zi0 T) (hM hr) T.M_Strip_put.b .nil Zan (Zaa (pv 9) Zac)) (Zaz _)) (Zb7 (ZaW (ZaO (K:=K) rfl Aw) (Zav (pv 5) T.ac T.ag (Zef T) (hM hr) T.M_Band_text.b .nil Zan) (Zar Za1 (pv 7) (pv 9)) (Zaz _))))))))) ZaA)
  (Zad (Zab (Za7 (PW.pt (Zdl (Zaw (ZaO (K:=K) rfl Aw) (pv 6) Zak (Zaz _)) (Zck (Zaw (ZbB (K:=K) rfl Aw) (pv 7) (ZaD (l:=[]) (by decide +kernel)) (Zaz _))))) (Zad (Zaf (Zao (ZbA (ZaW (ZaO (K:=K) rfl Aw) (ZaE (pv 0) T.aj T.bV (ZqF T) (hM hr) T.M_Shelf_drop.b .nil Zan (Zaa (pv 2) Zac)) (Zav (pv 5) T.ac T.aM (Zkr T) (hM hr) T.M_Strip_drop.b .nil Zan) (Zaz _)) (Zb7 (ZaW (ZaO (K:=K) rfl Aw) (Zav (pv 5) T.ac T.ag (Zef T) (hM hr) T.M_Band_text.b .nil Zan) (ZaN Zcg (pv 7) (ZaS Zak) Zbf) (Zaz _))))))) ZaA)
  (Zad (Zab (Za7 (PW.pt (Zdl (Zaw Zib (pv 6) Zak (Zaz _)) (Zck (Zaw (ZbB (K:=K) rfl Aw) (Zav (pv 5) T.ac T.aL (Zkq T) (hM hr) T.M_Strip_deeds.b .nil Zan) (ZbX Zac) (Zaz _))))) (Zad (Zab (ZnT (ZaY (ZcZ (K:=K) rfl) (Zav (pv 5) T.ac T.aL (Zkq T) (hM hr) T.M_Strip_deeds.b .nil Zan) (Zh8 Zek Zak) (λ_ _=>rfl)) (ZiT rfl (Zcx (Zax (i:=10) ZeS.nd rfl (Or.inl rfl)) (Zcx (Zax (i:=9) ZeS.nd rfl (Or.inl rfl)) ZgF))))
  (Zad (Zab (Zam (i:=11) ZeS.nd (ZaY (ZcZ (K:=K) rfl) (ZbX (Zaa (Zar Za1 (pv 9) (pv 7)) (Zaa (ZaN Zcg (pv 7) Zbf (ZaS (Zh8 Zek Zak))) Zac))) (Za0 ZjT rfl T.z_int ZlL (Zaa (ZaW (ZaO (K:=K) rfl Aw) (pv 10) (ZaD (l:=[112,117,116]) (by decide +kernel)) (Zaz _)) Zac)) (λ_ _=>rfl)))
  (Zad (Zaf (Zao (ZbA (ZaW (ZaO (K:=K) rfl Aw) (ZaE (pv 0) T.aj T.bW (ZqG T) (hM hr) T.M_Shelf_back.b .nil Zan (Zaa (pv 2) Zac)) (Zav (pv 5) T.ac T.aZ (Zoo T) (hM hr) T.M_Strip_back.b .nil Zan) (Zaz _)) (Zb7 (ZaW (ZaO (K:=K) rfl Aw) (Zav (pv 5) T.ac T.ag (Zef T) (hM hr) T.M_Band_text.b .nil Zan) (pv 11) (Zaz _))))))))))) ZaA)
  (Zad (Zaf (Zao ZcR)))))))))))))))),?_⟩
 obtain⟨r,hrG,rfl⟩:=hn;obtain⟨s,hsF,en,el,ed⟩:=Zlv ky hrG;have ndG:(G.map (·.n)).Nodup:=by rw[<-Zik ky];exact wl.nd
 have g:=ZdZ ndG hrG;have st:=wl.all.1 r (by simp[hrG]);have sok:=ZbS st;have hd:=hg r hrG;obtain⟨dx,f⟩:=id st.fld;have m1:=wl.kok.m1;walk_at "rd";refine⟨dB,_,rfl,.inl ⟨_,kTx r.n,.inl wl.bes,rfl,g.symm⟩,Zag ?_⟩;walk_at "rd";refine⟨by decide,Zag ?_⟩;have hb:BandA a H r.p r.l m:=.inr ⟨r.la,r.da,r.ds,st⟩;have w0:0<=c % 8:=YBX _ (by decide);have w8:c % 8<8:=YBP _ (by decide);obtain⟨W,eW⟩:∃W,W=c % 8:=⟨_,rfl⟩;rw[<-eW]at w0 w8 ⊢;walk_at "rd";refine⟨r.p,dx,_,rfl,f,sN,r.p,r.l,m,rfl,hb,Zag ?_⟩;walk_at "rd";have fin:∀ {H1 H2:Hp} {la1 la2:AE} {l2:Q11} {ds2:List (Bool×Nat)},Chg [s.p,s.da] H H1->StripAt a.c_LZ H1 s.p la1 s.da l2 m ds2->Nw H la1->Chg [r.p,r.da] H1 H2->StripAt a.c_LZ H2 r.p la2 r.da l2 m ds2->Nw H1 la2->ds2.length<=r.ds.length+1->TT a H2->Q (.bl true) H2:=λc1 st1 nl1 c2 st2 nl2 dl tk2=>by obtain⟨F2,G2,a1,a2,a3,a4,a5⟩:=wl.both ky hsF hrG en c1 st1 nl1 c2 st2 nl2 dl ed;exact q F2 G2 _ a1 a2 a3 a4 a5 tk2
 have sh:=wl.shelf;have l40:=sok.l40;have hl:r.l.length<=1000:=by lia
 obtain⟨dp,fp⟩:=sh.fld;by_cases z0:W=0
 .refine go9 z0 ?_;walk_at "g";refine⟨p,dp,_,rfl,fp,shN,p,dA,m,F,s,by rw[en],sh,hsF,λH1 k1 sh1=>?_⟩;walk_at "g";have b1:=k1 _ _ wl.bes (YAk wl.ne);refine⟨dB,rfl,.inl ⟨_,.inl b1⟩,_,kTx r.n,_,b1,rfl,g,Zag ?_⟩;walk_at "rd";rw[Zjk];have k2:KeepB dB H1 (upd H1 dB (.dK (kpKV (G.filter λx=>decide (x.n≠r.n))))):=λb o e z=>by rw[Zah z];exact e
  have b2:upd H1 dB (.dK (kpKV (G.filter λx=>decide (x.n≠r.n)))) dB=some (.dK (kpKV (G.filter λx=>decide (x.n≠r.n)))):=Zae;generalize upd H1 dB (.dK (kpKV (G.filter λx=>decide (x.n≠r.n))))=H2 at k2 b2;have d1:=sh1.dct;have d2:=k2 _ _ d1 wl.ne;rw[en]at d2;have w2:=wl.less (n:=r.n) (H2:=H2) (λb o e n1 n2=>k2 _ _ (k1 _ _ e n1) n2) d2 b2;have tk2:=k2.tt (k1.tt tk wl.dct) b1;have sts:=ZaM (ZaM (wl.all.1 s (by simp[hsF])) k1 wl.dct) k2 b1;have str:=ZaM (ZaM st k1 wl.dct) k2 b1;obtain⟨ds_,fs⟩:=id sts.fld;obtain⟨dr,fr⟩:=id str.fld;refine⟨_,_,_,_,true,rfl,rfl,.ty (.pl (T.cV fs)),ZgI T.bY T.bY Zlf (λ_=>rfl),iteT ⟨s.p,ds_,_,rfl,fs,sN,s.p,s.l,m,rfl,.inr ⟨s.la,s.da,s.ds,sts⟩,?_⟩⟩;rw[el];refine ZgR ⟨_,rfl,iteT ⟨s.p,ds_,_,rfl,fs,sN,s.p,s.la,s.da,s.l,m,s.ds,rfl,sts,λr1 ts1 f1 dd1=>?_⟩⟩;have s3:=Zat (o:=.lst ts1) f1;refine⟨r.p,dr,_,rfl,s3 _ _ fr,sN,r.p,r.la,r.da,r.l,m,r.ds,rfl,str.same s3,λr2 ts2 f2 dd2=>?_⟩;have s4:=Zat (o:=.lst ts2) f2;have s34:=s3.trans s4;rw[<-ed]at dd2;refine ZkY (s4 _ _ Zae) (ZcC dd1 s34) Zae (ZcC dd2 s4) ?_;refine q _ _ _ ⟨[dA,dB],λb o e n t=>s34 _ _ (k2 _ _ (k1 _ _ e (λz=>n (by simp[z]))) (λz=>n (by simp[z]))),λb hb=>?_⟩ (w2.same s34) (ZkH ky _) (YAm _ _) (λx hx=>?_) (tk2.same s34)
  .simp only[YAH,YAz,or_false]at hb;exact hb.imp id .inl
  .refine⟨x,?_,rfl,YCn _⟩;exact(List.filter_sublist.append List.filter_sublist).subset hx
 refine sk9 z0 ?_;walk_at "h";by_cases zb:W<5/\r.l.length<16
 .rw[decide_eq_true zb.1];refine iteT ⟨_,_,rfl,Zbn (by have:=sok.l40;lia),?_⟩;rw[decide_eq_true (show ((r.l.length:Nat):Int)<16 by lia)];refine iteT (Zag ?_);walk_at "rd";obtain⟨c1,hc1,mc1⟩:=Zgk (xs:=m) (i:=c/96 % m.length) (YBX _ (by lia)) (YBP _ (by lia));have m4:=wl.kok.m4;refine⟨⟨by decide,by decide⟩,_,_,rfl,Zbn (by lia),by lia,m,_,c1,rfl,rfl,sz _ (by lia),hc1,Zag ?_⟩;walk_at "rd";refine⟨p,dp,_,rfl,fp,shN,p,dA,m,F,s,c1,by rw[en],sh,hsF,tk,by rw[ed];lia,mc1,by rw[el];lia,λt1 c1' g1 la1 H1 ch1 st1 an1 tk1=>?_⟩;have str:=wl.mid hsF hrG ch1;obtain⟨dr,fr⟩:=id str.fld;refine⟨r.p,dr,_,rfl,fr,sN,r.p,r.la,r.da,r.l,m,r.ds,c1,rfl,str,by lia,tk1,mc1,by lia,λt2 c2' g2 la2 H2 ch2 st2 an2 tk2=>?_⟩;rw[el,ed]at st1;rw[el]at an1;refine Zc6 st str an1 an2 ch2 (ZhH _ _ _ _) (ZhI _ _ _ _) ⟨_,rfl,iteT ?_⟩;obtain⟨d2,f2⟩:=id st2.fld;refine⟨r.p,d2,_,rfl,f2,sN,r.p,_,m,rfl,.inr ⟨_,_,_,st2⟩,sz _ (by show _+1<=9000;lia),ZgR (fin ch1 st1 an1.nl ch2 st2 an2.nl (by rw[YAG];exact YAP _) tk2)⟩
 have nb:W<5->¬((r.l.length:Nat):Int)<16:=λh k=>zb ⟨h,by lia⟩;apply pas
 .intro t;by_cases z1:W<5
  .rw[decide_eq_true z1];refine iteT ⟨_,_,rfl,Zbn hl,?_⟩;rw[decide_eq_false (nb z1)];exact iteF t
  .rw[decide_eq_false z1];exact iteF (iteF t)
 walk_at "h";by_cases zc:W=5/\r.l≠[]
 .obtain⟨c0,l0,e0⟩:=YCu zc.2;have ll:r.l.length=l0.length+1:=by rw[e0];rfl
  refine go9 zc.1 (Zlp zc.2 ⟨true,rfl,iteT (Zag ?_)⟩);walk_at "rd";refine⟨p,dp,_,rfl,fp,shN,p,dA,m,F,s,c0,l0,by rw[en],sh,hsF,tk,by rw[ed];lia,by rw[el,e0],λt1 c1' g1 la1 H1 ch1 st1 an1 tk1=>?_⟩;have str:=wl.mid hsF hrG ch1;obtain⟨dr,fr⟩:=id str.fld;have st':=st;rw[e0]at str st';refine⟨r.p,dr,_,rfl,fr,sN,r.p,r.la,r.da,c0,l0,m,r.ds,rfl,str,by lia,tk1,λt2 c2' g2 la2 H2 ch2 st2 an2 tk2=>?_⟩;rw[ed]at st1;refine Zc6 st' str an1 an2 ch2 (ZhI _ _ _ _) (ZhH _ _ _ _) ⟨_,rfl,iteT ?_⟩;obtain⟨d2,f2⟩:=id st2.fld;refine⟨r.p,d2,_,rfl,f2,sN,r.p,_,m,rfl,.inr ⟨_,_,_,st2⟩,_,rfl,_,rfl,sz _ (by lia),?_⟩;rw[e0,show cut (c0::l0) (some 1) none=l0 from ZcD (c0::l0) 1];exact ZgR (fin ch1 st1 an1.nl ch2 st2 an2.nl (by rw[YAG];exact YAP _) tk2)
 apply pas
 .intro t;by_cases z1:W=5
  .have e:r.l=[]:=Classical.byContradiction λz=>zc ⟨z1,z⟩;exact go9 z1 (Zop e ⟨false,rfl,iteF t⟩)
  .exact sk9 z1 (iteF t)
 walk_at "h";by_cases zd:5<W/\r.ds≠[]
 .obtain⟨d0,ds0,c0,eds,hl0⟩:∃d ds0 c0,r.ds=ds0++[(d,c0)]/\(d=true->∃l0,r.l=l0++[c0]):=by
   obtain⟨ds0,c0,⟨e1,l0,e2,_⟩|⟨e1,_⟩⟩:=st.run.last zd.2
   .exact⟨true,ds0,c0,e1,λ_=>⟨l0,e2⟩⟩
   .exact⟨false,ds0,c0,e1,λz=>by cases z⟩
  rw[decide_eq_true zd.1];refine iteT ⟨r.p,dx,_,rfl,f,sN,r.p,r.la,r.da,r.l,m,r.ds,rfl,st,λr1 ts1 f1 dd1=>⟨YAt _,NewL.of λr2 H2 s2 f2 e2=>?_⟩⟩;have s1:=Zat (o:=.lst ts1) f1;refine ZfJ (s2 _ _ Zae) (ZcC dd1 (s1.trans s2)) e2 ⟨_,rfl,?_⟩;rw[decide_eq_true zd.2];refine iteT (Zag ?_);have s02:=s1.trans s2;generalize upd H r1 (.lst ts1)=Hx at s1 s2 f2;clear s1 s2 f2;have st3:=st.same s02;obtain⟨d3,f3⟩:=id st3.fld;walk_at "rd";refine⟨r.p,d3,_,rfl,f3,sN,r.p,r.la,r.da,r.l,m,r.ds,rfl,st3,λr3 ts3 f4 dd3=>?_⟩;have s3:=Zat (o:=.lst ts3) f4;rw[eds]at dd3;obtain⟨ts',t0,ets,ht0,_⟩:=dd3.init;subst ets;refine⟨r3,_,_,_,rfl,rfl,.mk Zae,Zk8 _ _,t0,_,rfl,.mk (s3 _ _ ht0),rfl,_,_,rfl,_,_,rfl,rfl,Zag ?_⟩;have s03:=s02.trans s3;generalize upd H2 r3 (.lst (ts'++[.ref t0]))=H3 at s03;walk_at "rd";refine⟨sz _ (by show 1+_<=9000;lia),_,rfl,_,rfl,sz _ (by lia),sz 2 (by decide),NewL.of λr4 H4 s4 n4 e4=>.inl ⟨rfl,?_⟩⟩;rw[YAJ YAC,Zcr,show decide ((if d0=true then PUT else DROP)=[112,117,116])=d0 by cases d0<;>decide];refine .inr ⟨d0,rfl,r4,_,_,tx (if d0=true then cut r.l none (some (-1)) else c0::r.l),rfl,rfl,.mk e4,by cases d0<;>rfl,Zag ?_⟩;have s04:=s03.trans s4;have sh4:=sh.same s04;have st4:=st.same s04;have wl4:=wl.same s04;have dl:ds0.length+1=r.ds.length:=by rw[eds,YAG];rfl
  walk_at "rd";refine⟨p,dp,_,rfl,s04 _ _ fp,shN,p,dA,m,F,s,by rw[en],sh4,hsF,tk.same s04,by rw[ed];lia,?_⟩;cases d0 with
  | true=>
   obtain⟨l0,e0⟩:=hl0 rfl;refine .inl ⟨ds0,c0,l0,by rw[ed,eds],by rw[el,e0],λt1 c1' g1 la1 H5 ch1 st1 an1 tk1=>?_⟩;have str:=wl4.mid hsF hrG ch1;obtain⟨dr,fr⟩:=id str.fld;refine⟨r.p,dr,_,rfl,fr,sN,r.p,r.la,r.da,r.l,m,r.ds,rfl,str,by lia,tk1,.inl ⟨ds0,c0,l0,eds,e0,λt2 c2' g2 la2 H6 ch2 st2 an2 tk2=>?_⟩⟩;refine Zc6 st4 str an1 an2 ch2 (ZhI _ _ _ _) (ZhH _ _ _ _) ⟨_,rfl,iteT ?_⟩;obtain⟨d2,f2⟩:=id st2.fld;refine⟨r.p,d2,_,rfl,f2,sN,r.p,_,m,rfl,.inr ⟨_,_,_,st2⟩,?_⟩;rw[YAM rfl,e0,Zk4];exact ZgR (fin (s04.chg.trans ch1) st1 (an1.nl.same s04) ch2 st2 an2.nl (by lia) tk2)
  | false=>
   refine .inr ⟨ds0,c0,by rw[ed,eds],λt1 c1' g1 la1 H5 ch1 st1 an1 tk1=>?_⟩;have str:=wl4.mid hsF hrG ch1;obtain⟨dr,fr⟩:=id str.fld;refine⟨r.p,dr,_,rfl,fr,sN,r.p,r.la,r.da,r.l,m,r.ds,rfl,str,by lia,tk1,.inr ⟨ds0,c0,eds,λt2 c2' g2 la2 H6 ch2 st2 an2 tk2=>?_⟩⟩;rw[el]at an1 st1;refine Zc6 st4 str an1 an2 ch2 (ZhH _ _ _ _) (ZhI _ _ _ _) ⟨_,rfl,iteT ?_⟩;obtain⟨d2,f2⟩:=id st2.fld;refine⟨r.p,d2,_,rfl,f2,sN,r.p,_,m,rfl,.inr ⟨_,_,_,st2⟩,?_⟩;rw[YAJ YAC];exact ZgR (fin (s04.chg.trans ch1) st1 (an1.nl.same s04) ch2 st2 an2.nl (by lia) tk2)
 have nd:5<W->r.ds=[]:=λh=>Classical.byContradiction λk=>zd ⟨h,k⟩;apply Zgp (C:=λH'=>Same H H')
 .intro t;by_cases z1:5<W
  .rw[decide_eq_true z1];refine iteT ⟨r.p,dx,_,rfl,f,sN,r.p,r.la,r.da,r.l,m,r.ds,rfl,st,λr1 ts1 f1 dd1=>⟨YAt _,NewL.of λr2 H2 s2 f2 e2=>?_⟩⟩;have s1:=Zat (o:=.lst ts1) f1;refine ZfJ (s2 _ _ Zae) (ZcC dd1 (s1.trans s2)) e2 ⟨_,rfl,?_⟩;rw[decide_eq_false (λz=>z (nd z1))];have s02:=s1.trans s2;exact iteF (t H2 s02)
  .rw[decide_eq_false z1];exact iteF (iteF (t H (Same.refl _)))
 intro H1 s1;walk_at "h";exact q F G H1 ⟨[],s1.chg,λb hb=>(by cases hb)⟩ (wl.same s1) ky (YAP _) (λx hx=>⟨x,hx,rfl,YCn _⟩) (tk.same s1)
theorem ZqK:FnOk P w K mg base CX0 7 a.bj a.cf ["self","name"] (sp_KN K a):=by refine T.M_Shelf_shown.u.ok ZpT (by walk_at "ln") (λAs A outer s H vs Q E hr h=>?_);obtain⟨p,dA,m,F,r,rfl,hp,hrF,q⟩:=h;refine⟨_,(Zaf (Zao (Zav (ZaE (pv 0) T.aj T.aI (Zi1 T) (hM hr) T.M_Shelf_kept.b .nil Zan (Zaa (pv 1) Zac)) T.ac T.ba (Zog T) (hM hr) T.M_Strip_copied.b .nil Zan))),?_⟩;obtain⟨dx,f⟩:=hp.fld;walk_at "rd";refine⟨p,dx,_,rfl,f,shN,p,dA,m,F,r,rfl,hp,hrF,λH1 s1=>?_⟩;have st:=(hp.str r hrF).same s1;obtain⟨dy,g⟩:=id st.fld;exact⟨r.p,dy,_,rfl,g,sN,r.p,r.la,r.da,r.l,m,r.ds,rfl,st,λp2 la2 da2 H2 s2 st2 n1 n2 n3=>q p2 la2 da2 H2 (s1.trans s2) st2 (s1.free n1) (s1.free n2) (s1.free n3)⟩
theorem Zok:FnOk P w K mg base CX0 7 a.bg a.b8 ["self","name","strip"] (sp_K9 K a):=by
 refine T.M_Shelf_lay.u.ok ZpZ (by walk_at "ln") (λAs A outer s H vs Q E hr h=>?_);have hu1:=ZaC hr;obtain⟨p,dA,q_,la,da,l,m,n,ds,F,rfl,hp,hs,hn,nf,hF,q⟩:=h;refine⟨_,(Zab (ZaH (ZaE (pv 0) T.aj T.bR (ZqN T) (hM hr) T.M_Shelf_need_free.b .nil Zan (Zaa (pv 1) Zac)))
  (Zad (Zab (ZaH (Zal (Zmr T) (hM hr) rfl T.D_same_kinds Zan (Zaa (pv 0) (Zaa (pv 2) Zac))))
  (Zad (Zaf (Zc9 hu1 (Zay (K:=K) rfl (pv 0) rfl) (pv 1) (Zav (pv 2) T.ac T.ba (Zog T) (hM hr) T.M_Strip_copied.b .nil Zan) rfl)))))),?_⟩
 obtain⟨dx,f⟩:=hp.fld;obtain⟨dy,g⟩:=id hs.fld;walk_at "rd";refine⟨p,dx,_,rfl,f,shN,p,dA,m,F,n,rfl,hp,hn,nf,λH1 s1=>?_⟩;have hs1:=hs.same s1;walk_at "h";refine⟨p,q_,l,m,rfl,.inr ⟨dA,F,hp.same s1⟩,.inr ⟨la,da,ds,hs1⟩,?_⟩;walk_at "h";refine⟨q_,dy,_,rfl,s1 _ _ g,sN,q_,la,da,l,m,ds,rfl,hs1,λp2 la2 da2 H2 s2 st2 n1 n2 n3=>?_⟩;have s12:=s1.trans s2;obtain⟨k1,k2⟩:=hp.lay (r:=⟨n,p2,la2,da2,l,ds⟩) s12 st2 hn nf;exact⟨p,_,dx,_,_,rfl,s12 _ _ f,T.aj,T.ae,shS,dA,_,rfl,.inl ⟨_,kTx n,s12 _ _ hp.dct,rfl,by rw[Zji];exact YBf hF (by rw[sizeLine_eq];decide),rfl⟩,q ⟨n,p2,la2,da2,l,ds⟩ _ rfl rfl rfl (s1.free n1) (s1.free n2) (s1.free n3) k2 k1⟩
theorem Zmn:FnOk P w K mg base CX0 8 a.f_LN a.d_LN ["_law_shelf","_law_texts","_law_asked","_law_band_here","_law_kinds_here"] (sp_LN K a):=by
 refine T.D_lranked.u.ok Zh6 (by walk_at "ln") (λAs A outer s H vs Q E hr h=>?_);have Aw:=hr.units;have hu1:=ZaC hr;obtain⟨p,dA,d,q_,l,m,F,rfl,hp,hq,ok,hF,hd,ne,tk,q⟩:=h;refine⟨_,(Zab (Zam (i:=5) Zh6.nd (ZaE (pv 0) T.aj T.aN (Zmq T) (hM hr) T.M_Shelf_ranked.b .nil Zan (Zaa (pv 3) Zac)))
  (Zad (Zab (Zam (i:=6) Zh6.nd (Zal (Zqm T) (hM hr) rfl T.D_ldue Zan (Zaa (pv 1) (Zaa (pv 2) (Zaa (pv 4) Zac)))))
  (Zad (Zab (Za7 (PW.pt (Zfy (ZbM (Zbv (Zap (Za2 (K:=K) rfl) rfl T.z_isinstance ZaV (Zaa (pv 5) (Zaa (Zda (v:=.ty "list") rfl T.z_list Zct rfl) Zac))))) (Zdk (Zaw (ZbB (K:=K) rfl Aw) (pv 5) (pv 6) (Zaz _))))) (Zaf (Zao ZcR)) ZaA)
  (Zad (Zab (Za8 YAo rfl (ZaU (K:=K) rfl (pv 5)) (ZiT rfl (Zcx (Zax (i:=7) Zh6.nd rfl (Or.inl rfl)) (Zcx (Zax (i:=8) Zh6.nd rfl (Or.inl rfl)) ZgF)))
  (Zaf (Za7 (ZbM (Zbv (Zal (Zqp T) (hM hr) rfl T.D_lshare Zan (Zaa (pv 8) (Zaa (pv 8) Zac))))) (Zaf (Zao ZcR)) ZaA)))
  (Zad (Zab (ZaH (Zlo YBO PySem.F.slot_list_clear PySem.F.type_list_clear Zkx (pv 5)))
  (Zad (Zab (Za7 (Zaw (ZbB (K:=K) rfl Aw) (Zav (pv 0) T.aj T.aW (Zoe T) (hM hr) T.M_Shelf_names.b .nil Zan) (Zap (Zdo rfl) rfl T.z_sorted Zb2 (Zaa (pv 1) Zac)) (Zaz _)) (Zaf (Zao ZcR)) ZaA)
  (Zad (Zab (ZeU (Za8 YAo rfl (ZeW (pv 1)) (Zax (i:=7) Zh6.nd rfl (Or.inl rfl))
  (Zaf (Za7 (Zaw (ZbB (K:=K) rfl Aw) (Zav (ZaE (pv 0) T.aj T.bS (ZqK T) (hM hr) T.M_Shelf_shown.b .nil Zan (Zaa (pv 7) Zac)) T.ac T.ag (Zef T) (hM hr) T.M_Band_text.b .nil Zan) (Zb5 hu1 (pv 1) (pv 7) (λ_ _=>rfl)) (Zaz _)) (Zaf (Zao ZcR)) ZaA))))
  (Zad (Zaf (Zao ZcR)))))))))))))))),?_⟩
 obtain⟨dx,f⟩:=hp.fld;obtain⟨F',pm,hd⟩:=hd;have ndF:(F'.map (·.n)).Nodup:=(pm.map _).nodup_iff.mpr hp.nd;walk_at "rd";refine⟨p,dx,_,rfl,f,shN,p,q_,dA,l,m,F,rfl,hp,hq,ok,hF,tk,λtf zf R H1 s1 tk1 n1 e1 ra ro=>?_⟩;walk_at "h";have d1:=s1 _ _ hd rfl;refine⟨d,l,m,F',rfl,ok,λr hr=>⟨ZbS (hp.str r (pm.mem_iff.mp hr)),hp.nm r (pm.mem_iff.mp hr)⟩,ndF,by rw[pm.length_eq];exact hF,d1,tk1,λtd zd R2 H2 s2 tk2 n2 e2 ra2 ro2=>?_⟩;have eR:=ro2.same ro pm;subst eR;walk_at "h";have e12:=s2 _ _ e1 rfl;have ra12:Zg3 H2 zf R2:=let ⟨rs,a1,a2,ha⟩:=ra;⟨rs,a1,a2,λx hx=>(ha x hx).ext λb vs e=>s2 _ _ e rfl⟩;refine⟨_,_,_,_,true,rfl,rfl,.ty (.seqL (.mk e12)),ZfQ,iteF (.inr ⟨_,_,Zdw (.mk e12) ra12,Zdw (.mk e2) ra2,λz=>YAC z.1,Zhh _,?_⟩)⟩;rw[YAM rfl,Zhg];refine⟨false,rfl,iteF ?_⟩;walk_at "h";obtain⟨rs,rfl,rfl,ha⟩:=ra12;refine⟨tf,rfl,⟨_,.mk e12⟩,ForRun.list (xs:=rs.map λr=>V.ref r.1) (λi U H'=>∃v7 v8,U=[some (.ref p),some (.ref d),some (tx l),some (.ref q_),some (tx m),some (.ref tf),some (.ref td),v7,v8]/\H'=H2) ⟨_,_,rfl,rfl⟩ (λi U H' _ ⟨_,_,_,e'⟩=>by rw[e'];exact .mk e12) ?_ ?_⟩
 .rintro i x U H3 hx ⟨v7,v8,rfl,rfl⟩;rw[YAQ]at hx;obtain⟨y,hy,rfl⟩:=YBI.mp hx;obtain⟨u,u1,u2⟩:=ha y (YAh hy);walk_at "rd";exact⟨y.1,_,rfl,.mk u1,rfl,_,_,rfl,_,_,rfl,rfl,u,u,_,_,rfl,u2,u2,true,rfl,iteF ⟨_,_,rfl,rfl⟩⟩
 .rintro U H3 ⟨v7,v8,rfl,rfl⟩;walk_at "k";refine⟨.inl ⟨rfl,_,.mk e12⟩,tf,_,rfl,rfl,e12,?_⟩;have s3:SameL H (upd H3 tf (.lst [])):=λb o e z=>by rw[Zah (n1.ne e z)];exact s2 _ _ (s1 _ _ e z) z
  have tk3:TT a (upd H3 tf (.lst [])):=tk2.upd e12 rfl rfl;generalize upd H3 tf (.lst [])=H4 at s3 tk3;have hp4:=hp.l s3;have f4:=s3 _ _ f rfl;have d4:=s3 _ _ hd rfl;walk_at "h";refine⟨p,dx,_,rfl,f4,shN,p,dA,m,F,rfl,hp4,hF,λr1 H5 s5 n5 e5=>⟨d,_,F'.map (·.n),rfl,.inl (s5 _ _ d4),by rw[YAl,YAl];rfl,NewL.of λr2 H6 s6 n6 e6=>?_⟩⟩;rw[ZcI (pm.map (·.n))]at e6;have s56:=s5.trans s6;have d6:=s56 _ _ d4;refine Zoq (.mk (s6 _ _ e5)) (.mk e6) ⟨false,rfl,iteF (Zag ?_)⟩;walk_at "rd";have s06:=s3.trans s56.l;refine⟨d,_,d6,d,_,rfl,d6,λo=>ForRun.dict (λi U H'=>∃v7 v8,U=[some (.ref p),some (.ref d),some (tx l),some (.ref q_),some (tx m),some (.ref tf),some (.ref td),v7,v8]/\Same (upd H6 d (.frz o (.dK (F'.map λr=>(kTx r.n,tx r.l))))) H') ⟨_,_,rfl,Same.refl _⟩ (λi U H' ⟨_,_,_,s⟩=>s _ _ Zae) ?_ ?_⟩
  .rintro i kv U H7 hkv ⟨v7,v8,rfl,s7⟩;rw[YAQ]at hkv;obtain⟨r,hr,rfl⟩:=YBI.mp hkv;have rF':r∈F':=YAh hr;have rF:r∈F:=pm.mem_iff.mp rF';have hp7:ShelfAt a H7 p dA m F:=((hp4.same s56).dict d6 ne).same s7;obtain⟨dx7,f7⟩:=hp7.fld;rw[ZkI];walk_at "rd";refine⟨p,dx7,_,rfl,f7,shN,p,dA,m,F,r,rfl,hp7,rF,λp2 la2 da2 H8 s8 st8 _ _ _=>?_⟩;have hb:BandA a H8 p2 r.l m:=.inr ⟨la2,da2,r.ds,st8⟩;obtain⟨dy,g8⟩:=id st8.fld;exact⟨p2,dy,_,rfl,g8,sN,p2,r.l,m,rfl,hb,d,_,rfl,.inl ⟨_,kTx r.n,.inr ⟨o,s8 _ _ (s7 _ _ Zae)⟩,rfl,(Ziu ndF rF').symm⟩,Zi4 ⟨false,rfl,iteF ⟨_,_,rfl,s7.trans s8⟩⟩⟩
  .rintro U H7 ⟨v7,v8,rfl,s7⟩;have d7:=s7 _ _ Zae;refine⟨o,_,d7,?_⟩;walk_at "k";exact q _ (s06.trans (Znd d6 s7.l)) ((tk3.same s56 |>.upd d6 rfl rfl |>.same s7).upd d7 rfl rfl)
theorem ok_law:FnOk P w K mg base CX0 9 a.f_law a.d_law ["_law_script"] (spLaw K tb):=by
 refine T.D_law.u.ok Zbl (λvs H Q E h=>?_) (λAs A outer s H vs Q E hr h=>?_)
 .obtain⟨_,_,rfl,_⟩:=h;rfl
 .have Aw:=hr.units;have hu1:=ZaC hr;obtain⟨b,ns,rfl,hS,hl,tk,tkM,q⟩:=h;obtain⟨es0_,ees0_⟩:∃es_,es_=Zo6 ((ZaL Zca).getD 6 (.Pass ⟨0,0,0,0⟩)):=⟨_,rfl⟩;have eb_:ZaL Zca=[(ZaL Zca).getD 0 (.Pass ⟨0,0,0,0⟩),(ZaL Zca).getD 1 (.Pass ⟨0,0,0,0⟩),(ZaL Zca).getD 2 (.Pass ⟨0,0,0,0⟩),(ZaL Zca).getD 3 (.Pass ⟨0,0,0,0⟩),(ZaL Zca).getD 4 (.Pass ⟨0,0,0,0⟩),(ZaL Zca).getD 5 (.Pass ⟨0,0,0,0⟩),Zo5 es0_ ((ZaL Zca).getD 6 (.Pass ⟨0,0,0,0⟩)),(ZaL Zca).getD 7 (.Pass ⟨0,0,0,0⟩),(ZaL Zca).getD 8 (.Pass ⟨0,0,0,0⟩),(ZaL Zca).getD 9 (.Pass ⟨0,0,0,0⟩),(ZaL Zca).getD 10 (.Pass ⟨0,0,0,0⟩),(ZaL Zca).getD 11 (.Pass ⟨0,0,0,0⟩),(ZaL Zca).getD 12 (.Pass ⟨0,0,0,0⟩)]:=by rw[ees0_];kernel_rfl
  rw[eb_];refine' ⟨_,(Zab (Zam (i:=1) Zbl.nd (Zal (Zqq T) (hM hr) rfl T.D_lkinds Zan (Zaa (Zal (Zko T) (hM hr) rfl T.D_lcell Zan (Zaa (pv 0) (Zaa Zak Zac))) Zac)))
   (Zad (Zab (Zam (i:=2) Zbl.nd (Zal (Zko T) (hM hr) rfl T.D_lcell Zan (Zaa (pv 0) (Zaa Zak Zac))))
   (Zad (Zab (Zam (i:=3) Zbl.nd (Zal (Zn6 T) (hM hr) rfl T.D_letters Zan (Zaa (Zal (Zko T) (hM hr) rfl T.D_lcell Zan (Zaa (pv 0) (Zaa Zak Zac))) (Zaa (Zal (Zko T) (hM hr) rfl T.D_lcell Zan (Zaa (pv 0) (Zaa Zak Zac))) (Zaa (pv 1) (Zaa (Zar ZaX (pv 2) Zak) Zac))))))
   (Zad (Zab (Zam (i:=4) Zbl.nd (Zal (ZqB T) (hM hr) rfl T.D_lband Zan (Zaa (pv 3) (Zaa (pv 1) (Zaa (Zar Zbg (pv 2) Zak) Zac)))))
   (Zad (Zab (Zam (i:=5) Zbl.nd (ZdP T.aU (Zoc T) (hM hr) rfl T.m_LY T.M_Shelf_init.b .nil Zan (Zaa (pv 1) Zac)))
   (Zad (Zab (Zam (i:=6) Zbl.nd ZcQ)
   (Zad (Zab (Za8 YAo rfl (Zmf rfl T.z_enumerate (Zaa (ZaN (ZeQ (K:=K) rfl) (pv 0) (ZaS Zak) (ZaS Zak)) Zac)) (ZiT rfl (Zcx (Zax (i:=7) Zbl.nd rfl (Or.inl rfl)) (Zcx (Zax (i:=2) Zbl.nd rfl (Or.inl rfl)) ZgF)))
   (Zad (Zab (Zam (i:=8) Zbl.nd (Zmg ?disp0))
   (Zad (Zab (Zam (i:=9) Zbl.nd (ZaY (ZcZ (K:=K) rfl) (pv 8) (Zar ZaX (Zar Zbg (pv 2) Zak) Zak) (λ_ _=>rfl)))
   (Zad (Zab (Za7 (Zfz (ZiU hu1 (pv 9) (pv 6))) (Zad (Zaf (Za7 (ZbM (Zbv (Zal (ZqA T) (hM hr) rfl T.D_ldeed Zan (Zaa (pv 5) (Zaa (pv 6) (Zaa (pv 9) (Zaa (pv 2) (Zaa (pv 1) Zac)))))))) (Zad (Zaf (Zao ZcR))) ZaA))) (Zad (Zab (Zam (i:=10) Zbl.nd (Zal (Zn6 T) (hM hr) rfl T.D_letters Zan (Zaa (Zar Zbg (pv 2) Zak) (Zaa (Zar Zbg (pv 2) Zak) (Zaa (pv 1) (Zaa (Zar ZaX (Zar Zbg (pv 2) Zak) Zak) Zac))))))
   (Zad (Zab (Zam (i:=11) Zbl.nd (Zal (Zmm T) (hM hr) rfl T.D_lstrip Zan (Zaa (pv 10) (Zaa (pv 1) (Zaa (pv 2) Zac)))))
   (Zad (Zab (ZaH (ZaE (pv 5) T.aj T.aV (Zok T) (hM hr) T.M_Shelf_lay.b .nil Zan (Zaa (pv 9) (Zaa (pv 11) Zac))))
   (Zad (Zaf (Zc9 hu1 (pv 6) (pv 9) (pv 11) rfl))))))))))
   (Zad (Zab (Zam (i:=12) Zbl.nd ZcQ)
   (Zad (Zab (ZeU (Za8 YAo rfl (ZeW (pv 6)) (Zax (i:=9) Zbl.nd rfl (Or.inl rfl))
   (Zad (Zaf (Zc9 hu1 (pv 12) (pv 9) (Zav (Zb5 hu1 (pv 6) (pv 9) (λ_ _=>rfl)) T.ac T.ag (Zef T) (hM hr) T.M_Band_text.b .nil Zan) rfl)))))
   (Zad (Zab (Za7 (PW.pt (Zdl (Zaw (ZaO (K:=K) rfl Aw) (Zar ZaX (pv 7) Zak) Zak (Zaz _)) (Zck (ZbM (Zbv (Zal (Zmn T) (hM hr) rfl T.D_lranked Zan (Zaa (pv 5) (Zaa (pv 12) (Zaa (pv 3) (Zaa (pv 4) (Zaa (pv 1) Zac))))))))))) (Zad (Zaf (Zao ZcR))) ZaA)
   (Zad (Zaf (Za7 (Zaw (ZaO (K:=K) rfl Aw) (Zar ZaX (pv 7) Zak) Zak (Zaz _)) (Zad (Zaf (Zam (i:=3) Zbl.nd (Zal (Zn8 T) (hM hr) rfl T.D_gone_on Zan (Zaa (pv 4) (Zaa (pv 3) (Zaa (pv 1) (Zaa (pv 7) Zac)))))))) ZaA))))))))))))))))
   (Zad (Zab (Zam (i:=12) Zbl.nd ZcQ)
   (Zad (Zab (Zam (i:=13) Zbl.nd (ZdP T.aU (Zoc T) (hM hr) rfl T.m_LY T.M_Shelf_init.b .nil Zan (Zaa (pv 1) Zac)))
   (Zad (Zab (Za8 YAo rfl (ZaU (K:=K) rfl (Zkk rfl rfl T.z_sorted (Zaa (pv 6) Zac))) (Zax (i:=9) Zbl.nd rfl (Or.inl rfl))
   (Zad (Zab (Zc9 hu1 (pv 12) (pv 9) (Zav (Zb5 hu1 (pv 6) (pv 9) (λ_ _=>rfl)) T.ac T.ag (Zef T) (hM hr) T.M_Band_text.b .nil Zan) rfl)
   (Zad (Zaf (ZaH (ZaE (pv 13) T.aj T.aV (Zok T) (hM hr) T.M_Shelf_lay.b .nil Zan (Zaa (pv 9) (Zaa (Zal (Zmm T) (hM hr) rfl T.D_lstrip Zan (Zaa (Zb5 hu1 (pv 12) (pv 9) (λ_ _=>rfl)) (Zaa (pv 1) (Zaa Zak Zac)))) Zac)))))))))
   (Zad (Zab (Za7 (PW.pt (Zfy (ZbM (Zbv (Zal (Zmn T) (hM hr) rfl T.D_lranked Zan (Zaa (pv 5) (Zaa (pv 12) (Zaa (pv 3) (Zaa (pv 4) (Zaa (pv 1) Zac)))))))) (Zdk (Zaw (ZbB (K:=K) rfl Aw) (ZaE (pv 13) T.aj T.aN (Zmq T) (hM hr) T.M_Shelf_ranked.b .nil Zan (Zaa (pv 4) Zac)) (ZaE (pv 5) T.aj T.aN (Zmq T) (hM hr) T.M_Shelf_ranked.b .nil Zan (Zaa (pv 4) Zac)) (Zaz _))))) (Zad (Zaf (Zao ZcR))) ZaA)
   (Zad (Zab (Zam (i:=3) Zbl.nd (Zal (Zn8 T) (hM hr) rfl T.D_gone_on Zan (Zaa (pv 4) (Zaa (pv 3) (Zaa (pv 1) (Zaa (Zap ZjS rfl T.z_len ZaT (Zaa (pv 12) Zac)) Zac))))))
   (Zad (Zaf (Zao (ZbA (ZaW (ZaO (K:=K) rfl Aw) (Zer (Zav (pv 4) T.az T.ay (Zef T) (hM hr) T.M_Band_text.b .nil Zan) (Zav (pv 4) T.ac T.ag (Zef T) (hM hr) T.M_Band_text.b .nil Zan)) (pv 3) (Zaz _)) (Zb7 (Zal (Zmn T) (hM hr) rfl T.D_lranked Zan (Zaa (pv 5) (Zaa (pv 12) (Zaa (pv 3) (Zaa (pv 4) (Zaa (pv 1) Zac)))))))))))))))))))))))))))))))))),?_⟩
  case disp0=>
   rw[ees0_];exact(Zbj (ZaD (l:=[97,98]) (by decide +kernel)) (Zbj (ZaD (l:=[98]) (by decide +kernel)) (Zbj (ZaD (l:=[97,97]) (by decide +kernel)) (Zbj (ZaD (l:=[99]) (by decide +kernel)) (Zbj (ZaD (l:=[97,98,99]) (by decide +kernel)) (Zbj (ZaD (l:=[97]) (by decide +kernel)) (Zbj (ZaD (l:=[97,98,99,100,101,102,103,104]) (by decide +kernel)) (Zbj (ZaD (l:=[98,97]) (by decide +kernel)) (Zbj (ZaD (l:=[97,98,99,100,101,102,103,105]) (by decide +kernel)) (Zbj (ZaD (l:=[98,98]) (by decide +kernel)) (Zbj (ZaD (l:=[97,99]) (by decide +kernel)) (Zbj (ZaD (l:=[100]) (by decide +kernel)) Zmj))))))))))))
  rw[<-T.e_LH]at tk;rw[<-T.e_LO]at tkM;have tt0:TT a H:=⟨tk,tkM⟩;clear tk tkM;walk_at "rd";refine⟨b,ns,0,rfl,hS,by decide,by decide,λr0=>⟨_,rfl,λm mk m1 m4=>Zag ?_⟩⟩;have kok:KOk m:=⟨mk,m1,m4⟩;walk_at "rd";refine⟨b,ns,1,rfl,hS,by decide,by decide,λr1=>Zag ?_⟩;walk_at "rd";obtain⟨n13,e13,h13⟩:∃n:Nat,r1 % 13=(n:Int)/\n<=12:=⟨(r1 % 13).toNat,by lia,by lia⟩;rw[e13];refine⟨b,ns,2,rfl,hS,by decide,by decide,λr2=>⟨b,ns,3,rfl,hS,by decide,by decide,λr3=>⟨by decide,r2,r3,m,n13,rfl,m1,m4,by lia,λl H1 ll lm s1=>?_⟩⟩⟩;have ok:StripOk l m:=⟨mk,m1,m4,by lia,lm⟩;have hS1:=s1.seq hS;have tt1:=tt0.same s1;clear hS tt0 s1 n13 e13 h13 ll lm;walk_at "g";refine⟨⟨by decide,by decide⟩,l,m,_,rfl,ok,tt1,λq_ H2 s2 tt2 bd2=>Zag ?_⟩;have hS2:=Zny hS1 s2;walk_at "rd";intro p dx np ndx ne0;refine⟨p,dx,m,rfl,Zae,kok,λdA H3 sh3 nA k3=>⟨rfl,Zag ?_⟩⟩;have s3:Same H2 H3:=λb o e=>k3 b o (by rw[Zah (Zai e np),Zah (Zai e ndx)];exact e) (Zai e np);have hS3:=s3.seq hS2;have tt3:=tt2.same s3;walk_at "rd";intro dB nB;have s4:Same H3 (upd H3 dB (.dK [])):=Zat nB;have e4:upd H3 dB (.dK []) dB=some (.dK []):=Zae;have nAB:dA≠dB:=Zai sh3.dct nB;generalize upd H3 dB (.dK [])=H4 at s4 e4;have hS4:=s4.seq hS3;have tt4:=tt3.same s4;have sh4:=sh3.same s4;obtain⟨Z,w4,z4⟩:∃Z,Wld a H4 p dA dB q_ m l [] [] Z/\∀z∈Z,z.ds.length<=200/\Nw H1 z.da:=by
   rcases bd2 with rg | ⟨la,da,ds,st,n0,n1,n2,hd⟩
   .obtain⟨dy,g⟩:=rg;exact⟨[],⟨sh4.fld,sh4.dct,e4,⟨λr h=>(by cases h),.nil⟩,λr h=>(by cases h),.nil,nAB,.inl ⟨rfl,dy,s4 _ _ (s3 _ _ g)⟩,kok,ok⟩,λz h=>by cases h⟩
   .refine⟨[⟨[],q_,la,da,l,ds⟩],⟨sh4.fld,sh4.dct,e4,⟨λr h=>?_,by simp⟩,λr h=>(by cases h),.nil,nAB,.inr ⟨_,rfl,rfl,rfl⟩,kok,ok⟩,λz h=>?_⟩
    .rw[show r=⟨[],q_,la,da,l,ds⟩ by simpa using h];exact st.same (s3.trans s4)
    .rw[YAI.mp h];exact⟨hd,n2⟩
  clear sh3 sh4 bd2 k3 s3 s4 tt3 hS3 e4 nB nA np ndx ne0 hS2 tt2 s2;walk_at "h";refine⟨_,rfl,_,rfl,b,_,rfl,hS4,λbl nbl=>⟨bl,rfl,⟨_,.mk Zae⟩,?_⟩⟩;obtain⟨cs,ecs,lcs⟩:∃cs:List Int,cutV (ns.map V.int) (some 5) (some 50)=cs.map V.int/\cs.length<=45:=by
   refine⟨(ns.drop 5).take 45,?_,?_⟩
   .show cut _ _ _=_;rw[show cut (ns.map V.int) (some 5) (some 50)=((ns.map V.int).drop 5).take (50-5) from ZjP (ns.map V.int) 5 50,YBx,YDG]
   .rw[YAW];lia
  rw[ecs];have s5:Same H4 (upd H4 bl (.lst (cs.map V.int))):=Zat nbl;have e5:upd H4 bl (.lst (cs.map V.int)) bl=some (.lst (cs.map V.int)):=Zae;have zb:∀z∈Z,z.da≠bl:=λz hz=>by obtain⟨_,_,x3,x4⟩:=ZaG (w4.all.1 z (by simp[hz]));exact Zai x4 nbl
  have w5:=w4.same s5;have tt5:=tt4.same s5;generalize upd H4 bl (.lst (cs.map V.int))=H5 at s5 e5 w5 tt5;clear w4 tt4 hS4 s5;refine ForRun.enum (xs:=cs.map V.int) (LInv a b bl dA dB p q_ m cs) ⟨_,_,_,_,_,_,_,_,l,[],[],Z,rfl,w5,rfl,YAP _,λr hr=>⟨zb r (by simpa using hr),by have:=(z4 r (by simpa using hr)).1;lia⟩,tt5,e5⟩ (λi U H' _ h=>by cases h with | mk _ _ _ _ _ _ _ _ _ _ _ _ _ _ _ _ _ _ e'=>exact .mk e') ?_ ?_
  .clear w5 zb z4 tt5 e5 ok;rintro i x tp U H6 hx ⟨v2,v7,v8,v9,v10,v11,v12,v13,l,F,G,Z,rfl,w6,ky,gl,nb,tt6,e6⟩ ntp;rw[YAQ]at hx;obtain⟨c,hc,rfl⟩:=YBI.mp hx;have hi:i<45:=by have:=(YAU.mp hc).1;lia
   have s7:=Zat (o:=.tup [.int (i:Nat),.int c]) ntp;walk_at "rd";refine⟨tp,_,rfl,.mk Zae,rfl,_,_,rfl,_,_,rfl,rfl,Zag ?_⟩;have w7:=w6.same s7;have tt7:=tt6.same s7;have e7:=s7 _ _ e6;generalize upd H6 tp (.tup [.int (i:Nat),.int c])=H7 at w7 tt7 e7;clear w6 tt6 e6 s7 ntp hx hc;walk_at "rd";obtain⟨NL,eNL⟩:∃NL,NL=([[97,98],[98],[97,97],[99],[97,98,99],[97],[97,98,99,100,101,102,103,104],[98,97],[97,98,99,100,101,102,103,105],[98,98],[97,99],[100]]:Q22):=⟨_,rfl⟩;have N12:NL.length=12:=by rw[eNL];rfl
   have Nn:∀n∈NL,isn n=true:=by rw[eNL];decide
   refine⟨sz 12 (by decide),NewL.of λpn H8 s8 n8 e8=>Zag ?_⟩;rw[show [tx [97,98],tx [98],tx [97,97],tx [99],tx [97,98,99],tx [97],tx [97,98,99,100,101,102,103,104],tx [98,97],tx [97,98,99,100,101,102,103,105],tx [98,98],tx [97,99],tx [100]]=NL.map tx by rw[eNL];rfl]at e8;clear eNL;have w8:=w7.same s8;have tt8:=tt7.same s8;have bl8:=s8 _ _ e7;clear w7 tt7 e7 s8 n8;walk_at "rd";obtain⟨v,hv,vm⟩:=Zgk (xs:=NL.map tx) (i:=c/8 % 12) (YBX _ (by decide)) (by rw[YAB,N12];exact YBP _ (by decide));obtain⟨n,hn,rfl⟩:=YAa.mp vm;have inn:=Nn n hn;refine⟨⟨by decide,by decide⟩,by decide,pn,_,_,_,rfl,rfl,.mk e8,hv,Zag ?_⟩;clear hv vm hn Nn N12 e8;walk_at "rd";have ndG:(G.map (·.n)).Nodup:=by rw[<-Zik ky];exact w8.nd
   have fl:F.length=G.length:=by have:=congrArg List.length ky;rwa [YAB,YAB]at this
   have nz:∀r∈Z,r.ds.length<=300+i:=λr hr=>(nb r (by simp[hr])).2;apply ZhV (C:=Mid8 a bl dA dB p q_ m l cs (i+1) Z)
   .intro tail;rcases Decidable.em (∃r∈G,r.n=n) with hG | hG
    rotate_left
    .have nf:∀s∈G,s.n≠n:=λs hs e=>hG ⟨s,hs,e⟩;have nF:∀s∈F,s.n≠n:=λs hs e=>by
      have:n∈G.map (·.n):=by rw[<-Zik ky,<-e];exact YAx hs
      obtain⟨t,ht,e2⟩:=YAa.mp this;exact nf t ht e2
     refine⟨dB,_,rfl,.inl ⟨_,kTx n,.inl w8.bes,rfl,rfl⟩,?_⟩;rw[ZkE nf];refine iteF (Zag ?_);walk_at "rd";obtain⟨k9,e9,h9⟩:∃k:Nat,c/96 % 9=(k:Int)/\k<=8:=⟨(c/96 % 9).toNat,by lia,by lia⟩;rw[e9];refine⟨⟨by decide,by decide⟩,⟨by decide,by decide⟩,⟨by decide,by decide⟩,by decide,_,_,m,k9,rfl,m1,m4,by lia,λl' H9 ll lm s9=>Zag ?_⟩;have ok':StripOk l' m:=⟨mk,m1,m4,by lia,lm⟩;walk_at "rd";refine⟨l',m,c,rfl,ok',tt8.same s9,λq2 la da ds HA sA ttA st nq nla nda dl=>Zag ?_⟩;have wA:=(w8.same s9).l sA;have shA:=wA.shelf;obtain⟨dp,fp⟩:=shA.fld;walk_at "rd";refine⟨p,dp,_,rfl,fp,shN,p,dA,q2,la,da,l',m,n,ds,F,rfl,shA,st,inn,nF,by lia,λr HB e1 e2 e3 f1 f2 f3 kB shB=>?_⟩;walk_at "g";have bB:=kB _ _ wA.bes (YAk wA.ne);refine⟨dB,_,rfl,.inl ⟨_,kTx n,bB,rfl,by rw[Zji];exact YBf (show G.length<=100 by lia) (by rw[sizeLine_eq];decide),rfl⟩,?_⟩;have wN:=w8.lay (g:=⟨n,q2,la,da,l',ds⟩) (s9.l.trans sA) st (nq.same s9) (nla.same s9) (nda.same s9) f1 f2 f3 kB shB nf;have ttN:=(kB.tt ttA wA.dct).upd (o':=.dK (putK (kpKV G) (kTx n) (.ref q2))) bB rfl rfl;have blA:=sA _ _ (s9 _ _ bl8) rfl;have blN:upd HB dB (.dK (putK (kpKV G) (kTx n) (.ref q2))) bl=some (.lst (cs.map V.int)):=by rw[Zah (λz=>by have:=wA.bes;rw[<-z,blA]at this;cases this)];exact kB _ _ blA (λz=>by have:=wA.dct;rw[<-z,blA]at this;cases this)
     generalize upd HB dB (.dK (putK (kpKV G) (kTx n) (.ref q2)))=HC at wN ttN blN;generalize (some (tx l'):Option V)=x10;generalize (some (V.ref q2):Option V)=x11;refine tail x10 x11 HC ⟨_,_,wN,?_,by rw[YAG,YBF];lia,λs hs=>?_,ttN,blN⟩
     .rw[YAb,YAb,ky];unfold kk;rw[YCf,YCf,e1,e2,e3]
     .simp only[YAR,YAI]at hs;have old:∀s∈F++G++Z,s.da≠bl/\s.ds.length<=300+(i+1):=λs hs=>⟨(nb s hs).1,by have:=(nb s hs).2;lia⟩;rcases hs with ((z | z) | z | z) | z
      .exact old s (by simp[z])
      .rw[z,e3];exact⟨YAk (Zai blA f3),by lia⟩
      .exact old s (by simp[z])
      .rw[z];exact⟨YAk ((nda.same s9).ne bl8 rfl),by show ds.length<=_;lia⟩
      .exact old s (by simp[z])
    .obtain⟨r,hr,rfl⟩:=hG;refine⟨dB,_,rfl,.inl ⟨_,kTx r.n,.inl w8.bes,rfl,rfl⟩,?_⟩;rw[ZdZ ndG hr];refine iteT (Zag ?_);walk_at "rd";refine⟨p,dA,dB,q_,r.n,m,l,F,G,Z,c,rfl,w8,ky,⟨r,hr,rfl⟩,λs hs=>by have:=(nb s (by simp[hs])).2;lia,tt8,λF2 G2 H9 fr w9 ky9 gl9 kl tt9=>⟨_,rfl,iteF ?_⟩⟩;obtain⟨S,ch,hS⟩:=fr;have bl9:H9 bl=some (.lst (cs.map V.int)):=ch _ _ bl8 (λz=>by
      rcases hS bl z with e | e | ⟨s,hs,e | e⟩
      .rw[e,w8.dct]at bl8;cases bl8
      .rw[e,w8.bes]at bl8;cases bl8
      .obtain⟨⟨_,_,x1⟩,_⟩:=ZaG (w8.all.1 s (YBe _ hs));rw[e,x1]at bl8;cases bl8
      .exact(nb s (YBe _ hs)).1 e.symm) rfl
     refine tail v10 v11 H9 ⟨F2,G2,w9,ky9,by lia,λs hs=>?_,tt9,bl9⟩;rcases YAR.mp hs with z | z
     .obtain⟨t,ht,e1,e2⟩:=kl s z;have:=nb t (YBe _ ht);exact⟨by rw[e1];exact this.1,by lia⟩
     .have:=nb s (YBD _ z);exact⟨this.1,by lia⟩
   .clear w8 tt8 bl8 nb ndG;rintro v10 v11 H9 ⟨F,G,w9,ky,gl,nb,tt9,bl9⟩;walk_at "g";intro pt nt;have sA:Same H9 (upd H9 pt (.dK [])):=Zat nt;have eA:upd H9 pt (.dK []) pt=some (.dK []):=Zae;generalize upd H9 pt (.dK [])=HA at sA eA;have wA:=w9.same sA;have ntB:pt≠dB:=YAk (Zai w9.bes nt);have ndG:(G.map (·.n)).Nodup:=by rw[<-Zik ky];exact w9.nd
    walk_at "h";have dB':=wA.bes;refine⟨dB,_,dB',dB,_,rfl,dB',λo=>ForRun.dict (λj U H'=>∃v9,U=[some (.ref b),some (tx m),some (.int c),some (tx l),some (.ref q_),some (.ref p),some (.ref dB),some (.int (i:Nat)),some (.ref pn),v9,v10,v11,some (.ref pt),v13]/\KeepB pt (upd HA dB (.frz o (.dK (kpKV G)))) H'/\H' pt=some (.dK ((G.take j).map λr=>(kTx r.n,tx r.l)))) ⟨_,rfl,λb o e _=>e,by rw[Zah ntB];exact eA⟩ (λj U H' ⟨_,_,k,_⟩=>k _ _ Zae (YAk ntB)) ?_ ?_⟩
    .rintro j kv U HB hkv ⟨v9',rfl,kB,eB⟩;unfold kpKV at hkv;rw[YAQ]at hkv;obtain⟨r,hr,rfl⟩:=YBI.mp hkv;have hrG:r∈G:=YAh hr;have kf:KeepB dB HA (upd HA dB (.frz o (.dK (kpKV G)))):=λb u e z=>by rw[Zah z];exact e
     have ptf:upd HA dB (.frz o (.dK (kpKV G))) pt=some (.dK []):=by rw[Zah ntB];exact eA
     have st:=ZaM (ZaM (wA.all.1 r (by simp[hrG])) kf dB') kB ptf;obtain⟨dy,g⟩:=id st.fld;have dBf:=kB _ _ Zae (YAk ntB);rw[ZkI];walk_at "rd";walk_at "g";have hj:=(YAU.mp hr).1;have no:valV ((G.take j).map λr=>(kTx r.n,tx r.l)) (kTx r.n)=none:=Znc λs hs e=>by have h1:=Zdz ndG (i:=j) (n:=r.n) (by rw[YAQ,hr];rfl);rw[<-YBx,<-e]at h1;exact h1 (YAx hs)
     refine⟨dB,_,rfl,.inl ⟨_,kTx r.n,.inr ⟨o,dBf⟩,rfl,(ZdZ ndG hrG).symm⟩,r.p,dy,_,rfl,g,sN,r.p,r.l,m,rfl,.inr ⟨_,_,_,st⟩,pt,_,rfl,.inl ⟨_,kTx r.n,eB,rfl,by rw[YAB,YAW];exact YBf (show _<=100 by lia) (by rw[sizeLine_eq];decide),rfl⟩,_,rfl,λx u e z=>by rw[Zah z];exact kB _ _ e z,?_⟩;rw[Zae,Zcu _ no,YBl,hr];show some (HO.dK _)=some (HO.dK ((G.take j++[r]).map _));rw[YAb];rfl
    .rintro U HB ⟨v9',rfl,kB,eB⟩;rw[Zji,YBL]at eB;have dB2:=kB _ _ Zae (YAk ntB);refine⟨o,_,dB2,?_⟩;walk_at "rd?";refine Zag ?_;have s9:SameL H9 (upd HB dB (.dK (kpKV G))):=λx u e z=>by
      by_cases h:x=dB
      .rw[h,Zae];rw[h,w9.bes]at e;exact e
      .rw[Zah h];exact kB _ _ (by rw[Zah h];exact sA _ _ e) (Zai e nt)
     have tC:TxD (upd HB dB (.dK (kpKV G))) pt F:=⟨F,List.Perm.refl _,by rw[Zah ntB,eB,ZoD ky]⟩;have ttC:TT a (upd HB dB (.dK (kpKV G))):=(kB.tt ((tt9.same sA).upd dB' rfl rfl) (by rw[Zah ntB];exact eA)).upd dB2 rfl rfl;generalize upd HB dB (.dK (kpKV G))=HC at s9 tC ttC;have wC:=w9.l s9;have blC:=s9 _ _ bl9 rfl;have fl:F.length=G.length:=by have:=congrArg List.length ky;rwa [YAB,YAB]at this
     have ntA:pt≠dA:=YAk (Zai w9.dct nt);clear w9 wA sA eA tt9 bl9 kB eB dB2 dB' nt s9;walk_at "rd";refine⟨by decide,?_⟩;by_cases z:((i:Nat):Int) % 9=8
     .refine go9 z ⟨p,dA,pt,q_,l,m,F,rfl,wC.shelf,wC.band,wC.ok,by lia,tC,ntA,ttC,λHD sD ttD=>⟨true,rfl,iteF ?_⟩⟩;have wD:=wC.l sD;have blD:=sD _ _ blC rfl;walk_at "h";refine⟨by decide,go9 z ?_⟩;walk_at "g";refine⟨q_,l,m,i,rfl,wD.ok,ttD,?_⟩;rcases wD.bd with⟨eZ,rg⟩|⟨zz,eZ,e1,e2⟩
      .exact .inl ⟨rg,_,_,_,_,_,_,_,_,l,F,G,Z,rfl,wD,ky,gl,nb,ttD,blD⟩
      .subst eZ;have st:=wD.all.1 zz (by simp);have hz:=nb zz (by simp);have hz2:=nz zz (by simp);rw[e2]at st;rw[e1]at st;refine .inr ⟨zz.la,zz.da,zz.ds,st,by lia,λla2 l2 ds2 HE cE ttE stE nlE dlE=>?_⟩;have wE:=wD.stepZ (la2:=la2) (l2:=l2) (ds2:=ds2) (by rw[e1];exact cE) (by rw[e1];exact stE) nlE e1;refine⟨_,_,_,_,_,_,_,_,l2,F,G,_,rfl,wE,ky,gl,λs hs=>?_,ttE,cE _ _ blD ?_ rfl⟩
       .rcases YAR.mp hs with y | y
        .have:=nb s (YBe _ y);exact this
        .rw[YAI.mp y];exact⟨hz.1,by show ds2.length<=_;lia⟩
       .simp only[YAH,YAz,or_false,not_or];refine⟨λy=>?_,YAk hz.1⟩;obtain⟨⟨_,_,x1⟩,_⟩:=ZaG st;rw[y,x1]at blD;cases blD
     .refine sk9 z (iteF ?_);walk_at "h";exact⟨by decide,sk9 z ⟨_,_,_,_,_,_,_,_,l,F,G,Z,rfl,wC,ky,gl,nb,ttC,blC⟩⟩
  .rintro U H6 ⟨v2,v7,v8,v9,v10,v11,v12,v13,l,F,G,Z,rfl,w6,ky,gl,nb,tt6,e6⟩;clear w5 zb z4 tt5 e5 ok;rw[YAB]at gl nb;have fl:F.length=G.length:=by have:=congrArg List.length ky;rwa [YAB,YAB]at this
   have g45:G.length<=45:=by lia
   walk_at "k";intro pt nt;have s7:Same H6 (upd H6 pt (.dK [])):=Zat nt;have e7:upd H6 pt (.dK []) pt=some (.dK []):=Zae;have ntA:pt≠dA:=YAk (Zai w6.dct nt);have ntB:pt≠dB:=YAk (Zai w6.bes nt);generalize upd H6 pt (.dK [])=H7 at s7 e7;have w7:=w6.same s7;have tt7:=tt6.same s7;clear w6 tt6 e6 s7 nt;walk_at "h";intro p2 dx2 np2 ndx2 ne2;refine⟨p2,dx2,m,rfl,Zae,kok,λdC H8 sh8 nC k8=>⟨rfl,Zag ?_⟩⟩;have s8:Same H7 H8:=λb o e=>k8 b o (by rw[Zah (Zai e np2),Zah (Zai e ndx2)];exact e) (Zai e np2);have w8:=w7.same s8;have tt8:=tt7.same s8;have e8:=s8 _ _ e7;have nw7:∀ {x u},H7 x=some u->x≠dC:=λe z=>by rw[<-z,Zah (Zai e np2),Zah (Zai e ndx2),e]at nC;cases nC
   have nCt:=nw7 e7;have nCA:=nw7 w7.dct;have nCB:=nw7 w7.bes;clear nw7 s8 k8 nC np2 ndx2 ne2 w7 tt7 e7;walk_at "rd";have ndG:(G.map (·.n)).Nodup:=by rw[<-Zik ky];exact w8.nd
   refine⟨dB,_,G.map (·.n),rfl,.inl w8.bes,Zjj G,by rw[YAB];lia,λls pn H9 pl s9 n9 e9=>?_⟩;obtain⟨G',pG,eG⟩:=ZfC pl rfl;subst eG;have gl':G'.length=G.length:=pG.length_eq;have ndG':(G'.map (·.n)).Nodup:=(pG.map _).nodup_iff.mpr ndG;have w9:=w8.same s9;have tt9:=tt8.same s9;have sh9:=sh8.same s9;have t9:=s9 _ _ e8;clear w8 tt8 sh8 e8 s9 n9;refine⟨pn,rfl,⟨_,.mk e9⟩,ForRun.list (xs:=(G'.map (·.n)).map tx) (λi U H'=>∃v9 A,U=[some (.ref b),some (tx m),v2,some (tx l),some (.ref q_),some (.ref p),some (.ref dB),v7,v8,v9,v10,v11,some (.ref pt),some (.ref p2)]/\Wld a H' p dA dB q_ m l F G Z/\TT a H'/\H' pn=some (.lst ((G'.map (·.n)).map tx))/\H' pt=some (.dK ((G'.take i).map λr=>(kTx r.n,tx r.l)))/\ShelfAt a H' p2 dC m A/\A.map kl=(G'.take i).map kl) ⟨_,[],rfl,w9,tt9,e9,t9,sh9,rfl⟩ (λi U H' _ ⟨_,_,_,_,_,e',_⟩=>.mk e') ?_ ?_⟩
   .rintro i x U HA hx ⟨v9',A,rfl,wA,ttA,pnA,ptA,shA,eA⟩;rw[YAl,YAQ]at hx;obtain⟨r,hr,rfl⟩:=YBI.mp hx;have hrG:r∈G:=pG.mem_iff.mp (YAh hr);have hi:i<G'.length:=(YAU.mp hr).1;have st:=wA.all.1 r (by simp[hrG]);obtain⟨dy,g⟩:=id st.fld;have nin:∀s∈G'.take i,s.n≠r.n:=λs hs e=>by have h1:=Zdz ndG' (i:=i) (n:=r.n) (by rw[YAQ,hr];rfl);rw[<-YBx,<-e]at h1;exact h1 (YAx hs)
    have tk1:G'.take (i+1)=G'.take i++[r]:=by rw[YBl,hr];rfl
    have inn:isn r.n=true:=by obtain⟨s,hs,e,_⟩:=Zlv ky hrG;rw[<-e];exact wA.nm s hs
    walk_at "rd";walk_at "g";refine⟨dB,_,rfl,.inl ⟨_,kTx r.n,.inl wA.bes,rfl,(ZdZ ndG hrG).symm⟩,r.p,dy,_,rfl,g,sN,r.p,r.l,m,rfl,.inr ⟨_,_,_,st⟩,pt,_,rfl,.inl ⟨_,kTx r.n,ptA,rfl,by rw[YAB,YAW];exact YBf (show _<=100 by lia) (by rw[sizeLine_eq];decide),rfl⟩,?_⟩;rw[Zcu _ (Znc nin)];have kB:KeepB pt HA (upd HA pt (.dK (((G'.take i).map λr=>(kTx r.n,tx r.l))++[(kTx r.n,tx r.l)]))):=λx u e z=>by rw[Zah z];exact e
    have ptB:upd HA pt (.dK (((G'.take i).map λr=>(kTx r.n,tx r.l))++[(kTx r.n,tx r.l)])) pt=some (.dK ((G'.take (i+1)).map λr=>(kTx r.n,tx r.l))):=by rw[Zae,tk1,YAb];rfl
    have ttB:TT a (upd HA pt (.dK (((G'.take i).map λr=>(kTx r.n,tx r.l))++[(kTx r.n,tx r.l)]))):=ttA.upd ptA rfl rfl;have shB:ShelfAt a (upd HA pt (.dK (((G'.take i).map λr=>(kTx r.n,tx r.l))++[(kTx r.n,tx r.l)]))) p2 dC m A:=shA.dict ptA nCt;generalize upd HA pt (.dK (((G'.take i).map λr=>(kTx r.n,tx r.l))++[(kTx r.n,tx r.l)]))=HB at kB ptB ttB shB;have wB:=wA.keepD kB ptA ntA ntB;have pnB:=kB _ _ pnA (λz=>by rw[z,ptA]at pnA;cases pnA);walk_at "g";obtain⟨d2,f2⟩:=shB.fld;have ndT:((G'.take (i+1)).map (·.n)).Nodup:=by rw[YBx];exact ndG'.sublist (YCX _ _)
    have rT:r∈G'.take (i+1):=by rw[tk1];simp
    have okr:=ZbS st;refine⟨p2,d2,_,rfl,f2,shN,pt,_,rfl,.inl ⟨_,kTx r.n,.inl ptB,rfl,(Ziu ndT rT).symm⟩,r.l,m,0,rfl,okr,ttB,λq3 la3 da3 ds3 HC sC ttC st3 _ _ _ dl3=>?_⟩;have shC:=shB.l sC;have wC:=wB.l sC;have nA:∀s∈A,s.n≠r.n:=λs hs e=>by
     have:kl s∈(G'.take i).map kl:=by rw[<-eA];exact YAx hs
     obtain⟨u,hu,e2⟩:=YAa.mp this;exact nin u hu ((congrArg Prod.fst e2).trans e)
    have lA:A.length<=1000:=by have:=congrArg List.length eA;rw[YAB,YAB,YAW]at this;lia
    refine⟨p2,dC,q3,la3,da3,r.l,m,r.n,ds3,A,rfl,shC,st3,inn,nA,lA,λs HD e1 e2 e3 f1 f2 f3 kD shD=>⟨_,A++[s],rfl,wC.keepD kD shC.dct (YAk nCA) (YAk nCB),kD.tt ttC shC.dct,?_,?_,shD,?_⟩⟩
    .have pnC:=sC _ _ pnB rfl;exact kD _ _ pnC (λz=>by have:=shC.dct;rw[<-z,pnC]at this;cases this)
    .exact kD _ _ (sC _ _ ptB rfl) nCt
    .rw[tk1,YAb,YAb,eA];unfold kl;rw[YCf,YCf,e1,e2]
   .rintro U HA ⟨v9',A,rfl,wA,ttA,pnA,ptA,shA,eA⟩;rw[YAB,YAB,YBL]at ptA eA;walk_at "k";have pk:(G'.map kl).Perm (F.map kl):=by rw[ZoI ky];exact pG.map _
    have txd:∀ {H':Hp},SameL HA H'->TxD H' pt F:=λs=>by obtain⟨F',pF,eF⟩:=ZfC pk rfl;exact⟨F',pF,by rw[ZqR eF];exact s _ _ ptA rfl⟩
    have lA:A.length<=1000:=by have:=congrArg List.length eA;rw[YAB,YAB]at this;lia
    refine⟨p,dA,pt,q_,l,m,F,rfl,wA.shelf,wA.band,wA.ok,by lia,txd (Same.refl _).l,ntA,ttA,λHB sB ttB=>⟨true,rfl,iteF ?_⟩⟩;have wB:=wA.l sB;have shB:=shA.l sB;obtain⟨d2,f2⟩:=shB.fld;refine⟨p2,d2,_,rfl,f2,shN,p2,q_,dC,l,m,A,rfl,shB,wB.band,wB.ok,lA,ttB,λt1 z1 R1 HC sC ttC nC eC raC roC=>?_⟩;have wC:=wB.l sC;obtain⟨d3,f3⟩:=wC.fld;refine⟨p,d3,_,rfl,f3,shN,p,q_,dA,l,m,F,rfl,wC.shelf,wC.band,wC.ok,by lia,ttC,λt3 z3 R3 HD sD ttD nD eD raD roD=>?_⟩;have eR:=roD.same2 roC (by rw[eA];exact pk.symm);subst eR;have eC':=sD _ _ eC rfl;have raC':Zg3 HD z1 R3:=let ⟨rs,a1,a2,ha⟩:=raC;⟨rs,a1,a2,λx hx=>(ha x hx).ext λb vs e=>sD _ _ e rfl⟩;refine .inr ⟨_,_,Zdw (.mk eC') raC',Zdw (.mk eD) raD,λz=>YAC z.1,Zhh _,?_⟩;rw[YAM rfl,Zhg];refine⟨false,rfl,iteF ?_⟩;have sAD:=sB.trans (sC.trans sD);have wD:=wA.l sAD;have ptD:=sAD _ _ ptA rfl;walk_at "h";refine⟨pt,_,rfl,ptD,?_⟩;apply ZhU (C:=λl2 H'=>(∃Z,Wld a H' p dA dB q_ m l2 F G Z)/\TT a H'/\TxD H' pt F)
    .intro tail;refine⟨q_,l,m,_,rfl,wD.ok,ttD,?_⟩;rcases wD.bd with⟨eZ,rg⟩|⟨zz,eZ,e1,e2⟩
     rotate_left
     .have wD':=wD;rw[eZ]at wD';have st:=wD'.all.1 zz (by simp);have hz:=nb zz (by simp[eZ]);rw[e2]at st;rw[e1]at st;refine .inr ⟨zz.la,zz.da,zz.ds,st,by lia,λla2 l2 ds2 HE cE ttE stE nlE dlE=>?_⟩;have wE:=wD'.stepZ (la2:=la2) (l2:=l2) (ds2:=ds2) (by rw[e1];exact cE) (by rw[e1];exact stE) nlE e1;obtain⟨F',pF,eF⟩:=txd sAD;refine tail l2 HE ⟨⟨_,wE⟩,ttE,F',pF,cE _ _ eF ?_ rfl⟩;obtain⟨⟨_,_,x1⟩,_,_,x3⟩:=ZaG st;simp only[YAH,YAz,or_false,not_or];exact⟨λy=>(by rw[y,x1]at eF;cases eF),λy=>(by rw[y,x3]at eF;cases eF)⟩
     .exact .inl ⟨rg,tail l HD ⟨⟨Z,wD⟩,ttD,txd sAD⟩⟩
    .clear wD wA wB wC ttA ttB ttC ttD;rintro l2 HE ⟨⟨Z2,wE⟩,ttE,txE⟩;walk_at "g";have hb:=wE.band;exact Zea hb (by decide +kernel) (by decide +kernel) (by decide +kernel) (λ_=>⟨q_,l2,m,rfl,hb,ZgR ⟨_,rfl,iteT ⟨p,dA,pt,q_,l2,m,F,rfl,wE.shelf,hb,wE.ok,by lia,txE,ntA,ttE,λHF sF ttF=>q HF⟩⟩⟩) (λ_ _ _ _=>⟨q_,l2,m,rfl,hb,ZgR ⟨_,rfl,iteT ⟨p,dA,pt,q_,l2,m,F,rfl,wE.shelf,hb,wE.ok,by lia,txE,ntA,ttE,λHF sF ttF=>q HF⟩⟩⟩)
end
end Pk84
structure PySem.W.Fast:Prop where(tw10049433631809489870 tw10066426471485322998 tw10236037263729692604 tw10315426242487328326 tw10332899084691216690 tw1041186131078900286 tw10436218301982166528 tw10472118336342754833 tw10499916222793250090 tw10562687529346069634 tw1059663779534982505 tw10622978898847609575 tw10706141559323303515 tw10726832895391883676 tw10727918154437134219 tw10756629670579446028 tw10798141121727738315 tw10802442067892483182 tw10916091321349411068 tw10947188288053391823 tw10975487370312794825 tw10982985530395524986 tw10995827438816999747 tw11036633038982828559 tw11320176600017741606 tw11347837878056294503 tw11348678118253389032 tw11476551514649738989 tw11724247225753439608 tw11743800858222697 tw11868503701519719919 tw1193693632509569030 tw11970638449608865727 tw11986528338765505415 tw12061630860627368611 tw12126862298159443604 tw12156194596012209943 tw1218500130554649136 tw12194917686369665665 tw12237755104192618909 tw12258603318916143981 tw12408535046543025389 tw12471456213062512574 tw12621286109780748909 tw12641893468135980831 tw12671166943567045797 tw12677183389848103980 tw12821199313614414581 tw12840922328964804923 tw12844445181686448983 tw12876985877565792123 tw13003718191228599153 tw13014975005287512702 tw1303411748604278263 tw1307863372826247034 tw13214984810543404940 tw13282583242515214448 tw13289318891085376910 tw13385641486462076469 tw13425402338503030544 tw13428489606348016892 tw13434066924543833892 tw13449223918442396264 tw13464619609507061952 tw13466653568983187675 tw13484665076729469573 tw13486475547074541921 tw13506356692642816717 tw13562937100391351883 tw13579609331460462810 tw13579902686565136144 tw1360314782860658921 tw13620513293734574118 tw13696239195011135972 tw1372189041027311350 tw13744110341588888294 tw13748132341529831831 tw13782165553845790177 tw13804580681550423599 tw13807471702765633042 tw139364736073704570 tw13939075420476283069 tw14045791693018894278 tw14050423410649712630 tw14068522677703078765 tw14082409868371288273 tw14131092945621550972 tw14282654593246144858 tw14304712827419957833 tw14361813121889612923 tw14402932842081564427 tw14473662027400281551 tw14621421639181244820 tw14640870324926215302 tw14647552704158076539 tw14671500677439682885 tw14712811620407831904 tw14776808497051083383 tw14816139918128390429 tw14899554647543256614 tw14939693288336285679 tw14998017215637252582 tw1509533444112084757 tw15110178883848699645 tw15125668722924425846 tw15129700897684936043 tw15130472426274641087 tw15210183326721357930 tw15215526119760674479 tw15218872955943608060 tw15222038935675956696 tw15263521816440802429 tw15275489778714768196 tw15302626194082471879 tw15398096295363693739 tw15405092497544669376 tw15464667997880791007 tw15481402137189626137 tw15512349022893805075 tw15517895025366614896 tw15648414830096076692 tw15973545680014363190 tw15987747453294675162 tw15989850239840669849 tw16104788421752040217 tw16122324446575776344 tw16126364980250025158 tw16202289889999596133 tw16226858862175368625 tw16229432531327784716 tw16232666727763216859 tw16251731252409510416 tw16294452081626034257 tw1644683384121340346 tw16555662014234096625 tw16689782557606138845 tw16714263939520684130 tw16778641196987405525 tw16826896533122516561 tw16985620751862689270 tw16987062685916953701 tw17005929346789873584 tw17403829727604939088 tw1742220829017339132 tw17695629708797176779 tw17933154887560550274 tw17967983252618562807 tw17990427431456968865 tw18050185954514141438 tw18146949040396196847 tw18151637683121810940 tw18289975551081038472 tw18379780753419197779 tw18400994447166434347 tw18440724089873072895 tw2083073505319231229 tw2094071883063033031 tw217883186400146290 tw2219699179649296011 tw2311468206061415149 tw2500267320510186745 tw2662182652284377578 tw2699534391912492520 tw2704374828515274242 tw276596589839002708 tw2808081689118246657 tw2913523616086581196 tw2936674590444155615 tw2943412041282559910 tw2980429839857243693 tw3008708270133621529 tw3185380459595110898 tw3217473462198914333 tw323537802961288086 tw3279671687863171165 tw3292351209868330166 tw329794201854270669 tw3424527491733794639 tw3457522969857016888 tw348342859207041237 tw351036779166365756 tw3516342057240436809 tw3562108216196024403 tw358766043723326684 tw3687965248143601896 tw3779042436789615602 tw3812680314096058671 tw386702474665883208 tw3901973911686071080 tw4019338539160300437 tw4027711307216709986 tw4045176075725140829 tw4058543165018302604 tw4101245209621131211 tw4112673351428449678 tw4157629494856219181 tw4167733725893734702 tw4171941373787668131 tw4172722075662400351 tw4180437689575006693 tw42992030683112479 tw4318061899955691186 tw445792570982468430 tw4487557826906083815 tw4555108315895162652 tw4656047257924346697 tw4680909948992032091 tw4780981112143769888 tw4789351090114176624 tw479381275944658863 tw4825672956456022812 tw4950872528463532510 tw4988563515877503868 tw5006917207130008986 tw5086024193836856297 tw5090321999893826225 tw5118051298819260745 tw5134657069903239830 tw5135462436888402064 tw5146452259391800852 tw5199168994870594872 tw5305975676072112538 tw5312750844571274785 tw5452983514176728990 tw5471705336395445608 tw5528815127068159572 tw5581464823251497719 tw5638999782955155421 tw5662077801019420364 tw5755805181900833680 tw5769268852590918921 tw5845254593489021773 tw5915775671286163984 tw5935055529608213506 tw5943532250835500449 tw5958217002693296090 tw5960288568820903886 tw597021447051162723 tw5976419299926405627 tw5999252762877190824 tw6018071816985985826 tw6089369665278198591 tw6098719631699817432 tw6112839407384351430 tw6195002470464859142 tw6267551597074339951 tw6303513998018513976 tw6381045134448077221 tw640404869412294656 tw6519784010373139218 tw6650138202085154079 tw6658603186445159597 tw6738923468526363747 tw6744255685924658415 tw679820890021147752 tw6807412709265993079 tw6838422835216987085 tw6839454894455776530 tw691630556649986541 tw6936869763659797178 tw6942694903136945361 tw6972647458680055338 tw7010845297091108552 tw7035835191059526172 tw7075133970988866386 tw7149759032820969456 tw7268576436101169372 tw7281333145549687609 tw7301364645160611651 tw7408576720827866133 tw7414943565146607011 tw7521203080876415603 tw7608221043579628262 tw7614623739713437431 tw7658047999389732824 tw7677709312057588836 tw7708153490539592000 tw7797544089196301381 tw7834730287310901806 tw795364795690809468 tw7954404619354144690 tw8028011637199268360 tw8060206213053155006 tw8160439371768688750 tw8164523066148682539 tw830793051484321682 tw8313188268336134038 tw8334286920744342001 tw8343949579419251705 tw8377185887090683668 tw8469178678454063079 tw8527920194795251884 tw8541874341277972552 tw8629789436693341302 tw8668974598241364283 tw8686199662073240486 tw8711133692729678891 tw8739984504229597986 tw8815857179010305002 tw883828243058258365 tw8866784299776698353 tw8885374031771443658 tw8921375083307982682 tw8971591871162336252 tw9006310644628714080 tw9033520411119788417 tw9056385373061087935 tw9181897076958408483 tw9288175432760447229 tw9359866564383551003 tw9456542539205844381 tw9481394443464815744 tw9514900403959134255 tw9530896120697100624 tw9560553061959533103 tw9564170976546544477 tw9580233051655884114 tw9693909189981841718 tw9800793384999186501:True)
open PySem PySem.W PyProof.Rows
set_option maxRecDepth 100000 in
set_option maxHeartbeats 0 in
theorem PySem.Challenge.cw_lackword_k84_whole_shelf_ranked_holds : PySem.Challenge.rw_lackword_k84_whole_shelf_ranked.Holds := by
 w_on;o_law;k_head;(case hw=>w_witness2)
 k_fill
 refine L2.walk_ofT (l:=PySem.Challenge.rw_lackword_k84_whole_shelf_ranked) (n:=63) (k:=9) (x:="_law_script") (CX:=L2.CX0) (sp:=Pk84.spLaw) ["in_order","_law_missing"] rfl (by decide) rfl ⟨rfl,by decide,by decide⟩ (λw h Y=>PySem.W.km_in_of Y) (λ_=>by kernel_rfl) (by kernel_rfl) ?F ?S ?C
 case F=>
  intro w mg fa h tb KX G hmg hT;have T:∃t,Pk84.Txt (L2.KOf KX) mg t/\t.t_LH=(tb "in_order").2/\t.k_LH=(tb "in_order").1/\t.t_LO=(tb "_law_missing").2/\t.k_LO=(tb "_law_missing").1:=by
   dsimp only[L2.KOf];apply Pk84.txt_mk (t_LH:=(tb "in_order").2) (k_LH:=(tb "in_order").1) (t_LO:=(tb "_law_missing").2) (k_LO:=(tb "_law_missing").1) KX G;iterate 48 k_is
   rfl;iterate 26 k_is
   rfl;iterate 22 k_is
   iterate 30 (apply L2.mg_mk;iterate 4 k_is)
   decide;iterate 39 (apply L2.dg_mk;iterate 4 k_is)
   iterate 19 k_is
  obtain⟨t,T,et_LH,ek_LH,et_LO,ek_LO⟩:=T;have e0:=hmg.symm.trans T.D_law.m;cases e0;have cd_LH:t.d_LH.code=.ref t.k_LH:=by obtain⟨o,e1,e2⟩:=T.D_in_order.u.at KX;rw[ek_LH];exact(hT "in_order" (by simp)).codeEq T.D_in_order.m e1 e2
  have cd_LO:t.d_LO.code=.ref t.k_LO:=by obtain⟨o,e1,e2⟩:=T.D_missing.u.at KX;rw[ek_LO];exact(hT "_law_missing" (by simp)).codeEq T.D_missing.m e1 e2
  refine' ⟨_,?b,λbase kb nb hL=>Pk84.ok_law (tb:=tb) { T with L_in_order:=by rw[et_LH,ek_LH];exact hL "in_order" (by simp),cd_LH:=cd_LH,e_LH:=et_LH,L_missing:=by rw[et_LO,ek_LO];exact hL "_law_missing" (by simp),cd_LO:=cd_LO,e_LO:=et_LO }⟩;exact T.bl
 case S=>exact λK tb H a ns hl hP hS=>⟨a,ns,rfl,hS,hl,L2.tbl_new (hP "in_order" (by simp)),L2.tbl_new (hP "_law_missing" (by simp)),λ_=>rfl⟩
 case C=>exact λ_ _ _ _ z=>z
#print axioms PySem.Challenge.cw_lackword_k84_whole_shelf_ranked_holds
