import PyProof.Rows.All
import Wide.All
import OpenK.AllK
import Wide.FinOn
import Lean
import PyProof.EqAt
import PyProof.EqKinds
import PyProof.TupleCall
import PyProof.SetRoads
import PyProof.Rows.SetFrom
import PyProof.StrWalks
import PyProof.FactsAll.set
import PyProof.FactsAll.subtypes_3
import PyProof.CollectWalk
import PyProof.CollectStr
import PyProof.StationsW
import PyProof.RulesAs
import KE.KTryMore
import PyProof.NsDelKeeps
import PyProof.ListStr
import PyProof.TupleOfStr
import PyProof.ConsumeS
import KE.KEqDict
import PyProof.DictWalks
import KE.KListMore
import PyProof.ListIndex
import PyProof.DictUpdate
import KE.KLam
import PyProof.DictDisplay
import PyProof.ListRange
import PyProof.Rows.StrNews2
import PyProof.Rows.Range3
import KE.KDictLaws
import KE.KDictList
import PyProof.DictRoadsH
import KE.KDictSum
import PyProof.DictItems
import PyProof.DictItemsLoops
import KE.KPairComp
import KE.KRevIter
import PySem.Challenge.RW_lackword_k94_whole_rings_and_strips
open PySem.W(instObj methodObj lookIn plainGet hasDictIn findIn handedIn plainGet_of isFn plainOver takerIn any_some makesIn typeIn emptyDict looks_findIn keepIn specialIn takesIn mroIn kitOne kitx_list kitx_tuple kitx_dict callWith_K methodCall_KW cellsFrom_some fnOf codeIn notCls findObj clsIn readsIn findCls kla_fn kla_callFunE kla_codeExpr nsIn)
set_option autoImplicit true
set_option compiler.extract_closed false
set_option bootstrap.genMatcherCode false
set_option genSizeOf false
noncomputable section
set_option relaxedAutoImplicit true
abbrev AB:=List (PySem.Addr×PySem.Obj)
abbrev AC:=PySem.Str->Option PySem.Value
abbrev AD:=List PySem.Value
abbrev AE:=PySem.Addr
abbrev AF:=PySem.Shared
abbrev AG:=PySem.FuncData
abbrev AH:=PySem.Program
abbrev AI:=PySem.Around
abbrev AJ:=PySem.World
abbrev AK:=List PySem.Str
abbrev Q11:=List Nat
abbrev Q22:=List (List Nat)
abbrev Q33:=PySem.Value->PySem.Shared->Prop
abbrev Q4:=PySem.W.Frag
set_option Elab.async false
set_option linter.all false
local macro_rules | `(∅) => `(by lia)
local macro_rules | `(~~~$x) => `(by simpa using $x)
def YAA:=@PySem.wpAny_bind
def YAB:=@List.length_map
def YAC:=@PySem.wpAny_pure
def YAD:=@PySem.Heap.get?_push_of_some
def YAE:=@Bool.false_ne_true
def YAF:=@List.length_append
def YAG:=@Array.length_toList
def YAH:=@List.getElem?_eq_getElem
def YAI:=@List.mem_singleton
def YAJ:=@List.mem_cons
def YAK:=@List.getElem?_map
def YAL:=@if_neg
def YAM:=@List.size_toArray
def YAN:=@List.getElem?_eq_some_iff
def YAO:=@List.mem_cons_of_mem
def YAP:=@Nat.le_trans
def YAQ:=@List.getD_eq_getElem?_getD
def YAR:=@PySem.Heap.lt_size
def YAS:=@if_pos
def YAT:=@Nat.le_refl
def YAU:=@PySem.Heap.get?_push_size
def YAV:=@PyProof.Rows.wpS_bind
def YAW:=@List.mem_append
def YAX:=@List.length_take
def YAY:=@Bool.and_eq_true
def YAZ:=@List.mem_cons_self
def YAa:=@List.mem_of_mem_take
def YAb:=@List.mem_of_getElem?
def YAc:=@List.map_cons
def YAd:=@Nat.ne_of_lt
def YAe:=@PyProof.Rows.wpS_pure
def YAf:=@List.length_cons
def YAg:=@List.mem_filter
def YAh:=@List.mem_of_mem_drop
def YAi:=@List.getElem?_eq_none
def YAj:=@List.mem_map
def YAk:=@List.length_drop
def YAl:=@List.mem_range
def YAm:=@List.getElem?_append_left
def YAn:=@PySem.Heap.SameBut.update
def YAo:=@List.length_singleton
def YAp:=@List.append_assoc
def YAq:=@List.take_of_length_le
def YAr:=@List.map_append
def YAs:=@List.getElem?_append_right
def YAt:=@List.length_range
def YAu:=@Array.getElem?_toList
def YAv:=@List.take_append_drop
def YAw:=@List.map_map
def YAx:=@List.length_filter_le
def YAy:=@Nat.lt_of_lt_of_le
def YAz:=@List.pairwise_cons
def YBA:=@List.length_dropLast
def YBB:=@PySem.PassesOwn.never
def YBC:=@Nat.zero_le
def YBD:=@PySem.wpAny_holding
def YBE:=@List.mem_map_of_mem
def YBF:=@List.not_mem_nil
def YBG:=@List.pairwise_map
def YBH:=@PySem.wpAny_setState_of
def YBI:=@List.pairwise_append
def YBJ:=@Array.toList_extract
def YBK:=@List.getLast?_eq_some_getLast
def YBL:=@List.all_eq_true
def YBM:=@Nat.lt_irrefl
def YBN:=@List.length_pos_iff
def YBO:=@Array.toList_append
def YBP:=@PySem.W.kia_one
def YBQ:=@Int.toNat_natCast
def YBR:=@Int.emod_nonneg
def YBS:=@Bool.eq_iff_iff
def YBT:=@Int.emod_lt_of_pos
def YBU:=@List.mem_append_right
def YBV:=@PySem.F.plainAttrs_list
def YBW:=@Ne.symm
def YBX:=@List.getElem_of_mem
def YBY:=@List.nodup_cons
def YBZ:=@List.ext_getElem?
def YBa:=@PySem.Heap.size_push
def YBb:=@Option.map_eq_some_iff
def YBc:=@PySem.W.mg_none_of
def YBd:=@Nat.mul_assoc
def YBe:=@PyProof.Rows.wpS_forRange
def YBf:=@List.getElem?_range
def YBg:=@PySem.wpAny_mono
def YBh:=@Nat.mod_lt
def YBi:=@Array.toList_push
def YBj:=@List.getElem?_drop
def YBk:=@List.drop_zero
def YBl:=@List.mem_reverse
def YBm:=@List.map_congr_left
def YBn:=@PySem.wpAny_rule
def YBo:=@Bool.false_and
def YBp:=@Nat.min_eq_left
def YBq:=@List.length_eq_zero_iff
def YBr:=@List.getElem?_take
def YBs:=@PySem.wpAny_call_entry
def YBt:=@PySem.wpAny_askSetting
def YBu:=@Nat.mul_comm
def YBv:=@List.getElem_mem
def YBw:=@List.ext_getElem
def YBx:=@PySem.mem_of_lookup
def YBy:=@Nat.lt_succ_of_lt
def YBz:=@List.nodup_append
def YCA:=@Bool.eq_false_iff
def YCB:=@Nat.add_assoc
def YCC:=@List.pairwise_iff_getElem
def YCD:=@Bool.and_false
def YCE:=@List.foldl_cons
def YCF:=@List.dropLast_eq_take
def YCG:=@PySem.Heap.get?_update_self
def YCH:=@PySem.wpAny_Call_Name_kw
def YCI:=@PySem.F.type_list_append
def YCJ:=@PySem.F.slot_list_append
def YCK:=@List.take_length
def YCL:=@List.lookup_cons
def YCM:=@List.drop_append_of_le_length
def YCN:=@PySem.Around.under_plainId
def YCO:=@PySem.W.mg_of
def YCP:=@List.getElem?_cons_succ
def YCQ:=@List.dropLast_concat_getLast
def YCR:=@Bool.not_true
def YCS:=@List.drop_drop
def YCT:=@PySem.wpAny_newObj_type
def YCU:=@List.range_succ
def YCV:=@PyProof.Rows.wpS_mono
def YCW:=@List.drop_eq_nil_of_le
def YCX:=@List.length_eraseIdx_of_lt
def YCY:=@List.length_tail
def YCZ:=@Array.toList_map
def YCa:=@PySem.wpAny_attempt
def YCb:=@Nat.pow_succ
def YCc:=@Nat.lt_of_le_of_lt
def YCd:=@PySem.Calls.spliced_cons
def YCe:=@Bool.false_eq_true
def YCf:=@PySem.wpAny_setField
def YCg:=@List.drop_eq_getElem_cons
def YCh:=@PyProof.Rows.wpS_modify
def YCi:=@Nat.div_add_mod
def YCj:=@List.getElem?_take_of_lt
def YCk:=@List.forIn_cons
def YCl:=@List.Pairwise.imp_of_mem
def YCm:=@PySem.Heap.SameBut.refl
def YCn:=@List.cons_append
def YCo:=@PySem.wpAny_seqItems
def YCp:=@List.take_take
def YCq:=@List.lt_irrefl
def YCr:=@PySem.Heap.get?_update_other
def YCs:=@PySem.wpAny_passesOwn
def YCt:=@PyProof.Rows.callWith_type1
def YCu:=@Nat.le_of_eq
def YCv:=@PySem.wpAny_truthy_bool
def YCw:=@PySem.wpAny_storeSet_of
def YCx:=@PySem.wpAny_pyIter_list
def YCy:=@Nat.lt_trichotomy
def YCz:=@List.take_sublist
def YDA:=@List.flatten_cons
def YDB:=@Bool.true_and
def YDC:=@List.perm_ext_iff_of_nodup
def YDD:=@Array.toList_setIfInBounds
def YDE:=@Array.perm_iff_toList_perm
def YDF:=@List.dropLast_concat
def YDG:=@Array.toArray_toList
def YDH:=@Nat.mul_le_mul
def YDI:=@PySem.wpAny_isInstance
def YDJ:=@Option.bind_some
def YDK:=@Nat.succ_le_succ
def YDL:=@Nat.lt_succ_self
def YDM:=@List.any_eq_true
def YDN:=@List.filter_eq_self
def YDO:=@PySem.wpAny_setField_rec
def YDP:=@List.pairwise_singleton
def YDQ:=@List.of_mem_zip
def YDR:=@List.find?_cons
def YDS:=@List.filter_append
def YDT:=@List.append_nil
def YDU:=@Nat.le_mul_of_pos_left
def YDV:=@PySem.wpAny_setEpoch_of
def YDW:=@PySem.wpAny_field
def YDX:=@List.take_add_one
def YDY:=@PySem.Calls.spliced_nil
set_option maxRecDepth 100000
namespace L2
open PySem PySem.Spec PyProof.Rows
abbrev Key:=Sum Int Str
def Zc3:Key->Value->Bool
 | .inl k,v=>Value.isInt k v
 | .inr x,v=>Value.isStrOf x v
noncomputable def i5 (w:AJ):Key->Int
 | .inl k=>hashInt k
 | .inr x=>hashStr w x
theorem Zbc:∀ {k:Key} {v:Value},Zc3 k v=true->(∃i t,k=Sum.inl i/\v=Value.int i t)\/(∃x t,k=Sum.inr x/\v=Value.str x t)
 | .inl i,v,h=>by
  obtain⟨t,e⟩:=Value.isInt_shape (k:=i) (v:=v) h;exact .inl ⟨i,t,rfl,e⟩
 | .inr x,v,h=>by obtain⟨t,e⟩:=Value.isStrOf_shape (x:=x) (v:=v) h;exact .inr ⟨x,t,rfl,e⟩
def ZjQ (i:Int)(t:Tok):Zc3 (.inl i) (.int i t)=true:=by simp[Zc3,Value.isInt]
def ZjP (x:Str)(t:Tok):Zc3 (.inr x) (.str x t)=true:=by simp[Zc3,Value.isStrOf]
def ZpB (a b:Int):decide ((Sum.inl a:Key)=Sum.inl b)=(a == b):=by
 by_cases e:a=b
 .subst e;simp
 .have h:¬(Sum.inl a:Key)=Sum.inl b:=λq=>e (Sum.inl.inj q);rw[decide_eq_false h];exact(beq_eq_false_iff_ne.mpr e).symm
def Zpy (a b:Str):decide ((Sum.inr a:Key)=Sum.inr b)=decide (a=b):=by
 by_cases e:a=b
 .subst e;simp
 .have h:¬(Sum.inr a:Key)=Sum.inr b:=λq=>e (Sum.inr.inj q);rw[decide_eq_false h,decide_eq_false e]
def ZpA (a:Int)(b:Str):decide ((Sum.inl a:Key)=Sum.inr b)=false:=decide_eq_false (λq=>nomatch q)
def Zpz (a:Str)(b:Int):decide ((Sum.inr a:Key)=Sum.inl b)=false:=decide_eq_false (λq=>nomatch q)
def ZaF (prog:AH)(w:AJ):PySem.KeyKind prog w Key where
 is:=Zc3
 hash:=i5 w
 inj:=λv a b ha hb=>by
  rcases Zbc ha with⟨i,t,rfl,rfl⟩|⟨x,t,rfl,rfl⟩
  .rcases Zbc hb with⟨j,u,rfl,e⟩|⟨y,u,rfl,e⟩
   .injection e with e1 _;rw[e1]
   .exact nomatch e
  .rcases Zbc hb with⟨j,u,rfl,e⟩|⟨y,u,rfl,e⟩
   .exact nomatch e
   .injection e with e1 _;rw[e1]
 byValue:=λk v h=>by rcases Zbc h with⟨i,t,rfl,rfl⟩|⟨x,t,rfl,rfl⟩<;>rfl
 pyHash:=λhv h=>by
  rcases Zbc hv with⟨i,t,rfl,rfl⟩|⟨x,t,rfl,rfl⟩
  .exact wpAny_pyHash_int h
  .exact wpAny_pyHash_str h
 eqBool:=λhu hv h=>by
  rcases Zbc hu with⟨i,t,rfl,rfl⟩|⟨x,t,rfl,rfl⟩
  .rcases Zbc hv with⟨j,u,rfl,rfl⟩|⟨y,u,rfl,rfl⟩
   .rw[ZpB]at h;exact wpAny_eqBool_int h
   .rw[ZpA]at h;exact SeqAt.EqAt.int_str i t y u _ _ _ _ h
  .rcases Zbc hv with⟨j,u,rfl,rfl⟩|⟨y,u,rfl,rfl⟩
   .rw[Zpz]at h;exact SeqAt.EqAt.str_int x t j u _ _ _ _ h
   .rw[Zpy]at h;exact wpAny_eqBool_str h
 «strs»:=λk x t v h=>by
  rcases Zbc h with⟨i,u,rfl,e⟩|⟨y,u,rfl,e⟩
  .exact nomatch e
  .injection e with e1 _;subst e1;cases v<;>rfl
def Zg0 (prog:AH)(w:AJ)(i:Int)(t:Tok):(ZaF prog w).is (.inl i) (.int i t)=true:=ZjQ i t
def ZcN (prog:AH)(w:AJ)(x:Str)(t:Tok):(ZaF prog w).is (.inr x) (.str x t)=true:=ZjP x t
inductive V where
 | non | bl (b:Bool) | int (i:Int) | str (x:Str) | byt (b:Array UInt8) | flt (b:UInt64) | ref (a:AE) | ty (n:String)
 deriving DecidableEq
set_option genInjectivity false
def gC:V->Value->Prop
 | .non,u=>u=Value.none
 | .bl b,u=>u=Value.bool b
 | .int i,u=>∃t,u=Value.int i t
 | .str x,u=>∃t,u=Value.str x t
 | .byt b,u=>∃t,u=Value.bytes b t
 | .flt b,u=>∃t,u=Value.float b t
 | .ref a,u=>u=Value.ref a
 | .ty n,u=>u=Value.type n
abbrev gs:List V->AD->Prop:=Paired gC
def gs.length (r:gs xs us):xs.length=us.length:=Paired.length r
theorem gs.get:∀ {xs:List V} {us:AD} {i:Nat} {x:V},gs xs us->xs[i]?=some x->∃u,us[i]?=some u/\gC x u
 | _,_,_,_,.nil,e=>by simp at e
 | _,_,0,_,.cons r _,e=>by simp at e;subst e;exact⟨_,rfl,r⟩
 | _,_,i+1,x,.cons _ t,e=>by obtain⟨u,h1,h2⟩:=gs.get (i:=i) (x:=x) t (~~~e);exact⟨u,~~~h1,h2⟩
theorem gs.set {x:V}{u:Value}(r:gC x u):∀ {xs:List V} {us:AD} (i:Nat),gs xs us->gs (xs.set i x) (us.set i u)
 | _,_,_,.nil=>.nil
 | _,_,0,.cons _ t=>.cons r t
 | _,_,i+1,.cons q t=>.cons q (gs.set r i t)
theorem gs.append:∀ {xs ys:List V} {us ws:AD},gs xs us->gs ys ws->gs (xs++ys) (us++ws)
 | _,_,_,_,.nil,s=>s
 | _,_,_,_,.cons r t,s=>.cons r (gs.append t s)
theorem gs.take:∀ {xs:List V} {us:AD} (n:Nat),gs xs us->gs (xs.take n) (us.take n)
 | _,_,0,_=>.nil
 | _,_,_+1,.nil=>.nil
 | _,_,n+1,.cons r t=>.cons r (gs.take n t)
theorem gs.drop:∀ {xs:List V} {us:AD} (n:Nat),gs xs us->gs (xs.drop n) (us.drop n)
 | _,_,0,r=>r
 | _,_,_+1,.nil=>.nil
 | _,_,n+1,.cons _ t=>gs.drop n t
def iB:Option V->Option Value->Prop
 | some v,some u=>gC v u
 | none,none=>True
 | _,_=>False
def KV {κ:Type}:List (κ×V)->List (κ×Value)->Prop:=Paired λ(p:κ×V) (q:κ×Value)=>p.1=q.1/\gC p.2 q.2
noncomputable def kV:Key->V
 | .inl i=>.int i
 | .inr x=>.str x
inductive HO where
 | lst (xs:List V)
 | tup (xs:List V)
 | dK (kvs:List (Key×V)) | dT (kvs:List (List Key×V))
 | set (S:Int->Bool) (n:Nat)
 | ins (C dx:AE) (fs:List (Str×V))
 | own (x:AE)
 | xd (fs:List (Str×V))
 | met (f x:AE)
 | rng (lo hi:Int)
 | frz (o:Obj) (u:HO)
 | tbl (ps:Array Value)
 | ext (φ:Heap->Prop)
abbrev Hp:=Addr->Option HO
noncomputable def upd (H:Hp)(a:AE)(o:HO):Hp:=λb=>if b=a then some o else H b
def Zao:upd H a o a=some o:=by unfold upd;rw[YAS rfl]
def Zak (h:b≠a):upd H a o b=H b:=by unfold upd;rw[YAL h]
def ZrC {H:Hp}{a b:AE}{o u:HO}(h:H a=some o)(h':H b=some u)(d:o≠u):a≠b:=by intro e;subst e;rw[h]at h';exact d (Option.some.inj h')
def Zag {H:Hp}{a b:AE}{o:HO}(h:H a=some o)(h':H b=none):a≠b:=by intro e;subst e;rw[h]at h';cases h'
section
variable (P:AH)(w:AJ)
def gQ (H:Hp)(h:Heap)(a:AE):HO->Prop
 | .lst xs=>xs.length<=sizeLine/\∃(its:AD) (n:Nat),gs xs its/\h.get? a=some { cls:=.type "list",data:=.seq its.toArray n }
 | .tup xs=>xs.length<=sizeLine/\∃its:AD,gs xs its/\IsTup h a its.toArray
 | .dK kvs=>kvs.length<=sizeLine/\(a == sysModules)=false/\∃vs,KV kvs vs/\h.DictOf (ZaF P w) a vs
 | .dT kvs=>kvs.length<=sizeLine/\(a == sysModules)=false/\∃xs:List (List Key×AE×Value),
   Paired (λ(p:List Key×V) (q:List Key×AE×Value)=>p.1=q.1/\H q.2.1=some (.tup (p.1.map kV))/\gC p.2 q.2.2) kvs xs /\
   ∃o es ep,h.get? a=some o/\o.ExactDict/\o.data=.dict es ep/\es.toList=xs.map (entryOfKey (tupleKind (ZaF P w)))/\(xs.map (·.1)).Nodup
 | .set S n=>h.SetOf (intKind P w) a S n
 | .ins C dx fs=>H dx=some (.own a)/\fs.length<=1000/\dx≠a/\h.get? a=some (instObj C dx) /\
   ∃mA,h.Ns1 dx mA/\(∀f,iB (fs.lookup f) (mA f))/\PySem.Within mA (fs.map (·.1))
 | .own _=>∃o,h.get? a=some o
 | .xd fs=>∃mA,h.Ns1 a mA/\∀f,iB (fs.lookup f) (mA f)
 | .rng lo hi=>∃t u v,h.get? a=some { cls:=.type "range",data:=.fields #[.int lo t,.int hi u,.int 1 v] }
 | .frz o u=>h.get? a=some o/\gQ H h a u
 | .tbl ps=>h.get? a=some { cls:=.none,data:=.fields ps }
 | .met f x=>h.get? a=some (methodObj (.ref f) (.ref x))
 | .ext φ=>φ h/\(∃o,h.get? a=some o)/\∀h1 h2:Heap,φ h1->(∀o,h1.get? a=some o->h2.get? a=some o)->φ h2
def HOk (H:Hp)(h:Heap):Prop:=∀a o,H a=some o->gQ P w H h a o
end
section
def gQ.lt (x:gQ P w H h a o):a<h.objs.size:=by
 cases o with
 | lst xs=>obtain⟨_,_,_,_,e⟩:=x;exact YAR e
 | tup xs=>obtain⟨_,_,_,p⟩:=x;exact p.lt
 | dK kvs=>obtain⟨_,_,_,_,o,_,_,e,_⟩:=x;exact YAR e
 | dT kvs=>obtain⟨_,_,_,_,o,_,_,e,_⟩:=x;exact YAR e
 | set S n=>obtain⟨o,_,_,_,e,_⟩:=x;exact YAR e
 | ins C dx fs=>obtain⟨_,_,_,e,_⟩:=x;exact YAR e
 | own y=>obtain⟨_,e⟩:=x;exact YAR e
 | xd fs=>obtain⟨_,⟨_,_,_,e,_⟩,_⟩:=x;exact YAR e
 | rng lo hi=>obtain⟨_,_,_,e⟩:=x;exact YAR e
 | frz ob u=>obtain⟨e,_⟩:=x;exact YAR e
 | tbl ps=>exact YAR (show h.get? a=some _ from x)
 | met f y=>exact YAR (show h.get? a=some _ from x)
 | ext φ=>obtain⟨_,⟨_,e⟩,_⟩:=x;exact YAR e
theorem Paired.mapP {α β:Type}{F G:α->β->Prop}:∀ {l9:List α} {l_2:List β},Paired F l9 l_2->(∀a b,F a b->G a b)->Paired G l9 l_2
 | _,_,.nil,_=>.nil
 | _,_,.cons r t,f=>.cons (f _ _ r) (Paired.mapP t f)
def gQ.stay (x:gQ P w H h a o)(k:∀b u,(b=a\/H b=some (.own a))->h.get? b=some u->h'.get? b=some u)
  (ho:∀b,H b=some (.own a)->H' b=some (.own a)) (ht:∀b xs,H b=some (.tup xs)->H' b=some (.tup xs)):gQ P w H' h' a o:=by
 induction o with
 | lst xs=>obtain⟨z,its,n,r,e⟩:=x;exact⟨z,its,n,r,k _ _ (.inl rfl) e⟩
 | tup xs=>obtain⟨z,its,r,ob,e,c⟩:=x;exact⟨z,its,r,ob,k _ _ (.inl rfl) e,c⟩
 | dK kvs=>obtain⟨z,y,vs,r,ob,es,ep,e,c⟩:=x;exact⟨z,y,vs,r,ob,es,ep,k _ _ (.inl rfl) e,c⟩
 | dT kvs=>
  obtain⟨z,y,xs,r,ob,es,ep,e,c⟩:=x;exact⟨z,y,xs,Paired.mapP r λp q z=>⟨z.1,ht _ _ z.2.1,z.2.2⟩,ob,es,ep,k _ _ (.inl rfl) e,c⟩
 | set S n=>obtain⟨ob,es,ep,t,e,c⟩:=x;exact⟨ob,es,ep,t,k _ _ (.inl rfl) e,c⟩
 | ins C dx fs=>
  obtain⟨d,z,ne,e,mA,⟨od,es,ep,e2,c⟩,r⟩:=x;exact⟨ho _ d,z,ne,k _ _ (.inl rfl) e,mA,⟨od,es,ep,k _ _ (.inr d) e2,c⟩,r⟩
 | own y=>obtain⟨ob,e⟩:=x;exact⟨ob,k _ _ (.inl rfl) e⟩
 | xd fs=>obtain⟨mA,⟨od,es,ep,e,c⟩,r⟩:=x;exact⟨mA,⟨od,es,ep,k _ _ (.inl rfl) e,c⟩,r⟩
 | rng lo hi=>obtain⟨t,u,v,e⟩:=x;exact⟨t,u,v,k _ _ (.inl rfl) e⟩
 | frz ob u ih=>obtain⟨e,q⟩:=x;exact⟨k _ _ (.inl rfl) e,ih q⟩
 | tbl ps=>
  have e:h.get? a=some { cls:=.none,data:=.fields ps }:=x;show h'.get? a=some { cls:=.none,data:=.fields ps };exact k a _ (.inl rfl) e
 | met f y=>
  have e:h.get? a=some (methodObj (.ref f) (.ref y)):=x;show h'.get? a=some (methodObj (.ref f) (.ref y));exact k a _ (.inl rfl) e
 | ext φ=>obtain⟨p,⟨o,e⟩,st⟩:=x;exact⟨st _ _ p λo q=>k _ _ (.inl rfl) q,⟨o,k _ _ (.inl rfl) e⟩,st⟩
def HOk.lt (x:HOk P w H h)(e:H a=some o):a<h.objs.size:=(x a o e).lt
def HOk.fresh (x:HOk P w H h)(e:h.objs.size<=a):H a=none:=by
 cases q:H a with
 | none=>rfl
 | some u=>exact absurd (YAy (x.lt q) e) (YBM _)
def HOk.kept (x:HOk P w H h)(k:∀b u,h.get? b=some u->h'.get? b=some u):HOk P w H h':=λa o e=>
 (x a o e).stay (λb u _ q=>k b u q) (λ_ q=>q) λ_ _ q=>q
def HOk.laid (x:HOk P w H h)(k:∀b u,h.get? b=some u->h'.get? b=some u)(hp:h.objs.size<=a)(new:gQ P w (upd H a o) h' a o):HOk P w (upd H a o) h':=λb u e=>by
 have hn:=x.fresh hp;by_cases hb:b=a
 .subst hb;rw[Zao]at e;cases e;exact new
 .rw[Zak hb]at e;exact(x b u e).stay (λc v _ q=>k c v q) (λc q=>by rw[Zak (Zag q hn)];exact q) λc xs q=>by rw[Zak (Zag q hn)];exact q
end
def Rd (H:Hp)(a:AE)(u:HO):Prop:=H a=some u\/∃o,H a=some (.frz o u)
def Rd.ok (r:Rd H a u)(x:HOk P w H h):gQ P w H h a u:=by
 rcases r with r | ⟨o,r⟩
 .exact x a u r
 .obtain⟨_,q⟩:=x a _ r;exact q
def Mut:Option HO->Prop
 | some (.lst _)=>True
 | some (.dK _)=>True
 | some (.dT _)=>True
 | some (.set _ _)=>True
 | some (.ins _ _ _)=>True
 | some (.ext _)=>True
 | _=>False
section
def HOk.write (ok:HOk P w H h)(mu:Mut (H x))(he:e=x\/H e=some (.own x))(k:∀b u,b≠e->h.get? b=some u->h'.get? b=some u)(heo:∃u,h'.get? e=some u)
  (new:gQ P w (upd H x o') h' x o'):HOk P w (upd H x o') h':=λb u q=>by
 have nown:∀c y,H c=some (.own y)->c≠x:=λc y r z=>by subst z;rw[r]at mu;exact mu
 have ntup:∀c xs,H c=some (.tup xs)->c≠x:=λc xs r z=>by subst z;rw[r]at mu;exact mu
 by_cases hb:b=x
 .subst hb;rw[Zao]at q;cases q;exact new
 .rw[Zak hb]at q;by_cases hbe:b=e
  .have q':H b=some (.own x):=by
    rcases he with z | z
    .exact absurd (hbe.trans z) hb
    .rw[hbe];exact z
   rw[q]at q';cases q';obtain⟨v,hv⟩:=heo;exact⟨v,by rw[hbe];exact hv⟩
  .refine(ok b u q).stay (λc v hc r=>k c v ?_ r) (λc r=>by rw[Zak (nown c b r)];exact r) λc xs r=>by rw[Zak (ntup c xs r)];exact r
   rcases hc with rfl | hc
   .exact hbe
   .rintro rfl;rcases he with z | z
    .exact nown c b hc z
    .rw[hc]at z;cases z;exact hb rfl
end
structure Un (fs ex:List AE)(H H':Hp)(h h':Heap):Prop where
 keep:∀b o,h.get? b=some o->H b=none->b∉fs->b∉ex->h'.get? b=some o
 slot:∀b o,h.get? b=some o->H b=none->b∈fs->b∉ex->∃sl,h'.get? b=some { o with slots:=sl }
 free:∀b o,h.get? b=some o->H b=none->b∉ex->H' b=none
 there:∀b o,h.get? b=some o->b∉ex->∃o',h'.get? b=some o'
 tups:∀b xs,H b=some (.tup xs)->H' b=some (.tup xs)
 frzs:∀b o u,H b=some (.frz o u)->H' b=some (.frz o u)
 tbls:∀b ps,H b=some (.tbl ps)->∃more,H' b=some (.tbl (ps++more))
section
def Un.any (u:Un fs ex H H1 h h1){b:AE}{ob:Obj}(q:h.get? b=some ob)(n:H b=none)(hx:b∉ex):∃sl,h1.get? b=some { ob with slots:=sl }:=by
 by_cases hb:b∈fs
 .exact u.slot b ob q n hb hx
 .exact⟨ob.slots,u.keep b ob q n hb hx⟩
def Un.trans (a:Un fs ex H H1 h h1)(b:Un fs ex H1 H2 h1 h2):Un fs ex H H2 h h2 where
 keep:=λc ob q n hc hx=>b.keep c ob (a.keep c ob q n hc hx) (a.free c ob q n hx) hc hx
 slot:=λc ob q n hc hx=>by obtain⟨sl,e1⟩:=a.slot c ob q n hc hx;obtain⟨sl',e2⟩:=b.slot c _ e1 (a.free c ob q n hx) hc hx;exact⟨sl',e2⟩
 free:=λc ob q n hx=>by obtain⟨o',e1⟩:=a.there c ob q hx;exact b.free c o' e1 (a.free c ob q n hx) hx
 there:=λc ob q hx=>by obtain⟨o',e1⟩:=a.there c ob q hx;exact b.there c o' e1 hx
 tups:=λc xs q=>b.tups c xs (a.tups c xs q)
 frzs:=λc ob xs q=>b.frzs c ob xs (a.frzs c ob xs q)
 tbls:=λc ps q=>by obtain⟨m1,e1⟩:=a.tbls c ps q;obtain⟨m2,e2⟩:=b.tbls c _ e1;exact⟨m1++m2,by rw[e2,Array.append_assoc]⟩
def Un.kept (k:∀b u,h.get? b=some u->h'.get? b=some u):Un fs ex H H h h':=
 ⟨λb ob q _ _ _=>k b ob q,λb ob q _ _ _=>⟨ob.slots,k b ob q⟩,λ_ _ _ n _=>n,λb ob q _=>⟨ob,k b ob q⟩,λ_ _ q=>q,λ_ _ _ q=>q,λ_ ps q=>⟨#[],by rw[q];simp⟩⟩
def Un.refl:Un fs ex H H h h:=Un.kept λ_ _ q=>q
def Un.laid (k:∀b u,h.get? b=some u->h'.get? b=some u)(hp:h.objs.size<=a)(hn:H a=none):Un fs ex H (upd H a o) h h' where
 keep:=λb u q _ _ _=>k b u q
 slot:=λb u q _ _ _=>⟨u.slots,k b u q⟩
 free:=λb u q n _=>by rw[Zak (YAd (YAy (YAR q) hp))];exact n
 there:=λb u q _=>⟨u,k b u q⟩
 tups:=λb xs q=>by rw[Zak (Zag q hn)];exact q
 frzs:=λb u xs q=>by rw[Zak (Zag q hn)];exact q
 tbls:=λb ps q=>⟨#[],by rw[Zak (Zag q hn),q];simp⟩
def Un.write (mu:Mut (H x))(he:e=x\/H e=some (.own x))(k:∀b u,b≠e->h.get? b=some u->h'.get? b=some u)(heo:∃u,h'.get? e=some u):Un fs ex H (upd H x o) h h':=by
 have hx:∀b,H b=none->b≠x:=λb n z=>by subst z;rw[n]at mu;exact mu
 have hb:∀b,H b=none->b≠e:=λb n z=>by
  subst z;rcases he with r | r
  .exact hx b n r
  .rw[n]at r;cases r
 have hm:∀b u,H b=some u->¬Mut (some u)->b≠x:=λb u q nm z=>by subst z;rw[q]at mu;exact nm mu
 refine⟨λb u q n _ _=>k b u (hb b n) q,λb u q n _ _=>⟨u.slots,k b u (hb b n) q⟩,λb u q n _=>by rw[Zak (hx b n)];exact n,λb u q _=>?_,
  λb xs q=>by rw[Zak (hm b _ q λz=>z)];exact q,λb u xs q=>by rw[Zak (hm b _ q λz=>z)];exact q,λb ps q=>⟨#[],by rw[Zak (hm b _ q λz=>z),q];simp⟩⟩
 by_cases hbe:b=e
 .subst hbe;exact heo
 .exact⟨u,k b u hbe q⟩
end
noncomputable def trk (h:Heap)(H:Hp):List AE:=(List.range h.objs.size).filter λa=>(H a).isSome
def jh (h:Heap)(H:Hp):Heap:=PySem.W.hideAll h (trk h H)
def ZjY (h:Heap)(H:Hp):(jh h H).objs.size=h.objs.size:=PySem.W.hideAll_size _ _
def Zlo (e:h.get? b=some o)(n:H b=none):(jh h H).get? b=some o:=
 PySem.W.hideAll_get _ e λhm=>by have q:(H b).isSome=true:=(YAg.mp hm).2;rw[n]at q;simp at q
def Zna (e:(jh h H).get? b=some o):h.get? b=some o/\H b=none:=by
 have e':h.get? b=some o:=PySem.W.of_hideAll (trk h H) e;refine⟨e',?_⟩;cases q:H b with
 | none=>rfl
 | some x=>
  have hm:b∈trk h H:=YAg.mpr ⟨YAl.mpr (YAR e'),by simp[q]⟩;have z:(jh h H).get? b=none:=PySem.W.hideAll_none (trk h H) hm;rw[z]at e;cases e
def Zn0 (g h:Heap)(L:AE):AB:=(List.range h.objs.size).filterMap λa=>if a=L\/(g.get? a).isSome=true then none else (h.get? a).map λo=>(a,o)
noncomputable def rest (g h:Heap)(L d:AE):AB:=(Zn0 g h L).filter λp=>decide (p.1≠d)
structure Mod (K:Q4)(mg:AC)(base:Heap):Prop where
 kin:K.In base
 glob:base.Ns mainGlobals mg
 blt:∃mb,base.Ns builtinsNs mb/\∀x:Str,x≠"__name__"->mb x=bootBuiltins x
 nolimit:base.NoLimit
structure Cx where
 prog:AH
 w:AJ
 K:Q4
 mg:AC
 base:Heap
 A:AI
 N:AK
 s_0:AF
 H_0:Hp
 env:Env
 outer:List Env
 stack:List Env
 ex:List AE
 fn:Str->Bool
 calm:Bool
 pn:AB
 xe:Q33
noncomputable def frs (l:List Env):List AE:=l.filterMap (·.frame)
abbrev Cx.fs (X:Cx):List AE:=frs X.outer
def Vis (sc:Scope)(x:Str):Prop:=sc.names.lookup x=some .local\/sc.names.lookup x=some .cell\/sc.names.lookup x=some .free
def Loc (sc:Scope)(x:Str):Prop:=sc.names.lookup x=some .local\/sc.names.lookup x=some .cell
def Look (env:Env)(h:Heap)(m:AC)(x:Str)(u:Value):Prop:=
 (env.kindOf x=some .local/\m x=some u)\/((env.kindOf x=some .cell\/env.kindOf x=some .free)/\∃c,env.cells.lookup x=some c/\h.IsCell c (some u))
structure Cx.Ok (X:Cx):Prop where
 mod:Mod X.K X.mg X.base
 kind:X.env.scope.kind=.function
 glob:X.env.globals=mainGlobals
 blt:X.env.builtins=builtinsNs
 above:X.s_0.heap.objs.size<=X.env.locals
 inj:∀x y c,X.env.cells.lookup x=some c->X.env.cells.lookup y=some c->x=y
 has:∀x,(X.env.kindOf x=some .cell\/X.env.kindOf x=some .free)->∃c,X.env.cells.lookup x=some c
 cab:∀x c,X.fn x=true->X.env.cells.lookup x=some c->X.s_0.heap.objs.size<=c
 hd:X.calm=true->X.A.handled=none
 frames:X.A.frames=some X.stack
 stk:X.stack=X.outer\/(X.stack=X.env::X.outer/\X.env.frame=some X.env.locals)
 exf:∀b∈X.ex,b≠X.env.locals/\∀x c,X.env.cells.lookup x=some c->c≠b
 bs:∀b o,X.base.get? b=some o->X.s_0.heap.get? b=some o/\X.H_0 b=none
 bsz:X.base.objs.size<=X.s_0.heap.objs.size
 noex:∀b o,X.base.get? b=some o->b∉X.ex
 exfs:∀b∈X.ex,b∉X.fs
 funs:X.s_0.heap.FunFrames X.base X.outer
 frf:∀b∈X.fs,X.H_0 b=none
structure Inv (X:Cx)(As:AB)(U:List (Option V))(H:Hp)(s:AF):Prop where
 ok:X.Ok
 os:s.os=X.s_0.os
 bare:AllBare s.gens
 base:Un X.fs X.ex X.H_0 H X.s_0.heap s.heap
 loc:∃m,s.heap.Ns X.env.locals m/\∀(i:Nat) (x:Str) (v:V),X.N[i]?=some x->U[i]?=some (some v)->Vis X.env.scope x->∃u,gC v u/\Look X.env s.heap m x u
 cell:∀x c,X.env.cells.lookup x=some c->∃v,s.heap.IsCell c v
 free:H X.env.locals=none
 freeC:∀x c,X.env.cells.lookup x=some c->H c=none
 pin:∀p∈X.pn++As,s.heap.get? p.1=some p.2/\H p.1=none/\p.1≠X.env.locals/\p.1∉X.fs/\∀v,p.2.data≠.cell v
 hok:HOk X.prog X.w H s.heap
 len:U.length=X.N.length
section
variable {X:Cx}{As:AB}{U:List (Option V)}{H H':Hp}{s:AF}{h':Heap}
def Cx.Ok.nofr (ok:X.Ok){b:AE}{o:Obj}(e:X.base.get? b=some o):b∉X.fs:=λhb=>by have:=(ok.funs.mem hb).1;rw[e]at this;cases this
def Inv.bs (I:Inv X As U H s):∀b o,X.base.get? b=some o->s.heap.get? b=some o/\H b=none:=λb o e=>
 ⟨I.base.keep b o (I.ok.bs b o e).1 (I.ok.bs b o e).2 (I.ok.nofr e) (I.ok.noex b o e),I.base.free b o (I.ok.bs b o e).1 (I.ok.bs b o e).2 (I.ok.noex b o e)⟩
def Inv.bk (I:Inv X As U H s):∀b o,X.base.get? b=some o->s.heap.get? b=some o:=λb o e=>(I.bs b o e).1
def Inv.mod (I:Inv X As U H s):Mod X.K X.mg X.base:=I.ok.mod
def Inv.kIn (I:Inv X As U H s):X.K.In s.heap:=I.ok.mod.kin.keeps I.bk
def Inv.lt (I:Inv X As U H s):X.env.locals<s.heap.objs.size:=let ⟨_,hn,_⟩:=I.loc;hn.lt
def Inv.sz (I:Inv X As U H s):X.s_0.heap.objs.size<=s.heap.objs.size:=YAP I.ok.above (Nat.le_of_lt I.lt)
def Inv.nofs (I:Inv X As U H s){a:AE}(h:s.heap.objs.size<=a):a∉X.fs:=λhb=>by obtain⟨_,o,ho,_⟩:=I.ok.funs.mem hb;exact absurd (YAy (YAR ho) (YAP I.sz h)) (YBM _)
def Inv.cne (I:Inv X As U H s):∀x c,X.env.cells.lookup x=some c->c≠X.env.locals:=λx c e z=>by obtain⟨v,o,ho,hd⟩:=I.cell x c e;obtain⟨m,⟨o',es,ep,ho',hd',_⟩,_⟩:=I.loc;rw[z,ho']at ho;cases ho;rw[hd']at hd;cases hd
def Inv.funs (I:Inv X As U H s):s.heap.FunFrames X.base X.outer:=by
 have all:∀(l:List Env),(∀b∈frs l,b∈X.fs)->X.s_0.heap.FunFrames X.base l->s.heap.FunFrames X.base l:=by
  intro l;induction l with
  | nil=>intro _ _;trivial
  | cons env r ih=>
   intro hs hl;obtain⟨hk,⟨L,o,hf,hn,ho,hd⟩,hr⟩:=hl;have hL:L∈X.fs:=hs L (by unfold frs;rw[List.filterMap_cons,hf];exact YAZ);obtain⟨sl,e⟩:=I.base.slot L o ho (I.ok.frf L hL) hL λz=>I.ok.exfs L z hL;exact⟨hk,⟨L,_,hf,hn,e,hd⟩,ih (λb hb=>hs b (by unfold frs;rw[List.filterMap_cons,hf];exact YAO _ hb)) hr⟩
 exact all X.outer (λ_ hb=>hb) I.ok.funs
def Inv.stack (I:Inv X As U H s):s.heap.FunFrames X.base X.stack:=by
 rcases I.ok.stk with e | ⟨e,hf⟩
 .rw[e];exact I.funs
 .rw[e];obtain⟨m,hn,_⟩:=I.loc;refine .cons (by rw[I.ok.kind];decide) hf hn ?_ I.funs;exact Heap.get?_none_of_le (YAP I.ok.bsz I.ok.above)
def Inv.stkSub (I:Inv X As U H s):∀b∈frs X.stack,b∈X.env.locals::X.fs:=λb hb=>by
 rcases I.ok.stk with e | ⟨e,hf⟩
 .rw[e]at hb;exact YAO _ hb
 .rw[e]at hb;unfold frs at hb;rw[List.filterMap_cons,hf]at hb;exact hb
def Inv.stkFree (I:Inv X As U H s):∀b∈frs X.stack,H b=none:=λb hb=>by
 rcases YAJ.mp (I.stkSub b hb) with e | hb
 .rw[e];exact I.free
 .obtain⟨_,o,ho,_⟩:=I.ok.funs.mem hb;exact I.base.free b o ho (I.ok.frf b hb) λz=>I.ok.exfs b z hb
def Inv.step {g':Array GenState}{t':Nat}{d':Drawn}{ch:List AE}(I:Inv X As U H s)
  (hch:∀b∈ch,(b∈X.ex\/X.s_0.heap.objs.size<=b)/\b≠X.env.locals/\(∀x c,X.env.cells.lookup x=some c->c≠b)/\∀p∈X.pn++As,p.1≠b)
  (keep:∀b o,b≠X.env.locals->b∉X.fs->b∉ch->s.heap.get? b=some o->H b=none->h'.get? b=some o)
  (slot:∀b o,b≠X.env.locals->b∈X.fs->b∉ch->s.heap.get? b=some o->H b=none->∃sl,h'.get? b=some { o with slots:=sl }) (free:∀b o,b∉ch->s.heap.get? b=some o->H b=none->H' b=none)
  (there:∀b o,b∉ch->s.heap.get? b=some o->∃o',h'.get? b=some o')
  (tups:∀b xs,H b=some (.tup xs)->H' b=some (.tup xs)) (frzs:∀b o u,H b=some (.frz o u)->H' b=some (.frz o u)) (tbls:∀b ps,H b=some (.tbl ps)->∃more,H' b=some (.tbl (ps++more)))
  (ns:∀m,s.heap.Ns X.env.locals m->h'.Ns X.env.locals m) (hok:HOk X.prog X.w H' h') (hg:AllBare g'):
  Inv X As U H' { s with heap:=h',gens:=g',drawn:=d',toks:=t' }:=by
 have neL:∀b o,X.s_0.heap.get? b=some o->b≠X.env.locals:=λb o e=>YAd (YAy (YAR e) I.ok.above);have neC:∀b o,X.s_0.heap.get? b=some o->b∉X.ex->b∉ch:=λb o e hx hb=>by
  rcases (hch b hb).1 with z | z
  .exact hx z
  .exact absurd (YAy (YAR e) z) (YBM _)
 have cellK:∀x c,X.env.cells.lookup x=some c->∀v,s.heap.IsCell c v->h'.IsCell c v:=λx c e v ⟨o,ho,hd⟩=>by
  have nch:c∉ch:=λz=>(hch c z).2.2.1 x c e rfl;by_cases hc:c∈X.fs
  .obtain⟨sl,q⟩:=slot c o (I.cne x c e) hc nch ho (I.freeC x c e);exact⟨_,q,hd⟩
  .exact⟨o,keep c o (I.cne x c e) hc nch ho (I.freeC x c e),hd⟩
 refine⟨I.ok,I.os,hg,⟨λb o e n hb hx=>?_,λb o e n hb hx=>?_,λb o e n hx=>?_,λb o e hx=>?_,λb xs e=>tups b xs (I.base.tups b xs e),λb o xs e=>frzs b o xs (I.base.frzs b o xs e),λb ps e=>?_⟩,?_,λx c e=>?_,?_,λx c e=>?_,λp hp=>?_,hok,I.len⟩
 .exact keep b o (neL b o e) hb (neC b o e hx) (I.base.keep b o e n hb hx) (I.base.free b o e n hx)
 .obtain⟨sl,e1⟩:=I.base.slot b o e n hb hx;obtain⟨sl',e2⟩:=slot b _ (neL b o e) hb (neC b o e hx) e1 (I.base.free b o e n hx);exact⟨sl',e2⟩
 .obtain⟨o',e1⟩:=I.base.there b o e hx;exact free b o' (neC b o e hx) e1 (I.base.free b o e n hx)
 .obtain⟨o',e1⟩:=I.base.there b o e hx;exact there b o' (neC b o e hx) e1
 .obtain⟨m1,e1⟩:=I.base.tbls b ps e;obtain⟨m2,e2⟩:=tbls b _ e1;exact⟨m1++m2,by rw[e2,Array.append_assoc]⟩
 .obtain⟨m,hn,hl⟩:=I.loc;refine⟨m,ns m hn,λi x v e1 e2 e3=>?_⟩;obtain⟨u,r,l⟩:=hl i x v e1 e2 e3;refine⟨u,r,?_⟩;rcases l with l | ⟨k,c,e,z⟩
  .exact .inl l
  .exact .inr ⟨k,c,e,cellK x c e _ z⟩
 .obtain⟨v,z⟩:=I.cell x c e;exact⟨v,cellK x c e v z⟩
 .obtain⟨m,⟨o,_,_,ho,_⟩,_⟩:=I.loc;exact free _ o (λz=>(hch _ z).2.1 rfl) ho I.free
 .obtain⟨v,o,ho,hd⟩:=I.cell x c e;exact free c o (λz=>(hch c z).2.2.1 x c e rfl) ho (I.freeC x c e)
 .obtain⟨e,n,ne,nf,d⟩:=I.pin p hp;have nch:p.1∉ch:=λz=>(hch p.1 z).2.2.2 p hp rfl;exact⟨keep p.1 p.2 ne nf nch e n,free p.1 p.2 nch e n,ne,nf,d⟩
def Inv.un (I:Inv X As U H s)(u:Un X.fs [] H H' s.heap h')(hok:HOk X.prog X.w H' h'):Inv X As U H' { s with heap:=h',toks:=t' }:=by
 obtain⟨m,⟨o,es,ep,ho,r⟩,_⟩:=id I.loc;obtain⟨sl,hL⟩:=u.any ho I.free (by simp);exact I.step (g':=s.gens) (d':=s.drawn) (ch:=[]) (λ_ z=>nomatch z) (λb o _ hb _ e n=>u.keep b o e n hb (by simp)) (λb o _ hb _ e n=>u.slot b o e n hb (by simp)) (λb o _ e n=>u.free b o e n (by simp)) (λb o _ e=>u.there b o e (by simp)) u.tups u.frzs u.tbls (λm' hm=>by obtain⟨o',es',ep',ho',r'⟩:=hm;rw[ho]at ho';cases ho';exact⟨_,es',ep',hL,r'⟩) hok I.bare
def Inv.call (I:Inv X As U H s)(u:Un (frs X.stack) ch H H' s.heap h')(hok:HOk X.prog X.w H' h')(hg:AllBare g')
  (hch:∀b∈ch,(b∈X.ex\/X.s_0.heap.objs.size<=b)/\b≠X.env.locals/\(∀x c,X.env.cells.lookup x=some c->c≠b)/\∀p∈X.pn++As,p.1≠b):
  Inv X As U H' { s with heap:=h',gens:=g',drawn:=d',toks:=t' }:=by
 obtain⟨m,⟨o,es,ep,ho,r⟩,_⟩:=id I.loc;obtain⟨sl,hL⟩:=u.any ho I.free λz=>(hch _ z).2.1 rfl;exact I.step (ch:=ch) hch (λb o hL hb hc e n=>u.keep b o e n (λz=>(YAJ.mp (I.stkSub b z)).elim hL hb) hc) (λb o _ _ hc e n=>u.any e n hc) (λb o hc e n=>u.free b o e n hc) (λb o hc e=>u.there b o e hc) u.tups u.frzs u.tbls (λm' hm=>by obtain⟨o',es',ep',ho',r'⟩:=hm;rw[ho]at ho';cases ho';exact⟨_,es',ep',hL,r'⟩) hok hg
def Inv.turned (I:Inv X As U H s)(k:∀b o,b≠it->s.heap.get? b=some o->h'.get? b=some o)(hn:H it=none)(hL:it≠X.env.locals)
  (h1:it∈X.ex\/X.s_0.heap.objs.size<=it) (h2:∀x c,X.env.cells.lookup x=some c->c≠it) (h3:∀p∈X.pn++As,p.1≠it):Inv X As U H { s with heap:=h',toks:=t' }:=by
 have nit:∀b u,H b=some u->b≠it:=λb u e z=>by rw[z,hn]at e;cases e
 refine I.step (g':=s.gens) (d':=s.drawn) (ch:=[it]) (λb hb=>?_) (λb o _ _ hc e _=>k b o (λz=>hc (by simp[z])) e) (λb o _ _ hc e _=>⟨o.slots,k b o (λz=>hc (by simp[z])) e⟩) (λ_ _ _ _ n=>n)
  (λb o hc e=>⟨o,k b o (λz=>hc (by simp[z])) e⟩) (λ_ _ e=>e) (λ_ _ _ e=>e) (λb ps e=>⟨#[],by rw[e];simp⟩) (λm hm=>?_) (λb u e=>?_) I.bare
 .have e:b=it:=by simpa using hb
  subst e;exact⟨h1,hL,h2,h3⟩
 .obtain⟨o,es,ep,ho,r⟩:=hm;exact⟨o,es,ep,k _ o (YBW hL) ho,r⟩
 .refine(I.hok b u e).stay (λc v hc q=>k c v ?_ q) (λ_ q=>q) λ_ _ q=>q;rcases hc with z | z
  .rw[z];exact nit b u e
  .exact nit c _ z
def Inv.tok (I:Inv X As U H s)(t:Nat):Inv X As U H { s with toks:=t }:=I.un (h':=s.heap) (t':=t) Un.refl I.hok
def Inv.kept (I:Inv X As U H s)(k:∀b u,s.heap.get? b=some u->h'.get? b=some u):Inv X As U H { s with heap:=h',toks:=t' }:=I.un (Un.kept k) (I.hok.kept k)
def Inv.laid (I:Inv X As U H s)(k:∀b u,s.heap.get? b=some u->h'.get? b=some u)(hp:s.heap.objs.size<=a)(new:gQ X.prog X.w (upd H a o) h' a o):
  Inv X As U (upd H a o) { s with heap:=h',toks:=t' }:=I.un (Un.laid k hp (I.hok.fresh hp)) (I.hok.laid k hp new)
def Inv.write (I:Inv X As U H s)(mu:Mut (H x))(he:e=x\/H e=some (.own x))(k:∀b u,b≠e->s.heap.get? b=some u->h'.get? b=some u)(heo:∃u,h'.get? e=some u)
  (new:gQ X.prog X.w (upd H x o) h' x o):Inv X As U (upd H x o) { s with heap:=h',toks:=t' }:=I.un (Un.write mu he k heo) (I.hok.write mu he k heo new)
def Inv.pins_of (I:Inv X As U H s)(h:∀p∈pins',s.heap.get? p.1=some p.2/\H p.1=none/\p.1≠X.env.locals/\p.1∉X.fs/\∀v,p.2.data≠.cell v):Inv X pins' U H s:=
 ⟨I.ok,I.os,I.bare,I.base,I.loc,I.cell,I.free,I.freeC,λp hp=>(YAW.mp hp).elim (λz=>I.pin p (List.mem_append_left _ z)) (h p),I.hok,I.len⟩
def ZhO {N:AK}(hN:N.Nodup){i j:Nat}{x:Str}(a:N[i]?=some x)(b:N[j]?=some x):i=j:=by obtain⟨h1,e1⟩:=YAN.mp a;obtain⟨h2,e2⟩:=YAN.mp b;exact(List.getElem_inj hN).mp (e1.trans e2.symm)
def ZfO (I:Inv X As U H s)(hN:X.N.Nodup)(hi:X.N[i]?=some x)(hx:Loc X.env.scope x)(r:gC v u)
  (h:∀s',Inv X As (U.set i (some v)) H s'->(∃a,Heap.SameBut a s.heap s'.heap/\(a=X.env.locals\/X.env.cells.lookup x=some a))->Q () s') (hf:X.fn x=true\/X.env.scope.names.lookup x=some .local:=by first | exact .inl rfl | exact .inr rfl | assumption):wpAny M A (storeName X.env x u) Q E s:=by
 obtain⟨m,hn,hl⟩:=id I.loc;have hcls:(X.env.scope.kind == .class || (X.env.scope.kind == .module&&X.env.locals != X.env.globals))=false:=by rw[I.ok.kind];rfl
 have hiU:i<U.length:=by rw[I.len];exact(YAN.mp hi).1
 have cne:=I.cne;have tracked:∀ {a:AE} {h':Heap},(∃o,s.heap.get? a=some o/\H a=none)->Heap.SameBut a s.heap h'->HOk X.prog X.w H h':=λ{a h'} ha hs b ob e=>by
  obtain⟨_,_,hfree⟩:=ha;refine(I.hok b ob e).stay (λc w' hc q=>(hs.2 c ?_).trans q) (λ_ q=>q) λ_ _ q=>q;rintro rfl;rcases hc with rfl | hc
  .rw[hfree]at e;cases e
  .rw[hfree]at hc;cases hc
 rcases hx with hk | hk
 .refine wpAny_storeName_local hk hn (λh' hn' hs=>?_) hcls;obtain⟨oL,_,_,hoL,_⟩:=id hn;refine h _ ⟨I.ok,I.os,I.bare,⟨λb o e n hb hx=>?_,λb o e n hb hx=>?_,I.base.free,λb o e hx=>?_,I.base.tups,I.base.frzs,I.base.tbls⟩,⟨_,hn',λj y v' e1 e2 e3=>?_⟩,λy c e=>?_,I.free,I.freeC,λp hp=>?_,tracked ⟨oL,hoL,I.free⟩ hs,~~~I.len⟩ ⟨_,hs,.inl rfl⟩
  .exact(hs.2 b (YAd (YAy (YAR e) I.ok.above))).trans (I.base.keep b o e n hb hx)
  .obtain⟨sl,e1⟩:=I.base.slot b o e n hb hx;exact⟨sl,(hs.2 b (YAd (YAy (YAR e) I.ok.above))).trans e1⟩
  .obtain⟨o',e1⟩:=I.base.there b o e hx;exact⟨o',(hs.2 b (YAd (YAy (YAR e) I.ok.above))).trans e1⟩
  .by_cases hj:j=i
   .subst hj;rw[hi]at e1;cases e1;rw[List.getElem?_set_self hiU]at e2;cases e2;exact⟨u,r,.inl ⟨hk,by simp⟩⟩
   .rw[List.getElem?_set_ne (YBW hj)]at e2;obtain⟨u',r',q⟩:=hl j y v' e1 e2 e3;refine⟨u',r',?_⟩;rcases q with⟨k,e⟩|⟨k,c,e,z⟩
    .refine .inl ⟨k,?_⟩;have:y≠x:=λe=>hj (ZhO hN e1 (e▸hi));simp[this,e]
    .exact .inr ⟨k,c,e,z.sameBut hs (cne y c e)⟩
  .obtain⟨w',z⟩:=I.cell y c e;exact⟨w',z.sameBut hs (cne y c e)⟩
  .obtain⟨e,n,ne,nf,d⟩:=I.pin p hp;exact⟨(hs.2 p.1 ne).trans e,n,ne,nf,d⟩
 .have hfn:X.fn x=true:=by
   rcases hf with z | z
   .exact z
   .rw[z]at hk;cases hk
  obtain⟨c,hc⟩:=I.ok.has x (.inl hk);obtain⟨w',z⟩:=I.cell x c hc;refine wpAny_storeName_cell I.ok.kind hk hc z (λh' hc' hs=>?_);obtain⟨oc,hoc,hocd⟩:=id z;refine h { s with heap:=h' } ⟨I.ok,I.os,I.bare,⟨λb o e n hb hx=>?_,λb o e n hb hx=>?_,I.base.free,λb o e hx=>?_,I.base.tups,I.base.frzs,I.base.tbls⟩,⟨m,hn.sameBut hs (YBW (cne x c hc)),λj y v' e1 e2 e3=>?_⟩,λy c' e=>?_,I.free,I.freeC,λp hp=>?_,tracked ⟨oc,hoc,I.freeC x c hc⟩ hs,~~~I.len⟩ ⟨c,hs,.inr hc⟩
  .exact(hs.2 b (YAd (YAy (YAR e) (I.ok.cab x c hfn hc)))).trans (I.base.keep b o e n hb hx)
  .obtain⟨sl,e1⟩:=I.base.slot b o e n hb hx;exact⟨sl,(hs.2 b (YAd (YAy (YAR e) (I.ok.cab x c hfn hc)))).trans e1⟩
  .obtain⟨o',e1⟩:=I.base.there b o e hx;exact⟨o',(hs.2 b (YAd (YAy (YAR e) (I.ok.cab x c hfn hc)))).trans e1⟩
  .by_cases hj:j=i
   .subst hj;rw[hi]at e1;cases e1;rw[List.getElem?_set_self hiU]at e2;cases e2;exact⟨u,r,.inr ⟨.inl hk,c,hc,hc'⟩⟩
   .rw[List.getElem?_set_ne (YBW hj)]at e2;obtain⟨u',r',q⟩:=hl j y v' e1 e2 e3;refine⟨u',r',?_⟩;rcases q with q | ⟨k,c',e,z'⟩
    .exact .inl q
    .refine .inr ⟨k,c',e,z'.sameBut hs ?_⟩;rintro rfl;exact hj (ZhO hN e1 (I.ok.inj _ _ _ e hc▸hi))
  .by_cases hcc:c'=c
   .subst hcc;exact⟨_,hc'⟩
   .obtain⟨w2,z2⟩:=I.cell y c' e;exact⟨w2,z2.sameBut hs hcc⟩
  .obtain⟨e,n,ne,nf,d⟩:=I.pin p hp;refine⟨(hs.2 p.1 ?_).trans e,n,ne,nf,d⟩;intro q;rw[q,hoc]at e;have q':oc=p.2:=Option.some.inj e;exact d w' (by rw[<-q'];exact hocd)
def Ze6 (I:Inv X As U H s)(hN:X.N.Nodup)(hi:X.N[i]?=some x)(hx:Loc X.env.scope x)(r:gC v u)
  (h:∀s',Inv X As (U.set i (some v)) H s'->Q () s') (hf:X.fn x=true\/X.env.scope.names.lookup x=some .local:=by first | exact .inl rfl | exact .inr rfl | assumption):wpAny M A (storeName X.env x u) Q E s:=
 ZfO I hN hi hx r (λs' I' _=>h s' I') hf
def Inv.call' (I:Inv X As U H s)(ho:s'.os=s.os)(u:Un (frs X.stack) ch H H' s.heap s'.heap)(hok:HOk X.prog X.w H' s'.heap)(hg:AllBare s'.gens)
  (hch:∀b∈ch,(b∈X.ex\/X.s_0.heap.objs.size<=b)/\b≠X.env.locals/\(∀x c,X.env.cells.lookup x=some c->c≠b)/\∀p∈X.pn++As,p.1≠b):Inv X As U H' s':=by
 obtain⟨h',g',d',t',o'⟩:=s';have e:o'=s.os:=ho;subst e;exact I.call (g':=g') (t':=t') (d':=d') u hok hg hch
end
abbrev XK:=Value->Option AE->Hp->Prop
abbrev St:=List (Option V)
abbrev VK:=V->Hp->Prop
abbrev TE:=St->Hp->VK->Prop
abbrev TT:=St->Hp->(Bool->Hp->Prop)->Prop
abbrev TA:=St->Hp->(List V->Hp->Prop)->Prop
structure iM where
 nx:St->Hp->Prop
 rt:VK
 bk:St->Hp->Prop:=λ_ _=>False
 ct:St->Hp->Prop:=λ_ _=>False
abbrev TS:=iM->St->Hp->Prop
def EP (X:Cx)(As:AB)(U:St)(Q:VK)(u:Value)(s':AF):Prop:=∃v H',Inv X As U H' s'/\gC v u/\Q v H'
def TP (X:Cx)(As:AB)(U:St)(Q:Bool->Hp->Prop)(b:Bool)(s':AF):Prop:=∃H',Inv X As U H' s'/\Q b H'
def AP (X:Cx)(As:AB)(U:St)(Q:List V->Hp->Prop)(us:AD)(s':AF):Prop:=∃vs H',Inv X As U H' s'/\gs vs us/\Q vs H'
def SP (X:Cx)(As:AB)(D:iM)(f:Flow)(s':AF):Prop:=
 match f with
 | .next=>∃U' H',Inv X As U' H' s'/\D.nx U' H'
 | .brk=>∃U' H',Inv X As U' H' s'/\D.bk U' H'
 | .cont=>∃U' H',Inv X As U' H' s'/\D.ct U' H'
 | .ret u=>∃v U' H',Inv X As U' H' s'/\gC v u/\D.rt v H'
def PE (X:Cx)(e:Expr)(t:TE):Prop:=
 ∀(As:AB) (s:AF) (U:St) (H:Hp) (Q:VK),Inv X As U H s->t U H Q->wpAny (model X.prog X.w) X.A (eval e X.env) (EP X As U Q) X.xe s
def PT (X:Cx)(e:Expr)(t:TT):Prop:=
 ∀(As:AB) (s:AF) (U:St) (H:Hp) (Q:Bool->Hp->Prop),Inv X As U H s->t U H Q->wpAny (model X.prog X.w) X.A (isTrue e X.env (eval e X.env)) (TP X As U Q) X.xe s
def PW (X:Cx)(e:Expr)(t:TT):Prop:=
 ∀(whole:Sem Value) (As:AB) (s:AF) (U:St) (H:Hp) (Q:Bool->Hp->Prop),Inv X As U H s->t U H Q->wpAny (model X.prog X.w) X.A (isTrue e X.env whole) (TP X As U Q) X.xe s
def PW.pt (h:PW X e t):PT X e t:=h _
def PA (X:Cx)(es:List Expr)(t:TA):Prop:=
 ∀(pos:Pos) (As:AB) (s:AF) (U:St) (H:Hp) (Q:List V->Hp->Prop),Inv X As U H s->t U H Q->wpAny (model X.prog X.w) X.A (spliced (backTo pos (starEach es X.env))) (AP X As U Q) X.xe s
def PS (X:Cx)(st:Stmt)(t:TS):Prop:=
 ∀(As:AB) (s:AF) (U:St) (H:Hp) (D:iM),Inv X As U H s->t D U H->wpAny (model X.prog X.w) X.A (exec st X.env) (SP X As D) X.xe s
def PSs (X:Cx)(st:List Stmt)(t:TS):Prop:=
 ∀(As:AB) (s:AF) (U:St) (H:Hp) (D:iM),Inv X As U H s->t D U H->wpAny (model X.prog X.w) X.A (execs st X.env) (SP X As D) X.xe s
def thn (h:wpAny M A t Q E s)(hQ:∀a s,Q a s->Q' a s):wpAny M A t Q' E s:=YBg h hQ λ_ _ x=>x
section
variable {X:Cx}
def jr (i:Nat):TE:=λU H Q=>∃v,U[i]?=some (some v)/\Q v H
def tC (v:V):TE:=λ_ H Q=>Q v H
def ZoM (hN:X.N[i]?=some x) (hv:Vis X.env.scope x) (hd:(x == ("__debug__":Str))=false:=by decide) (hcd:(x == ("__classdict__":Str))=false:=by decide):PE X (.Name x pos) (jr i):=by
 intro As s U H Q I h;obtain⟨v,e,h⟩:=h;obtain⟨m,hn,hl⟩:=I.loc;obtain⟨u,r,l⟩:=hl i x v hN e hv;have fin:EP X As U Q u s:=⟨v,H,I,r,h⟩;rcases l with⟨hk,hm⟩|⟨hk,c,hc,hcell⟩
 .exact wpAny_Name (wpAny_loadName_local I.ok.kind hk hn hm fin) hd
 .rcases hk with hk | hk
  .exact wpAny_Name (wpAny_loadName_cell I.ok.kind hk hc hcell fin) hd
  .exact wpAny_Name (wpAny_loadName_free I.ok.kind hk hc hcell fin hcd) hd
def Zae {i j pos}:PE X (.Constant (.int i) j pos) (tC (.int i)):=λ_ _ _ H _ I h=>wpAny_Constant_int ⟨.int i,H,I.tok _,⟨_,rfl⟩,h⟩
def Zev {b j pos}:PE X (.Constant (.bool b) j pos) (tC (.bl b)):=λ_ _ _ H _ I h=>Constant_bool ⟨.bl b,H,I,rfl,h⟩
def ZoN {x j pos}:PE X (.Constant (.str x) j pos) (tC (.str x)):=λ_ _ _ H _ I h=>Calls.Constant_str ⟨.str x,H,I.tok _,⟨_,rfl⟩,h⟩
def Gl (X:Cx)(x:Str):Prop:=X.env.kindOf x=some .globalImplicit
def Zfl (I:Inv X As U H s)(hg:Gl X x)(hm:X.mg x=some u)(h:Q u s)
  (hd:(x == ("__debug__":Str))=false:=by decide):wpAny (model X.prog X.w) X.A (eval (.Name x pos) X.env) Q E s:=
 Calls.Name_function_global I.ok.kind hg (Calls.loadGlobal_global (by rw[I.ok.glob];exact I.mod.glob.keeps I.bk) hm h) hd
def Zdw (I:Inv X As U H s)(hg:Gl X x)(hm:X.mg x=none)(hv:bootBuiltins x=some u)(h:Q u s)
  (hn:x≠"__name__":=by decide) (hd:(x == ("__debug__":Str))=false:=by decide):wpAny (model X.prog X.w) X.A (eval (.Name x pos) X.env) Q E s:=by
 obtain⟨mb,h1,h2⟩:=I.mod.blt;exact Calls.Name_function_global I.ok.kind hg (Calls.loadGlobal_builtin (by rw[I.ok.glob];exact I.mod.glob.keeps I.bk) hm (by rw[I.ok.blt];exact h1.keeps I.bk) ((h2 x hn).trans hv) h) hd
def Zjo (hg:Gl X x) (hm:X.mg x=some u) (r:gC v u) (hd:(x == ("__debug__":Str))=false:=by decide):PE X (.Name x pos) (tC v):=
 λ_ _ _ H _ I h=>Zfl I hg hm ⟨v,H,I,r,h⟩ hd
def Zjp (hg:Gl X x) (hm:X.mg x=none) (hv:bootBuiltins x=some u) (r:gC v u) (hn:x≠"__name__":=by decide) (hd:(x == ("__debug__":Str))=false:=by decide):PE X (.Name x pos) (tC v):=
 λ_ _ _ H _ I h=>Zdw I hg hm hv ⟨v,H,I,r,h⟩ hn hd
variable {a b:Expr}{ta tb:TE}{pos:Pos}
def PC (X:Cx)(op:CmpOp)(a b:Expr)(t:TE):Prop:=
 ∀(As:AB) (s:AF) (U:St) (H:Hp) (Q:VK),Inv X As U H s->t U H Q ->
  wpAny (model X.prog X.w) X.A (eval a X.env) (λv s_1=>wpAny (model X.prog X.w) X.A (eval b X.env) (λu s_2=>wpAny (model X.prog X.w) X.A (compareOp op v u) (EP X As U Q) X.xe s_2) X.xe s_1) X.xe s
def Zk8 (b:Expr){op:CmpOp}(h:op≠.In)(h2:op≠.NotIn):behindInMarks op b=false:=by
 have e1:(op == CmpOp.In)=false:=by cases op<;>first | rfl | exact absurd rfl h
 have e2:(op == CmpOp.NotIn)=false:=by cases op<;>first | rfl | exact absurd rfl h2
 cases b<;>simp[behindInMarks,e1,e2]
def tB (t:TE):TT:=λU H Q=>t U H λx H1=>∃c,x=.bl c/\Q c H1
def Zl1 (h:PC X op a b t)(h1:behindInMarks op b=false:=by first | exact Zk8 _ (by decide) (by decide) | rfl):PT X (.Compare a [op] [b] pos) (tB t):=by intro As s U H Q I hw;refine wpAny_isTrue_Compare1 (thn (h As s U H _ I hw) λv s1 h1=>thn h1 λu s2 h2=>thn h2 λc s3 zz=>?_) h1;obtain⟨x,H1,I1,r1,q1⟩:=zz;obtain⟨d,rfl,q⟩:=q1;cases r1;exact YCv ⟨H1,I1,q⟩
def Zcp (h:PE X e t)(he:∀whole,isTrue e X.env whole=(do let v <-whole;standAt e.pos;holding [v] (truthy v)):=by intro _;rfl):PT X e (tB t):=by intro As s U H Q I hw;refine isTrue_plain (thn (h As s U H _ I hw) λv s1 zz=>?_) (he _);obtain⟨x,H1,I1,r1,q1⟩:=zz;obtain⟨d,rfl,q⟩:=q1;cases r1;exact YCv ⟨H1,I1,q⟩
variable {tA tB':TT}{rest:List Expr}
def tAnd (t u:TT):TT:=λU H Q=>t U H λc H1=>if c=true then u U H1 Q else Q false H1
def tOr (t u:TT):TT:=λU H Q=>t U H λc H1=>if c=true then Q true H1 else u U H1 Q
def tNot (t:TT):TT:=λU H Q=>t U H λc H1=>Q (!c) H1
def Zfc (ha:PT X a tA):PW X (.BoolOp .And [a] pos) tA:=by
 intro wh As s U H Q I h;refine isTrue_and (thn (ha As s U H Q I h) λc s1 e=>?_);cases c with
 | true=>exact isTrue_and_nil e
 | false=>exact e
def ZeJ (ha:PT X a tA):PW X (.BoolOp .Or [a] pos) tA:=by
 intro wh As s U H Q I h;refine isTrue_or (thn (ha As s U H Q I h) λc s1 e=>?_);cases c with
 | false=>exact isTrue_or_nil e
 | true=>exact e
def ZhF (ha:PT X a tA)(hb:PW X (.BoolOp .And (b::rest) pos) tB'):PW X (.BoolOp .And (a::b::rest) pos) (tAnd tA tB'):=by
 intro wh As s U H Q I h;refine isTrue_and (thn (ha As s U H _ I h) λc s1 zz=>?_);obtain⟨H1,I1,q1⟩:=zz;cases c with
 | true=>exact hb wh As s1 U H1 Q I1 q1
 | false=>exact⟨H1,I1,q1⟩
def Zim (ha:PT X a tA)(hb:PW X (.BoolOp .Or (b::rest) pos) tB'):PW X (.BoolOp .Or (a::b::rest) pos) (tOr tA tB'):=by
 intro wh As s U H Q I h;refine isTrue_or (thn (ha As s U H _ I h) λc s1 zz=>?_);obtain⟨H1,I1,q1⟩:=zz;cases c with
 | true=>exact⟨H1,I1,q1⟩
 | false=>exact hb wh As s1 U H1 Q I1 q1
def ZcS (ha:PT X a tA):PT X (.UnaryOp .Not a pos) (tNot tA):=by intro As s U H Q I h;exact isTrue_not (ha As s U H (λc H1=>Q (!c) H1) I h)
def Zoq (ta tb:TE):TE:=λU H Q=>ta U H λx H1=>∃c,x=.bl c/\if c=true then tb U H1 Q else Q (.bl false) H1
def ZfW {op}{t:TE}(h:PE X a t):PE X (.BoolOp op [a] pos) t:=λAs s U H Q I hw=>BoolOp_one (h As s U H Q I hw)
def Zd4 (ha:PE X a ta)(hb:PE X (.BoolOp .And (b::rest) pos) tb):PE X (.BoolOp .And (a::b::rest) pos) (Zoq ta tb):=by
 intro As s U H Q I h;refine BoolOp_and (thn (ha As s U H _ I h) λv s1 zz=>?_);obtain⟨x,H1,I1,r1,q1⟩:=zz;obtain⟨c,rfl,q1⟩:=q1;cases r1;refine YCv ?_;cases c with
 | true=>exact hb As s1 U H1 Q I1 q1
 | false=>exact⟨.bl false,H1,I1,rfl,q1⟩
def tIf (t:TT)(ta tb:TE):TE:=λU H Q=>t U H λc H1=>if c=true then ta U H1 Q else tb U H1 Q
def Zk0 (hc:PT X c tA)(ha:PE X a ta)(hb:PE X b tb):PE X (.IfExp c a b pos) (tIf tA ta tb):=by
 intro As s U H Q I h;refine wpAny_IfExp (thn (hc As s U H _ I h) λd s1 zz=>?_);obtain⟨H1,I1,q1⟩:=zz;cases d with
 | true=>exact ha As s1 U H1 Q I1 q1
 | false=>exact hb As s1 U H1 Q I1 q1
end
def SqL (K:Q4)(H:Hp)(a:AE)(xs:List V):Prop:=
 Rd H a (.lst xs) \/
  ∃(o:Obj) (its:Array Value) (n:Nat),K.lookup a=some o/\o.cls=.type "list"/\o.dict=none/\o.data=.seq its n/\its.size<=sizeLine/\gs xs its.toList
def SqT (K:Q4)(H:Hp)(a:AE)(xs:List V):Prop:=
 Rd H a (.tup xs) \/
  ∃(o:Obj) (its:Array Value) (n:Nat),K.lookup a=some o/\o.cls=.type "tuple"/\o.data=.seq its n/\its.size<=sizeLine/\gs xs its.toList
noncomputable def absV:Value->Option V
 | .none=>some .non
 | .bool b=>some (.bl b)
 | .int i _=>some (.int i)
 | .str x _=>some (.str x)
 | .bytes b _=>some (.byt b)
 | .float b _=>some (.flt b)
 | .ref a=>some (.ref a)
 | .type n=>some (.ty n)
 | _=>none
def gC.abs (r:gC x u):absV u=some x:=by
 cases x with
 | non=>cases r;rfl
 | bl _=>cases r;rfl
 | int _=>obtain⟨t,rfl⟩:=r;rfl
 | str _=>obtain⟨t,rfl⟩:=r;rfl
 | byt _=>obtain⟨t,rfl⟩:=r;rfl
 | flt _=>obtain⟨t,rfl⟩:=r;rfl
 | ref _=>cases r;rfl
 | ty _=>cases r;rfl
def gC.inj (r:gC x u)(q:gC y u):x=y:=Option.some.inj (r.abs.symm.trans q.abs)
theorem gs.inj:∀ {xs ys:List V} {us:AD},gs xs us->gs ys us->xs=ys
 | _,_,_,.nil,.nil=>rfl
 | _,_,_,.cons r t,.cons r' t'=>by rw[r.inj r',gs.inj t t']
section
def Inv.list (I:Inv X As U H s)(h:SqL X.K H a xs):∃its:AD,gs xs its/\PlainL s.heap a its.toArray/\xs.length<=sizeLine:=by
 rcases h with h | ⟨o,its,n,hk,hc,hd,hs,hz,r⟩
 .obtain⟨z,its,n,r,e⟩:=h.ok I.hok;exact⟨its,r,⟨_,n,e,rfl,rfl,rfl⟩,z⟩
 .refine⟨its.toList,r,⟨o,n,I.kIn a o hk,hc,hd,~~~hs⟩,?_⟩;have e:=r.length;simp only[YAG]at e
  lia
def Inv.tuple (I:Inv X As U H s)(h:SqT X.K H a xs):∃its:AD,gs xs its/\IsTup s.heap a its.toArray/\xs.length<=sizeLine:=by
 rcases h with h | ⟨o,its,n,hk,hc,hs,hz,r⟩
 .obtain⟨z,its,r,p⟩:=h.ok I.hok;exact⟨its,r,p,z⟩
 .refine⟨its.toList,r,⟨o,I.kIn a o hk,hc,n,~~~hs⟩,?_⟩;have e:=r.length;simp only[YAG]at e
  lia
def Inv.list_inj (I:Inv X As U H s)(h:SqL X.K H a xs)(h':SqL X.K H a ys):xs=ys:=by
 obtain⟨its,r,⟨o,n,e,_,_,d⟩,_⟩:=I.list h;obtain⟨its',r',⟨o',n',e',_,_,d'⟩,_⟩:=I.list h';rw[e]at e';cases e';rw[d]at d';injection d' with d1 _;have:its=its':=by simpa using congrArg Array.toList d1
 subst this;exact r.inj r'
def Inv.tuple_inj (I:Inv X As U H s)(h:SqT X.K H a xs)(h':SqT X.K H a ys):xs=ys:=by
 obtain⟨its,r,⟨o,e,_,n,d⟩,_⟩:=I.tuple h;obtain⟨its',r',⟨o',e',_,n',d'⟩,_⟩:=I.tuple h';rw[e]at e';cases e';rw[d]at d';injection d' with d1 _;have:its=its':=by simpa using congrArg Array.toList d1
 subst this;exact r.inj r'
end
noncomputable abbrev Cx.wish (X:Cx)(E:Q33):Cx:={ X with xe:=E }
abbrev Cx.nox (X:Cx):Cx:=X.wish λ_ _=>False
def Cx.Ok.wish {X:Cx}(ok:X.Ok)(E:Q33):(X.wish E).Ok:=
 ⟨ok.mod,ok.kind,ok.glob,ok.blt,ok.above,ok.inj,ok.has,ok.cab,ok.hd,ok.frames,ok.stk,ok.exf,ok.bs,ok.bsz,ok.noex,ok.exfs,ok.funs,ok.frf⟩
def Cx.Ok.unwish {X:Cx}{E:Q33}(ok:(X.wish E).Ok):X.Ok:=
 ⟨ok.mod,ok.kind,ok.glob,ok.blt,ok.above,ok.inj,ok.has,ok.cab,ok.hd,ok.frames,ok.stk,ok.exf,ok.bs,ok.bsz,ok.noex,ok.exfs,ok.funs,ok.frf⟩
section
def Inv.wish (I:Inv X As U H s)(E:Q33):Inv (X.wish E) As U H s:=⟨I.ok.wish E,I.os,I.bare,I.base,I.loc,I.cell,I.free,I.freeC,I.pin,I.hok,I.len⟩
def Inv.unwish (I:Inv (X.wish E) As U H s):Inv X As U H s:=⟨I.ok.unwish,I.os,I.bare,I.base,I.loc,I.cell,I.free,I.freeC,I.pin,I.hok,I.len⟩
def SP.unwish (h:SP (X.wish E) As D f s'):SP X As D f s':=by
 cases f with
 | next=>obtain⟨U',H',I,q⟩:=h;exact⟨U',H',I.unwish,q⟩
 | brk=>obtain⟨U',H',I,q⟩:=h;exact⟨U',H',I.unwish,q⟩
 | cont=>obtain⟨U',H',I,q⟩:=h;exact⟨U',H',I.unwish,q⟩
 | ret u=>obtain⟨v,U',H',I,r,q⟩:=h;exact⟨v,U',H',I.unwish,r,q⟩
def PSs.nox {st:List Stmt}{t:TS}(h:PSs X.nox st t):PSs X st t:=λAs s U H D I hw=>
 YBg (h As s U H D (I.wish _) hw) (λ_ _ q=>q.unwish) λ_ _ z=>False.elim z
end
section
variable {X:Cx}{st:Stmt}{rest:List Stmt}{t u:TS}{e:Expr}{te:TE}{pos:Pos}
def kD:TS:=λD U H=>D.nx U H
def jz (t u:TS):TS:=λD U H=>t { D with nx:=u D } U H
def ZaG:PSs X [] kD:=λ_ _ U H _ I h=>wpAny_execs_nil ⟨U,H,I,h⟩
def Zab (h1:PS X st t)(h2:PSs X rest u):PSs X (st::rest) (jz t u):=by
 intro As s U H D I h;refine wpAny_execs_cons (thn (h1 As s U H { D with nx:=u D } I h) λf s1 q=>?_);cases f with
 | next=>
  obtain⟨U',H',I',q⟩:=q;exact h2 As s1 U' H' D I' q
 | ret v=>exact q
 | brk=>exact q
 | cont=>exact q
def Zaf (h1:PS X st t):PSs X [st] t:=by
 intro As s U H D I h;refine wpAny_execs_cons (thn (h1 As s U H D I h) λf s1 q=>?_);cases f with
 | next=>exact wpAny_execs_nil q
 | ret v=>exact q
 | brk=>exact q
 | cont=>exact q
def Inv.quiet (I:Inv X As U H s):interactive X.env=false:=by simp[interactive,I.ok.kind]
def Zoj (te:TE):TS:=λD U H=>te U H λ_ H1=>D.nx U H1
def ZaK (he:PE X e te)(hs:swapsWith e none pos.line X.env=pure false:=by rfl):PS X (.Expr e pos) (Zoj te):=by intro As s U H D I h;exact wpAny_Expr_any (thn (he As s U H _ I h) λv s1 ⟨x,H1,I1,r1,q1⟩=>⟨U,H1,I1,q1⟩) I.quiet hs
def tRet (te:TE):TS:=λD U H=>te U H D.rt
def Zaw (he:PE X e te):PS X (.Return (some e) pos) (tRet te):=by intro As s U H D I h;exact wpAny_Return_some (thn (he As s U H _ I h) λv s1 ⟨x,H1,I1,r1,q1⟩=>⟨x,U,H1,I1,r1,q1⟩)
def ke (c:TT)(t u:TS):TS:=λD U H=>c U H λb H1=>if b=true then t D U H1 else u D U H1
def Zbp (hc:PT X c tc)(ha:PSs X a t)(hb:PSs X b u):PS X (.If c a b pos) (ke tc t u):=by
 intro As s U H D I h;refine wpAny_If (thn (hc As s U H _ I h) λd s1 zz=>?_);obtain⟨H1,I1,q1⟩:=zz;cases d with
 | true=>exact ha As s1 U H1 D I1 q1
 | false=>exact hb As s1 U H1 D I1 q1
end
abbrev TG:=V->St->Hp->(St->Hp->Prop)->Prop
abbrev TGs:=List V->St->Hp->(St->Hp->Prop)->Prop
def PG (X:Cx)(target:Expr)(t:TG):Prop:=
 ∀(As:AB) (s:AF) (U:St) (H:Hp) (v:V) (u:Value) (Q:St->Hp->Prop),Inv X As U H s->gC v u->t v U H Q ->
  wpAny (model X.prog X.w) X.A (assign target X.env u) (λ_ s'=>∃U' H',Inv X As U' H' s'/\Q U' H') X.xe s
def PGs (X:Cx)(ts:List Expr)(t:TGs):Prop:=
 ∀(As:AB) (s:AF) (U:St) (H:Hp) (vs:List V) (us:AD) (Q:St->Hp->Prop),Inv X As U H s->gs vs us->t vs U H Q ->
  wpAny (model X.prog X.w) X.A (assignInOrder ((assignEach ts X.env).map (·.2)) us) (λ_ s'=>∃U' H',Inv X As U' H' s'/\Q U' H') X.xe s
abbrev TIp:=V->V->Hp->VK->Prop
def PIp (X:Cx)(op:Operator)(t:TIp):Prop:=
 ∀(As:AB) (s:AF) (U:St) (H:Hp) (x y:V) (v u:Value) (Q:VK),Inv X As U H s->gC x v->gC y u->t x y H Q ->
  wpAny (model X.prog X.w) X.A (inplaceOp op v u) (EP X As U Q) X.xe s
section
noncomputable def Zcb (i:Nat):TG:=λv U H Q=>Q (U.set i (some v)) H
def ZaA (hN:X.N.Nodup)(hi:X.N[i]?=some x)(hx:Loc X.env.scope x)(hf:X.fn x=true\/X.env.scope.names.lookup x=some .local:=by first | exact .inl rfl | exact .inr rfl | assumption):PG X (.Name x pos) (Zcb i):=by intro As s U H v u Q I r h;exact wpAny_assign_Name (Ze6 I hN hi hx r (λs' I'=>⟨_,H,I',h⟩) hf)
def lE:TGs:=λvs U H Q=>vs=[]/\Q U H
def Zls (t:TG)(u:TGs):TGs:=λvs U H Q=>∃v r,vs=v::r/\t v U H λU' H'=>u r U' H' Q
def ZgW:PGs X [] lE:=by intro As s U H vs us Q I r h;obtain⟨e,h⟩:=h;subst e;cases r;exact assignInOrder_nil ⟨U,H,I,h⟩
def Zb9 (h1:PG X e t)(h2:PGs X es u)
  (hs:(assignEach (e::es) X.env).map (·.2)=assign e X.env::(assignEach es X.env).map (·.2):=by rfl):PGs X (e::es) (Zls t u):=by
 intro As s U H vs us Q I r h;obtain⟨v,vr,e1,h⟩:=h;subst e1;cases r with
 | cons r rr=>
  rw[hs];refine assignInOrder_cons (thn (h1 As s U H _ _ _ I r h) λ_ s1 zz=>?_);obtain⟨U1,H1,I1,q1⟩:=zz;exact h2 As s1 U1 H1 _ _ Q I1 rr q1
def ki (K:Q4)(n:Nat)(t:TGs):TG:=λv U H Q=>∃a xs,v=.ref a/\SqT K H a xs/\xs.length=n/\t xs U H Q
def Zl3 (hc:X.calm=true)(h:PGs X es t)
  (hn:(assignEach es X.env).length=n:=by rfl) (hst:(assignEach es X.env).findIdx? (·.1)=none:=by rfl):PG X (.Tuple es k pos) (ki X.K n t):=by
 intro As s U H v u Q I r hw;obtain⟨a,xs,e1,hq,hl,hw⟩:=hw;subst e1;cases r;obtain⟨its,rv,ht,hz⟩:=I.tuple hq;refine assign_Tuple_tuple (I.ok.hd hc) ht (by simp[hn,<-hl,rv.length]) hst λh' hx=>?_;have I1:Inv X As U H { s with heap:=h' }:=I.kept (t':=s.toks) λb o e=>hx b o (YAd (YAR e)) e;exact h As _ U H xs _ Q I1 (~~~rv) hw
def jY (te:TE)(g:TG):TS:=λD U H=>te U H λx H1=>g x U H1 D.nx
def ZoK (he:PE X e te)(hg:PG X tg g)(hs:swapsWithSole [tg] e pos.line X.env=pure false:=by rfl)(hw:swappedStores [tg] e X.env=pure none:=by rfl)
  (h1:(assignEach [tg] X.env).map (·.2)=[assign tg X.env]:=by rfl):PS X (.Assign [tg] e pos) (jY te g):=by
 intro As s U H D I h;refine wpAny_Assign_stores (thn (he As s U H _ I h) λv s1 zz=>?_) hs hw;obtain⟨x,H1,I1,r1,q1⟩:=zz;rw[h1];exact thn (hg As s1 U H1 x v _ I1 r1 q1) λ_ s2 q=>q
def ZcT (hN:X.N.Nodup)(hi:X.N[i]?=some x)(hx:Loc X.env.scope x)(he:PE X e te)(hs:swapsWith e (some (.Name x pos')) pos.line X.env=pure false:=by rfl)(hf:X.fn x=true\/X.env.scope.names.lookup x=some .local:=by first | exact .inl rfl | exact .inr rfl | assumption):
  PS X (.Assign [.Name x pos'] e pos) (jY te (Zcb i)):=by
 intro As s U H D I h;refine wpAny_Assign_Name (thn (he As s U H _ I h) λv s1 zz=>?_) hs;obtain⟨y,H1,I1,r1,q1⟩:=zz;exact Ze6 I1 hN hi hx r1 (λs2 I2=>⟨_,H1,I2,q1⟩) hf
def tAug (i:Nat)(te:TE)(ti:TIp):TS:=λD U H=>∃x,U[i]?=some (some x)/\te U H λy H1=>ti x y H1 λz H2=>D.nx (U.set i (some z)) H2
def Zl2 (hN:X.N.Nodup)(hi:X.N[i]?=some x)(hx:Loc X.env.scope x)(he:PE X e te)(ho:PIp X op ti)(hf:X.fn x=true\/X.env.scope.names.lookup x=some .local:=by first | exact .inl rfl | exact .inr rfl | assumption):
  PS X (.AugAssign (.Name x pos') op e pos) (tAug i te ti):=by
 intro As s U H D I h;obtain⟨v,e1,h⟩:=h;obtain⟨m,hn,hl⟩:=I.loc;have vis:Vis X.env.scope x:=by rcases hx with k | k;exact .inl k;exact .inr (.inl k)
 obtain⟨u,r,l⟩:=hl i x v hi e1 vis;refine wpAny_AugAssign_Name ?_;have go:wpAny (model X.prog X.w) X.A (eval e X.env) (λw s_2=>wpAny (model X.prog X.w) X.A (inplaceOp op u w) (λr s₃=>wpAny (model X.prog X.w) X.A (storeName X.env x r) (λ_=>SP X As D .next) X.xe s₃) X.xe s_2) X.xe s:=by refine thn (he As s U H _ I h) λw s1 zz=>?_;obtain⟨y,H1,I1,r1,q1⟩:=zz;refine thn (ho As s1 U H1 v y u w _ I1 r r1 q1) λz s2 zz=>?_;obtain⟨zv,H2,I2,r2,q2⟩:=zz;exact Ze6 I2 hN hi hx r2 (λs3 I3=>⟨_,H2,I3,q2⟩) hf
 rcases l with⟨hk,hm⟩|⟨hk,c,hc,hcell⟩
 .exact wpAny_loadName_local I.ok.kind hk hn hm go
 .rcases hk with hk | hk
  .exact wpAny_loadName_cell I.ok.kind hk hc hcell go
  .rcases hx with k | k
   .have:X.env.scope.names.lookup x=some .free:=hk;rw[k]at this;cases this
   .have:X.env.scope.names.lookup x=some .free:=hk;rw[k]at this;cases this
def ipI (f:Int->Int->Int):TIp:=λx y H Q=>∃i j,x=.int i/\y=.int j/\Q (.int (f i j)) H
def Zmd:PIp X .Add (ipI λi j=>i+j):=by intro As s U H x y v u Q I r1 r2 h;obtain⟨i,j,e1,e2,q⟩:=h;subst e1;subst e2;obtain⟨t,rfl⟩:=r1;obtain⟨t',rfl⟩:=r2;exact iadd_int ⟨.int _,H,I.tok _,⟨_,rfl⟩,q⟩
end
section
def ZiZ (c:TT)(tb:TS):TS:=λD U H=>∃W:Nat->St->Hp->Prop,(∃m,W m U H)/\∀m U H,W m U H ->
 c U H λb H1=>if b=true then ∃N:St->Hp->Prop,(∀U' H',N U' H'->∃m',m'<m/\W m' U' H')/\tb { D with nx:=N,ct:=N,bk:=D.nx } U H1 else D.nx U H1
def Zfe (hp:PassesOwn (model X.prog X.w) X.A X.env X.xe)(hc:PT X c tc)(hb:PSs X body tb):PS X (.While c body [] pos) (ZiZ tc tb):=by
 intro As s U H D I h;obtain⟨W,⟨m0,w0⟩,turn⟩:=h;refine wpAny_While (codeAny_whileLoop (λn s'=>∃U' H',Inv X As U' H' s'/\W n U' H') ?_ m0 ⟨U,H,I,w0⟩);rintro n s1 ⟨U1,H1,I1,w1⟩;refine YCs hp (thn (hc As s1 U1 H1 _ I1 (turn n U1 H1 w1)) λb s2 zz=>?_);obtain⟨H2,I2,q2⟩:=zz;cases b with
 | true=>
  obtain⟨N,hN,q2⟩:=q2;rw[YAS rfl];refine YCs hp (thn (hb As s2 U1 H2 _ I2 q2) λf s3 q3=>?_);cases f with
  | next=>
   obtain⟨U3,H3,I3,n3⟩:=q3;obtain⟨m',hm,w3⟩:=hN U3 H3 n3;exact⟨m',hm,U3,H3,I3,w3⟩
  | cont=>
   obtain⟨U3,H3,I3,n3⟩:=q3;obtain⟨m',hm,w3⟩:=hN U3 H3 n3;exact⟨m',hm,U3,H3,I3,w3⟩
  | brk=>exact q3
  | ret v=>exact q3
 | false=>
  rw[YAL YAE];exact wpAny_execs_nil ⟨U1,H2,I2,q2⟩
end
structure It where
 go:Nat->Hp->Prop
 yld:Nat->Hp->V->Hp->Prop
 stop:Nat->Hp->Prop
def iN (X:Cx)(As:AB)(H:Hp)(b:AE):Prop:=
 H b=none/\b≠X.env.locals/\b∉X.fs/\(b∈X.ex\/X.s_0.heap.objs.size<=b)/\(∀x c,X.env.cells.lookup x=some c->c≠b)/\∀p∈X.pn++As,p.1≠b
def Inv.fpOk (I:Inv X As U H s)(hb:s.heap.objs.size<=b)(hn:H' b=none):iN X As H' b:=by
 refine⟨hn,Nat.ne_of_gt (YAy I.lt hb),I.nofs hb,.inr (YAP I.sz hb),λx c e z=>?_,λp hp z=>?_⟩
 .obtain⟨v,q⟩:=I.cell x c e;exact absurd (YAy q.lt (by rw[z];exact hb)) (YBM _)
 .exact absurd (YAy (YAR (I.pin p hp).1) (by rw[z];exact hb)) (YBM _)
structure jU (P:AH)(w:AJ)(K:Q4)(tg:Expr)(J:It)(fp:List AE)(it:AE)(tn:Nat->Heap->Prop):Prop where
 mem:it∈fp
 obj:∀i h,tn i h->∀b∈fp,∃o,h.get? b=some o/\∀v,o.data≠.cell v
 keep:∀i h h',tn i h->(∀b∈fp,∀o,h.get? b=some o->h'.get? b=some o)->tn i h'
 item:∀(X:Cx),X.prog=P->X.w=w->X.K=K->X.calm=true->∀(i:Nat) (As:AB) (s:AF) (U:St) (H:Hp) (E:Q33),Inv X As U H s->(∀b∈fp,iN X As H b)->tn i s.heap->J.go i H ->
  wpAny (model P w) X.A (pyNext (.ref it)) (λr s1=>∃u,r=some u /\
   wpAny (model P w) X.A (letOwnedTupleGo tg (.ref it) u) (λ_ s2=>∃x H',Inv X As U H' s2/\gC x u/\J.yld i H x H'/\tn (i+1) s2.heap/\∀b∈fp,H' b=none) E s1) E s
 done:∀(X:Cx),X.prog=P->X.w=w->X.K=K->X.calm=true->∀(i:Nat) (As:AB) (s:AF) (U:St) (H:Hp) (E:Q33),Inv X As U H s->(∀b∈fp,iN X As H b)->tn i s.heap->J.stop i H ->
  wpAny (model P w) X.A (pyNext (.ref it)) (λr s1=>r=none/\Inv X As U H s1) E s
 self:∀(A:AI) (i:Nat) (s:AF) (Q:Q33) (E:Q33),tn i s.heap->Q (.ref it) s->wpAny (model P w) A (pyIter (.ref it)) Q E s
abbrev TI:=St->Hp->(It->Hp->Prop)->Prop
def PIE (X:Cx)(As:AB)(U:St)(tg:Expr)(R:It->Hp->Prop)(itv:Value)(s2:AF):Prop:=
 ∃(it:AE) (fp:List AE) (tn:Nat->Heap->Prop) (J:It) (H':Hp),itv=.ref it/\Inv X As U H' s2/\jU X.prog X.w X.K tg J fp it tn/\tn 0 s2.heap/\(∀b∈fp,iN X As H' b)/\R J H'
def PI (X:Cx)(tg iter:Expr)(wi:TI):Prop:=
 ∀(As:AB) (s:AF) (U:St) (H:Hp) (R:It->Hp->Prop),Inv X As U H s->wi U H R ->
  wpAny (model X.prog X.w) X.A (eval iter X.env) (λv s1=>wpAny (model X.prog X.w) X.A (pyIter v) (PIE X As U tg R) X.xe s1) X.xe s
def Zny (ho:s.heap.get? it=some o)(hc:o.cls=.type n)(hd:o.data=.fields vs)
    (hn:["enumerate","zip","dict_itemiterator","dict_reverseitemiterator","odict_iterator","itertools.zip_longest","itertools.pairwise"].contains n=false) (hQ:Q () s):wpAny M A (letOwnedTupleGo tg (.ref it) u) Q E s:=by
  unfold letOwnedTupleGo;cases tg<;>first
    | exact YAC hQ
    | (cases u<;>first
        | exact YAC hQ
        | (refine YAA (wpAny_load ho ?_)
           rw[hc,hd];show wpAny M A (if (["enumerate","zip","dict_itemiterator","dict_reverseitemiterator","odict_iterator","itertools.zip_longest","itertools.pairwise"].contains n&&vs[0]? == some (rawInt _))=true then _ else _) Q E s;rw[YAL (by intro h;rw[hn,YBo]at h;cases h)];exact YAC hQ))
noncomputable def Itl (K:Q4)(a:AE):It:=
 ⟨λi H=>∃xs x,SqL K H a xs/\xs[i]?=some x,λi H x H'=>H'=H/\∀xs,SqL K H a xs->xs[i]?=some x,λi H=>∃xs,SqL K H a xs/\xs.length<=i⟩
noncomputable def Itt (K:Q4)(a:AE):It:=
 ⟨λi H=>∃xs x,SqT K H a xs/\xs[i]?=some x,λi H x H'=>H'=H/\∀xs,SqT K H a xs->xs[i]?=some x,λi H=>∃xs,SqT K H a xs/\xs.length<=i⟩
noncomputable def Itr (lo:Int)(n:Nat):It:=⟨λi _=>i<n,λi H x H'=>H'=H/\x=.int (lo+i),λi _=>n<=i⟩
def ZiU {P:AH}{w:AJ}{K:Q4}{tg:Expr}(a it:AE):jU P w K tg (Itl K a) [it] it (λi h=>h.IsListIter it a i) where
 mem:=by simp
 obj:=λi h st b hb=>by
  have e:b=it:=by simpa using hb
  subst e;obtain⟨o,e,c,d⟩:=st;exact⟨o,e,λv z=>by rw[d]at z;cases z⟩
 keep:=λi h h' st k=>st.at λo e=>k it (by simp) o e
 item:=by intro X hP hw hK hc i As s U H E I hf st hg;subst hP hw hK;obtain⟨xs,x,hq,hx⟩:=hg;obtain⟨its,rv,p,hz⟩:=I.list hq;obtain⟨u,hu,ru⟩:=rv.get hx;obtain⟨f0,f1,f2,f3,f4,f5⟩:=hf it (by simp);refine wpAny_pyNext_list_item st p.isList (x:=u) (~~~hu) λh' st' sb=>?_;have I1:Inv X As U H { s with heap:=h' }:=I.turned (t':=s.toks) (λb o hb e=>(sb.2 b hb).trans e) f0 f1 f3 f4 f5;obtain⟨o,e,c,d⟩:=id st';exact⟨u,rfl,Zny (s:={ s with heap:=h' }) e c d (by decide) ⟨x,H,I1,ru,⟨rfl,λys hy=>by rw[I.list_inj hy hq];exact hx⟩,st',λb hb=>(hf b hb).1⟩⟩
 done:=by intro X hP hw hK hc i As s U H E I hf st hg;subst hP hw hK;obtain⟨xs,hq,hx⟩:=hg;obtain⟨its,rv,p,hz⟩:=I.list hq;obtain⟨f0,f1,f2,f3,f4,f5⟩:=hf it (by simp);have hl:=rv.length;exact wpAny_pyNext_list_end (I.ok.hd hc) st p.isList (by simp;lia) λh' eb=>⟨rfl,I.turned (t':=s.toks) (λb o hb e=>eb b o hb e) f0 f1 f3 f4 f5⟩
 self:=λ_ _ _ _ _ st h=>wpAny_pyIter_listiter st h
def Zid {P:AH}{w:AJ}{K:Q4}{tg:Expr}(it:AE)(lo:Int)(n:Nat):jU P w K tg (Itr lo n) [it] it (λi h=>IsRangeIter h it (lo+(i:Nat)*1) ((n:Int)-(i:Nat)) 1) where
 mem:=by simp
 obj:=λi h st b hb=>by
  have e:b=it:=by simpa using hb
  subst e;exact⟨_,st,λv z=>by have z':Data.fields _=Data.cell v:=z;cases z'⟩
 keep:=λi h h' st k=>k it (by simp) _ st
 item:=by intro X hP hw hK hc i As s U H E I hf st hg;subst hP hw hK;obtain⟨f0,f1,f2,f3,f4,f5⟩:=hf it (by simp);have W:=Walks.range (prog:=X.prog) (w:=X.w) (I.ok.hd hc) it lo 1 n;refine W.item i s _ _ hg st λv h' tk hv st' kk=>?_;obtain⟨t,rfl⟩:=hv;have I1:Inv X As U H { s with heap:=h',toks:=tk }:=I.turned (λb o hb e=>kk b o (~~~hb) e) f0 f1 f3 f4 f5;refine⟨_,rfl,Zny (s:={ s with heap:=h',toks:=tk }) (n:="range_iterator") st' rfl rfl (by decide) ⟨.int (lo+i),H,I1,⟨t,?_⟩,⟨rfl,rfl⟩,st',λb hb=>(hf b hb).1⟩⟩;rw[Int.mul_one]
 done:=by intro X hP hw hK hc i As s U H E I hf st hg;subst hP hw hK;obtain⟨f0,f1,f2,f3,f4,f5⟩:=hf it (by simp);exact wpAny_pyNext_range_end (I.ok.hd hc) st (by have:n<=i:=hg;lia) λh' eb=>⟨rfl,I.turned (t':=s.toks) (λb o hb e=>eb b o hb e) f0 f1 f3 f4 f5⟩
 self:=λ_ _ _ _ _ st h=>wpAny_pyIter_rangeiter st h
section
def Znw (K:Q4)(tl:TE):TI:=λU H R=>tl U H λx H1=>∃a,x=.ref a/\(∃xs,SqL K H1 a xs)/\R (Itl K a) H1
def ZmW (hl:PE X l tl):PI X tg l (Znw X.K tl):=by
 intro As s U H R I h;refine thn (hl As s U H _ I h) λv s1 zz=>?_;obtain⟨x,H1,I1,r1,q1⟩:=zz;obtain⟨a,e,⟨xs,hq⟩,q⟩:=q1;subst e;cases r1;obtain⟨its,rv,p,hz⟩:=I1.list hq;refine YCx p.isList ?_;refine⟨s1.heap.objs.size,[s1.heap.objs.size],_,_,H1,rfl,I1.kept (t':=s1.toks) λb o e=>YAD _ e,ZiU a _,⟨_,YAU _ rfl,rfl,rfl⟩,λb hb=>?_,q⟩;have e:b=s1.heap.objs.size:=by simpa using hb
 subst e;exact I1.fpOk (YAT _) (I1.hok.fresh (YAT _))
def ZhE {As:AB}{U:St}{H:Hp}{s:AF}{R:It->Hp->Prop}{E:Q33}{lo hi:Int}{t u v:Tok}{tk:Nat}(I:Inv X As U H s)(h1:-(2 ^ 62)<=lo)(h2:lo<2 ^ 62)(h3:-(2 ^ 62)<=hi)(h4:hi<2 ^ 62)
  (q:R (Itr lo (hi-lo).toNat) H):wpAny (model X.prog X.w) X.A (pyIter (.ref s.heap.objs.size)) (PIE X As U tg R) E { s with heap:=s.heap.push { cls:=.type "range",data:=.fields #[.int lo t,.int hi u,.int 1 v] },toks:=tk }:=by
 refine wpAny_pyIter_range (IsRange.new ..) (small_one h1 h2 h3 h4) ?_;have I1:Inv X As U H { s with heap:=s.heap.push { cls:=.type "range",data:=.fields #[.int lo t,.int hi u,.int 1 v] },toks:=tk }:=I.kept λb o e=>YAD _ e;refine⟨(s.heap.push { cls:=.type "range",data:=.fields #[.int lo t,.int hi u,.int 1 v] }).objs.size,[(s.heap.push { cls:=.type "range",data:=.fields #[.int lo t,.int hi u,.int 1 v] }).objs.size],_,_,H,rfl,
  I1.kept (t':=tk) λb o e=>YAD _ e,Zid _ lo (hi-lo).toNat,?_,λb hb=>?_,q⟩
 .have e1:lo+((0:Nat):Int)*1=lo:=by simp
  have e2:(((hi-lo).toNat:Nat):Int)-((0:Nat):Int)=Builtin.Range.rangeSize lo hi 1:=by rw[rangeSize_one];split<;>lia
  show IsRangeIter _ _ (lo+((0:Nat):Int)*1) ((((hi-lo).toNat:Nat):Int)-((0:Nat):Int)) 1;rw[e1,e2];exact YAU _ rfl
 .have e:b=(s.heap.push { cls:=.type "range",data:=.fields #[.int lo t,.int hi u,.int 1 v] }).objs.size:=by simpa using hb
  subst e;exact I1.fpOk (YAT _) (I1.hok.fresh (YAT _))
def ZpL (ta:TA):TI:=λU H R=>ta U H λvs H1=>∃j:Int,vs=[.int j]/\-(2 ^ 62)<=j/\j<2 ^ 62/\R (Itr 0 j.toNat) H1
def ZpK (ta:TA):TI:=λU H R=>ta U H λvs H1=>∃i j:Int,vs=[.int i,.int j]/\(-(2 ^ 62)<=i/\i<2 ^ 62/\-(2 ^ 62)<=j/\j<2 ^ 62)/\R (Itr i (j-i).toNat) H1
def Zbw (hg:Gl X "range") (hm:X.mg "range"=none) (ha:PA X [a] ta) (hs:starEach [a] X.env=[(false,eval a X.env)]:=by rfl):PI X tg (.Call (.Name "range" p) [a] [] pos) (ZpL ta):=by
 intro As s U H R I h;refine Call_ (Zdw I hg hm boot_range (YCt (thn (ha pos As s U H _ I h) λus s1 zz=>?_) hs rfl));obtain⟨vs,H1,I1,r1,q1⟩:=zz;obtain⟨j,e,q1,q2,q⟩:=q1;subst e;cases r1 with
 | cons r rr=>
  cases rr;obtain⟨t,rfl⟩:=r;exact call_range_1 (ZhE I1 ∅ ∅ q1 q2 (~~~q))
def ZfV (hg:Gl X "range") (hm:X.mg "range"=none) (ha:PA X [a,b] ta) (hs:starEach [a,b] X.env=[(false,eval a X.env),(false,eval b X.env)]:=by rfl) (hs2:starEach [b] X.env=[(false,eval b X.env)]:=by rfl):
  PI X tg (.Call (.Name "range" p) [a,b] [] pos) (ZpK ta):=by
 intro As s U H R I h;refine Call_ (Zdw I hg hm boot_range (YCt (thn (ha pos As s U H _ I h) λus s1 ⟨vs,H1,I1,r1,q1⟩=>?_) (by rw[hs,hs2]) (by rw[hs2];rfl)));obtain⟨i,j,e,⟨q1,q2,q3,q4⟩,q⟩:=q1;subst e;cases r1 with
 | cons r rr=>
  cases rr with
  | cons r' rr=>
   cases rr;obtain⟨t,rfl⟩:=r;obtain⟨t',rfl⟩:=r';exact call_range_2 (ZhE I1 q1 q2 q3 q4 q)
def tFor (wi:TI)(g:TG)(tb:TS):TS:=λD U H=>wi U H λJ H1=>∃W:Nat->Nat->St->Hp->Prop,(∃m,W 0 m U H1)/\∀i m U H,W i m U H ->
 (J.stop i H/\D.nx U H)\/(J.go i H/\∃N:St->Hp->Prop,(∀U' H',N U' H'->∃m',m'<m/\W (i+1) m' U' H')/\∀x H',J.yld i H x H'->g x U H' λU2 H2=>tb { D with nx:=N,ct:=N,bk:=D.nx } U2 H2)
def ZfT (fp:List AE)(h:Heap):AB:=fp.filterMap λb=>(h.get? b).map λo=>(b,o)
def Zcz (hb:b∈fp)(e:h.get? b=some o):(b,o)∈ZfT fp h:=List.mem_filterMap.mpr ⟨b,hb,by rw[e];rfl⟩
def Zjv (hp:p∈ZfT fp h):p.1∈fp/\h.get? p.1=some p.2:=by
 obtain⟨b,hb,e⟩:=List.mem_filterMap.mp hp;cases q:h.get? b with
 | none=>rw[q]at e;cases e
 | some o=>
  rw[q]at e;have e':(b,o)=p:=Option.some.inj e;subst e';exact⟨hb,q⟩
def Inv.pinned (I:Inv X As U H s)(hf:∀b∈fp,iN X As H b)(ho:∀b∈fp,∃o,s.heap.get? b=some o/\∀v,o.data≠.cell v):Inv X (As++ZfT fp s.heap) U H s:=
 I.pins_of λp hp=>(YAW.mp hp).elim (λz=>I.pin p (YBU _ z)) λz=>by obtain⟨hb,e⟩:=Zjv z;obtain⟨f0,f1,f2,_⟩:=hf p.1 hb;obtain⟨o,e',d⟩:=ho p.1 hb;rw[e]at e';cases e';exact⟨e,f0,f1,f2,d⟩
def Inv.unpinned (I:Inv X (As++pl) U H s):Inv X As U H s:=I.pins_of λp hp=>I.pin p (YBU _ (List.mem_append_left _ hp))
def Zbv (hp:PassesOwn (model X.prog X.w) X.A X.env X.xe)(hc:X.calm=true)(hi:PI X tg iter wi)(hg:PG X tg g)(hb:PSs X body tb)
  (hs:∀x,foldedSetIterable iter X.env x=pure x:=by intro _;rfl):PS X (.For tg iter body [] pos) (tFor wi g tb):=by
 intro As s U H D I h;refine wpAny_For (thn (hi As s U H _ I h) λv s1 h1=>thn h1 λitv s2 h2=>?_) hs;obtain⟨it,fp,tn,J,H2,e,I2,T,st2,f2,W,⟨m0,w0⟩,turn⟩:=h2;subst e;have stat:∀ {H':Hp},(∀b∈fp,H' b=none)->∀b∈fp,iN X As H' b:=λhn b hb=>⟨hn b hb,(f2 b hb).2⟩;refine codeAny_forLoop_any (λn s'=>∃i U' H',Inv X As U' H' s'/\tn i s'.heap/\(∀b∈fp,H' b=none)/\W i n U' H') ?_ m0 ⟨0,U,H2,I2,st2,λb hb=>(f2 b hb).1,w0⟩;rintro n s3 ⟨i,U3,H3,I3,st3,fr3,w3⟩;rcases turn i n U3 H3 w3 with⟨stop,qn⟩|⟨go,N,hN,step⟩
 .refine YCs hp (thn (T.done X rfl rfl rfl hc i As s3 U3 H3 X.xe I3 (stat fr3) st3 stop) λr s4 zz=>?_);obtain⟨hr,I4⟩:=zz;subst hr;exact wpAny_execs_nil ⟨U3,H3,I4,qn⟩
 .refine YCs hp (thn (T.item X rfl rfl rfl hc i As s3 U3 H3 X.xe I3 (stat fr3) st3 go) λr s4 zz=>?_);obtain⟨u,hr,h4⟩:=zz;subst hr;refine YCs hp (thn h4 λ_ s5 zz=>?_);obtain⟨x,H5,I5,r5,y5,st5,fr5⟩:=zz;have I5':=I5.pinned (stat fr5) (T.obj _ _ st5);refine YCs hp (thn (hg _ s5 U3 H5 x u _ I5' r5 (step x H5 y5)) λ_ s6 zz=>?_);obtain⟨U6,H6,I6,q6⟩:=zz;refine YCs hp (thn (hb _ s6 U6 H6 _ I6 q6) λf s7 q7=>?_);have again:∀ {U7:St} {H7:Hp},Inv X (As++ZfT fp s5.heap) U7 H7 s7->N U7 H7->∃m,m<n/\∃i U' H',Inv X As U' H' s7/\tn i s7.heap/\(∀b∈fp,H' b=none)/\W i m U' H':=λ{U7 H7} I7 n7=>by obtain⟨m',hm,w7⟩:=hN U7 H7 n7;refine⟨m',hm,i+1,U7,H7,I7.unpinned,T.keep _ _ _ st5 λb hb o e=>(I7.pin (b,o) (YBU _ (YBU _ (Zcz hb e)))).1,λb hb=>?_,w7⟩;obtain⟨o,e,d⟩:=T.obj _ _ st5 b hb;exact(I7.pin (b,o) (YBU _ (YBU _ (Zcz hb e)))).2.1
  cases f with
  | next=>obtain⟨U7,H7,I7,n7⟩:=q7;exact again I7 n7
  | cont=>obtain⟨U7,H7,I7,n7⟩:=q7;exact again I7 n7
  | brk=>obtain⟨U7,H7,I7,q7⟩:=q7;exact⟨U7,H7,I7.unpinned,q7⟩
  | ret v=>obtain⟨x7,U7,H7,I7,r7,q7⟩:=q7;exact⟨x7,U7,H7,I7.unpinned,r7,q7⟩
end
def Zlu {K:Q4}{a:AE}{xs:List V}{g:TG}{tb:TS}{D:iM}{U:St}{H:Hp}(Pv:Nat->St->Hp->Prop)(h0:Pv 0 U H)(hl:∀i U H,i<=xs.length->Pv i U H->SqL K H a xs)
  (hs:∀i x U H,xs[i]?=some x->Pv i U H->g x U H λU2 H2=>tb { D with nx:=Pv (i+1),ct:=Pv (i+1),bk:=D.nx } U2 H2) (hd:∀U H,Pv xs.length U H->D.nx U H):
  ∃W:Nat->Nat->St->Hp->Prop,(∃m,W 0 m U H)/\∀i m U H,W i m U H ->
   ((Itl K a).stop i H/\D.nx U H)\/((Itl K a).go i H/\∃N:St->Hp->Prop,(∀U' H',N U' H'->∃m',m'<m/\W (i+1) m' U' H')/\∀x H',(Itl K a).yld i H x H'->g x U H' λU2 H2=>tb { D with nx:=N,ct:=N,bk:=D.nx } U2 H2):=by
 refine⟨λi m U H=>m=xs.length-i/\i<=xs.length/\Pv i U H,⟨xs.length,by simp,YBC _,h0⟩,?_⟩;rintro i m U H ⟨rfl,hi,p⟩;have q:=hl i U H hi p;by_cases A4:i<xs.length
 .refine .inr ⟨⟨xs,xs[i],q,by simp[A4]⟩,Pv (i+1),λU' H' p'=>⟨xs.length-(i+1),∅,rfl,A4,p'⟩,λx H' y=>?_⟩;obtain⟨e,y⟩:=y;subst e;exact hs i x U _ (y xs q) p
 .have e:i=xs.length:=by lia
  subst e;exact .inl ⟨⟨xs,q,YAT _⟩,hd U H p⟩
def Zj2 {lo:Int}{n:Nat}{g:TG}{tb:TS}{D:iM}{U:St}{H:Hp}(Pv:Nat->St->Hp->Prop)(h0:Pv 0 U H)
  (hs:∀i U H,i<n->Pv i U H->g (.int (lo+i)) U H λU2 H2=>tb { D with nx:=Pv (i+1),ct:=Pv (i+1),bk:=D.nx } U2 H2) (hd:∀U H,Pv n U H->D.nx U H):
  ∃W:Nat->Nat->St->Hp->Prop,(∃m,W 0 m U H)/\∀i m U H,W i m U H ->
   ((Itr lo n).stop i H/\D.nx U H)\/((Itr lo n).go i H/\∃N:St->Hp->Prop,(∀U' H',N U' H'->∃m',m'<m/\W (i+1) m' U' H')/\∀x H',(Itr lo n).yld i H x H'->g x U H' λU2 H2=>tb { D with nx:=N,ct:=N,bk:=D.nx } U2 H2):=by
 refine⟨λi m U H=>m=n-i/\i<=n/\Pv i U H,⟨n,by simp,YBC _,h0⟩,?_⟩;rintro i m U H ⟨rfl,hi,p⟩;by_cases A4:i<n
 .refine .inr ⟨A4,Pv (i+1),λU' H' p'=>⟨n-(i+1),∅,rfl,A4,p'⟩,λx H' y=>?_⟩;obtain⟨e,y⟩:=y;subst e y;exact hs i U _ A4 p
 .have e:i=n:=by lia
  subst e;exact .inl ⟨YAT _,hd U H p⟩
abbrev R2:=V->V->Hp->VK->Prop
def OpR (X:Cx)(f:Value->Value->Sem Value)(r:R2):Prop:=
 ∀(As:AB) (s:AF) (U:St) (H:Hp) (x y:V) (v u:Value) (Q:VK),Inv X As U H s->gC x v->gC y u->r x y H Q ->
  wpAny (model X.prog X.w) X.A (f v u) (EP X As U Q) X.xe s
def UnR (X:Cx)(f:Value->Sem Value)(r:V->Hp->VK->Prop):Prop:=
 ∀(As:AB) (s:AF) (U:St) (H:Hp) (x:V) (v:Value) (Q:VK),Inv X As U H s->gC x v->r x H Q ->
  wpAny (model X.prog X.w) X.A (f v) (EP X As U Q) X.xe s
def ZcG (X:Cx)(f:Value)(r:List V->Hp->VK->Prop):Prop:=
 ∀(As:AB) (s:AF) (U:St) (H:Hp) (xs:List V) (us:AD) (Q:VK),Inv X As U H s->gs xs us->r xs H Q ->
  wpAny (model X.prog X.w) X.A (call f us) (EP X As U Q) X.xe s
def tOp (r:R2)(ta tb:TE):TE:=λU H Q=>ta U H λx H1=>tb U H1 λy H2=>r x y H2 Q
def tUn (r:V->Hp->VK->Prop)(ta:TE):TE:=λU H Q=>ta U H λx H1=>r x H1 Q
def rI (C:Int->Int->Prop)(g:Int->Int->V):R2:=λx y H Q=>∃i j,x=.int i/\y=.int j/\C i j/\Q (g i j) H
def rI0 (g:Int->Int->V):R2:=λx y H Q=>∃i j,x=.int i/\y=.int j/\Q (g i j) H
def rU (g:Int->V):V->Hp->VK->Prop:=λx H Q=>∃i,x=.int i/\Q (g i) H
section
def kR (ha:PE X a ta)(hb:PE X b tb){As:AB}{s:AF}{U:St}{H:Hp}{R:V->V->Hp->Prop}(I:Inv X As U H s)
  (h:ta U H λx H1=>tb U H1 λy H2=>R x y H2) {Q:Q33} {f:Value->Value->Sem Value}
  (hf:∀v u s2 x y H2,Inv X As U H2 s2->gC x v->gC y u->R x y H2->wpAny (model X.prog X.w) X.A (f v u) Q X.xe s2):
  wpAny (model X.prog X.w) X.A (eval a X.env) (λv s_1=>wpAny (model X.prog X.w) X.A (eval b X.env) (λu s_2=>wpAny (model X.prog X.w) X.A (f v u) Q X.xe s_2) X.xe s_1) X.xe s:=by
 refine thn (ha As s U H _ I h) λv s1 zz=>?_;obtain⟨x,H1,I1,r1,q1⟩:=zz;refine thn (hb As s1 U H1 _ I1 q1) λu s2 zz=>?_;obtain⟨y,H2,I2,r2,q2⟩:=zz;exact hf v u s2 x y H2 I2 r1 r2 q2
def Zar (ho:OpR X (binaryOp op) r)(ha:PE X a ta)(hb:PE X b tb):PE X (.BinOp a op b pos) (tOp r ta tb):=by intro As s U H Q I h;exact wpAny_BinOp (kR ha hb I h λv u s2 x y H2 I2 rx ry q=>ho As s2 U H2 x y v u Q I2 rx ry q)
def ZmZ (ho:UnR X (unaryOp op) r)(ha:PE X a ta):PE X (.UnaryOp op a pos) (tUn r ta):=by intro As s U H Q I h;exact UnaryOp_ (thn (ha As s U H _ I h) λv s1 ⟨x,H1,I1,r1,q1⟩=>ho As s1 U H1 x v Q I1 r1 q1)
def opI {f:Value->Value->Sem Value}{C:Int->Int->Prop}{g:Int->Int->Int}
  (rule:∀(i j:Int) (t u:Tok) (s:AF) (Q:Q33) (E:Q33),C i j->Q (.int (g i j) s.toks) { s with toks:=s.toks+1 }->wpAny (model X.prog X.w) X.A (f (.int i t) (.int j u)) Q E s):
  OpR X f (rI C λi j=>.int (g i j)):=by
 intro As s U H x y v u Q I rx ry h;obtain⟨i,j,rfl,rfl,hc,q⟩:=h;obtain⟨t,rfl⟩:=rx;obtain⟨t',rfl⟩:=ry;exact rule i j t t' s _ _ hc ⟨.int (g i j),H,I.tok _,⟨_,rfl⟩,q⟩
def opI0 {f:Value->Value->Sem Value}{g:Int->Int->Int}
  (rule:∀(i j:Int) (t u:Tok) (s:AF) (Q:Q33) (E:Q33),Q (.int (g i j) s.toks) { s with toks:=s.toks+1 }->wpAny (model X.prog X.w) X.A (f (.int i t) (.int j u)) Q E s):
  OpR X f (rI0 λi j=>.int (g i j)):=by
 intro As s U H x y v u Q I rx ry h;obtain⟨i,j,rfl,rfl,q⟩:=h;obtain⟨t,rfl⟩:=rx;obtain⟨t',rfl⟩:=ry;exact rule i j t t' s _ _ ⟨.int (g i j),H,I.tok _,⟨_,rfl⟩,q⟩
def kz {f:Value->Value->Sem Value}{g:Int->Int->Bool}
  (rule:∀(i j:Int) (t u:Tok) (s:AF) (Q:Q33) (E:Q33),Q (.bool (g i j)) s->wpAny (model X.prog X.w) X.A (f (.int i t) (.int j u)) Q E s):
  OpR X f (rI0 λi j=>.bl (g i j)):=by
 intro As s U H x y v u Q I rx ry h;obtain⟨i,j,rfl,rfl,q⟩:=h;obtain⟨t,rfl⟩:=rx;obtain⟨t',rfl⟩:=ry;exact rule i j t t' s _ _ ⟨.bl (g i j),H,I,rfl,q⟩
def CDiv (i j:Int):Prop:=0<j/\j<1073741824
def CPow (i j:Int):Prop:=0<=j/\j<=1000000/\i.natAbs<2 ^ 64
def kh (i j:Int):Prop:=(-(2 ^ 64)<i/\i<2 ^ 64)\/(-(2 ^ 64)<j/\j<2 ^ 64)
def kh.ok (h:kh i j):IntMulOk i j:=by
 rcases h with⟨h1,h2⟩|⟨h1,h2⟩
 .exact .of_left (intBits_le_64 h1 h2)
 .exact .of_right (intBits_le_64 h1 h2)
def ZaT:OpR X (binaryOp .Add) (rI0 λi j=>.int (i+j)):=opI0 λ_ _ _ _ _ _ _ q=>add_int q
def ZhK:OpR X (binaryOp .Sub) (rI0 λi j=>.int (i-j)):=opI0 λ_ _ _ _ _ _ _ q=>sub_int q
def ZcW:OpR X (binaryOp .Mult) (rI kh λi j=>.int (i*j)):=opI λ_ _ _ _ _ _ _ hc q=>mul_int q hc.ok
def Za6:OpR X (binaryOp .FloorDiv) (rI CDiv λi j=>.int (i/j)):=opI λi j _ _ _ _ _ hc q=>by have h1:(0:Int)<j:=hc.1;have h2:j<1073741824:=hc.2;exact floordiv_int ∅ (by rw[Int.fdiv_eq_ediv_of_nonneg i ∅];exact q) (.inl (PyProof.noPylong_small ∅))
def Za2:OpR X (binaryOp .Mod) (rI (λ_ j=>0<j) λi j=>.int (i % j)):=opI λi j _ _ _ _ _ hc q=>by have h1:(0:Int)<j:=hc;exact mod_int' ∅ (by rw[Int.fmod_eq_emod_of_nonneg i ∅];exact q)
def ZoS:OpR X (binaryOp .Pow) (rI CPow λi j=>.int (i ^ j.toNat)):=opI λ_ _ _ _ _ _ _ hc q=>pow_int_small hc.1 hc.2.1 hc.2.2 q
def unI {f:Value->Sem Value}{g:Int->Int}
  (rule:∀(i:Int) (t:Tok) (s:AF) (Q:Q33) (E:Q33),Q (.int (g i) s.toks) { s with toks:=s.toks+1 }->wpAny (model X.prog X.w) X.A (f (.int i t)) Q E s):
  UnR X f (rU λi=>.int (g i)):=by
 intro As s U H x v Q I rx h;obtain⟨i,rfl,q⟩:=h;obtain⟨t,rfl⟩:=rx;exact rule i t s _ _ ⟨.int (g i),H,I.tok _,⟨_,rfl⟩,q⟩
def ZiP:UnR X (unaryOp .USub) (rU λi=>.int (-i)):=unI λ_ _ _ _ _ q=>neg_int q
end
noncomputable def mT:V->V->Bool
 | .non,.non=>true | .non,.int _=>true | .int _,.non=>true | .non,.bl _=>true | .bl _,.non=>true | .non,.str _=>true | .str _,.non=>true
 | .int _,.int _=>true | .bl _,.bl _=>true | .str _,.str _=>true | .byt _,.byt _=>true
 | .int _,.str _=>true | .str _,.int _=>true | .bl _,.str _=>true | .str _,.bl _=>true
 | _,_=>false
def rEq:R2:=λx y H Q=>mT x y=true/\Q (.bl (decide (x=y))) H
def rNe:R2:=λx y H Q=>mT x y=true/\Q (.bl (!decide (x=y))) H
def Zkd:decide (V.int i=V.int j)=(i == j):=by rw[YBS];simp
def Zmn:decide (V.bl i=V.bl j)=(i == j):=by rw[YBS];simp
def Zkc:decide (V.str i=V.str j)=(i == j):=by rw[YBS];simp
def Zke:decide (V.byt i=V.byt j)=(i.toList == j.toList):=by rw[YBS];cases i;cases j;simp
section
def ZaU (I:Inv X As U H s)(q:Q (.bl k) H)(e:k=k'):EP X As U Q (.bool k') s:=by subst e;exact⟨.bl k,H,I,rfl,q⟩
def Zq6:OpR X (compareOp .Eq) rEq:=by
 intro As s U H x y v u Q I rx ry h;obtain⟨hs,q⟩:=h;cases x with
 | non=>
  cases rx;cases y with
  | non=>cases ry;exact PySem.EqNone.eq_none_none (ZaU I q (by simp))
  | bl j=>cases ry;exact PySem.EqNone.eq_none_bool (ZaU I q (by simp))
  | int j=>obtain⟨t',rfl⟩:=ry;exact PySem.EqNone.eq_none_int (ZaU I q (by simp))
  | str j=>obtain⟨t',rfl⟩:=ry;exact PySem.EqNone.eq_none_str (ZaU I q (by simp))
  | _=>exact absurd (show false=true from hs) YAE
 | bl i=>
  cases rx;cases y with
  | non=>cases ry;exact PySem.EqNone.eq_bool_none (ZaU I q (by simp))
  | bl j=>cases ry;exact eq_bool (ZaU I q Zmn)
  | str j=>obtain⟨t',rfl⟩:=ry;exact PySem.EqMixed.eq_bool_str (ZaU I q (by simp))
  | _=>exact absurd (show false=true from hs) YAE
 | int i=>
  obtain⟨t,rfl⟩:=rx;cases y with
  | non=>cases ry;exact PySem.EqNone.eq_int_none (ZaU I q (by simp))
  | int j=>obtain⟨t',rfl⟩:=ry;exact eq_int (ZaU I q Zkd)
  | str j=>obtain⟨t',rfl⟩:=ry;exact PySem.EqMixed.eq_int_str (ZaU I q (by simp))
  | _=>exact absurd (show false=true from hs) YAE
 | str i=>
  obtain⟨t,rfl⟩:=rx;cases y with
  | non=>cases ry;exact PySem.EqNone.eq_str_none (ZaU I q (by simp))
  | bl j=>cases ry;exact PySem.EqMixed.eq_str_bool (ZaU I q (by simp))
  | int j=>obtain⟨t',rfl⟩:=ry;exact PySem.EqMixed.eq_str_int (ZaU I q (by simp))
  | str j=>obtain⟨t',rfl⟩:=ry;exact eq_str (ZaU I q Zkc)
  | _=>exact absurd (show false=true from hs) YAE
 | byt i=>
  obtain⟨t,rfl⟩:=rx;cases y with
  | byt j=>obtain⟨t',rfl⟩:=ry;exact PySem.W.eq_bytes (ZaU I q Zke)
  | _=>exact absurd (show false=true from hs) YAE
 | _=>cases y<;>exact absurd (show false=true from hs) YAE
def Zq4:OpR X (compareOp .NotEq) rNe:=by
 intro As s U H x y v u Q I rx ry h;obtain⟨hs,q⟩:=h;cases x with
 | non=>
  cases rx;cases y with
  | non=>cases ry;exact PySem.EqNone.ne_none_none (ZaU I q (by simp))
  | bl j=>cases ry;exact PySem.EqNone.ne_none_bool (ZaU I q (by simp))
  | int j=>obtain⟨t',rfl⟩:=ry;exact PySem.EqNone.ne_none_int (ZaU I q (by simp))
  | str j=>obtain⟨t',rfl⟩:=ry;exact PySem.EqNone.ne_none_str (ZaU I q (by simp))
  | _=>exact absurd (show false=true from hs) YAE
 | bl i=>
  cases rx;cases y with
  | non=>cases ry;exact PySem.EqNone.ne_bool_none (ZaU I q (by simp))
  | bl j=>cases ry;exact ne_bool (ZaU I q (congrArg not Zmn))
  | str j=>obtain⟨t',rfl⟩:=ry;exact PySem.EqMixed.ne_bool_str (ZaU I q (by simp))
  | _=>exact absurd (show false=true from hs) YAE
 | int i=>
  obtain⟨t,rfl⟩:=rx;cases y with
  | non=>cases ry;exact PySem.EqNone.ne_int_none (ZaU I q (by simp))
  | int j=>obtain⟨t',rfl⟩:=ry;exact ne_int (ZaU I q (congrArg not Zkd))
  | str j=>obtain⟨t',rfl⟩:=ry;exact PySem.EqMixed.ne_int_str (ZaU I q (by simp))
  | _=>exact absurd (show false=true from hs) YAE
 | str i=>
  obtain⟨t,rfl⟩:=rx;cases y with
  | non=>cases ry;exact PySem.EqNone.ne_str_none (ZaU I q (by simp))
  | bl j=>cases ry;exact PySem.EqMixed.ne_str_bool (ZaU I q (by simp))
  | int j=>obtain⟨t',rfl⟩:=ry;exact PySem.EqMixed.ne_str_int (ZaU I q (by simp))
  | str j=>obtain⟨t',rfl⟩:=ry;exact ne_str (ZaU I q (congrArg not Zkc))
  | _=>exact absurd (show false=true from hs) YAE
 | byt i=>
  obtain⟨t,rfl⟩:=rx;cases y with
  | byt j=>obtain⟨t',rfl⟩:=ry;exact PySem.W.ne_bytes (ZaU I q (congrArg not Zke))
  | _=>exact absurd (show false=true from hs) YAE
 | _=>cases y<;>exact absurd (show false=true from hs) YAE
def Zm2:OpR X (compareOp .Lt) (rI0 λi j=>.bl (decide (i<j))):=kz λ_ _ _ _ _ _ _ q=>lt_int q
def Zm3:OpR X (compareOp .LtE) (rI0 λi j=>.bl (decide (i<=j))):=kz λ_ _ _ _ _ _ _ q=>le_int q
def Zk1:OpR X (compareOp .Gt) (rI0 λi j=>.bl (decide (j<i))):=kz λ_ _ _ _ _ _ _ q=>gt_int q
def Zq5:OpR X (compareOp .GtE) (rI0 λi j=>.bl (decide (j<=i))):=kz λ_ _ _ _ _ _ _ q=>ge_int q
def ZfZ:OpR X (compareOp .In) (λx y H Q=>∃i j,x=.str i/\y=.str j/\Q (.bl (!(Builtin.Str.occurrences j i 0 j.length 1).isEmpty)) H):=by intro As s U H x y v u Q I rx ry h;obtain⟨i,j,rfl,rfl,q⟩:=h;obtain⟨t,rfl⟩:=rx;obtain⟨t',rfl⟩:=ry;exact in_str (ZaU I q rfl)
def ZfX:OpR X (compareOp .NotIn) (λx y H Q=>∃i j,x=.str i/\y=.str j/\Q (.bl (!(!(Builtin.Str.occurrences j i 0 j.length 1).isEmpty))) H):=by intro As s U H x y v u Q I rx ry h;obtain⟨i,j,rfl,rfl,q⟩:=h;obtain⟨t,rfl⟩:=rx;obtain⟨t',rfl⟩:=ry;exact notIn_str (ZaU I q rfl)
def ZaJ (b:Expr){op:CmpOp}(h:op≠.In:=by decide)(h2:op≠.NotIn:=by decide):behindInMarks op b=false:=by
 have e1:(op == CmpOp.In)=false:=by cases op<;>first | rfl | exact absurd rfl h
 have e2:(op == CmpOp.NotIn)=false:=by cases op<;>first | rfl | exact absurd rfl h2
 cases b<;>simp[behindInMarks,e1,e2]
def ZbE (ho:OpR X (compareOp op) r)(ha:PE X a ta)(hb:PE X b tb)(hm:behindInMarks op b=false):PE X (.Compare a [op] [b] pos) (tOp r ta tb):=by intro As s U H Q I h;exact wpAny_Compare1 (kR ha hb I h λv u s2 x y H2 I2 rx ry q=>ho As s2 U H2 x y v u Q I2 rx ry q) hm
def ZmD (t:TE):TT:=λU H Q=>t U H λx H'=>∃k,x=.bl k/\Q k H'
def ZaB (ho:OpR X (compareOp op) r)(ha:PE X a ta)(hb:PE X b tb)(hm:behindInMarks op b=false):PT X (.Compare a [op] [b] pos) (ZmD (tOp r ta tb)):=by
 intro As s U H Q I h;refine wpAny_isTrue_Compare1 (thn (ha As s U H _ I h) λv s1 ⟨x,H1,I1,r1,q1⟩=>thn (hb As s1 U H1 _ I1 q1) λu s2 ⟨y,H2,I2,r2,q2⟩=>
  thn (ho As s2 U H2 x y v u _ I2 r1 r2 q2) λc s3 ⟨z,H3,I3,r3,k,e,q3⟩=>?_) hm
 subst e;cases r3;exact YCv ⟨H3,I3,q3⟩
def ZhR:(sizeLine:Nat)<2 ^ 63:=by rw[sizeLine_eq];decide
def Zio:OpR X (binaryOp .Add) (λx y H Q=>∃i j,x=.str i/\y=.str j/\i.length+j.length<=sizeLine/\Q (.str (i++j)) H):=by intro As s U H x y v u Q I rx ry h;obtain⟨i,j,rfl,rfl,hz,q⟩:=h;obtain⟨t,rfl⟩:=rx;obtain⟨t',rfl⟩:=ry;exact add_str (λt' tk=>⟨.str (i++j),H,I.tok _,⟨_,rfl⟩,q⟩) hz
def kC (r:gs [x] us):∃u,us=[u]/\gC x u:=by
 cases r with
 | cons r1 r2=>cases r2;exact⟨_,rfl,r1⟩
def nJ (r:gs [x,y] us):∃u w',us=[u,w']/\gC x u/\gC y w':=by
 cases r with
 | cons r1 r2=>
  cases r2 with
  | cons r3 r4=>cases r4;exact⟨_,_,rfl,r1,r3⟩
def Zkp (hc:X.calm=true):ZcG X (.builtin "max") (λxs H Q=>∃i j,xs=[.int i,.int j]/\Q (.int (if j>i then j else i)) H):=by
 intro As s U H xs us Q I r h;obtain⟨i,j,rfl,q⟩:=h;obtain⟨u,w',rfl,⟨t,rfl⟩,⟨t',rfl⟩⟩:=nJ r;refine max_two_ints (I.ok.hd hc) λh' tk k=>⟨_,H,I.kept k,?_,q⟩;by_cases hj:j>i
 .rw[YAS hj,YAS hj];exact⟨_,rfl⟩
 .rw[YAL hj,YAL hj];exact⟨_,rfl⟩
def kG (K:Q4)(x:V)(H:Hp)(n:Nat):Prop:=
 match x with
 | .str y=>y.length<=sizeLine/\n=y.length
 | .byt y=>y.size<=sizeLine/\n=y.size
 | .ref p=>(∃xs,SqL K H p xs/\n=xs.length)\/∃xs,SqT K H p xs/\n=xs.length
 | _=>False
def ZlK:ZcG X (.builtin "len") (λxs H Q=>∃x n,xs=[x]/\kG X.K x H n/\Q (.int n) H):=by
 intro As s U H xs us Q I r h;obtain⟨x,n,rfl,e,q⟩:=h;obtain⟨u,rfl,rx⟩:=kC r;have hl:=ZhR;have hs:sizeLine=16777216:=sizeLine_eq;cases x with
 | str y=>
  obtain⟨t,rfl⟩:=rx;obtain⟨hy,e'⟩:y.length<=sizeLine/\n=y.length:=e;subst e';exact len_str ∅ ⟨.int _,H,I.tok _,⟨_,rfl⟩,q⟩
 | byt y=>
  obtain⟨t,rfl⟩:=rx;obtain⟨hy,e'⟩:y.size<=sizeLine/\n=y.size:=e;subst e';exact PySem.W.len_bytes ∅ ⟨.int _,H,I.tok _,⟨_,rfl⟩,q⟩
 | ref p=>
  cases rx;have e':(∃xs,SqL X.K H p xs/\n=xs.length)\/∃xs,SqT X.K H p xs/\n=xs.length:=e;rcases e' with⟨xs,hx,e'⟩|⟨xs,hx,e'⟩
  .subst e';obtain⟨its,r',pl,hz⟩:=I.list hx;have Av:=r'.length;exact Calls.call_len_list pl.isList (by simp only[YAM];lia) ⟨.int xs.length,H,I.tok _,⟨_,by simp only[YAM];rw[Av]⟩,q⟩
  .subst e';obtain⟨its,r',pl,hz⟩:=I.tuple hx;have Av:=r'.length;exact len_tuple pl (by simp only[YAM];lia) ⟨.int xs.length,H,I.tok _,⟨_,by simp only[YAM];rw[Av]⟩,q⟩
 | _=>exact(show False from e).elim
end
structure jN (h:Heap)(x dx C:AE)(mA:AC):Prop where
 obj:h.get? x=some (instObj C dx)
 ns:h.Ns1 dx mA
 ne:dx≠x
def Zea {h:Heap}{dx:AE}{mA:AC}(n:h.Ns1 dx mA):∃od,h.get? dx=some od/\∀name,lookIn name od=some (mA name):=by
 obtain⟨o,es,ep,ho,hd,hk,_,hm⟩:=n;refine⟨o,ho,λname=>?_⟩;have e:=hm name;unfold nsFind findBy at e;rw[<-Array.find?_toList]at e;unfold lookIn;rw[hd];dsimp only;split
 .rename_i y q
  rw[q]at e;exact congrArg some e
 .rename_i q
  rw[q]at e;have a:es.toList.any (·.refKey)=false:=by rw[List.any_eq_false];intro y hy;obtain⟨z,t,hkey⟩:=hk y (Array.mem_toList_iff.mp hy);simp[DictEntry.refKey,hkey]
  have a':¬es.toList.any (·.refKey)=true:=by rw[a];exact YAE
  rw[YAL a'];exact congrArg some e
def jN.look (I:jN h x dx C mA):∃od,PySem.W.InstAt h x (instObj C dx) C (some od)/\∀name,lookIn name od=some (mA name):=
 let ⟨od,ho,hl⟩:=Zea I.ns
 ⟨od,⟨I.obj,rfl,rfl,ho⟩,hl⟩
section
variable {prog:AH}{w:AJ}{A:AI}{E:Q33}{s:AF}{K:Q4}{x dx C f:AE}{mA:AC}{name:Str}{v:Value}
def Znz (X:K.In s.heap)(I:jN s.heap x dx C mA)(hg:plainGet K C name=true)(hh:hasDictIn K C=true)
  (ha:findIn K (.ref C) name=some none) (hv:mA name=some v) (hv':handedIn v=true) (h:Q v { s with toks:=s.toks+1 }):
  wpAny (model prog w) A (getAttr (.ref x) name expr) Q E s:=by
 obtain⟨od,J,hl⟩:=I.look;exact PySem.W.get_value X J (plainGet_of hg).1 (PySem.W.findObj_own hh ha rfl (by rw[hl,hv])) hv' h
def Zlq (X:K.In s.heap)(I:jN s.heap x dx C mA)(hg:plainGet K C name=true)
  (hf:findIn K (.ref C) name=some (some (.ref f))) (ht:isFn K (.ref f)=true) (hv:mA name=none) (h:Q (.ref f,[.ref x]) s):
  wpAny (model prog w) A (getMethod (.ref x) name pl) Q E s:=by
 obtain⟨od,J,hl⟩:=I.look;exact PySem.W.method_fn X J (plainGet_of hg).1 (plainGet_of hg).2 hf (beq_iff_eq.mp ht) (by show (lookIn name od).map (·.isSome)=some false;rw[hl,hv];rfl) h
def ZmL (X:K.In s.heap)(I:jN s.heap x dx C mA)
  (hs:findIn K (.ref C) "__setattr__"=some (some (.builtin "object.__setattr__"))) (hp:plainOver K C=true) (ht:takerIn K C name=some none) (hh:hasDictIn K C=true)
  (hw:PySem.Within mA ns) (hsz:ns.length<=sizeLine)
  (h:∀h',jN h' x dx C (λy=>if y=name then some v else mA y)->Heap.SameBut dx s.heap h'->Q () { s with heap:=h',toks:=s.toks+2 }):
  wpAny (model prog w) A (setAttr (.ref x) name v) Q E s:=by
 obtain⟨od,J,hl⟩:=I.look;refine PySem.W.set_plain X J hs (PySem.W.osa_open (s:={ s with toks:=s.toks+1 }) (r:=none) X J hp ht λb=>?_);obtain⟨cd,hc,hd'⟩:=any_some hh;have hx:s.heap.get? x=some ⟨.ref C,some dx,.plain,#[]⟩:=I.obj;refine YAA (YAC (YAA (YAA (wpAny_loadPart hx (YAA (PySem.W.Looks.here (s:={ s with toks:=s.toks+1 }) (PySem.W.looks_clsIn X hc) ?_))))));rw[hd'];refine YAC (a:=some dx) (YAA (YAC (YAA ?_)));refine wpAny_nsSet1 (s:={ s with toks:=s.toks+1 }) I.ns λh' hn2 hs2=>?_;obtain⟨oD,esD,epD,hoD,hdD,hcD⟩:=hn2.count (PySem.Within.cons name v hw);refine YAA (wpAny_lookBehind hoD (by rw[hdD];exact pastItsLine_dict (YAP hcD (by rw[YAf];lia))) ?_);exact YAC (h _ ⟨(hs2.2 _ (YBW I.ne)).trans I.obj,hn2,I.ne⟩ hs2)
def Zlb (X:K.In s.heap)(hm:makesIn K C=true)
  (hi:findIn K (.ref C) "__init__"=some (some (.ref f))) (hf:typeIn K (.ref f)=some (.type "function"))
  (h:codeAny (model prog w) (A.under (.builtin "type.__call__" ⟨.ref C::vs,kw⟩)) (.call (.ref f) ⟨.ref (s.heap.objs.size+1)::vs,kw⟩) (PySem.W.InitBack (s.heap.objs.size+1) R)
   { s with heap:=(s.heap.push emptyDict).push (instObj C s.heap.objs.size) }):
  codeAny (model prog w) A (.call (.ref C) ⟨vs,kw⟩) R s:=by
 obtain⟨hh,g,d,t,os⟩:=s;exact PySem.W.make_core (PySem.W.makes_of X hm) (looks_findIn X hi) (λself=>PySem.W.bind_fn X self hf) (.inl rfl) h
end
noncomputable def gM (f:Str)(v:V):List (Str×V)->List (Str×V)
 | []=>[(f,v)]
 | (g,x)::r=>if g=f then (g,v)::r else (g,x)::gM f v r
theorem Zau (f g:Str)(v:V):∀fs:List (Str×V),(gM f v fs).lookup g=if g=f then some v else fs.lookup g
 | []=>by
  show List.lookup g [(f,v)]=_;by_cases h:g=f
  .have hb:(g == f)=true:=beq_iff_eq.mpr h;simp only[List.lookup,hb,YAS h]
  .have hb:(g == f)=false:=beq_eq_false_iff_ne.mpr h;simp only[List.lookup,hb,YAL h]
 | (k,x)::r=>by
  have ih:=Zau f g v r;rw[show gM f v ((k,x)::r)=(if k=f then (k,v)::r else (k,x)::gM f v r) from rfl];by_cases hk:k=f
  .rw[YAS hk];by_cases h:g=k
   .have hb:(g == k)=true:=beq_iff_eq.mpr h;simp only[List.lookup,hb,YAS (h.trans hk)]
   .have hb:(g == k)=false:=beq_eq_false_iff_ne.mpr h;simp only[List.lookup,hb,YAL (λe:g=f=>h (e.trans hk.symm))]
  .rw[YAL hk];by_cases h:g=k
   .have hb:(g == k)=true:=beq_iff_eq.mpr h;simp only[List.lookup,hb,YAL (λe:g=f=>hk (h.symm.trans e))]
   .have hb:(g == k)=false:=beq_eq_false_iff_ne.mpr h;simp only[List.lookup,hb];exact ih
theorem Zeg (f:Str)(v:V):∀fs:List (Str×V),f∈(gM f v fs).map (·.1)/\∀g,g∈fs.map (·.1)->g∈(gM f v fs).map (·.1)
 | []=>⟨by simp[gM],λg h=>by simp at h⟩
 | (k,x)::r=>by
  obtain⟨i1,i2⟩:=Zeg f v r;rw[show gM f v ((k,x)::r)=(if k=f then (k,v)::r else (k,x)::gM f v r) from rfl];by_cases hk:k=f
  .rw[YAS hk];subst hk;exact⟨by simp,λg h=>by simpa using h⟩
  .rw[YAL hk];refine⟨?_,λg h=>?_⟩
   .rw[YAc];exact YAO _ i1
   .rw[YAc]at h ⊢;rcases YAJ.mp h with e | e
    .exact YAJ.mpr (.inl e)
    .exact YAO _ (i2 g e)
theorem Zec (f:Str)(v:V):∀fs:List (Str×V),(gM f v fs).length<=fs.length+1
 | []=>by simp[gM]
 | (k,x)::r=>by
  have ih:=Zec f v r;rw[show gM f v ((k,x)::r)=(if k=f then (k,v)::r else (k,x)::gM f v r) from rfl];by_cases hk:k=f
  .rw[YAS hk,YAf,YAf];lia
  .rw[YAL hk,YAf,YAf];lia
def iB.some_of (r:iB (some v) o):∃u,o=some u/\gC v u:=by
 cases o with
 | none=>exact(show False from r).elim
 | some u=>exact⟨u,rfl,r⟩
def iB.none_of (r:iB none o):o=none:=by
 cases o with
 | none=>rfl
 | some u=>exact(show False from r).elim
def ZjZ (r:gC v u):handedIn u=true:=by
 cases v with
 | non=>cases (show u=Value.none from r);rfl
 | bl b=>cases (show u=Value.bool b from r);rfl
 | int i=>obtain⟨t,e⟩:=(show ∃t,u=Value.int i t from r);cases e;rfl
 | str x=>obtain⟨t,e⟩:=(show ∃t,u=Value.str x t from r);cases e;rfl
 | byt b=>obtain⟨t,e⟩:=(show ∃t,u=Value.bytes b t from r);cases e;rfl
 | flt b=>obtain⟨t,e⟩:=(show ∃t,u=Value.float b t from r);cases e;rfl
 | ref a=>cases (show u=Value.ref a from r);rfl
 | ty n=>cases (show u=Value.type n from r);rfl
section
def Zfq (hok:HOk P w H h)(e:H a=some (.ins C dx fs)):∃mA,jN h a dx C mA/\(∀f,iB (fs.lookup f) (mA f))/\PySem.Within mA (fs.map (·.1))/\fs.length<=1000/\H dx=some (.own a):=by obtain⟨d,z,ne,ob,mA,n,r,q⟩:=(show gQ P w H h a (.ins C dx fs) from hok a _ e);exact⟨mA,⟨ob,n,ne⟩,r,q,z,d⟩
end
structure Cls (K:Q4)(C:AE):Prop where
 pg:plainGet K C Str.empty=true
 hd:hasDictIn K C=true
 po:plainOver K C=true
 sa:findIn K (.ref C) "__setattr__"=some (some (.builtin "object.__setattr__"))
def Cls.get {K:Q4}{C:AE}(c:Cls K C)(f:Str):plainGet K C f=true:=c.pg
def gK (K:Q4)(C:AE)(f:Str):Prop:=findIn K (.ref C) f=some none
def gK.taker {K:Q4}{C:AE}{f:Str}(n:gK K C f):takerIn K C f=some none:=by unfold takerIn;rw[show findIn K (.ref C) f=some none from n];rfl
structure gW (K:Q4)(C:AE)(m:Str)(f:AE):Prop where
 at_:findIn K (.ref C) m=some (some (.ref f))
 fn:isFn K (.ref f)=true
 kp:keepIn K (.ref f)=true
section
def ZiB (I:Inv X As U H s)(e:H a=some (.ins C dx fs))(c:Cls X.K C)(n:gK X.K C f)(l:fs.lookup f=some v)
  (h:∀u s',Inv X As U H s'->gC v u->Q u s'):wpAny (model X.prog X.w) A (getAttr (.ref a) f b) Q E s:=by
 obtain⟨mA,O,r,_,_,_⟩:=Zfq I.hok e;obtain⟨u,hu,ru⟩:=iB.some_of (v:=v) (o:=mA f) (by rw[<-l];exact r f);exact Znz I.kIn O (c.get f) c.hd n hu (ZjZ ru) (h u _ (I.tok _) ru)
def ZeO (I:Inv X As U H s)(e:H a=some (.ins C dx fs))(c:Cls X.K C)(k:gW X.K C m g)(l:fs.lookup m=none)
  (h:Q (.ref g,[.ref a]) s):wpAny (model X.prog X.w) A (getMethod (.ref a) m pl) Q E s:=by
 obtain⟨mA,O,r,_,_,_⟩:=Zfq I.hok e;have hn:mA m=none:=iB.none_of (by rw[<-l];exact r m);exact Zlq I.kIn O (c.get m) k.at_ k.fn hn h
def Zij (I:Inv X As U H s)(e:H a=some (.ins C dx fs))(c:Cls X.K C)(n:gK X.K C f)(hl:fs.length<1000)(ry:gC y u)
  (h:∀s',Inv X As U (upd H a (.ins C dx (gM f y fs))) s'->Q () s'):wpAny (model X.prog X.w) A (setAttr (.ref a) f u) Q E s:=by
 obtain⟨mA,O,r,wi,_,ho⟩:=Zfq I.hok e;have hz:(fs.map (·.1)).length<=sizeLine:=by rw[YAB,sizeLine_eq];lia
 refine ZmL I.kIn O c.sa c.po n.taker c.hd wi hz λh' O' sb=>h _ ?_;have hd:∃o,h'.get? dx=some o:=let ⟨o,_,_,e',_⟩:=O'.ns;⟨o,e'⟩;refine I.write (x:=a) (e:=dx) (by rw[e];exact True.intro) (.inr ho) (λb q hb z=>(sb.2 b hb).trans z) hd ?_;refine⟨by rw[Zak O.ne];exact ho,?_,O.ne,O'.obj,_,O'.ns,λg=>?_,λg hg=>?_⟩
 .have:=Zec f y fs;lia
 .show iB ((gM f y fs).lookup g) (if g=f then some u else mA g);rw[Zau];by_cases q:g=f
  .rw[YAS q,YAS q];exact ry
  .rw[YAL q,YAL q];exact r g
 .by_cases q:g=f
  .rw[q];exact(Zeg f y fs).1
  .refine(Zeg f y fs).2 g (wi g λz=>hg ?_);show (if g=f then some u else mA g)=none;rw[YAL q];exact z
def Inv.made (I:Inv X As U H s):Inv X As U (upd (upd H s.heap.objs.size (.own (s.heap.objs.size+1))) (s.heap.objs.size+1) (.ins C s.heap.objs.size []))
  { s with heap:=(s.heap.push emptyDict).push (instObj C s.heap.objs.size) }:=by
 have e1:(s.heap.push emptyDict).get? s.heap.objs.size=some emptyDict:=YAU s.heap rfl;have e2:((s.heap.push emptyDict).push (instObj C s.heap.objs.size)).get? (s.heap.objs.size+1)=some (instObj C s.heap.objs.size):=by
  have:=YAU (s.heap.push emptyDict) (o:=instObj C s.heap.objs.size) rfl
  rwa [YBa]at this
 have e3:(s.heap.push emptyDict).Ns s.heap.objs.size (λ_=>none):=⟨emptyDict,#[],_,e1,rfl,(λe he=>absurd he (by simp)),λ_=>rfl⟩;have I1:=I.laid (a:=s.heap.objs.size) (o:=.own (s.heap.objs.size+1)) (h':=s.heap.push emptyDict) (t':=s.toks) (λb u q=>YAD _ q) (YAT _) ⟨_,e1⟩;refine I1.laid (a:=s.heap.objs.size+1) (o:=.ins C s.heap.objs.size []) (t':=s.toks) (λb u q=>YAD _ q) (YCu (YBa _ _)) ?_;have ne:s.heap.objs.size≠s.heap.objs.size+1:=YAd (YDL _);refine⟨by rw[Zak ne,Zao],YBC _,ne,e2,λ_=>none,(Heap.Ns1.of_empty e3).at λo q=>YAD _ q,λ_=>True.intro,λy hy=>absurd rfl hy⟩
def ZnX (hb:attributeBase e f env (eval e env)=eval e env)
  (h:wpAny (model prog w) A (eval e env) (λo s_1=>wpAny (model prog w) A (getAttr o f true) Q E s_1) E s):wpAny (model prog w) A (eval (.Attribute e f pos) env) Q E s:=
 Attribute_any_ h (by rw[arm_eval_Attribute,hb])
end
def nv (K:Q4)(ta:TE)(f:Str):TE:=λU H Q=>ta U H λx H1=>∃a C dx fs v,x=.ref a/\H1 a=some (.ins C dx fs)/\Cls K C/\gK K C f/\fs.lookup f=some v/\Q v H1
def sFld (K:Q4)(ta tv:TE)(f:Str):TS:=λD U H=>tv U H λy H1=>ta U H1 λx H2=>∃a C dx fs,x=.ref a/\H2 a=some (.ins C dx fs)/\Cls K C/\gK K C f/\fs.length<1000 /\
 D.nx U (upd H2 a (.ins C dx (gM f y fs)))
section
def ZoO (he:PE X e ta)(hb:attributeBase e f X.env (eval e X.env)=eval e X.env):PE X (.Attribute e f pos) (nv X.K ta f):=by intro As s U H Q I h;refine ZnX hb (thn (he As s U H _ I h) λu s1 zz=>?_);obtain⟨x,H1,I1,rx,a,C,dx,fs,v,ex,ea,c,n,l,q⟩:=zz;subst ex;obtain rfl:u=Value.ref a:=rx;exact ZiB I1 ea c n l λu' s2 I2 ru=>⟨v,H1,I2,ru,q⟩
def Zcq (ha:PE X o ta)(hv:PE X value tv)(hs:swapsWith value (some (.Attribute o f pos')) pos.line X.env=pure false):PS X (.Assign [.Attribute o f pos'] value pos) (sFld X.K ta tv f):=by intro As s U H D I h;refine plainObj_wpAny_Assign_Attribute (thn (hv As s U H _ I h) λu s1 ⟨y,H1,I1,ry,q⟩=>thn (ha As s1 U H1 _ I1 q) λov s2 zz=>?_) hs;obtain⟨x,H2,I2,rx,a,C,dx,fs,ex,ea,c,n,l,q2⟩:=zz;subst ex;obtain rfl:ov=Value.ref a:=rx;exact Zij I2 ea c n l ry λs3 I3=>⟨U,_,I3,q2⟩
end
section
inductive iH (K:Q4) (H:Hp):V->Value->Prop where
 | non:iH K H .non (.type "NoneType")
 | bl (x:Bool):iH K H (.bl x) (.type "bool")
 | int (i:Int):iH K H (.int i) (.type "int")
 | str (x:Str):iH K H (.str x) (.type "str")
 | flt (x:UInt64):iH K H (.flt x) (.type "float")
 | lst {a:AE} {xs:List V} (e:H a=some (.lst xs)):iH K H (.ref a) (.type "list")
 | frz {a:AE} {o:Obj} {xs:List V} (e:H a=some (.frz o (.lst xs))):iH K H (.ref a) (.type "list")
 | tup {a:AE} {xs:List V} (e:H a=some (.tup xs)):iH K H (.ref a) (.type "tuple")
 | dK {a:AE} {kvs:List (Key×V)} (e:H a=some (.dK kvs)):iH K H (.ref a) (.type "dict")
 | dT {a:AE} {kvs:List (List Key×V)} (e:H a=some (.dT kvs)):iH K H (.ref a) (.type "dict")
 | ins {a C dx:AE} {fs:List (Str×V)} (e:H a=some (.ins C dx fs)) (cl:Cls K C) (ha:findIn K (.ref C) "__class__"=some (some (.builtin "object.__class__")))
   (hn:specialIn K (.builtin "object.__class__") "__get__"=some (some (.builtin "getset_descriptor.__get__"))) (htk:takesIn K (.builtin "object.__class__")=some true)
   (hm:mroIn K C (.type "object")=some true):iH K H (.ref a) (.ref C)
def ZjS (I:Inv X As U H s)(rx:gC x u)(ty:iH X.K H x t)(e:kitOne X.K t c=some b)(h:∀tk,Q (.bool b) { s with toks:=tk }):
  wpAny (model X.prog X.w) A (call (.builtin "isinstance") [u,c]) Q E s:=by
 cases ty with
 | non=>cases (show u=Value.none from rx);exact YBP PySem.W.kitx_none I.kIn True.intro e (λz=>nomatch z) h
 | bl y=>cases (show u=Value.bool y from rx);exact YBP PySem.W.kitx_bool I.kIn True.intro e (λz=>nomatch z) h
 | int i=>obtain⟨t,q⟩:=(show ∃t,u=Value.int i t from rx);cases q;exact YBP PySem.W.kitx_int I.kIn True.intro e (λz=>nomatch z) h
 | str y=>obtain⟨t,q⟩:=(show ∃t,u=Value.str y t from rx);cases q;exact YBP PySem.W.kitx_str I.kIn True.intro e (λz=>nomatch z) h
 | flt y=>obtain⟨t,q⟩:=(show ∃t,u=Value.float y t from rx);cases q;exact YBP PySem.W.kitx_float I.kIn True.intro e (λz=>nomatch z) h
 | @lst a xs ea=>
  cases (show u=Value.ref a from rx);obtain⟨_,_,n,_,h1⟩:=(show gQ X.prog X.w H s.heap a (.lst xs) from I.hok a _ ea);exact YBP kitx_list I.kIn ⟨_,h1,rfl⟩ e (λz=>nomatch z) h
 | @frz a ob xs ea=>
  cases (show u=Value.ref a from rx);obtain⟨_,_,_,n,_,h1⟩:=(show gQ X.prog X.w H s.heap a (.frz ob (.lst xs)) from I.hok a _ ea);exact YBP kitx_list I.kIn ⟨_,h1,rfl⟩ e (λz=>nomatch z) h
 | @tup a xs ea=>
  cases (show u=Value.ref a from rx);obtain⟨_,_,_,p⟩:=(show gQ X.prog X.w H s.heap a (.tup xs) from I.hok a _ ea);obtain⟨o,h1,h2,_⟩:=p;exact YBP kitx_tuple I.kIn ⟨o,h1,h2⟩ e (λz=>nomatch z) h
 | @dK a kvs ea=>
  cases (show u=Value.ref a from rx);obtain⟨_,_,vs,_,p⟩:=(show gQ X.prog X.w H s.heap a (.dK kvs) from I.hok a _ ea);obtain⟨o,es,ep,h1,h2,_⟩:=p;exact YBP kitx_dict I.kIn ⟨o,h1,h2.1⟩ e (λz=>nomatch z) h
 | @dT a kvs ea=>
  cases (show u=Value.ref a from rx);obtain⟨_,_,xs,_,o,es,ep,h1,h2,_⟩:=(show gQ X.prog X.w H s.heap a (.dT kvs) from I.hok a _ ea);exact YBP kitx_dict I.kIn ⟨o,h1,h2.1⟩ e (λz=>nomatch z) h
 | @ins a C dx fs ea cl ha hn htk hm=>
  cases (show u=Value.ref a from rx);obtain⟨mA,O,_⟩:=Zfq I.hok ea;obtain⟨od,J,_⟩:=O.look;exact YBP (PySem.W.kitx_own (cl.get _) cl.hd ha hn htk hm) I.kIn J e (λz=>nomatch z) h
end
structure hG (k:Nat)(A:AI):Prop where
 hd:A.handled=none
 dp:A.depth+3*k+5<recursionLimit
 un:A.units+16*k+200<cLine
def hG.mono (r:hG k A)(h:j<=k):hG j A:=⟨r.hd,by have:=r.dp;lia,by have:=r.un;lia⟩
def hG.deeper (r:hG (k+1) A)(env:Env):hG k (A.deeper env):=
 ⟨r.hd,by have:=r.dp;show A.depth+1+3*k+5<_;lia,by have:=r.un;show A.units+3+16*k+200<_;lia⟩
def Ziw {A:AI}{C:AE}{us:AD}{kw:List (Str×Value)}:(A.under (.builtin "type.__call__" ⟨.ref C::us,kw⟩)).depth=A.depth+1:=by
 first | rfl | simp[Around.under,Code.weight,Code.isCreation,Code.isGuard,Code.isCaller,Code.frames,Code.isFrame,guardIds]
def Ziv {A:AI}{C:AE}{us:AD}{kw:List (Str×Value)}:(A.under (.builtin "type.__call__" ⟨.ref C::us,kw⟩)).units=A.units+1:=by
 first | rfl | simp[Around.under,Code.cUnits,Code.frames,Code.isFrame]
def hG.make (r:hG (k+1) A)(C:AE)(us:AD)(kw:List (Str×Value)):hG k (A.under (.builtin "type.__call__" ⟨.ref C::us,kw⟩)):=
 ⟨r.hd,by have:=r.dp;rw[Ziw];lia,by have:=r.un;rw[Ziv];lia⟩
def hG.depth (r:hG k A):A.depth<recursionLimit:=by have:=r.dp;lia
def hG.units (r:hG k A):A.units+64<cLine:=by have:=r.un;lia
def jJ:TA:=λ_ H Q=>Q [] H
def Zif (ta:TE)(tr:TA):TA:=λU H Q=>ta U H λx H1=>tr U H1 λxs H2=>Q (x::xs) H2
section
def Zac:PA X [] jJ:=λ_ _ _ _ H Q I h=>YDY ⟨[],H,I,.nil,h⟩
def Zaa (ha:PE X e te)(hr:PA X es t)(hs:starEach (e::es) X.env=(false,eval e X.env)::starEach es X.env:=by rfl):PA X (e::es) (Zif te t):=by intro pos As s U H Q I h;rw[hs];show wpAny _ _ (spliced ((false,eval e X.env)::backTo pos (starEach es X.env))) _ _ s;refine YCd (thn (ha As s U H _ I h) λu s1 zz=>?_);obtain⟨x,H1,I1,r1,q1⟩:=zz;exact thn (hr pos As s1 U H1 _ I1 q1) λus s2 ⟨xs,H2,I2,r2,q2⟩=>⟨x::xs,H2,I2,.cons r1 r2,q2⟩
def mK (t:TA):TE:=λU H Q=>t U H λxs H1=>xs.length<=sizeLine/\∀p,H1 p=none->Q (.ref p) (upd H1 p (.tup xs))
def tLst (t:TA):TE:=λU H Q=>t U H λxs H1=>xs.length<=sizeLine/\∀p,H1 p=none->Q (.ref p) (upd H1 p (.lst xs))
def Zbx {x1}(h:PA X es t):PE X (.Tuple es x1 pos) (mK t):=by intro As s U H Q I hq;refine wpAny_Tuple_spliced (thn (h pos As s U H _ I hq) λus s1 ⟨xs,H1,I1,r,z,q⟩=>⟨by rw[<-r.length];exact z,?_⟩);have hf:H1 s1.heap.objs.size=none:=I1.hok.fresh (YAT _);refine⟨.ref s1.heap.objs.size,upd H1 s1.heap.objs.size (.tup xs),I1.laid (t':=s1.toks) (λb u e=>YAD _ e) (YAT _) ?_,rfl,q _ hf⟩;exact⟨z,us,r,⟨_,YAU _ rfl,rfl,_,rfl⟩⟩
def ZbZ (h:PA X es t):PE X (.List es pos) (tLst t):=by intro As s U H Q I hq;refine wpAny_List_spliced (thn (h pos As s U H _ I hq) λus s1 ⟨xs,H1,I1,r,z,q⟩=>⟨by rw[<-r.length];exact z,?_⟩);have hf:H1 s1.heap.objs.size=none:=I1.hok.fresh (YAT _);refine⟨.ref s1.heap.objs.size,upd H1 s1.heap.objs.size (.lst xs),I1.laid (t':=s1.toks) (λb u e=>YAD _ e) (YAT _) ?_,rfl,q _ hf⟩;exact⟨z,us,0,r,YAU _ rfl⟩
end
abbrev Sp:=List V->Hp->VK->XK->Prop
abbrev CXT:=List Env->Hp->AF->XK->Value->AF->Prop
structure jI (P:AH)(w:AJ)(K:Q4)(mg:AC)(base:Heap)(A:AI)(outer:List Env)(s:AF)(H:Hp):Prop where
 frames:A.frames=some outer
 mod:Mod K mg base
 bs:∀b o,base.get? b=some o->s.heap.get? b=some o/\H b=none
 bsz:base.objs.size<=s.heap.objs.size
 funs:s.heap.FunFrames base outer
 frf:∀b∈frs outer,H b=none
 hok:HOk P w H s.heap
 bare:AllBare s.gens
def CE (outer:List Env)(P:AH)(w:AJ)(H:Hp)(s:AF)(Q:VK)(u:Value)(s':AF):Prop:=
 ∃v H',s'.os=s.os/\AllBare s'.gens/\Un (frs outer) [] H H' s.heap s'.heap/\HOk P w H' s'.heap/\gC v u/\Q v H'
def CR (CX:CXT)(outer:List Env)(P:AH)(w:AJ)(H:Hp)(s:AF)(Q:VK)(E:XK)(r:Result)(s':AF):Prop:=
 match r with
 | .ok (.ret u)=>CE outer P w H s Q u s'
 | .ok _=>False
 | .error e=>CX outer H s E e s'
structure gy (P:AH)(w:AJ)(K:Q4)(mg:AC)(base:Heap)(CX:CXT)(k:Nat)(f:AE)(fd:AG)(ps:AK)(sp:Sp):Prop where
 len:∀vs H Q E,sp vs H Q E->vs.length=ps.length
 run:∀(A:AI) (outer:List Env) (s:AF) (H:Hp) (args:Args) (us:AD) (vs:List V) (Q:VK) (E:XK),hG k A->jI P w K mg base A outer s H->BindsTo s fd args (ps.zip us)->gs vs us->sp vs H Q E ->
  codeAny (model P w) A (.call (.ref f) args) (CR CX outer P w H s Q E) s
def jI.make {P:AH}{w:AJ}{K:Q4}{mg:AC}{base:Heap}{A:AI}{outer:List Env}{s:AF}{H:Hp}(e:jI P w K mg base A outer s H)(C:AE)(us:AD)(kw:List (Str×Value)):
  jI P w K mg base (A.under (.builtin "type.__call__" ⟨.ref C::us,kw⟩)) outer s H:=⟨by first | exact e.frames | (simpa [Around.under,Code.envs,Code.isFrame,pushEnvs] using e.frames),e.mod,e.bs,e.bsz,e.funs,e.frf,e.hok,e.bare⟩
section
def Inv.env0 (I:Inv X As U H s):jI X.prog X.w X.K X.mg X.base X.A X.stack s H:=
 ⟨I.ok.frames,I.ok.mod,I.bs,YAP I.ok.bsz I.sz,I.stack,I.stkFree,I.hok,I.bare⟩
def Inv.after (I:Inv X As U H s)(h:CE X.stack X.prog X.w H s Q u s'):EP X As U Q u s':=by obtain⟨v,H',os,bare,un,hok,r,q⟩:=h;obtain⟨hh,g,d,t,os'⟩:=s';obtain rfl:os'=s.os:=os;exact⟨v,H',I.call (h':=hh) (g':=g) (d':=d) (t':=t) (ch:=[]) un hok bare (λb z=>absurd z (by simp)),r,q⟩
end
def Zi3 (sp:Sp)(A3:List V)(E:XK)(t:TA):TE:=λU H Q=>t U H λvs H1=>sp (vs++A3) H1 Q E
def Zi1 (C:AE)(m:Str)(sp:Sp)(A3:List V)(E:XK)(ta:TE)(t:TA):TE:=λU H Q=>ta U H λx H1=>∃a dx fs,x=.ref a/\H1 a=some (.ins C dx fs)/\fs.lookup m=none /\
 t U H1 λvs H2=>sp (x::(vs++A3)) H2 Q E
def Zoh (C:AE)(sp:Sp)(A3:List V)(E:XK)(t:TA):TE:=λU H Q=>t U H λvs H1=>∀x dx,H1 x=none->H1 dx=none->dx≠x ->
 sp (.ref x::(vs++A3)) (upd (upd H1 dx (.own x)) x (.ins C dx [])) (λv H2=>v=.non/\Q (.ref x) H2) E
def iC (K:Q4)(fd:AG)(ps:AK)(ds:AD):Prop:=
 ∀(s:AF) (us:AD),K.In s.heap->(us++ds).length=ps.length->BindsTo s fd ⟨us,[]⟩ (ps.zip (us++ds))
def iC.all {K:Q4}{fd:AG}{ps:AK}(h:∀us:AD,us.length=ps.length->bindArgs fd ⟨us,[]⟩=pure (ps.zip us)):iC K fd ps []:=λs us _ hl=>by rw[YDT]at hl ⊢;exact .of_eq (h us hl)
noncomputable def Zdd (CX:CXT)(X:Cx)(E:XK):Prop:=∀(As:AB) (U:St) (H:Hp) (s:AF) (e:Value) (s':AF),Inv X As U H s->CX X.stack H s E e s'->X.xe e s'
section
def Zhy (F:gy X.prog X.w X.K X.mg X.base CX k f fd ps sp)(hr:hG k X.A)(hb:iC X.K fd ps ds)(hd:gs A3 ds)(hx:Zdd CX X E)
  (I:Inv X As U H s) (r:gs vs us) (h:sp (vs++A3) H Q E):wpAny (model X.prog X.w) X.A (call (.ref f) us) (EP X As U Q) X.xe s:=by
 have r2:gs (vs++A3) (us++ds):=r.append hd;have hl:(us++ds).length=ps.length:=by rw[<-r2.length];exact F.len _ _ _ _ h
 refine wpAny_call (codeAny_mono (F.run X.A X.stack s H ⟨us,[]⟩ (us++ds) (vs++A3) Q E hr I.env0 (hb s us I.kIn hl) r2 h) λr s' hq=>?_);cases r with
 | error e=>exact hx As U H s e s' I hq
 | ok fl=>
  cases fl with
  | ret u=>exact I.after hq
  | next=>exact False.elim hq
  | brk=>exact False.elim hq
  | cont=>exact False.elim hq
def Zm0 (F:gy X.prog X.w X.K X.mg X.base CX k f fd ps sp)(hr:hG k X.A)(hg:Gl X x)(hm:X.mg x=some (.ref f))(hk:keepIn X.K (.ref f)=true)(hb:iC X.K fd ps ds)(hd:gs A3 ds)(hx:Zdd CX X E)
  (ha:PA X (e::es) t) (hdb:(x == ("__debug__":Str))=false:=by decide) (he:starEach (e::es) X.env=(false,eval e X.env)::starEach es X.env:=by rfl) (hpl:(backTo pos (starEach es X.env)).any (·.1)=false:=by rfl):
  PE X (.Call (.Name x p) (e::es) [] pos) (Zi3 sp A3 E t):=by
 intro As s U H Q I h;refine YCH (Zfl I hg hm ?_ hdb);refine callWith_K (h₀:=X.base) I.ok.mod.kin hk (thn (ha pos As s U H _ I h) λus s1 ⟨vs,H1,I1,r,q⟩=>⟨I1.kIn,?_⟩) he hpl;exact Zhy F hr hb hd hx I1 r q
def ZaO (he:PE X o ta)(c:Cls X.K C)(hm:gW X.K C m f)(F:gy X.prog X.w X.K X.mg X.base CX k f fd ps sp)(hr:hG k X.A)(hb:iC X.K fd ps ds)(hd:gs A3 ds)(hx:Zdd CX X E)(ha:PA X (e::es) t)
  (hst:starEach (e::es) X.env=(false,eval e X.env)::starEach es X.env:=by rfl) (hpl:(backTo pos (starEach es X.env)).any (·.1)=false:=by rfl)
  (ht:eval (.Call (.Attribute o m Ay) (e::es) [] pos) X.env=(do
   let ov <-eval o X.env
   standAt Ay.atName
   let (f,first) <-holding [ov] (getMethod ov m pl)
   callWith pos f first (backTo pos (starEach (e::es) X.env)) (backToKw pos (keywordEach [] X.env))):=by rfl):
  PE X (.Call (.Attribute o m Ay) (e::es) [] pos) (Zi1 C m sp A3 E ta t):=by
 intro As s U H Q I h;refine methodCall_KW (pl:=pl) (thn (he As s U H _ I h) λu s1 zz=>?_) ht;obtain⟨x,H1,I1,rx,a,dx,fs,ex,ea,l,q⟩:=zz;subst ex;obtain rfl:u=Value.ref a:=rx;refine ZeO I1 ea c hm l ?_;refine callWith_K (first:=[.ref a]) (h₀:=X.base) I.ok.mod.kin hm.kp (thn (ha pos As s1 U H1 _ I1 q) λus s2 ⟨vs,H2,I2,r,q2⟩=>⟨I2.kIn,?_⟩) hst hpl;exact Zhy (us:=.ref a::us) (vs:=.ref a::vs) F hr hb hd hx I2 (.cons rfl r) q2
def Zay (he:PE X o ta)(c:Cls X.K C)(hm:gW X.K C m f)(F:gy X.prog X.w X.K X.mg X.base CX k f fd ps sp)(hr:hG k X.A)(hb:iC X.K fd ps ds)(hd:gs A3 ds)(hx:Zdd CX X E)
  (ht:eval (.Call (.Attribute o m Ay) [] [] pos) X.env=(do
   let ov <-eval o X.env
   standAt Ay.atName
   let (f,first) <-holding [ov] (getMethod ov m pl)
   callWith pos f first (backTo pos (starEach [] X.env)) (backToKw pos (keywordEach [] X.env))):=by rfl):
  PE X (.Call (.Attribute o m Ay) [] [] pos) (Zi1 C m sp A3 E ta jJ):=by
 intro As s U H Q I h;refine methodCall_KW (pl:=pl) (thn (he As s U H _ I h) λu s1 zz=>?_) ht;obtain⟨x,H1,I1,rx,a,dx,fs,ex,ea,l,q⟩:=zz;subst ex;obtain rfl:u=Value.ref a:=rx;refine ZeO I1 ea c hm l ?_;exact PySem.W.callWith_K0 (first:=[.ref a]) I1.kIn hm.kp (Zhy (us:=[.ref a]) (vs:=[.ref a]) F hr hb hd hx I1 (.cons rfl .nil) q)
structure Mk (K:Q4)(C f:AE):Prop where
 makes:makesIn K C=true
 init:findIn K (.ref C) "__init__"=some (some (.ref f))
 fn:isFn K (.ref f)=true
 kp:keepIn K (.ref C)=true
def ZkP (M:Mk X.K C f)(F:gy X.prog X.w X.K X.mg X.base CX k f fd ps sp)(hr:hG (k+1) X.A)(hb:iC X.K fd ps ds)(hd:gs A3 ds)
  (hx:Zdd CX X E) (I:Inv X As U H s) (r:gs vs us)
  (h:∀x dx,H x=none->H dx=none->dx≠x->sp (.ref x::(vs++A3)) (upd (upd H dx (.own x)) x (.ins C dx [])) (λv H2=>v=.non/\Q (.ref x) H2) E):
  wpAny (model X.prog X.w) X.A (call (.ref C) us) (EP X As U Q) X.xe s:=by
 have hq:=h (s.heap.objs.size+1) s.heap.objs.size (I.hok.fresh (Nat.le_succ _)) (I.hok.fresh (YAT _)) (YAd (YDL _));have I2:=Inv.made (C:=C) I;have r2:gs (V.ref (s.heap.objs.size+1)::(vs++A3)) (Value.ref (s.heap.objs.size+1)::(us++ds)):=.cons rfl (r.append hd);have hl:(Value.ref (s.heap.objs.size+1)::us++ds).length=ps.length:=by have e:=r2.length;rw[F.len _ _ _ _ hq]at e;exact e.symm
 refine wpAny_call (Zlb (f:=f) I.kIn M.makes M.init (beq_iff_eq.mp M.fn) (codeAny_mono (F.run _ X.stack _ _ ⟨Value.ref (s.heap.objs.size+1)::us,[]⟩ (Value.ref (s.heap.objs.size+1)::(us++ds)) _ _ E (hr.make C us [])
  (I2.env0.make C us []) (hb _ (Value.ref (s.heap.objs.size+1)::us) I2.kIn hl) r2 hq) λr s' hq'=>?_))
 cases r with
 | error e=>exact hx As U _ _ e s' I2 hq'
 | ok fl=>
  cases fl with
  | ret u=>
   obtain⟨v,H',I3,rv,ev,q3⟩:=I2.after hq';subst ev;exact⟨rv,⟨V.ref (s.heap.objs.size+1),H',I3,rfl,q3⟩⟩
  | next=>exact False.elim hq'
  | brk=>exact False.elim hq'
  | cont=>exact False.elim hq'
def Zdh (M:Mk X.K C f)(F:gy X.prog X.w X.K X.mg X.base CX k f fd ps sp)(hr:hG (k+1) X.A)(hg:Gl X x)(hm:X.mg x=some (.ref C))(hb:iC X.K fd ps ds)(hd:gs A3 ds)(hx:Zdd CX X E)
  (ha:PA X (e::es) t) (hdb:(x == ("__debug__":Str))=false:=by decide) (he:starEach (e::es) X.env=(false,eval e X.env)::starEach es X.env:=by rfl) (hpl:(backTo pos (starEach es X.env)).any (·.1)=false:=by rfl):
  PE X (.Call (.Name x p) (e::es) [] pos) (Zoh C sp A3 E t):=by
 intro As s U H Q I h;refine YCH (Zfl I hg hm ?_ hdb);refine callWith_K (h₀:=X.base) I.ok.mod.kin M.kp (thn (ha pos As s U H _ I h) λus s1 ⟨vs,H1,I1,r,q⟩=>⟨I1.kIn,?_⟩) he hpl;exact ZkP M F hr hb hd hx I1 r q
end
section
end
structure gn (N P:AK)(sc:Scope):Prop where
 kind:sc.kind=.function
 co:sc.isCoroutine=false
 gen:sc.isGenerator=false
 nd:N.Nodup
 pre:N.take P.length=P
 par:∀x∈P,sc.names.lookup x=some .local\/sc.names.lookup x=some .cell
 nofree:∀y∈sc.names,y.2≠.free
theorem Zgz {kindOf:Str->Option NameKind}{x:Str}:∀ {binds:List (Str×Value)} {m:AC},(∀v,(x,v)∉binds)->bindL kindOf binds m x=m x
 | [],_,_=>rfl
 | (n,v)::r,m,h=>by
  unfold bindL;rw[Zgz λw hw=>h w (YAO _ hw)];split
  .have:x≠n:=by rintro rfl;exact h v YAZ
   simp[this]
  .rfl
theorem ZgC {kindOf:Str->Option NameKind}{x:Str}:∀ {binds:List (Str×Value)} {m:AC},(∀v,(x,v)∉binds)->bindC kindOf binds m x=m x
 | [],_,_=>rfl
 | (n,v)::r,m,h=>by
  unfold bindC;rw[ZgC λw hw=>h w (YAO _ hw)];split
  .rfl
  .have:x≠n:=by rintro rfl;exact h v YAZ
   simp[this]
theorem ZgB {kindOf:Str->Option NameKind}{x:Str}{v:Value}:∀ {P:AK} {vs:AD} {i:Nat} {m:AC},P.Nodup->P[i]?=some x->vs[i]?=some v->kindOf x=some .local ->
  bindL kindOf (P.zip vs) m x=some v
 | [],_,_,_,_,h,_,_=>by simp at h
 | _::_,[],_,_,_,_,h,_=>by simp at h
 | p::P,w::vs,0,m,nd,h1,h2,hk=>by
  simp at h1 h2;subst h1;subst h2;show bindL kindOf ((p,w)::P.zip vs) m p=_;unfold bindL;rw[Zgz λv hv=>(YBY.mp nd).1 (YDQ hv).1,YAS hk];simp
 | p::P,w::vs,i+1,m,nd,h1,h2,hk=>by show bindL kindOf ((p,w)::P.zip vs) m x=_;unfold bindL;exact ZgB (i:=i) (YBY.mp nd).2 (~~~h1) (~~~h2) hk
theorem ZgD {kindOf:Str->Option NameKind}{x:Str}{v:Value}:∀ {P:AK} {vs:AD} {i:Nat} {m:AC},P.Nodup->P[i]?=some x->vs[i]?=some v->kindOf x≠some .local ->
  bindC kindOf (P.zip vs) m x=some v
 | [],_,_,_,_,h,_,_=>by simp at h
 | _::_,[],_,_,_,_,h,_=>by simp at h
 | p::P,w::vs,0,m,nd,h1,h2,hk=>by
  simp at h1 h2;subst h1;subst h2;show bindC kindOf ((p,w)::P.zip vs) m p=_;unfold bindC;rw[ZgC λv hv=>(YBY.mp nd).1 (YDQ hv).1,YAL hk];simp
 | p::P,w::vs,i+1,m,nd,h1,h2,hk=>by show bindC kindOf ((p,w)::P.zip vs) m x=_;unfold bindC;exact ZgD (i:=i) (YBY.mp nd).2 (~~~h1) (~~~h2) hk
noncomputable def start (N:AK)(vs:List V):St:=vs.map some++List.replicate (N.length-vs.length) none
noncomputable def ji (CX:CXT)(P:AH)(w:AJ)(K:Q4)(mg:AC)(base:Heap)(N:AK)(qual:Str)(scope:Scope)(f:AE)(cd:Value)(A:AI)(outer:List Env)(s:AF)(H:Hp)(E:XK):Cx where
 prog:=P
 w:=w
 K:=K
 mg:=mg
 base:=base
 A:=A.deeper (envOfC qual scope s.heap.objs.size f cd)
 N:=N
 s_0:=s
 H_0:=H
 env:=envOfC qual scope s.heap.objs.size f cd
 outer:=outer
 stack:=envOfC qual scope s.heap.objs.size f cd::outer
 ex:=[]
 calm:=true
 fn:=λ_=>true
 pn:=[]
 xe:=λe s'=>wpAny (model P w) (A.deeper (envOfC qual scope s.heap.objs.size f cd)) (leaving (envOfC qual scope s.heap.objs.size f cd) e) (λ_ s''=>CX outer H s E e s'') (λe' s''=>CX outer H s E e' s'') s'
def Zh6 {sc:Scope}{n:Nat}{x:Str}(h:sc.names.lookup x=some .cell):∃c,(cellsFrom n sc.names []).lookup x=some c:=by have q:=cellsFrom_some sc.names n [] (.inl h);exact Option.isSome_iff_exists.mp q
def ZjT {CX:CXT}{P:AH}{w:AJ}{K:Q4}{mg:AC}{base:Heap}{N ps:AK}{qual:Str}{scope:Scope}{f:AE}{cd:Value}{A:AI}{outer:List Env}{s s1:AF}{H:Hp}{E:XK}{us:AD}{vs:List V}
  (S:gn N ps scope) (hd:A.handled=none) (e0:jI P w K mg base A outer s H) (hl:vs.length=ps.length) (r:gs vs us)
  (x:InCallC s s.heap.objs.size (bindL (envOfC qual scope s.heap.objs.size f cd).kindOf (ps.zip us) λ_=>none) (cellsFrom (s.heap.objs.size+1) scope.names []) (bindC (envOfC qual scope s.heap.objs.size f cd).kindOf (ps.zip us) λ_=>none) s1):
  Inv (ji CX P w K mg base N qual scope f cd A outer s H E) [] (start N vs) H s1:=by
 have hpl:ps.length<=N.length:=by have:=congrArg List.length S.pre;rw[YAX]at this;lia
 obtain⟨h1,tk,rfl,hk⟩:=x.done;have noA:∀b:AE,b∉(ji CX P w K mg base N qual scope f cd A outer s H E).ex:=λb z=>absurd (show b∈([]:List AE) from z) (by simp);refine⟨⟨e0.mod,S.kind,rfl,rfl,YAT _,λy z c h1 h2=>?_,λy hy=>?_,λy c _ h=>?_,λ_=>hd,Around.frames_deeper e0.frames,.inr ⟨rfl,rfl⟩,λb z=>absurd z (noA b),e0.bs,e0.bsz,λb _ _=>noA b,λb z=>absurd z (noA b),e0.funs,e0.frf⟩,
  rfl,e0.bare,Un.kept hk,⟨_,x.toInCall.ns,λi y v h1 h2 h3=>?_⟩,λy c h=>⟨_,x.cell y c h⟩,e0.hok.fresh (YAT _),λy c h=>?_,λp hp=>absurd (show p∈([]:AB) from hp) (by simp),e0.hok.kept hk,?_⟩
 .exact name_of_addr x.apart (YBx h1) (YBx h2)
 .have hy:scope.names.lookup y=some .cell\/scope.names.lookup y=some .free:=hy;rcases hy with hy | hy
  .exact Zh6 hy
  .exact absurd rfl (S.nofree _ (YBx hy))
 .exact Nat.le_of_lt (x.above y c (YBx h))
 .have hi:i<vs.length:=by
   unfold start at h2;by_cases hi:i<vs.length
   .exact hi
   .rw[YAs (~~~hi)]at h2;rw[List.getElem?_replicate]at h2;split at h2<;>cases h2
  have ha:vs[i]?=some v:=by
   unfold start at h2;rw[YAm (~~~hi),YAK]at h2;cases e:vs[i]? with
   | none=>rw[e]at h2;cases h2
   | some a=>rw[e]at h2;cases h2;rfl
  obtain⟨u,hu,rv⟩:=r.get ha;have hp:ps[i]?=some y:=by rw[<-S.pre,YCj ∅];exact h1
  have ndP:ps.Nodup:=by rw[<-S.pre];exact S.nd.sublist (YCz _ _)
  refine⟨u,rv,?_⟩;rcases S.par y (YAb hp) with k | k
  .exact .inl ⟨k,ZgB ndP hp hu k⟩
  .obtain⟨c,e⟩:=Zh6 (n:=s.heap.objs.size+1) k;refine .inr ⟨.inl k,c,e,?_⟩;have q:=x.cell y c e;rw[ZgD ndP hp hu (by show scope.names.lookup y≠_;rw[k];decide)]at q;exact q
 .exact e0.hok.fresh (Nat.le_of_lt (x.above y c (YBx h)))
 .unfold start;show _=N.length;rw[YAF,YAB,List.length_replicate]
  lia
def ZpQ {CX:CXT}{P:AH}{w:AJ}{K:Q4}{mg:AC}{base:Heap}{k:Nat}{f:AE}{name qual:Str}{params:Arguments}{body:List Stmt}{scope:Scope}{dV kV doc pm Au ct oc:Value}{an od:Option AE}
  {osl:Array (Option Value)} {N ps:AK} {sp:Sp} (lk:K.lookup f=some ⟨oc,od,.func (fnOf name qual params body scope dV kV doc pm an Au ct),osl⟩) (hcd:codeIn K Au qual=true) (S:gn N ps scope)
  (len:∀vs H Q E,sp vs H Q E->vs.length=ps.length)
  (hbody:∀(A:AI) (outer:List Env) (s:AF) (H:Hp) (vs:List V) (Q:VK) (E:XK),hG k (A.deeper (envOfC qual scope s.heap.objs.size f Au))->sp vs H Q E ->
   ∃t,PSs (ji CX P w K mg base N qual scope f Au A outer s H E) body t/\t { nx:=λ_ H'=>Q .non H',rt:=Q } (start N vs) H):
  gy P w K mg base CX (k+1) f (fnOf name qual params body scope dV kV doc pm an Au ct) ps sp:=by
 refine⟨len,λA outer s H args us vs Q E hr e0 hb r hsp=>?_⟩;have hl:=len _ _ _ _ hsp;have KX:K.In s.heap:=e0.mod.kin.keeps λb o e=>(e0.bs b o e).1;have lim:s.heap.NoLimit:=e0.mod.nolimit.keeps λb o e=>(e0.bs b o e).1;have hkind:∀y∈ps.zip us,scope.names.lookup y.1=some .local\/(scope.names.lookup y.1=some .cell/\((cellsFrom (s.heap.objs.size+1) scope.names []).lookup y.1).isSome=true):=λ⟨n,v⟩ hy=>by
  rcases S.par n (YDQ hy).1 with q | q
  .exact .inl q
  .exact .inr ⟨q,cellsFrom_some _ _ _ (.inl q)⟩
 refine codeAny_call_function hr.depth (KX _ _ lk) rfl S.co S.gen rfl (PySem.W.codeRec_of KX hcd) (hb _ _ _ _ ?_);refine wpAny_newFunctionEnv_cells S.kind hkind λenv he s1 x=>?_;subst he;refine⟨lim.keeps x.toInCall.keep,codeAny_func ?_⟩;obtain⟨t,ht,hq⟩:=hbody A outer s H vs Q E (hr.deeper _) hsp;have I:Inv (ji CX P w K mg base N qual scope f Au A outer s H E) [] (start N vs) H s1:=ZjT S hr.hd e0 hl r x;refine YBg (ht [] s1 (start N vs) H _ I hq) (λfl s' hs=>?_) λe s' hs=>hs;have fin:∀ {U':St} {H':Hp} {v:V} {u:Value},Inv (ji CX P w K mg base N qual scope f Au A outer s H E) [] U' H' s'->gC v u->Q v H'->CE outer P w H s Q u s':=
  λ{U' H' v u} J rv q=>⟨v,H',J.os,J.bare,J.base,J.hok,rv,q⟩
 cases fl with
 | ret u=>
  obtain⟨v,U',H',J,rv,q⟩:=hs;exact fin J rv q
 | next=>
  obtain⟨U',H',J,q⟩:=hs;exact fin (v:=V.non) (u:=Value.none) J rfl q
 | brk=>
  obtain⟨_,_,_,q⟩:=hs;exact False.elim q
 | cont=>
  obtain⟨_,_,_,q⟩:=hs;exact False.elim q
section
variable {X:Cx}{x:Str}{p pos:Pos}{e:Expr}{es:List Expr}{t:TA}{id T:String}{r:List V->Hp->VK->Prop}
def tCB (r:List V->Hp->VK->Prop)(t:TA):TE:=λU H Q=>t U H λvs H1=>r vs H1 Q
def Zat (hc:ZcG X (.builtin id) r) (hg:Gl X x) (hm:X.mg x=none) (hv:bootBuiltins x=some (.builtin id)) (ha:PA X (e::es) t) (hn:x≠"__name__":=by decide) (hdb:(x == ("__debug__":Str))=false:=by decide)
  (he:starEach (e::es) X.env=(false,eval e X.env)::starEach es X.env:=by rfl) (hpl:(backTo pos (starEach es X.env)).any (·.1)=false:=by rfl):PE X (.Call (.Name x p) (e::es) [] pos) (tCB r t):=by
 intro As s U H Q I h;refine YCH (Zdw I hg hm hv ?_ hn hdb);exact PyProof.Rows.callWith_builtin1 (thn (ha pos As s U H _ I h) λus s1 ⟨vs,H1,I1,r1,q1⟩=>hc As s1 U H1 vs us Q I1 r1 q1) he hpl
def Za1 (hc:ZcG X (.type T) r) (hg:Gl X x) (hm:X.mg x=none) (hv:bootBuiltins x=some (.type T)) (ha:PA X (e::es) t) (hn:x≠"__name__":=by decide) (hdb:(x == ("__debug__":Str))=false:=by decide)
  (he:starEach (e::es) X.env=(false,eval e X.env)::starEach es X.env:=by rfl) (hpl:(backTo pos (starEach es X.env)).any (·.1)=false:=by rfl):PE X (.Call (.Name x p) (e::es) [] pos) (tCB r t):=by
 intro As s U H Q I h;refine YCH (Zdw I hg hm hv ?_ hn hdb);exact YCt (thn (ha pos As s U H _ I h) λus s1 ⟨vs,H1,I1,r1,q1⟩=>hc As s1 U H1 vs us Q I1 r1 q1) he hpl
end
end L2
namespace HT
open PySem PyProof.Rows
section
open PySem.SeqAt
open PySem.AutoSeq1 (wpAny_loadPart')
open PySem.MeetsSeq PySem.MeetsSeq2 PySem.MeetsSeq3
end
section
noncomputable def sIx (n d:Nat):Option Int->Nat
 | none=>d
 | some v=>if v<0 then (v+(n:Int)).toNat else min v.toNat n
def sIx_none (n d:Nat):sIx n d none=d:=rfl
def sIx_nat (n d k:Nat):sIx n d (some (k:Int))=min k n:=by show (if (k:Int)<0 then ((k:Int)+(n:Int)).toNat else min (k:Int).toNat n)=min k n;rw[YAL ∅,YBQ]
def sIx_le (n d:Nat)(hd:d<=n)(o:Option Int):sIx n d o<=n:=by
 cases o with
 | none=>exact hd
 | some v=>
  show (if v<0 then (v+(n:Int)).toNat else min v.toNat n)<=n;by_cases hv:v<0
  .rw[YAS hv];lia
  .rw[YAL hv];exact Nat.min_le_right _ _
def clip_eq (v:Int)(n d:Nat):(if v<0 then max (v+(n:Int)) 0 else min v (n:Int))=((sIx n d (some v):Nat):Int):=by
 show (if v<0 then max (v+(n:Int)) 0 else min v (n:Int))=(((if v<0 then (v+(n:Int)).toNat else min v.toNat n):Nat):Int);by_cases hv:v<0
 .simp only[YAS hv];lia
 .simp only[YAL hv];lia
end
end HT
namespace L2
open PySem PySem.Spec PyProof.Rows
abbrev TO:=St->Hp->(Option Int->Hp->Prop)->Prop
def PO (X:Cx)(e:Option Expr)(t:TO):Prop:=
 ∀(As:AB) (s:AF) (U:St) (H:Hp) (Q:Option Int->Hp->Prop),Inv X As U H s->t U H Q ->
  wpAny (model X.prog X.w) X.A (evalPart e X.env) (λu s'=>∃o H',Inv X As U H' s'/\IsPart u o/\Q o H') X.xe s
def jP:TO:=λ_ H Q=>Q none H
def Zoe (t:TE):TO:=λU H Q=>t U H λx H1=>∃i,x=.int i/\Q (some i) H1
section
variable {X:Cx}{e:Expr}{te:TE}{lo hi:Option Expr}{tl th:TO}{pos p2:Pos}
def Za5:PO X none jP:=by intro As s U H Q I h;rw[evalPart_none];exact YAC ⟨none,H,I,.none,h⟩
def ZaQ (h:PE X e te):PO X (some e) (Zoe te):=by intro As s U H Q I hw;rw[evalPart_some];refine thn (h As s U H _ I hw) λu s1 zz=>?_;obtain⟨x,H1,I1,r1,q1⟩:=zz;obtain⟨i,rfl,q⟩:=q1;obtain⟨t,rfl⟩:=r1;exact⟨some i,H1,I1,.int i t,q⟩
def SlR (X:Cx)(r:V->Option Int->Option Int->Hp->VK->Prop):Prop:=
 ∀(As:AB) (s:AF) (U:St) (H:Hp) (x:V) (v vl vu:Value) (lo hi:Option Int) (sl:AE) (Q:VK),Inv X As U H s->gC x v->s.heap.IsSliceOf sl vl vu .none->IsPart vl lo->IsPart vu hi->r x lo hi H Q ->
  ∃T id,typeLookup (.type T) "__getitem__"=pure (some (.builtin id))/\s.TypeIs v T/\wpAny (model X.prog X.w) X.A (getItem v (.ref sl)) (EP X As U Q) X.xe s
def tSl (r:V->Option Int->Option Int->Hp->VK->Prop)(te:TE)(tl th:TO):TE:=λU H Q=>te U H λx H1=>tl U H1 λl H2=>th U H2 λu H3=>r x l u H3 Q
def ZaL (hr:SlR X r)(he:PE X e te)(hl:PO X lo tl)(hu:PO X hi th):PE X (.Subscript e (.Slice lo hi none p2) pos) (tSl r te tl th):=by intro As s U H Q I h;refine Subscript_ (thn (he As s U H _ I h) λv s1 zz=>?_);obtain⟨x,H1,I1,r1,q1⟩:=zz;refine wpAny_Slice (thn (hl As s1 U H1 _ I1 q1) λvl s2 ⟨l,H2,I2,pl,q2⟩=>thn (hu As s2 U H2 _ I2 q2) λvu s3 zz=>?_);obtain⟨u,H3,I3,pu,q3⟩:=zz;rw[evalPart_none];refine YAC ?_;have I4:Inv X As U H3 { s3 with heap:=s3.heap.push { cls:=.type "slice",data:=.fields #[vl,vu,.none] } }:=I3.kept (t':=s3.toks) λb ob q=>YAD _ q;obtain⟨T,id,hT,ht,hg⟩:=hr As { s3 with heap:=s3.heap.push { cls:=.type "slice",data:=.fields #[vl,vu,.none] } } U H3 x v vl vu l u s3.heap.objs.size Q I4 r1 (Heap.IsSliceOf.new ..) pl pu q3;show wpAny (model X.prog X.w) X.A (subscriptTail e (.Slice lo hi none p2) v (.ref s3.heap.objs.size)) (EP X As U Q) X.xe { s3 with heap:=s3.heap.push { cls:=.type "slice",data:=.fields #[vl,vu,.none] } };exact tail_any (ops:=[.ref s3.heap.objs.size,v]) ht hT hg (by with_unfolding_all rfl)
def ju (xs:List V)(lo hi:Option Int):List V:=(xs.drop (HT.sIx xs.length 0 lo)).take (HT.sIx xs.length xs.length hi-HT.sIx xs.length 0 lo)
def Zhi (xs:List V)(lo hi:Option Int):(ju xs lo hi).length<=xs.length:=by
 unfold ju;rw[YAX,YAk]
 lia
end
end L2
namespace L2
open PySem PySem.Spec PyProof.Rows
noncomputable def ixN (n:Nat)(i:Int):Option Nat:=if 0<=i then (if i<n then some i.toNat else none) else if -(n:Int)<=i then some (i+n).toNat else none
def atI {α:Type}(xs:List α)(i:Int):Option α:=(ixN xs.length i).bind λj=>xs[j]?
def Znp (h:ixN n i=some j):seqIndex? i n=some j/\j<n/\-(n:Int)<=i/\i<n:=by
 unfold ixN at h;by_cases h0:0<=i
 .rw[YAS h0]at h;by_cases h1:i<n
  .rw[YAS h1]at h;have e:i.toNat=j:=Option.some.inj h;exact⟨by rw[seqIndex_of h0 h1,e],∅,∅,h1⟩
  .rw[YAL h1]at h;cases h
 .rw[YAL h0]at h;by_cases h1:-(n:Int)<=i
  .rw[YAS h1]at h;have e:(i+n).toNat=j:=Option.some.inj h;exact⟨by rw[seqIndex_neg ∅ h1,e],∅,h1,∅⟩
  .rw[YAL h1]at h;cases h
def Zhm (h:atI xs i=some v):∃j,seqIndex? i xs.length=some j/\xs[j]?=some v/\j<xs.length/\-(xs.length:Int)<=i/\i<xs.length:=by
 unfold atI at h;cases e:ixN xs.length i with
 | none=>rw[e]at h;cases h
 | some j=>
  rw[e]at h;obtain⟨h1,h2,h3,h4⟩:=Znp e;exact⟨j,h1,h,h2,h3,h4⟩
def Zcx {α:Type}{xs:List α}{j:Nat}{v:α}(h:xs[j]?=some v):atI xs (j:Int)=some v:=by
 have hj:j<xs.length:=(YAN.mp h).1;have e:ixN xs.length (j:Int)=some j:=by unfold ixN;rw[YAS ∅,YAS ∅];simp
 unfold atI;rw[e];exact h
def Zn6 (b:Expr):Prop:=∀o i,subscripted b false o i=operate [o,i] (getItem o i)
def IxR (X:Cx)(r:R2):Prop:=
 ∀(value slice:Expr) (As:AB) (s:AF) (U:St) (H:Hp) (x y:V) (v u:Value) (Q:VK),Inv X As U H s->gC x v->gC y u->r x y H Q ->
  subscripted slice false v u=operate [v,u] (getItem v u)->wpAny (model X.prog X.w) X.A (subscriptTail value slice v u) (EP X As U Q) X.xe s
def MtR (X:Cx)(id:String)(r:V->List V->Hp->VK->Prop):Prop:=
 ∀(As:AB) (s:AF) (U:St) (H:Hp) (x:V) (xs:List V) (v:Value) (us:AD) (Q:VK),Inv X As U H s->gC x v->gs xs us->r x xs H Q ->
  wpAny (model X.prog X.w) X.A (call (.builtin id) (v::us)) (EP X As U Q) X.xe s
section
variable {X:Cx}{a b:Expr}{ta tb:TE}{pos:Pos}
def ZaH (hr:IxR X r)(ha:PE X a ta)(hb:PE X b tb)(hs:Zn6 b):PE X (.Subscript a b pos) (tOp r ta tb):=by intro As s U H Q I h;exact Subscript_ (kR ha hb I h λv u s2 x y H2 I2 rx ry q=>hr a b As s2 U H2 x y v u Q I2 rx ry q (hs _ _))
def rIxL (K:Q4):R2:=λx y H Q=>∃p xs i v,x=.ref p/\y=.int i/\SqL K H p xs/\atI xs i=some v/\Q v H
def rIxT (K:Q4):R2:=λx y H Q=>∃p xs i v,x=.ref p/\y=.int i/\SqT K H p xs/\atI xs i=some v/\Q v H
def rIxS:R2:=λx y H Q=>∃z i c,x=.str z/\y=.int i/\z.length<=sizeLine/\atI z.cps.toList i=some c/\Q (.str ⟨#[c]⟩) H
def Zno:IxR X (rIxL X.K):=by
 intro value slice As s U H x y v u Q I rx ry h hs;obtain⟨p,xs,i,z,rfl,rfl,hq,he,q⟩:=h;cases rx;obtain⟨t,rfl⟩:=ry;obtain⟨its,r,pl,hz⟩:=I.list hq;obtain⟨j,h1,h2,h3,h4,h5⟩:=Zhm he;obtain⟨w,ew,rw'⟩:=r.get h2;have hl:=r.length;have hn:=ZhR;have fin:EP X As U Q w s:=⟨z,H,I,rw',q⟩;by_cases h0:0<=i
 .have hj:i.toNat=j:=by rw[seqIndex_of h0 h5]at h1;exact Option.some.inj h1
  exact item_listR pl.isList h0 ∅ (by rw[hj];simpa using ew) fin hs
 .have hj:(i+(its.toArray.size:Int)).toNat=j:=by rw[seqIndex_neg ∅ h4]at h1;rw[YAM,<-hl];exact Option.some.inj h1
  exact subscriptTail_builtinR (x:=w) pl.isList.typeIs slot_list_getitem.lookup
   (wpAny_getItem_list_neg (Q:=λr s'=>r=w/\EP X As U Q r s') pl.isList ∅ (by rw[YAM]<;>lia) ∅ (by rw[hj];simpa using ew) ⟨rfl,fin⟩) hs
def ZpC:IxR X (rIxT X.K):=by
 intro value slice As s U H x y v u Q I rx ry h hs;obtain⟨p,xs,i,z,rfl,rfl,hq,he,q⟩:=h;cases rx;obtain⟨t,rfl⟩:=ry;obtain⟨its,r,pl,hz⟩:=I.tuple hq;obtain⟨j,h1,h2,h3,h4,h5⟩:=Zhm he;obtain⟨w,ew,rw'⟩:=r.get h2;have hl:=r.length;have hn:=ZhR;have fin:EP X As U Q w s:=⟨z,H,I,rw',q⟩;exact subscriptTail_builtinR (x:=w) pl.typeIs slot_tuple_getitem.lookup
  (getItem_tuple (j:=j) (Q:=λr s'=>r=w/\EP X As U Q r s') pl ∅ ∅ (by rw[YAM,<-hl];exact h1) (~~~ew) ⟨rfl,fin⟩) hs
def ZpD:IxR X rIxS:=by
 intro value slice As s U H x y v u Q I rx ry h hs;obtain⟨z,i,c,rfl,rfl,hz,he,q⟩:=h;obtain⟨t,rfl⟩:=rx;obtain⟨t',rfl⟩:=ry;obtain⟨j,h1,h2,h3,h4,h5⟩:=Zhm he;have hl:z.cps.toList.length=z.length:=by simp[Str.length]
 rw[hl]at h1 h4 h5;have hn:=ZhR;exact tail_any (typeIs_str s z t) slot_str_getitem.lookup (getItem_str (c:=c) (by have e1:decide (i < -(2 ^ 63:Int))=false:=decide_eq_false ∅;have e2:decide (i>=2 ^ 63)=false:=decide_eq_false ∅;rw[e1,e2,Bool.or_false]) (by rw[h1];simpa using h2) ⟨.str ⟨#[c]⟩,H,I.tok _,⟨_,rfl⟩,q⟩) hs
def ZfP (lo hi:Option Int)(n:Nat):(sliceBounds lo hi none n).1=((HT.sIx n 0 lo:Nat):Int)/\(sliceBounds lo hi none n).2.1=((HT.sIx n n hi:Nat):Int)/\(sliceBounds lo hi none n).2.2=1:=by
 refine⟨?_,?_,rfl⟩
 .cases lo with
  | none=>simp[sliceBounds,HT.sIx]
  | some i=>
   simp only[sliceBounds,HT.sIx,Option.getD_none,show (1:Int)>0 by decide,if_true];by_cases h:i<0
   .simp only[h,if_true]<;>lia
   .simp only[h,if_false]<;>lia
 .cases hi with
  | none=>simp[sliceBounds,HT.sIx]
  | some i=>
   simp only[sliceBounds,HT.sIx,Option.getD_none,show (1:Int)>0 by decide,if_true];by_cases h:i<0
   .simp only[h,if_true]<;>lia
   .simp only[h,if_false]<;>lia
def Ze7 (its:AD)(lo hi:Option Int):slicePick its.toArray lo hi none=((its.drop (HT.sIx its.length 0 lo)).take (HT.sIx its.length its.length hi-HT.sIx its.length 0 lo)).toArray:=by obtain⟨h1,h2,h3⟩:=ZfP lo hi its.toArray.size;unfold slicePick;rw[h1,h2,h3];simp only[sliceRange_one,pick_run,YAM]<;>rfl
def rSlL (K:Q4):V->Option Int->Option Int->Hp->VK->Prop:=λx lo hi H Q=>∃a xs,x=.ref a/\SqL K H a xs/\∀p,H p=none->Q (.ref p) (upd H p (.lst (ju xs lo hi)))
def ZmI:SlR X (rSlL X.K):=by intro As s U H x v vl vu lo hi sl Q I rx hs pl pu h;obtain⟨a,xs,rfl,hx,q⟩:=h;cases rx;obtain⟨its,r,ht,hz⟩:=I.list hx;have Av:=r.length;refine⟨"list",_,slot_list_getitem.lookup,ht.isList.typeIs,?_⟩;refine wpAny_getItem_list_slice ht.isList hs pl pu .none (by simp) ?_ (by rw[YAM]<;>lia);rw[Ze7,<-Av];refine⟨.ref s.heap.objs.size,_,I.laid (t':=s.toks) (o:=.lst (ju xs lo hi)) (λb ob q=>YAD _ q) (YAT _) ?_,rfl,q _ (I.hok.fresh (YAT _))⟩;exact⟨YAP (Zhi xs lo hi) hz,_,0,(r.drop (HT.sIx xs.length 0 lo)).take (HT.sIx xs.length xs.length hi-HT.sIx xs.length 0 lo),YAU _ rfl⟩
def ZbC:V->Bool
 | .non=>true
 | .bl _=>true
 | .int _=>true
 | .str _=>true
 | _=>false
noncomputable def eqV:V->V->Bool
 | .non,.non=>true
 | .bl a,.bl b=>a == b
 | .bl a,.int b=>(if a then 1 else 0) == b
 | .int a,.bl b=>a == (if b then 1 else 0)
 | .int a,.int b=>a == b
 | .str a,.str b=>a == b
 | _,_=>false
def Zmm (ry:gC y u)(rx:gC x v)(fy:ZbC y=true)(fx:ZbC x=true):SeqAt.EqAt A s u v (eqV y x):=by
 cases y with
 | non=>
  cases ry;cases x with
  | non=>cases rx;exact SeqAt.EqAt.same _
  | bl b=>cases rx;exact SeqAt.EqAt.none_bool b
  | int b=>obtain⟨t,rfl⟩:=rx;exact SeqAt.EqAt.none_int b t
  | str b=>obtain⟨t,rfl⟩:=rx;exact SeqAt.EqAt.none_str b t
  | _=>exact absurd (show false=true from fx) YAE
 | bl a=>
  cases ry;cases x with
  | non=>cases rx;exact SeqAt.EqAt.bool_none a
  | bl b=>cases rx;exact SeqAt.EqAt.bool_bool a b
  | int b=>obtain⟨t,rfl⟩:=rx;exact SeqAt.EqAt.bool_int a b t
  | str b=>obtain⟨t,rfl⟩:=rx;exact SeqAt.EqAt.bool_str a b t
  | _=>exact absurd (show false=true from fx) YAE
 | int a=>
  obtain⟨t',rfl⟩:=ry;cases x with
  | non=>cases rx;exact SeqAt.EqAt.int_none a t'
  | bl b=>cases rx;exact SeqAt.EqAt.int_bool a t' b
  | int b=>obtain⟨t,rfl⟩:=rx;exact SeqAt.EqAt.int_int a t' b t
  | str b=>obtain⟨t,rfl⟩:=rx;exact SeqAt.EqAt.int_str a t' b t
  | _=>exact absurd (show false=true from fx) YAE
 | str a=>
  obtain⟨t',rfl⟩:=ry;cases x with
  | non=>cases rx;exact SeqAt.EqAt.str_none a t'
  | bl b=>cases rx;exact SeqAt.EqAt.str_bool a t' b
  | int b=>obtain⟨t,rfl⟩:=rx;exact SeqAt.EqAt.str_int a t' b t
  | str b=>obtain⟨t,rfl⟩:=rx;exact SeqAt.EqAt.str_str a t' b t
  | _=>exact absurd (show false=true from fx) YAE
 | _=>exact absurd (show false=true from fy) YAE
def eqU (x:V)(u:Value):Bool:=match u with
 | .none=>eqV .non x
 | .bool b=>eqV (.bl b) x
 | .int i _=>eqV (.int i) x
 | .str z _=>eqV (.str z) x
 | _=>false
def Zmk (r:gC y u)(f:ZbC y=true):eqU x u=eqV y x:=by
 cases y with
 | non=>cases r;rfl
 | bl b=>cases r;rfl
 | int i=>obtain⟨t,rfl⟩:=r;rfl
 | str z=>obtain⟨t,rfl⟩:=r;rfl
 | _=>exact absurd (show false=true from f) YAE
theorem Zes {x:V}:∀ {xs:List V} {us:AD},gs xs us->xs.all ZbC=true->us.any (eqU x)=xs.any λy=>eqV y x
 | _,_,.nil,_=>rfl
 | y::xs,u::us,.cons r t,f=>by rw[List.all_cons,YAY]at f;rw[List.any_cons,List.any_cons,Zmk r f.1,Zes t f.2]
theorem ZcY {A:AI}{s:AF}{x:V}{v:Value}(rx:gC x v)(fx:ZbC x=true):∀ {xs:List V} {us:AD},gs xs us->xs.all ZbC=true->∀u∈us,SeqAt.EqAt A s u v (eqU x u)
 | _,_,.nil,_=>λu hu=>by cases hu
 | y::xs,u::us,.cons r t,f=>λu' hu=>by
  rw[List.all_cons,YAY]at f;rcases YAJ.mp hu with rfl | hu
  .rw[Zmk r f.1];exact Zmm r rx f.1 fx
  .exact ZcY rx fx t f.2 u' hu
def inV (x:V)(xs:List V):Bool:=xs.any λy=>eqV y x
def rIn (K:Q4)(neg:Bool):R2:=λx y H Q=>∃p xs,y=.ref p/\(SqL K H p xs\/SqT K H p xs)/\ZbC x=true/\xs.all ZbC=true/\Q (.bl (if neg then !inV x xs else inV x xs)) H
def Zjs:OpR X (compareOp .In) (rIn X.K false):=by
 intro As s U H x y v u Q I rx ry h;obtain⟨p,xs,rfl,hq,fx,fs,q⟩:=h;cases ry;rcases hq with hq | hq
 .obtain⟨its,r,pl,hz⟩:=I.list hq;refine SeqAt.in_listAt (eqU x) pl.isList (λw hw=>ZcY rx fx r fs w (~~~hw)) ⟨.bl _,H,I,rfl,?_⟩;rw[show its.toArray.any (eqU x)=its.any (eqU x) by simp,Zes r fs];exact q
 .obtain⟨its,r,pl,hz⟩:=I.tuple hq;refine SeqAt.in_tupleAt (eqU x) pl (λw hw=>ZcY rx fx r fs w (~~~hw)) ⟨.bl _,H,I,rfl,?_⟩;rw[show its.toArray.any (eqU x)=its.any (eqU x) by simp,Zes r fs];exact q
def ZfY:OpR X (compareOp .NotIn) (rIn X.K true):=by
 intro As s U H x y v u Q I rx ry h;obtain⟨p,xs,rfl,hq,fx,fs,q⟩:=h;cases ry;rcases hq with hq | hq
 .obtain⟨its,r,pl,hz⟩:=I.list hq;refine SeqAt.notIn_listAt (eqU x) pl.isList (λw hw=>ZcY rx fx r fs w (~~~hw)) ⟨.bl _,H,I,rfl,?_⟩;rw[show its.toArray.any (eqU x)=its.any (eqU x) by simp,Zes r fs];exact q
 .obtain⟨its,r,pl,hz⟩:=I.tuple hq;refine SeqAt.notIn_tupleAt (eqU x) pl (λw hw=>ZcY rx fx r fs w (~~~hw)) ⟨.bl _,H,I,rfl,?_⟩;rw[show its.toArray.any (eqU x)=its.any (eqU x) by simp,Zes r fs];exact q
def Zgy:ZcG X (.type "list") (λxs H Q=>∃p ys,xs=[.ref p]/\(SqL X.K H p ys\/SqT X.K H p ys)/\∀l,H l=none->Q (.ref l) (upd H l (.lst ys))):=by
 intro As s U H xs us Q I r h;obtain⟨p,ys,rfl,hq,q⟩:=h;obtain⟨u,rfl,rx⟩:=kC r;cases rx;have fin:∀(its:AD),gs ys its->ys.length<=sizeLine->∀(h':Heap) (c':Nat),(∀b o',s.heap.get? b=some o'->h'.get? b=some o') ->
   h'.get? s.heap.objs.size=some { cls:=.type "list",dict:=none,data:=.seq its.toArray c',slots:=#[] }->EP X As U Q (.ref s.heap.objs.size) { s with heap:=h' }:=λits r' hz h' c' kp e=>
  ⟨.ref s.heap.objs.size,_,I.laid (t':=s.toks) kp (YAT _) (show gQ X.prog X.w _ h' _ (.lst ys) from⟨hz,its,c',r',e⟩),rfl,q _ (I.hok.fresh (YAT _))⟩
 rcases hq with hq | hq
 .obtain⟨its,r',pl,hz⟩:=I.list hq;have Av:=r'.length;obtain⟨o,ho,hc,n,hd⟩:=pl.isList;exact call_list_seq p (.inl rfl) ho hc hd (λh' c' kp e=>fin its r' hz h' c' kp e) (by simp only[YAM]<;>lia)
 .obtain⟨its,r',pl,hz⟩:=I.tuple hq;have Av:=r'.length;obtain⟨o,ho,hc,n,hd⟩:=pl;exact call_list_seq p (.inr rfl) ho hc hd (λh' c' kp e=>fin its r' hz h' c' kp e) (by simp only[YAM]<;>lia)
def tyV (K:Q4)(T:String)(x:V)(H:Hp):Prop:=match x with
 | .str _=>T="str"
 | .int _=>T="int"
 | .ref p=>(T="list"/\∃xs,SqL K H p xs)\/(T="tuple"/\∃o,K.lookup p=some o/\o.cls=.type "tuple"/\o.dict=none) \/
   (T="dict"/\((∃kvs,H p=some (.dK kvs))\/∃kvs,H p=some (.dT kvs)))\/(T="set"/\∃S n,H p=some (.set S n))
 | _=>False
def ZlU (I:Inv X As U H s)(r:gC x v)(ty:tyV X.K T x H):
  s.TypeIs v T/\∀a,v=.ref a->∃ob,s.heap.get? a=some ob/\ob.dict=none:=by
 cases x with
 | str z=>
  obtain⟨t,rfl⟩:=r;cases (show T="str" from ty);exact⟨typeIs_str s z t,λ_ e=>nomatch e⟩
 | int i=>
  obtain⟨t,rfl⟩:=r;cases (show T="int" from ty);exact⟨typeIs_int s i t,λ_ e=>nomatch e⟩
 | ref p=>
  cases r;rcases ty with⟨rfl,xs,hq⟩|⟨rfl,o,hk,hc,hd⟩|⟨rfl,hk⟩|⟨rfl,S,n,hk⟩
  .obtain⟨its,_,pl,_⟩:=I.list hq;refine⟨pl.isList.typeIs,λa e=>?_⟩;cases e;obtain⟨o,n,e,c,hd,_⟩:=pl;exact⟨o,e,hd⟩
  .refine⟨⟨o,I.kIn p o hk,hc⟩,λa e=>?_⟩;cases e;exact⟨o,I.kIn _ o hk,hd⟩
  .have z:∃o,s.heap.get? p=some o/\o.ExactDict:=by
    rcases hk with⟨kvs,hk⟩|⟨kvs,hk⟩
    .obtain⟨_,_,_,_,o,_,_,e,ex,_⟩:=I.hok p _ hk;exact⟨o,e,ex⟩
    .obtain⟨_,_,_,_,o,_,_,e,ex,_⟩:=I.hok p _ hk;exact⟨o,e,ex⟩
   obtain⟨o,e,ex⟩:=z;refine⟨⟨o,e,ex.1⟩,λa e2=>?_⟩;cases e2;exact⟨o,e,ex.2.1⟩
  .obtain⟨o,_,_,_,e,ex,_⟩:=I.hok p _ hk;refine⟨⟨o,e,ex.1⟩,λa e2=>?_⟩;cases e2;exact⟨o,e,ex.2.1⟩
 | _=>exact False.elim ty
def tBM0 (K:Q4)(T:String)(r:V->List V->Hp->VK->Prop)(to:TE):TE:=λU H Q=>to U H λx H1=>tyV K T x H1/\r x [] H1 Q
def tBM (K:Q4)(T:String)(r:V->List V->Hp->VK->Prop)(to:TE)(t:TA):TE:=λU H Q=>to U H λx H1=>tyV K T x H1/\t U H1 λxs H2=>r x xs H2 Q
variable {o e:Expr}{es:List Expr}{to:TE}{t:TA}{name:Str}{Ay Az:Pos}{T id:String}{r:V->List V->Hp->VK->Prop}
def ZoP (pa:PlainAttrs T) (slot:Slot T name id) (hty:typeOf (.builtin id)=pure (.type "method_descriptor")) (hm:MtR X id r) (ho:PE X o to)
  (hbase:attributeBase o name X.env (eval o X.env)=eval o X.env:=by rfl) (hline:(Ay.endLine == Az.line)=true:=by rfl):PE X (.Call (.Attribute o name Ay) [] [] Az) (tBM0 X.K T r to):=by
 intro As s U H Q I h;refine wpAny_Call_method0_late hbase hline (thn (ho As s U H _ I h) λv s1 zz=>?_);obtain⟨x,H1,I1,r1,ty,q1⟩:=zz;obtain⟨h1,h2⟩:=ZlU I1 r1 ty;exact⟨T,id,pa,slot,hty,h1,h2,Calls.callWith_builtin rfl (PySem.evalArgs_none (hm As s1 U H1 x [] v [] Q I1 r1 .nil q1))⟩
def Zfh (pa:PlainAttrs T) (slot:Slot T name id) (hty:typeOf (.builtin id)=pure (.type "method_descriptor")) (hm:MtR X id r) (ho:PE X o to) (ha:PA X (e::es) t)
  (hbase:attributeBase o name X.env (eval o X.env)=eval o X.env:=by rfl)
  (hfew:((backTo Az (starEach (e::es) X.env)).all (λx=>!x.1)&&(backToKw Az (keywordEach [] X.env)).all (λx=>x.1.isSome)
   && decide ((e::es).length+([]:List Keyword).length+(if ([]:List Keyword).isEmpty then 0 else 1)<30))=true:=by rfl)
  (hline:(Ay.endLine == Az.line)=true:=by rfl) (hs:starEach (e::es) X.env=(false,eval e X.env)::starEach es X.env:=by rfl) (hplain:(backTo Az (starEach es X.env)).any (·.1)=false:=by rfl):
  PE X (.Call (.Attribute o name Ay) (e::es) [] Az) (tBM X.K T r to t):=by
 intro As s U H Q I h;refine wpAny_Call_method_late hbase hfew hline rfl (thn (ho As s U H _ I h) λv s1 zz=>?_);obtain⟨x,H1,I1,r1,ty,q1⟩:=zz;obtain⟨h1,h2⟩:=ZlU I1 r1 ty;refine⟨T,id,pa,slot,hty,h1,h2,?_⟩;have hA:=ha Az As s1 U H1 _ I1 q1;rw[hs]at hA ⊢;refine Calls.callWith_builtin (by show (false || (backTo Az (starEach es X.env)).any (·.1))=false;rw[hplain]<;>rfl) (Calls.evalArgs_plain ?_);exact thn hA λus s2 ⟨vs,H2,I2,r2,q2⟩=>hm As s2 U H2 x vs v us Q I2 r1 r2 q2
end
def MtM (X:Cx)(id:String)(r:V->List V->Hp->VK->Prop):Prop:=
 ∀(As:AB) (s:AF) (U:St) (H:Hp) (x:V) (xs:List V) (v:Value) (us:AD) (Q:VK),Inv X As U H s->gC x v->gs xs us->r x xs H Q ->
  wpAny (model X.prog X.w) X.A (call (.builtin id) (v::us)) (EP X As U Q) X.xe s
def gs.one (h:gs [x] us):∃u,us=[u]/\gC x u:=by
 cases h with
 | cons r n=>cases n;exact⟨_,rfl,r⟩
def gs.two (h:gs [x,y] us):∃u v,us=[u,v]/\gC x u/\gC y v:=by
 cases h with
 | cons r t=>
  cases t with
  | cons q n=>cases n;exact⟨_,_,rfl,r,q⟩
theorem gs.zero:∀ {us:AD},gs [] us->us=[]
 | _,.nil=>rfl
def gs.dropLast (h:gs xs us):gs xs.dropLast us.dropLast:=by
 induction h with
 | nil=>exact .nil
 | cons r t ih=>
  cases t with
  | nil=>exact .nil
  | cons q t'=>exact .cons r ih
def ZiC (l:List α):l.eraseIdx (l.length-1)=l.dropLast:=by
 induction l with
 | nil=>rfl
 | cons a r ih=>
  cases r with
  | nil=>rfl
  | cons b r=>
   have e:(a::b::r).length-1=((b::r).length-1)+1:=by
    have h1:(a::b::r).length=r.length+2:=rfl;have h2:(b::r).length=r.length+1:=rfl
    lia
   rw[e,List.eraseIdx_cons_succ,ih];all_goals rfl
section
def Inv.lset {its its':AD}{n:Nat}{f:Array Value->Array Value}{t':Nat}(I:Inv X As U H s)(hH:H l=some (.lst xs))
  (e:s.heap.get? l=some { cls:=.type "list",data:=.seq its.toArray n }) (hf:f its.toArray=its'.toArray) (hv:gs ys its') (hz:ys.length<=sizeLine):
  Inv X As U (upd H l (.lst ys)) { s with heap:=s.heap.update l (Obj.mapSeq f),toks:=t' }:=by
 have q:=PySem.IsL.update e f;rw[hf]at q;refine I.write (x:=l) (e:=l) (by rw[hH];exact trivial) (.inl rfl) (λb' u hb hu=>(YCr s.heap (Obj.mapSeq f) (YBW hb)).trans hu) ⟨_,q⟩ ?_;exact⟨hz,its',_,hv,q⟩
def Inv.lnew (I:Inv X As U H s)(hv:gs ys its)(hz:ys.length<=sizeLine):
  Inv X As U (upd H s.heap.objs.size (.lst ys)) { s with heap:=s.heap.push { cls:=.type "list",data:=.seq its.toArray },toks:=t' }:=
 I.laid (λ_ _ q=>YAD _ q) (YAT _) ⟨hz,its,0,hv,YAU _ rfl⟩
def Inv.fresh (I:Inv X As U H s):H s.heap.objs.size=none:=I.hok.fresh (YAT _)
def Inv.lstM (I:Inv X As U H s)(hH:H l=some (.lst xs)):xs.length<=sizeLine/\∃(its:AD) (n:Nat),gs xs its/\xs.length=its.length/\s.heap.get? l=some { cls:=.type "list",data:=.seq its.toArray n }:=by obtain⟨z,its,n,r,e⟩:=I.hok l _ hH;exact⟨z,its,n,r,r.length,e⟩
def Zk7 (h:n<=sizeLine):Builtin.List.listTooLong n=false:=by unfold Builtin.List.listTooLong;exact decide_eq_false ∅
end
section
def kj:V->List V->Hp->VK->Prop:=λx vs H Q=>∃l xs y,x=.ref l/\vs=[y]/\H l=some (.lst xs)/\xs.length<sizeLine/\Q .non (upd H l (.lst (xs++[y])))
def ZbO:MtM X "list.append" kj:=by
 intro As s U H x vs v us Q I rx rv h;obtain⟨l,xs,y,rfl,rfl,hH,hz,q⟩:=h;cases rx;obtain⟨u,rfl,ru⟩:=rv.one;obtain⟨z,its,n,r,hl,e⟩:=I.lstM hH;refine call_meets F.slot_list_append ⟨_,e,rfl⟩ F.entry_list_append (F.args_list_append_2 _ _) (PySem.list_append l its.toArray n u (by rw[YAM];lia)) ⟨e,?_⟩;refine⟨.non,_,I.lset (its':=its++[u]) hH e (by simp) (r.append (.cons ru .nil)) ?_,rfl,q⟩;rw[YAF,YAo]
 lia
def km:V->List V->Hp->VK->Prop:=λx vs H Q=>∃l b xs zs,x=.ref l/\vs=[.ref b]/\H l=some (.lst xs)/\H b=some (.lst zs)/\xs.length+zs.length<=sizeLine/\Q .non (upd H l (.lst (xs++zs)))
def ZjA:MtM X "list.extend" km:=by
 intro As s U H x vs v us Q I rx rv h;obtain⟨l,b,xs,zs,rfl,rfl,hH,hB,hz,q⟩:=h;cases rx;obtain⟨u,rfl,ru⟩:=rv.one;cases ru;obtain⟨z,its,n,r,hl,e⟩:=I.lstM hH;obtain⟨z2,its2,n2,r2,hl2,e2⟩:=I.lstM hB;have hsz:its.toArray.size+its2.toArray.size<=sizeLine:=by rw[YAM,YAM];lia
 have hlong:¬(!its.toArray.isEmpty&&Builtin.List.listTooLong (its.toArray.size+its2.toArray.size))=true:=by rw[Zk7 hsz,YCD];exact YAE
 refine call_meets F.slot_list_extend ⟨_,e,rfl⟩ F.entry_list_extend (F.args_list_extend_2 _ _)
  (AutoSeq1.list_extend_list_list_0 l its.toArray n b its2.toArray n2 hlong (by rw[YAM];lia) ∅) ⟨e,e2,?_⟩
 refine⟨.non,_,I.lset (its':=its++its2) hH e (by simp) (r.append r2) ?_,rfl,q⟩;rw[YAF]
 lia
def rPop:V->List V->Hp->VK->Prop:=λx vs H Q=>∃l xs y,x=.ref l/\vs=[]/\H l=some (.lst xs)/\xs[xs.length-1]?=some y/\Q y (upd H l (.lst xs.dropLast))
def Zpl:MtM X "list.pop" rPop:=by
 intro As s U H x vs v us Q I rx rv h;obtain⟨l,xs,y,rfl,rfl,hH,hy,q⟩:=h;cases rx;have hus:=rv.zero;subst hus;obtain⟨z,its,n,r,hl,e⟩:=I.lstM hH;obtain⟨u,hu,ru⟩:=r.get hy;have hy':its.toArray[its.toArray.size-1]?=some u:=by show its.toArray[its.length-1]?=some u;rw[<-YAu,<-hl];exact hu
 refine call_meets F.slot_list_pop ⟨_,e,rfl⟩ F.entry_list_pop (F.args_list_pop_1 _) (MeetsSeq.list_pop_last l its.toArray n u hy' (by rw[YAM];lia)) ⟨e,?_⟩;refine⟨y,_,I.lset (its':=its.dropLast) hH e ?_ r.dropLast ?_,ru,q⟩
 .show its.toArray.eraseIdxIfInBounds (its.toArray.size-1)=its.dropLast.toArray;rw[YAM,List.eraseIdxIfInBounds_toArray,ZiC]
 .rw[YBA]
  lia
def rCat:R2:=λx y H Q=>∃l b xs zs,x=.ref l/\y=.ref b/\H l=some (.lst xs)/\H b=some (.lst zs)/\xs.length+zs.length<=sizeLine/\∀p,H p=none->Q (.ref p) (upd H p (.lst (xs++zs)))
def Zjt:OpR X (binaryOp .Add) rCat:=by
 intro As s U H x y v u Q I rx ry h;obtain⟨l,b,xs,zs,rfl,rfl,hH,hB,hz,q⟩:=h;cases rx;cases ry;obtain⟨z,its,n,r,hl,e⟩:=I.lstM hH;obtain⟨z2,its2,n2,r2,hl2,e2⟩:=I.lstM hB;refine PySem.P.add_list e e2 ?_ (by rw[YAM,YAM];lia);have ea:its.toArray++its2.toArray=(its++its2).toArray:=by simp
 rw[ea];exact⟨.ref _,_,I.lnew (t':=s.toks) (r.append r2) (by rw[YAF];lia),rfl,q _ I.fresh⟩
end
section
end
section
end
end L2
namespace Att
open PySem PySem.W PySem.Calls PyProof.Rows
def Zei:∀(ns:List Int) (vs:AD),WellAll P h vs (ns.map WData.int)->IntsAre vs ns:=by
 intro ns;induction ns with
 | nil=>
  intro vs w;rw[List.map_nil]at w;cases w;exact .nil
 | cons n ns ih=>
  intro vs w;rw[YAc]at w;cases w with
  | cons a b=>
   cases a;exact .cons _ _ (ih _ b)
def Zi9 {l:OpenLaw}{n:Nat}(hn:l.most=some n){P:Params}{h:Heap}{args:List WData}{vals:AD}
  (hpre:l.row.toRowW.claim.pre args=true) (hwl:WellAll P h vals args):
  ∃a vs ns,vals=[Value.ref a]/\args=[WData.list (ns.map WData.int)]/\h.get? a=some { cls:=.type "list",data:=.seq vs.toArray }/\IntsAre vs ns/\ns.length<=n:=by
 have hsh:WShape.hasAll [] args [.list .int]=true:=(pre_splitW hpre).1;have hc:l.pre.holds [] { args:=args }=true:=(pre_splitW hpre).2;obtain⟨d,r,rfl,h1,h2⟩:=hasAllW_cons hsh;obtain rfl:=hasAllW_nil h2;obtain⟨xs,rfl,h3⟩:=hasW_list h1;obtain⟨ns,rfl⟩:=items_int h3;have Av:ns.length<=n:=by
  unfold OpenLaw.pre at hc;have h4:(WTm.not (.lt (.lit (.int (n:Int))) (.len (.arg 0)))).holds [] { args:=[.list (ns.map .int)] }=true:=by have h4:=(holds_andW hc).1;rw[hn]at h4;exact h4
  have h5:=condW_of h4 (w_not (w_lt w_lit (w_len_list (w_arg rfl))));rw[YAB]at h5;refine Nat.le_of_not_lt λq=>?_;have q':(n:Int)<((ns.length:Nat):Int):=by lia
  first
   | (rw[decide_eq_true q']at h5;exact absurd h5 (by decide))
   | (simp at h5;lia)
 cases hwl with
 | cons w1 w2=>
  cases w2;cases w1 with
  | list ho hall=>exact⟨_,_,ns,rfl,rfl,ho,Zei ns _ hall,Av⟩
def Zjn (l:OpenLaw)(args:List WData):l.row.toRowW.claim.post args (.bool true) args=true:=
 postW_of (r:=l.row.toRowW) (X:=(true == true))
  (show WShape.has [] (.bool true) .bool=true by first | rfl | decide | simp[WShape.has,WShape.arms,WShape.armsAll])
  (show (WTm.eq .res (.lit (.bool true))).value [] { args:=args,res:=some (.bool true),after:=args }=some (.bool (true == true)) from w_eq_bool (w_res rfl) w_lit) rfl
def attach_call {l:OpenLaw}{n:Nat}{q:AH}{loose:AK}{XP:(AC)->Heap->Prop}{YP:AJ->Heap->Prop}{d:DefRec}
  (hn:l.most=some n) (hdf:d.params.defaults=[])
  (call:∀(w:AJ) (s_0 s_1:AF) (mg mb:AC) (fa:AE) (o:Obj) (pm cd doc:Value) (a:AE) (vs:AD) (ns:List Int),
   Ground q loose [] XP w s_0 mg mb s_1.heap->YP w s_1.heap ->
   s_1.heap.get? fa=some o->o.data=.func (docDef d.name d.params d.body d.scope pm cd doc)->s_1.heap.CodeRec cd d.name->mg d.name=some (.ref fa) ->
   s_1.heap.get? a=some { cls:=.type "list",data:=.seq vs.toArray }->IntsAre vs ns->ns.length<=n->s_1.gens=#[] ->
   codeAny (model l.prog w) callerA (.call (.ref fa) ⟨[.ref a],[]⟩) (λr s'=>r=.ok (.ret (.bool true))/\OldK s_1.heap s'.heap/\s'.os=s_1.os/\AllBare s'.gens) s_1):
  WalkO q loose XP YP l.row.toRowW d [] (λf vs=>PySem.call f vs):=by
 intro w s_0 s_1 mg mb G Y fa o pm cd doc dV kV ho hd hcd hD hmg hg args vals as hpre hlay hrd hwl hlo;obtain rfl:dV=.none:=Dflts.none hD hdf;obtain rfl:kV=.none:=Dflts.noKw hD;obtain⟨a,vs,ns,rfl,rfl,hobj,hints,Av⟩:=Zi9 hn hpre hwl;refine enter_call (codeAny_mono (call w s_0 s_1 mg mb fa o pm cd doc a vs ns G Y ho (fd_plain hd) hcd hmg hobj hints Av hg) λr s' hq=>?_);obtain⟨rfl,h2,h3,h4⟩:=hq;exact⟨.inl ⟨.bool true,.bool true,[],rfl,λ_=>rfl,.bool true,Zjn l _,λ_=>⟨List.Pairwise.nil,λ_ hm=>(nomatch hm)⟩⟩,h2,h3,h4⟩
section
end
end Att
namespace L2
open PySem PySem.Spec PyProof.Rows
theorem ZfL:∀ {vs:AD} {ns:List Int},IntsAre vs ns->gs (ns.map V.int) vs
 | _,_,.nil=>.nil
 | _,_,.cons n t h=>.cons ⟨t,rfl⟩ (ZfL h)
noncomputable abbrev KOf {K:Q4}{h:Heap}(_:K.In h):Q4:=K
noncomputable def gz (s:Stmt)(j:Nat):Stmt:=match s with
 | .ClassDef _ _ _ body _ _ _ _ _ _ _=>body.getD j (.Pass ⟨0,0,0,0⟩)
 | _=>.Pass ⟨0,0,0,0⟩
def ZbV (s:Stmt):Arguments:=match s with
 | .FunctionDef _ a _ _ _ _ _ _ _ _=>a
 | _=>{ posonlyargs:=[],args:=[],vararg:=none,kwonlyargs:=[],kw_defaults:=[],kwarg:=none,defaults:=[] }
def ZbG (s:Stmt):List Stmt:=match s with
 | .FunctionDef _ _ b _ _ _ _ _ _ _=>b
 | _=>[]
def Zah (s:Stmt):Scope:=match s with
 | .FunctionDef _ _ _ _ _ _ sc _ _ _=>sc
 | _=>{ kind:=.function,names:=[],isGenerator:=false,isCoroutine:=false }
abbrev CX0:CXT:=λ_ _ _ _ _ _=>False
abbrev E0:XK:=λ_ _ _=>False
def Zan:Zdd CX0 X E0:=λ_ _ _ _ _ _ _ h=>h.elim
structure Fun (K:Q4)(x qual:Str)(st:Stmt)(f:AE)(fd:AG):Prop where
 ex:∃(oc:Value) (od:Option AE) (kV doc pm:Value) (an:Option AE) (Au ct:Value) (osl:Array (Option Value)),
  fd=fnOf x qual (ZbV st) (ZbG st) (Zah st) .none kV doc pm an Au ct/\K.lookup f=some ⟨oc,od,.func fd,osl⟩/\codeIn K Au qual=true
 kp:keepIn K (.ref f)=true
section
variable {P:AH}{w:AJ}{K:Q4}{mg:AC}{base:Heap}
def Fun.ok {x qual:Str}{st:Stmt}{f:AE}{fd:AG}{N ps:AK}{k:Nat}{sp:Sp}(F:Fun K x qual st f fd)(S:gn N ps (Zah st))
  (hbody:∀(Au:Value) (A:AI) (outer:List Env) (s:AF) (H:Hp) (vs:List V) (Q:VK) (E:XK),hG k (A.deeper (envOfC qual (Zah st) s.heap.objs.size f Au))->sp vs H Q E ->
   ∃t,PSs (ji CX0 P w K mg base N qual (Zah st) f Au A outer s H E).nox (ZbG st) t/\t { nx:=λ_ H'=>Q .non H',rt:=Q } (start N vs) H)(len:∀vs H Q E,sp vs H Q E->vs.length=ps.length:=by walk_at "ln"):gy P w K mg base CX0 (k+1) f fd ps sp:=by
 obtain⟨oc,od,kV,doc,pm,an,Au,ct,osl,rfl,lk,hcd⟩:=F.ex;refine ZpQ lk hcd S len λA outer s H vs Q E hr hsp=>?_;obtain⟨t,h,q⟩:=hbody Au A outer s H vs Q E hr hsp;exact⟨t,h.nox,q⟩
def Fun.binds {x qual:Str}{st:Stmt}{f:AE}{fd:AG}{ps:AK}(F:Fun K x qual st f fd)
  (h:∀(kV doc pm:Value) (an:Option AE) (Au ct:Value) (us:AD),us.length=ps.length->bindArgs (fnOf x qual (ZbV st) (ZbG st) (Zah st) .none kV doc pm an Au ct) ⟨us,[]⟩=pure (ps.zip us)):iC K fd ps []:=by
 obtain⟨oc,od,kV,doc,pm,an,Au,ct,osl,rfl,lk,hcd⟩:=F.ex;exact .all (h kV doc pm an Au ct)
def Zmh {x qual:Str}{st:Stmt}{f:AE}{oc:Value}{od an:Option AE}{osl:Array (Option Value)}{kV doc pm Au ct:Value}(l:K.lookup f=some ⟨oc,od,.func (fnOf x qual (ZbV st) (ZbG st) (Zah st) .none kV doc pm an Au ct),osl⟩)
  (c:codeIn K Au qual=true) (k:keepIn K (.ref f)=true):Fun K x qual st f (fnOf x qual (ZbV st) (ZbG st) (Zah st) .none kV doc pm an Au ct):=⟨⟨oc,od,kV,doc,pm,an,Au,ct,osl,rfl,l,c⟩,k⟩
end
def ZaE (hr:hG k A):A.units+1<cLine:=YCc (Nat.add_le_add_left (by decide:1<=64) _) hr.units
def ZdW (h:n<=1000):n<sizeLine:=YCc h (by decide)
section
def pv (i:Nat) {x:Str} {pos:Pos} (hN:X.N[i]?=some x:=by rfl) (hv:Vis X.env.scope x:=by first | exact Or.inl rfl | exact Or.inr (Or.inl rfl) | exact Or.inr (Or.inr rfl)) (hd:(x == ("__debug__":Str))=false:=by decide)
  (hcd:(x == ("__classdict__":Str))=false:=by decide):PE X (.Name x pos) (jr i):=ZoM hN hv hd hcd
end
def gV {A B:Prop}(h:B):if false=true then A else B:=by rw[YAL YAE];exact h
def jg {A B:Prop}(h:A):if true=true then A else B:=by rw[YAS rfl];exact h
def iz {c A B:Prop}[Decidable c](h1:c->A)(h2:¬c->B):if c then A else B:=by
 by_cases h:c
 .rw[YAS h];exact h1 h
 .rw[YAL h];exact h2 h
def gp (H H':Hp):Prop:=∀b o,H b=some o->H' b=some o
def gp.refl (H:Hp):gp H H:=λ_ _ h=>h
def gp.trans (a:gp H H1)(b:gp H1 H2):gp H H2:=λc o h=>b c o (a c o h)
def gp.free (e:gp H H'){l:AE}(h:H' l=Option.none):H l=Option.none:=by
 cases q:H l with
 | none=>rfl
 | some o=>
  rw[e l o q]at h;cases h
def gp.seq {K:Q4}{H H':Hp}{a:AE}{xs:List V}(e:gp H H')(h:SqL K H a xs):SqL K H' a xs:=by
 rcases h with (h | ⟨o,h⟩) | h
 .exact .inl (.inl (e _ _ h))
 .exact .inl (.inr ⟨o,e _ _ h⟩)
 .exact .inr h
section
variable {κ:Type}[DecidableEq κ]
noncomputable def hJ (kvs:List (κ×V))(k:κ):Option V:=(kvs.find? λkv=>decide (kv.1=k)).map (·.2)
noncomputable def ig (kvs:List (κ×V))(k:κ)(v:V):List (κ×V):=
 if (kvs.any λkv=>decide (kv.1=k))=true then kvs.map (λkv=>if kv.1=k then (kv.1,v) else kv) else kvs++[(k,v)]
def Zhb (kvs:List (κ×V))(k:κ):List (κ×V):=kvs.filter λkv=>decide (kv.1≠k)
def Zbs {p:κ×V}{r:List (κ×V)}{k:κ}(e:p.1=k):hJ (p::r) k=some p.2:=by simp[hJ,YDR,e]
def Zbk {p:κ×V}{r:List (κ×V)}{k:κ}(e:¬p.1=k):hJ (p::r) k=hJ r k:=by simp[hJ,YDR,e]
theorem ZcR (k:κ):∀kvs:List (κ×V),(kvs.any λkv=>decide (kv.1=k))=(hJ kvs k).isSome
 | []=>rfl
 | p::r=>by
  rw[List.any_cons];by_cases e:p.1=k
  .simp only[Zbs e,decide_eq_true e,Bool.true_or,Option.isSome_some]
  .rw[Zbk e,decide_eq_false e,Bool.false_or];exact ZcR k r
theorem Zhq (k j:κ)(y:V):∀kvs:List (κ×V),hJ (kvs.map λkv=>if kv.1=k then (kv.1,y) else kv) j=(hJ kvs j).map λx=>if j=k then y else x
 | []=>rfl
 | p::r=>by
  have ih:=Zhq k j y r;rw[YAc];by_cases h:p.1=k
  .rw[YAS h];by_cases e:p.1=j
   .rw[Zbs (p:=(p.1,y)) e,Zbs e,Option.map_some,YAS (e.symm.trans h)]
   .rw[Zbk (p:=(p.1,y)) e,Zbk e,ih]
  .rw[YAL h];by_cases e:p.1=j
   .rw[Zbs (p:=p) e,Zbs e,Option.map_some,YAL (λz=>h (e.trans z))]
   .rw[Zbk (p:=p) e,Zbk e,ih]
theorem ZfM (k j:κ)(y:V):∀kvs:List (κ×V),hJ kvs k=none->hJ (kvs++[(k,y)]) j=if j=k then some y else hJ kvs j
 | [],_=>by
  by_cases e:k=j
  .rw[YAS e.symm];exact Zbs (p:=(k,y)) e
  .rw[YAL (λz=>e z.symm)];exact Zbk (p:=(k,y)) e
 | p::r,hn=>by
  rw[YCn];have hk:¬p.1=k:=λz=>by rw[Zbs z]at hn;cases hn
  rw[Zbk hk]at hn;have ih:=ZfM k j y r hn;by_cases e:p.1=j
  .rw[Zbs e,Zbs e,YAL (λz=>hk (e.trans z))]
  .rw[Zbk e,Zbk e,ih]
def Zhp (kvs:List (κ×V))(k j:κ)(y:V):hJ (ig kvs k y) j=if j=k then some y else hJ kvs j:=by
 unfold ig;by_cases a:(kvs.any λkv=>decide (kv.1=k))=true
 .rw[YAS a,Zhq];rw[ZcR]at a;by_cases e:j=k
  .obtain⟨x,hx⟩:=Option.isSome_iff_exists.mp a;rw[YAS e,e,hx,Option.map_some,YAS rfl]
  .rw[YAL e];cases hJ kvs j with
   | none=>rfl
   | some x=>rw[Option.map_some,YAL e]
 .rw[YAL a];refine ZfM k j y kvs ?_;rw[ZcR]at a;cases q:hJ kvs k with
  | none=>rfl
  | some x=>rw[q]at a;exact(a rfl).elim
def ZcO (kvs:List (κ×V))(k:κ)(v:V):(ig kvs k v).length<=kvs.length+1:=by
 unfold ig;split
 .rw[YAB];lia
 .rw[YAF,YAf,List.length_nil];lia
def ZhH {kvs:List (κ×V)}{k:κ}(v:V)(h:hJ kvs k=none):ig kvs k v=kvs++[(k,v)]:=by unfold ig;rw[ZcR,h];exact YAL (by decide)
def iB.isSome_eq (r:iB o u):o.isSome=u.isSome:=by
 cases o with
 | none=>cases u with
  | none=>rfl
  | some _=>exact(show False from r).elim
 | some _=>cases u with
  | none=>exact(show False from r).elim
  | some _=>rfl
def KV.val (r:KV kvs vs)(k:κ):iB (hJ kvs k) (valueAt vs k):=by
 unfold KV at r;induction r with
 | nil=>exact True.intro
 | @cons p q ps qs h t ih=>
  obtain⟨h1,h2⟩:=h;by_cases e:p.1=k
  .have e':q.1=k:=h1.symm.trans e;have b:valueAt (q::qs) k=some q.2:=by simp[valueAt,YDR,e']
   rw[Zbs e,b];exact h2
  .have e':¬q.1=k:=λz=>e (h1.trans z);have b:valueAt (q::qs) k=valueAt qs k:=by simp[valueAt,YDR,e']
   rw[Zbk e,b];exact ih
def KV.any (r:KV kvs vs)(k:κ):(kvs.any λkv=>decide (kv.1=k))=vs.any λkv=>decide (kv.1=k):=by
 unfold KV at r;induction r with
 | nil=>rfl
 | cons h t ih=>rw[List.any_cons,List.any_cons,ih,h.1]
def KV.repl (r:KV kvs vs)(k:κ){y:V}{u:Value}(ry:gC y u):
  KV (kvs.map λkv=>if kv.1=k then (kv.1,y) else kv) (vs.map λkv=>if kv.1=k then (kv.1,u) else kv):=by
 unfold KV at r ⊢;induction r with
 | nil=>exact .nil
 | @cons p q ps qs h t ih=>
  rw[YAc,YAc];refine .cons ?_ ih;obtain⟨h1,h2⟩:=h;by_cases e:p.1=k
  .rw[YAS e,YAS (h1.symm.trans e)];exact⟨h1,ry⟩
  .rw[YAL e,YAL (λz=>e (h1.trans z))];exact⟨h1,h2⟩
def KV.put (r:KV kvs vs)(k:κ){y:V}{u:Value}(ry:gC y u):KV (ig kvs k y) (stored vs k u):=by
 unfold ig stored;rw[r.any k];by_cases e:(vs.any λkv=>decide (kv.1=k))=true
 .rw[YAS e,YAS e];exact r.repl k ry
 .rw[YAL e,YAL e];exact Paired.snoc r ⟨rfl,ry⟩
def KV.drop (r:KV kvs vs)(k:κ):KV (Zhb kvs k) (without vs k):=by
 unfold KV at r ⊢;unfold Zhb without;induction r with
 | nil=>exact .nil
 | @cons p q ps qs h t ih=>
  obtain⟨h1,h2⟩:=h;rw[List.filter_cons,List.filter_cons];by_cases e:p.1=k
  .have a:¬decide (p.1≠k)=true:=by simp[e]
   have b:¬decide (q.1≠k)=true:=by simp[h1.symm.trans e]
   rw[YAL a,YAL b];exact ih
  .have e':¬q.1=k:=λz=>e (h1.trans z);have a:decide (p.1≠k)=true:=by simp[e]
   have b:decide (q.1≠k)=true:=by simp[e']
   rw[YAS a,YAS b];exact .cons ⟨h1,h2⟩ ih
def KV.keys {kvs:List (κ×V)}{vs:List (κ×Value)}(r:KV kvs vs):kvs.map (·.1)=vs.map (·.1):=by
 unfold KV at r;induction r with
 | nil=>rfl
 | cons h t ih=>rw[YAc,YAc,ih,h.1]
def KV.length (r:KV kvs vs):kvs.length=vs.length:=Paired.length r
end
def ZjR (r:gC (kV k) u):(ZaF P w).is k u=true:=by
 cases k with
 | inl i=>obtain⟨t,e⟩:=(show ∃t,u=Value.int i t from r);subst e;exact Zg0 P w i t
 | inr x=>obtain⟨t,e⟩:=(show ∃t,u=Value.str x t from r);subst e;exact ZcN P w x t
theorem Zgf {P:AH}{w:AJ}:∀ {ks:List Key} {us:AD},gs (ks.map kV) us->ItemsAre (ZaF P w) ks us
 | [],_,r=>by rw[List.map_nil]at r;cases r;exact .nil
 | k::ks,_,r=>by
  rw[YAc]at r;cases r with
  | cons h t=>exact .cons (ZjR h) (Zgf t)
abbrev KT (H:Hp):List (List Key×V)->List (List Key×AE×Value)->Prop:=Paired λp q=>p.1=q.1/\H q.2.1=some (.tup (p.1.map kV))/\gC p.2 q.2.2
def KT.val (r:KT H kvs xs)(k:List Key):iB (hJ kvs k) ((atKey xs k).map (·.2)):=by
 induction r with
 | nil=>exact True.intro
 | @cons p q ps qs h t ih=>
  obtain⟨h1,_,h2⟩:=h;by_cases e:p.1=k
  .have e':q.1=k:=h1.symm.trans e;have b:atKey (q::qs) k=some q.2:=by simp[atKey,YDR,e']
   rw[Zbs e,b];exact h2
  .have e':¬q.1=k:=λz=>e (h1.trans z);have b:atKey (q::qs) k=atKey qs k:=by simp[atKey,YDR,e']
   rw[Zbk e,b];exact ih
def KT.repl (r:KT H kvs xs)(k:List Key){y:V}{u:Value}(ry:gC y u):
  KT H (kvs.map λkv=>if kv.1=k then (kv.1,y) else kv) (xs.map (putAt k u)):=by
 induction r with
 | nil=>exact .nil
 | @cons p q ps qs h t ih=>
  rw[YAc,YAc];refine .cons ?_ ih;obtain⟨h1,h2,h3⟩:=h;unfold putAt;by_cases e:p.1=k
  .rw[YAS e,YAS (h1.symm.trans e)];exact⟨h1,h2,ry⟩
  .rw[YAL e,YAL (λz=>e (h1.trans z))];exact⟨h1,h2,h3⟩
def KT.put (r:KT H kvs xs)(k:List Key){b:AE}{y:V}{u:Value}(hb:H b=some (.tup (k.map kV)))(ry:gC y u):
  KT H (ig kvs k y) (storedH xs k b u):=by
 have e:(kvs.any λkv=>decide (kv.1=k))=(atKey xs k).isSome:=by rw[ZcR,(r.val k).isSome_eq,Option.isSome_map]
 unfold ig storedH;rw[e];by_cases q:(atKey xs k).isSome=true
 .rw[YAS q,YAS q];exact r.repl k ry
 .rw[YAL q,YAL q];exact Paired.snoc r ⟨rfl,hb,ry⟩
def KT.keeps (r:KT H kvs xs)(ht:∀b ys,H b=some (.tup ys)->H' b=some (.tup ys)):KT H' kvs xs:=
 Paired.mapP r λ_ _ z=>⟨z.1,ht _ _ z.2.1,z.2.2⟩
section
def ZoE (ok:HOk P w H h)(e:Rd H a u):gQ P w H h a u:=e.ok ok
def Zj8 (ok:HOk P w H h)(e:Rd H a (.dK kvs)):kvs.length<=sizeLine/\(a == sysModules)=false/\∃vs,KV kvs vs/\h.DictOf (ZaF P w) a vs:=
 show gQ P w H h a (.dK kvs) from ZoE ok e
def ZrK (ok:HOk P w H h)(e:H a=some (.dK kvs)):kvs.length<=sizeLine/\(a == sysModules)=false/\∃vs,KV kvs vs/\h.DictOf (ZaF P w) a vs:=Zj8 ok (.inl e)
def Zgd (ok:HOk P w H h)(e:H a=some (.tup (ks.map kV))):(tupleKind (ZaF P w)).is h ks a:=by obtain⟨_,its,r,o,h1,h2,n,h3⟩:=(show gQ P w H h a (.tup (ks.map kV)) from ok a _ e);exact⟨o,its.toArray,n,h1,h2,h3,by simpa using Zgf r⟩
def Zj7 (ok:HOk P w H h)(e:Rd H a (.dT kvs)):kvs.length<=sizeLine/\(a == sysModules)=false /\
  ∃xs,KT H kvs xs/\h.DictOfH (tupleKind (ZaF P w)) a xs:=by
 obtain⟨z,y,xs,r,o,es,ep,h1,h2,h3,h4,h5⟩:=(show gQ P w H h a (.dT kvs) from ZoE ok e);refine⟨z,y,xs,r,o,es,ep,h1,h2,h3,h4,λx hx=>?_,h5⟩;have all:∀ {l:List (List Key×V)} {m:List (List Key×AE×Value)},KT H l m->∀x∈m,(tupleKind (ZaF P w)).is h x.1 x.2.1:=by
  intro l m q;induction q with
  | nil=>intro x hx;exact nomatch hx
  | @cons p q ps qs hq t ih=>
   intro x hx;rcases YAJ.mp hx with e | hx
   .subst e;exact Zgd ok (by rw[<-hq.1];exact hq.2.1)
   .exact ih x hx
 exact all r x hx
def ZrJ (ok:HOk P w H h)(e:H a=some (.dT kvs)):kvs.length<=sizeLine/\(a == sysModules)=false /\
  ∃xs,KT H kvs xs/\h.DictOfH (tupleKind (ZaF P w)) a xs:=Zj7 ok (.inl e)
end
def i8 (H:Hp)(a:AE)(y:V)(r:Option V):Prop:=
 (∃kvs k,Rd H a (.dK kvs)/\y=kV k/\r=hJ kvs k)\/∃kvs k b,Rd H a (.dT kvs)/\y=.ref b/\H b=some (.tup (k.map kV))/\r=hJ kvs k
def jK (H:Hp)(a:AE)(y v:V)(H':Hp):Prop:=
 (∃kvs k,H a=some (.dK kvs)/\y=kV k/\kvs.length<sizeLine/\H'=upd H a (.dK (ig kvs k v))) \/
 ∃kvs k b,H a=some (.dT kvs)/\y=.ref b/\H b=some (.tup (k.map kV))/\kvs.length<sizeLine/\H'=upd H a (.dT (ig kvs k v))
def i8.k {H:Hp}{a:AE}{kvs:List (Key×V)}{k:Key}(e:H a=some (.dK kvs)):i8 H a (kV k) (hJ kvs k):=.inl ⟨kvs,k,.inl e,rfl,rfl⟩
def i8.t {H:Hp}{a b:AE}{kvs:List (List Key×V)}{k:List Key}(e:H a=some (.dT kvs))(eb:H b=some (.tup (k.map kV))):i8 H a (.ref b) (hJ kvs k):=.inr ⟨kvs,k,b,.inl e,rfl,eb,rfl⟩
def jK.k {H:Hp}{a:AE}{kvs:List (Key×V)}{k:Key}{v:V}(e:H a=some (.dK kvs))(hl:kvs.length<sizeLine):jK H a (kV k) v (upd H a (.dK (ig kvs k v))):=.inl ⟨kvs,k,e,rfl,hl,rfl⟩
def jK.t {H:Hp}{a b:AE}{kvs:List (List Key×V)}{k:List Key}{v:V}(e:H a=some (.dT kvs))(eb:H b=some (.tup (k.map kV)))(hl:kvs.length<sizeLine):
  jK H a (.ref b) v (upd H a (.dT (ig kvs k v))):=.inr ⟨kvs,k,b,e,rfl,eb,hl,rfl⟩
section
def Inv.big (I:Inv X As U H s):sysModules<s.heap.objs.size:=by have h:mainGlobals<s.heap.objs.size:=(I.mod.glob.keeps I.bk).lt;exact Nat.lt_trans (by decide) h
def Zkj (hu:A.units+1<cLine)(I:Inv X As U H s)(g:i8 H a y (some v))(ry:gC y u)(h:∀w' s',Inv X As U H s'->gC v w'->Q w' s'):
  wpAny (model X.prog X.w) A (getItem (.ref a) u) Q E s:=by
 rcases g with⟨kvs,k,e,ey,l⟩|⟨kvs,k,b,e,ey,eb,l⟩
 .subst ey;obtain⟨z,hd,vs,rel,dd⟩:=Zj8 I.hok e;obtain⟨w',hw,rw'⟩:=iB.some_of (v:=v) (o:=valueAt vs k) (by rw[l];exact rel.val k);exact wpAny_getItem_of (ZjR ry) dd.mapOf hw (h w' _ (I.tok _) rw')
 .subst ey;cases (show u=Value.ref b from ry);obtain⟨z,hd,xs,rel,dd⟩:=Zj7 I.hok e;obtain⟨w',hw,rw'⟩:=iB.some_of (v:=v) (o:=(atKey xs k).map (·.2)) (by rw[l];exact rel.val k);obtain⟨p,hp,hp2⟩:=YBb.mp hw;refine wpAny_getItem_heap (tupleKind_room_in1 hu) (Zgd I.hok eb) dd hp ?_;rw[hp2];exact h w' _ (I.tok _) rw'
def d_in (hu:A.units+1<cLine)(I:Inv X As U H s)(g:i8 H a y o)(ry:gC y u)(h:∀s',Inv X As U H s'->Q (.bool o.isSome) s'):
  wpAny (model X.prog X.w) A (compareOp .In u (.ref a)) Q E s:=by
 rcases g with⟨kvs,k,e,ey,l⟩|⟨kvs,k,b,e,ey,eb,l⟩
 .subst ey;obtain⟨z,hd,vs,rel,dd⟩:=Zj8 I.hok e;refine wpAny_in_of (ZjR ry) hd dd.mapOf ?_;rw[<-(rel.val k).isSome_eq,<-l];exact h _ (I.tok _)
 .subst ey;cases (show u=Value.ref b from ry);obtain⟨z,hd,xs,rel,dd⟩:=Zj7 I.hok e;refine wpAny_in_heap (tupleKind_room_in1 hu) (Zgd I.hok eb) hd dd ?_;have q:=(rel.val k).isSome_eq;rw[Option.isSome_map]at q;rw[<-q,<-l];exact h _ (I.tok _)
def ZnQ (hu:A.units+1<cLine)(I:Inv X As U H s)(g:i8 H a y o)(ry:gC y u)(h:∀s',Inv X As U H s'->Q (.bool (!o.isSome)) s'):
  wpAny (model X.prog X.w) A (compareOp .NotIn u (.ref a)) Q E s:=by
 rcases g with⟨kvs,k,e,ey,l⟩|⟨kvs,k,b,e,ey,eb,l⟩
 .subst ey;obtain⟨z,hd,vs,rel,dd⟩:=Zj8 I.hok e;refine wpAny_notIn_of (ZjR ry) hd dd.mapOf ?_;rw[<-(rel.val k).isSome_eq,<-l];exact h _ (I.tok _)
 .subst ey;cases (show u=Value.ref b from ry);obtain⟨z,hd,xs,rel,dd⟩:=Zj7 I.hok e;refine wpAny_notIn_heap (tupleKind_room_in1 hu) (Zgd I.hok eb) hd dd ?_;have q:=(rel.val k).isSome_eq;rw[Option.isSome_map]at q;rw[<-q,<-l];exact h _ (I.tok _)
def Zkh (I:Inv X As U H s)(mu:Mut (H a))(hs:Heap.SameBut a s.heap h')(he:∃q,h'.get? a=some q)(new:gQ X.prog X.w (upd H a ob) h' a ob):
  Inv X As U (upd H a ob) { s with heap:=h',toks:=t' }:=
 I.write (x:=a) (e:=a) mu (.inl rfl) (λb q hb z=>(hs.2 b hb).trans z) he new
def ZpT (z:kvs.length<=sizeLine)(hd:(a == sysModules)=false)(rel:KV kvs vs)(dd:h'.DictOf (ZaF P w) a vs):
  gQ P w H' h' a (.dK kvs):=⟨z,hd,vs,rel,dd⟩
def Zki (hu:A.units+1<cLine)(I:Inv X As U H s)(g:jK H a y v H')(ry:gC y u)(rv:gC v r)(h:∀s',Inv X As U H' s'->Q () s'):
  wpAny (model X.prog X.w) A (setItem (.ref a) u r) Q E s:=by
 rcases g with⟨kvs,k,e,ey,l,eH⟩|⟨kvs,k,b,e,ey,eb,l,eH⟩
 .subst ey eH;obtain⟨z,hd,vs,rel,dd⟩:=ZrK I.hok e;have hz:vs.length<=sizeLine:=by rw[<-rel.length];exact z
  have hl:(ig kvs k v).length<=sizeLine:=by have:=ZcO kvs k v;lia
  refine wpAny_setItem_pairs (hsz:=hz) (ZjR ry) dd λh' dd' hs=>h _ ?_;have he:∃q,h'.get? a=some q:=let ⟨q,_,_,hq,_⟩:=dd';⟨q,hq⟩;exact Zkh I (by rw[e];exact True.intro) hs he (ZpT hl hd (rel.put k rv) dd')
 .subst ey eH;cases (show u=Value.ref b from ry);obtain⟨z,hd,xs,rel,dd⟩:=ZrJ I.hok e;have hz:xs.length<=sizeLine:=by rw[<-Paired.length rel];exact z
  have hl:(ig kvs k v).length<=sizeLine:=by have:=ZcO kvs k v;lia
  refine wpAny_setItem_heap (hsz:=hz) (tupleKind_room_in1 hu) (Zgd I.hok eb) dd λh' dd' hs=>h _ ?_;obtain⟨q,es,ep,hq,h2,h3,h4,_,h5⟩:=dd';refine Zkh I (by rw[e];exact True.intro) hs ⟨q,hq⟩ ⟨hl,hd,_,(rel.put k eb rv).keeps λc ys ec=>?_,q,es,ep,hq,h2,h3,h4,h5⟩;rw[Zak (ZrC ec e (λz=>nomatch z))];exact ec
end
section
end
def NoSl (i:Expr):Prop:=∀ov iv,subscripted i false ov iv=operate [ov,iv] (getItem ov iv)
def ZmH {prog:AH}{w:AJ}{A:AI}{E:Q33}{s:AF}{env:Env}{value slice:Expr}{pos:Pos}{T id:String}{Q:Q33}
  (hl:typeLookup (.type T) "__getitem__"=pure (some (.builtin id))) (hs:NoSl slice)
  (h:wpAny (model prog w) A (eval value env) (λo s_1=>wpAny (model prog w) A (eval slice env) (λi s_2=>s_2.TypeIs o T/\wpAny (model prog w) A (getItem o i) Q E s_2) E s_1) E s):
  wpAny (model prog w) A (eval (.Subscript value slice pos) env) Q E s:=by
 refine Subscript_ (YBg h (λo s_1 h9=>YBg h9 (λi s_2 h_2=>?_) λ_ _ x=>x) λ_ _ x=>x);obtain⟨hT,h_2⟩:=h_2;unfold subscriptTail;refine YAA ?_;rw[getitemInPython_of_ne hT.not_modules];refine YAA (wpAny_specialOf hT hl ?_);have fin:wpAny (model prog w) A (subscripted slice false o i) (λr s₃=>wpAny (model prog w) A (letTemporaryGo value o r >>= λ_=>pure r) Q E s₃) E s_2:=by rw[hs o i];exact wpAny_operating (YBg h_2 (λr s₃ h₃=>YAA (wpAny_letTemporaryGo (YAC h₃))) λ_ _ x=>x)
 first
  | exact YAC (YAA fin)
  | exact YAA (YAC (YAA fin))
  | exact YAA fin
def Zhc (I:Inv X As U H s)(g:i8 H a y o):s.TypeIs (.ref a) "dict":=by
 rcases g with⟨kvs,k,e,_,_⟩|⟨kvs,k,b,e,_,_,_⟩
 .obtain⟨_,_,vs,_,dd⟩:=Zj8 I.hok e;exact dd.typeIs
 .obtain⟨_,_,xs,_,dd⟩:=Zj7 I.hok e;exact dd.typeIs
def Zon (td ty:TE):TE:=λU H Q=>td U H λx H1=>ty U H1 λy H2=>∃a v,x=.ref a/\i8 H2 a y (some v)/\Q v H2
def tDIn (ty td:TE):TE:=λU H Q=>ty U H λy H1=>td U H1 λx H2=>∃a o,x=.ref a/\i8 H2 a y o/\Q (.bl o.isSome) H2
def Zi2 (ty td:TE):TE:=λU H Q=>ty U H λy H1=>td U H1 λx H2=>∃a o,x=.ref a/\i8 H2 a y o/\Q (.bl (!o.isSome)) H2
def ZoA (td ty tv:TE):TS:=λD U H=>tv U H λv H1=>td U H1 λx H2=>ty U H2 λy H3=>∃a H4,x=.ref a/\jK H3 a y v H4/\D.nx U H4
section
def ZgY (hu:X.A.units+1<cLine)(ho:PE X o td)(hi:PE X i ty)(hs:NoSl i):PE X (.Subscript o i pos) (Zon td ty):=by intro As s U H Q I h;refine ZmH PySem.F.slot_dict_getitem.lookup hs (thn (ho As s U H _ I h) λu s1 ⟨x,H1,I1,rx,q1⟩=>thn (hi As s1 U H1 _ I1 q1) λiv s2 zz=>?_);obtain⟨y,H2,I2,ry,a,v,ex,g,q2⟩:=zz;subst ex;obtain rfl:u=Value.ref a:=rx;exact⟨Zhc I2 g,Zkj hu I2 g ry λw' s3 I3 rw'=>⟨v,H2,I3,rw',q2⟩⟩
def ZoQ (hu:X.A.units+1<cLine)(hi:PE X i ty)(ho:PE X o td):PC X .In i o (tDIn ty td):=by intro As s U H Q I h;refine thn (hi As s U H _ I h) λiv s1 ⟨y,H1,I1,ry,q1⟩=>thn (ho As s1 U H1 _ I1 q1) λu s2 zz=>?_;obtain⟨x,H2,I2,rx,a,ov,ex,g,q2⟩:=zz;subst ex;obtain rfl:u=Value.ref a:=rx;exact d_in hu I2 g ry λs3 I3=>⟨.bl ov.isSome,H2,I3,rfl,q2⟩
def Zjq (hu:X.A.units+1<cLine)(hi:PE X i ty)(ho:PE X o td):PC X .NotIn i o (Zi2 ty td):=by intro As s U H Q I h;refine thn (hi As s U H _ I h) λiv s1 ⟨y,H1,I1,ry,q1⟩=>thn (ho As s1 U H1 _ I1 q1) λu s2 zz=>?_;obtain⟨x,H2,I2,rx,a,ov,ex,g,q2⟩:=zz;subst ex;obtain rfl:u=Value.ref a:=rx;exact ZnQ hu I2 g ry λs3 I3=>⟨.bl (!ov.isSome),H2,I3,rfl,q2⟩
def Zjm (hu:X.A.units+1<cLine)(ho:PE X o td)(hi:PE X i ty)(hv:PE X value tv)(hs:swapsWith value (some (.Subscript o i pos')) pos.line X.env=pure false):
  PS X (.Assign [.Subscript o i pos'] value pos) (ZoA td ty tv):=by
 intro As s U H D I h;refine wpAny_Assign_Subscript (thn (hv As s U H _ I h) λr s1 ⟨v,H1,I1,rv,q1⟩=>thn (ho As s1 U H1 _ I1 q1) λu s2 ⟨x,H2,I2,rx,q2⟩=>thn (hi As s2 U H2 _ I2 q2) λiv s3 zz=>?_) hs;obtain⟨y,H3,I3,ry,a,H4,ex,g,q3⟩:=zz;subst ex;obtain rfl:u=Value.ref a:=rx;exact Zki hu I3 g ry rv λs4 I4=>⟨U,H4,I4,q3⟩
end
def ZlE (h:Heap)(hb:sysModules<h.objs.size):gQ P w H (h.push { cls:=.type "dict",data:=.dict #[] }) h.objs.size (.dK []):=
 ⟨YBC _,beq_eq_false_iff_ne.mpr (YBW (YAd hb)),[],.nil,Heap.DictOf.new h⟩
def kg:TE:=λ_ H Q=>∀p,H p=none->Q (.ref p) (upd H p (.dK []))
section
def ZhJ:PE X (.Dict [] [] pos) kg:=λAs s U H Q I h=>
 wpAny_Dict_empty ⟨.ref s.heap.objs.size,_,I.laid (a:=s.heap.objs.size) (o:=.dK []) (t':=s.toks) (λ_ _ q=>YAD _ q) (YAT _) (ZlE s.heap I.big),rfl,h _ (I.hok.fresh (YAT _))⟩
end
def Zi0:List (TE×TE)->St->Hp->(List (V×V)->Hp->Prop)->Prop
 | [],_,H,Q=>Q [] H
 | (tk,tv)::r,U,H,Q=>tk U H λx H1=>tv U H1 λy H2=>Zi0 r U H2 λps H3=>Q ((x,y)::ps) H3
def ZjB (kvs more:List (Key×V)):List (Key×V):=more.foldl (λacc kv=>ig acc kv.1 kv.2) kvs
structure M1 (X:Cx)(o:Expr)(m:Str)(Ay:Pos)(e:Expr)(Az:Pos):Prop where
 base:attributeBase o m X.env (eval o X.env)=eval o X.env
 few:((backTo Az (starEach [e] X.env)).all (λx=>!x.1)&&(backToKw Az (keywordEach [] X.env)).all (λx=>x.1.isSome)
  && decide (([e]:List Expr).length+([]:List Keyword).length+(if ([]:List Keyword).isEmpty then 0 else 1)<30))=true
 line:(Ay.endLine == Az.line)=true
 trees:backTo Az (starEach [e] X.env)=[(false,eval e X.env)]
structure M2 (X:Cx)(o:Expr)(m:Str)(Ay:Pos)(e f:Expr)(Az:Pos):Prop where
 base:attributeBase o m X.env (eval o X.env)=eval o X.env
 few:((backTo Az (starEach [e,f] X.env)).all (λx=>!x.1)&&(backToKw Az (keywordEach [] X.env)).all (λx=>x.1.isSome)
  && decide (([e,f]:List Expr).length+([]:List Keyword).length+(if ([]:List Keyword).isEmpty then 0 else 1)<30))=true
 line:(Ay.endLine == Az.line)=true
 trees:backTo Az (starEach [e,f] X.env)=[(false,eval e X.env),(false,eval f X.env)]
def IsD (H:Hp)(a:AE):Prop:=(∃kvs,Rd H a (.dK kvs))\/∃kvs,Rd H a (.dT kvs)
section
end
section
end
section
end
section
end
section
end
section
variable {κ:Type}[DecidableEq κ]
end
noncomputable def iF (cells:List (Str×AE)):List (Str×NameKind)->List (Str×AE)->List (Str×AE)
 | [],acc=>acc
 | (n,k)::r,acc=>if k == NameKind.free then iF cells r ((n,(cells.lookup n).getD 0)::acc) else iF cells r acc
theorem ZfE {cells:List (Str×AE)}:∀(names:List (Str×NameKind)) (acc:List (Str×AE)) (p:Str×AE),p∈acc->p∈iF cells names acc
 | [],_,_,h=>h
 | (n,k)::r,acc,p,h=>by
  unfold iF;split
  .exact ZfE r _ p (YAO _ h)
  .exact ZfE r acc p h
theorem ZfF {cells:List (Str×AE)}{x:Str}:∀(names:List (Str×NameKind)) (acc:List (Str×AE)),(x,NameKind.free)∈names->(x,(cells.lookup x).getD 0)∈iF cells names acc
 | [],_,h=>by cases h
 | (n,k)::r,acc,h=>by
  unfold iF;rcases YAJ.mp h with e | h
  .have e1:x=n:=congrArg Prod.fst e;have e2:NameKind.free=k:=congrArg Prod.snd e;subst e1 e2;exact ZfE r _ _ YAZ
  .split
   .exact ZfF r _ h
   .exact ZfF r _ h
theorem Zhk {cells:List (Str×AE)}:∀(names:List (Str×NameKind)) (acc:List (Str×AE)) (p:Str×AE),p∈iF cells names acc->p∈acc\/((p.1,NameKind.free)∈names/\p.2=(cells.lookup p.1).getD 0)
 | [],_,_,h=>.inl h
 | (n,k)::r,acc,p,h=>by
  unfold iF at h;split at h
  .rename_i hk
   have hk':k=NameKind.free:=by simpa using hk
   rcases Zhk r _ p h with q | ⟨q,e⟩
   .rcases YAJ.mp q with q | q
    .subst q;subst hk';exact .inr ⟨YAZ,rfl⟩
    .exact .inl q
   .exact .inr ⟨YAO _ q,e⟩
  .rcases Zhk r _ p h with q | ⟨q,e⟩
   .exact .inl q
   .exact .inr ⟨YAO _ q,e⟩
def ZeV (h:∀y∈sc.names,y.2=NameKind.free->∃c,env.cells.lookup y.1=some c):closureFor sc env=pure (iF env.cells sc.names []):=by
 have all:∀(names:List (Str×NameKind)) (acc:List (Str×AE)),(∀y∈names,y.2=NameKind.free->∃c,env.cells.lookup y.1=some c) ->
   (forIn names acc λ(y:Str×NameKind) (cs:List (Str×AE))=>(if (y.2 == NameKind.free)=true then (do let a <-cellOf env y.1;pure (ForInStep.yield ((y.1,a)::cs))) else pure (ForInStep.yield cs):Sem (ForInStep (List (Str×AE)))))=pure (iF env.cells names acc):=by
  intro names;induction names with
  | nil=>intro acc _;rfl
  | cons y r ih=>
   intro acc hy;obtain⟨n,k⟩:=y;rw[YCk];unfold iF;by_cases hk:k=NameKind.free
   .subst hk;obtain⟨c,hc⟩:=hy (n,NameKind.free) YAZ rfl;have hc':env.cells.lookup n=some c:=hc;simp only[beq_self_eq_true,if_true,cellOf,hc',pure_bind,Option.getD_some];exact ih _ λz hz=>hy z (YAO _ hz)
   .have hb:(k == NameKind.free)=false:=by simpa using hk
    simp only[hb,YCe,if_false,pure_bind];exact ih _ λz hz=>hy z (YAO _ hz)
 have q:=all sc.names [] h;unfold closureFor;show (forIn sc.names [] λ(y:Str×NameKind) (cs:List (Str×AE))=>_) >>= _=_
 first
  | (rw[q];rfl)
  | (refine Eq.trans (congrArg (λt=>t >>= λcs=>pure cs) q) ?_;rfl)
structure ie (X:Cx)(sc:Scope):Prop where
 kind:sc.kind=.function
 nocell:∀y∈sc.names,y.2≠NameKind.cell
 loc:∀y∈sc.names,y.2=NameKind.local->sc.names.lookup y.1=some .local
 clos:∀y∈sc.names,y.2=NameKind.free->(X.env.kindOf y.1=some .cell\/X.env.kindOf y.1=some .free)
noncomputable def pick (ix:List (Option Nat))(U:St):St:=ix.map λo=>o.bind λi=>(U[i]?).join
def ZjV (N M:AK)(sc:Scope)(ix:List (Option Nat)):Bool:=
 ix.length == N.length&&(N.zip ix).all λp=>match p.2 with | none=>true | some i=>decide (M[i]?=some p.1)&&decide (sc.names.lookup p.1=some NameKind.free)
def bx (X:Cx)(sc:Scope)(N:AK)(fp:List AE)(s_0:AF)(H:Hp)(pn:AB):Cx:=
 { X with N:=N,s_0:=s_0,H_0:=H,env:=compEnvC sc (iF X.env.cells sc.names []) s_0.heap.objs.size X.env,outer:=X.stack,stack:=X.stack,ex:=fp,fn:=λ_=>false,pn:=pn,xe:=λ_ _=>False }
def Zd3 (h:(relabel sc env).names.lookup x=some k):(x,k)∈sc.names\/(k=.cell/\(x,NameKind.free)∈sc.names):=by
 have m:=YBx h;unfold relabel at m;obtain⟨⟨n,k'⟩,hm,e⟩:=YAj.mp m;dsimp only at e;split at e
 .rename_i hc
  have e1:n=x:=congrArg Prod.fst e;have e2:NameKind.cell=k:=congrArg Prod.snd e;have e3:k'=NameKind.free:=by rw[YAY,YAY]at hc;simpa using hc.1.1
  subst e1 e2 e3;exact .inr ⟨rfl,hm⟩
 .have e1:n=x:=congrArg Prod.fst e;have e2:k'=k:=congrArg Prod.snd e;subst e1 e2;exact .inl hm
theorem Zdu {env:Env}{x:Str}:∀ {names:List (Str×NameKind)},names.lookup x=some NameKind.free ->
  (names.map λ(n,k)=>if (k == NameKind.free&&env.scope.kind == .function&&env.kindOf n == some .cell) then (n,NameKind.cell) else (n,k)).lookup x=some .cell \/
  (names.map λ(n,k)=>if (k == NameKind.free&&env.scope.kind == .function&&env.kindOf n == some .cell) then (n,NameKind.cell) else (n,k)).lookup x=some .free
 | [],h=>by simp at h
 | (n,k)::r,h=>by
  by_cases hx:x=n
  .subst hx;simp only[YCL,beq_self_eq_true]at h;cases h;simp only[YAc];split
   .left;simp[YCL]
   .right;simp[YCL]
  .have hb:(x == n)=false:=by simpa using hx
   simp only[YCL,hb]at h;have ih:=Zdu (env:=env) h;simp only[YAc];split
   .simpa only[YCL,hb] using ih
   .simpa only[YCL,hb] using ih
theorem ZcZ {α:Type}{x:Str}{c:α}:∀ {l:List (Str×α)},(x,c)∈l->∃c',l.lookup x=some c'
 | [],h=>by cases h
 | (n,d)::r,h=>by
  by_cases hx:x=n
  .subst hx;exact⟨d,by simp[YCL]⟩
  .have hb:(x == n)=false:=by simpa using hx
   rcases YAJ.mp h with e | h
   .exact absurd (congrArg Prod.fst e) hx
   .obtain⟨c',e⟩:=ZcZ h;exact⟨c',by simpa only[YCL,hb] using e⟩
section
def Inv.capt (I:Inv X As U H s)(S:ie X sc):∀y∈sc.names,y.2=NameKind.free->∃c,X.env.cells.lookup y.1=some c:=λy hy e=>I.ok.has y.1 (S.clos y hy e)
def Inv.clcell (I:Inv X As U H s)(S:ie X sc){x:Str}{c:AE}(h:(iF X.env.cells sc.names []).lookup x=some c):X.env.cells.lookup x=some c:=by
 rcases Zhk _ _ _ (YBx h) with q | ⟨q,e⟩
 .cases q
 .obtain⟨c',hc⟩:=I.capt S _ q rfl;have hc':X.env.cells.lookup x=some c':=hc;have e':c=(X.env.cells.lookup x).getD 0:=e;rw[hc',Option.getD_some]at e';rw[e'];exact hc'
def Inv.clhas (I:Inv X As U H s)(S:ie X sc){x:Str}(h:(x,NameKind.free)∈sc.names):∃c,(iF X.env.cells sc.names []).lookup x=some c/\X.env.cells.lookup x=some c:=by obtain⟨c,e⟩:=ZcZ (ZfF (cells:=X.env.cells) sc.names [] h);exact⟨c,e,I.clcell S e⟩
def Inv.block (I:Inv X As U H s)(S:ie X sc)(hix:ZjV N X.N sc ix=true)(hf:∀b∈fp,iN X As H b/\b<s.heap.objs.size)
  (hk:∀b o,s.heap.get? b=some o->h1.get? b=some o) (hn:h1.Ns s.heap.objs.size m):
  Inv (bx X sc N fp s H (X.pn++As)) [] (pick ix U) H { s with heap:=h1,toks:=tk }:=by
 have hC:∀b o,s.heap.get? b=some o->b≠s.heap.objs.size:=λb o e=>YAd (YAR e);have hcell:∀x c,(iF X.env.cells sc.names []).lookup x=some c->∃v,s.heap.IsCell c v:=λx c e=>I.cell x c (I.clcell S e);have stk:∀b,b≠X.env.locals->b∉X.fs->b∉frs X.stack:=λb h1 h2 hb=>by
  rcases YAJ.mp (I.stkSub b hb) with z | z
  .exact h1 z
  .exact h2 z
 rw[ZjV,YAY]at hix;refine⟨⟨I.ok.mod,S.kind,I.ok.glob,I.ok.blt,YAT _,?_,?_,?_,I.ok.hd,I.ok.frames,.inl rfl,?_,I.bs,YAP I.ok.bsz I.sz,?_,?_,I.stack,I.stkFree⟩,
  rfl,I.bare,Un.kept hk,⟨m,hn,?_⟩,?_,I.fresh,?_,?_,I.hok.kept hk,?_⟩
 .intro x y c e1 e2;exact I.ok.inj x y c (I.clcell S e1) (I.clcell S e2)
 .intro x hx;have hx:(relabel sc X.env).names.lookup x=some .cell\/(relabel sc X.env).names.lookup x=some .free:=hx;have hm:(x,NameKind.free)∈sc.names:=by
   rcases hx with hx | hx
   .rcases Zd3 hx with q | ⟨_,q⟩
    .exact absurd rfl (S.nocell _ q)
    .exact q
   .rcases Zd3 hx with q | ⟨q,_⟩
    .exact q
    .cases q
  obtain⟨c,e,_⟩:=I.clhas S hm;exact⟨c,e⟩
 .intro x c z;cases z
 .intro b hb;obtain⟨f,A4⟩:=hf b hb;refine⟨YAd A4,λx c e=>f.2.2.2.2.1 x c (I.clcell S e)⟩
 .intro b o e hb;obtain⟨⟨_,_,_,f3,_⟩,_⟩:=hf b hb;rcases f3 with z | z
  .exact I.ok.noex b o e z
  .exact absurd (YAR e) (Nat.not_lt.mpr (YAP I.ok.bsz z))
 .intro b hb;obtain⟨⟨_,f1,f2,_⟩,_⟩:=hf b hb;exact stk b f1 f2
 .intro i x v e1 e2 e3;have e1:N[i]?=some x:=e1;have hi:∃j,ix[i]?=some (some j)/\U[j]?=some (some v):=by
   unfold pick at e2;rw[YAK]at e2;cases q:ix[i]? with
   | none=>rw[q]at e2;cases e2
   | some o=>
    rw[q]at e2;cases o with
    | none=>cases e2
    | some j=>
     refine⟨j,rfl,?_⟩;have e4:(U[j]?).join=some v:=Option.some.inj e2;cases q2:U[j]? with
     | none=>rw[q2]at e4;cases e4
     | some w=>rw[q2]at e4;cases w with
      | none=>cases e4
      | some w=>rw[<-e4];rfl
  obtain⟨j,hj,hU⟩:=hi;have hz:(x,some j)∈N.zip ix:=by
   have q:(N.zip ix)[i]?=some (x,some j):=by rw[List.getElem?_zip_eq_some];exact⟨e1,hj⟩
   exact YAb q
  have hp:=YBL.mp hix.2 _ hz;dsimp only at hp;rw[YAY]at hp;have hM:X.N[j]?=some x:=of_decide_eq_true hp.1;have hfr:sc.names.lookup x=some NameKind.free:=of_decide_eq_true hp.2;have hmem:=YBx hfr;obtain⟨mo,hno,hlo⟩:=I.loc;have hvis:Vis X.env.scope x:=by
   rcases S.clos _ hmem rfl with z | z
   .exact .inr (.inl z)
   .exact .inr (.inr z)
  obtain⟨u,ru,l⟩:=hlo j x v hM hU hvis;refine⟨u,ru,.inr ⟨?_,?_⟩⟩
  .exact Zdu (env:=X.env) hfr
  .obtain⟨c,e,e'⟩:=I.clhas S hmem;refine⟨c,e,?_⟩;rcases l with⟨k,_⟩|⟨_,c',ec,z⟩
   .rcases S.clos _ hmem rfl with q | q
    .rw[k]at q;cases q
    .rw[k]at q;cases q
   .rw[e']at ec;cases ec;obtain⟨o,ho,hd⟩:=z;exact⟨o,hk _ _ ho,hd⟩
 .intro x c e;obtain⟨v,o,ho,hd⟩:=hcell x c e;exact⟨v,o,hk _ _ ho,hd⟩
 .intro x c e;exact I.freeC x c (I.clcell S e)
 .intro p hp;have hp:p∈X.pn++As:=by
   rcases YAW.mp hp with z | z
   .exact z
   .cases z
  obtain⟨e,n,ne,nf,d⟩:=I.pin p hp;exact⟨hk _ _ e,n,hC _ _ e,stk p.1 ne nf,d⟩
 .show (pick ix U).length=N.length;unfold pick;rw[YAB];simpa using hix.1
def Inv.unblock (I:Inv X As U H s)(hf:∀b∈fp,iN X As H b)(J:Inv (bx X sc N fp s H (X.pn++As)) [] τ H' s')(hs:Heap.SameBut s.heap.objs.size s'.heap h'):
  Inv X As U H' { s' with heap:=h' }:=by
 have nC:∀b o,s.heap.get? b=some o->b≠s.heap.objs.size:=λb o e=>YAd (YAR e);have hfr:H' s.heap.objs.size=none:=J.free;have u:Un (frs X.stack) fp H H' s.heap s'.heap:=J.base;have ok:HOk X.prog X.w H' h':=λb ob e=>by
  refine(J.hok b ob e).stay (λc w' hc q=>(hs.2 c ?_).trans q) (λ_ q=>q) λ_ _ q=>q;rintro rfl;rcases hc with rfl | hc
  .rw[hfr]at e;cases e
  .rw[hfr]at hc;cases hc
 refine I.call' (ch:=fp) J.os ⟨λb o e n h1 h2=>(hs.2 b (nC b o e)).trans (u.keep b o e n h1 h2),λb o e n h1 h2=>?_,u.free,λb o e h2=>?_,u.tups,u.frzs,u.tbls⟩ ok J.bare λb hb=>?_
 .obtain⟨sl,q⟩:=u.slot b o e n h1 h2;exact⟨sl,(hs.2 b (nC b o e)).trans q⟩
 .obtain⟨o',q⟩:=u.there b o e h2;exact⟨o',(hs.2 b (nC b o e)).trans q⟩
 .obtain⟨_,f1,_,f3,f4,f5⟩:=hf b hb;exact⟨f3,f1,f4,f5⟩
end
def j8 (X:Cx)(ifs:List Expr)(t:TT):Prop:=
 ∀(As:AB) (s:AF) (U:St) (H:Hp) (Q:Bool->Hp->Prop),Inv X As U H s->t U H Q ->
  wpAny (model X.prog X.w) X.A (forIn ifs true λc r=>if r=true then do let ok <-isTrue c X.env (eval c X.env);pure (ForInStep.yield ok) else pure (ForInStep.yield r)) (TP X As U Q) X.xe s
def jA:TT:=λ_ H Q=>Q true H
def Zbz:j8 X [] jA:=λ_ _ _ H _ I h=>wpAny_tests_nil ⟨H,I,h⟩
def Zb8 (h:PT X c t):j8 X [c] t:=λAs s U H Q I q=>wpAny_tests_one (h As s U H Q I q)
theorem Zgv (W:Nat->AF->Prop)
  (turn:∀n s,W n s->wpAny (model prog w) A (pyNext it) (λr s_1=>match r with
   | none=>R (.ok .next) s_1
   | some v=>wpAny (model prog w) A (letOwnedTupleGo tgt it v) (λ_ s1_'=>wpAny (model prog w) A (assign tgt env v) (λ_ s_2=>
     wpAny (model prog w) A (forIn ifs true λc r=>if r=true then do let ok <-isTrue c env (eval c env);pure (ForInStep.yield ok) else pure (ForInStep.yield r)) (λok s₃=>
      if ok=true then wpAny (model prog w) A (eval el env) (λx s₄=>
       wpAny (model prog w) A (call (.builtin "list.append") [acc,x]) (λ_ s₅=>∃m,m<n/\W m s₅) (λ_ _=>False) s₄) (λ_ _=>False) s₃
      else ∃m,m<n/\W m s₃) (λ_ _=>False) s_2) (λ_ _=>False) s1_') (λ_ _=>False) s_1) (λ_ _=>False) s)
  (n:Nat) (h:W n s):codeAny (model prog w) A (.compLoop (.ListComp el [⟨tgt,iter,ifs,0⟩] scp pos) 0 it acc env) R s:=by
 refine codeAny_loop rfl W (λn s hI=>?_) n h;show wpAny _ A ((compTurn (.ListComp el [⟨tgt,iter,ifs,0⟩] scp pos) 0 it acc env).onRaise (λx=>do noteFrame x env;theTreesLotGoes x)) _ _ s;refine wpAny_noted ?_;rw[compTurn_list];refine YAA (wpAny_standAt (YAA (YBg (turn n s hI) (λr s1 q1=>?_) λ_ _ z=>z.elim)));cases r with
 | none=>exact YAC q1
 | some v=>
  refine YAA (YBg q1 (λ_ s1' q1'=>?_) λ_ _ z=>z.elim);refine YAA (YBg q1' (λ_ s2 q2=>YAA (YBg q2 (λok s3 q3=>?_) λ_ _ z=>z.elim)) λ_ _ z=>z.elim);cases ok with
  | false=>exact YAC ⟨rfl,q3⟩
  | true=>exact YAA (YAA (YBg q3 (λx s4 q4=>YAA (YBg q4 (λ_ s5 q5=>YAC (YAC ⟨rfl,q5⟩)) λ_ _ z=>z.elim)) λ_ _ z=>z.elim))
def ZmG (ix:List (Option Nat))(wi:TI)(g:TG)(tt:TT)(te:TE):TE:=λU H Q=>wi U H λJ H1=>∀acc,H1 acc=none->∃W:Nat->Nat->St->Hp->Prop,(∃m,W 0 m (pick ix U) (upd H1 acc (.lst []))) /\
 ∀i m τ H2,W i m τ H2->(J.stop i H2/\Q (.ref acc) H2)\/(J.go i H2/\∃Nx:St->Hp->Prop,(∀τ' H',Nx τ' H'->∃m',m'<m/\W (i+1) m' τ' H') /\
  ∀x H3,J.yld i H2 x H3->g x τ H3 λτ2 H4=>tt τ2 H4 λb H5=>if b=true then te τ2 H5 λy H6=>∃ys,H6 acc=some (.lst ys)/\ys.length<sizeLine/\Nx τ2 (upd H6 acc (.lst (ys++[y]))) else Nx τ2 H5)
section
def ZeU {Q:VK}{As:AB}{s:AF}{U:St}{H:Hp}{it:AE}{fp:List AE}{tn:Nat->Heap->Prop}{J:It}{RR:Value->AE->Result->AF->Prop}
  (hc:X.calm=true) (S:ie X sc) (hix:ZjV N X.N sc ix=true)
  (hg:∀fp s_0 H_0 pn,PG (bx X sc N fp s_0 H_0 pn) tg g) (ht:∀fp s_0 H_0 pn,j8 (bx X sc N fp s_0 H_0 pn) ifs tt) (he:∀fp s_0 H_0 pn,PE (bx X sc N fp s_0 H_0 pn) elt te)
  (I:Inv X As U H s) (T:jU X.prog X.w X.K tg J fp it tn) (st:tn 0 s.heap) (hf:∀b∈fp,iN X As H b)
  (q:∀acc,H acc=none->∃W:Nat->Nat->St->Hp->Prop,(∃m,W 0 m (pick ix U) (upd H acc (.lst []))) /\
   ∀i m τ H2,W i m τ H2->(J.stop i H2/\Q (.ref acc) H2)\/(J.go i H2/\∃Nx:St->Hp->Prop,(∀τ' H',Nx τ' H'->∃m',m'<m/\W (i+1) m' τ' H') /\
    ∀x H3,J.yld i H2 x H3->g x τ H3 λτ2 H4=>tt τ2 H4 λb H5=>if b=true then te τ2 H5 λy H6=>∃ys,H6 acc=some (.lst ys)/\ys.length<sizeLine/\Nx τ2 (upd H6 acc (.lst (ys++[y]))) else Nx τ2 H5))
  (hR:∀(acc:AE) (s₃ s':AF) (τ:St) (H':Hp),Inv X As U (upd H acc (.lst [])) s₃->(∀b∈fp,iN X As (upd H acc (.lst [])) b)->Inv (bx X sc N fp s₃ (upd H acc (.lst [])) (X.pn++As)) [] τ H' s'->Q (.ref acc) H' ->
   RR (.ref acc) s₃.heap.objs.size (.ok .next) s'):
  wpAny (model X.prog X.w) X.A (newList []) (λacc s₃=>wpAny (model X.prog X.w) X.A (newFunctionEnv sc X.env.globals (iF X.env.cells sc.names []) [] X.env.qual none .none (some X.env)) (λcenv s₄=>
   codeAny (model X.prog X.w) X.A (.compStart (.ListComp elt [⟨tg,iter,ifs,0⟩] sc pos) 0 (.ref it) acc { cenv with scope:=relabel sc X.env }) (RR acc cenv.locals) s₄) X.xe s₃) X.xe s:=by
 refine YCT ?_;have hfr:=I.fresh;have I3:=I.lnew (its:=[]) (ys:=[]) (t':=s.toks) .nil (YBC _);have fne:∀b∈fp,b<s.heap.objs.size:=λb hb=>by obtain⟨o,e,_⟩:=T.obj 0 _ st b hb;exact YAR e
 have hf3:∀b∈fp,iN X As (upd H s.heap.objs.size (.lst [])) b:=λb hb=>by obtain⟨f0,f⟩:=hf b hb;refine⟨?_,f⟩;rw[Zak (YAd (fne b hb))];exact f0
 have q3:=q _ hfr;have st3:tn 0 (s.heap.push { cls:=.type "list",data:=.seq ([]:AD).toArray }):=T.keep _ _ _ st λb _ o e=>YAD _ e;generalize e3:({ s with heap:=s.heap.push { cls:=.type "list",data:=.seq ([]:AD).toArray },toks:=s.toks }:AF)=s3 at I3;have es3:s3.heap=s.heap.push { cls:=.type "list",data:=.seq ([]:AD).toArray }:=by rw[<-e3]
 rw[<-es3]at st3;have hf3':∀b∈fp,iN X As (upd H s.heap.objs.size (.lst [])) b/\b<s3.heap.objs.size:=λb hb=>⟨hf3 b hb,by rw[es3,YBa];exact YBy (fne b hb)⟩;refine wpAny_newFunctionEnv S.nocell (by intro y hy;cases hy) (λh9 hns1 hsb1=>?_) S.kind;have hk:∀b o,s3.heap.get? b=some o->h9.get? b=some o:=λb o e=>hsb1.extBut b o (YAd (YAR e)) (YAD _ e);have I4:=I3.block (N:=N) (ix:=ix) (tk:=s3.toks+([]:List (Str×Value)).length) S hix hf3' hk hns1;have st4:tn 0 h9:=T.keep _ _ _ st3 λb _ o e=>hk b o e;obtain⟨W,⟨m0,w0⟩,turn⟩:=q3;have statN:∀ {H':Hp},(∀b∈fp,H' b=none)->∀b∈fp,iN (bx X sc N fp s3 (upd H s.heap.objs.size (.lst [])) (X.pn++As)) [] H' b:=λ{H'} hn b hb=>by
  obtain⟨⟨_,f1,f2,f3,f4,f5⟩,A4⟩:=hf3' b hb;refine⟨hn b hb,YAd A4,λz=>?_,.inl hb,λx c e=>f4 x c (I3.clcell S e),λp hp=>?_⟩
  .rcases YAJ.mp (I3.stkSub b z) with z | z
   .exact f1 z
   .exact f2 z
  .refine f5 p ?_;rcases YAW.mp hp with z | z
   .exact z
   .cases z
 have loop:∀s4:AF,s4={ s3 with heap:=h9,toks:=s3.toks+([]:List (Str×Value)).length } ->
   codeAny (model X.prog X.w) X.A (.compLoop (.ListComp elt [⟨tg,iter,ifs,0⟩] sc pos) 0 (.ref it) (.ref s.heap.objs.size) (compEnvC sc (iF X.env.cells sc.names []) s3.heap.objs.size X.env)) (RR (.ref s.heap.objs.size) s3.heap.objs.size) s4:=by
  rintro s4 rfl;refine Zgv (λn s'=>∃i τ H',Inv (bx X sc N fp s3 (upd H s.heap.objs.size (.lst [])) (X.pn++As)) [] τ H' s'/\tn i s'.heap/\(∀b∈fp,H' b=none)/\W i n τ H') ?_ m0 ⟨0,_,_,I4,st4,λb hb=>(hf3 b hb).1,w0⟩;rintro n s5 ⟨i,τ,H5,I5,st5,fr5,w5⟩;rcases turn i n τ H5 w5 with⟨stop,qn⟩|⟨go,Nx,hN,step⟩
  .refine thn (T.done (bx X sc N fp s3 (upd H s.heap.objs.size (.lst [])) (X.pn++As)) rfl rfl rfl hc i [] s5 τ H5 (λ_ _=>False) I5 (statN fr5) st5 stop) λr s6 zz=>?_;obtain⟨hr,I6⟩:=zz;subst hr;exact hR _ _ _ _ _ I3 hf3 I6 qn
  .refine thn (T.item (bx X sc N fp s3 (upd H s.heap.objs.size (.lst [])) (X.pn++As)) rfl rfl rfl hc i [] s5 τ H5 (λ_ _=>False) I5 (statN fr5) st5 go) λr s6 zz=>?_;obtain⟨u,hr,h6⟩:=zz;subst hr;refine thn h6 λ_ s7 zz=>?_;obtain⟨x,H7,I7,r7,y7,st7,fr7⟩:=zz;have I7':=I7.pinned (statN fr7) (T.obj _ _ st7);refine thn (hg _ _ _ _ _ s7 τ H7 x u _ I7' r7 (step x H7 y7)) λ_ s8 zz=>?_;obtain⟨τ8,H8,I8,q8⟩:=zz;have again:∀ {s9:AF} {τ9:St} {H9:Hp},Inv (bx X sc N fp s3 (upd H s.heap.objs.size (.lst [])) (X.pn++As)) ([]++ZfT fp s7.heap) τ9 H9 s9->Nx τ9 H9 ->
     ∃m,m<n/\∃i τ H',Inv (bx X sc N fp s3 (upd H s.heap.objs.size (.lst [])) (X.pn++As)) [] τ H' s9/\tn i s9.heap/\(∀b∈fp,H' b=none)/\W i m τ H':=λ{s9 τ9 H9} I9 n9=>by
    obtain⟨m',hm,w9⟩:=hN τ9 H9 n9;refine⟨m',hm,i+1,τ9,H9,I9.unpinned,T.keep _ _ _ st7 λb hb o e=>(I9.pin (b,o) (YBU _ (YBU _ (Zcz hb e)))).1,λb hb=>?_,w9⟩;obtain⟨o,e,d⟩:=T.obj _ _ st7 b hb;exact(I9.pin (b,o) (YBU _ (YBU _ (Zcz hb e)))).2.1
   refine thn (ht _ _ _ _ _ s8 τ8 H8 _ I8 q8) λok s9 zz=>?_;obtain⟨H9,I9,q9⟩:=zz;cases ok with
   | false=>exact again I9 q9
   | true=>
    rw[YAS rfl]at q9 ⊢;refine thn (he _ _ _ _ _ s9 τ8 H9 _ I9 q9) λyv s10 zz=>?_;obtain⟨y,H10,I10,r10,ys,ha,hz,q10⟩:=zz;refine thn (ZbO _ s10 τ8 H10 (.ref s.heap.objs.size) [y] (.ref s.heap.objs.size) [yv] (λv H'=>v=.non/\Nx τ8 H') I10 rfl (.cons r10 .nil) ⟨_,ys,y,rfl,rfl,ha,hz,rfl,q10⟩) λ_ s11 zz=>?_;obtain⟨_,H11,I11,_,_,q11⟩:=zz;exact again I11 q11
 exact codeAny_compStart_list (loop _ rfl) (T.self _ 0 _ _ _ st4 (loop _ rfl))
def ZbM (hc:X.calm=true)(S:ie X sc)(hix:ZjV N X.N sc ix=true)(hi:PI X tg iter wi)
  (hg:∀fp s_0 H_0 pn,PG (bx X sc N fp s_0 H_0 pn) tg g) (ht:∀fp s_0 H_0 pn,j8 (bx X sc N fp s_0 H_0 pn) ifs tt) (he:∀fp s_0 H_0 pn,PE (bx X sc N fp s_0 H_0 pn) elt te)
  (hs:∀x,foldedSetIterable iter X.env x=pure x:=by intro _;rfl):PE X (.ListComp elt [⟨tg,iter,ifs,0⟩] sc pos) (ZmG ix wi g tt te):=by
 intro As s U H Q I h;rw[eval_ListComp];refine wpAny_comprehension_free (use:=none) rfl hs (ZeV (I.capt S)) S.kind S.loc (thn (hi As s U H _ I h) λv s1 h1=>thn h1 λitv s2 h2=>?_);obtain⟨it,fp,tn,J,H2,e,I2,T,st2,f2,q⟩:=h2;subst e;refine ZeU (Q:=Q) (RR:=λacc C=>compPost (model X.prog X.w) X.A X.xe none (EP X As U Q) acc C) hc S hix hg ht he I2 T st2 f2 q ?_;intro acc s3 s' τ H' I3 hf3 J' qq;obtain⟨m,hn,_⟩:=J'.loc;exact⟨m,hn,λh' hs'=>⟨.ref acc,H',I3.unblock hf3 J' hs',rfl,qq⟩⟩
def Zdg (hsw:swapsWith (.ListComp elt [⟨tg,iter,ifs,0⟩] sc pos) (some (.Name x px)) spos.line X.env=pure true)
  (hN:X.N.Nodup) (hi':X.N[i]?=some x) (hx:X.env.scope.names.lookup x=some .local) (hc:X.calm=true) (S:ie X sc) (hix:ZjV N X.N sc ix=true) (hi:PI X tg iter wi)
  (hg:∀fp s_0 H_0 pn,PG (bx X sc N fp s_0 H_0 pn) tg g) (ht:∀fp s_0 H_0 pn,j8 (bx X sc N fp s_0 H_0 pn) ifs tt) (he:∀fp s_0 H_0 pn,PE (bx X sc N fp s_0 H_0 pn) elt te)
  (hs:∀x,foldedSetIterable iter X.env x=pure x:=by intro _;rfl):PS X (.Assign [.Name x px] (.ListComp elt [⟨tg,iter,ifs,0⟩] sc pos) spos) (jY (ZmG ix wi g tt te) (Zcb i)):=by
 intro As s U H D I h;rw[exec_Assign_Name_used _ _ _ _ hsw];refine YAA (wpAny_standAt (YAA ?_));show wpAny _ X.A (do let _ <-comprehension (.ListComp elt [⟨tg,iter,ifs,0⟩] sc pos) sc X.env _ (newList []) false (eval iter X.env) (some (assign (.Name x px) X.env))) _ _ s;refine YAA (YBg (wpAny_comprehension_free (use:=some (assign (.Name x px) X.env)) (Q:=λ_ s'=>SP X As D .next s') rfl hs (ZeV (I.capt S)) S.kind S.loc
  (thn (hi As s U H _ I h) λv s1 h1=>thn h1 λitv s2 h2=>?_)) (λ_ s' hq=>YAC (YAC hq)) λ_ _ z=>z)
 obtain⟨it,fp,tn,J,H2,e,I2,T,st2,f2,q⟩:=h2;subst e;refine ZeU (Q:=λy H1=>Zcb i y U H1 D.nx) (RR:=λacc C=>compPost (model X.prog X.w) X.A X.xe (some (assign (.Name x px) X.env)) (λ_ s'=>SP X As D .next s') acc C) hc S hix hg ht he I2 T st2 f2 q ?_;intro acc s3 s' τ H' I3 hf3 J' qq;show wpAny _ X.A (assign (.Name x px) X.env (.ref acc)) _ _ _;have I5:Inv X As U H' s':=I3.unblock hf3 J' (.refl ..);obtain⟨m,hn,_⟩:=J'.loc;have hn:s'.heap.Ns s3.heap.objs.size m:=hn;have hLC:s3.heap.objs.size≠X.env.locals:=Nat.ne_of_gt I3.lt;refine wpAny_assign_Name (ZfO I5 hN hi' (.inl hx) (v:=.ref acc) rfl (λs6 I6 ⟨a,sb,ha⟩=>?_) (.inr hx));have ea:a≠s3.heap.objs.size:=by
  rcases ha with ha | ha
  .rw[ha];exact YBW hLC
  .obtain⟨v,o,ho,_⟩:=I3.cell x a ha;exact YAd (YAR ho)
 refine⟨m,hn.sameBut sb (YBW ea),λh' hs'=>?_⟩;have hfr:H' s3.heap.objs.size=none:=J'.free;refine⟨_,H',?_,qq⟩;have ok:HOk X.prog X.w H' h':=λb ob e=>by
  refine(I6.hok b ob e).stay (λc w' hc q=>(hs'.2 c ?_).trans q) (λ_ q=>q) λ_ _ q=>q;rintro rfl;rcases hc with rfl | hc
  .rw[hfr]at e;cases e
  .rw[hfr]at hc;cases hc
 have l3:X.s_0.heap.objs.size<=s3.heap.objs.size:=I3.sz;have cne:∀y c,X.env.cells.lookup y=some c->c≠s3.heap.objs.size:=λy c e z=>by obtain⟨v,o,ho,_⟩:=I3.cell y c e;exact absurd (YAR ho) (by rw[z];exact YBM _)
 exact I6.turned (t':=s6.toks) (it:=s3.heap.objs.size) (λb o hb e=>(hs'.2 b hb).trans e) hfr hLC (.inr l3) cne λp hp z=>by have:=(I3.pin p hp).1;exact absurd (YAR this) (by rw[z];exact YBM _)
end
noncomputable abbrev tx (l:Q11):V:=.str ⟨l.toArray⟩
def Zds:tx a=tx b↔a=b:=by
 constructor
 .intro h;have h1:(⟨a.toArray⟩:Str)=⟨b.toArray⟩:=V.str.inj h;have h2:a.toArray=b.toArray:=congrArg Str.cps h1;simpa using h2
 .rintro rfl;rfl
def ZcK:decide (tx a=tx b)=decide (a=b):=by
 by_cases h:a=b
 .subst h;simp
 .rw[decide_eq_false h,decide_eq_false λz=>h (Zds.mp z)]
def Ze1 (l:Q11):(⟨l.toArray⟩:Str).length=l.length:=by show l.toArray.size=l.length;simp
def rT (C:Q11->Q11->Prop)(g:Q11->Q11->V):R2:=λx y H Q=>∃a b,x=tx a/\y=tx b/\C a b/\Q (g a b) H
def cut {α:Type}(l:List α)(lo hi:Option Int):List α:=(l.drop (HT.sIx l.length 0 lo)).take (HT.sIx l.length l.length hi-HT.sIx l.length 0 lo)
def Zdp (l:List α)(lo hi:Option Int):(cut l lo hi).length<=l.length:=by
 unfold cut;rw[YAX,YAk]
 lia
def ZpU (l:List α)(a b:Nat):cut l (some (a:Int)) (some (b:Int))=(l.drop a).take (b-a):=by
 unfold cut;rw[HT.sIx_nat,HT.sIx_nat];apply YBZ;intro i;simp only[YBr,YBj];by_cases h1:i<min b l.length-min a l.length
 .rw[YAS h1,YAS ∅];congr 1;lia
 .rw[YAL h1];by_cases h2:i<b-a
  .rw[YAS h2,YAi ∅]
  .rw[YAL h2]
def Zen (l:List α)(b:Nat):cut l none (some (b:Int))=l.take b:=by
 unfold cut;rw[HT.sIx_nat,HT.sIx_none];apply YBZ;intro i;simp only[YBr,YBj,Nat.zero_add,Nat.sub_zero];by_cases h1:i<min b l.length
 .rw[YAS h1,YAS ∅]
 .rw[YAL h1];by_cases h2:i<b
  .rw[YAS h2,YAi ∅]
  .rw[YAL h2]
def ZcF (l:List α)(a:Nat):cut l (some (a:Int)) none=l.drop a:=by
 unfold cut;rw[HT.sIx_nat,HT.sIx_none];apply YBZ;intro i;simp only[YBr,YBj];by_cases h1:i<l.length-min a l.length
 .rw[YAS h1];congr 1;lia
 .rw[YAL h1,YAi ∅]
noncomputable def clp (n:Nat)(v:Option Int)(d:Int):Int:=match v with
 | none=>d
 | some i=>max 0 (min (if i<0 then i+(n:Int) else i) (n:Int))
def Zmp (n d:Nat)(o:Option Int):clp n o (d:Int)=((HT.sIx n d o:Nat):Int):=by
 cases o with
 | none=>rw[HT.sIx_none];rfl
 | some v=>
  have:=HT.clip_eq v n d;unfold clp;dsimp only;rw[<-this];split<;>lia
def Zi6 (lo hi:Option Int)(n:Nat):Builtin.Str.strSliceIndices lo hi 1 n=(List.range (HT.sIx n n hi-HT.sIx n 0 lo)).map λk=>HT.sIx n 0 lo+k:=by
 have g:Builtin.Str.strSliceIndices lo hi 1 n=sliceRange (clp n lo ((0:Nat):Int)) (clp n hi (n:Int)) 1:=by cases lo<;>cases hi<;>rfl
 rw[g,Zmp,Zmp];generalize HT.sIx n 0 lo=a;generalize HT.sIx n n hi=b;unfold sliceRange;have hc:(if (1:Int)>0 then (if (a:Int)<(b:Int) then ((b:Int)-a+1-1)/1 else 0) else (if (a:Int)>(b:Int) then ((a:Int)-b-1-1)/(-1) else 0)).toNat=b-a:=by simp only[show (1:Int)>0 by decide,if_true,Int.ediv_one];split<;>lia
 dsimp only;rw[hc];apply YBm;intro k _
 lia
def ZkF (l:Q11)(lo hi:Option Int):Txt.slice ⟨l.toArray⟩ lo hi=⟨(cut l lo hi).toArray⟩:=by
 have h1:=HT.sIx_le l.length 0 (YBC _) lo;have h2:=HT.sIx_le l.length l.length (YAT _) hi;unfold Txt.slice;rw[Ze1,Zi6];have e:((List.range (HT.sIx l.length l.length hi-HT.sIx l.length 0 lo)).map λk=>HT.sIx l.length 0 lo+k).filterMap (λi=>l.toArray[i]?)=cut l lo hi:=by
  unfold cut;generalize HT.sIx l.length 0 lo=a at *;generalize HT.sIx l.length l.length hi=b at *;have hab:∀n,a+n<=l.length->((List.range n).map λk=>a+k).filterMap (λi=>l.toArray[i]?)=(l.drop a).take n:=by
   intro n;induction n with
   | zero=>intro _;simp
   | succ n ih=>
    intro hn;rw[YCU,YAr,List.filterMap_append,ih ∅,YDX];have:(l.drop a)[n]?=l[a+n]?:=YBj;simp[this,YAH (show a+n<l.length by lia)]
  by_cases hle:a<=b
  .exact hab _ ∅
  .have:b-a=0:=by lia
   rw[this];simp
 split
 .rename_i hc
  simp only[beq_self_eq_true,YDB,YAB,YAt]at hc;have hc':HT.sIx l.length l.length hi-HT.sIx l.length 0 lo=l.length:=by simpa using hc
  have:cut l lo hi=l:=by
   unfold cut;have ha:HT.sIx l.length 0 lo=0:=by lia
   rw[hc',ha,YBk,YAq (YAT _)]
  rw[this]
 .show (⟨(List.filterMap (λi=>l.toArray[i]?) _).toArray⟩:Str)=_;rw[e]
section
def Za3:OpR X (binaryOp .Add) (rT (λa b=>a.length+b.length<=sizeLine) λa b=>tx (a++b)):=by
 rintro As s U H x y v u Q I rx ry ⟨a,b,rfl,rfl,hz,q⟩;refine Zio As s U H _ _ v u Q I rx ry ⟨_,_,rfl,rfl,by rw[Ze1,Ze1];exact hz,?_⟩;have e:((⟨a.toArray⟩:Str)++(⟨b.toArray⟩:Str))=⟨(a++b).toArray⟩:=by show (⟨a.toArray++b.toArray⟩:Str)=_;simp
 rw[e];exact q
def Zin:OpR X (compareOp .In) (λx y H Q=>∃c l,x=tx [c]/\y=tx l/\Q (.bl (decide (c∈l))) H):=by
 rintro As s U H x y v u Q I rx ry ⟨c,l,rfl,rfl,q⟩;refine ZfZ As s U H _ _ v u Q I rx ry ⟨_,_,rfl,rfl,?_⟩;have e:=StrLaws.found_one ⟨l.toArray⟩ c;have e':(!(Builtin.Str.occurrences ⟨l.toArray⟩ ⟨[c].toArray⟩ 0 (⟨l.toArray⟩:Str).length 1).isEmpty)=decide (c∈l):=by rw[show ([c].toArray)=#[c] from rfl,e]
 rw[e'];exact q
def Zge:IxR X (λx y H Q=>∃l i c,x=tx l/\y=.int i/\l.length<=sizeLine/\atI l i=some c/\Q (tx [c]) H):=by rintro value slice As s U H x y v u Q I rx ry ⟨l,i,c,rfl,rfl,hz,h,q⟩ hs;exact ZpD value slice As s U H _ _ v u Q I rx ry ⟨_,i,c,rfl,rfl,by rw[Ze1];exact hz,h,q⟩ hs
def ZbS:SlR X (λx lo hi H Q=>∃l,x=tx l/\l.length<=sizeLine/\Q (tx (cut l lo hi)) H):=by
 rintro As s U H x v vl vu lo hi sl Q I rx hs pl pu ⟨l,rfl,hz,q⟩;obtain⟨t,rfl⟩:=rx;refine⟨"str",_,F.slot_str_getitem.lookup,typeIs_str _ _ _,?_⟩;have part:∀ {v:Value} {o:Option Int},IsPart v o->∃p:Option (Int×Tok),v=partValue p/\p.map (·.1)=o:=λ{v o} h=>by
  cases h with
  | none=>exact⟨none,rfl,rfl⟩
  | int i t=>exact⟨some (i,t),rfl,rfl⟩
 obtain⟨a,rfl,ea⟩:=part pl;obtain⟨b,rfl,eb⟩:=part pu;refine wpAny_getItem_str_slice (l:=a) (u:=b) (st:=none) hs rfl ?_;have e:(if ((1:Int) == 1&&(Builtin.Str.strSliceIndices lo hi 1 (⟨l.toArray⟩:Str).length).length == (⟨l.toArray⟩:Str).length)=true then (⟨l.toArray⟩:Str) else ⟨((Builtin.Str.strSliceIndices lo hi 1 (⟨l.toArray⟩:Str).length).filterMap ((⟨l.toArray⟩:Str).cps[·]?)).toArray⟩)=⟨(cut l lo hi).toArray⟩:=ZkF l lo hi;unfold sliceMade slicePicked;rw[ea,eb];refine post_val_or_str ?_;refine⟨?_,λt' k=>?_⟩
 .show (if ((1:Int) == 1&&(Builtin.Str.strSliceIndices lo hi 1 (⟨l.toArray⟩:Str).length).length == (⟨l.toArray⟩:Str).length)=true then (⟨l.toArray⟩:Str) else ⟨((Builtin.Str.strSliceIndices lo hi 1 (⟨l.toArray⟩:Str).length).filterMap ((⟨l.toArray⟩:Str).cps[·]?)).toArray⟩).length<=sizeLine;rw[e,Ze1];exact YAP (Zdp _ _ _) hz
 .refine⟨tx (cut l lo hi),H,I.tok _,⟨t',?_⟩,q⟩;exact congrArg (λz=>Value.str z t') e
theorem ZeF:∀ {ls:Q22} {us:AD},gs (ls.map tx) us->StrsAre us (ls.map λl=>(⟨l.toArray⟩:Str))
 | [],us,r=>by
  rw[List.map_nil]at r;cases r;exact .nil
 | l::ls,us,r=>by
  rw[YAc]at r;cases r with
  | cons r1 r2=>
   obtain⟨t,e⟩:=r1;subst e;exact .cons _ t (ZeF r2)
end
def Its (l:Q11):It:=⟨λi _=>i<l.length,λi H x H'=>H'=H/\∃c,l[i]?=some c/\x=tx [c],λi _=>l.length<=i⟩
def ZiS {P:AH} {w:AJ} {K:Q4} {tg:Expr} (l:Q11) (t:Tok) (it:AE) (ty:String) (hty:ty="str_ascii_iterator"\/ty="str_iterator"):jU P w K tg (Its l) [it] it (λi h=>h.IsStrIter it ty ⟨l.toArray⟩ t i) where
 mem:=by simp
 obj:=λi h st b hb=>by
  have e:b=it:=by simpa using hb
  subst e;obtain⟨o,e,c,d⟩:=st;exact⟨o,e,λv z=>by rw[d]at z;cases z⟩
 keep:=λi h h' st k=>by obtain⟨o,e,r⟩:=st;exact⟨o,k it (by simp) o e,r⟩
 item:=by
  intro X hP hw hK hc i As s U H E I hf st hg;subst hP hw hK;obtain⟨f0,f1,f2,f3,f4,f5⟩:=hf it (by simp);have hg:i<l.length:=hg;have hx:(⟨l.toArray⟩:Str).cps[i]?=some l[i]:=by show l.toArray[i]?=some l[i];simp[hg]
  have fin:∀(h':Heap) (tk:Tok),h'.IsStrIter it ty ⟨l.toArray⟩ t (i+1)->Heap.SameBut it s.heap h' ->
    ∃u,some (Value.str ⟨#[l[i]]⟩ s.toks)=some u/\wpAny (model X.prog X.w) X.A (letOwnedTupleGo tg (.ref it) u) (λ_ s2=>∃x H',Inv X As U H' s2/\gC x u/\(Its l).yld i H x H'/\s2.heap.IsStrIter it ty ⟨l.toArray⟩ t (i+1)/\∀b∈[it],H' b=none) E { s with heap:=h',toks:=tk }:=λh' tk st' sb=>by
   have I1:Inv X As U H { s with heap:=h',toks:=tk }:=I.turned (t':=tk) (λb o hb e=>(sb.2 b hb).trans e) f0 f1 f3 f4 f5;obtain⟨o,e,c,d⟩:=id st';refine⟨_,rfl,Zny (s:={ s with heap:=h',toks:=tk }) e c d ?_ ⟨tx [l[i]],H,I1,⟨_,rfl⟩,⟨rfl,l[i],by simp[hg],rfl⟩,st',λb hb=>(hf b hb).1⟩⟩;rcases hty with rfl | rfl<;>decide
  rcases hty with rfl | rfl
  .exact wpAny_pyNext_ascii_item st hx λh' st' sb=>fin h' _ st' sb
  .exact wpAny_pyNext_wide_item st hx λh' st' sb=>fin h' _ st' sb
 done:=by
  intro X hP hw hK hc i As s U H E I hf st hg;subst hP hw hK;obtain⟨f0,f1,f2,f3,f4,f5⟩:=hf it (by simp);have hg:l.length<=i:=hg;have hx:(⟨l.toArray⟩:Str).cps[i]?=none:=by show l.toArray[i]?=none;simp[hg]
  rcases hty with rfl | rfl
  .exact wpAny_pyNext_ascii_end (I.ok.hd hc) st hx λh' eb=>⟨rfl,I.turned (t':=s.toks) (λb o hb e=>eb b o hb e) f0 f1 f3 f4 f5⟩
  .exact wpAny_pyNext_wide_end (I.ok.hd hc) st hx λh' eb=>⟨rfl,I.turned (t':=s.toks) (λb o hb e=>eb b o hb e) f0 f1 f3 f4 f5⟩
 self:=by
  intro A i s Q E st h;rcases hty with rfl | rfl
  .exact wpAny_pyIter_striter_ascii st h
  .exact wpAny_pyIter_striter_wide st h
section
def ZpJ (tl:TE):TI:=λU H R=>tl U H λx H1=>∃l,x=tx l/\R (Its l) H1
def Zff (hl:PE X l tl):PI X tg l (ZpJ tl):=by
 intro As s U H R I h;refine thn (hl As s U H _ I h) λv s1 zz=>?_;obtain⟨x,H1,I1,r1,q1⟩:=zz;obtain⟨l,rfl,q⟩:=q1;obtain⟨t,rfl⟩:=r1;have fin:∀ty,(ty="str_ascii_iterator"\/ty="str_iterator")->PIE X As U tg R (.ref s1.heap.objs.size) { s1 with heap:=s1.heap.push { cls:=.type ty,data:=.fields #[.str ⟨l.toArray⟩ t,.int 0 0] } }:=λty hty=>by
  refine⟨s1.heap.objs.size,[s1.heap.objs.size],_,_,H1,rfl,I1.kept (t':=s1.toks) λb o e=>YAD _ e,ZiS l t _ ty hty,⟨_,YAU _ rfl,rfl,rfl⟩,λb hb=>?_,q⟩;have e:b=s1.heap.objs.size:=by simpa using hb
  subst e;exact I1.fpOk (YAT _) (I1.hok.fresh (YAT _))
 cases ha:(⟨l.toArray⟩:Str).cps.all (· < 128)
 .exact wpAny_pyIter_wide ha (fin _ (.inr rfl))
 .exact wpAny_pyIter_ascii ha (fin _ (.inl rfl))
end
def Zlt {l:Q11}{g:TG}{tb:TS}{D:iM}{U:St}{H:Hp}(Pv:Nat->St->Hp->Prop)(h0:Pv 0 U H)
  (hs:∀i c U H,l[i]?=some c->Pv i U H->g (tx [c]) U H λU2 H2=>tb { D with nx:=Pv (i+1),ct:=Pv (i+1),bk:=D.nx } U2 H2) (hd:∀U H,Pv l.length U H->D.nx U H):
  ∃W:Nat->Nat->St->Hp->Prop,(∃m,W 0 m U H)/\∀i m U H,W i m U H ->
   ((Its l).stop i H/\D.nx U H)\/((Its l).go i H/\∃N:St->Hp->Prop,(∀U' H',N U' H'->∃m',m'<m/\W (i+1) m' U' H')/\∀x H',(Its l).yld i H x H'->g x U H' λU2 H2=>tb { D with nx:=N,ct:=N,bk:=D.nx } U2 H2):=by
 refine⟨λi m U H=>m=l.length-i/\i<=l.length/\Pv i U H,⟨l.length,by simp,YBC _,h0⟩,?_⟩;rintro i m U H ⟨rfl,hi,p⟩;by_cases A4:i<l.length
 .refine .inr ⟨A4,Pv (i+1),λU' H' p'=>⟨l.length-(i+1),∅,rfl,A4,p'⟩,λx H' y=>?_⟩;obtain⟨e,c,hc,y⟩:=y;subst e y;exact hs i c U _ hc p
 .have e:i=l.length:=by lia
  subst e;exact .inl ⟨YAT _,hd U H p⟩
inductive DT where
 | f (v:V)
 | l (xs:List DT)
 | t (xs:List DT)
section
variable (K:Q4)(H:Hp)
mutual
def gx:DT->V->Prop
 | .f w,v=>v=w/\ZbC w=true
 | .l ds,v=>∃a vs,v=.ref a/\SqL K H a vs/\gG ds vs
 | .t ds,v=>∃a vs,v=.ref a/\SqT K H a vs/\gG ds vs
def gG:List DT->List V->Prop
 | [],vs=>vs=[]
 | d::ds,vs=>∃v r,vs=v::r/\gx d v/\gG ds r
end
end
mutual
def deq:DT->DT->Bool
 | .f v,.f w=>eqV v w
 | .l xs,.l ys=>hE xs ys
 | .t xs,.t ys=>hE xs ys
 | .f _,.l _=>false
 | .f _,.t _=>false
 | .l _,.f _=>false
 | .t _,.f _=>false
 | .l _,.t _=>false
 | .t _,.l _=>false
def hE:List DT->List DT->Bool
 | [],[]=>true
 | x::xs,y::ys=>deq x y&&hE xs ys
 | [],_::_=>false
 | _::_,[]=>false
end
mutual
def dep:DT->Nat
 | .f _=>0
 | .l xs=>jj xs+1
 | .t xs=>jj xs+1
def jj:List DT->Nat
 | []=>0
 | x::xs=>max (dep x) (jj xs)
end
def Zfv (h:ZbC v=true):eqV v v=true:=by cases v<;>first | rfl | (simp[eqV];done) | exact absurd (show false=true from h) YAE
theorem gG.length {K:Q4}{H:Hp}:∀ {ds:List DT} {vs:List V},gG K H ds vs->vs.length=ds.length
 | [],vs,h=>by
  unfold gG at h;subst h;rfl
 | d::ds,vs,h=>by unfold gG at h;obtain⟨v,r,rfl,_,hr⟩:=h;rw[YAf,YAf,gG.length hr]
def Zba (xs ys:List DT)(j:Nat):Bool:=match xs[j]?,ys[j]? with
 | some x,some y=>deq x y
 | _,_=>false
theorem Zhe:∀xs ys:List DT,hE xs ys=((List.range (min xs.length ys.length)).all (Zba xs ys)&&xs.length == ys.length)
 | [],[]=>by simp[hE]
 | [],_::_=>by simp[hE]
 | _::_,[]=>by simp[hE]
 | x::xs,y::ys=>by
  have e:min (x::xs).length (y::ys).length=min xs.length ys.length+1:=by simp only[YAf];lia
  have e2:∀j,Zba (x::xs) (y::ys) (j+1)=Zba xs ys j:=λj=>by simp[Zba]
  have e3:Zba (x::xs) (y::ys) 0=deq x y:=by simp[Zba]
  rw[hE,Zhe xs ys,e,List.range_succ_eq_map,List.all_cons,e3,List.all_map];have e4:((λj=>Zba (x::xs) (y::ys) j) ∘ Nat.succ)=Zba xs ys:=by funext j;exact e2 j
  have e5:(Zba (x::xs) (y::ys) ∘ Nat.succ)=Zba xs ys:=e4;rw[e5,Bool.and_assoc];simp
mutual
theorem gx.uniq {K:Q4}{X:Cx}{As:AB}{U:St}{H:Hp}{s:AF}(I:Inv X As U H s):∀(d e:DT) (v:V),gx X.K H d v->gx X.K H e v->deq d e=true
 | .f w,.f u,v,h1,h2=>by
  unfold gx at h1 h2;obtain⟨rfl,hf⟩:=h1;obtain⟨e,_⟩:=h2;subst e;unfold deq;exact Zfv hf
 | .f w,.l ys,v,h1,h2=>by
  unfold gx at h1 h2;obtain⟨rfl,hf⟩:=h1;obtain⟨a,vs,rfl,_⟩:=h2;exact absurd (show false=true from hf) YAE
 | .f w,.t ys,v,h1,h2=>by
  unfold gx at h1 h2;obtain⟨rfl,hf⟩:=h1;obtain⟨a,vs,rfl,_⟩:=h2;exact absurd (show false=true from hf) YAE
 | .l xs,.f w,v,h1,h2=>by
  unfold gx at h1 h2;obtain⟨rfl,hf⟩:=h2;obtain⟨a,vs,rfl,_⟩:=h1;exact absurd (show false=true from hf) YAE
 | .t xs,.f w,v,h1,h2=>by
  unfold gx at h1 h2;obtain⟨rfl,hf⟩:=h2;obtain⟨a,vs,rfl,_⟩:=h1;exact absurd (show false=true from hf) YAE
 | .l xs,.l ys,v,h1,h2=>by
  unfold gx at h1 h2;obtain⟨a,vs,rfl,q1,r1⟩:=h1;obtain⟨b,ws,e,q2,r2⟩:=h2;cases e;have:=I.list_inj q1 q2;subst this;unfold deq;exact gG.uniq (K:=K) I xs ys vs r1 r2
 | .t xs,.t ys,v,h1,h2=>by
  unfold gx at h1 h2;obtain⟨a,vs,rfl,q1,r1⟩:=h1;obtain⟨b,ws,e,q2,r2⟩:=h2;cases e;have:=I.tuple_inj q1 q2;subst this;unfold deq;exact gG.uniq (K:=K) I xs ys vs r1 r2
 | .l xs,.t ys,v,h1,h2=>by
  unfold gx at h1 h2;obtain⟨a,vs,rfl,q1,r1⟩:=h1;obtain⟨b,ws,e,q2,r2⟩:=h2;cases e;obtain⟨_,_,⟨o,n,e1,c1,_⟩,_⟩:=I.list q1;obtain⟨_,_,⟨o',e2,c2,_⟩,_⟩:=I.tuple q2;rw[e1]at e2;cases e2;rw[c1]at c2;exact absurd c2 (by simp)
 | .t xs,.l ys,v,h1,h2=>by unfold gx at h1 h2;obtain⟨a,vs,rfl,q1,r1⟩:=h1;obtain⟨b,ws,e,q2,r2⟩:=h2;cases e;obtain⟨_,_,⟨o',e2,c2,_⟩,_⟩:=I.tuple q1;obtain⟨_,_,⟨o,n,e1,c1,_⟩,_⟩:=I.list q2;rw[e1]at e2;cases e2;rw[c1]at c2;exact absurd c2 (by simp)
theorem gG.uniq {K:Q4}{X:Cx}{As:AB}{U:St}{H:Hp}{s:AF}(I:Inv X As U H s):∀(xs ys:List DT) (vs:List V),gG X.K H xs vs->gG X.K H ys vs->hE xs ys=true
 | [],[],vs,h1,h2=>by unfold hE;rfl
 | [],y::ys,vs,h1,h2=>by
  unfold gG at h1 h2;subst h1;obtain⟨_,_,e,_⟩:=h2;cases e
 | x::xs,[],vs,h1,h2=>by
  unfold gG at h1 h2;subst h2;obtain⟨_,_,e,_⟩:=h1;cases e
 | x::xs,y::ys,vs,h1,h2=>by unfold gG at h1 h2;obtain⟨v,r,rfl,a1,a2⟩:=h1;obtain⟨v',r',e,b1,b2⟩:=h2;cases e;unfold hE;rw[gx.uniq (K:=K) I x y v a1 b1,gG.uniq (K:=K) I xs ys r a2 b2];rfl
end
section
open SeqAt
def Zfx (hf:ZbC w=true)(r:gC w u)(hl:s.heap.IsList l items)(hu:A.units<cLine):EqAt A s u (.ref l) false/\EqAt A s (.ref l) u false/\RcAt A s u (.ref l) false/\RcAt A s (.ref l) u false/\RcNeAt A s u (.ref l) true/\RcNeAt A s (.ref l) u true:=by
 cases w with
 | non=>cases r;exact⟨.none_list hl hu,.list_none hl hu,.none_list hl hu,.list_none hl hu,.none_list hl hu,.list_none hl hu⟩
 | bl b=>cases r;exact⟨.bool_list b hl hu,.list_bool b hl hu,.bool_list b hl hu,.list_bool b hl hu,.bool_list b hl hu,.list_bool b hl hu⟩
 | int i=>obtain⟨t,rfl⟩:=r;exact⟨.int_list i t hl hu,.list_int i t hl hu,.int_list i t hl hu,.list_int i t hl hu,.int_list i t hl hu,.list_int i t hl hu⟩
 | str i=>obtain⟨t,rfl⟩:=r;exact⟨.str_list i t hl hu,.list_str i t hl hu,.str_list i t hl hu,.list_str i t hl hu,.str_list i t hl hu,.list_str i t hl hu⟩
 | _=>exact absurd (show false=true from hf) YAE
def Zfw (hf:ZbC w=true)(r:gC w u)(hl:s.heap.IsTuple l items)(hu:A.units<cLine):EqAt A s u (.ref l) false/\EqAt A s (.ref l) u false/\RcAt A s u (.ref l) false/\RcAt A s (.ref l) u false/\RcNeAt A s u (.ref l) true/\RcNeAt A s (.ref l) u true:=by
 cases w with
 | non=>cases r;exact⟨.none_tuple hl hu,.tuple_none hl hu,.none_tuple hl hu,.tuple_none hl hu,.none_tuple hl hu,.tuple_none hl hu⟩
 | bl b=>cases r;exact⟨.bool_tuple b hl hu,.tuple_bool b hl hu,.bool_tuple b hl hu,.tuple_bool b hl hu,.bool_tuple b hl hu,.tuple_bool b hl hu⟩
 | int i=>obtain⟨t,rfl⟩:=r;exact⟨.int_tuple i t hl hu,.tuple_int i t hl hu,.int_tuple i t hl hu,.tuple_int i t hl hu,.int_tuple i t hl hu,.tuple_int i t hl hu⟩
 | str i=>obtain⟨t,rfl⟩:=r;exact⟨.str_tuple i t hl hu,.tuple_str i t hl hu,.str_tuple i t hl hu,.tuple_str i t hl hu,.str_tuple i t hl hu,.tuple_str i t hl hu⟩
 | _=>exact absurd (show false=true from hf) YAE
def ZoH {A:AI}{l b:AE}{ps qs:AD}{xs ys:List DT}(hl:s.heap.IsList l ps.toArray)(hb:s.heap.IsList b qs.toArray)(n1:ps.length=xs.length)(n2:qs.length=ys.length)(hu:A.units<cLine)
  (he:∀j (h1:j<ps.length) (h2:j<qs.length),EqAt A.in1 s ps[j] qs[j] (Zba xs ys j)):RcAt A s (.ref l) (.ref b) (hE xs ys)/\RcNeAt A s (.ref l) (.ref b) (!hE xs ys):=by
 rw[Zhe];by_cases hz:ps.length=qs.length
 .have hsz:ps.toArray.size=qs.toArray.size:=by rw[YAM,YAM];exact hz
  have e1:((List.range (min xs.length ys.length)).all (Zba xs ys)&&xs.length == ys.length)=(List.range ps.toArray.size).all (Zba xs ys):=by
   have:xs.length=ys.length:=by lia
   rw[YAM,n1,<-this,Nat.min_self];simp
  rw[e1];exact⟨RcAt.lists hl hb hsz hu λj j1 j2=>by simpa using he j (~~~j1) (~~~j2),RcNeAt.lists hl hb hsz hu λj j1 j2=>by simpa using he j (~~~j1) (~~~j2)⟩
 .have e1:((List.range (min xs.length ys.length)).all (Zba xs ys)&&xs.length == ys.length)=false:=by
   have:xs.length≠ys.length:=by lia
   simp[this]
  rw[e1];have hsz:(ps.toArray.size != qs.toArray.size)=true:=by rw[YAM,YAM];simpa using hz
  exact⟨RcAt.lists_lengths hl hb hsz hu,RcNeAt.lists_lengths hl hb hsz hu⟩
def ZoG {A:AI}{l b:AE}{ps qs:AD}{xs ys:List DT}(hl:s.heap.IsTuple l ps.toArray)(hb:s.heap.IsTuple b qs.toArray)(n1:ps.length=xs.length)(n2:qs.length=ys.length)(hu:A.units<cLine)
  (he:∀j (h1:j<ps.length) (h2:j<qs.length),EqAt A.in1 s ps[j] qs[j] (Zba xs ys j)):RcAt A s (.ref l) (.ref b) (hE xs ys)/\RcNeAt A s (.ref l) (.ref b) (!hE xs ys):=by
 have e1:hE xs ys=((List.range (min ps.toArray.size qs.toArray.size)).all (Zba xs ys)&&ps.toArray.size == qs.toArray.size):=by rw[Zhe,YAM,YAM,n1,n2]
 rw[e1];exact⟨RcAt.tuples hl hb hu λj j1 j2=>by simpa using he j (~~~j1) (~~~j2),RcNeAt.tuples hl hb hu λj j1 j2=>by simpa using he j (~~~j1) (~~~j2)⟩
mutual
theorem ZpS (I:Inv X As U H s):∀(d e:DT) (A:AI) (x y:V) (u v:Value),gx X.K H d x->gx X.K H e y->gC x u->gC y v->A.units+dep d<cLine->EqAt A s u v (deq d e)
 | .f w,.f w',A,x,y,u,v,h1,h2,ru,rv,hu=>by
  unfold gx at h1 h2;obtain⟨rfl,f1⟩:=h1;obtain⟨rfl,f2⟩:=h2;unfold deq;exact Zmm ru rv f1 f2
 | .f w,.l ys,A,x,y,u,v,h1,h2,ru,rv,hu=>by
  unfold gx at h1 h2;obtain⟨rfl,f1⟩:=h1;obtain⟨a,vs,rfl,q,_⟩:=h2;cases rv;obtain⟨its,_,p,_⟩:=I.list q;unfold deq;exact(Zfx f1 ru p.isList (by unfold dep at hu;lia)).1
 | .f w,.t ys,A,x,y,u,v,h1,h2,ru,rv,hu=>by
  unfold gx at h1 h2;obtain⟨rfl,f1⟩:=h1;obtain⟨a,vs,rfl,q,_⟩:=h2;cases rv;obtain⟨its,_,p,_⟩:=I.tuple q;unfold deq;exact(Zfw f1 ru (show s.heap.IsTuple a its.toArray from p) (by unfold dep at hu;lia)).1
 | .l xs,.f w,A,x,y,u,v,h1,h2,ru,rv,hu=>by
  unfold gx at h1 h2;obtain⟨rfl,f1⟩:=h2;obtain⟨a,vs,rfl,q,_⟩:=h1;cases ru;obtain⟨its,_,p,_⟩:=I.list q;unfold deq;exact(Zfx f1 rv p.isList ∅).2.1
 | .t xs,.f w,A,x,y,u,v,h1,h2,ru,rv,hu=>by
  unfold gx at h1 h2;obtain⟨rfl,f1⟩:=h2;obtain⟨a,vs,rfl,q,_⟩:=h1;cases ru;obtain⟨its,_,p,_⟩:=I.tuple q;unfold deq;exact(Zfw f1 rv (show s.heap.IsTuple a its.toArray from p) ∅).2.1
 | .l xs,.t ys,A,x,y,u,v,h1,h2,ru,rv,hu=>by
  unfold gx at h1 h2;obtain⟨a,vs,rfl,q,_⟩:=h1;obtain⟨b,ws,rfl,q',_⟩:=h2;cases ru;cases rv;obtain⟨its,_,p,_⟩:=I.list q;obtain⟨its',_,p',_⟩:=I.tuple q';unfold deq;exact EqAt.list_tuple p.isList (show s.heap.IsTuple b its'.toArray from p') ∅
 | .t xs,.l ys,A,x,y,u,v,h1,h2,ru,rv,hu=>by
  unfold gx at h1 h2;obtain⟨a,vs,rfl,q,_⟩:=h1;obtain⟨b,ws,rfl,q',_⟩:=h2;cases ru;cases rv;obtain⟨its,_,p,_⟩:=I.tuple q;obtain⟨its',_,p',_⟩:=I.list q';unfold deq;exact EqAt.tuple_list (show s.heap.IsTuple a its.toArray from p) p'.isList ∅
 | .l xs,.l ys,A,x,y,u,v,h1,h2,ru,rv,hu=>by
  by_cases hxy:x=y
  .subst hxy;rw[gx.uniq (K:=X.K) I (.l xs) (.l ys) x h1 h2];unfold gx at h1;obtain⟨a,vs,rfl,_⟩:=h1;cases ru;cases rv;exact EqAt.same _
  .unfold gx at h1 h2;obtain⟨a,vs,rfl,q,d1⟩:=h1;obtain⟨b,ws,rfl,q',d2⟩:=h2;cases ru;cases rv;obtain⟨its,r,p,_⟩:=I.list q;obtain⟨its',r',p',_⟩:=I.list q';unfold deq;unfold dep at hu;refine EqAt.of_refs (λe=>hxy (by rw[e])) (ZoH p.isList p'.isList (by rw[<-r.length,d1.length]) (by rw[<-r'.length,d2.length]) ∅ λj j1 j2=>?_).1;exact Zej I xs ys A.in1 vs ws its its' d1 d2 r r' (by show A.units+1+_<_;lia) j j1 j2
 | .t xs,.t ys,A,x,y,u,v,h1,h2,ru,rv,hu=>by
  by_cases hxy:x=y
  .subst hxy;rw[gx.uniq (K:=X.K) I (.t xs) (.t ys) x h1 h2];unfold gx at h1;obtain⟨a,vs,rfl,_⟩:=h1;cases ru;cases rv;exact EqAt.same _
  .unfold gx at h1 h2;obtain⟨a,vs,rfl,q,d1⟩:=h1;obtain⟨b,ws,rfl,q',d2⟩:=h2;cases ru;cases rv;obtain⟨its,r,p,_⟩:=I.tuple q;obtain⟨its',r',p',_⟩:=I.tuple q';unfold deq;unfold dep at hu;refine EqAt.of_refs (λe=>hxy (by rw[e])) (ZoG (show s.heap.IsTuple a its.toArray from p) (show s.heap.IsTuple b its'.toArray from p') (by rw[<-r.length,d1.length]) (by rw[<-r'.length,d2.length]) ∅ λj j1 j2=>?_).1;exact Zej I xs ys A.in1 vs ws its its' d1 d2 r r' (by show A.units+1+_<_;lia) j j1 j2
theorem Zej (I:Inv X As U H s):∀(xs ys:List DT) (A:AI) (vs ws:List V) (ps qs:AD),gG X.K H xs vs->gG X.K H ys ws->gs vs ps->gs ws qs->A.units+jj xs<cLine ->
  ∀(j:Nat) (h1:j<ps.length) (h2:j<qs.length),EqAt A s ps[j] qs[j] (Zba xs ys j)
 | [],ys,A,vs,ws,ps,qs,d1,d2,r1,r2,hu,j,h1,h2=>by
  unfold gG at d1;subst d1;cases r1;exact absurd h1 (Nat.not_lt_zero _)
 | x::xs,[],A,vs,ws,ps,qs,d1,d2,r1,r2,hu,j,h1,h2=>by
  unfold gG at d2;subst d2;cases r2;exact absurd h2 (Nat.not_lt_zero _)
 | x::xs,y::ys,A,vs,ws,ps,qs,d1,d2,r1,r2,hu,j,h1,h2=>by
  unfold gG at d1 d2;obtain⟨v,vr,rfl,a1,a2⟩:=d1;obtain⟨w,wr,rfl,b1,b2⟩:=d2;unfold jj at hu;cases r1 with
  | cons ru rus=>
   cases r2 with
   | cons rv rvs=>
    cases j with
    | zero=>
     have:=ZpS I x y A v w _ _ a1 b1 ru rv ∅;simpa [Zba] using this
    | succ j=>
     have:=Zej I xs ys A vr wr _ _ a2 b2 rus rvs ∅ j (Nat.lt_of_succ_lt_succ h1) (Nat.lt_of_succ_lt_succ h2);simpa [Zba] using this
end
def ZoF (I:Inv X As U H s){d e:DT}{A:AI}{x y:V}{u v:Value}(h1:gx X.K H d x)(h2:gx X.K H e y)(ru:gC x u)(rv:gC y v)(hu:A.units+dep d<cLine)(hn:¬(ZbC x=true/\ZbC y=true)):
  RcAt A s u v (deq d e)/\RcNeAt A s u v (!deq d e):=by
 cases d with
 | f w=>
  unfold gx at h1;obtain⟨rfl,f1⟩:=h1;cases e with
  | f w'=>
   unfold gx at h2;obtain⟨rfl,f2⟩:=h2;exact absurd ⟨f1,f2⟩ hn
  | l ys=>
   unfold gx at h2;obtain⟨a,vs,rfl,q,_⟩:=h2;cases rv;obtain⟨its,_,p,_⟩:=I.list q;have z:=Zfx (A:=A) f1 ru p.isList ∅;unfold deq;exact⟨z.2.2.1,z.2.2.2.2.1⟩
  | t ys=>
   unfold gx at h2;obtain⟨a,vs,rfl,q,_⟩:=h2;cases rv;obtain⟨its,_,p,_⟩:=I.tuple q;have z:=Zfw (A:=A) f1 ru (show s.heap.IsTuple a its.toArray from p) ∅;unfold deq;exact⟨z.2.2.1,z.2.2.2.2.1⟩
 | l xs=>
  unfold gx at h1;obtain⟨a,vs,rfl,q,d1⟩:=h1;cases ru;obtain⟨its,r,p,_⟩:=I.list q;cases e with
  | f w=>
   unfold gx at h2;obtain⟨rfl,f1⟩:=h2;have z:=Zfx (A:=A) f1 rv p.isList ∅;unfold deq;exact⟨z.2.2.2.1,z.2.2.2.2.2⟩
  | l ys=>
   unfold gx at h2;obtain⟨b,ws,rfl,q',d2⟩:=h2;cases rv;obtain⟨its',r',p',_⟩:=I.list q';unfold deq;unfold dep at hu;exact ZoH p.isList p'.isList (by rw[<-r.length,d1.length]) (by rw[<-r'.length,d2.length]) ∅ λj j1 j2=>Zej I xs ys A.in1 vs ws its its' d1 d2 r r' (by show A.units+1+_<_;lia) j j1 j2
  | t ys=>
   unfold gx at h2;obtain⟨b,ws,rfl,q',d2⟩:=h2;cases rv;obtain⟨its',r',p',_⟩:=I.tuple q';unfold deq;exact⟨RcAt.list_tuple p.isList (show s.heap.IsTuple b its'.toArray from p') ∅,RcNeAt.list_tuple p.isList (show s.heap.IsTuple b its'.toArray from p') ∅⟩
 | t xs=>
  unfold gx at h1;obtain⟨a,vs,rfl,q,d1⟩:=h1;cases ru;obtain⟨its,r,p,_⟩:=I.tuple q;cases e with
  | f w=>
   unfold gx at h2;obtain⟨rfl,f1⟩:=h2;have z:=Zfw (A:=A) f1 rv (show s.heap.IsTuple a its.toArray from p) ∅;unfold deq;exact⟨z.2.2.2.1,z.2.2.2.2.2⟩
  | t ys=>
   unfold gx at h2;obtain⟨b,ws,rfl,q',d2⟩:=h2;cases rv;obtain⟨its',r',p',_⟩:=I.tuple q';unfold deq;unfold dep at hu;exact ZoG (show s.heap.IsTuple a its.toArray from p) (show s.heap.IsTuple b its'.toArray from p') (by rw[<-r.length,d1.length]) (by rw[<-r'.length,d2.length]) ∅ λj j1 j2=>Zej I xs ys A.in1 vs ws its its' d1 d2 r r' (by show A.units+1+_<_;lia) j j1 j2
  | l ys=>
   unfold gx at h2;obtain⟨b,ws,rfl,q',d2⟩:=h2;cases rv;obtain⟨its',r',p',_⟩:=I.list q';unfold deq;exact⟨RcAt.tuple_list (show s.heap.IsTuple a its.toArray from p) p'.isList ∅,RcNeAt.tuple_list (show s.heap.IsTuple a its.toArray from p) p'.isList ∅⟩
end
def iO (K:Q4)(neg:Bool):R2:=λx y H Q=>(mT x y=true/\Q (.bl (if neg then !decide (x=y) else decide (x=y))) H) \/
 ∃d e,gx K H d x/\gx K H e y/\¬(ZbC x=true/\ZbC y=true)/\dep d<=60/\Q (.bl (if neg then !deq d e else deq d e)) H
def ZoU (hu:X.A.units+64<cLine):OpR X (compareOp .Eq) (iO X.K false):=by
 intro As s U H x y v u Q I rx ry h;rcases h with⟨h1,q⟩|⟨d,e,h1,h2,hn,hd,q⟩
 .exact Zq6 As s U H x y v u Q I rx ry ⟨h1,q⟩
 .exact(ZoF I h1 h2 rx ry ∅ hn).1 _ _ _ _ ⟨.bl _,H,I,rfl,q⟩
def ZoT (hu:X.A.units+64<cLine):OpR X (compareOp .NotEq) (iO X.K true):=by
 intro As s U H x y v u Q I rx ry h;rcases h with⟨h1,q⟩|⟨d,e,h1,h2,hn,hd,q⟩
 .exact Zq4 As s U H x y v u Q I rx ry ⟨h1,q⟩
 .exact(ZoF I h1 h2 rx ry ∅ hn).2 _ _ _ _ ⟨.bl _,H,I,rfl,q⟩
theorem ZfC {K:Q4}{H:Hp}:∀ {vs:List V},vs.all ZbC=true->gG K H (vs.map DT.f) vs
 | [],_=>by unfold gG;rfl
 | v::r,h=>by rw[List.all_cons,YAY]at h;rw[YAc];unfold gG;exact⟨v,r,rfl,by unfold gx;exact⟨rfl,h.1⟩,ZfC h.2⟩
def Zcw (vs:List V):jj (vs.map DT.f)=0:=by
 induction vs with
 | nil=>rfl
 | cons v r ih=>rw[YAc];unfold jj;rw[ih];rfl
theorem Zgu:∀ {vs ws:List V},(∀v∈vs,∀w∈ws,eqV v w=decide (v=w))->hE (vs.map DT.f) (ws.map DT.f)=decide (vs=ws)
 | [],[],_=>by simp[hE]
 | [],_::_,_=>by simp[hE]
 | _::_,[],_=>by simp[hE]
 | v::vs,w::ws,h=>by rw[YAc,YAc,hE,Zgu λa ha b hb=>h a (YAO _ ha) b (YAO _ hb)];have e:=h v YAZ w YAZ;show (eqV v w&&_)=_;rw[e,YBS];simp
def Zmj (a b:Q11):eqV (tx a) (tx b)=decide (tx a=tx b):=by
 rw[ZcK];show ((⟨a.toArray⟩:Str) == ⟨b.toArray⟩)=_;by_cases h:a=b
 .subst h;simp
 .rw[decide_eq_false h];exact beq_eq_false_iff_ne.mpr λz=>h (Zds.mp (congrArg V.str z))
def jG {K:Q4}{H:Hp}{a:AE}{vs:List V}(h:SqL K H a vs)(hf:vs.all ZbC=true):gx K H (.l (vs.map DT.f)) (.ref a):=by unfold gx;exact⟨a,vs,rfl,h,ZfC hf⟩
def jE {K:Q4}{H:Hp}{a:AE}{vs:List V}(h:SqT K H a vs)(hf:vs.all ZbC=true):gx K H (.t (vs.map DT.f)) (.ref a):=by unfold gx;exact⟨a,vs,rfl,h,ZfC hf⟩
def datF {K:Q4}{H:Hp}{v:V}(hf:ZbC v=true):gx K H (.f v) v:=by unfold gx;exact⟨rfl,hf⟩
end L2
namespace L2
open PySem PySem.Spec PyProof.Rows
open PySem.W (Frag findIn specialIn typeIn mroIn clsIn InstAt Looks)
def ZgL:AD:=[.type "ValueError",.type "Exception",.type "BaseException",.type "object"]
def Zmc:Value->Bool
 | .ref _=>true
 | _=>false
noncomputable def jx (l:AD):Bool:=l.dropWhile Zmc == ZgL
theorem Zho {P:AD->Prop}(h0:P ZgL)(h1:∀c r,P r->P (.ref c::r)):∀l:AD,jx l=true->P l
 | [],e=>by simp[jx,ZgL]at e
 | v::r,e=>by
  cases hv:Zmc v with
  | true=>
   cases v with
   | ref c=>
    refine h1 c r (Zho h0 h1 r ?_);unfold jx at e ⊢;rw[List.dropWhile_cons,YAS hv]at e;exact e
   | _=>cases hv
  | false=>
   unfold jx at e;rw[List.dropWhile_cons,YAL (by rw[hv];exact YAE)]at e;rw[show (v::r)=ZgL by simpa using e];exact h0
def Zkz (h:ZgL.contains (.type n)=b){l:AD}(e:jx l=true):l.contains (.type n)=b:=
 Zho (P:=λl=>l.contains (.type n)=b) h (λc r h=>by rw[List.contains_cons,h];rfl) l e
structure Xc (K:Frag)(C:AE):Prop where
 ga:findIn K (.ref C) "__getattribute__"=some (some (.builtin "BaseException.__getattribute__"))
 gr:findIn K (.ref C) "__getattr__"=some none
 sa:findIn K (.ref C) "__setattr__"=some (some (.builtin "object.__setattr__"))
 hd:hasDictIn K C=true
 mr:(clsIn K C).any (λcd=>jx cd.mro)=true
def Zmv (e:jx l=true):l.isEmpty=false:=by
 cases l with
 | nil=>simp[jx,ZgL]at e
 | cons _ _=>rfl
def Xc.base {K:Frag}{C:AE}(c:Xc K C){n:String}{b:Bool}(h:ZgL.contains (.type n)=b):mroIn K C (.type n)=some b:=by obtain⟨cd,hc,hm⟩:=any_some c.mr;unfold mroIn;rw[hc,YDJ,YAL (by rw[Zmv hm];exact YAE),Zkz h hm]
noncomputable def xo (a C:AE)(d:Option AE):HO:=.ext λh=>∃(o:Obj) (t:AE),h.get? a=some o/\o.cls=.ref C/\o.dict=d/\o.data=.fields #[.ref t,.none,.none,.none,.bool false,.none]
def xdO (d:AE)(fs:List (Str×V)):HO:=.ext λh=>fs.length<=1000/\∃mA,h.Ns1 d mA/\(∀f,iB (fs.lookup f) (mA f))/\PySem.Within mA (fs.map (·.1))
inductive XAt (H:Hp) (e C:AE):List (Str×V)->Prop where
 | bare:H e=some (xo e C none)->XAt H e C []
 | full {d:AE} {fs:List (Str×V)}:H e=some (xo e C (some d))->H d=some (xdO d fs)->d≠e->XAt H e C fs
section
def ZlS (I:Inv X As U H s)(h:H e=some (xo e C d)):∃(o:Obj) (t:AE),s.heap.get? e=some o/\o.cls=.ref C/\o.dict=d/\o.data=.fields #[.ref t,.none,.none,.none,.bool false,.none]:=(I.hok e _ h).1
def XAt.inst (I:Inv X As U H s)(x:XAt H e C fs):∃(ox:Obj) (od:Option Obj),InstAt s.heap e ox C od/\∀name,∃r,(match od with | some o=>lookIn name o | none=>some none)=some r/\iB (fs.lookup name) r:=by
 cases x with
 | bare h=>
  obtain⟨o,t,h1,h2,h3,h4⟩:=ZlS I h;exact⟨o,none,⟨h1,h2,by unfold notCls;rw[h4],by rw[h3];trivial⟩,λname=>⟨none,rfl,by trivial⟩⟩
 | @full d _ h h' hne=>
  obtain⟨o,t,h1,h2,h3,h4⟩:=ZlS I h;obtain⟨⟨_,mA,hn,hr,_⟩,_⟩:=I.hok d _ h';obtain⟨od,hod,hl⟩:=Zea hn;exact⟨o,some od,⟨h1,h2,by unfold notCls;rw[h4],by rw[h3];exact hod⟩,λname=>⟨mA name,hl name,hr name⟩⟩
def Zj5:entryFor table "BaseException.__getattribute__"=some Builtin.«object.__getattribute__»:=F.entry_bexc_ga
end
structure Xm (K:Frag)(C:AE):Prop where
 c:Xc K C
 ob:∃(nm q:Str) (N:AE) (bs bm:AD) (A0:Bool) (sn:AK) (sub:AD) (ab:Bool) (col:Option Bool) (dd:Option AE) (k0 k1 k2 k3 k5:Option Value),
  K.lookup C=some (excClassObj nm q C N bs bm A0 sn sub ab col dd k0 k1 k2 k3 k5 "ValueError.__new__")
 kp:keepIn K (.ref C)=true
section
end
section
end
structure Xi (K:Frag)(C:AE):Prop where
 c:Xc K C
 ha:findIn K (.ref C) "__class__"=some (some (.builtin "object.__class__"))
 hn:specialIn K (.builtin "object.__class__") "__get__"=some (some (.builtin "getset_descriptor.__get__"))
 htk:takesIn K (.builtin "object.__class__")=some true
section
variable {K:Frag}{x C:AE}{ox:Obj}{od:Option Obj}{prog:AH}{w:AJ}{A:AI}{E:Q33}{s:AF}
def Zn8 (i:Xi K C)(KX:K.In s.heap)(I:InstAt s.heap x ox C od)(h:Q (some (.ref C)) { s with toks:=s.toks+1 }):wpAny (model prog w) A (getAttr? (.ref x) "__class__") Q E s:=by
 have c:=i.c;have hf:findObj K C od "__class__"=some (.bind (.builtin "getset_descriptor.__get__") (.builtin "object.__class__")):=by obtain⟨cd,hc,_⟩:=any_some c.hd;unfold findObj;rw[hc,i.ha];simp only[YDJ,i.hn,i.htk]
 obtain⟨hp,g,d,t,os⟩:=s;have L0:=I.type (M:=model prog w);have L1:=looks_findIn (M:=model prog w) KX c.ga;have L2:=looks_findIn (M:=model prog w) KX c.gr;have L3:=PySem.W.looks_find (M:=model prog w) KX I hf;have L4:=PySem.W.looks_mroIn (M:=model prog w) KX (c.base (n:="BaseException") (b:=true) (by decide +kernel));have hm:=c.base (n:="object") (b:=true) (by decide +kernel);have hx2:(Value.builtin "BaseException.__getattribute__" == Value.builtin "object.__getattribute__")=false:=by decide +kernel
 have slot:=F.excAttr_ValueError.ga;unfold getAttr? getAttrBy?;refine YAA (wpAny_mkText (YAA (YCa ?_)));unfold getAttrBy;refine YBD (YAA (L0.at (YAA (L1.at ?_))));dsimp only;rw[hx2,YCD,YAL YAE];unfold getAttrByItsOwn hookBefore;refine YAA ?_;show wpAny _ _ (if onTheHeap (Value.ref C)=true then typeLookup (.ref C) "__getattr__" else pure none) _ _ _;rw[YAS (show onTheHeap (Value.ref C)=true from rfl)];refine L2.at (YAA (YCa (YBD ?_)));unfold callGetattribute;rw[show (false&&onTheHeap (Value.builtin "BaseException.__getattribute__"))=false from rfl,YAL YAE];unfold boundAndCalled;rw[slot.bind];refine YAA (YAC ?_);show wpAny _ _ (call (.builtin "BaseException.__getattribute__") [.ref x,.str "__class__" t]) _ _ _;refine wpAny_call (codeAny_call_builtin slot.plain Zj5 ?_);refine @PySem.W.check_slot (model prog w) _ _ ⟨hp,g,d,t+1,os⟩ "BaseException.__getattribute__" "BaseException" "__getattribute__" (.ref x) [.str "__class__" t] [] _ (by decide +kernel) (by decide +kernel) (L0.andThen L4) (F.args_bexc_ga (.ref x) (.str "__class__" t)) ?_;refine YAA (YAC (YAA (YAC (YAA (L0.at (YAA (L3.at ?_)))))));show wpAny _ _ (holding [.builtin "object.__class__"] (call (.builtin "getset_descriptor.__get__") [.builtin "object.__class__",.ref x,.ref C]) >>= ret) _ _ _;refine YAA (YBD (wpAny_call (PySem.W.class_get (s:=⟨hp,g,d,t+1,os⟩) (ox:=ox) (od:=od) KX I hm (YAC ?_))));exact PySem.W.handed_on rfl (YAC h)
def ZhT (i:Xi K C):PySem.W.KitX K (.ref x) (.ref C) (λh=>InstAt h x ox C od) where
 ty:=λ_ _ _ I=>I.type
 it:=λ_ _ KX _=>by
  obtain⟨cd,hc,_⟩:=any_some i.c.hd;unfold clsIn at hc;split at hc
  .rename_i ho
   intro A' Q' E' s' k q;unfold isType loadHead;exact YAA (wpAny_loadPart (k _ _ (KX _ _ ho)) (YAC q))
  .cases hc
 ne:=λh tp dd its n sl KX htp=>by
  obtain⟨cd,hc,_⟩:=any_some i.c.hd;refine YCA.mpr λq=>?_;have e:C=tp:=Value.ref.inj (beq_iff_eq.mp q);subst e;unfold clsIn at hc;split at hc
  .rename_i ho
   have z:=(KX _ _ ho).symm.trans htp;cases z
  .cases hc
 ca:=λKX I k=>Zn8 i KX I k
end
inductive TyX (K:Frag) (H:Hp):V->Value->Prop where
 | pl {x:V} {t:Value} (h:iH K H x t):TyX K H x t
 | seqL {a:AE} {xs:List V} (h:SqL K H a xs):TyX K H (.ref a) (.type "list")
 | kn {a:AE} {xs:List V} (h:SqT K H a xs):TyX K H (.ref a) (.type "tuple")
 | exc {e C:AE} {fs:List (Str×V)} (x:XAt H e C fs) (i:Xi K C):TyX K H (.ref e) (.ref C)
noncomputable def clsV:V->Option Value
 | .ref a=>some (.ref a)
 | .ty n=>some (.type n)
 | _=>none
def Zhl:ZcG X (.builtin "isinstance") (λxs H Q=>∃x c t k b,xs=[x,c]/\clsV c=some k/\TyX X.K H x t/\kitOne X.K t k=some b/\Q (.bl b) H):=by
 rintro As s U H xs us Q I r ⟨x,c,t,k,b,rfl,hk,ty,e,q⟩;obtain⟨u,v,rfl,ru,rv⟩:=r.two;have hv:v=k:=by
  cases c with
  | ref a=>cases hk;exact rv
  | ty n=>cases hk;exact rv
  | _=>cases hk
 subst hv;cases ty with
 | pl ty=>exact ZjS I ru ty e λtk=>⟨.bl b,H,I.tok _,rfl,q⟩
 | seqL h=>
  cases ru;obtain⟨its,_,⟨o,n,ho,hc,_⟩,_⟩:=I.list h;exact YBP kitx_list I.kIn ⟨o,ho,hc⟩ e (λz=>nomatch z) λtk=>⟨.bl b,H,I.tok _,rfl,q⟩
 | kn h=>
  cases ru;obtain⟨its,_,⟨o,ho,hc,_⟩,_⟩:=I.tuple h;exact YBP kitx_tuple I.kIn ⟨o,ho,hc⟩ e (λz=>nomatch z) λtk=>⟨.bl b,H,I.tok _,rfl,q⟩
 | exc x i=>
  cases ru;obtain⟨ox,od,J,_⟩:=x.inst I;exact YBP (ZhT i) I.kIn J e (λz=>nomatch z) λtk=>⟨.bl b,H,I.tok _,rfl,q⟩
def ZmC (K:Frag)(C:AE)(t:TA):TE:=λU H Q=>t U H λvs H1=>vs.length<=1000/\∀e,H1 e=none->Q (.ref e) (upd H1 e (xo e C none))
def Zoa (C:AE)(sp:Sp)(E:XK)(t:TA):TE:=λU H Q=>t U H λvs H1=>vs.length<=1000/\∀e,H1 e=none->sp (.ref e::vs) (upd H1 e (xo e C none)) (λv H2=>v=.non/\Q (.ref e) H2) E
section
structure iI (K:Frag)(C:AE)(f:Str)(v:Value):Prop where
 sp:specialIn K (.ref C) "__getattribute__"=some (some (.builtin "type.__getattribute__"))
 rd:readsIn K C (.type "type")=true
 fd:findCls K (.ref C) (.type "type") f=some (.val v)
 hn:handedIn v=true
end
section
def Inv.turnedN {t':Nat}{h':Heap}{fp:List AE}(I:Inv X As U H s)(k:∀b o,b∉fp->s.heap.get? b=some o->h'.get? b=some o)(hf:∀b∈fp,iN X As H b):Inv X As U H { s with heap:=h',toks:=t' }:=by
 have nit:∀b u,H b=some u->b∉fp:=λb u e z=>by rw[(hf b z).1]at e;cases e
 refine I.step (g':=s.gens) (d':=s.drawn) (ch:=fp) (λb hb=>?_) (λb o _ _ hc e _=>k b o hc e) (λb o _ _ hc e _=>⟨o.slots,k b o hc e⟩) (λ_ _ _ _ n=>n)
  (λb o hc e=>⟨o,k b o hc e⟩) (λ_ _ e=>e) (λ_ _ _ e=>e) (λb ps e=>⟨#[],by rw[e];simp⟩) (λm hm=>?_) (λb u e=>?_) I.bare
 .obtain⟨_,f1,_,f3,f4,f5⟩:=hf b hb;exact⟨f3,f1,f4,f5⟩
 .obtain⟨o,es,ep,ho,r⟩:=hm;exact⟨o,es,ep,k _ o (λz=>(hf _ z).2.1 rfl) ho,r⟩
 .refine(I.hok b u e).stay (λc v hc q=>k c v ?_ q) (λ_ q=>q) λ_ _ q=>q;rcases hc with z | z
  .rw[z];exact nit b u e
  .exact nit c _ z
def Inv.track (I:Inv X As U H s)(hf:iN X As H p)(hs:X.s_0.heap.objs.size<=p)(ok:gQ X.prog X.w (upd H p o) s.heap p o):Inv X As U (upd H p o) s:=by
 obtain⟨f0,f1,f2,f3,f4,f5⟩:=hf;have ne:∀b o',X.s_0.heap.get? b=some o'->b≠p:=λb o' e=>YAd (YAy (YAR e) hs);have nh:∀b u,H b=some u->b≠p:=λb u e=>Zag e f0;refine⟨I.ok,I.os,I.bare,⟨I.base.keep,I.base.slot,λb o' e n hb=>?_,I.base.there,λb xs e=>?_,λb o' u e=>?_,λb ps e=>?_⟩,I.loc,I.cell,?_,λx c e=>?_,λq hq=>?_,λb u e=>?_,I.len⟩
 .rw[Zak (ne b o' e)];exact I.base.free b o' e n hb
 .have:=I.base.tups b xs e;rw[Zak (nh b _ this)];exact this
 .have:=I.base.frzs b o' u e;rw[Zak (nh b _ this)];exact this
 .obtain⟨m,q⟩:=I.base.tbls b ps e;exact⟨m,by rw[Zak (nh b _ q)];exact q⟩
 .rw[Zak (YBW f1)];exact I.free
 .rw[Zak (f4 x c e)];exact I.freeC x c e
 .obtain⟨e,n,r⟩:=I.pin q hq;refine⟨e,?_,r⟩;rw[Zak (f5 q hq)];exact n
 .by_cases hb:b=p
  .subst hb;rw[Zao]at e;cases e;exact ok
  .rw[Zak hb]at e;refine(I.hok b u e).stay (λ_ _ _ q=>q) (λc q=>?_) λc xs q=>?_
   .rw[Zak (nh c _ q)];exact q
   .rw[Zak (nh c _ q)];exact q
end
def Ite (K:Q4)(a:AE):It:=
 ⟨λi H=>∃xs x,SqL K H a xs/\xs[i]?=some x,λi H x H'=>∃p v,H p=none/\x=.ref p/\H'=upd H p (.tup [.int i,v])/\∀xs,SqL K H a xs->xs[i]?=some v,λi H=>∃xs,SqL K H a xs/\xs.length<=i⟩
section
end
section
def q_I:rI C g (.int i) (.int j) H Q=(C i j/\Q (g i j) H):=
 propext ⟨λ⟨_,_,e1,e2,h⟩=>by cases e1;cases e2;exact h,λh=>⟨i,j,rfl,rfl,h⟩⟩
def q_I0:rI0 g (.int i) (.int j) H Q=Q (g i j) H:=
 propext ⟨λ⟨_,_,e1,e2,h⟩=>by cases e1;cases e2;exact h,λh=>⟨i,j,rfl,rfl,h⟩⟩
def q_U:rU g (.int i) H Q=Q (g i) H:=
 propext ⟨λ⟨_,e1,h⟩=>by cases e1;exact h,λh=>⟨i,rfl,h⟩⟩
def q_T:rT C g (tx a) (tx b) H Q=(C a b/\Q (g a b) H):=
 propext ⟨λ⟨_,_,e1,e2,h⟩=>by rw[Zds.mp e1,Zds.mp e2];exact h,λh=>⟨a,b,rfl,rfl,h⟩⟩
def q_b {b:Bool}{p:Bool->Prop}:(∃k,V.bl b=V.bl k/\p k)=p b:=
 propext ⟨λ⟨_,e,h⟩=>by cases e;exact h,λh=>⟨b,rfl,h⟩⟩
def nP {v:V}{p:V->Prop}:(∃u,some (some v)=some (some u)/\p u)=p v:=
 propext ⟨λ⟨_,e,h⟩=>by cases e;exact h,λh=>⟨v,rfl,h⟩⟩
def kW {v:V}{p:V->Prop}:(∃u,v=u/\p u)=p v:=
 propext ⟨λ⟨_,e,h⟩=>by cases e;exact h,λh=>⟨v,rfl,h⟩⟩
end
open PySem.W (Frag findIn specialIn typeIn mroIn clsIn subIn kitOne kitCls)
def ZpV (sc sco:Scope):Bool:=decide (sc.kind=.function)&&sc.names.all λy=>decide (y.2≠NameKind.cell)&&(decide (y.2≠NameKind.local) || decide (sc.names.lookup y.1=some NameKind.local)) &&
 (decide (y.2≠NameKind.free) || (decide (sco.names.lookup y.1=some NameKind.cell) || decide (sco.names.lookup y.1=some NameKind.free)))
def Za4 (h:ZpV sc X.env.scope=true):ie X sc:=by
 unfold ZpV at h;rw[YAY,YBL]at h;obtain⟨h1,h2⟩:=h;refine⟨of_decide_eq_true h1,λy hy=>?_,λy hy e=>?_,λy hy e=>?_⟩
 .have:=h2 y hy;simp only[YAY,Bool.or_eq_true,decide_eq_true_eq]at this;exact this.1.1
 .have:=h2 y hy;simp only[YAY,Bool.or_eq_true,decide_eq_true_eq]at this;rcases this.1.2 with z | z
  .exact absurd e z
  .exact z
 .have:=h2 y hy;simp only[YAY,Bool.or_eq_true,decide_eq_true_eq]at this;rcases this.2 with z | z | z
  .exact absurd e z
  .exact .inl z
  .exact .inr z
section
structure nH (K:Frag)(C:AE)(mro:AD):Prop where
 cd:∃cd,clsIn K C=some cd/\cd.mro=mro
 ty:typeIn K (.ref C)=some (.type "type")
 ne:mro.isEmpty=false
def Zav (h:H a=none):gp H (upd H a o):=λb u hb=>by rw[Zak (Zag hb h)];exact hb
end
def Mk0 (C:AE)(H:Hp)(Q:VK):Prop:=∀e,H e=none->Q (.ref e) (upd H e (xo e C none))
def MkI (sp:Sp)(E:XK)(C:AE)(vs:List V)(H:Hp)(Q:VK):Prop:=∀e,H e=none->sp (.ref e::vs) (upd H e (xo e C none)) (λv H2=>v=.non/\Q (.ref e) H2) E
def gU (xs:List V)(H:Hp)(Q:VK):Prop:=∀p,H p=none->Q (.ref p) (upd H p (.lst xs))
def im (xs:List V)(H:Hp)(Q:VK):Prop:=∀p,H p=none->Q (.ref p) (upd H p (.tup xs))
section
variable {K:Frag}{C:AE}{sp:Sp}{E:XK}{t:TA}{U:St}{H:Hp}{Q:VK}{vs:List V}
def Zq1:ZmC K C t U H Q=t U H (λvs H1=>vs.length<=1000/\Mk0 C H1 Q):=rfl
def Zq0:Zoa C sp E t U H Q=t U H (λvs H1=>vs.length<=1000/\MkI sp E C vs H1 Q):=rfl
def Zq2:tLst t U H Q=t U H (λxs H1=>xs.length<=sizeLine/\gU xs H1 Q):=rfl
def ZqZ:mK t U H Q=t U H (λxs H1=>xs.length<=sizeLine/\im xs H1 Q):=rfl
def ZoJ:rCat (.ref l) (.ref b) H Q=∃xs zs,H l=some (.lst xs)/\H b=some (.lst zs)/\xs.length+zs.length<=sizeLine/\gU (xs++zs) H Q:=
 propext ⟨λ⟨_,_,xs,zs,e1,e2,h⟩=>by cases e1;cases e2;exact⟨xs,zs,h⟩,λ⟨xs,zs,h⟩=>⟨l,b,xs,zs,rfl,rfl,h⟩⟩
def gU.of (h:∀p H',gp H H'->H p=none->H' p=some (.lst vs)->Q (.ref p) H'):gU vs H Q:=λp hp=>h p _ (Zav hp) hp Zao
def im.of (h:∀p H',gp H H'->H p=none->H' p=some (.tup vs)->Q (.ref p) H'):im vs H Q:=λp hp=>h p _ (Zav hp) hp Zao
def gU.at (h:∀p,H p=none->Q (.ref p) (upd H p (.lst vs))):gU vs H Q:=h
def im.at (h:∀p,H p=none->Q (.ref p) (upd H p (.tup vs))):im vs H Q:=h
def Zmr:bootBuiltins "str"=some (.type "str"):=by decide +kernel
def ZcQ:bootBuiltins "list"=some (.type "list"):=by decide +kernel
def Zep:bootBuiltins "set"=some (.type "set"):=by decide +kernel
def ZpX:bootBuiltins "zip"=some (.type "zip"):=by decide +kernel
def ZaV:bootBuiltins "len"=some (.builtin "len"):=by decide +kernel
def Zda:bootBuiltins "isinstance"=some (.builtin "isinstance"):=by decide +kernel
def ZpZ:bootBuiltins "all"=some (.builtin "all"):=by decide +kernel
def ZpY:bootBuiltins "max"=some (.builtin "max"):=by decide +kernel
def ZbD:bootBuiltins "sorted"=some (.builtin "sorted"):=by decide +kernel
end
def Own (K:Frag)(H:Hp)(d:DT)(x:V):Prop:=gx K H d x/\deq d d=true/\dep d<=60
def SqL.mk {K:Frag}{H:Hp}{a:AE}{xs:List V}(h:H a=some (.lst xs)):SqL K H a xs:=.inl (.inl h)
def SqT.mk {K:Frag}{H:Hp}{a:AE}{xs:List V}(h:H a=some (.tup xs)):SqT K H a xs:=.inl (.inl h)
section
variable {X:Cx}{K:Frag}
def Zbe (hK:X.K=K)(hu:X.A.units+64<cLine):OpR X (compareOp .Eq) (iO K false):=by subst hK;exact ZoU hu
def ZbT (hK:X.K=K)(hu:X.A.units+64<cLine):OpR X (compareOp .NotEq) (iO K true):=by subst hK;exact ZoT hu
def ZaC (hK:X.K=K):IxR X (rIxL K):=by subst hK;exact Zno
def ZaS (hK:X.K=K):IxR X (rIxT K):=by subst hK;exact ZpC
def Zhv (hK:X.K=K):SlR X (rSlL K):=by subst hK;exact ZmI
def Zdj (hK:X.K=K):OpR X (compareOp .In) (rIn K false):=by subst hK;exact Zjs
def ZbH (hK:X.K=K):OpR X (compareOp .NotIn) (rIn K true):=by subst hK;exact ZfY
def Zax (hK:X.K=K):ZcG X (.builtin "len") (λxs H Q=>∃x n,xs=[x]/\kG K x H n/\Q (.int n) H):=by subst hK;exact ZlK
def ZbI (hK:X.K=K):ZcG X (.type "list") (λxs H Q=>∃p ys,xs=[.ref p]/\(SqL K H p ys\/SqT K H p ys)/\∀l,H l=none->Q (.ref l) (upd H l (.lst ys))):=by subst hK;exact Zgy
def Zaz (hK:X.K=K)(he:PE X e ta)(hb:attributeBase e f X.env (eval e X.env)=eval e X.env):PE X (.Attribute e f pos) (nv K ta f):=by subst hK;exact ZoO he hb
def ZaP (hK:X.K=K)(hl:PE X l tl):PI X tg l (Znw K tl):=by subst hK;exact ZmW hl
end
def cxK {CX:CXT}{P:AH}{w:AJ}{K:Q4}{mg:AC}{base:Heap}{N:AK}{qual:Str}{scope:Scope}{f:AE}{cd:Value}{A:AI}{outer:List Env}{s:AF}{H:Hp}{E:XK}:
  (ji CX P w K mg base N qual scope f cd A outer s H E).K=K:=rfl
def bxK:(bx X sc N fp s_0 H pn).K=X.K:=rfl
end L2
namespace L2
open PySem PySem.W
def DG (K:Frag)(x:Str)(s:Stmt)(f:AE)(e:AG):Prop:=nsIn K mainGlobals x=some (some (.ref f))/\Fun K x x s f e
def MG (K:Frag)(x q:Str)(s:Stmt)(f:AE)(e:AG):Prop:=Fun K x q s f e/\isFn K (.ref f)=true
structure XG (K:Frag)(x:Str)(C:AE)(L:AD):Prop where
 a:nsIn K mainGlobals x=some (some (.ref C))
 m:Xm K C
 i:Xi K C
 k:nH K C L
def dg_mk {K:Frag}{x:Str}{st:Stmt}{f:AE}{oc:Value}{od an:Option AE}{osl:Array (Option Value)}{kV doc pm Au ct:Value}(a:nsIn K mainGlobals x=some (some (.ref f)))(l:K.lookup f=some ⟨oc,od,.func (fnOf x x (ZbV st) (ZbG st) (Zah st) .none kV doc pm an Au ct),osl⟩)
  (c:codeIn K Au x=true) (k:keepIn K (.ref f)=true):DG K x st f (fnOf x x (ZbV st) (ZbG st) (Zah st) .none kV doc pm an Au ct):=⟨a,Zmh l c k⟩
def mg_mk {K:Frag}{x q:Str}{st:Stmt}{f:AE}{oc:Value}{od an:Option AE}{osl:Array (Option Value)}{kV doc pm Au ct:Value}(l:K.lookup f=some ⟨oc,od,.func (fnOf x q (ZbV st) (ZbG st) (Zah st) .none kV doc pm an Au ct),osl⟩)
  (c:codeIn K Au q=true) (k:keepIn K (.ref f)=true) (n:isFn K (.ref f)=true):MG K x q st f (fnOf x q (ZbV st) (ZbG st) (Zah st) .none kV doc pm an Au ct):=⟨Zmh l c k,n⟩
structure DF (K:Frag)(mg:AC)(x:Str)(st:Stmt)(f:AE)(d:AG)(ps:AK):Prop where
 m:mg x=some (.ref f)
 u:Fun K x x st f d
 b:iC K d ps []
structure MF (K:Frag)(x q:Str)(st:Stmt)(f:AE)(d:AG)(ps:AK):Prop where
 u:Fun K x q st f d
 b:iC K d ps []
section
def Zbg (X:K.In h)(G:h.Ns mainGlobals mg)(D:DG K x st f d)(b:∀(kV doc pm:Value) (an:Option AE) (Au ct:Value) (us:AD),us.length=ps.length->bindArgs (fnOf x x (ZbV st) (ZbG st) (Zah st) .none kV doc pm an Au ct) ⟨us,[]⟩=pure (ps.zip us)):DF K mg x st f d ps:=⟨mg_of X G D.1,D.2,D.2.binds b⟩
def Zbt (D:MG K x q st f d)(b:∀(kV doc pm:Value) (an:Option AE) (Au ct:Value) (us:AD),us.length=ps.length->bindArgs (fnOf x q (ZbV st) (ZbG st) (Zah st) .none kV doc pm an Au ct) ⟨us,[]⟩=pure (ps.zip us)):MF K x q st f d ps:=⟨D.1,D.1.binds b⟩
end
section
def Zal (F:gy X.prog X.w X.K X.mg X.base CX k f fd ps sp)(hr:hG k X.A)(hg:Gl X x)(D:DF X.K X.mg x st f fd ps)(hx:Zdd CX X E)
  (ha:PA X (e::es) t) (hdb:(x == ("__debug__":Str))=false:=by decide) (he:starEach (e::es) X.env=(false,eval e X.env)::starEach es X.env:=by rfl) (hpl:(backTo pos (starEach es X.env)).any (·.1)=false:=by rfl):
  PE X (.Call (.Name x p) (e::es) [] pos) (Zi3 sp [] E t):=Zm0 F hr hg D.m D.u.kp D.b .nil hx ha hdb he hpl
def hM (hr:hG n A)(h:k<=n:=by decide):hG k A:=hr.mono h
def Zaq (hN:X.N.Nodup)(he:PE X e te)(hi:X.N[i]?=some x:=by rfl)(hx:Loc X.env.scope x:=by exact Or.inl rfl)(hs:swapsWith e (some (.Name x pos')) pos.line X.env=pure false:=by rfl)(hf:X.fn x=true\/X.env.scope.names.lookup x=some .local:=by first | exact .inl rfl | exact .inr rfl | assumption):PS X (.Assign [.Name x pos'] e pos) (jY te (Zcb i)):=ZcT hN hi hx he hs hf
end
end L2
namespace L2
open PySem PySem.Spec PyProof.Rows
open PySem.W (Frag)
def gH (J:It)(g:TG)(tb:TS)(D:iM)(U:St)(H:Hp):Prop:=∃W:Nat->Nat->St->Hp->Prop,(∃m,W 0 m U H)/\∀i m U H,W i m U H ->
 (J.stop i H/\D.nx U H)\/(J.go i H/\∃N:St->Hp->Prop,(∀U' H',N U' H'->∃m',m'<m/\W (i+1) m' U' H')/\∀x H',J.yld i H x H'->g x U H' λU2 H2=>tb { D with nx:=N,ct:=N,bk:=D.nx } U2 H2)
def Zq3:tFor wi g tb D U H=wi U H λJ H1=>gH J g tb D U H1:=rfl
def gu (J:It)(τ0:St)(g:TG)(tt:TT)(te:TE)(H1:Hp)(Q:VK):Prop:=∀acc,H1 acc=none->∃W:Nat->Nat->St->Hp->Prop,(∃m,W 0 m τ0 (upd H1 acc (.lst []))) /\
 ∀i m τ H2,W i m τ H2->(J.stop i H2/\Q (.ref acc) H2)\/(J.go i H2/\∃Nx:St->Hp->Prop,(∀τ' H',Nx τ' H'->∃m',m'<m/\W (i+1) m' τ' H') /\
  ∀x H3,J.yld i H2 x H3->g x τ H3 λτ2 H4=>tt τ2 H4 λb H5=>if b=true then te τ2 H5 λy H6=>∃ys,H6 acc=some (.lst ys)/\ys.length<sizeLine/\Nx τ2 (upd H6 acc (.lst (ys++[y]))) else Nx τ2 H5)
def ZoI:ZmG ix wi g tt te U H Q=wi U H λJ H1=>gu J (pick ix U) g tt te H1 Q:=rfl
section
variable {g:TG}{tb:TS}{D:iM}{U:St}{H:Hp}{K:Frag}{a:AE}{xs:List V}
def gH.list (Pv:Nat->St->Hp->Prop)(h0:Pv 0 U H)(hl:∀i U H,i<=xs.length->Pv i U H->SqL K H a xs)
  (hs:∀i x U H,xs[i]?=some x->Pv i U H->g x U H λU2 H2=>tb { D with nx:=Pv (i+1),ct:=Pv (i+1),bk:=D.nx } U2 H2) (hd:∀U H,Pv xs.length U H->D.nx U H):gH (Itl K a) g tb D U H:=
 Zlu Pv h0 hl hs hd
def gH.range {lo:Int}{n:Nat}(Pv:Nat->St->Hp->Prop)(h0:Pv 0 U H)
  (hs:∀i U H,i<n->Pv i U H->g (.int (lo+i)) U H λU2 H2=>tb { D with nx:=Pv (i+1),ct:=Pv (i+1),bk:=D.nx } U2 H2) (hd:∀U H,Pv n U H->D.nx U H):
  gH (Itr lo n) g tb D U H:=Zj2 Pv h0 hs hd
def gH.text (Pv:Nat->St->Hp->Prop)(h0:Pv 0 U H)
  (hs:∀i c U H,l[i]?=some c->Pv i U H->g (tx [c]) U H λU2 H2=>tb { D with nx:=Pv (i+1),ct:=Pv (i+1),bk:=D.nx } U2 H2) (hd:∀U H,Pv l.length U H->D.nx U H):
  gH (Its l) g tb D U H:=Zlt Pv h0 hs hd
end
section
def gu.gen (v:Nat->V)(b:Nat->Bool)(f:Nat->V)(hz:n<=1000)(hgo:∀i H',i<n->gp H H'->J.go i H')(hst:∀H',gp H H'->J.stop n H')(hy:∀i H' x H3,i<n->gp H H'->J.yld i H' x H3->H3=H'/\x=v i)
  (ht:∀i H' Q',i<n->gp H H'->(∀H'',gp H' H''->Q' (b i) H'')->tt (τ0.set 0 (some (v i))) H' Q')
  (he:∀i H' Q',i<n->b i=true->gp H H'->(∀H'',gp H' H''->Q' (f i) H'')->te (τ0.set 0 (some (v i))) H' Q')
  (hQ:∀p H',gp H H'->H p=none->H' p=some (.lst (((List.range n).filter b).map f))->Q (.ref p) H'):gu J τ0 (Zcb 0) tt te H Q:=by
 intro acc ha;refine⟨λi m τ H2=>i<=n/\m=n-i/\(∀w:Option V,τ.set 0 w=τ0.set 0 w)/\gp H H2/\H2 acc=some (.lst (((List.range i).filter b).map f)),⟨n,YBC _,rfl,λ_=>rfl,Zav ha,Zao⟩,?_⟩;rintro i m τ H2 ⟨hi,rfl,hτ,hs,Aw⟩;by_cases A4:i<n
 .refine .inr ⟨hgo i H2 A4 hs,λτ' H'=>(∀w:Option V,τ'.set 0 w=τ0.set 0 w)/\gp H H'/\H' acc=some (.lst (((List.range (i+1)).filter b).map f)),λτ' H' q=>⟨n-(i+1),∅,A4,rfl,q⟩,λx H3 y=>?_⟩;obtain⟨rfl,rfl⟩:=hy i H2 x H3 A4 hs y;show tt (τ.set 0 (some (v i))) _ _;rw[hτ];have hτ':∀w:Option V,(τ0.set 0 (some (v i))).set 0 w=τ0.set 0 w:=λw=>by rw[List.set_set]
  refine ht i _ _ A4 hs λH4 s4=>?_;cases hb:b i with
  | false=>
   rw[YAL YAE];refine⟨hτ',hs.trans s4,?_⟩;rw[s4 _ _ Aw,YCU,YDS];simp[hb]
  | true=>
   rw[YAS rfl];refine he i _ _ A4 hb (hs.trans s4) λH5 s5=>?_;refine⟨_,s5 _ _ (s4 _ _ Aw),?_,hτ',?_,?_⟩
   .rw[YAB];have:=YAx b (List.range i);rw[YAt]at this;exact ZdW ∅
   .intro c o hc;have:c≠acc:=Zag hc ha;rw[Zak this];exact s5 _ _ (s4 _ _ (hs _ _ hc))
   .rw[Zao,YCU,YDS];simp[hb]
 .have e:i=n:=by lia
  subst e;exact .inl ⟨hst H2 hs,hQ acc H2 hs ha Aw⟩
def gu.range {lo:Int}{n:Nat}(b:Nat->Bool)(f:Nat->V)(hz:n<=1000)
  (ht:∀(i:Nat) H' Q',i<n->gp H H'->(∀H'',gp H' H''->Q' (b i) H'')->tt (τ0.set 0 (some (.int (lo+i)))) H' Q')
  (he:∀(i:Nat) H' Q',i<n->b i=true->gp H H'->(∀H'',gp H' H''->Q' (f i) H'')->te (τ0.set 0 (some (.int (lo+i)))) H' Q')
  (hQ:∀p H',gp H H'->H p=none->H' p=some (.lst (((List.range n).filter b).map f))->Q (.ref p) H'):gu (Itr lo n) τ0 (Zcb 0) tt te H Q:=
 .gen (λi=>.int (lo+i)) b f hz (λi _ h _=>h) (λ_ _=>YAT _) (λi H' x H3 _ _ y=>y) ht he hQ
def jc:((List.range n).filter λ_=>true).map f=(List.range n).map f:=by rw[YDN.mpr (λ_ _=>rfl)]
def gu.rangeA {lo:Int}{n:Nat}(f:Nat->V)(hz:n<=1000)
  (he:∀(i:Nat) H' Q',i<n->gp H H'->(∀H'',gp H' H''->Q' (f i) H'')->te (τ0.set 0 (some (.int (lo+i)))) H' Q')
  (hQ:∀p H',gp H H'->H p=none->H' p=some (.lst ((List.range n).map f))->Q (.ref p) H'):gu (Itr lo n) τ0 (Zcb 0) jA te H Q:=
 .range (λ_=>true) f hz (λi H' Q' _ _ q=>q H' (gp.refl _)) (λi H' Q' hi _=>he i H' Q' hi) λp H' s n e=>hQ p H' s n (by rw[e,jc])
def gu.text (b:Nat->Bool)(f:Nat->V)(hz:l.length<=1000)
  (ht:∀i H' Q' (h:i<l.length),gp H H'->(∀H'',gp H' H''->Q' (b i) H'')->tt (τ0.set 0 (some (tx [l.getD i 0]))) H' Q')
  (he:∀i H' Q' (h:i<l.length),b i=true->gp H H'->(∀H'',gp H' H''->Q' (f i) H'')->te (τ0.set 0 (some (tx [l.getD i 0]))) H' Q')
  (hQ:∀p H',gp H H'->H p=none->H' p=some (.lst (((List.range l.length).filter b).map f))->Q (.ref p) H'):gu (Its l) τ0 (Zcb 0) tt te H Q:=
 .gen (λi=>tx [l.getD i 0]) b f hz (λi _ h _=>h) (λ_ _=>YAT _) (λi H' x H3 _ _ y=>by obtain⟨e,c,hc,rfl⟩:=y;refine⟨e,?_⟩;rw[YAQ,hc];rfl) ht he hQ
end
theorem Zcv:∀ {vs:List V},vs.all ZbC=true->hE (vs.map DT.f) (vs.map DT.f)=true
 | [],_=>by unfold hE;rfl
 | v::vs,h=>by rw[List.all_cons,YAY]at h;rw[YAc];unfold hE;rw[Zcv h.2];unfold deq;rw[Zfv h.1];rfl
def ko {K:Frag}{H:Hp}{a:AE}{vs:List V}(h:SqL K H a vs)(hf:vs.all ZbC=true):Own K H (.l (vs.map DT.f)) (.ref a):=⟨jG h hf,by unfold deq;exact Zcv hf,by unfold dep;rw[Zcw];decide⟩
def ownT {K:Frag}{H:Hp}{a:AE}{vs:List V}(h:SqT K H a vs)(hf:vs.all ZbC=true):Own K H (.t (vs.map DT.f)) (.ref a):=⟨jE h hf,by unfold deq;exact Zcv hf,by unfold dep;rw[Zcw];decide⟩
def ZlA {K:Frag}{H:Hp}{Q:VK}{a b:AE}{vs:List V}(h1:SqL K H a vs)(h2:SqL K H b vs)(hf:vs.all ZbC=true)(q:Q (.bl true) H):iO K false (.ref a) (.ref b) H Q:=
 .inr ⟨_,_,jG h1 hf,jG h2 hf,λz=>YAE z.1,(ko h1 hf).2.2,by rw[(ko h1 hf).2.1];exact q⟩
def Zp7 {t:SetTable}{n:Nat}:(t.orStandIn n).led=t.led/\((t.orStandIn n).plain=true->t.plain=true):=by
 unfold SetTable.orStandIn;split
 .exact⟨rfl,id⟩
 .exact⟨rfl,λh=>by cases h⟩
def Zn9:(layNew t es h x).2.1.led=t.led/\((layNew t es h x).2.1.plain=true->t.plain=true):=by
 unfold layNew;split
 .rename_i slot wd _
  exact Zp7 (t:=(t.put slot).1)
 .exact⟨rfl,λh=>by cases h⟩
def ZmB {mask finger moves:Nat}{led plain:Bool}{hs:Array Int}{t':SetTable}{order:Array Nat}(e:SetTable.laid mask finger moves led plain hs=some (t',order)):t'.led=led/\t'.plain=plain:=by
 unfold SetTable.laid at e;cases hq:SetTable.layClean mask hs with
 | none=>rw[hq]at e;cases e
 | some ow=>
  rw[hq]at e;have e':=Option.some.inj e;obtain⟨z,_⟩:=Prod.mk.inj e';subst z;exact⟨rfl,rfl⟩
def ZkB:(relayAll t es n).2.1.led=t.led/\((relayAll t es n).2.1.plain=true->t.plain=true):=by
 unfold relayAll;split
 .rename_i t' order q
  obtain⟨h1,h2⟩:=ZmB q;dsimp only;split
  .exact⟨h1,λh=>by rw[<-h2];exact h⟩
  .exact⟨rfl,λh=>by cases h⟩
 .exact⟨rfl,λh=>by cases h⟩
def gF (P:AH)(w:AJ)(h:Heap)(a:AE)(ls:Q22)(led:Bool):Prop:=
 ∃(o:Obj) (es:Array (Int×Value)) (ep:Nat) (t:SetTable) (ms:Q22),h.get? a=some o/\o.ExactSet/\o.data=.set es ep t/\ElemsOf (ZaF P w) es.toList/\t.fits es.size=true /\
  t.led=led/\(t.plain=true->es.size=0)/\ms.Perm ls/\gs (ms.map tx) (es.toList.map (·.2))/\es.size<scanBound
def gF.keep (x:gF P w h a ls led)(k:∀o,h.get? a=some o->h'.get? a=some o):gF P w h' a ls led:=by obtain⟨o,es,ep,t,ms,h1,r⟩:=x;exact⟨o,es,ep,t,ms,k o h1,r⟩
def gF.typ {P:AH}{w:AJ}{s:AF}{a:AE}{ls:Q22}{led:Bool}(x:gF P w s.heap a ls led):s.TypeIs (.ref a) "set":=by obtain⟨o,es,ep,t,ms,h1,h2,_⟩:=x;exact⟨o,h1,h2.1⟩
noncomputable def ir (ls:Q22)(l:Q11):Q22:=if l∈ls then ls else ls++[l]
def ZpG (r:gC v u)(hv:∃m,v=tx m):Zc3 (Sum.inr (⟨l.toArray⟩:Str):Key) u=decide (v=tx l):=by
 obtain⟨m,rfl⟩:=hv;obtain⟨t,rfl⟩:=r;rw[ZcK];simp only[Zc3,Value.isStrOf];by_cases h:m=l
 .subst h;simp
 .have:¬(⟨m.toArray⟩:Str)=⟨l.toArray⟩:=λe=>h (Zds.mp (congrArg V.str e));rw[decide_eq_false h];simp[this]
theorem Ze0 {l:Q11}:∀ {ms:Q22} {es:List (Int×Value)},gs (ms.map tx) (es.map (·.2))->((∃e∈es,Zc3 (Sum.inr (⟨l.toArray⟩:Str):Key) e.2=true)↔l∈ms)
 | [],[],_=>by simp
 | [],_::_,r=>by cases r
 | _::_,[],r=>by cases r
 | m::ms,e::es,r=>by
  cases r with
  | cons r1 r2=>
   have ih:=Ze0 (l:=l) r2;have q:=ZpG (l:=l) r1 ⟨m,rfl⟩;rw[ZcK]at q;constructor
   .rintro⟨x,hx,hk⟩;rcases YAJ.mp hx with z | z
    .subst z;rw[q]at hk;exact YAJ.mpr (.inl (of_decide_eq_true hk).symm)
    .exact YAJ.mpr (.inr (ih.mp ⟨x,z,hk⟩))
   .intro h;rcases YAJ.mp h with z | z
    .exact⟨e,YAZ,by rw[q];exact decide_eq_true z.symm⟩
    .obtain⟨x,hx,hk⟩:=ih.mpr z;exact⟨x,YAO _ hx,hk⟩
def Zci (p:us'.Perm us):∀ {ms:Q22},gs (ms.map tx) us->∃ms':Q22,ms'.Perm ms/\gs (ms'.map tx) us':=by
 induction p with
 | nil=>intro ms r;exact⟨ms,.refl _,r⟩
 | cons x _ ih=>
  intro ms r;cases ms with
  | nil=>cases r
  | cons m ms=>
   cases r with
   | cons r1 r2=>
    obtain⟨ms',p',r'⟩:=ih r2;exact⟨m::ms',p'.cons _,.cons r1 r'⟩
 | swap x y l=>
  intro ms r
  match ms,r with
  | m1::m2::ms,.cons r1 (.cons r2 r3)=>exact⟨m2::m1::ms,.swap _ _ _,.cons r2 (.cons r1 r3)⟩
 | trans _ _ ih1 ih2=>
  intro ms r;obtain⟨m1,p1,r1⟩:=ih2 r;obtain⟨m2,p2,r2⟩:=ih1 r1;exact⟨m2,p2.trans p1,r2⟩
section
def Zhw {g:Bool->Sem Unit}(hg:∀(b:Bool) (s_1:AF) (Q':Unit->AF->Prop),Q' () s_1->wpAny (model prog w) A (g b) Q' E s_1){a:AE}{o:Obj}{es:Array (Int×Value)}{ep:Nat}{t:SetTable}
  (ho:s.heap.get? a=some o) (hd:o.data=.set es ep t) {e1:Array (Int×Value)} {t2:SetTable} (hb:e1.size<scanBound) (hf:t2.fits e1.size=true) {wd:Bool} {R:Option Bool->AF->Prop}
  (h:∀h' e2 t3 ep',Heap.SameBut a s.heap h'->h'.get? a=some { o with data:=.set e2 ep' t3 }->e2.toList.Perm e1.toList->t3.fits e2.size=true->t3.led=t2.led->(t3.plain=true->t2.plain=true)->R (some true) { s with heap:=h' }):
  wpAny (model prog w) A (do
   storeSet a e1 t2
   if (!wd&&t2.tooFull)=true then do
    g (relayAll t2 e1 (SetTable.grown e1.size)).2.2;storeSet a (relayAll t2 e1 (SetTable.grown e1.size)).1 (relayAll t2 e1 (SetTable.grown e1.size)).2.1;pure (some true)
   else pure (some true)) R E s:=by
 have put:∀ {h:Heap} {ob:Obj} {xs ys:Array (Int×Value)} {n:Nat} {t t':SetTable},h.get? a=some ob->ob.data=.set xs n t->(h.update a (Obj.putSet ys t')).get? a=some { ob with data:=.set ys (n+1) t' }:=λ{h ob xs ys n t t'} h1 h2=>by
  have q:=YCG (Obj.putSet ys t') h1 (by rw[putSet_of ys t' h2];rfl)
  rwa [putSet_of ys t' h2]at q
 have hs1:=YAn s.heap a (Obj.putSet e1 t2);have g1:=put (ys:=e1) (t':=t2) ho hd;refine YAA (YCw ho hd ?_ (fits_of_scanBound hb));split
 .have p:=relayAll_perm t2 e1 (SetTable.grown e1.size);have f:=relayAll_fits t2 e1 (SetTable.grown e1.size);have tm:=ZkB (t:=t2) (es:=e1) (n:=SetTable.grown e1.size);have z:(relayAll t2 e1 (SetTable.grown e1.size)).1.size=e1.size:=by rw[<-YAG,p.length_eq,YAG]
  refine YAA (hg _ _ _ (YAA (YCw g1 rfl (YAC ?_) (fits_of_scanBound (by rw[z];exact hb)))));exact h _ _ _ _ (hs1.trans (YAn _ a _)) (put (ob:={ o with data:=.set e1 (ep+1) t2 }) g1 rfl) p f tm.1 tm.2
 .exact YAC (h _ _ _ _ hs1 g1 (.refl _) hf rfl id)
def Zi8 (hS:gF prog w s.heap a ls led)(hn:ls.length+1<scanBound)
  (h:∀h' b,Heap.SameBut a s.heap h'->gF prog w h' a (ir ls l) led->Q b { s with heap:=h' }):
  wpAny (model prog w) A (setAddHashed a (.str ⟨l.toArray⟩ tk) (i5 w (Sum.inr ⟨l.toArray⟩))) Q E s:=by
 obtain⟨o,es,ep,t,ms,ho,hex,hd,hel,hf,hled,hpl,hp,hv,hb⟩:=hS;have hkey:(ZaF prog w).is (Sum.inr (⟨l.toArray⟩:Str)) (.str ⟨l.toArray⟩ tk)=true:=by exact ZcN prog w _ _
 have hsc:(Value.str ⟨l.toArray⟩ tk).scannable=true:=rfl;have Av:es.size=ls.length:=by have q:=hv.length;rw[YAB,YAB]at q;rw[<-YAG,<-q,hp.length_eq]
 have mem:=Ze0 (l:=l) hv;have hl:l∈ms↔l∈ls:=hp.mem_iff;unfold setAddHashed setAddHashedIn;refine YBD (YAA (YBH ho hd hf ?_));dsimp only;rw[byScan_of hsc hb hel,YAS rfl];unfold setAddByScan;refine YAA (YAA (YBn (YAA (wpAny_setScan_of (knd:=ZaF prog w) (k:=Sum.inr (⟨l.toArray⟩:Str)) hkey ho hd hf hel ?_))));cases hr:List.findIdx? (λe=>(ZaF prog w).is (Sum.inr (⟨l.toArray⟩:Str)) e.2) es.toList with
 | some j=>
  dsimp only;obtain⟨hj,hpj,_⟩:=List.findIdx?_eq_some_iff_getElem.mp hr;have hin:l∈ls:=hl.mp (mem.mp ⟨es.toList[j],YBv hj,hpj⟩);refine YAC (YAC ?_);have q:=h s.heap false (YCm a s.heap) (by unfold ir;rw[YAS hin];exact⟨o,es,ep,t,ms,ho,hex,hd,hel,hf,hled,hpl,hp,hv,hb⟩)
  exact q
 | none=>
  dsimp only;have hnin:l∉ls:=λz=>by obtain⟨e,he,hk⟩:=mem.mpr (hl.mpr z);have q:=List.findIdx?_eq_none_iff.mp hr e he;rw[show (ZaF prog w).is (Sum.inr (⟨l.toArray⟩:Str)) e.2=true from hk]at q;cases q
  have lp:=layNew_perm t es (i5 w (Sum.inr ⟨l.toArray⟩)) (.str ⟨l.toArray⟩ tk);have lf:=layNew_fits t es (i5 w (Sum.inr ⟨l.toArray⟩)) (.str ⟨l.toArray⟩ tk);have lt:=Zn9 (t:=t) (es:=es) (h:=i5 w (Sum.inr ⟨l.toArray⟩)) (x:=.str ⟨l.toArray⟩ tk);show wpAny _ A (match layNew t es (i5 w (Sum.inr ⟨l.toArray⟩)) (.str ⟨l.toArray⟩ tk) with | (es,t,wasDummy,gave)=>_) _ _ _;generalize hL:layNew t es (i5 w (Sum.inr ⟨l.toArray⟩)) (.str ⟨l.toArray⟩ tk)=L at lp lf lt ⊢;obtain⟨e1,t1,wd,gave⟩:=L;dsimp only at lp lf lt ⊢;rw[YBi]at lp;have sz1:e1.size=ls.length+1:=by rw[<-YAG,lp.length_eq,YAF,YAG,Av];rfl
  have gw:∀(b:Bool) (s_1:AF) (Q':Unit->AF->Prop),Q' () s_1->wpAny (model prog w) A (match b with | true=>rule "set.scan.the-table-gave-way" | false=>pure ()) Q' E s_1:=
   λb s_1 Q' hq=>by cases b<;>first | exact YAC hq | exact YBn hq
  refine YAA (gw _ _ _ ?_);have fin:∀(t2:SetTable),t2.fits e1.size=true->t2.led=t1.led->t2.plain=false->∀h' e2 t3 ep',Heap.SameBut a s.heap h'->h'.get? a=some { o with data:=.set e2 ep' t3 }->e2.toList.Perm e1.toList->t3.fits e2.size=true->t3.led=t2.led->(t3.plain=true->t2.plain=true)->Q true { s with heap:=h' }:=by
   intro t2 f2 l2 p2 h' e2 t3 ep' sb hg pm f3 l3 p3;refine h h' true sb ?_;have pall:=pm.trans lp;obtain⟨ms',pm',hv'⟩:=Zci (us:=(es.toList++[(i5 w (Sum.inr ⟨l.toArray⟩),Value.str ⟨l.toArray⟩ tk)]).map (·.2)) (us':=e2.toList.map (·.2)) (pall.map _) (ms:=ms++[l]) (by rw[YAr,YAr];exact hv.append (.cons ⟨tk,rfl⟩ .nil))
   unfold ir;rw[YAL hnin];refine⟨_,e2,ep',t3,ms',hg,hex,rfl,((hel.push (knd:=ZaF prog w) hkey hsc).perm pall),f3,l3.trans (l2.trans (lt.1.trans hled)),λz=>by rw[p2]at p3;exact absurd (p3 z) YAE,pm'.trans (hp.append_right [l]),hv',?_⟩;rw[<-YAG,pm.length_eq,YAG,sz1];exact hn
  split
  .refine YAA ?_;rw[hashByValue_scannable 8 hsc];refine YAC ?_;refine Zhw gw ho hd (by rw[sz1];exact hn) ?_ λh' e2 t3 ep' q1 q2 q3 q4 q5 q6=>?_
   .exact SetTable.fits_plain_off lf
   .exact YAC (fin _ (SetTable.fits_plain_off lf) rfl rfl h' e2 t3 ep' q1 q2 q3 q4 q5 q6)
  .rename_i hnp
   have hnp':t1.plain=false:=by simpa using hnp
   refine YAA (YAC ?_);rw[YAS rfl];refine Zhw gw ho hd (by rw[sz1];exact hn) lf λh' e2 t3 ep' q1 q2 q3 q4 q5 q6=>YAC (fin _ lf rfl hnp' h' e2 t3 ep' q1 q2 q3 q4 q5 q6)
end
def dd (val:Nat->Q11)(i:Nat):Q22:=((List.range i).map val).foldl ir []
def Zhg:dd val (i+1)=ir (dd val i) (val i):=by unfold dd;rw[YCU,YAr,List.foldl_append];rfl
def ZlM:(ir ls l).length<=ls.length+1:=by
 unfold ir;split
 .lia
 .simp
theorem Zkg {val:Nat->Q11}:∀i,(dd val i).length<=i
 | 0=>YAT _
 | i+1=>by
  rw[Zhg];have h1:=Zkg (val:=val) i;have h2:=ZlM (ls:=dd val i) (l:=val i)
  lia
theorem ZcE {val:Nat->Q11}:∀i,(dd val i).Nodup
 | 0=>by simp[dd]
 | i+1=>by
  rw[Zhg];unfold ir;split
  .exact ZcE i
  .rename_i h
   rw[YBz];refine⟨ZcE i,by simp,?_⟩;intro a ha b hb e;have:b=val i:=by simpa using hb
   subst e this;exact h ha
section
variable {prog:AH}{w:AJ}{A:AI}{R:Result->AF->Prop}{I:AE}{fp wr:List AE}{G:Array GenState->Array GenState->Prop}{n:Nat}{Pi:Nat->Value->Prop}{St:Nat->AF->Prop}
def ZkG (W:WalksS prog w A.in1 I fp wr G n Pi St)(S:AE)(hSf:S∉fp)(val:Nat->Q11)(hval:∀i v,Pi i v->∃t,v=.str ⟨(val i).toArray⟩ t)(hb:n+1<scanBound){led:Bool}:
  ∀(k i:Nat) (s:AF),n-i=k->i<=n->St i s->gF prog w s.heap S (dd val i) led->(∀s',Moved (S::wr) G s s'->gF prog w s'.heap S (dd val n) led->R (.ok (.ret .none)) s') ->
   codeAny (model prog w) A (.builtin "set.update.loop" ⟨[.ref S,.ref I],[]⟩) R s:=by
 have nw:S∉wr:=λh=>hSf (W.sub _ h);have up:∀b∈wr,b∈S::wr:=λb hb=>YAO _ hb;intro k;induction k with
 | zero=>
  intro i s hk hi st hS hR;have e:i=n:=by lia
  subst e;refine codeAny_builtin F.entry_set_update_loop ?_;rw[YCN F.plain_set_update_loop _];show wpAny _ A.in1 (pyNext (.ref I) >>= λr=>_) _ _ s;refine YAA (W.done s _ _ st λs' hm=>?_);exact YAC (hR s' (hm.mono up) (hS.keep λo e=>hm.heap S o nw e))
 | succ k ih=>
  intro i s hk hi st hS hR;have A4:i<n:=by lia
  refine codeAny_builtin F.entry_set_update_loop ?_;rw[YCN F.plain_set_update_loop _];show wpAny _ A.in1 (pyNext (.ref I) >>= λr=>_) _ _ s;refine YAA (W.item i s _ _ A4 st λv s1 hP st1 hm=>?_);obtain⟨tk,rfl⟩:=hval i v hP;have hS1:gF prog w s1.heap S (dd val i) led:=hS.keep λo e=>hm.heap S o nw e;show wpAny _ A.in1 (holding [Value.str ⟨(val i).toArray⟩ tk] (setAdd S (.str ⟨(val i).toArray⟩ tk)) >>= λ_=>_) _ _ s1;refine YAA (YBD ?_);unfold setAdd;refine YBD (YAA (wpAny_pyHash_str ?_));refine Zi8 (s:={ s1 with toks:=s1.toks+1 }) (l:=val i) hS1 (by have:=Zkg (val:=val) i;lia) λh' b sb hS2=>?_;rw[<-Zhg]at hS2;refine YAC ⟨plainId_quiet F.plain_set_update_loop _,ih (i+1) _ ∅ A4 (W.frame _ s1 _ _ st1 (Nat.le_succ _) λb hb o e=>(sb.2 b λz=>hSf (z▸hb)).trans e) hS2 λs2 hm2 hS3=>?_⟩;exact hR s2 (Moved.trans W.gtrans ((hm.mono up).then_heap (Nat.le_succ _) λb o hb e=>(sb.2 b λz=>hb (z▸YAZ)).trans e) hm2) hS3
end
def ZcM {i:Nat}{u:Value}:∀ {vs:List V} {us:AD} ,gs vs us->us[i]?=some u->∃v,vs[i]?=some v/\gC v u:=by
 induction i with
 | zero=>
  intro vs us r e;cases r with
  | nil=>cases e
  | cons r1 _=>cases e;exact⟨_,rfl,r1⟩
 | succ i ih=>
  intro vs us r e;cases r with
  | nil=>cases e
  | cons _ r2=>exact ih r2 e
structure jD (prog:AH)(w:AJ)(x:Value)(s:AF)(T:String)(n:Nat)(val:Nat->Q11):Prop where
 ty:∀s1:AF,(∀b o,s.heap.get? b=some o->s1.heap.get? b=some o)->s1.TypeIs x T
 go:∀(A:AI) (s1:AF) (Q:Q33) (E:Q33),A.handled=none->(∀b o,s.heap.get? b=some o->s1.heap.get? b=some o) ->
  (∀(h2:Heap) (I:AE) (fp wr:List AE) (Pi:Nat->Value->Prop) (St:Nat->Heap->Prop),(∀A':AI,A'.handled=none->Walks prog w A' I fp wr n Pi St)->St 0 h2 ->
   (∀b∈fp,b<s.heap.objs.size\/s1.heap.objs.size<=b)->(∀b∈wr,s1.heap.objs.size<=b)->(∀b o,s1.heap.get? b=some o->h2.get? b=some o)->(∀i v,Pi i v->∃t,v=.str ⟨(val i).toArray⟩ t)->Q (.ref I) { s1 with heap:=h2 }) ->
  wpAny (model prog w) A (pyIter x) Q E s1
def ZgJ {prog:AH}{w:AJ}{s:AF}{l:AE}{us:AD}{ls:Q22}(hl:s.heap.IsList l us.toArray)(r:gs (ls.map tx) us):jD prog w (.ref l) s "list" ls.length (λi=>ls.getD i []) where
 ty:=λs1 k=>by obtain⟨o,ho,hc,_⟩:=hl;exact⟨o,k _ _ ho,hc⟩
 go:=λA s1 Q E hh k h=>by
  obtain⟨o,ho,hc,hr⟩:=id hl;have hl1:s1.heap.IsList l us.toArray:=⟨o,k _ _ ho,hc,hr⟩;have A4:=YAR ho;have hlt1:=YAR (k _ _ ho);have Av:us.toArray.size=ls.length:=by rw[YAM,<-r.length,YAB]
  refine YCx hl1 ?_;have W:∀A':AI,A'.handled=none->Walks prog w A' s1.heap.objs.size [s1.heap.objs.size,l] [s1.heap.objs.size] ls.length (λi v=>us.toArray[i]?=some v) (λi h=>h.IsListIter s1.heap.objs.size l i/\h.IsList l us.toArray):=λA' hA=>by
   have q:=Walks.list (prog:=prog) (w:=w) hA s1.heap.objs.size l (YAd hlt1) us.toArray
   rwa [Av]at q
  refine h _ _ _ _ _ _ W ⟨⟨_,YAU _ rfl,rfl,rfl⟩,hl1.push _⟩ (λb hb=>?_) (λb hb=>?_) (λb o e=>YAD _ e) (λi v e=>?_)
  .rcases YAJ.mp hb with z | z
   .exact .inr (YCu z.symm)
   .have z:b=l:=by simpa using z
    rw[z];exact .inl A4
  .have z:b=s1.heap.objs.size:=by simpa using hb
   exact YCu z.symm
  .have e':us[i]?=some v:=by simpa using e
   obtain⟨v',hv',rv⟩:=ZcM r e';rw[YAK]at hv';cases q:ls[i]? with
   | none=>rw[q]at hv';cases hv'
   | some m=>
    rw[q]at hv';cases hv';obtain⟨t,rfl⟩:=rv;exact⟨t,by rw[YAQ,q];rfl⟩
def ZgI {prog:AH}{w:AJ}{s:AF}{l:Q11}{t:Tok}:jD prog w (.str ⟨l.toArray⟩ t) s "str" l.length (λi=>[l.getD i 0]) where
 ty:=λs1 _=>typeIs_str s1 _ _
 go:=λA s1 Q E hh k h=>by
  have Av:(⟨l.toArray⟩:Str).cps.size=l.length:=by show l.toArray.size=_;simp
  have item:∀(i:Nat) (v:Value),(∃c u,(⟨l.toArray⟩:Str).cps[i]?=some c/\v=.str ⟨#[c]⟩ u)->∃t,v=.str ⟨[l.getD i 0].toArray⟩ t:=by
   rintro i v ⟨c,u,e,rfl⟩;have e':l[i]?=some c:=by simpa using e
   exact⟨u,by rw[YAQ,e'];rfl⟩
  refine wpAny_pyIter_str λo St W st=>?_;rw[Av]at W;refine h _ _ _ _ _ _ W st (λb hb=>.inr ?_) (λb hb=>?_) (λb o e=>YAD _ e) (λi v ⟨c,u,e,e2⟩=>item i v ⟨c,u,e,e2⟩)
  .have z:b=s1.heap.objs.size:=by simpa using hb
   exact YCu z.symm
  .have z:b=s1.heap.objs.size:=by simpa using hb
   exact YCu z.symm
section
abbrev Zch (led:Bool):Obj:={ cls:=.type "set",dict:=none,data:=.set #[] 0 (.fresh 0 0 led) }
def ZfN (ho:h.get? a=some (Zch led)):gF prog w h a [] led:=
 ⟨_,#[],0,_,[],ho,⟨rfl,rfl,rfl⟩,rfl,λe he=>by simp at he,rfl,rfl,λ_=>rfl,.refl _,.nil,by show 0<4096;decide⟩
def ZaZ (w:AJ):Bool:=w.params.followText "set-order"
def ZmK (a:Value){Q₁:Q33}(h:Q₁ (.ref s.heap.objs.size) { s with heap:=s.heap.push (Zch (!ZaZ w)) }):
  codeAny (model prog w) A (.call (.builtin "set.__new__") ⟨[.type "set",a],[]⟩) (wants Q₁ E) s:=by
 refine codeAny_of_tree ?_;show wpAny _ A.in1 (checkBuiltinCall "set.__new__" ⟨[.type "set",a],[]⟩ >>= λ_=>again (.builtin "set.__new__" ⟨[.type "set",a],[]⟩)) _ _ s;refine YAA (wpAny_of_eq (F.newCall_set_1 a) (YAC ⟨plainId_quiet F.plain_set_new _,codeAny_builtin F.entry_set_new ?_⟩));rw[YCN F.plain_set_new _];unfold Builtin.«set.__new__» Builtin.Frozenset.newClass;have hsub:=sub_set_self;obtain⟨hp,g,d,tk,os⟩:=s;dsimp only
 wp_walk
 refine YBt (YAC ?_);dsimp only;simp only[newObj];exact YAA (wpAny_alloc (YAC (YAC h)))
set_option maxHeartbeats 3200000 in
def Zhx (hh:A.handled=none) (W:jD prog w x s T n val) (t1:isSubtype (.type T) (.type "set")=pure false) (t2:isSubtype (.type T) (.type "frozenset")=pure false)
  (t3:(Value.type T == Value.type "dict")=false) (hb:n+1<scanBound)
  (h:∀(h':Heap) (tk:Nat),gF prog w h' s.heap.objs.size (dd val n) (!ZaZ w)->(∀b o,s.heap.get? b=some o->h'.get? b=some o)->s.toks<=tk->Q (.ref s.heap.objs.size) { s with heap:=h',toks:=tk }):
  wpAny (model prog w) A (call (.type "set") [x]) Q E s:=by
 obtain⟨c,tl,hmro⟩:=F.called_set.mro;have hmade:=F.called_set.made;have hsub:=F.called_set.sub;refine wpAny_call (codeAny_of_tree ?_);show wpAny _ _ (callAny (.type "set") _) _ _ _;refine YAC ⟨Code.quiet_builtin _ (by decide +kernel),codeAny_builtin F.entry_type_call ?_⟩;rw[Around.under_plain (weight_type_call_type "set" [x] []) rfl];have h1:=F.called_set.notType;have h2:=F.called_set.canCreate;have hct:=F.typeCall_set_1 x;repeat (any_goals (first | assumption | wp_step))
 refine codeAny_mono (ZmK x (E:=E) (Q₁:=λob s_1=>ob=.ref s.heap.objs.size/\s_1={ s with heap:=s.heap.push (Zch (!ZaZ w)) }) ⟨rfl,rfl⟩) λr s_1 hr=>?_;cases r with
 | error e=>exact hr
 | ok fl=>
  cases fl with
  | ret ob=>
   obtain⟨rfl,rfl⟩:=hr;have hS:(s.heap.push (Zch (!ZaZ w))).get? s.heap.objs.size=some (Zch (!ZaZ w)):=YAU _ rfl;have hT:Shared.TypeIs { s with heap:=s.heap.push (Zch (!ZaZ w)) } (.ref s.heap.objs.size) "set":=⟨_,hS,rfl⟩;have hli:=F.called_set.init.lookup;have hbi:=F.called_set.init.bind (.ref s.heap.objs.size);have keep1:∀b o,s.heap.get? b=some o->(s.heap.push (Zch (!ZaZ w))).get? b=some o:=λb o e=>YAD _ e;repeat (any_goals (first | assumption | wp_step))
   refine codeAny_mono (codeAny_call_builtin (R:=wants (λr s_2=>r=.none/\∃h' tk,s_2={ s with heap:=h',toks:=tk }/\gF prog w h' s.heap.objs.size (dd val n) (!ZaZ w)/\(∀b o,s.heap.get? b=some o->h'.get? b=some o)/\s.toks<=tk) E)
    F.called_set.init.plain F.entry_set_init (check_set_init_1 hT ?_)) λr9 s_2 hr9=>?_
   .have hTx:=W.ty { s with heap:=s.heap.push (Zch (!ZaZ w)) } keep1;unfold Builtin.«set.__init__» noKeywords Builtin.Frozenset.updateFrom;generalize hPI:pyIter=PI
    wp_walk
    subst hPI;refine W.go _ _ _ _ (by simp[hh]) keep1 λh2 I fp wr Pi St Wk st f1 f2 k2 hval=>?_;refine YAA (wpAny_runValue ?_);have hSf:s.heap.objs.size∉fp:=λz=>by
     rcases f1 _ z with q | q
     .exact YBM _ q
     .rw[YBa]at q;exact absurd q (Nat.not_succ_le_self _)
    refine ZkG ((Wk A.in1.in1.in1 (by simp[hh])).toS) s.heap.objs.size hSf val hval hb (n-0) 0 _ ∅ (YBC _) st (ZfN (k2 _ _ hS)) λs' hm hS'=>?_;obtain⟨h',g',d',tk',os'⟩:=s';have eg:g'=s.gens:=hm.gens;have ed:d'=s.drawn:=hm.drawn;have eo:os'=s.os:=hm.os;have et:s.toks<=tk':=hm.toks;subst eg ed eo;refine YAC ?_;refine YAC ⟨rfl,h',tk',rfl,hS',λb o e=>?_,et⟩;have A4:=YAR e;refine hm.heap b o (λz=>?_) (k2 b o (keep1 b o e));rcases YAJ.mp z with q | q
    .rw[q]at A4;exact YBM _ A4
    .have q2:=f2 b q;rw[YBa]at q2;exact absurd (YAy A4 (Nat.le_of_succ_le q2)) (YBM _)
   .cases r9 with
    | error e=>exact hr9
    | ok fl2=>
     cases fl2 with
     | ret r=>
      obtain⟨rfl,h',tk,rfl,hS',hk',htk⟩:=hr9;repeat (any_goals (first | assumption | wp_step))
      exact h _ _ hS' hk' htk
     | _=>exact hr9.elim
  | _=>exact hr.elim
end
theorem ZcC {α:Type}:∀(xs:List α) (i:Nat) (h:i<xs.length),(xs[i]::xs.eraseIdx i).Perm xs
 | x::xs,0,_=>.refl _
 | x::xs,i+1,h=>by
  have hi:i<xs.length:=by simpa using h
  have ih:=ZcC xs i hi;show (xs[i]::x::xs.eraseIdx i).Perm (x::xs);exact(List.Perm.swap _ _ _).trans (ih.cons x)
section
def jO (hn:n≠0)(h:∀i d,i<n->Q i { s with drawn:=d }):wpAny M A (choose src n) Q E s:=λΓ p hΓ=>by unfold choose;rw[Sem.wp_choose];exact⟨hn,h _ _ (YBh _ (Nat.pos_of_ne_zero hn))⟩
theorem Zdr {α:Type}:∀(n:Nat) (xs:List α) (s:AF) (Q:List α->AF->Prop),xs.length=n->(∀ys d,ys.Perm xs->Q ys { s with drawn:=d })->wpAny M A (drawOrder n xs) Q E s
 | 0,xs,s,Q,hl,h=>by
  have e:xs=[]:=List.eq_nil_of_length_eq_zero hl;subst e;unfold drawOrder;exact YAC (h [] s.drawn (.refl _))
 | n+1,[],s,Q,hl,h=>by cases hl
 | n+1,x::xs,s,Q,hl,h=>by
  unfold drawOrder;refine YAA (jO (by simp) λi d hi=>?_);have e:(x::xs)[i]?=some (x::xs)[i]:=YAH hi;rw[e];dsimp only;refine YAA (Zdr n ((x::xs).eraseIdx i) _ _ ?_ λys d' p=>YAC ?_)
  .rw[YCX hi,hl];rfl
  .refine h _ d' ((List.Perm.cons _ p).trans ?_);exact ZcC _ _ hi
end
def Zey:entryFor table "set.__iter__"=some Builtin.«frozenset.__iter__»:=entryFor_alias (id':="frozenset.__iter__") (by kernel_rfl) rfl (by decide +kernel) (by kernel_rfl)
def ZaN:Slot "set_iterator" "__next__" "set_iterator.__next__":=
 .of (owner:="set_iterator") (n:="__next__") (by rw[typeLookup_type,builtinLookup_eq_fast];kernel_rfl) (by decide +kernel) (by decide +kernel) (by decide +kernel)
  (by first | exact .inl (by decide +kernel) | exact .inr (by decide +kernel)) (by rw[isSubtype_type];kernel_rfl)
def ZbR:entryFor table "set_iterator.__next__"=some Builtin.«set_iterator.__next__»:=entryFor_of_fast (by kernel_rfl)
def Zb6 (a:Value):argsOk "set_iterator.__next__" ⟨[a],[]⟩:=by unfold argsOk;kernel_rfl
section
def iW (h:Heap)(I S:AE)(first:Value)(i n ep:Nat):Prop:=∃o,h.get? I=some o/\o.cls=.type "set_iterator"/\o.data=.fields #[first,.int i 0,.ref S,.int n 0,.int ep 0]
def ZnJ {t:SetTable}{n:Nat}(hf:t.fits n=true):(t.place.size != n || decide (t.fill>t.mask))=false:=by simp only[SetTable.fits,YAY,beq_iff_eq,decide_eq_true_eq]at hf;simp[hf.1,Nat.not_lt.mpr hf.2]
def Zlk (ho:s.heap.get? S=some o)(hex:o.ExactSet)(hd:o.data=.set es ep t)(hf:t.fits es.size=true)(hz:es.size<=sizeLine)
  (h0:(ZaZ w=true\/(t.plain=true\/es.size<=1))->Q (.ref s.heap.objs.size) { s with heap:=s.heap.push { cls:=.type "set_iterator",data:=.fields #[.int 0 0,.int 0 0,.ref S,.int es.size 0,.int ep 0] } })
  (h1:∀(ps:Q11) (d:Drawn),ps.Perm (List.range es.size)->Q (.ref (s.heap.objs.size+1)) { s with drawn:=d,heap:=(Heap.push s.heap { cls:=.type "tuple",data:=.seq (ps.map (λi=>Value.int ((i:Nat):Int) 0)).toArray }).push { cls:=.type "set_iterator",data:=.fields #[.ref s.heap.objs.size,.int 0 0,.ref S,.int es.size 0,.int ep 0] } }):wpAny (model prog w) A (pyIter (.ref S)) Q E s:=by
 have hT:s.TypeIs (.ref S) "set":=⟨o,ho,hex.1⟩;refine wpAny_pyIter_slot hT F.slot_set_iter (YBs F.slot_set_iter hT Zey ?_ (F.args_set_iter_1 _));unfold Builtin.«frozenset.__iter__» Builtin.Frozenset.sizeOf setDrawn setsByText
 wp_walk
 rw[hd];dsimp only;rw[ZnJ hf];rw[YAL YAE];refine YAC (YAC (YAC ?_));refine YAA (YAA (YBH ho hd hf ?_));dsimp only;refine YAA (YAA (YBt (YAC (YAC ?_))));show wpAny _ _ (if (!ZaZ w&&(!t.plain&&decide (es.size>1)))=true then _ else _) _ _ _;split
 .refine YAA (Zdr es.size (List.range es.size) _ _ (by simp) λps d p=>?_);refine YAA ?_;simp only[newTuple];refine YCT ?_ (by show (List.map _ ps).toArray.size<=sizeLine;rw[YAM,YAB,p.length_eq,YAt];exact hz);refine YAA (YDV (YAD _ ho) hd hf (YAA (YCT (YAC ⟨_,rfl,"set_iterator",_,⟨_,YAU _ rfl,rfl⟩,ZaN.lookup,?_⟩))));have q:=h1 ps d p;rw[YBa];exact q
 .rename_i hb
  refine YAA (YAC ?_);refine YAA (YDV ho hd hf (YAA (YCT (YAC ⟨_,rfl,"set_iterator",_,⟨_,YAU _ rfl,rfl⟩,ZaN.lookup,h0 ?_⟩))));cases h:ZaZ w with
  | true=>exact .inl rfl
  | false=>
   refine .inr ?_;cases h':t.plain with
   | true=>exact .inl rfl
   | false=>
    rw[h,h']at hb;simp at hb;exact .inr hb
end
section
variable {prog:AH}{w:AJ}{A:AI}{E:Q33}{s:AF}{I S:AE}{o:Obj}{es:Array (Int×Value)}{ep i n:Nat}{t:SetTable}
def iW.typ (h:iW s.heap I S first i n ep):s.TypeIs (.ref I) "set_iterator":=let ⟨o,h1,h2,_⟩:=h;⟨o,h1,h2⟩
abbrev ZpW (I S:AE)(slot i ep:Nat):Sem PySem.Fin:=do
 match <-setNext S slot i ep with
 | some (x,next)=>do
  setField (.ref I) 0 (rawInt (next:Nat))
  setField (.ref I) 1 (rawInt ((i:Int)+1))
  ret x
 | none=>do
  setField (.ref I) 2 Value.none
  raiseNew (<-newExc (Value.type "StopIteration") [])
abbrev ZnV (I S:AE)(first:Value)(i ep:Nat):Sem PySem.Fin:=do
 match <-seqItems? first with
 | some places=>match places[i]? with
  | some (.int place _)=>do
   let x <-setNextDrawn S place.toNat ep
   setField (.ref I) 1 (rawInt ((i:Int)+1))
   ret x
  | some _=>unsupported "internal:set_iterator"
  | none=>do
   setField (.ref I) 0 (rawInt 0)
   setField (.ref I) 2 Value.none
   raiseNew (<-newExc (Value.type "StopIteration") [])
 | _=>unsupported "internal:set_iterator"
abbrev NxQ (prog:AH)(w:AJ)(A:AI)(Q:Option Value->AF->Prop)(E:Q33)(fin:PySem.Fin)(s':AF):Prop:=∃v,fin=Fin.done (Flow.ret v)/\Q (some v) s'
abbrev NxE (prog:AH)(w:AJ)(A:AI)(Q:Option Value->AF->Prop)(E:Q33)(e:Value)(s':AF):Prop:=
 wpAny (model prog w) A (do let b <-isInstance e (Value.type "StopIteration");if b=true then pure none else throw e) Q E s'
def ZcX (hi:iW s.heap I S (.int (slot:Nat) 0) i es.size ep)(ho:s.heap.get? S=some o)(hd:o.data=.set es ep t)(hf:t.fits es.size=true)
  (h:wpAny (model prog w) A.in1 (ZpW I S slot i ep) (NxQ prog w A Q E) (NxE prog w A Q E) s):wpAny (model prog w) A (pyNext (.ref I)) Q E s:=by
 obtain⟨oi,hoi,hci,hdi⟩:=id hi;unfold pyNext;refine YAA (YCa (wpAny_callSpecial?_slot (name:=Str.ofString "__next__") hi.typ ZaN (YBs ZaN hi.typ ZbR ?_ (Zb6 _))));unfold Builtin.«set_iterator.__next__»
 wp_walk
 rw[hdi];dsimp only;refine YAC ?_;dsimp only;refine YAA (wpAny_setEntries_of ho hd hf ?_)
 (try dsimp only)
 rw[YAL (by simp)];refine YBg h (λfin s' q=>?_) λe s' q=>q;obtain⟨v,rfl,q⟩:=q;exact⟨v,rfl,YAC q⟩
def ZeK (hi:iW s.heap I S (.ref tp) i es.size ep)(ho:s.heap.get? S=some o)(hd:o.data=.set es ep t)(hf:t.fits es.size=true)
  (h:wpAny (model prog w) A.in1 (ZnV I S (.ref tp) i ep) (NxQ prog w A Q E) (NxE prog w A Q E) s):wpAny (model prog w) A (pyNext (.ref I)) Q E s:=by
 obtain⟨oi,hoi,hci,hdi⟩:=id hi;unfold pyNext;refine YAA (YCa (wpAny_callSpecial?_slot (name:=Str.ofString "__next__") hi.typ ZaN (YBs ZaN hi.typ ZbR ?_ (Zb6 _))));unfold Builtin.«set_iterator.__next__»
 wp_walk
 rw[hdi];dsimp only;refine YAC ?_;dsimp only;refine YAA (wpAny_setEntries_of ho hd hf ?_)
 (try dsimp only)
 rw[YAL (by simp)];refine YBg h (λfin s' q=>?_) λe s' q=>q;obtain⟨v,rfl,q⟩:=q;exact⟨v,rfl,YAC q⟩
def ZgO (hh:A.handled=none)(hQ:∀h',(∀b o,s.heap.get? b=some o->h'.get? b=some o)->Q none { s with heap:=h' }):
  wpAny (model prog w) A.in1 (do raiseNew (<-newExc (Value.type "StopIteration") [])) (NxQ prog w A Q E) (NxE prog w A Q E) s:=by
 refine YAA ?_;simp only[newExc,newTuple];refine YAA (YCT ?_ (by size_fits));refine YAA (m:=firstArgMember _ _) (wpAny_of_eq (a:=Value.none) (by first | rfl | (simp only[firstArgMember];rfl)) ?_);refine YCT ?_ (by size_fits);simp only[raiseNew];refine YAA (wpAny_handled ?_);rw[show A.in1.handled=none from hh];refine YAA (YAC (wpAny_throw ?_));refine YAA (YDI (T:="StopIteration") (b:=true) ⟨_,YAU _ rfl,rfl⟩ isSubtype_stop ?_);exact YAC (hQ _ λb o e=>YAD _ (YAD _ e))
def ZeM {h:Heap} {v:Value} {k:Nat} {oi:Obj} {vs:Array Value} (hoi:h.get? I=some oi) (hci:oi.cls=.type "set_iterator") (hdi:oi.data=.fields vs):
  ∃o',(h.update I (Obj.mapFields (·.setIfInBounds k v))).get? I=some o'/\o'.cls=.type "set_iterator"/\o'.data=.fields (vs.setIfInBounds k v):=
 ⟨_,YCG _ hoi (Obj.isFreed_of_fields (Obj.data_mapFields hdi _)),(Obj.cls_mapFields ..).trans hci,Obj.data_mapFields hdi _⟩
def ZdX (ho:s.heap.get? S=some o)(hd:o.data=.set es ep t)(hf:t.fits es.size=true)(hb:ZaZ w=true)
  (h:Q (((pickOrder (w.params.setOrder S ep) es)[i]?).map λe=>(e.2,slot)) s):wpAny (model prog w) A (setNext S slot i ep) Q E s:=by
 unfold setNext;refine YAA (YBH ho hd hf ?_);dsimp only;unfold setsByText;refine YAA (YAA (YBt (YAC ?_)));show wpAny _ _ (if ZaZ w=true then _ else _) _ _ _;rw[hb,YAS rfl,YAL (by simp)];unfold setWalk;refine YAA (YAA (YBH ho hd hf ?_));dsimp only;unfold setsByText;refine YAA (YAA (YBt (YAC ?_)));show wpAny _ _ (if ZaZ w=true then _ else _) _ _ _;rw[hb,YAS rfl];exact YAA (YBt (YAC (YAC h)))
def ZdY (ho:s.heap.get? S=some o)(hd:o.data=.set es ep t)(hf:t.fits es.size=true)(hb:ZaZ w=false)(hl:t.led=true)(h1:es.size<=1)
  (h:Q (match es[SetTable.below t.place slot]?,t.place[SetTable.below t.place slot]? with | some (_,x),some j=>some (x,j+1) | _,_=>none) s):wpAny (model prog w) A (setNext S slot i ep) Q E s:=by
 unfold setNext;refine YAA (YBH ho hd hf ?_);dsimp only;unfold setsByText;refine YAA (YAA (YBt (YAC ?_)));show wpAny _ _ (if ZaZ w=true then _ else (if (!t.plain&&decide (es.size>1))=true then _ else _)) _ _ _;have hn:¬es.size>1:=by lia
 rw[hb,YAL YAE,decide_eq_false hn,YCD,YAL YAE];show wpAny _ _ ((if (!t.led&&!es.isEmpty)=true then (do let _ <-(unsupported "set:maker-not-led":Sem Unit);pure ()) else pure ()) >>= λ_=>_) _ _ _;rw[hl,YCR,YBo,YAL YAE];exact YAA (YAC (YAC h))
end
theorem ZfU {α:Type}{next:Nat->Nat}:∀(A2 k:Nat) (left:List α) (out:Array α),left.length=A2->(pickOrder.go next A2 k left out).toList.Perm (out.toList++left)
 | 0,k,left,out,h=>by
  have e:left=[]:=List.eq_nil_of_length_eq_zero h;subst e;unfold pickOrder.go;simp
 | A2+1,k,left,out,h=>by
  have A4:next k % left.length<left.length:=YBh _ ∅
  unfold pickOrder.go;rw[YAH A4];dsimp only;refine(ZfU A2 (k+1) _ _ (by rw[YCX A4,h];rfl)).trans ?_;rw[YBi,YAp];exact(ZcC left _ A4).append_left _
def ZbA:(pickOrder next xs).toList.Perm xs.toList:=by unfold pickOrder;have:=ZfU (next:=next) xs.size 0 xs.toList #[] (by simp);simpa using this
def ZbX:Slot "set_iterator" "__iter__" "set_iterator.__iter__":=
 .of (owner:="set_iterator") (n:="__iter__") (by rw[typeLookup_type,builtinLookup_eq_fast];kernel_rfl) (by decide +kernel) (by decide +kernel) (by decide +kernel) (by first | exact .inl (by decide +kernel) | exact .inr (by decide +kernel)) (by rw[isSubtype_type];kernel_rfl)
def Zc5:entryFor table "set_iterator.__iter__"=some Builtin.«dict_keyiterator.__iter__»:=entryFor_alias (id':="dict_keyiterator.__iter__") (by kernel_rfl) rfl (by decide +kernel) (by kernel_rfl)
def Zdq (a:Value):argsOk "set_iterator.__iter__" ⟨[a],[]⟩:=by unfold argsOk;kernel_rfl
section
def Zeh (hi:iW s.heap I S first i n ep)(h:Q (.ref I) s):wpAny (model prog w) A (pyIter (.ref I)) Q E s:=by refine wpAny_pyIter_slot hi.typ ZbX (YBs ZbX hi.typ Zc5 ?_ (Zdq _));show wpAny _ _ (ret (.ref I)) _ _ s;exact YAC ⟨_,rfl,"set_iterator",_,hi.typ,ZaN.lookup,h⟩
def ZcB (sb:Heap.SameBut I h h')(hne:S≠I)(ho:h.get? S=some o):h'.get? S=some o:=(sb.2 S hne).trans ho
def ZiK (hh:A.handled=none)(hne:S≠I)(hd:o.data=.set es ep t)(hf:t.fits es.size=true)(hb:ZaZ w=true):
  Walks prog w A I [I,S] [I] es.size (λi v=>(((pickOrder (w.params.setOrder S ep) es).toList).map (·.2))[i]?=some v) (λi h=>iW h I S (.int ((0:Nat):Int) 0) i es.size ep/\h.get? S=some o) where
 sub:=λb hb=>by simp at hb;simp[hb]
 frame:=λi h h' ⟨⟨oi,h1,r⟩,h2⟩ hk=>⟨⟨oi,hk I (by simp) _ h1,r⟩,hk S (by simp) _ h2⟩
 item:=λi s Q E hi ⟨st,ho⟩ hQ=>by
  have hl:(pickOrder (w.params.setOrder S ep) es).size=es.size:=by rw[<-YAG,ZbA.length_eq,YAG]
  have he:(pickOrder (w.params.setOrder S ep) es)[i]?=some (pickOrder (w.params.setOrder S ep) es)[i]:=by simp[hl,hi]
  refine ZcX st ho hd hf (YAA (ZdX ho hd hf hb ?_));rw[he];dsimp only[Option.map_some];obtain⟨oi,g1,g2,g3⟩:=id st;refine YAA (YCf g1 g3 (by simp) ?_);obtain⟨o1,k1,k2,k3⟩:=ZeM (v:=rawInt ((0:Nat):Int)) (k:=0) g1 g2 g3;refine YAA (YCf k1 k3 (by simp) ?_);obtain⟨o2,m1,m2,m3⟩:=ZeM (v:=rawInt ((i:Int)+1)) (k:=1) k1 k2 k3;have sb:=(YAn s.heap I (Obj.mapFields (·.setIfInBounds 0 (rawInt ((0:Nat):Int))))).trans (YAn _ I (Obj.mapFields (·.setIfInBounds 1 (rawInt ((i:Int)+1)))));refine YAC ⟨_,rfl,hQ _ _ s.toks ?_ ⟨⟨o2,m1,m2,?_⟩,ZcB sb hne ho⟩ λb o hb e=>(sb.2 b (~~~hb)).trans e⟩
  .rw[YAK,YAu,he];rfl
  .rw[m3];simp[rawInt]
 done:=λs Q E ⟨st,ho⟩ hQ=>by
  have hl:(pickOrder (w.params.setOrder S ep) es).size=es.size:=by rw[<-YAG,ZbA.length_eq,YAG]
  have he:(pickOrder (w.params.setOrder S ep) es)[es.size]?=none:=by simp[hl]
  refine ZcX st ho hd hf (YAA (ZdX ho hd hf hb ?_));rw[he];dsimp only[Option.map_none];obtain⟨oi,g1,g2,g3⟩:=id st;refine YAA (YCf g1 g3 (by simp) ?_);have sb:=YAn s.heap I (Obj.mapFields (·.setIfInBounds 2 Value.none));exact ZgO (A:=A) hh λh' k=>hQ h' s.toks λb o hb e=>k b o ((sb.2 b (~~~hb)).trans e)
 self:=λi s Q E ⟨st,_⟩ hQ=>Zeh st hQ
def Zdk (t:SetTable)(i:Nat):Nat:=if i=0 then 0 else t.place.getD 0 0+1
def ZiF:SetTable.below xs 0=0:=by
 unfold SetTable.below;have all:∀A2 hi,SetTable.below.go xs 0 A2 0 hi=0:=by
  intro A2;induction A2 with
  | zero=>intro hi;unfold SetTable.below.go;rfl
  | succ f ih=>
   intro hi;unfold SetTable.below.go;split
   .rw[YAL (Nat.not_lt_zero _)];exact ih _
   .rfl
 exact all _ _
def Zks:SetTable.below #[j] (j+1)=1:=by unfold SetTable.below;show SetTable.below.go #[j] (j+1) 1 0 1=1;unfold SetTable.below.go;simp[SetTable.below.go]
def ZoV (h:xs.size=1):∃j,xs=#[j]:=by
 obtain⟨l⟩:=xs
 match l,h with
 | [j],_=>exact⟨j,rfl⟩
def ZiL (hh:A.handled=none)(hne:S≠I)(hd:o.data=.set es ep t)(hf:t.fits es.size=true)(hb:ZaZ w=false)(hl:t.led=true)(h1:es.size<=1):
  Walks prog w A I [I,S] [I] es.size (λi v=>(es.toList.map (·.2))[i]?=some v) (λi h=>iW h I S (.int ((Zdk t i:Nat):Int) 0) i es.size ep/\h.get? S=some o) where
 sub:=λb hb=>by simp at hb;simp[hb]
 frame:=λi h h' ⟨⟨oi,h1,r⟩,h2⟩ hk=>⟨⟨oi,hk I (by simp) _ h1,r⟩,hk S (by simp) _ h2⟩
 item:=λi s Q E hi ⟨st,ho⟩ hQ=>by
  have i0:i=0:=by lia
  subst i0;have ps:t.place.size=es.size:=by have:=hf;simp only[SetTable.fits,YAY,beq_iff_eq]at this;exact this.1
  have he:es[0]?=some es[0]:=by simp[hi]
  have hp:t.place[0]?=some (t.place.getD 0 0):=by
   have:0<t.place.size:=by lia
   simp[this]
  refine ZcX st ho hd hf (YAA (ZdY ho hd hf hb hl h1 ?_));rw[show Zdk t 0=0 from rfl,ZiF,he,hp];dsimp only;obtain⟨oi,g1,g2,g3⟩:=id st;refine YAA (YCf g1 g3 (by simp) ?_);obtain⟨o1,k1,k2,k3⟩:=ZeM (v:=rawInt ((t.place.getD 0 0+1:Nat):Int)) (k:=0) g1 g2 g3;refine YAA (YCf k1 k3 (by simp) ?_);obtain⟨o2,m1,m2,m3⟩:=ZeM (v:=rawInt (((0:Nat):Int)+1)) (k:=1) k1 k2 k3;have sb:=(YAn s.heap I (Obj.mapFields (·.setIfInBounds 0 (rawInt ((t.place.getD 0 0+1:Nat):Int))))).trans (YAn _ I (Obj.mapFields (·.setIfInBounds 1 (rawInt (((0:Nat):Int)+1)))));refine YAC ⟨_,rfl,hQ _ _ s.toks ?_ ⟨⟨o2,m1,m2,?_⟩,ZcB sb hne ho⟩ λb o hb e=>(sb.2 b (~~~hb)).trans e⟩
  .rw[YAK,YAu,he];rfl
  .rw[m3];simp[rawInt,Zdk]
 done:=λs Q E ⟨st,ho⟩ hQ=>by
  have ps:t.place.size=es.size:=by have:=hf;simp only[SetTable.fits,YAY,beq_iff_eq]at this;exact this.1
  have hn:es[SetTable.below t.place (Zdk t es.size)]?=none:=by
   have hz:es.size=0\/es.size=1:=by lia
   rcases hz with z | z
   .simp[z]
   .have e1:∃j,t.place=#[j]:=by
     have:t.place.size=1:=by lia
     exact ZoV this
    obtain⟨j,ej⟩:=e1;have:Zdk t es.size=j+1:=by unfold Zdk;rw[YAL ∅,ej];rfl
    rw[this,ej,Zks];simp[z]
  refine ZcX st ho hd hf (YAA (ZdY ho hd hf hb hl h1 ?_));rw[hn];dsimp only;obtain⟨oi,g1,g2,g3⟩:=id st;refine YAA (YCf g1 g3 (by simp) ?_);have sb:=YAn s.heap I (Obj.mapFields (·.setIfInBounds 2 Value.none));exact ZgO (A:=A) hh λh' k=>hQ h' s.toks λb o hb e=>k b o ((sb.2 b (~~~hb)).trans e)
 self:=λi s Q E ⟨st,_⟩ hQ=>Zeh st hQ
def Zis (ho:s.heap.get? S=some o)(hd:o.data=.set es ep t)(hf:t.fits es.size=true)(he:es[p]?=some e)(h:Q e.2 s):wpAny (model prog w) A (setNextDrawn S p ep) Q E s:=by unfold setNextDrawn;refine YAA (YBH ho hd hf ?_);dsimp only;rw[YAL (by simp),he];exact YAC h
def ZgH {tp:AE}{ps:Q11}(hh:A.handled=none)(hne:S≠I)(hnt:tp≠I)(hd:o.data=.set es ep t)(hf:t.fits es.size=true)(hp:ps.Perm (List.range es.size)):
  Walks prog w A I [I,S,tp] [I] es.size (λi v=>(ps.map λp=>(es.getD p (0,.none)).2)[i]?=some v) (λi h=>iW h I S (.ref tp) i es.size ep/\h.get? S=some o/\h.get? tp=some { cls:=.type "tuple",data:=.seq (ps.map (λi=>Value.int ((i:Nat):Int) 0)).toArray }) where
 sub:=λb hb=>by simp at hb;simp[hb]
 frame:=λi h h' ⟨⟨oi,h1,r⟩,h2,h3⟩ hk=>⟨⟨oi,hk I (by simp) _ h1,r⟩,hk S (by simp) _ h2,hk tp (by simp) _ h3⟩
 item:=λi s Q E hi ⟨st,ho,ht⟩ hQ=>by
  have hl:ps.length=es.size:=by rw[hp.length_eq,YAt]
  have hi':i<ps.length:=by lia
  have hpi:ps[i]?=some ps[i]:=YAH hi';have A4:ps[i]<es.size:=YAl.mp (hp.mem_iff.mp (YBv hi'));have he:es[ps[i]]?=some es[ps[i]]:=by simp[A4]
  refine ZeK st ho hd hf (YAA (YCo ht rfl ?_));dsimp only;have hx:((ps.map (λi=>Value.int ((i:Nat):Int) 0)).toArray)[i]?=some (Value.int ((ps[i]:Nat):Int) 0):=by simp[hpi]
  rw[hx];dsimp only;refine YAA (Zis ho hd hf he ?_);obtain⟨oi,g1,g2,g3⟩:=id st;refine YAA (YCf g1 g3 (by simp) ?_);obtain⟨o2,m1,m2,m3⟩:=ZeM (v:=rawInt ((i:Int)+1)) (k:=1) g1 g2 g3;have sb:=YAn s.heap I (Obj.mapFields (·.setIfInBounds 1 (rawInt ((i:Int)+1))));refine YAC ⟨_,rfl,hQ _ _ s.toks ?_ ⟨⟨o2,m1,m2,?_⟩,ZcB sb hne ho,ZcB sb hnt ht⟩ λb o hb e=>(sb.2 b (~~~hb)).trans e⟩
  .rw[YAK,hpi];simp[A4]
  .rw[m3];simp[rawInt]
 done:=λs Q E ⟨st,ho,ht⟩ hQ=>by
  have hl:ps.length=es.size:=by rw[hp.length_eq,YAt]
  refine ZeK st ho hd hf (YAA (YCo ht rfl ?_));dsimp only;have hx:((ps.map (λi=>Value.int ((i:Nat):Int) 0)).toArray)[es.size]?=none:=by simp[hl]
  rw[hx];dsimp only;obtain⟨oi,g1,g2,g3⟩:=id st;refine YAA (YCf g1 g3 (by simp) ?_);obtain⟨o1,k1,k2,k3⟩:=ZeM (v:=rawInt 0) (k:=0) g1 g2 g3;refine YAA (YCf k1 k3 (by simp) ?_);have sb:=(YAn s.heap I (Obj.mapFields (·.setIfInBounds 0 (rawInt 0)))).trans (YAn _ I (Obj.mapFields (·.setIfInBounds 2 Value.none)));exact ZgO (A:=A) hh λh' k=>hQ h' s.toks λb o hb e=>k b o ((sb.2 b (~~~hb)).trans e)
 self:=λi s Q E ⟨st,_⟩ hQ=>Zeh st hQ
end
def Zgi:typeLookup (.type "set") "__len__"=pure (some (.builtin "set.__len__")):=by rw[typeLookup_type,builtinLookup_eq_fast];kernel_rfl
section
def Zic {es:Array (Int×Value)}{ps:Q11}(hp:ps.Perm (List.range es.size)):(ps.map λp=>(es.getD p (0,.none)).2).Perm (es.toList.map (·.2)):=by
 have q:=hp.map (λp=>(es.getD p (0,.none)).2);refine q.trans (.of_eq ?_);apply YBw
 .simp
 .intro n h1 h2;have hn:n<es.size:=by simpa using h2
  simp[hn]
def ZiA (hS:gF prog w s.heap S ls (!ZaZ w))
  (h:∀(h2:Heap) (d:Drawn) (I:AE) (fp:List AE) (vs:AD) (ms:Q22) (St:Nat->Heap->Prop),(∀A':AI,A'.handled=none->Walks prog w A' I fp [I] ls.length (λi v=>vs[i]?=some v) St)->St 0 h2 ->
   (∀b∈fp,b=S\/s.heap.objs.size<=b)->s.heap.objs.size<=I->(∀b o,s.heap.get? b=some o->h2.get? b=some o)->ms.Perm ls->gs (ms.map tx) vs->Q (.ref I) { s with heap:=h2,drawn:=d }):
  wpAny (model prog w) A (pyIter (.ref S)) Q E s:=by
 obtain⟨o,es,ep,t,ms,ho,hex,hd,hel,hf,hled,hpl,hp,hv,hb⟩:=hS;have Av:es.size=ls.length:=by have q:=hv.length;rw[YAB,YAB]at q;rw[<-YAG,<-q,hp.length_eq]
 have A4:=YAR ho;refine Zlk ho hex hd hf (fits_of_scanBound hb) (λhc=>?_) λps d pp=>?_
 .have nI:S≠s.heap.objs.size:=YAd A4;have st:(s.heap.push ({ cls:=.type "set_iterator",data:=.fields #[.int 0 0,.int 0 0,.ref S,.int es.size 0,.int ep 0] }:Obj)).get? s.heap.objs.size=some { cls:=.type "set_iterator",data:=.fields #[.int 0 0,.int 0 0,.ref S,.int es.size 0,.int ep 0] }:=YAU _ rfl;have fp:∀b∈[s.heap.objs.size,S],b=S\/s.heap.objs.size<=b:=λb hb=>by
   rcases YAJ.mp hb with z | z
   .exact .inr (YCu z.symm)
   .exact .inl (~~~z)
  cases hby:ZaZ w with
  | true=>
   obtain⟨ms',p',r'⟩:=Zci ((ZbA (next:=w.params.setOrder S ep) (xs:=es)).map (·.2)) hv;have W:∀A':AI,A'.handled=none->_:=λA' hA=>ZiK (prog:=prog) (w:=w) (A:=A') (I:=s.heap.objs.size) (S:=S) (o:=o) hA nI hd hf hby;rw[Av]at W;exact h _ s.drawn _ _ _ ms' _ W ⟨⟨_,st,rfl,by rw[Av];rfl⟩,YAD _ ho⟩ fp (YAT _) (λb o e=>YAD _ e) (p'.trans hp) r'
  | false=>
   have h1:es.size<=1:=by
    rcases hc with z | z | z
    .rw[hby]at z;cases z
    .rw[hpl z];exact YBC _
    .exact z
   have hl:t.led=true:=by rw[hled,hby];rfl
   have W:∀A':AI,A'.handled=none->_:=λA' hA=>ZiL (prog:=prog) (w:=w) (A:=A') (I:=s.heap.objs.size) (S:=S) (o:=o) hA nI hd hf hby hl h1;rw[Av]at W;exact h _ s.drawn _ _ _ ms _ W ⟨⟨_,st,rfl,by rw[Av];rfl⟩,YAD _ ho⟩ fp (YAT _) (λb o e=>YAD _ e) hp hv
 .have nI:S≠s.heap.objs.size+1:=YAd (YBy A4);have nT:s.heap.objs.size≠s.heap.objs.size+1:=YAd (YDL _);obtain⟨ms',p',r'⟩:=Zci (Zic pp) hv;have W:∀A':AI,A'.handled=none->_:=λA' hA=>ZgH (prog:=prog) (w:=w) (A:=A') (I:=s.heap.objs.size+1) (S:=S) (o:=o) (tp:=s.heap.objs.size) hA nI nT hd hf pp;rw[Av]at W;refine h _ d _ _ _ ms' _ W ⟨⟨{ cls:=.type "set_iterator",data:=.fields #[.ref s.heap.objs.size,.int 0 0,.ref S,.int es.size 0,.int ep 0] },?_,rfl,by rw[Av];rfl⟩,YAD _ (YAD _ ho),YAD _ (YAU _ rfl)⟩ ?_ (Nat.le_succ _) (λb o e=>YAD _ (YAD _ e)) (p'.trans hp) r'
  .rw[<-YBa];exact YAU _ rfl
  .intro b hb;rcases YAJ.mp hb with z | z
   .exact .inr (by rw[z];exact Nat.le_succ _)
   .rcases YAJ.mp z with z | z
    .exact .inl z
    .have z:b=s.heap.objs.size:=by simpa using z
     exact .inr (YCu z.symm)
def Zhj (hh:A.handled=none)(hS:gF prog w s.heap S ls (!ZaZ w))(hn:ls.length<=sizeLine)
  (hQ:∀(s':AF) (vs:AD) (ms:Q22),(∀b o,s.heap.get? b=some o->s'.heap.get? b=some o)->s'.gens=s.gens->s'.os=s.os->ms.Perm ls->gs (ms.map tx) vs->Q vs s'):wpAny (model prog w) A (collect (.ref S)) Q E s:=by
 unfold collect;refine YAA (wpAny_runValue (codeAny_builtin F.entry_proto_collect ?_));rw[YCN F.plain_proto_collect _];show wpAny _ A.in1 (newList [] >>= λl=>again (.builtin "list.__iadd__" ⟨[l,.ref S],[]⟩)) _ _ s;refine YAA (YCT (YAC ⟨plainId_quiet F.plain_list_iadd _,codeAny_builtin F.entry_list_iadd ?_⟩));rw[YCN F.plain_list_iadd _];generalize hH:s.heap.push { cls:=.type "list",data:=.seq ([]:AD).toArray }=H;have hHs:H.objs.size=s.heap.objs.size+1:=by rw[<-hH,YBa]
 have hL:H.get? s.heap.objs.size=some { cls:=.type "list",data:=.seq ([]:AD).toArray }:=hH▸YAU _ rfl;have k1:∀b o,s.heap.get? b=some o->H.get? b=some o:=λb o e=>hH▸YAD _ e;have hS1:gF prog w H S ls (!ZaZ w):=hS.keep λo e=>k1 S o e;have hT:Shared.TypeIs { s with heap:=H } (.ref S) "set":=hS1.typ (s:={ s with heap:=H });have nS:S≠s.heap.objs.size:=by obtain⟨o,_,_,_,_,ho,_⟩:=hS;exact YAd (YAR ho)
 show wpAny _ A.in1 (Builtin.List.listExtendWith (.ref s.heap.objs.size) (.ref S) (.ref s.heap.objs.size)) _ _ { s with heap:=H };unfold Builtin.List.listExtendWith;refine YAA (wpAny_typeOf hT ?_);have h1:Builtin.List.listSameRef (.ref s.heap.objs.size) (.ref S)=false:=by simp[Builtin.List.listSameRef,YBW nS]
 have h2:(Value.type "set" == Value.type "list")=false:=by decide
 have h3:(Value.type "set" == Value.type "tuple")=false:=by decide
 simp only[h1,h2,h3,Bool.or_false,YCe,if_false];refine YAA (ZiA (s:={ s with heap:=H }) hS1 λh2' d I fp vs ms St W st hfp hI k2 hp hv=>?_);have hT2:Shared.TypeIs { s with heap:=h2',drawn:=d } (.ref S) "set":=(hS1.keep λo e=>k2 S o e).typ (s:={ s with heap:=h2',drawn:=d });refine YAA (YBD ?_);unfold Builtin.List.listLengthHint;refine YAA (wpAny_specialOf hT2 Zgi ?_)
 wp_delta
 refine YAA (YDI (T:="set") (v:=.ref S) (b:=true) hT2 (by rw[isSubtype_type];kernel_rfl) ?_);show wpAny _ A.in1 (typeOf (Value.ref S) >>= λr=>_) _ _ _;refine YAA (wpAny_typeOf hT2 ?_);refine YAC ?_;rw[YAS (by decide)];refine YAA (YBn ?_);have hL2:h2'.get? s.heap.objs.size=some { cls:=.type "list",data:=.seq ([]:AD).toArray }:=k2 _ _ hL;refine YAA ?_;show wpAny _ A.in1 (updateSeq s.heap.objs.size (·.push .none) >>= λ_=>updateSeq s.heap.objs.size (·.pop)) _ _ _;refine YAA (wpAny_updateSeq hL2 rfl ?_);have hL3:=YCG (Obj.mapSeq (·.push Value.none)) hL2 rfl;refine wpAny_updateSeq hL3 rfl ?_;have hL4:=YCG (Obj.mapSeq (·.pop)) hL3 rfl;have oth:∀b o,b≠s.heap.objs.size->h2'.get? b=some o->((h2'.update s.heap.objs.size (Obj.mapSeq (·.push Value.none))).update s.heap.objs.size (Obj.mapSeq (·.pop))).get? b=some o:=
  λb o hb e=>(YCr _ _ (YBW hb)).trans ((YCr _ _ (YBW hb)).trans e)
 have hle:s.heap.objs.size+1<=I:=by rw[<-hHs];exact hI
 have hSf:s.heap.objs.size∉fp:=λz=>by
  rcases hfp _ z with q | q
  .exact nS q.symm
  .have q':H.objs.size<=s.heap.objs.size:=q;rw[hHs]at q';exact absurd q' (Nat.not_succ_le_self _)
 refine YAC ⟨plainId_quiet F.plain_extend_loop _,codeAny_extend_loopS (W A.in1 hh).toS hn _ hSf _ ls.length 0 _ _ _ rfl (YBC _) ((W A.in1 hh).frame 0 h2' _ st λb hb o e=>oth b o (λz=>hSf (z▸hb)) e) hL4 (ItemsOf.nil _) λs' acc' c' hm hS' Aw=>?_⟩;show wpAny _ A (load s.heap.objs.size >>= λr=>_) _ _ s';refine YAA (wpAny_load hS' ?_);have hvs:acc'.toList=vs:=by
  have hl:vs.length=ls.length:=by rw[<-hv.length,YAB,hp.length_eq]
  apply YBZ;intro j;rw[YAu];by_cases hj:j<ls.length
  .have hj':j<acc'.size:=by rw[Aw.1];exact hj
   have e:acc'[j]?=some acc'[j]:=by simp[hj']
   rw[e,Aw.2 j _ e]
  .rw[Array.getElem?_eq_none (by rw[Aw.1];lia),YAi ∅]
 have done:=hQ s' vs ms (λb o e=>by
  have A4:=YAR e;refine hm.heap b o (λz=>?_) (oth b o (YAd A4) (k2 b o (k1 b o e)));rcases YAJ.mp z with q | q
  .rw[q]at A4;exact YBM _ A4
  .have q:b=I:=by simpa using q
   rw[q]at A4;exact absurd A4 (Nat.not_lt.mpr (Nat.le_of_succ_le hle))) hm.gens hm.os hp hv
 rw[<-hvs]at done;exact YAC done
end
noncomputable def leT (a b:Q11):Bool:=!decide (b<a)
def Zbn (ls:Q22):Q22:=ls.mergeSort leT
def Zbo:leT a b=true↔a<=b:=by unfold leT;rw[Bool.not_eq_true',decide_eq_false_iff_not];exact List.not_lt
def ZaD (ls:Q22):(Zbn ls).Perm ls:=List.mergeSort_perm _ _
def Zbi (ls:Q22):(Zbn ls).Pairwise (λa b=>leT a b=true):=
 List.pairwise_mergeSort (le:=leT) (λa b c h1 h2=>Zbo.mpr (List.le_trans (Zbo.mp h1) (Zbo.mp h2))) (λa b=>Bool.or_eq_true_iff.mpr ((List.le_total a b).imp Zbo.mpr Zbo.mpr)) ls
def ZbW (p:ms.Perm ls)(h:ms.Pairwise (λa b=>leT a b=true)):ms=Zbn ls:=
 List.Perm.eq_of_pairwise (λa b _ _ h1 h2=>List.le_antisymm (Zbo.mp h1) (Zbo.mp h2)) h (Zbi ls) (p.trans (ZaD ls).symm)
def ZdV (p:ms.Perm ls):Zbn ms=Zbn ls:=ZbW ((ZaD ms).trans p) (Zbi ms)
theorem Zi4:∀ {us:AD} {ss:AK},StrsAre us ss->gs ((ss.map λx=>x.cps.toList).map tx) us
 | _,_,.nil=>.nil
 | _,_,.cons x t h=>.cons ⟨t,rfl⟩ (Zi4 h)
def Zfb:∀ {ss:AK},sortedS ss=true->(ss.map λx=>x.cps.toList).Pairwise (λa b=>leT a b=true):=by
 have ris:∀(p:Str) (l:AK),risingS p l=true->((p::l).map λx=>x.cps.toList).Pairwise (λa b=>leT a b=true):=by
  intro p l;induction l generalizing p with
  | nil=>intro _;simp
  | cons x r ih=>
   intro h;have h':(!ltCps x.cps.toList p.cps.toList&&risingS x r)=true:=h;rw[YAY,ltCps_eq]at h';have q:=ih x h'.2;rw[YAc,YAz];refine⟨λb hb=>?_,q⟩;have hx:leT p.cps.toList x.cps.toList=true:=h'.1;rw[YAc]at hb q;rcases YAJ.mp hb with z | z
   .rw[z];exact hx
   .exact Zbo.mpr (List.le_trans (Zbo.mp hx) (Zbo.mp ((YAz.mp q).1 b z)))
 intro ss h;cases ss with
 | nil=>simp
 | cons x r=>exact ris x r h
def Zi5 {us:AD}{ls:Q22}(r:gs (ls.map tx) us):StrsAre us (ls.map λl=>(⟨l.toArray⟩:Str)):=ZeF r
def ZlL (ls:Q22):(ls.map λl=>(⟨l.toArray⟩:Str)).map (λx=>x.cps.toList)=ls:=by
 rw[YAw]
 conv=>rhs;rw[<-List.map_id ls]
 apply YBm;intro l _;simp
section
end
section
end
open PySem.W (Frag findIn typeIn mroIn clsIn InstAt Looks)
noncomputable def xr (a C:AE)(d:Option AE):HO:=.ext λh=>∃(o:Obj) (vs:Array Value),h.get? a=some o/\o.cls=.ref C/\o.dict=d/\o.data=.fields vs
inductive jX (H:Hp) (e C:AE):List (Str×V)->Prop where
 | un {fs:List (Str×V)}:XAt H e C fs->jX H e C fs
 | bare:H e=some (xr e C none)->jX H e C []
 | full {d:AE} {fs:List (Str×V)}:H e=some (xr e C (some d))->H d=some (xdO d fs)->d≠e->jX H e C fs
section
end
section
end
abbrev TX:=St->Hp->VK->XK->Prop
abbrev TSx:=iM->(St->XK)->St->Hp->Prop
section
end
section
end
noncomputable def sux (X:Cx)(e:AE):Cx:={ X with A:=X.A.mark (some (.ref e)),calm:=false,xe:=λ_ _=>False }
section
end
abbrev TH:=Addr->AE->iM->St->Hp->Prop
section
end
open PySem.W (Frag findIn specialIn typeIn mroIn clsIn subIn kitOne kitCls InstAt Looks)
section
def ZlR (I:Inv X As U H s)(h:H e=some (xr e C d)):∃(o:Obj) (vs:Array Value),s.heap.get? e=some o/\o.cls=.ref C/\o.dict=d/\o.data=.fields vs:=(I.hok e _ h).1
def jX.inst (I:Inv X As U H s)(x:jX H e C fs):∃(ox:Obj) (od:Option Obj),InstAt s.heap e ox C od/\∀name,∃r,(match od with | some o=>lookIn name o | none=>some none)=some r/\iB (fs.lookup name) r:=by
 cases x with
 | un h=>exact h.inst I
 | bare h=>
  obtain⟨o,vs,h1,h2,h3,h4⟩:=ZlR I h;exact⟨o,none,⟨h1,h2,by unfold notCls;rw[h4],by rw[h3];trivial⟩,λname=>⟨none,rfl,by trivial⟩⟩
 | @full d _ h h' hne=>
  obtain⟨o,vs,h1,h2,h3,h4⟩:=ZlR I h;obtain⟨⟨_,mA,hn,hr,_⟩,_⟩:=I.hok d _ h';obtain⟨od,hod,hl⟩:=Zea hn;exact⟨o,some od,⟨h1,h2,by unfold notCls;rw[h4],by rw[h3];exact hod⟩,λname=>⟨mA name,hl name,hr name⟩⟩
end
inductive TyR (K:Frag) (H:Hp):V->Value->Prop where
 | ty {x:V} {t:Value} (h:TyX K H x t):TyR K H x t
 | exc {e C:AE} {fs:List (Str×V)} (x:jX H e C fs) (i:Xi K C):TyR K H (.ref e) (.ref C)
def Zdz {X:Cx}{K:Frag}(hK:X.K=K):ZcG X (.builtin "isinstance") (λxs H Q=>∃x c t k b,xs=[x,c]/\clsV c=some k/\TyR K H x t/\kitOne K t k=some b/\Q (.bl b) H):=by
 subst hK;rintro As s U H xs us Q I r ⟨x,c,t,k,b,rfl,hk,ty,e,q⟩;cases ty with
 | ty h=>exact Zhl As s U H _ us Q I r ⟨x,c,t,k,b,rfl,hk,h,e,q⟩
 | exc xa i=>
  obtain⟨u,v,rfl,ru,rv⟩:=r.two;have hv:v=k:=by
   cases c with
   | ref a=>cases hk;exact rv
   | ty n=>cases hk;exact rv
   | _=>cases hk
  subst hv;cases ru;obtain⟨ox,od,J,_⟩:=xa.inst I;exact YBP (ZhT i) I.kIn J e (λz=>nomatch z) λtk=>⟨.bl b,H,I.tok _,rfl,q⟩
open PySem.W (Frag)
theorem gQ.there {P:AH}{w:AJ}{H:Hp}{h:Heap}{a:AE}:∀ {o:HO},gQ P w H h a o->∃u,h.get? a=some u
 | .lst _,x=>by obtain⟨_,_,_,_,e⟩:=x;exact⟨_,e⟩
 | .tup _,x=>by obtain⟨_,_,_,ob,e,_⟩:=x;exact⟨_,e⟩
 | .dK _,x=>by obtain⟨_,_,_,_,ob,_,_,e,_⟩:=x;exact⟨_,e⟩
 | .dT _,x=>by obtain⟨_,_,_,_,ob,_,_,e,_⟩:=x;exact⟨_,e⟩
 | .set _ _,x=>by obtain⟨ob,_,_,_,e,_⟩:=x;exact⟨_,e⟩
 | .ins _ _ _,x=>by obtain⟨_,_,_,e,_⟩:=x;exact⟨_,e⟩
 | .own _,x=>x
 | .xd _,x=>by obtain⟨_,⟨ob,_,_,e,_⟩,_⟩:=x;exact⟨_,e⟩
 | .met _ _,x=>⟨_,x⟩
 | .rng _ _,x=>by obtain⟨_,_,_,e⟩:=x;exact⟨_,e⟩
 | .frz _ _,x=>⟨_,x.1⟩
 | .tbl _,x=>⟨_,x⟩
 | .ext _,x=>x.2.1
def HOk.none_of (ok:HOk P w H h)(n:h.get? a=none):H a=none:=by
 cases q:H a with
 | none=>rfl
 | some o=>
  obtain⟨u,hu⟩:=(ok a o q).there;rw[n]at hu;cases hu
def Inv.laid2 (I:Inv X As U H s)(os:s'.os=s.os)(hg:s'.gens=s.gens)(k:∀b u,s.heap.get? b=some u->s'.heap.get? b=some u)(nw:s.heap.get? a=none)
  (new:gQ X.prog X.w (upd H a o) s'.heap a o):Inv X As U (upd H a o) s':=by
 have hn:=I.hok.none_of nw;have ne:∀b u,s.heap.get? b=some u->b≠a:=λb u q z=>by rw[z,nw]at q;cases q
 have neH:∀b u,H b=some u->b≠a:=λb u q=>Zag q hn;refine I.call' (ch:=[]) os ⟨λb u q _ _ _=>k b u q,λb u q _ _ _=>⟨u.slots,k b u q⟩,λb u q n _=>by rw[Zak (ne b u q)];exact n,λb u q _=>⟨u,k b u q⟩,λb xs q=>by rw[Zak (neH b _ q)];exact q,λb u v q=>by rw[Zak (neH b _ q)];exact q,λb ps q=>⟨#[],by rw[Zak (neH b _ q),Array.append_empty];exact q⟩⟩
  (λb u q=>?_) (by rw[hg];exact I.bare) (λb hb=>by cases hb)
 by_cases hb:b=a
 .subst hb;rw[Zao]at q;cases q;exact new
 .rw[Zak hb]at q;exact(I.hok b u q).stay (λc w' _ q=>k c w' q) (λc q=>by rw[Zak (neH c _ q)];exact q) λc xs q=>by rw[Zak (neH c _ q)];exact q
section
noncomputable def gL (l:Q11):Q22:=l.map λc=>[c]
def Zg6 (h:ItemsOf (SignAt ⟨l.toArray⟩) acc (⟨l.toArray⟩:Str).cps.size):gs ((gL l).map tx) acc.toList:=by
 obtain⟨h1,h2⟩:=h;have hl:(⟨l.toArray⟩:Str).cps.size=l.length:=by show l.toArray.size=_;simp
 rw[hl]at h1;have gen:∀(l:Q11) (us:AD),us.length=l.length->(∀(j:Nat) (v:Value),us[j]?=some v->∃(c:Nat) (u:Tok),l[j]?=some c/\v=Value.str ⟨#[c]⟩ u)->gs ((gL l).map tx) us:=by
  intro l;induction l with
  | nil=>
   intro us hl _;have:us=[]:=List.eq_nil_of_length_eq_zero hl;subst this;exact .nil
  | cons c l ih=>
   intro us hl h;cases us with
   | nil=>cases hl
   | cons u us=>
    obtain⟨c',t,e,rfl⟩:=h 0 u rfl;cases e;refine .cons ⟨t,rfl⟩ (ih us (~~~hl) λj v e=>h (j+1) v e)
 refine gen l acc.toList (by rw[YAG,h1]) λj v e=>?_;rw[YAu]at e;obtain⟨c,u,e1,e2⟩:=h2 j v e;exact⟨c,u,~~~e1,e2⟩
def Zdy (hc:X.calm=true):ZcG X (.type "list") (λxs H Q=>∃l,xs=[tx l]/\l.length<=1000/\gU ((gL l).map tx) H Q):=by
 rintro As s U H xs us Q I r ⟨l,rfl,hz,q⟩;obtain⟨u,rfl,t,rfl⟩:=r.one;have hl:(⟨l.toArray⟩:Str).cps.size=l.length:=by show l.toArray.size=_;simp
 refine call_list_str (I.ok.hd hc) _ t (λh' tk acc c k e it=>?_) (by rw[hl];exact Nat.le_of_lt (ZdW hz));refine⟨.ref s.heap.objs.size,_,I.laid (t':=tk) k (YAT _) ?_,rfl,q _ I.fresh⟩;exact⟨by unfold gL;rw[YAB,YAB];exact Nat.le_of_lt (ZdW hz),acc.toList,c,Zg6 it,by rw[YDG];exact e⟩
def Zkq (hc:X.calm=true):ZcG X (.builtin "all") (λxs H Q=>∃(a:AE) (bs:List Bool),xs=[.ref a]/\H a=some (.lst (bs.map V.bl))/\Q (.bl (bs.all id)) H):=by
 rintro As s U H xs us Q I r ⟨a,bs,rfl,ha,q⟩;obtain⟨u,rfl,ru⟩:=r.one;cases ru;obtain⟨_,its,n,r',Av,e⟩:=I.lstM ha;have hl:s.heap.IsList a its.toArray:=PySem.IsL.isList e;have hne:a≠s.heap.objs.size:=YAd (YAR e);refine call_all_walkS (YCx hl ?_);have hL:its.toArray.size=bs.length:=by rw[YAM,<-r'.length,YAB]
 have W:=(Walks.list (prog:=X.prog) (w:=X.w) (A:=X.A.in1) (~~~I.ok.hd hc) s.heap.objs.size a hne its.toArray).toS;refine⟨s.heap.objs.size,_,_,_,_,_,_,λi=>bs.getD i true,rfl,W,⟨⟨_,YAU _ rfl,rfl,rfl⟩,hl.push _⟩,?_,λs' hm=>?_⟩
 .intro i v s Q E hv hQ;have e':its[i]?=some v:=by simpa using hv
  obtain⟨x,hx,rx⟩:=ZcM r' e';rw[YAK]at hx;cases hb:bs[i]? with
  | none=>rw[hb]at hx;cases hx
  | some b=>
   rw[hb]at hx;cases hx;obtain rfl:v=Value.bool b:=rx;have:bs.getD i true=b:=by rw[YAQ,hb];rfl
   have hQ':Q (bs.getD i true) s:=hQ;rw[this]at hQ';exact YCv hQ'
 .have ea:(List.range its.toArray.size).all (λi=>bs.getD i true)=bs.all id:=by
   rw[hL];rw[YBS,YBL,YBL];constructor
   .intro h b hb;obtain⟨i,hi,rfl⟩:=YBX hb;have:=h i (YAl.mpr hi);rw[YAQ,YAH hi]at this;exact this
   .intro h i hi;have hi:=YAl.mp hi;rw[YAQ,YAH hi];exact h _ (YBv hi)
  rw[ea];have I2:Inv X As U H s':=I.call' (ch:=[]) hm.os (Un.kept λb o q=>hm.heap b o (λz=>?_) (YAD _ q)) (I.hok.kept λb o q=>hm.heap b o (λz=>?_) (YAD _ q)) (by rw[show s'.gens=s.gens from hm.gens];exact I.bare) (λb hb=>by cases hb)
  .exact⟨.bl _,H,I2,rfl,q⟩
  .have z:b=s.heap.objs.size:=by simpa using z
   rw[z]at q;exact absurd (YAR q) (YBM _)
  .have z:b=s.heap.objs.size:=by simpa using z
   rw[z]at q;exact absurd (YAR q) (YBM _)
noncomputable def i3 (P:AH)(w:AJ)(a:AE)(ls:Q22):HO:=.ext λh=>gF P w h a ls (!ZaZ w)
def ZiY (x:gF P w h a ls (!ZaZ w)):gQ P w H h a (i3 P w a ls):=by obtain⟨o,es,ep,t,ms,h1,r⟩:=id x;exact⟨x,⟨o,h1⟩,λg1 g2 y k=>y.keep k⟩
def ddl (ls:Q22):Q22:=ls.foldl ir []
def Zdo:dd (λi=>ls.getD i []) ls.length=ddl ls:=by
 unfold dd ddl;congr 1;apply YBw
 .simp
 .intro n h1 h2;simp[h2]
def Zbu (hc:X.calm=true):ZcG X (.type "set") (λxs H Q=>∃ls:Q22,ls.length<=1000/\((∃l,xs=[tx l]/\ls=gL l)\/∃a,xs=[.ref a]/\SqL X.K H a (ls.map tx))/\∀p,H p=none->Q (.ref p) (upd H p (i3 X.prog X.w p (ddl ls)))):=by
 rintro As s U H xs us Q I r ⟨ls,hz,hx,q⟩;have hb:ls.length+1<scanBound:=by show _<4096;lia
 have fin:∀(h':Heap) (tk:Nat),gF X.prog X.w h' s.heap.objs.size (ddl ls) (!ZaZ X.w)->(∀b o,s.heap.get? b=some o->h'.get? b=some o)->EP X As U Q (.ref s.heap.objs.size) { s with heap:=h',toks:=tk }:=λh' tk hS k=>
  ⟨.ref s.heap.objs.size,_,I.laid (t':=tk) k (YAT _) (ZiY hS),rfl,q _ I.fresh⟩
 rcases hx with⟨l,rfl,rfl⟩|⟨a,rfl,hq⟩
 .obtain⟨u,rfl,t,rfl⟩:=r.one;have hl:(gL l).length=l.length:=by unfold gL;rw[YAB]
  have e0:dd (λi=>[l.getD i 0]) l.length=ddl (gL l):=by
   unfold dd ddl gL;congr 1;apply YBw
   .simp
   .intro n h1 h2;have:n<l.length:=by simpa using h2
    simp[this]
  refine Zhx (I.ok.hd hc) (ZgI (prog:=X.prog) (w:=X.w) (s:=s) (l:=l) (t:=t)) F.sub_str_set F.sub_str_frozenset (by decide) (by rw[<-hl];exact hb) λh' tk hS k _=>?_;rw[e0]at hS;exact fin h' tk hS k
 .obtain⟨u,rfl,ru⟩:=r.one;cases ru;obtain⟨its,rv,p,_⟩:=I.list hq;refine Zhx (I.ok.hd hc) (ZgJ (prog:=X.prog) (w:=X.w) (s:=s) p.isList rv) F.sub_list_set F.sub_list_frozenset (by decide) hb λh' tk hS k _=>?_;rw[Zdo]at hS;exact fin h' tk hS k
end
def Za0 (h:x=⟨l.toArray⟩):PE X (.Constant (.str x) j pos) (tC (tx l)):=by subst h;exact ZoN
def ZhI (hg:Gl X x) (hm:∃t,X.mg x=some (.str y t)) (hd:(x == ("__debug__":Str))=false:=by decide):PE X (.Name x pos) (tC (.str y)):=by obtain⟨t,h⟩:=hm;exact Zjo hg h ⟨t,rfl⟩ hd
def ZcU (hg:Gl X x) (hm:∃t,X.mg x=some (.int y t)) (hd:(x == ("__debug__":Str))=false:=by decide):PE X (.Name x pos) (tC (.int y)):=by obtain⟨t,h⟩:=hm;exact Zjo hg h ⟨t,rfl⟩ hd
section
variable {CX:CXT}{P:AH}{w:AJ}{K:Q4}{mg:AC}{base:Heap}{N:AK}{qual:Str}{scope:Scope}{f:AE}{cd:Value}{A:AI}{outer:List Env}{s:AF}{H:Hp}{E:XK}{X:Cx}{e:AE}
def cxPr:(ji CX P w K mg base N qual scope f cd A outer s H E).prog=P:=rfl
def cxWo:(ji CX P w K mg base N qual scope f cd A outer s H E).w=w:=rfl
def suxK:(sux X e).K=X.K:=rfl
def Zqg:(sux X e).prog=X.prog:=rfl
def Zqf:(sux X e).w=X.w:=rfl
end
open PySem.W (Frag KeqHits)
section
end
open PySem.W (Frag)
section
structure Zap (z TI TO i1 i2:AE)(f1 f2:List AE):Prop where
 a1:TI≠z
 a2:TO≠z
 a3:i1≠z
 a4:i2≠z
 a5:TI≠TO
 a6:TI≠i1
 a7:TI≠i2
 a8:TO≠i1
 a9:TO≠i2
 b1:z∉f1
 b2:z∉f2
 b3:TO∉f1
 b4:TO∉f2
 b5:i2∉f1
 b6:i1∉f2
end
section
end
def Zir (h1:x≠p)(h2:x≠q):x∉[p,q]:=by simp[h1,h2]
def ZlQ (a b z:Nat)(h1:a<z)(h2:b<z):Zap (z+4) (z+2) (z+3) z (z+1) [z,a] [z+1,b] where
 a1:=show (z+2:Nat)≠z+4 by lia
 a2:=show (z+3:Nat)≠z+4 by lia
 a3:=show (z:Nat)≠z+4 by lia
 a4:=show (z+1:Nat)≠z+4 by lia
 a5:=show (z+2:Nat)≠z+3 by lia
 a6:=show (z+2:Nat)≠z by lia
 a7:=show (z+2:Nat)≠z+1 by lia
 a8:=show (z+3:Nat)≠z by lia
 a9:=show (z+3:Nat)≠z+1 by lia
 b1:=Zir ∅ ∅
 b2:=Zir ∅ ∅
 b3:=Zir ∅ ∅
 b4:=Zir ∅ ∅
 b5:=Zir ∅ ∅
 b6:=Zir ∅ ∅
def mem5 (h:c∈[z+4,z+2,z+3,z,z+1]):z<=c/\c<=z+4:=by
 simp only[YAJ,YBF,or_false]at h
 lia
def Itz (K:Q4)(a b:AE):It:=
  ⟨λi H=>∃xs ys x y,SqT K H a xs/\SqT K H b ys/\xs.length=ys.length/\xs[i]?=some x/\ys[i]?=some y,
   λi H v H'=>∃p x y,H p=none/\v=.ref p/\H'=upd H p (.tup [x,y])/\(∀xs,SqT K H a xs->xs[i]?=some x)/\∀ys,SqT K H b ys->ys[i]?=some y,
   λi H=>∃xs ys,SqT K H a xs/\SqT K H b ys/\xs.length=ys.length/\xs.length=i⟩
section
end
section
end
section
noncomputable def ip (l:Q11)(n:Int):Q11:=(List.replicate n.toNat l).flatten
theorem Zgo (a:Array Nat):∀(n:Nat) (acc:Array Nat),((List.replicate n a).foldl (·++·) acc).toList=acc.toList++(List.replicate n a.toList).flatten
 | 0,acc=>by simp
 | n+1,acc=>by rw[List.replicate_succ,YCE,Zgo a n,List.replicate_succ];simp
def Zpk (l:Q11)(n:Int):Txt.mul ⟨l.toArray⟩ n=⟨(ip l n).toArray⟩:=by
 unfold Txt.mul ip;by_cases h1:n<1
 .rw[YAS h1];have:n.toNat=0:=by lia
  rw[this];rfl
 .rw[YAL h1];split
  .rename_i h
   rw[Bool.or_eq_true]at h;rcases h with h | h
   .have:n=1:=by simpa using h
    subst this;simp
   .have:l=[]:=by have:=beq_iff_eq.mp h;rw[Ze1]at this;exact YBq.mp this
    subst this;simp
  .congr 1;apply Array.ext';rw[Zgo];simp
def ZcV:OpR X (binaryOp .Mult) (λx y H Q=>∃l n,x=tx l/\y=.int n/\0<=n/\n<=1000/\l.length<=1000/\Q (tx (ip l n)) H):=by
 rintro As s U H x y v u Q I rx ry ⟨l,n,rfl,rfl,h0,h1,h2,q⟩;obtain⟨t,rfl⟩:=rx;obtain⟨t',rfl⟩:=ry;have e1:(⟨l.toArray⟩:Str).length=l.length:=Ze1 l;refine SB.mul ⟨?_,λa b=>?_,λa b=>?_⟩ λt2 k=>?_
 .simp only[Bool.or_eq_false_iff,decide_eq_false_iff_not];lia
 .rw[e1];have e3:(1000:Int)<=(2 ^ 63-1)/n:=by
   rw[Int.le_ediv_iff_mul_le ∅]
   lia
  lia
 .rw[e1];have:l.length*n.toNat<=1000*1000:=YDH h2 ∅;unfold Builtin.Str.tooLong;simp only[decide_eq_false_iff_not];rw[sizeLine_eq]
  lia
 .rw[Zpk];exact⟨tx _,H,I.tok _,⟨_,rfl⟩,q⟩
end
open PySem.W (Frag)
def Zl4 {X:Cx} {K:Frag} {T id:String} {name:Str} {o e:Expr} {es:List Expr} {to:TE} {t:TA} {Ay Az:Pos} {r:V->List V->Hp->VK->Prop} (hK:X.K=K) (pa:PlainAttrs T) (slot:Slot T name id) (hty:typeOf (.builtin id)=pure (.type "method_descriptor")) (hm:MtR X id r) (ho:PE X o to) (ha:PA X (e::es) t)
  (hbase:attributeBase o name X.env (eval o X.env)=eval o X.env:=by rfl)
  (hfew:((backTo Az (starEach (e::es) X.env)).all (λx=>!x.1)&&(backToKw Az (keywordEach [] X.env)).all (λx=>x.1.isSome)&&decide ((e::es).length+([]:List Keyword).length+(if ([]:List Keyword).isEmpty then 0 else 1)<30))=true:=by rfl)
  (hline:(Ay.endLine == Az.line)=true:=by rfl) (hs:starEach (e::es) X.env=(false,eval e X.env)::starEach es X.env:=by rfl) (hplain:(backTo Az (starEach es X.env)).any (·.1)=false:=by rfl):PE X (.Call (.Attribute o name Ay) (e::es) [] Az) (tBM K T r to t):=by
 subst hK;exact Zfh pa slot hty hm ho ha hbase hfew hline hs hplain
def sNo:TS:=λ_ _ _=>False
def ZdD {X:Cx}{st:Stmt}:PS X st sNo:=λ_ _ _ _ _ _ h=>h.elim
section
def Zfg (hg:Gl X x) (hm:X.mg x=some (.ref L)) (cr:iI X.K L "__init__" (.ref f)) (F:gy X.prog X.w X.K X.mg X.base CX k f fd ps sp) (hr:hG k X.A) (hk:keepIn X.K (.ref f)=true) (hb:iC X.K fd ps ds) (hd:gs A3 ds) (hx:Zdd CX X E)
  (ha:PA X (e::es) t) (hdb:(x == ("__debug__":Str))=false:=by decide) (hst:starEach (e::es) X.env=(false,eval e X.env)::starEach es X.env:=by rfl) (hpl:(backTo pos (starEach es X.env)).any (·.1)=false:=by rfl)
  (ht:eval (.Call (.Attribute (.Name x np) "__init__" Ay) (e::es) [] pos) X.env=(do
   let ov <-eval (.Name x np) X.env
   standAt Ay.atName
   let (f,first) <-holding [ov] (getMethod ov "__init__" pl)
   callWith pos f first (backTo pos (starEach (e::es) X.env)) (backToKw pos (keywordEach [] X.env))):=by rfl):PE X (.Call (.Attribute (.Name x np) "__init__" Ay) (e::es) [] pos) (Zi3 sp A3 E t):=by
 intro As s U H Q I h;refine methodCall_KW (pl:=pl) (Zfl I hg hm ?_ hdb) ht;refine PySem.W.method_cls I.kIn cr.sp (PySem.W.cls_value I.kIn cr.rd cr.fd cr.hn ?_);refine callWith_K (first:=[]) (h₀:=X.base) I.ok.mod.kin hk (thn (ha pos As _ U H _ (I.tok _) h) λus s1 ⟨vs,H1,I1,r,q⟩=>⟨I1.kIn,?_⟩) hst hpl;exact Zhy F hr hb hd hx I1 r q
end
def iE (c:TT)(tb:TS)(D:iM)(U:St)(H:Hp):Prop:=ZiZ c tb D U H
def ZmU:ZiZ c tb D U H=iE c tb D U H:=rfl
def iE.by (Pv:St->Hp->Prop)(μ:St->Hp->Nat)(h0:Pv U H)
  (hs:∀U H,Pv U H->∃b:Bool,(∀Q:Bool->Hp->Prop,(∀H1,gp H H1->Q b H1)->c U H Q)/\∀H1,gp H H1->if b=true then tb { D with nx:=λU' H'=>Pv U' H'/\μ U' H'<μ U H,ct:=λU' H'=>Pv U' H'/\μ U' H'<μ U H,bk:=D.nx } U H1 else D.nx U H1):iE c tb D U H:=by
 refine⟨λm U H=>m=μ U H/\Pv U H,⟨_,rfl,h0⟩,?_⟩;rintro m U H ⟨rfl,p⟩;obtain⟨b,hc,hb⟩:=hs U H p;refine hc _ λH1 s1=>?_;have q:=hb H1 s1;cases b with
 | true=>exact⟨_,λU' H' ⟨p',l⟩=>⟨_,l,rfl,p'⟩,q⟩
 | false=>exact q
def cyc (l:Q11)(i:Nat):Nat:=l.getD (i % l.length) 0
def ii (l:Q11)(n:Nat):Q11:=(ip l ((n:Int)/(l.length:Nat)+2)).take (l.length+n-1)
def gO (l:Q11)(n:Nat):Q22:=Zbn (ddl ((List.range (l.length+1-n)).map λi=>(l.drop i).take n))
def Zcy (l:Q11)(n:Nat):Q22:=(List.range l.length).map λi=>(List.range n).map λj=>cyc l (i+j)
def Zaj (l:Q11)(n:Nat):Q22:=Zbn (ddl (Zcy l n))
def Zex (l:Q11)(s:Nat):Bool:=decide (ip (l.take s) ((l.length:Int)/(s:Nat))=l)
noncomputable def Zam (l:Q11):Nat:=((List.range l.length).find? λs=>decide (1<=s)&&Zex l s).getD l.length
def gS (l:Q11):Q11:=l.take (Zam l)
def ZdS (l:Q11)(b:Int):Q11:=l.drop (b % (l.length:Nat)).toNat++l.take (b % (l.length:Nat)).toNat
def ZbJ (l:Q11)(i:Nat):cyc l (i+l.length)=cyc l i:=by unfold cyc;rw[Nat.add_mod_right]
def Zem (l:Q11)(i:Nat):cyc l (i % l.length)=cyc l i:=by unfold cyc;rw[Nat.mod_mod]
def Zcg (h:i<l.length):l[i]?=some (cyc l i):=by unfold cyc;rw[Nat.mod_eq_of_lt h,YAQ,YAH h];rfl
def Zeb (l:Q11):l=(List.range l.length).map (cyc l):=by
 apply YBZ;intro i;by_cases h:i<l.length
 .rw[Zcg h,YAK,YBf h];rfl
 .rw[YAi ∅,YAi (by simp;lia)]
def Zd2 (l:Q11)(n:Nat):((List.replicate n l).flatten).length=n*l.length:=by simp
theorem ZhA {l:Q11}:∀ {n k:Nat},k<n*l.length->((List.replicate n l).flatten)[k]?=some (cyc l k)
 | 0,k,h=>by lia
 | n+1,k,h=>by
  rw[List.replicate_succ,YDA];by_cases hk:k<l.length
  .rw[YAm hk];exact Zcg hk
  .have hk':l.length<=k:=by lia
   rw[YAs hk',ZhA (by rw[Nat.succ_mul]at h;lia)];have e:=ZbJ l (k-l.length);rw[Nat.sub_add_cancel hk']at e;rw[e]
def ZnR {g:Q11}{f:Nat->Nat}{i n:Nat}(hg:∀k,k<g.length->g[k]?=some (f k))(h:i+n<=g.length):(g.drop i).take n=(List.range n).map λj=>f (i+j):=by
 apply YBZ;intro k;by_cases hk:k<n
 .rw[YCj hk,YBj,hg (i+k) ∅,YAK,YBf hk];rfl
 .rw[YAi (by simp;lia),YAi (by simp;lia)]
def Zka (hs:1<=s):s+n<=(n/s+2)*s:=by
 have:=YCi n s;have:=YBh n hs;rw[Nat.add_mul,YBu (n/s) s]
 lia
def ZhB (l:Q11)(n:Nat)(s:Nat):ip l ((n:Int)/(s:Nat)+2)=(List.replicate (n/s+2) l).flatten:=by
 unfold ip;have:((n:Int)/(s:Nat)+2).toNat=n/s+2:=by have e:(n:Int)/(s:Nat)=((n/s:Nat):Int):=(Int.natCast_ediv n s).symm;rw[e];exact YBQ (n/s+2)
 rw[this]
def Zgj {n:Nat}(h1:1<=l.length):l.length+n<=(ip l ((n:Int)/(l.length:Nat)+2)).length:=by rw[ZhB,Zd2];exact Zka h1
def Zlp {n:Nat}(h:k<(ip l ((n:Int)/(l.length:Nat)+2)).length):(ip l ((n:Int)/(l.length:Nat)+2))[k]?=some (cyc l k):=by rw[ZhB]at h ⊢;rw[Zd2]at h;exact ZhA h
def ZdL (h1:1<=l.length):(ii l n).length=l.length+n-1:=by
 unfold ii;have:=Zgj (n:=n) h1;rw[YAX]
 lia
def Znk (h1:1<=l.length)(h:k<(ii l n).length):(ii l n)[k]?=some (cyc l k):=by have h':=h;rw[ZdL h1]at h';unfold ii;rw[YCj h'];have:=Zgj (n:=n) h1;exact Zlp ∅
def Zia (h1:1<=l.length):gO (ii l n) n=Zaj l n:=by
 unfold gO Zaj Zcy;have e:(ii l n).length+1-n=l.length:=by rw[ZdL h1];lia
 rw[e];congr 2;apply YBm;intro i hi;have hi:=YAl.mp hi;exact ZnR (λk hk=>Znk h1 hk) (by rw[ZdL h1];lia)
theorem ZcI {x:Q11}:∀(ls acc:Q22),x∈ls.foldl ir acc↔x∈acc\/x∈ls
 | [],acc=>by simp
 | y::ls,acc=>by
  rw[YCE,ZcI ls];have h:x∈ir acc y↔x∈acc\/x=y:=by
   unfold ir;split
   .rename_i h
    constructor
    .exact .inl
    .rintro (q | q)
     .exact q
     .rw[q];exact h
   .rw[YAW,YAI]
  rw[h,YAJ,or_assoc]
def ZbU:x∈ddl ls↔x∈ls:=by unfold ddl;rw[ZcI];simp
def Zbq (ls:Q22):(ddl ls).Nodup:=by rw[<-Zdo];exact ZcE _
def ZiI (h:∀x,x∈A↔x∈B):Zbn (ddl A)=Zbn (ddl B):=
 ZdV ((YDC (Zbq A) (Zbq B)).mpr λx=>by rw[ZbU,ZbU];exact h x)
def Zct:x∈Zcy l n↔∃i,i<l.length/\x=(List.range n).map λj=>cyc l (i+j):=by
 unfold Zcy;rw[YAj];constructor
 .rintro⟨i,hi,rfl⟩;exact⟨i,YAl.mp hi,rfl⟩
 .rintro⟨i,hi,rfl⟩;exact⟨i,YAl.mpr hi,rfl⟩
def Zdt (h1:1<=l.length)(h1':1<=l'.length)(h:∀i,cyc l' i=cyc l (i+k))(h':∀i,cyc l i=cyc l' (i+k')):Zaj l' n=Zaj l n:=by
 refine ZiI λx=>?_;rw[Zct,Zct];have go:∀ {a b:Q11} {d:Nat},1<=b.length->(∀i,cyc a i=cyc b (i+d))->∀i,∃i',i'<b.length/\(List.range n).map (λj=>cyc a (i+j))=(List.range n).map λj=>cyc b (i'+j):=by
  intro a b d hb e i;refine⟨(i+d) % b.length,YBh _ hb,YBm λj _=>?_⟩;rw[e (i+j)];unfold cyc;rw[Nat.mod_add_mod];congr 2
  lia
 constructor
 .rintro⟨i,hi,rfl⟩;obtain⟨i',h2,h3⟩:=go h1 h i;exact⟨i',h2,h3⟩
 .rintro⟨i,hi,rfl⟩;obtain⟨i',h2,h3⟩:=go h1' h' i;exact⟨i',h2,h3⟩
def ZnN (hl:a.length=b.length)(h:∀i,cyc a i=cyc b i):a=b:=by rw[Zeb a,Zeb b,hl];exact YBm λi _=>h i
def Zjh (hs:1<=s)(hn:s<=l.length):Zex l s=true↔s∣l.length/\∀k,cyc l k=cyc (l.take s) k:=by
 have ht:(l.take s).length=s:=by rw[YAX];lia
 have hq:((l.length:Int)/(s:Nat)).toNat=l.length/s:=by have e:(l.length:Int)/(s:Nat)=((l.length/s:Nat):Int):=(Int.natCast_ediv _ _).symm;rw[e];exact YBQ _
 unfold Zex ip;rw[decide_eq_true_iff,hq];constructor
 .intro e;have hl:=congrArg List.length e;rw[Zd2,ht]at hl;have hd:s∣l.length:=⟨l.length/s,by rw[YBu];exact hl.symm⟩;refine⟨hd,λk=>?_⟩;have hm:k % l.length<l.length:=YBh _ ∅;have a1:=ZhA (l:=l.take s) (n:=l.length/s) (k:=k % l.length) (by rw[ht,hl];exact hm);rw[e,Zcg hm,Zem]at a1;have a2:cyc (l.take s) (k % l.length)=cyc (l.take s) k:=by unfold cyc;rw[ht,Nat.mod_mod_of_dvd _ hd]
  rw[<-a2];exact Option.some.inj a1
 .rintro⟨⟨c,hc⟩,h⟩;have hdiv:l.length/s=c:=by rw[hc];exact Nat.mul_div_cancel_left c hs
  have Av:((List.replicate (l.length/s) (l.take s)).flatten).length=l.length:=by rw[Zd2,ht,hdiv,YBu];exact hc.symm
  apply YBZ;intro i;by_cases hi:i<l.length
  .rw[ZhA (by rw[Zd2]at Av;rw[Av];exact hi),Zcg hi,h i]
  .rw[YAi (by rw[Av];lia),YAi ∅]
def ZgX (hs:1<=s)(hn:s<=l.length):Zex l s=true↔s∣l.length/\∀k,cyc l (k+s)=cyc l k:=by
 have ht:(l.take s).length=s:=by rw[YAX];lia
 rw[Zjh hs hn];constructor
 .rintro⟨hd,h⟩;refine⟨hd,λk=>?_⟩;have:=ZbJ (l.take s) k;rw[ht]at this;rw[h,h,this]
 .rintro⟨hd,h⟩;refine⟨hd,λk=>?_⟩;have hmul:∀c k,cyc l (k+s*c)=cyc l k:=by
   intro c;induction c with
   | zero=>intro k;rfl
   | succ c ih=>
    intro k;rw[Nat.mul_succ,<-YCB,h,ih]
  have e1:=hmul (k/s) (k % s);rw[Nat.mod_add_div]at e1;have hk:k % s<s:=YBh _ hs;have e2:cyc (l.take s) k=cyc l (k % s):=by have a1:=Zcg (l:=l.take s) (i:=k % s) (by rw[ht];exact hk);rw[YCj hk,Zcg ∅]at a1;have a2:=Zem (l.take s) k;rw[ht]at a2;rw[<-a2];exact(Option.some.inj a1).symm
  rw[e1,e2]
def ZkS (h1:1<=l.length):Zex l l.length=true:=(ZgX h1 (YAT _)).mpr ⟨Nat.dvd_refl _,ZbJ l⟩
def Za8 (h1:1<=l.length):1<=Zam l/\Zam l<=l.length/\Zex l (Zam l)=true/\∀s,1<=s->s<Zam l->Zex l s=false:=by
 unfold Zam;cases e:(List.range l.length).find? λs=>decide (1<=s)&&Zex l s with
 | none=>
  refine⟨h1,YAT _,ZkS h1,λs a b=>?_⟩;have:=List.find?_eq_none.mp e s (YAl.mpr b);simpa [a] using this
 | some r=>
  have hr:=List.find?_some e;have hm:=YAl.mp (List.mem_of_find?_eq_some e);rw[YAY,decide_eq_true_iff]at hr;refine⟨hr.1,Nat.le_of_lt hm,hr.2,λs a b=>?_⟩;have b':s<r:=b;have A4:=List.find?_range_eq_some.mp e;have:=A4.2.2 s b';simpa [a] using this
def Zby (h1:1<=l.length):(gS l).length=Zam l:=by
 unfold gS;rw[YAX];have:=(Za8 h1).2.1
 lia
def ZdI (h1:1<=l.length)(k:Nat):cyc l k=cyc (gS l) k:=by obtain⟨a,b,c,_⟩:=Za8 h1;exact((Zjh a b).mp c).2 k
def ZcH (h1:1<=l.length):Zaj (gS l) n=Zaj l n:=
 Zdt (k:=0) (k':=0) h1 (by rw[Zby h1];exact(Za8 h1).1) (λi=>(ZdI h1 i).symm) (λi=>ZdI h1 i)
def ZiV {l:Q11}{b:Int}(h1:1<=l.length):(b % (l.length:Nat)).toNat<l.length/\(((b % (l.length:Nat)).toNat:Nat):Int)=b % (l.length:Nat):=by
 have a:=YBR b (show ((l.length:Nat):Int)≠0 by lia);have c:=YBT b (show (0:Int)<(l.length:Nat) by lia)
 lia
def Ze2 (h1:1<=l.length):(ZdS l b).length=l.length:=by
 have:=(ZiV (b:=b) h1).1;unfold ZdS;rw[YAF,YAk,YAX]
 lia
def Ze3 (h1:1<=l.length)(i:Nat):cyc (ZdS l b) i=cyc l (i+(b % (l.length:Nat)).toNat):=by
 have hk:=(ZiV (b:=b) h1).1;have hl:=Ze2 (b:=b) h1;have hm:i % l.length<l.length:=YBh _ ∅;have a1:=Zcg (l:=ZdS l b) (i:=i % l.length) (by rw[hl];exact hm);have a2:=Zem (ZdS l b) i;rw[hl]at a2;rw[a2]at a1;have a3:cyc l (i+(b % (l.length:Nat)).toNat)=cyc l (i % l.length+(b % (l.length:Nat)).toNat):=by unfold cyc;rw[Nat.mod_add_mod]
 have key:∀k,k<l.length->∀r,r<l.length->(l.drop k++l.take k)[r]?=some (cyc l (r+k)):=by
  intro k hk r hr;by_cases h:r<l.length-k
  .rw[YAm (by rw[YAk];exact h),YBj,Zcg ∅,Nat.add_comm]
  .rw[YAs (by rw[YAk];lia),YAk,YCj ∅,Zcg ∅];have e:=ZbJ l (r-(l.length-k));have e2:r-(l.length-k)+l.length=r+k:=by lia
   rw[e2]at e;rw[e]
 have a4:(ZdS l b)[i % l.length]?=some (cyc l (i % l.length+(b % (l.length:Nat)).toNat)):=key _ hk _ hm;rw[a3];exact Option.some.inj (a1.symm.trans a4)
def ZiW (h1:1<=l.length)(i:Nat):cyc l i=cyc (ZdS l b) (i+(l.length-(b % (l.length:Nat)).toNat)):=by
 have hk:=(ZiV (b:=b) h1).1;rw[Ze3 h1];have e:i+(l.length-(b % (l.length:Nat)).toNat)+(b % (l.length:Nat)).toNat=i+l.length:=by lia
 rw[e,ZbJ]
def Zeu (h1:1<=l.length):Zaj (ZdS l b) n=Zaj l n:=
 Zdt h1 (by rw[Ze2 h1];exact h1) (Ze3 h1) (ZiW h1)
def Znd (h1:1<=l.length)(i:Nat):cyc l i∈l:=by have hm:i % l.length<l.length:=YBh _ h1;have:=Zcg hm;rw[Zem]at this;exact YAb this
def ZkQ (hy:y∈gS l):y∈l:=YAa hy
open PySem.W (Frag)
def AtW (l w:Q11)(i:Nat):Prop:=i+w.length<=l.length/\(l.drop i).take w.length=w
def Inf (w l:Q11):Prop:=∃i,AtW l w i
def Zck (l w:Q11)(i:Nat):StrLaws.At ⟨l.toArray⟩ ⟨w.toArray⟩ (⟨l.toArray⟩:Str).length i↔AtW l w i:=by
 have e1:(⟨l.toArray⟩:Str).length=l.length:=Ze1 l;have e2:(⟨w.toArray⟩:Str).length=w.length:=Ze1 w;unfold StrLaws.At AtW Builtin.Str.subAt;rw[e1,e2];refine and_congr_right λh=>?_;have e3:l.toArray.extract i (i+w.length)=((l.drop i).take w.length).toArray:=by
  apply Array.ext';simp only[List.extract_toArray,List.extract_eq_take_drop];have:i+w.length-i=w.length:=by lia
  rw[this]
 show (l.toArray.extract i (i+w.length) == w.toArray)=true↔_;rw[e3,beq_iff_eq];exact⟨λz=>by simpa using congrArg Array.toList z,λz=>by rw[z]⟩
def AtW.nil (l:Q11):AtW l [] 0:=⟨by simp,by simp⟩
def Inf.nil (l:Q11):Inf [] l:=⟨0,AtW.nil l⟩
def Inf.len (h:Inf w l):w.length<=l.length:=by obtain⟨i,h,_⟩:=h;lia
def Inf.mem (h:Inf w l){c:Nat}(hc:c∈w):c∈l:=by obtain⟨i,_,h⟩:=h;rw[<-h]at hc;exact YAh (YAa hc)
def Inf.refl (l:Q11):Inf l l:=⟨0,by simp,by simp⟩
def AtW.trans (h1:AtW v u i)(h2:AtW w v j):AtW w u (j+i):=by
 obtain⟨a1,b1⟩:=h1;obtain⟨a2,b2⟩:=h2;refine⟨∅,?_⟩;have e:(w.drop (j+i)).take u.length=((((w.drop j).take v.length).drop i).take u.length):=by
  rw[List.drop_take,YCS,YCp];congr 1
  lia
 rw[e,b2,b1]
def Inf.trans (h1:Inf u v)(h2:Inf v w):Inf u w:=by obtain⟨i,h1⟩:=h1;obtain⟨j,h2⟩:=h2;exact⟨_,h1.trans h2⟩
def ZdM (w:Q11):Inf w.tail w:=by
 cases w with
 | nil=>exact Inf.nil _
 | cons c w=>exact⟨1,by simp;lia,by simp⟩
def ZdN (w:Q11):Inf w.dropLast w:=⟨0,by simp,by rw[YBk,YBA,YCF]⟩
def Znu (h:Inf v w)(hl:v.length<w.length):Inf v w.dropLast\/Inf v w.tail:=by
 obtain⟨i,h1,h2⟩:=h;cases i with
 | zero=>
  refine .inl ⟨0,by rw[YBA];lia,?_⟩;rw[YBk]at h2 ⊢;rw[YCF,YCp];have:min v.length (w.length-1)=v.length:=by lia
  rw[this];exact h2
 | succ i=>
  refine .inr ⟨i,by rw[YCY];lia,?_⟩;rw[List.drop_tail];exact h2
def ZjU (h:Inf v w)(hl:w.length<=v.length):v=w:=by
 obtain⟨i,h1,h2⟩:=h;have hi:i=0:=by lia
 subst hi;rw[YBk,YAq hl]at h2;exact h2.symm
def Zbb (hn:n<=l.length+1):x∈gO l n↔x.length=n/\Inf x l:=by
 unfold gO;rw[(ZaD _).mem_iff,ZbU,YAj];constructor
 .rintro⟨i,hi,rfl⟩;have hi:=YAl.mp hi;have hl:((l.drop i).take n).length=n:=by rw[YAX,YAk];lia
  exact⟨hl,i,∅,by rw[hl]⟩
 .rintro⟨rfl,i,h1,h2⟩;exact⟨i,YAl.mpr ∅,h2⟩
def ZdR (l:Q11)(n:Nat):(gO l n).length<=l.length+1:=by
 unfold gO;rw[(ZaD _).length_eq];have:∀(ls acc:Q22),(ls.foldl ir acc).length<=acc.length+ls.length:=by
  intro ls;induction ls with
  | nil=>intro acc;simp
  | cons x ls ih=>
   intro acc;rw[YCE];refine YAP (ih _) ?_;unfold ir;split<;>simp<;>lia
 have h:=this ((List.range (l.length+1-n)).map λi=>(l.drop i).take n) [];rw[YAB,YAt]at h;unfold ddl;simp only[List.length_nil]at h
 lia
def Zc2 (sh st:Q22)(h:Q11)(c:Nat):Bool:=decide ((h++[c]).tail∈sh)&&!decide (h++[c]∈st)
def ZdE (sh st:Q22)(m h:Q11):Q22:=(m.filter (Zc2 sh st h)).map λc=>h++[c]
def ZcP (sh st:Q22)(m:Q11):Q22:=sh.flatMap (ZdE sh st m)
def Zgb (l m:Q11)(i:Nat):Q22:=(List.range i).flatMap λk=>ZcP (gO l k) (gO l (k+1)) m
def Zas (l m:Q11):Q22:=Zgb l m (l.length+1)
def Zee (sh st:Q22)(m h:Q11):(ZdE sh st m h).length<=m.length:=by unfold ZdE;rw[YAB];exact YAx _ _
theorem Zcd {α β:Type}{f:α->List β}{b:Nat}(h:∀x,(f x).length<=b):∀l:List α,(l.flatMap f).length<=l.length*b
 | []=>by simp
 | x::l=>by
  rw[List.flatMap_cons,YAF,YAf,Nat.succ_mul];have:=h x;have:=Zcd h l
  lia
def Zef (sh st:Q22)(m:Q11):(ZcP sh st m).length<=sh.length*m.length:=Zcd (Zee sh st m) sh
def Zb2 {sh st:Q22}{m w:Q11}:w∈ZcP sh st m↔∃h c,h∈sh/\c∈m/\w=h++[c]/\w.tail∈sh/\w∉st:=by
 unfold ZcP ZdE Zc2;simp only[List.mem_flatMap,YAj,YAg,YAY,Bool.not_eq_true',decide_eq_true_iff,decide_eq_false_iff_not];constructor
 .rintro⟨h,hh,c,⟨hc,h1,h2⟩,rfl⟩;exact⟨h,c,hh,hc,rfl,h1,h2⟩
 .rintro⟨h,c,hh,hc,rfl,h1,h2⟩;exact⟨h,hh,c,⟨hc,h1,h2⟩,rfl⟩
structure ja (l w:Q11):Prop where
 ne:w≠[]
 init:Inf w.dropLast l
 tail:Inf w.tail l
 no:¬Inf w l
def ZaI:w∈Zas l m↔ja l w/\∃c∈m,w.getLast?=some c:=by
 unfold Zas Zgb;rw[List.mem_flatMap];constructor
 .rintro⟨k,hk,hw⟩;have hk:=YAl.mp hk;obtain⟨h,c,h1,hc,rfl,h3,h4⟩:=Zb2.mp hw;rw[Zbb ∅]at h1 h3;refine⟨⟨by simp,~~~h1.2,h3.2,λz=>h4 ((Zbb ∅).mpr ⟨by simp[h1.1],z⟩)⟩,c,hc,by simp⟩
 .rintro⟨⟨ne,hi,ht,hn⟩,c,hc,hl⟩;have e:w.dropLast++[c]=w:=by rw[YBK ne]at hl;have h:=YCQ ne;rw[Option.some.inj hl]at h;exact h
  have Av:w.dropLast.length=w.length-1:=YBA;have h1:1<=w.length:=YBN.mpr ne;refine⟨w.length-1,YAl.mpr (by have:=hi.len;lia),Zb2.mpr ⟨w.dropLast,c,?_,hc,e.symm,?_,?_⟩⟩
  .rw[Zbb (by have:=hi.len;lia)];exact⟨Av,hi⟩
  .rw[Zbb (by have:=hi.len;lia)];exact⟨YCY,ht⟩
  .rw[Zbb (by have:=hi.len;lia)];exact λz=>hn z.2
def Zfn:∀(n:Nat) (w:Q11),w.length=n->(∀c∈w,c∈m)->¬Inf w l->∃v,v∈Zas l m/\Inf v w:=by
 intro n;induction n with
 | zero=>
  intro w hw _ hn;have:w=[]:=YBq.mp hw;rw[this]at hn;exact absurd (Inf.nil l) hn
 | succ n ih=>
  intro w hw hm hn;have ne:w≠[]:=λe=>by rw[e]at hw;simp at hw
  by_cases hi:Inf w.dropLast l
  .by_cases ht:Inf w.tail l
   .refine⟨w,ZaI.mpr ⟨⟨ne,hi,ht,hn⟩,w.getLast ne,hm _ (List.getLast_mem ne),YBK ne⟩,Inf.refl w⟩
   .obtain⟨v,h1,h2⟩:=ih w.tail (by rw[YCY];lia) (λc hc=>hm c (List.mem_of_mem_tail hc)) ht;exact⟨v,h1,h2.trans (ZdM w)⟩
  .obtain⟨v,h1,h2⟩:=ih w.dropLast (by rw[YBA];lia) (λc hc=>hm c (YAa (by rw[<-YCF];exact hc))) hi;exact⟨v,h1,h2.trans (ZdN w)⟩
def Zc1 (hm:∀c∈w,c∈m):Inf w l↔∀v∈Zas l m,¬Inf v w:=by
 constructor
 .intro h v hv hw;exact(ZaI.mp hv).1.no (hw.trans h)
 .intro h;by_cases hi:Inf w l
  .exact hi
  .obtain⟨v,h1,h2⟩:=Zfn (m:=m) _ w rfl hm hi;exact absurd h2 (h v h1)
def je (h:H e=none)(s:gp H H2):gp H (upd H2 e o'):=λb u hb=>by
 have:b≠e:=λz=>by rw[z,h]at hb;cases hb
 rw[Zak this];exact s _ _ hb
section
end
section
variable {tt:TT}{te:TE}{Q:VK}{τ0:St}{H:Hp}{K:Frag}{a:AE}{xs:List V}
def gu.dataF (b:Nat->Bool)(D:Hp->V->Nat->Prop)(mono:∀H H' y i,(∀c us,H c=some (.tup us)->H' c=some (.tup us))->D H y i->D H' y i)(hz:xs.length<=100000)(hx:SqL K H a xs)
  (ht:∀i H' Q' (h:i<xs.length),gp H H'->(∀H'',gp H' H''->Q' (b i) H'')->tt (τ0.set 0 (some (xs.getD i .non))) H' Q')
  (he:∀i H' Q' (h:i<xs.length),b i=true->gp H H'->(∀y H'',gp H' H''->D H'' y i->Q' y H'')->te (τ0.set 0 (some (xs.getD i .non))) H' Q')
  (hQ:∀p ys H',gp H H'->H p=none->H' p=some (.lst ys)->ys.length=((List.range xs.length).filter b).length->(∀(k:Nat) (y:V),ys[k]?=some y->∃i,((List.range xs.length).filter b)[k]?=some i/\D H' y i)->Q (.ref p) H'):gu (Itl K a) τ0 (Zcb 0) tt te H Q:=by
 intro acc ha;refine⟨λi m τ H2=>i<=xs.length/\m=xs.length-i/\(∀w:Option V,τ.set 0 w=τ0.set 0 w)/\gp H H2/\∃ys,H2 acc=some (.lst ys)/\ys.length=((List.range i).filter b).length/\∀(k:Nat) (y:V),ys[k]?=some y->∃j,((List.range i).filter b)[k]?=some j/\D H2 y j,
  ⟨xs.length,YBC _,rfl,λ_=>rfl,Zav ha,[],Zao,rfl,λi y h=>by simp at h⟩,?_⟩
 rintro i m τ H2 ⟨hi,rfl,hτ,hs,ys,Aw,Av,hall⟩;by_cases A4:i<xs.length
 .refine .inr ⟨⟨xs,xs[i],hs.seq hx,by simp[A4]⟩,λτ' H'=>(∀w:Option V,τ'.set 0 w=τ0.set 0 w)/\gp H H'/\∃ys,H' acc=some (.lst ys)/\ys.length=((List.range (i+1)).filter b).length/\∀(k:Nat) (y:V),ys[k]?=some y->∃j,((List.range (i+1)).filter b)[k]?=some j/\D H' y j,λτ' H' q=>⟨xs.length-(i+1),∅,A4,rfl,q⟩,λx H3 y=>?_⟩;obtain⟨rfl,y⟩:=y;have ex:x=xs.getD i .non:=by rw[YAQ,y xs (hs.seq hx)];rfl
  subst ex;show tt (τ.set 0 (some (xs.getD i .non))) _ _;rw[hτ];have hτ':∀w:Option V,(τ0.set 0 (some (xs.getD i .non))).set 0 w=τ0.set 0 w:=λw=>by rw[List.set_set]
  refine ht i _ _ A4 hs λH4 s4=>?_;cases hb:b i with
  | false=>
   rw[YAL YAE];have ef:(List.range (i+1)).filter b=(List.range i).filter b:=by rw[YCU,YDS];simp[hb]
   refine⟨hτ',hs.trans s4,ys,s4 _ _ Aw,by rw[ef];exact Av,λk y hy=>?_⟩;obtain⟨j,h1,h2⟩:=hall k y hy;exact⟨j,by rw[ef];exact h1,mono _ _ _ _ (λc us e=>s4 _ _ e) h2⟩
  | true=>
   rw[YAS rfl];have ef:(List.range (i+1)).filter b=(List.range i).filter b++[i]:=by rw[YCU,YDS];simp[hb]
   have fl:=YAx b (List.range i);rw[YAt]at fl;refine he i _ _ A4 hb (hs.trans s4) λy H5 s5 hD=>⟨ys,s5 _ _ (s4 _ _ Aw),by rw[Av,sizeLine_eq];lia,hτ',je ha ((hs.trans s4).trans s5),ys++[y],Zao,by rw[ef,YAF,YAF,Av];rfl,λk z hz'=>?_⟩;have ne:∀c us,H5 c=some (.tup us)->upd H5 acc (.lst (ys++[y])) c=some (.tup us):=λc us h=>by rw[Zak (λe=>by rw[e,s5 _ _ (s4 _ _ Aw)]at h;cases h)];exact h
   rw[ef];by_cases hk:k<ys.length
   .rw[YAm hk]at hz';obtain⟨j,h1,h2⟩:=hall k z hz';exact⟨j,by rw[YAm (by rw[<-Av];exact hk)];exact h1,mono _ _ _ _ ne (mono _ _ _ _ (λc us e=>s5 _ _ (s4 _ _ e)) h2)⟩
   .rw[YAs ∅]at hz';have hk':k-ys.length=0:=by
     rcases Nat.eq_zero_or_pos (k-ys.length) with h | h
     .exact h
     .rw[YAi (by simp;lia)]at hz';cases hz'
    rw[hk']at hz';cases hz';exact⟨i,by rw[YAs (by rw[<-Av];lia),<-Av,hk'];rfl,mono _ _ _ _ ne hD⟩
 .have e:i=xs.length:=by lia
  subst e;exact .inl ⟨⟨xs,hs.seq hx,YAT _⟩,hQ acc ys H2 hs ha Aw Av hall⟩
end
section
variable {tt:TT}{te:TE}{Q:VK}{τ0:St}{H:Hp}{K:Frag}{a:AE}{xs:List V}
def gu.listM (b:Nat->Bool)(f:Nat->V)(hz:xs.length<=100000)(hx:SqL K H a xs)
  (ht:∀i H' Q' (h:i<xs.length),gp H H'->(∀H'',gp H' H''->Q' (b i) H'')->tt (τ0.set 0 (some (xs.getD i .non))) H' Q')
  (he:∀i H' Q' (h:i<xs.length),b i=true->gp H H'->(∀H'',gp H' H''->Q' (f i) H'')->te (τ0.set 0 (some (xs.getD i .non))) H' Q')
  (hQ:∀p H',gp H H'->H p=none->H' p=some (.lst (((List.range xs.length).filter b).map f))->Q (.ref p) H'):gu (Itl K a) τ0 (Zcb 0) tt te H Q:=
 .dataF b (λ_ y i=>y=f i) (λ_ _ _ _ _ h=>h) hz hx ht (λi H' Q' h hb s q=>he i H' Q' h hb s λH'' s2=>q _ H'' s2 rfl) λp ys H' s n e el al=>hQ p H' s n (by rw[e];congr 2;refine YBw (by rw[YAB];exact el) λk h1 h2=>?_;obtain⟨j,hj,e⟩:=al k _ (YAH h1);rw[e,List.getElem_map,(YAN.mp hj).2])
def gu.tupsM (P:Nat->List V->Prop)(hz:xs.length<=100000)(hx:SqL K H a xs)
  (he:∀i H' Q' (h:i<xs.length),gp H H'->(∀p vs H'',gp H' H''->H'' p=some (.tup vs)->P i vs->Q' (.ref p) H'')->te (τ0.set 0 (some (xs.getD i .non))) H' Q')
  (hQ:∀p ys H',gp H H'->H p=none->H' p=some (.lst ys)->ys.length=xs.length->(∀i y,ys[i]?=some y->∃t vs,y=.ref t/\H' t=some (.tup vs)/\P i vs)->Q (.ref p) H'):gu (Itl K a) τ0 (Zcb 0) jA te H Q:=
 .dataF (λ_=>true) (λH y i=>∃t vs,y=.ref t/\H t=some (.tup vs)/\P i vs) (λ_ _ _ _ k ⟨t,vs,e,h,p⟩=>⟨t,vs,e,k _ _ h,p⟩) hz hx (λi H' Q' _ _ q=>q H' (gp.refl _)) (λi H' Q' h _ s q=>he i H' Q' h s λp vs H'' s2 e hp=>q _ H'' s2 ⟨p,vs,rfl,e,hp⟩) λp ys H' s n e el al=>by have fa:(List.range xs.length).filter (λ_=>true)=List.range xs.length:=YDN.mpr λ_ _=>rfl;rw[fa]at el al;rw[YAt]at el;refine hQ p ys H' s n e el λi y hy=>?_;obtain⟨j,hj,h⟩:=al i y hy;rw[YBf (by have:=(YAN.mp hy).1;lia)]at hj;cases hj;exact h
end
abbrev zl1 (h:Heap)(l:AE):Heap:=h.push { cls:=.type "list_iterator",data:=.fields #[.ref l,.int 0 0] }
abbrev zl2 (h:Heap)(l m:AE):Heap:=(zl1 h l).push { cls:=.type "list_iterator",data:=.fields #[.ref m,.int 0 0] }
abbrev zl3 (h:Heap)(l m:AE):Heap:=(zl2 h l m).push { cls:=.type "tuple",data:=.seq #[.ref h.objs.size,.ref (zl1 h l).objs.size] }
abbrev zl4 (h:Heap)(l m:AE):Heap:=(zl3 h l m).push { cls:=.type "tuple",data:=.seq #[.none,.none] }
abbrev zl5 (h:Heap)(l m:AE):Heap:=(zl4 h l m).push { cls:=.type "zip",data:=.fields #[.none,.bool false,.bool false,.ref (zl2 h l m).objs.size,.ref (zl3 h l m).objs.size] }
def Ziu (l m:AE)(xs ys:Array Value):Meets (Builtin.«zip.__new__» ⟨[.type "zip",.ref l,.ref m],[]⟩) (λ_ R s=>s.heap.IsList l xs/\s.heap.IsList m ys/\R (.ok (.ret (.ref (zl4 s.heap l m).objs.size))) { s with heap:=zl5 s.heap l m }):=
 .of_wp λprog w A R s h=>by
  obtain⟨hp,g,d,tk,os⟩:=s;obtain⟨p1,p2,h⟩:=h;have hsub:=sub_zip;have L1:Heap.IsList (Shared.heap ⟨hp,g,d,tk,os⟩) l xs:=p1;have L2:Heap.IsList (Shared.heap ⟨hp.push { cls:=.type "list_iterator",data:=.fields #[.ref l,.int 0 0] },g,d,tk,os⟩) m ys:=Heap.IsList.push p2 _
  wp_walk using YCx L1,YCx L2
  exact⟨_,rfl,h⟩
def Zko (p1:s.heap.IsList l xs)(p2:s.heap.IsList m ys)
  (q:∀h',IsZip h' (s.heap.objs.size+4) (s.heap.objs.size+2) (s.heap.objs.size+3) .none->IsPair h' (s.heap.objs.size+2) (.ref s.heap.objs.size) (.ref (s.heap.objs.size+1))->IsPair h' (s.heap.objs.size+3) .none .none ->
   h'.IsListIter s.heap.objs.size l 0->h'.IsListIter (s.heap.objs.size+1) m 0->(∀c o,s.heap.get? c=some o->h'.get? c=some o)->Q (.ref (s.heap.objs.size+4)) { s with heap:=h' }):
  wpAny (model prog w) A (call (.type "zip") [.ref l,.ref m]) Q E s:=by
 refine callType_new F.called_zip (by decide) (F.typeCall_zip_2 _ _) (F.newCall_zip_2 _ _) (λobj=>F.args_object_init_3 obj _ _) F.entry_zip_new (Ziu l m xs ys) ⟨p1,p2,?_⟩;have e1:(zl1 s.heap l).objs.size=s.heap.objs.size+1:=YBa ..;have e2:(zl2 s.heap l m).objs.size=s.heap.objs.size+2:=by rw[YBa,e1]
 have e3:(zl3 s.heap l m).objs.size=s.heap.objs.size+3:=by rw[YBa,e2]
 have e4:(zl4 s.heap l m).objs.size=s.heap.objs.size+4:=by rw[YBa,e3]
 have g5:(zl5 s.heap l m).get? (zl4 s.heap l m).objs.size=some _:=YAU _ rfl;have g4:(zl5 s.heap l m).get? (zl3 s.heap l m).objs.size=some _:=YAD _ (YAU _ rfl);have g3:(zl5 s.heap l m).get? (zl2 s.heap l m).objs.size=some _:=YAD _ (YAD _ (YAU _ rfl));have g2:(zl5 s.heap l m).get? (zl1 s.heap l).objs.size=some _:=YAD _ (YAD _ (YAD _ (YAU _ rfl)));have g1:(zl5 s.heap l m).get? s.heap.objs.size=some _:=YAD _ (YAD _ (YAD _ (YAD _ (YAU _ rfl))));show _/\_;rw[e2,e3,e4]at g5;rw[e1,e2]at g3;rw[e3]at g4;rw[e1]at g2;rw[e4];exact⟨⟨_,g5,rfl⟩,q _ g5 g3 g4 ⟨_,g1,rfl,rfl⟩ ⟨_,g2,rfl,rfl⟩ λc o x=>YAD _ (YAD _ (YAD _ (YAD _ (YAD _ x))))⟩
def ItzL (K:Q4)(a b:AE):It:=
  ⟨λi H=>∃xs ys x y,SqL K H a xs/\SqL K H b ys/\xs.length=ys.length/\xs[i]?=some x/\ys[i]?=some y,
   λi H v H'=>∃p x y,H p=none/\v=.ref p/\H'=upd H p (.tup [x,y])/\(∀xs,SqL K H a xs->xs[i]?=some x)/\∀ys,SqL K H b ys->ys[i]?=some y,
   λi H=>∃xs ys,SqL K H a xs/\SqL K H b ys/\xs.length=ys.length/\xs.length=i⟩
section
end
section
variable {prog:AH}{w:AJ}{A:AI}{E:Q33}{s:AF}{z TI TO i1 i2:AE}{f1 f2:List AE}{n n2 i:Nat}{P1 P2:Nat->Value->Prop}{S1 S2:Nat->Heap->Prop}{a b:Value}
def Zh9 {Q:Q33}(D:Zap z TI TO i1 i2 f1 f2)(D1:Draws prog w A i1 f1 n P1 S1)(D2:Draws prog w A i2 f2 n2 P2 S2)(hn:i<n)(hn2:i<n2)
  (hz:IsZip s.heap z TI TO .none) (hI:IsPair s.heap TI (.ref i1) (.ref i2)) (hO:IsPair s.heap TO a b) (h1:S1 i s.heap) (h2:S2 i s.heap)
  (q:∀x y h' tk,P1 i x->P2 i y->IsZip h' z TI TO (rawInt s.heap.objs.size)->IsPair h' TO x y->S1 (i+1) h'->S2 (i+1) h'->IsPair h' s.heap.objs.size x y ->
   (∀c o,c≠z->c≠TO->c≠i1->c≠i2->s.heap.get? c=some o->h'.get? c=some o)->Q (.ref s.heap.objs.size) { s with heap:=h',toks:=tk }):
  wpAny (model prog w) A (Builtin.«zip.__next__» ⟨[.ref z],[]⟩) (λfin s'=>∃v,fin=.done (.ret v)/\Q v s') E s:=by
 show wpAny _ _ (field (.ref z) 2 >>= _) _ _ _;refine YAA (YDW hz rfl (x:=.bool false) rfl ?_);show wpAny _ _ (field (.ref z) 3 >>= _) _ _ _;refine YAA (YDW hz rfl (x:=.ref TI) rfl (YAA (YCo hI rfl ?_)));show wpAny _ _ (Builtin.SmallTypes.ownedTupleIsFree (.ref z) >>= _) _ _ _;refine YAA ?_;unfold Builtin.SmallTypes.ownedTupleIsFree;refine YAA (YDW hz rfl (x:=.none) rfl (YAC ?_));simp only[if_true];refine YAA (YBn (YAA (YDW hz rfl (x:=.ref TO) rfl (YAA (YDO hz (by simp) λg1 z1 k1=>?_)))));replace z1:IsZip g1 z TI TO .ellipsis:=z1;replace k1:Heap.SameBut z s.heap g1:=k1;refine YAA ?_;simp only[List.zipIdx_cons,List.zipIdx_nil,YCk,List.forIn_nil];refine YAA (YAA (wpAny_onRaise ?_));show wpAny _ _ (Builtin.SmallTypes.nextOf (.ref i1) >>= _) _ _ _;have f1':∀c,c∈f1->c≠z:=λc hc e=>D.b1 (e▸hc);have f2':∀c,c∈f2->c≠z:=λc hc e=>D.b2 (e▸hc);refine YAA (D1.item i _ _ _ hn (D1.frame _ _ _ h1 λc hc o e=>k1.extBut _ _ (f1' c hc) e) λx g2 tk1 px s1 k2=>YAC ?_);replace k2:Heap.SameBut i1 g1 g2:=k2;have o2:IsPair g2 TO a b:=k2.extBut _ _ D.a8 (k1.extBut _ _ D.a2 hO);refine YAA (YCo o2 rfl (YAA (wpAny_updateSeq_pair o2 λg3 o3 k3=>?_)));replace o3:IsPair g3 TO x b:=o3;replace k3:Heap.SameBut TO g2 g3:=k3;refine YAA (wpAny_letGo (YAC (YAA (YAA (wpAny_onRaise ?_)))));show wpAny _ _ (Builtin.SmallTypes.nextOf (.ref i2) >>= _) _ _ _;have e2:S2 i g3:=D2.frame _ _ _ h2 λc hc o e=>k3.extBut _ _ (λz=>D.b4 (z▸hc)) (k2.extBut _ _ (λz=>D.b6 (z▸hc)) (k1.extBut _ _ (f2' c hc) e));refine YAA (D2.item i _ _ _ hn2 e2 λy g4 tk2 py s2 k4=>YAC ?_);replace k4:Heap.SameBut i2 g3 g4:=k4;have o4:IsPair g4 TO x b:=k4.extBut _ _ D.a9 o3;refine YAA (YCo o4 rfl (YAA (wpAny_updateSeq_pair o4 λg5 o5 k5=>?_)));replace o5:IsPair g5 TO x y:=o5;replace k5:Heap.SameBut TO g4 g5:=k5;refine YAA (wpAny_letGo (YAC (YAC (YAA (YCo o5 rfl (YAA (wpAny_newTuple ?_)))))));have sz:g5.objs.size=s.heap.objs.size:=by rw[k5.1,k4.1,k3.1,k2.1,k1.1]
 have z5:IsZip g5 z TI TO .ellipsis:=k5.extBut _ _ D.a2.symm (k4.extBut _ _ D.a4.symm (k3.extBut _ _ D.a2.symm (k2.extBut _ _ D.a3.symm z1)));have kk:∀c o,c≠z->c≠TO->c≠i1->c≠i2->s.heap.get? c=some o->g5.get? c=some o:=λc o c1 c2 c3 c4 e=>k5.extBut _ _ c2 (k4.extBut _ _ c4 (k3.extBut _ _ c2 (k2.extBut _ _ c3 (k1.extBut _ _ c1 e))));have t1:S1 (i+1) g5:=D1.frame _ _ _ s1 λc hc o e=>k5.extBut _ _ (λz=>D.b3 (z▸hc)) (k4.extBut _ _ (λz=>D.b5 (z▸hc)) (k3.extBut _ _ (λz=>D.b3 (z▸hc)) e));have t2:S2 (i+1) g5:=D2.frame _ _ _ s2 λc hc o e=>k5.extBut _ _ (λz=>D.b4 (z▸hc)) e;have zl:z<g5.objs.size:=YAR z5;show wpAny _ _ (Builtin.SmallTypes.ownedTupleHandOut (.ref z) (.ref g5.objs.size) >>= _) _ _ _;refine YAA ?_;unfold Builtin.SmallTypes.ownedTupleHandOut;have z6:IsZip (g5.push { cls:=.type "tuple",data:=.seq #[x,y] }) z TI TO .ellipsis:=YAD _ z5;refine YAA (YDO z6 (by simp) λg7 z7 k7=>?_);replace z7:IsZip g7 z TI TO (rawInt g5.objs.size):=z7;refine YDO z7 (by simp) λg8 z8 k8=>?_;replace z8:IsZip g8 z TI TO (rawInt g5.objs.size):=z8;have up:∀c o,c≠z->g5.get? c=some o->g8.get? c=some o:=λc o c1 e=>k8.extBut _ _ c1 (k7.extBut _ _ c1 (YAD _ e));have p8:IsPair g8 g5.objs.size x y:=k8.extBut _ _ (Nat.ne_of_gt zl) (k7.extBut _ _ (Nat.ne_of_gt zl) (YAU _ rfl));rw[sz]at z8 p8;refine YAC ⟨_,rfl,?_⟩;show Q (.ref g5.objs.size) _;rw[sz];exact q x y g8 tk2 px py z8 (up _ _ D.a2 o5) (D1.frame _ _ _ t1 λc hc o e=>up c o (f1' c hc) e) (D2.frame _ _ _ t2 λc hc o e=>up c o (f2' c hc) e) p8 λc o c1 c2 c3 c4 e=>up c o c1 (kk c o c1 c2 c3 c4 e)
def ZiG (D:Zap z TI TO i1 i2 f1 f2)(D1:Draws prog w A i1 f1 n P1 S1)(D2:Draws prog w A i2 f2 n2 P2 S2)(hn:n2<n)
  (hz:IsZip s.heap z TI TO .none) (hI:IsPair s.heap TI (.ref i1) (.ref i2)) (hO:IsPair s.heap TO a b) (h1:S1 n2 s.heap) (h2:S2 n2 s.heap)
  (q:∀h' tk e,(∀c o,c≠z->c≠TO->c≠i1->c≠i2->s.heap.get? c=some o->h'.get? c=some o)->(∃o,h'.get? e=some o/\o.cls=.type "StopIteration")->E (.ref e) { s with heap:=h',toks:=tk }):
  wpAny (model prog w) A (Builtin.«zip.__next__» ⟨[.ref z],[]⟩) Q E s:=by
 show wpAny _ _ (field (.ref z) 2 >>= _) _ _ _;refine YAA (YDW hz rfl (x:=.bool false) rfl ?_);show wpAny _ _ (field (.ref z) 3 >>= _) _ _ _;refine YAA (YDW hz rfl (x:=.ref TI) rfl (YAA (YCo hI rfl ?_)));show wpAny _ _ (Builtin.SmallTypes.ownedTupleIsFree (.ref z) >>= _) _ _ _;refine YAA ?_;unfold Builtin.SmallTypes.ownedTupleIsFree;refine YAA (YDW hz rfl (x:=.none) rfl (YAC ?_));simp only[if_true];refine YAA (YBn (YAA (YDW hz rfl (x:=.ref TO) rfl (YAA (YDO hz (by simp) λg1 z1 k1=>?_)))));replace z1:IsZip g1 z TI TO .ellipsis:=z1;replace k1:Heap.SameBut z s.heap g1:=k1;refine YAA ?_;simp only[List.zipIdx_cons,List.zipIdx_nil,YCk,List.forIn_nil];refine YAA (YAA (wpAny_onRaise ?_));show wpAny _ _ (Builtin.SmallTypes.nextOf (.ref i1) >>= _) _ _ _;have f1':∀c,c∈f1->c≠z:=λc hc e=>D.b1 (e▸hc);have f2':∀c,c∈f2->c≠z:=λc hc e=>D.b2 (e▸hc);refine YAA (D1.item n2 _ _ _ hn (D1.frame _ _ _ h1 λc hc o e=>k1.extBut _ _ (f1' c hc) e) λx g2 tk1 px s1 k2=>YAC ?_);replace k2:Heap.SameBut i1 g1 g2:=k2;have o2:IsPair g2 TO a b:=k2.extBut _ _ D.a8 (k1.extBut _ _ D.a2 hO);refine YAA (YCo o2 rfl (YAA (wpAny_updateSeq_pair o2 λg3 o3 k3=>?_)));replace o3:IsPair g3 TO x b:=o3;replace k3:Heap.SameBut TO g2 g3:=k3;refine YAA (wpAny_letGo (YAC (YAA (YAA (wpAny_onRaise ?_)))));show wpAny _ _ (Builtin.SmallTypes.nextOf (.ref i2) >>= _) _ _ _;have e2:S2 n2 g3:=D2.frame _ _ _ h2 λc hc o e=>k3.extBut _ _ (λz=>D.b4 (z▸hc)) (k2.extBut _ _ (λz=>D.b6 (z▸hc)) (k1.extBut _ _ (f2' c hc) e));refine YAA (D2.done _ _ _ e2 λg4 e k4 he=>?_);obtain⟨o,ho,hc⟩:=he;have z4:IsZip g4 z TI TO .ellipsis:=k4 _ _ D.a4.symm (k3.extBut _ _ D.a2.symm (k2.extBut _ _ D.a3.symm z1));have ez:e≠z:=λx=>by subst x;rw[z4]at ho;cases ho;simp at hc
 refine YDO z4 (by simp) λg5 _ k5=>q g5 tk1 e (λc o c1 c2 c3 c4 x=>k5.extBut _ _ c1 (k4 _ _ c4 (k3.extBut _ _ c2 (k2.extBut _ _ c3 (k1.extBut _ _ c1 x))))) ⟨o,k5.extBut _ _ ez ho,hc⟩
def ZeY (D:Zap z TI TO i1 i2 f1 f2)(D1:Draws prog w A.in1 i1 f1 n P1 S1)(D2:Draws prog w A.in1 i2 f2 n2 P2 S2)(hn:i<n)(hn2:i<n2)
  (hz:IsZip s.heap z TI TO .none) (hI:IsPair s.heap TI (.ref i1) (.ref i2)) (hO:IsPair s.heap TO a b) (h1:S1 i s.heap) (h2:S2 i s.heap)
  (q:∀x y h' tk,P1 i x->P2 i y->IsZip h' z TI TO (rawInt s.heap.objs.size)->IsPair h' TO x y->S1 (i+1) h'->S2 (i+1) h'->IsPair h' s.heap.objs.size x y ->
   (∀c o,c≠z->c≠TO->c≠i1->c≠i2->s.heap.get? c=some o->h'.get? c=some o)->Q (some (.ref s.heap.objs.size)) { s with heap:=h',toks:=tk }):
  wpAny (model prog w) A (pyNext (.ref z)) Q E s:=by
 have hT:s.TypeIs (.ref z) "zip":=⟨_,hz,rfl⟩;unfold pyNext;exact YAA (YCa (wpAny_callSpecial?_slot (name:=Str.ofString "__next__") hT F.slot_zip_next (YBs F.slot_zip_next hT F.entry_zip_next
   (Zh9 D D1 D2 hn hn2 hz hI hO h1 h2 λx y h' tk c1 c2 c3 c4 c5 c6 c7 c8=>YAC (q x y h' tk c1 c2 c3 c4 c5 c6 c7 c8)) (F.args_zip_next_1 _))))
def ZfI (D:Zap z TI TO i1 i2 f1 f2)(D1:Draws prog w A.in1 i1 f1 n P1 S1)(D2:Draws prog w A.in1 i2 f2 n2 P2 S2)(hn:n2<n)
  (hz:IsZip s.heap z TI TO .none) (hI:IsPair s.heap TI (.ref i1) (.ref i2)) (hO:IsPair s.heap TO a b) (h1:S1 n2 s.heap) (h2:S2 n2 s.heap) (q:∀h' tk,(∀c o,c≠z->c≠TO->c≠i1->c≠i2->s.heap.get? c=some o->h'.get? c=some o)->Q none { s with heap:=h',toks:=tk }):
  wpAny (model prog w) A (pyNext (.ref z)) Q E s:=by
 have hT:s.TypeIs (.ref z) "zip":=⟨_,hz,rfl⟩;unfold pyNext;refine YAA (YCa (wpAny_callSpecial?_slot (name:=Str.ofString "__next__") hT F.slot_zip_next (YBs F.slot_zip_next hT F.entry_zip_next (ZiG D D1 D2 hn hz hI hO h1 h2 λh' tk e k he=>?_) (F.args_zip_next_1 _))));obtain⟨o,ho,hc⟩:=he;exact YAA (YDI (T:="StopIteration") (b:=true) ⟨o,ho,hc⟩ isSubtype_stop (YAC (q _ _ k)))
end
def lA (K:Q4)(a b:AE):It:=
  ⟨λi H=>∃xs ys x y,SqL K H a xs/\SqL K H b ys/\xs.length=ys.length+1/\xs[i]?=some x/\ys[i]?=some y,
   λi H v H'=>∃p x y,H p=none/\v=.ref p/\H'=upd H p (.tup [x,y])/\(∀xs,SqL K H a xs->xs[i]?=some x)/\∀ys,SqL K H b ys->ys[i]?=some y,
   λi H=>∃xs ys,SqL K H a xs/\SqL K H b ys/\xs.length=ys.length+1/\ys.length=i⟩
def ZiR {P:AH}{w:AJ}{K:Q4}{es:List Expr}{x1:Nat}{tp:Pos}(a b z:AE)(hz:a<z/\b<z):jU P w K (.Tuple es x1 tp) (lA K a b) [z+4,z+2,z+3,z,z+1] (z+4)
  (λi h=>IsZip h (z+4) (z+2) (z+3) .none/\IsPair h (z+2) (.ref z) (.ref (z+1))/\(∃u v,IsPair h (z+3) u v)/\h.IsListIter z a i/\h.IsListIter (z+1) b i) where
 mem:=by simp
 obj:=λi h st c hc=>by
  obtain⟨s1,s2,⟨u,v,s3⟩,⟨o4,s4,c4,d4⟩,⟨o5,s5,c5,d5⟩⟩:=st;simp only[YAJ,YBF,or_false]at hc;rcases hc with e | e | e | e | e
  .exact⟨_,e▸s1,λv q=>by cases (show Data.fields _=Data.cell v from q)⟩
  .exact⟨_,e▸s2,λv q=>by cases (show Data.seq _ _=Data.cell v from q)⟩
  .exact⟨_,e▸s3,λv q=>by cases (show Data.seq _ _=Data.cell v from q)⟩
  .exact⟨o4,e▸s4,λv q=>by rw[d4]at q;cases q⟩
  .exact⟨o5,e▸s5,λv q=>by rw[d5]at q;cases q⟩
 keep:=λi h h' st k=>by obtain⟨s1,s2,⟨u,v,s3⟩,s4,s5⟩:=st;exact⟨k _ (by simp) _ s1,k _ (by simp) _ s2,⟨u,v,k _ (by simp) _ s3⟩,s4.at λo q=>k _ (by simp) o q,s5.at λo q=>k _ (by simp) o q⟩
 item:=by
  intro X hP hw hK hc i As s U H E I hf st hg;subst hP hw hK;obtain⟨s1,s2,⟨u,v,s3⟩,s4,s5⟩:=st;obtain⟨xs,ys,x,y,ha,hb,hl,hx,hy⟩:=hg;obtain⟨is,ri,pi',_⟩:=I.list ha;have pi:=pi'.isList;obtain⟨js,rj,pj',_⟩:=I.list hb;have pj:=pj'.isList;have li:is.toArray.size=xs.length:=by rw[YAM,ri.length]
  have lj:js.toArray.size=ys.length:=by rw[YAM,rj.length]
  have hh:X.A.in1.handled=none:=by simpa using I.ok.hd hc
  have D1:=Draws.list (prog:=X.prog) (w:=X.w) (A:=X.A.in1) hh z a (YAd hz.1) is.toArray;have D2:=Draws.list (prog:=X.prog) (w:=X.w) (A:=X.A.in1) hh (z+1) b (YAd (YBy hz.2)) js.toArray;rw[li]at D1;rw[lj]at D2;have hi:i<xs.length:=(YAN.mp hx).1;have hj:i<ys.length:=(YAN.mp hy).1;have ap:Zap (z+4) (z+2) (z+3) z (z+1) [z,a] [z+1,b]:=ZlQ a b z hz.1 hz.2;have sz:z+4<s.heap.objs.size:=YAR s1;refine ZeY ap D1 D2 hi hj s1 s2 s3 ⟨s4,pi⟩ ⟨s5,pj⟩ λu1 u2 h' tk q1 q2 y1 y2 y3 y4 y5 y6=>?_;refine⟨_,rfl,?_⟩;refine wpAny_letOwnedTupleGo_zip (s:={ s with heap:=h',toks:=tk }) y1 λh2 o2 sb=>?_;obtain⟨x',hx',rx⟩:=ZcM ri (show is[i]?=some u1 by simpa using q1);obtain⟨y',hy',ry⟩:=ZcM rj (show js[i]?=some u2 by simpa using q2);obtain rfl:x=x':=Option.some.inj (hx.symm.trans hx');obtain rfl:y=y':=Option.some.inj (hy.symm.trans hy');have hfr:=I.fresh;replace sb:Heap.SameBut (z+4) h' h2:=sb;have k2:∀c o,c∉[z+4,z+2,z+3,z,z+1]->s.heap.get? c=some o->h2.get? c=some o:=λc o hc q=>by simp only[YAJ,YBF,or_false,not_or]at hc;exact(sb.2 c hc.1).trans (y6 c o hc.1 hc.2.2.1 hc.2.2.2.1 hc.2.2.2.2 q)
  have I1:Inv X As U H { s with heap:=h2,toks:=tk }:=I.turnedN (t':=tk) k2 hf;have t2:IsPair h2 s.heap.objs.size u1 u2:=(sb.2 _ (Nat.ne_of_gt sz)).trans y5;have fp:=I.fpOk (H':=H) (YAT _) hfr;have up:∀c o,c≠z+4->h'.get? c=some o->h2.get? c=some o:=λc o n q=>(sb.2 c n).trans q;refine⟨.ref s.heap.objs.size,upd H s.heap.objs.size (.tup [x,y]),I1.track fp I.sz ?_,rfl,⟨_,x,y,hfr,rfl,rfl,λxs' h=>by rw[I.list_inj h ha];exact hx,λys' h=>by rw[I.list_inj h hb];exact hy⟩,⟨o2,?_,⟨u1,u2,up _ _ ap.a2 y2⟩,?_,?_⟩,λc hc=>?_⟩
  .exact⟨by show 2<=sizeLine;rw[sizeLine_eq];decide,[u1,u2],.cons rx (.cons ry .nil),⟨_,t2,rfl,_,rfl⟩⟩
  .exact up _ _ ap.a1 (y6 _ _ ap.a1 ap.a5 ap.a6 ap.a7 s2)
  .exact y3.1.at λo q=>up _ _ ap.a3 q
  .exact y4.1.at λo q=>up _ _ ap.a4 q
  .have hc':=hf c hc;have:c≠s.heap.objs.size:=YAd (YCc (mem5 hc).2 sz);rw[Zak this];exact hc'.1
 done:=by
  intro X hP hw hK hc i As s U H E I hf st hg;subst hP hw hK;obtain⟨s1,s2,⟨u,v,s3⟩,s4,s5⟩:=st;obtain⟨xs,ys,ha,hb,hl,rfl⟩:=hg;obtain⟨is,ri,pi',_⟩:=I.list ha;have pi:=pi'.isList;obtain⟨js,rj,pj',_⟩:=I.list hb;have pj:=pj'.isList;have li:is.toArray.size=xs.length:=by rw[YAM,ri.length]
  have lj:js.toArray.size=ys.length:=by rw[YAM,rj.length]
  have hh:X.A.in1.handled=none:=by simpa using I.ok.hd hc
  have D1:=Draws.list (prog:=X.prog) (w:=X.w) (A:=X.A.in1) hh z a (YAd hz.1) is.toArray;have D2:=Draws.list (prog:=X.prog) (w:=X.w) (A:=X.A.in1) hh (z+1) b (YAd (YBy hz.2)) js.toArray;rw[li]at D1;rw[lj]at D2;have ap:Zap (z+4) (z+2) (z+3) z (z+1) [z,a] [z+1,b]:=ZlQ a b z hz.1 hz.2;refine ZfI ap D1 D2 ∅ s1 s2 s3 ⟨s4,pi⟩ ⟨s5,pj⟩ λh' tk k=>⟨rfl,I.turnedN (t':=tk) (λc o hc q=>k c o (λe=>hc (by simp[e])) (λe=>hc (by simp[e])) (λe=>hc (by simp[e])) (λe=>hc (by simp[e])) q) hf⟩
 self:=λ_ _ _ _ _ st h=>wpAny_pyIter_zip st.1 h
section
def Znv (K:Q4)(ta:TA):TI:=λU H R=>ta U H λvs H1=>∃a b,vs=[.ref a,.ref b]/\(∃xs,SqL K H1 a xs)/\(∃ys,SqL K H1 b ys)/\R (lA K a b) H1
def ZmV (hg:Gl X "zip") (hm:X.mg "zip"=none) (ha:PA X [l,m] ta) (hs:starEach [l,m] X.env=(false,eval l X.env)::starEach [m] X.env:=by rfl) (hpl:(backTo pos (starEach [m] X.env)).any (·.1)=false:=by rfl):
  PI X (.Tuple es x1 tp) (.Call (.Name "zip" p) [l,m] [] pos) (Znv X.K ta):=by
 intro As s U H R I h;refine Call_ (Zdw I hg hm ZpX (YCt (thn (ha pos As s U H _ I h) λus s1 zz=>?_) hs hpl));obtain⟨vs,H1,I1,r1,a,b,ev,⟨xs,hq⟩,⟨ys,hr⟩,q⟩:=zz;subst ev;obtain⟨u,v,rfl,ru,rv⟩:=r1.two;cases ru;cases rv;obtain⟨is,_,pi',_⟩:=I1.list hq;have pi:=pi'.isList;obtain⟨js,_,pj',_⟩:=I1.list hr;have pj:=pj'.isList;obtain⟨oa,hoa,_⟩:=id pi;obtain⟨ob,hob,_⟩:=id pj;refine Zko pi pj λh' e1 e2 e3 e4 e5 k1=>?_;have I2:Inv X As U H1 { s1 with heap:=h' }:=I1.kept (t':=s1.toks) k1;refine wpAny_pyIter_zip (s:={ s1 with heap:=h' }) e1 ?_;refine⟨s1.heap.objs.size+4,_,_,_,H1,rfl,I2,ZiR a b s1.heap.objs.size ⟨YAR hoa,YAR hob⟩,⟨e1,e2,⟨_,_,e3⟩,e4,e5⟩,λc hc=>?_,q⟩;have hb':s1.heap.objs.size<=c:=(mem5 hc).1;exact I1.fpOk hb' (I1.hok.fresh hb')
def ZkX {K:Q4} {l m:Expr} {ta:TA} {p pos:Pos} (hK:X.K=K) (hg:Gl X "zip") (hm:X.mg "zip"=none) (ha:PA X [l,m] ta) (hs:starEach [l,m] X.env=(false,eval l X.env)::starEach [m] X.env:=by rfl) (hpl:(backTo pos (starEach [m] X.env)).any (·.1)=false:=by rfl):
  PI X (.Tuple es x1 tp) (.Call (.Name "zip" p) [l,m] [] pos) (Znv K ta):=by subst hK;exact ZmV hg hm ha hs hpl
end
def gH.zipM {g:TG}{tb:TS}{D:iM}{U:St}{H:Hp}{K:Q4}{a b:AE}{xs ys:List V}(he:xs.length=ys.length+1)(Pv:Nat->St->Hp->Prop)(h0:Pv 0 U H)(hl:∀i U H,i<=ys.length->Pv i U H->SqL K H a xs/\SqL K H b ys)
  (hs:∀i x y p U H,xs[i]?=some x->ys[i]?=some y->Pv i U H->H p=none->g (.ref p) U (upd H p (.tup [x,y])) λU2 H2=>tb { D with nx:=Pv (i+1),ct:=Pv (i+1),bk:=D.nx } U2 H2) (hd:∀U H,Pv ys.length U H->D.nx U H):
  gH (lA K a b) g tb D U H:=by
 refine⟨λi m U H=>m=ys.length-i/\i<=ys.length/\Pv i U H,⟨ys.length,by simp,YBC _,h0⟩,?_⟩;rintro i m U H ⟨rfl,hi,p⟩;obtain⟨q1,q2⟩:=hl i U H hi p;by_cases ly:i<ys.length
 .have A4:i<xs.length:=by lia
  refine .inr ⟨⟨xs,ys,xs[i],ys[i],q1,q2,he,by simp[A4],by simp[ly]⟩,Pv (i+1),λU' H' p'=>⟨ys.length-(i+1),∅,rfl,ly,p'⟩,λx H' y=>?_⟩;obtain⟨pt,u,v,hn,rfl,rfl,hu,hv⟩:=y;exact hs i u v pt U H (hu xs q1) (hv ys q2) p hn
 .have e:i=ys.length:=by lia
  subst e;exact .inl ⟨⟨xs,ys,q1,q2,he,rfl⟩,hd U H p⟩
def Zk2:OpR X (compareOp .GtE) (rT (λ_ _=>True) λa b=>.bl (!decide (a<b))):=by rintro As s U H x y v u Q I rx ry ⟨a,b,rfl,rfl,_,q⟩;obtain⟨t,rfl⟩:=rx;obtain⟨t',rfl⟩:=ry;exact PySem.P.ge_str ⟨.bl _,H,I,rfl,q⟩
noncomputable def gal:Bool->Keyed->Array Keyed->Nat->Nat->Nat->StateT SortSt Sem (Option Nat):=sortPriv% PySem.Builtin.gallop
noncomputable def kM (bey:Nat->StateT SortSt Sem (Option Bool)) (n h:Nat):StateT SortSt Sem (Option Nat):=do
  let mut la:=0
  let mut o:=1
  let mut lo:=0
  let mut hi:=0
  let some rt <-bey h | return none
  if rt then
   let mx:=n-h
   for _ in [0:n] do
    if o>=mx then break
    let some mo <-bey (h+o) | return none
    if !mo then break
    la:=o
    o:=2*o+1
   lo:=h+la+1
   hi:=h+min o mx
  else
   let mx:=h+1
   for _ in [0:n] do
    if o>=mx then break
    let some fo <-bey (h-o) | return none
    if fo then break
    la:=o
    o:=2*o+1
   lo:=h+1-min o mx
   hi:=h-la
  for _ in [0:n] do
   if lo>=hi then break
   let m:=lo+(hi-lo)/2
   let some mo <-bey m | return none
   if mo then lo:=m+1 else hi:=m
  return some hi
noncomputable def nG (lf:Bool) (ky:Keyed) (ar:Array Keyed) (bs:Nat) (i:Nat):StateT SortSt Sem (Option Bool):=do
 let x <-elem' ar (bs+i)
 if lf then lt' x ky else return (<-lt' ky x).map (!·)
def ZpO (lf:Bool)(ky:Keyed)(ar:Array Keyed)(bs n h:Nat):gal lf ky ar bs n h=kM (nG lf ky ar bs) n h:=rfl
noncomputable def lu (bey:Nat->StateT SortSt Sem (Option Bool)) (n l0 h0:Nat):StateT SortSt Sem (Option Nat):=do
  let mut lo:=l0
  let mut hi:=h0
  for _ in [0:n] do
   if lo>=hi then break
   let m:=lo+(hi-lo)/2
   let some mo <-bey m | return none
   if mo then lo:=m+1 else hi:=m
  return some hi
section
variable {M:Model}{A:AI}{E:Q33}{s:AF}{bey:Nat->StateT SortSt Sem (Option Bool)}{B:Nat->Bool}{n h:Nat}{st:SortSt}{Q:Option Nat->SortSt->Prop}
noncomputable def jn (B:Nat->Bool) (n lo hi:Nat):Prop:=(∀i,i<lo->B i=true)/\∀i,hi<=i->i<n->B i=false
def ZnA {lo hi:Nat}(hb:∀i (Q:Option Bool->SortSt->Prop),i<n->Q (some (B i)) st->wpS M A E s (bey i) Q st)(mono:∀i j,i<=j->j<n->B j=true->B i=true)(h1:lo<=hi)(h2:hi<=n)(hp:jn B n lo hi)
  (q:∀k,k<=n->jn B n k k->Q (some k) st):wpS M A E s (lu bey n lo hi) Q st:=by
 unfold lu;refine YAV (YCV (YBe (I:=λi c st'=>st'=st/\∃lo hi,c=(none,lo,hi)/\lo<=hi/\hi<=n/\hi-lo<=n-i/\jn B n lo hi) (Q:=λc st'=>st'=st/\∃k,c=(none,k,k)/\k<=n/\jn B n k k) ?step ?fin ⟨rfl,lo,hi,rfl,h1,h2,∅,hp⟩) ?post)
 case step=>
  rintro i c st' _ hi' ⟨rfl,lo,hi,rfl,h1,h2,h3,hp⟩;dsimp only;by_cases hl:lo>=hi
  .have e:lo=hi:=by lia
   subst e;rw[YAS hl];exact YAe ⟨rfl,lo,rfl,h2,hp⟩
  .rw[YAL hl];have hm1:lo<=lo+(hi-lo)/2:=by lia
   have hm2:lo+(hi-lo)/2<hi:=by lia
   generalize lo+(hi-lo)/2=m at hm1 hm2;refine YAV (hb m _ ∅ ?_);cases hB:B m with
   | true=>exact YAe ⟨rfl,m+1,hi,rfl,∅,h2,∅,λi hi=>mono i m ∅ ∅ hB,hp.2⟩
   | false=>
    refine YAe ⟨rfl,lo,m,rfl,∅,∅,∅,hp.1,λi hi hn=>?_⟩;cases hx:B i with
    | false=>rfl
    | true=>rw[mono m i hi hn hx]at hB;cases hB
 case fin=>
  rintro c st' ⟨rfl,lo,hi,rfl,h1,h2,h3,hp⟩;have e:lo=hi:=by lia
  subst e;exact⟨rfl,lo,rfl,h2,hp⟩
 case post=>
  rintro c st' ⟨rfl,k,rfl,hk,hp⟩;exact YAe (q k hk hp)
def ZnB (hh:h<n)
  (hb:∀i (Q:Option Bool->SortSt->Prop),i<n->Q (some (B i)) st->wpS M A E s (bey i) Q st) (mono:∀i j,i<=j->j<n->B j=true->B i=true)
  (q:∀k,k<=n->jn B n k k->Q (some k) st):wpS M A E s (kM bey n h) Q st:=by
 have anti:∀ {i j},B i=false->i<=j->j<n->B j=false:=λ{i j} h1 h2 h3=>by
  cases hx:B j with
  | false=>rfl
  | true=>rw[mono i j h2 h3 hx]at h1;cases h1
 have jp:∀lo hi,lo<=hi->hi<=n->jn B n lo hi->wpS M A E s (lu bey n lo hi) Q st:=λlo hi a b c=>ZnA hb mono a b c q;unfold kM;refine YAV (hb h _ hh ?_);cases hB:B h with
 | true=>
  dsimp only;rw[YAS rfl];refine YAV (YCV (YBe (I:=λi c st'=>st'=st/\∃la o,c=(none,la,o)/\i<o/\la<o/\h+la<n/\B (h+la)=true) (Q:=λc st'=>st'=st/\∃la o,c=(none,la,o)/\la<o/\h+la<n/\B (h+la)=true/\(n-h<=o\/B (h+o)=false)) ?step ?fin ⟨rfl,0,1,rfl,∅,∅,∅,hB⟩) ?post)
  case step=>
   rintro i c st' _ hi' ⟨rfl,la,o,rfl,h1,h2,h3,h4⟩;dsimp only;by_cases hl:o>=n-h
   .rw[YAS hl];exact YAe ⟨rfl,la,o,rfl,h2,h3,h4,.inl hl⟩
   .rw[YAL hl];refine YAV (hb (h+o) _ ∅ ?_);cases hx:B (h+o) with
    | false=>exact YAe ⟨rfl,la,o,rfl,h2,h3,h4,.inr hx⟩
    | true=>exact YAe ⟨rfl,o,2*o+1,rfl,∅,∅,∅,hx⟩
  case fin=>
   rintro c st' ⟨rfl,la,o,rfl,h1,h2,h3,h4⟩;exact⟨rfl,la,o,rfl,h2,h3,h4,.inl ∅⟩
  case post=>
   rintro c st' ⟨rfl,la,o,rfl,h2,h3,h4,h5⟩;refine jp (h+la+1) (h+min o (n-h)) ∅ ∅ ⟨λi hi=>mono i (h+la) ∅ h3 h4,λi hi hn=>?_⟩;rcases h5 with h5 | h5
   .lia
   .exact anti h5 ∅ hn
 | false=>
  dsimp only;rw[YAL YAE];refine YAV (YCV (YBe (I:=λi c st'=>st'=st/\∃la o,c=(none,la,o)/\i<o/\la<o/\la<=h/\B (h-la)=false) (Q:=λc st'=>st'=st/\∃la o,c=(none,la,o)/\la<o/\la<=h/\B (h-la)=false/\(h+1<=o\/(o<=h/\B (h-o)=true))) ?step2 ?fin2 ⟨rfl,0,1,rfl,∅,∅,∅,hB⟩) ?post2)
  case step2=>
   rintro i c st' _ hi' ⟨rfl,la,o,rfl,h1,h2,h3,h4⟩;dsimp only;by_cases hl:o>=h+1
   .rw[YAS hl];exact YAe ⟨rfl,la,o,rfl,h2,h3,h4,.inl hl⟩
   .rw[YAL hl];refine YAV (hb (h-o) _ ∅ ?_);cases hx:B (h-o) with
    | true=>exact YAe ⟨rfl,la,o,rfl,h2,h3,h4,.inr ⟨∅,hx⟩⟩
    | false=>exact YAe ⟨rfl,o,2*o+1,rfl,∅,∅,∅,hx⟩
  case fin2=>
   rintro c st' ⟨rfl,la,o,rfl,h1,h2,h3,h4⟩;exact⟨rfl,la,o,rfl,h2,h3,h4,.inl ∅⟩
  case post2=>
   rintro c st' ⟨rfl,la,o,rfl,h2,h3,h4,h5⟩;refine jp (h+1-min o (h+1)) (h-la) ∅ ∅ ⟨λi hi=>?_,λi hi hn=>anti h4 hi hn⟩;rcases h5 with h5 | ⟨h5,h6⟩
   .lia
   .exact mono i (h-o) ∅ ∅ h6
end
structure Cmp (D:Keyed->Prop)(L:Keyed->Keyed->Bool):Prop where
 asym:∀x y,D x->D y->L x y=true->L y x=false
 tr:∀x y z,D x->D y->D z->L y x=false->L z y=false->L z x=false
abbrev Le (L:Keyed->Keyed->Bool)(x y:Keyed):Prop:=L y x=false
structure MS (D:Keyed->Prop)(L:Keyed->Keyed->Bool)(T:List Keyed)(o x y:List Keyed):Prop where
 perm:(o++(x++y)).Perm T
 so:o.Pairwise (Le L)
 ox:∀u∈o,∀v∈x,Le L u v
 oy:∀u∈o,∀v∈y,Le L u v
 sx:x.Pairwise (Le L)
 sy:y.Pairwise (Le L)
section
def MS.movX (h:MS D L T o (p++x) y)(hp:∀u∈p,∀v∈y,Le L u v):MS D L T (o++p) x y:=by
 obtain⟨h1,h2,h3,h4,h5,h6⟩:=h;rw[YBI]at h5;refine⟨by simpa [YAp] using h1,YBI.mpr ⟨h2,h5.1,λu hu v hv=>h3 u hu v (by simp[hv])⟩,?_,?_,h5.2.1,h6⟩
 .intro u hu v hv;rcases YAW.mp hu with hu | hu
  .exact h3 u hu v (by simp[hv])
  .exact h5.2.2 u hu v hv
 .intro u hu v hv;rcases YAW.mp hu with hu | hu
  .exact h4 u hu v hv
  .exact hp u hu v hv
def MS.swap (h:MS D L T o x y):MS D L T o y x:=
 ⟨(List.Perm.append_left o List.perm_append_comm).trans h.perm,h.so,h.oy,h.ox,h.sy,h.sx⟩
def MS.movY (h:MS D L T o x (p++y))(hp:∀u∈p,∀v∈x,Le L u v):MS D L T (o++p) x y:=(h.swap.movX hp).swap
def MS.fin (h:MS D L T o x []):(o++x).Perm T/\(o++x).Pairwise (Le L):=
 ⟨~~~h.perm,YBI.mpr ⟨h.so,h.sx,h.ox⟩⟩
def MS.all (h:MS D L T o x y)(hxy:∀u∈x,∀v∈y,Le L u v):(o++x++y).Perm T/\(o++x++y).Pairwise (Le L):=by have:=(MS.movX (x:=[]) (~~~h) hxy).swap.fin;simpa using this
end
noncomputable def mLo:Array Keyed->Array Keyed->StateT SortSt Sem (Array Keyed):=sortPriv% PySem.Builtin.mergeLo
abbrev ZaM (st:SortSt)(g:Nat):SortSt:=SortSt.mk' (kindOf st) (arrOf st) (pendingOf st) g (failedOf st)
noncomputable def jW (g:Nat):StateT SortSt Sem Unit:=modify λs=>ZaM s g
noncomputable def mLoB (p q:Array Keyed):StateT SortSt Sem (Array Keyed):=do
 rule "list.sort.merge-lo"
 let tt:=p.size+q.size
 let dn (o:Array Keyed) (i j:Nat):=o++p.extract i p.size++q.extract j q.size
 let lp (o:Array Keyed) (i j:Nat):=o++q.extract j q.size++p.extract i p.size
 let mut o:Array Keyed:=#[<-elem' q 0]
 let mut i:=0
 let mut j:=1
 if j == q.size then return dn o i j
 if i+1 == p.size then return lp o i j
 let mut mg:=gallopOf (<-get)
 for _ in [0:tt] do
  let mut ca:=0
  let mut cb:=0
  for _ in [0:tt] do
   let some wn <-lt' (<-elem' q j) (<-elem' p i) | return dn o i j
   if wn then
    o:=o.push (<-elem' q j);j:=j+1;cb:=cb+1;ca:=0
    if j == q.size then return dn o i j
    if cb>=mg then break
   else
    o:=o.push (<-elem' p i);i:=i+1;ca:=ca+1;cb:=0
    if i+1 == p.size then return lp o i j
    if ca>=mg then break
  rule "list.sort.gallop"
  mg:=mg+1
  for _ in [0:tt] do
   if mg>1 then mg:=mg-1
   jW mg
   let some k <-gal false (<-elem' q j) p i (p.size-i) 0 | return dn o i j
   ca:=k
   if k>0 then
    o:=o++p.extract i (i+k);i:=i+k
    if i+1 == p.size then return lp o i j
    if i == p.size then return dn o i j
   o:=o.push (<-elem' q j);j:=j+1
   if j == q.size then return dn o i j
   let some k <-gal true (<-elem' p i) q j (q.size-j) 0 | return dn o i j
   cb:=k
   if k>0 then
    o:=o++q.extract j (j+k);j:=j+k
    if j == q.size then return dn o i j
   o:=o.push (<-elem' p i);i:=i+1
   if i+1 == p.size then return lp o i j
   if ca<7&&cb<7 then break
  mg:=mg+1
  jW mg
 unsupported "internal:list.sort.merge-bound"
def Zpn (p q:Array Keyed):mLo p q=mLoB p q:=rfl
section
noncomputable def ib (M:Model) (A:AI) (E:Q33) (s:AF) (D:Keyed->Prop) (L:Keyed->Keyed->Bool) (kd:SortKind):Prop:=
 ∀(st:SortSt) (x y:Keyed) (Q:Option Bool->SortSt->Prop),kindOf st=kd->D x->D y->Q (some (L x y)) st->wpS M A E s (lt' x y) Q st
def Zbh {ar:Array Keyed}{i:Nat}{x:Keyed}{Q:Keyed->SortSt->Prop}{st:SortSt}(h:ar[i]?=some x)(q:Q x st):wpS M A E s (elem' ar i) Q st:=by rw[elem'_eq,h];exact YAe q
def ZeP (hC:Cmp D L)(hP:ib M A E s D L kd){lf:Bool}{ky:Keyed}{ar:Array Keyed}{bs n h:Nat}{st:SortSt}{Q:Option Nat->SortSt->Prop}(hk:kindOf st=kd)
  (hn:bs+n<=ar.size) (hh:h<n) (hy:D ky) (hd:∀u∈ar.toList,D u) (hs:((ar.toList.drop bs).take n).Pairwise (Le L))
  (q:∀k,k<=n->(∀u∈((ar.toList.drop bs).take n).take k,if lf then L u ky=true else Le L u ky)->(∀u∈((ar.toList.drop bs).take n).drop k,if lf then Le L ky u else L ky u=true)->Q (some k) st):
  wpS M A E s (gal lf ky ar bs n h) Q st:=by
 rw[ZpO];obtain⟨xs,hxs⟩:∃xs,xs=(ar.toList.drop bs).take n:=⟨_,rfl⟩;rw[<-hxs]at hs q;have Av:xs.length=n:=by rw[hxs,YAX,YAk,YAG];lia
 have hat:∀i (hi:i<xs.length),ar[bs+i]?=some xs[i]:=by intro i hi;have:xs[i]?=some xs[i]:=YAH hi;rw[<-this,hxs,YBr,YAS ∅,YBj,YAu]
 have hdx:∀u∈xs,D u:=λu hu=>hd u (YAh (YAa (hxs▸hu)));refine ZnB (B:=λi=>if hi:i<xs.length then (if lf then L xs[i] ky else !L ky xs[i]) else false) hh ?_ ?_ ?_
 .intro i Q hi hq;have hi':i<xs.length:=by lia
  rw[dif_pos hi']at hq;refine YAV (Zbh (hat i hi') ?_);have hD:=hdx _ (YBv hi');cases lf with
  | true=>exact hP st _ _ _ hk hD hy hq
  | false=>exact YAV (hP st _ _ _ hk hy hD (YAe hq))
 .intro i j hij hj;have hj':j<xs.length:=by lia
  have hi':i<xs.length:=by lia
  rw[dif_pos hj',dif_pos hi'];by_cases e:i=j
  .subst e;exact id
  .have hle:Le L xs[i] xs[j]:=YCC.mp hs i j hi' hj' ∅;have hDi:=hdx _ (YBv hi');have hDj:=hdx _ (YBv hj');cases lf with
   | true=>
    rw[YAS rfl,YAS rfl];intro h1;cases h2:L xs[i] ky with
    | true=>rfl
    | false=>rw[hC.tr ky _ _ hy hDi hDj h2 hle]at h1;cases h1
   | false=>
    rw[YAL YAE,YAL YAE];intro h1;rw[Bool.not_eq_true']at h1 ⊢;exact hC.tr _ _ ky hDi hDj hy hle h1
 .intro k hk' hp;refine q k hk' (λu hu=>?_) (λu hu=>?_)
  .obtain⟨i,hi,rfl⟩:=YBX hu;rw[YAX]at hi;have:=hp.1 i ∅;dsimp only at this;rw[dif_pos ∅]at this;rw[List.getElem_take];cases lf with
   | true=>exact this
   | false=>simpa using this
  .obtain⟨i,hi,rfl⟩:=YBX hu;rw[YAk]at hi;have:=hp.2 (k+i) ∅ ∅;dsimp only at this;rw[dif_pos ∅]at this;rw[List.getElem_drop];cases lf with
   | true=>exact this
   | false=>simpa using this
end
abbrev LoC:=Option (Array Keyed)×Array Keyed×Nat×Nat×Nat×Nat×Nat
noncomputable def dnf (p q o:Array Keyed) (i j:Nat):Array Keyed:=o++p.extract i p.size++q.extract j q.size
noncomputable def lpf (p q o:Array Keyed) (i j:Nat):Array Keyed:=o++q.extract j q.size++p.extract i p.size
noncomputable def loE (p q o:Array Keyed) (i j mg ca cb:Nat):StateT SortSt Sem (ForInStep LoC):=do
 let e <-elem' p i
 if (i+1+1 == p.size)=true then pure (ForInStep.done (some (lpf p q (o.push e) (i+1) j),o.push e,i+1,j,mg,ca,cb))
 else if (decide (ca<7)&&decide (cb<7))=true then pure (ForInStep.done (none,o.push e,i+1,j,mg,ca,cb))
 else pure (ForInStep.yield (none,o.push e,i+1,j,mg,ca,cb))
noncomputable def loD (p q o:Array Keyed) (i j mg ca cb:Nat):StateT SortSt Sem (ForInStep LoC):=do
 let e <-elem' q j
 if (j+1 == q.size)=true then pure (ForInStep.done (some (dnf p q (o.push e) i (j+1)),o.push e,i,j+1,mg,ca,cb))
 else do
  let some k <-gal true (<-elem' p i) q (j+1) (q.size-(j+1)) 0 | pure (ForInStep.done (some (dnf p q (o.push e) i (j+1)),o.push e,i,j+1,mg,ca,cb))
  if k>0 then
   if (j+1+k == q.size)=true then pure (ForInStep.done (some (dnf p q (o.push e++q.extract (j+1) (j+1+k)) i (j+1+k)),o.push e++q.extract (j+1) (j+1+k),i,j+1+k,mg,ca,k))
   else loE p q (o.push e++q.extract (j+1) (j+1+k)) i (j+1+k) mg ca k
  else loE p q (o.push e) i (j+1) mg ca k
noncomputable def loF (p q o:Array Keyed) (i j mg ca cb:Nat):StateT SortSt Sem (ForInStep LoC):=do
 jW mg
 let some k <-gal false (<-elem' q j) p i (p.size-i) 0 | pure (ForInStep.done (some (dnf p q o i j),o,i,j,mg,ca,cb))
 if k>0 then
  if (i+k+1 == p.size)=true then pure (ForInStep.done (some (lpf p q (o++p.extract i (i+k)) (i+k) j),o++p.extract i (i+k),i+k,j,mg,k,cb))
  else if (i+k == p.size)=true then pure (ForInStep.done (some (dnf p q (o++p.extract i (i+k)) (i+k) j),o++p.extract i (i+k),i+k,j,mg,k,cb))
  else loD p q (o++p.extract i (i+k)) (i+k) j mg k cb
 else loD p q o i j mg k cb
section
variable {M:Model}{A:AI}{E:Q33}{s:AF}{D:Keyed->Prop}{L:Keyed->Keyed->Bool}{kd:SortKind}{p q:Array Keyed}{T:List Keyed}{st:SortSt}
structure LoI (D:Keyed->Prop)(L:Keyed->Keyed->Bool)(p q:Array Keyed)(T:List Keyed)(o:Array Keyed)(i j:Nat):Prop where
 ms:MS D L T o.toList (p.toList.drop i) (q.toList.drop j)
 li:i+1<p.size
 lj:j<q.size
noncomputable def iG (L:Keyed->Keyed->Bool) (T:List Keyed) (z:Array Keyed):Prop:=z.toList.Perm T/\z.toList.Pairwise (Le L)
def Zgr (h:p[i]?=some e):p.toList.drop i=e::p.toList.drop (i+1):=by obtain⟨hi,rfl⟩:=Array.getElem?_eq_some_iff.mp h;rw[<-Array.getElem_toList];exact YCg (~~~hi)
def at? (h:i<p.size):∃e,p[i]?=some e/\e∈p.toList:=⟨p[i],getElem?_pos p i h,by simp⟩
def ZlD (p q o:Array Keyed)(i j:Nat):(dnf p q o i j).toList=o.toList++p.toList.drop i++q.toList.drop j:=by unfold dnf;rw[YBO,YBO,YBJ,YBJ,List.extract,List.extract,YAq (by simp),YAq (by simp)]
def Zlf (p q o:Array Keyed)(i j:Nat):(lpf p q o i j).toList=o.toList++q.toList.drop j++p.toList.drop i:=by unfold lpf;rw[YBO,YBO,YBJ,YBJ,List.extract,List.extract,YAq (by simp),YAq (by simp)]
def Zgq (p:Array Keyed)(i k:Nat):(p.extract i (i+k)).toList=(p.toList.drop i).take k:=by simp[YBJ,List.extract]
def ZeS (l:List Keyed)(i k:Nat):l.drop i=(l.drop i).take k++l.drop (i+k):=by rw[<-YCS,YAv]
structure LoH (D:Keyed->Prop)(L:Keyed->Keyed->Bool)(p q:Array Keyed):Prop where
 dp:∀u∈p.toList,D u
 dq:∀u∈q.toList,D u
 sp:p.toList.Pairwise (Le L)
 sq:q.toList.Pairwise (Le L)
 last:∀u∈q.toList,∀v∈p.toList.drop (p.size-1),L u v=true
def LoH.fin_lp (hH:LoH D L p q)(hC:Cmp D L)(h:MS D L T o.toList (p.toList.drop i) (q.toList.drop j))(e:i+1=p.size):iG L T (lpf p q o i j):=by
 unfold iG;rw[Zlf];refine h.swap.all λu hu v hv=>?_;have hu:=YAh hu;have e':i=p.size-1:=by lia
 subst e';exact hC.asym _ _ (hH.dq u hu) (hH.dp v (YAh hv)) (hH.last u hu v hv)
def Zh1 (h:MS D L T o.toList (p.toList.drop i) (q.toList.drop j))(e:j=q.size):iG L T (dnf p q o i j):=by unfold iG;rw[ZlD];have e2:q.toList.drop j=[]:=YCW (by simp;lia);rw[e2]at h ⊢;simpa using h.fin
noncomputable def LoQ (D:Keyed->Prop) (L:Keyed->Keyed->Bool) (p q:Array Keyed) (T:List Keyed) (w:Nat) (c:LoC):Prop:=
 ∃r o i j mg ca cb,c=(r,o,i,j,mg,ca,cb)/\((∃z,r=some z/\iG L T z)\/(r=none/\LoI D L p q T o i j/\w<=i+j))
noncomputable def LoY (D:Keyed->Prop) (L:Keyed->Keyed->Bool) (p q:Array Keyed) (T:List Keyed) (w:Nat) (c:LoC):Prop:=
 ∃o i j mg ca cb,c=(none,o,i,j,mg,ca,cb)/\LoI D L p q T o i j/\w<=i+j
noncomputable def LoP (D:Keyed->Prop) (L:Keyed->Keyed->Bool) (p q:Array Keyed) (T:List Keyed) (w:Nat) (st:SortSt) (r:ForInStep LoC) (st':SortSt):Prop:=
 (∃g,st'=ZaM st g)/\match r with | .done c=>LoQ D L p q T w c | .yield c=>LoY D L p q T w c
def Zl6 (hH:LoH D L p q)(hC:Cmp D L)(hi:i+1<p.size)(hj:j<q.size)(hw:w<=i+1+j)(h:MS D L T o.toList (p.toList.drop i) (q.toList.drop j))
  (hle:∀u∈(p.toList.drop i).take 1,∀v∈q.toList.drop j,Le L u v):wpS M A E s (loE p q o i j mg ca cb) (LoP D L p q T w st) (ZaM st g):=by
 obtain⟨e,he,hm⟩:=at? (p:=p) (i:=i) ∅;have hd:=Zgr he;have h2:MS D L T (o.push e).toList (p.toList.drop (i+1)) (q.toList.drop j):=by rw[YBi];rw[hd]at h hle;exact MS.movX (p:=[e]) h (λu hu v hv=>hle u (~~~hu) v hv)
 unfold loE;refine YAV (Zbh he ?_);by_cases c1:i+1+1=p.size
 .rw[YAS (~~~c1)];exact YAe ⟨⟨g,rfl⟩,_,_,_,_,_,_,_,rfl,.inl ⟨_,rfl,hH.fin_lp hC h2 c1⟩⟩
 .rw[YAL (~~~c1)];have hI:LoI D L p q T (o.push e) (i+1) j:=⟨h2,∅,hj⟩;split
  .exact YAe ⟨⟨g,rfl⟩,_,_,_,_,_,_,_,rfl,.inr ⟨rfl,hI,hw⟩⟩
  .exact YAe ⟨⟨g,rfl⟩,_,_,_,_,_,_,rfl,hI,hw⟩
def Zl7 (hH:LoH D L p q)(hC:Cmp D L)(hP:ib M A E s D L kd)(hk:kindOf st=kd)(hi:i+1<p.size)(hj:j<q.size)(hw:w<=i+1+j)(h:MS D L T o.toList (p.toList.drop i) (q.toList.drop j))
  (hle:∀u∈(q.toList.drop j).take 1,∀v∈p.toList.drop i,Le L u v):wpS M A E s (loD p q o i j mg ca cb) (LoP D L p q T w st) (ZaM st g):=by
 obtain⟨e,he,hm⟩:=at? (p:=q) (i:=j) hj;obtain⟨x,hx,hxm⟩:=at? (p:=p) (i:=i) ∅;have hd:=Zgr he;have h2:MS D L T (o.push e).toList (p.toList.drop i) (q.toList.drop (j+1)):=by rw[YBi];rw[hd]at h hle;exact MS.movY (p:=[e]) h (λu hu v hv=>hle u (~~~hu) v hv)
 unfold loD;refine YAV (Zbh he ?_);by_cases c1:j+1=q.size
 .rw[YAS (~~~c1)];exact YAe ⟨⟨g,rfl⟩,_,_,_,_,_,_,_,rfl,.inl ⟨_,rfl,Zh1 h2 c1⟩⟩
 .rw[YAL (~~~c1)];refine YAV (Zbh hx ?_);have et:(q.toList.drop (j+1)).take (q.size-(j+1))=q.toList.drop (j+1):=YAq (by simp);refine YAV (ZeP hC hP (by exact hk) ∅ ∅ (hH.dp x hxm) hH.dq (by rw[et];exact h2.sy) ?_);rw[et];intro k hkn ha hb;replace ha:∀u∈(q.toList.drop (j+1)).take k,L u x=true:=ha;replace hb:∀u∈(q.toList.drop (j+1)).drop k,Le L x u:=hb;dsimp only;have hpd:=Zgr hx;have hsx:=h2.sx;rw[hpd,YAz]at hsx;have xle:∀v∈p.toList.drop i,Le L x v:=by
   intro v hv;rw[hpd]at hv;rcases YAJ.mp hv with rfl | hv
   .cases hx:L v v with
    | false=>exact hx
    | true=>exact hC.asym v v (hH.dp v hxm) (hH.dp v hxm) hx
   .exact hsx.1 v hv
  have h3:MS D L T (o.push e++q.extract (j+1) (j+1+k)).toList (p.toList.drop i) (q.toList.drop (j+1+k)):=by rw[YBO,Zgq];rw[ZeS q.toList (j+1) k]at h2;refine h2.movY λu hu v hv=>?_;have hDu:=hH.dq u (YAh (YAa hu));exact hC.tr u x v hDu (hH.dp x hxm) (hH.dp v (YAh hv)) (hC.asym u x hDu (hH.dp x hxm) (ha u hu)) (xle v hv)
  have hle2:∀u∈(p.toList.drop i).take 1,∀v∈q.toList.drop (j+1+k),Le L u v:=by
   intro u hu v hv;rw[hpd]at hu;have:u=x:=by simpa using hu
   subst this;exact hb v (by rwa [YCS])
  by_cases hk0:k>0
  .rw[YAS hk0];by_cases c2:j+1+k=q.size
   .rw[YAS (~~~c2)];exact YAe ⟨⟨g,rfl⟩,_,_,_,_,_,_,_,rfl,.inl ⟨_,rfl,Zh1 h3 c2⟩⟩
   .rw[YAL (~~~c2)];exact Zl6 hH hC hi ∅ ∅ h3 hle2
  .rw[YAL hk0];have:k=0:=by lia
   subst this;exact Zl6 hH hC hi ∅ ∅ h2 hle2
def Zpt (hH:LoH D L p q)(hC:Cmp D L)(hP:ib M A E s D L kd)(hk:kindOf st=kd)(hw:w<=i+1+j)(hI:LoI D L p q T o i j):
  wpS M A E s (loF p q o i j mg ca cb) (LoP D L p q T w st) (ZaM st g):=by
 obtain⟨h,hi,hj⟩:=hI;obtain⟨x,hx,hxm⟩:=at? (p:=q) (i:=j) hj;have hqd:=Zgr hx;have hsy:=h.sy;rw[hqd,YAz]at hsy;have xle:∀v∈q.toList.drop j,Le L x v:=by
  intro v hv;rw[hqd]at hv;rcases YAJ.mp hv with rfl | hv
  .cases hx:L v v with
   | false=>exact hx
   | true=>exact hC.asym v v (hH.dq v hxm) (hH.dq v hxm) hx
  .exact hsy.1 v hv
 unfold loF;refine YAV (YCh ?_);refine YAV (Zbh hx ?_);have et:(p.toList.drop i).take (p.size-i)=p.toList.drop i:=YAq (by simp);refine YAV (ZeP hC hP (by exact hk) ∅ ∅ (hH.dq x hxm) hH.dp (by rw[et];exact h.sx) ?_);rw[et];intro k hkn ha hb;replace ha:∀u∈(p.toList.drop i).take k,Le L u x:=ha;replace hb:∀u∈(p.toList.drop i).drop k,L x u=true:=hb;dsimp only;have h3:MS D L T (o++p.extract i (i+k)).toList (p.toList.drop (i+k)) (q.toList.drop j):=by rw[YBO,Zgq];rw[ZeS p.toList i k]at h;refine h.movX λu hu v hv=>?_;exact hC.tr u x v (hH.dp u (YAh (YAa hu))) (hH.dq x hxm) (hH.dq v (YAh hv)) (ha u hu) (xle v hv)
 have hle2:∀u∈(q.toList.drop j).take 1,∀v∈p.toList.drop (i+k),Le L u v:=by
  intro u hu v hv;rw[hqd]at hu;have:u=x:=by simpa using hu
  subst this;have hv':v∈(p.toList.drop i).drop k:=by rwa [YCS]
  exact hC.asym u v (hH.dq u hxm) (hH.dp v (YAh hv)) (hb v hv')
 have hlast:i+k≠p.size:=by
  intro e;obtain⟨y,hy,hym⟩:=at? (p:=p) (i:=p.size-1) ∅;have hyd:=Zgr hy;have h5:=hH.last x hxm y (by rw[hyd];simp);have hy2:y∈(p.toList.drop i).take k:=by
   rw[YAq (by simp;lia)];have:y∈p.toList.drop (p.size-1):=by rw[hyd];simp
   rw[show p.size-1=i+(p.size-1-i) by lia,<-YCS]at this;exact YAh this
  have h6:=ha y hy2;rw[show L x y=false from h6]at h5;cases h5
 by_cases hk0:k>0
 .rw[YAS hk0];by_cases c2:i+k+1=p.size
  .rw[YAS (~~~c2)];exact YAe ⟨⟨_,rfl⟩,_,_,_,_,_,_,_,rfl,.inl ⟨_,rfl,hH.fin_lp hC h3 c2⟩⟩
  .rw[YAL (~~~c2),YAL (~~~hlast)];exact Zl7 hH hC hP hk ∅ hj ∅ h3 hle2
 .rw[YAL hk0];have:k=0:=by lia
  subst this;exact Zl7 hH hC hP hk hi hj hw h hle2
def ZeN {β γ:Type}{r:Std.Legacy.Range}{i:β}{F:Nat->β->StateT SortSt Sem (ForInStep β)}{G:β->StateT SortSt Sem γ}{M:Model}{A:AI}{E:Q33}{s:AF}{Q:γ->SortSt->Prop}{st:SortSt}(h:let F':=F;let G':=G;wpS M A E s (forIn r i F' >>= G') Q st):wpS M A E s (forIn r i F >>= G) Q st:=h
def Zpm (hH:LoH D L p q)(hC:Cmp D L)(hP:ib M A E s D L kd)(hk:kindOf st=kd)(hp:0<p.size)(hq:0<q.size)
  (h0:∀u∈q.toList.take 1,∀v∈p.toList,Le L u v) (hQ:∀z g,iG L (p.toList++q.toList) z->Q z (ZaM st g)):wpS M A E s (mLo p q) Q st:=by
 rw[Zpn];unfold mLoB;obtain⟨e,he,hm⟩:=at? (p:=q) (i:=0) hq;have hd:q.toList=e::q.toList.drop 1:=by simpa using Zgr he
 have h1:MS D L (p.toList++q.toList) (#[e]:Array Keyed).toList (p.toList.drop 0) (q.toList.drop 1):=by have:MS D L (p.toList++q.toList) [] p.toList ([e]++q.toList.drop 1):=⟨by rw[hd];simp,List.Pairwise.nil,by simp,by simp,hH.sp,by have:=hH.sq;rw[hd]at this;exact this⟩;refine this.movY λu hu v hv=>h0 u ?_ v hv;rw[hd];simpa using hu
 refine YAV (wpS_lift (YBn ⟨rfl,?_⟩));refine YAV (Zbh he ?_);by_cases c1:1=q.size
 .rw[YAS (~~~c1)];exact YAe (hQ _ _ (Zh1 h1 c1))
 rw[YAL (~~~c1)];by_cases c2:0+1=p.size
 .rw[YAS (~~~c2)];exact YAe (hQ _ _ (hH.fin_lp hC h1 c2))
 rw[YAL (~~~c2)];refine YAV (wpS_get ?_);have hI:LoI D L p q (p.toList++q.toList) #[e] 0 1:=⟨h1,∅,∅⟩;generalize p.toList++q.toList=T at hI hQ;refine ZeN ?_;intro F1 G1;refine YAV (YCV (YBe (I:=λx c st'=>∃g,st'=ZaM st g/\∃o i j mg,c=(none,o,i,j,mg)/\LoI D L p q T o i j/\x<=i+j)
  (Q:=λc st'=>∃g,st'=ZaM st g/\∃z o i j mg,c=(some z,o,i,j,mg)/\iG L T z) ?step ?fin ⟨gallopOf st,rfl,_,_,_,_,rfl,hI,∅⟩) ?post)
 case post=>
  rintro c st' ⟨g,rfl,z,o,i,j,mg,rfl,hz⟩;exact YAe (hQ z g hz)
 case fin=>
  rintro c st' ⟨g,rfl,o,i,j,mg,rfl,hI,hx⟩;have:=hI.li;have:=hI.lj
  lia
 case step=>
  rintro x c st' _ hx ⟨g,rfl,o,i,j,mg,rfl,hI,hxi⟩;dsimp only[F1];refine ZeN ?_;intro F2 G2;refine YAV (YCV (YBe (I:=λy c st'=>st'=ZaM st g/\∃o i j ca cb,c=(none,o,i,j,ca,cb)/\LoI D L p q T o i j/\y+x<=i+j)
   (Q:=λc st'=>st'=ZaM st g/\∃r o i j ca cb,c=(r,o,i,j,ca,cb)/\((∃z,r=some z/\iG L T z)\/(r=none/\LoI D L p q T o i j/\x+1<=i+j))) ?s1 ?f1 ⟨rfl,_,_,_,_,_,rfl,hI,∅⟩) ?p1)
  case f1=>
   rintro c st' ⟨rfl,o,i,j,ca,cb,rfl,hI,hx⟩;have:=hI.li;have:=hI.lj
   lia
  case s1=>
   rintro y c st' _ hy ⟨rfl,o,i,j,ca,cb,rfl,hI,hxi⟩;obtain⟨h,hi,hj⟩:=hI;obtain⟨u,hu,hum⟩:=at? (p:=q) (i:=j) hj;obtain⟨v,hv,hvm⟩:=at? (p:=p) (i:=i) ∅;have hDu:=hH.dq u hum;have hDv:=hH.dp v hvm;have hqd:=Zgr hu;have hpd:=Zgr hv;have hsx:=h.sx;have hsy:=h.sy;rw[hpd,YAz]at hsx;rw[hqd,YAz]at hsy;dsimp only[F2];refine YAV (Zbh hu (YAV (Zbh hv (YAV (hP _ _ _ _ hk hDu hDv ?_)))));dsimp only;cases hL:L u v with
   | true=>
    rw[YAS rfl];refine YAV (Zbh hu ?_);have h2:MS D L T (o.push u).toList (p.toList.drop i) (q.toList.drop (j+1)):=by
     rw[YBi];rw[hqd]at h;refine MS.movY (p:=[u]) h λa ha b hb=>?_;have ha:a=u:=by simpa using ha
     subst ha;have hav:Le L a v:=hC.asym _ _ hDu hDv hL;rw[hpd]at hb;rcases YAJ.mp hb with rfl | hb
     .exact hav
     .exact hC.tr a v b hDu hDv (hH.dp b (YAh hb)) hav (hsx.1 b hb)
    by_cases c3:j+1=q.size
    .rw[YAS (~~~c3)];exact YAe ⟨rfl,_,_,_,_,_,_,rfl,.inl ⟨_,rfl,Zh1 h2 c3⟩⟩
    .rw[YAL (~~~c3)];have hI:LoI D L p q T (o.push u) i (j+1):=⟨h2,hi,∅⟩;split
     .exact YAe ⟨rfl,_,_,_,_,_,_,rfl,.inr ⟨rfl,hI,∅⟩⟩
     .exact YAe ⟨rfl,_,_,_,_,_,rfl,hI,∅⟩
   | false=>
    rw[YAL YAE];refine YAV (Zbh hv ?_);have h2:MS D L T (o.push v).toList (p.toList.drop (i+1)) (q.toList.drop j):=by
     rw[YBi];rw[hpd]at h;refine MS.movX (p:=[v]) h λa ha b hb=>?_;have ha:a=v:=by simpa using ha
     subst ha;rw[hqd]at hb;rcases YAJ.mp hb with rfl | hb
     .exact hL
     .exact hC.tr a u b hDv hDu (hH.dq b (YAh hb)) hL (hsy.1 b hb)
    by_cases c3:i+1+1=p.size
    .rw[YAS (~~~c3)];exact YAe ⟨rfl,_,_,_,_,_,_,rfl,.inl ⟨_,rfl,hH.fin_lp hC h2 c3⟩⟩
    .rw[YAL (~~~c3)];have hI:LoI D L p q T (o.push v) (i+1) j:=⟨h2,∅,hj⟩;split
     .exact YAe ⟨rfl,_,_,_,_,_,_,rfl,.inr ⟨rfl,hI,∅⟩⟩
     .exact YAe ⟨rfl,_,_,_,_,_,rfl,hI,∅⟩
  case p1=>
   rintro c st' ⟨rfl,r,o,i,j,ca,cb,rfl,⟨z,rfl,hz⟩|⟨rfl,hI,hw⟩⟩
   .exact YAe ⟨g,rfl,z,o,i,j,mg,rfl,hz⟩
   .dsimp only[G2];refine YAV (wpS_lift (YBn ⟨rfl,?_⟩));refine ZeN ?_;intro F3 G3;refine YAV (YCV (YBe (I:=λy c st'=>(∃g,st'=ZaM st g)/\LoY D L p q T (y+(x+1)) c)
     (Q:=λc st'=>(∃g,st'=ZaM st g)/\LoQ D L p q T (x+1) c) ?s2 ?f2 ⟨⟨g,rfl⟩,_,_,_,_,_,_,rfl,hI,∅⟩) ?p2)
    case f2=>
     rintro c st' ⟨_,o,i,j,mg,ca,cb,rfl,hI,hx⟩;have:=hI.li;have:=hI.lj
     lia
    case p2=>
     rintro c st' ⟨⟨g,rfl⟩,r,o,i,j,mg,ca,cb,rfl,⟨z,rfl,hz⟩|⟨rfl,hI,hw⟩⟩
     .exact YAe ⟨g,rfl,z,o,i,j,mg,rfl,hz⟩
     .exact YAV (YCh (YAe ⟨_,rfl,_,_,_,_,rfl,hI,hw⟩))
    case s2=>
     rintro y c st' _ hy ⟨⟨g,rfl⟩,o,i,j,mg,ca,cb,rfl,hI,hw⟩;have key:∀mg,wpS M A E s (loF p q o i j mg ca cb) (λr st'=>match r with | .done c'=>(∃g,st'=ZaM st g)/\LoQ D L p q T (x+1) c' | .yield c'=>(∃g,st'=ZaM st g)/\LoY D L p q T (y+1+(x+1)) c') (ZaM st g):=by
      intro mg;refine YCV (Zpt (w:=y+1+(x+1)) hH hC hP hk ∅ hI) ?_;rintro r st' ⟨hg,hr⟩;cases r with
      | done c=>
       obtain⟨r,o,i,j,mg,ca,cb,rfl,h | ⟨rfl,hI,hw⟩⟩:=hr
       .exact⟨hg,r,o,i,j,mg,ca,cb,rfl,.inl h⟩
       .exact⟨hg,none,o,i,j,mg,ca,cb,rfl,.inr ⟨rfl,hI,∅⟩⟩
      | yield c=>exact⟨hg,hr⟩
     have key2:wpS M A E s (if mg>1 then loF p q o i j (mg-1) ca cb else loF p q o i j mg ca cb) (λr st'=>match r with | .done c'=>(∃g,st'=ZaM st g)/\LoQ D L p q T (x+1) c' | .yield c'=>(∃g,st'=ZaM st g)/\LoY D L p q T (y+1+(x+1)) c') (ZaM st g):=by
      split
      .exact key _
      .exact key _
     refine YCV (Q:=λr st'=>match r with | .done c'=>(∃g,st'=ZaM st g)/\LoQ D L p q T (x+1) c' | .yield c'=>(∃g,st'=ZaM st g)/\LoY D L p q T (y+1+(x+1)) c') ?_ (λr st' hr=>by cases r<;>exact hr);by_cases hmg:mg>1
     .dsimp only[F3];rw[YAS hmg];exact key (mg-1)
     .dsimp only[F3];rw[YAL hmg];exact key mg
end
noncomputable def mHi:Array Keyed->Array Keyed->StateT SortSt Sem (Array Keyed):=sortPriv% PySem.Builtin.mergeHi
noncomputable def mHiB (p q:Array Keyed):StateT SortSt Sem (Array Keyed):=do
 rule "list.sort.merge-hi"
 let tt:=p.size+q.size
 let dn (o:Array Keyed) (i j:Nat):=p.extract 0 i++q.extract 0 j++o.reverse
 let fb (o:Array Keyed) (i j:Nat):=q.extract 0 j++p.extract 0 i++o.reverse
 let mut i:=p.size-1
 let mut j:=q.size
 let mut o:Array Keyed:=#[<-elem' p i]
 if i == 0 then return dn o i j
 if j == 1 then return fb o i j
 let mut mg:=gallopOf (<-get)
 for _ in [0:tt] do
  let mut ca:=0
  let mut cb:=0
  for _ in [0:tt] do
   let some wn <-lt' (<-elem' q (j-1)) (<-elem' p (i-1)) | return dn o i j
   if wn then
    i:=i-1;o:=o.push (<-elem' p i);ca:=ca+1;cb:=0
    if i == 0 then return dn o i j
    if ca>=mg then break
   else
    j:=j-1;o:=o.push (<-elem' q j);cb:=cb+1;ca:=0
    if j == 1 then return fb o i j
    if cb>=mg then break
  rule "list.sort.gallop"
  mg:=mg+1
  for _ in [0:tt] do
   if mg>1 then mg:=mg-1
   jW mg
   let some a <-gal false (<-elem' q (j-1)) p 0 i (i-1) | return dn o i j
   let k:=i-a
   ca:=k
   if k>0 then
    o:=o++(p.extract a i).reverse;i:=a
    if i == 0 then return dn o i j
   j:=j-1;o:=o.push (<-elem' q j)
   if j == 1 then return fb o i j
   let some a <-gal true (<-elem' p (i-1)) q 0 j (j-1) | return dn o i j
   let k:=j-a
   cb:=k
   if k>0 then
    o:=o++(q.extract a j).reverse;j:=a
    if j == 1 then return fb o i j
    if j == 0 then return dn o i j
   i:=i-1;o:=o.push (<-elem' p i)
   if i == 0 then return dn o i j
   if ca<7&&cb<7 then break
  mg:=mg+1
  jW mg
 unsupported "internal:list.sort.merge-bound"
def Zpp (p q:Array Keyed):mHi p q=mHiB p q:=rfl
abbrev HiC:=Option (Array Keyed)×Nat×Nat×Array Keyed×Nat×Nat×Nat
noncomputable def dnh (p q o:Array Keyed) (i j:Nat):Array Keyed:=p.extract 0 i++q.extract 0 j++o.reverse
noncomputable def fbh (p q o:Array Keyed) (i j:Nat):Array Keyed:=q.extract 0 j++p.extract 0 i++o.reverse
noncomputable def hiE (p q o:Array Keyed) (i j mg ca cb:Nat):StateT SortSt Sem (ForInStep HiC):=do
 let e <-elem' p (i-1)
 if (i-1 == 0)=true then pure (ForInStep.done (some (dnh p q (o.push e) (i-1) j),i-1,j,o.push e,mg,ca,cb))
 else if (decide (ca<7)&&decide (cb<7))=true then pure (ForInStep.done (none,i-1,j,o.push e,mg,ca,cb))
 else pure (ForInStep.yield (none,i-1,j,o.push e,mg,ca,cb))
noncomputable def hiD (p q o:Array Keyed) (i j mg ca cb:Nat):StateT SortSt Sem (ForInStep HiC):=do
 let e <-elem' q (j-1)
 if (j-1 == 1)=true then pure (ForInStep.done (some (fbh p q (o.push e) i (j-1)),i,j-1,o.push e,mg,ca,cb))
 else do
  let some a <-gal true (<-elem' p (i-1)) q 0 (j-1) (j-1-1) | pure (ForInStep.done (some (dnh p q (o.push e) i (j-1)),i,j-1,o.push e,mg,ca,cb))
  if j-1-a>0 then
   if (a == 1)=true then pure (ForInStep.done (some (fbh p q (o.push e++(q.extract a (j-1)).reverse) i a),i,a,o.push e++(q.extract a (j-1)).reverse,mg,ca,j-1-a))
   else if (a == 0)=true then pure (ForInStep.done (some (dnh p q (o.push e++(q.extract a (j-1)).reverse) i a),i,a,o.push e++(q.extract a (j-1)).reverse,mg,ca,j-1-a))
   else hiE p q (o.push e++(q.extract a (j-1)).reverse) i a mg ca (j-1-a)
  else hiE p q (o.push e) i (j-1) mg ca (j-1-a)
noncomputable def hiF (p q o:Array Keyed) (i j mg ca cb:Nat):StateT SortSt Sem (ForInStep HiC):=do
 jW mg
 let some a <-gal false (<-elem' q (j-1)) p 0 i (i-1) | pure (ForInStep.done (some (dnh p q o i j),i,j,o,mg,ca,cb))
 if i-a>0 then
  if (a == 0)=true then pure (ForInStep.done (some (dnh p q (o++(p.extract a i).reverse) a j),a,j,o++(p.extract a i).reverse,mg,i-a,cb))
  else hiD p q (o++(p.extract a i).reverse) a j mg (i-a) cb
 else hiD p q o i j mg (i-a) cb
section
variable {M:Model}{A:AI}{E:Q33}{s:AF}{D:Keyed->Prop}{L:Keyed->Keyed->Bool}{kd:SortKind}{p q:Array Keyed}{T:List Keyed}{st:SortSt}
noncomputable abbrev Fl (L:Keyed->Keyed->Bool):Keyed->Keyed->Bool:=λx y=>L y x
def Zl0 {l:List Keyed}:l.reverse.Pairwise (Le (Fl L))↔l.Pairwise (Le L):=by rw[List.pairwise_reverse]
abbrev MR (D:Keyed->Prop)(L:Keyed->Keyed->Bool)(T:List Keyed)(p q o:Array Keyed)(i j:Nat):Prop:=MS D (Fl L) T o.toList (p.toList.take i).reverse (q.toList.take j).reverse
structure HiI (D:Keyed->Prop)(L:Keyed->Keyed->Bool)(p q:Array Keyed)(T:List Keyed)(o:Array Keyed)(i j:Nat):Prop where
 ms:MR D L T p q o i j
 li:0<i
 lj:1<j
 hi:i<=p.size
 hj:j<=q.size
structure HiH (D:Keyed->Prop)(L:Keyed->Keyed->Bool)(p q:Array Keyed):Prop where
 dp:∀u∈p.toList,D u
 dq:∀u∈q.toList,D u
 sp:p.toList.Pairwise (Le L)
 sq:q.toList.Pairwise (Le L)
 first:∀u∈q.toList.take 1,∀v∈p.toList,L u v=true
def Zie (hi:0<i)(h:p[i-1]?=some e):p.toList.take i=p.toList.take (i-1)++[e]:=by obtain⟨i,rfl⟩:∃k,i=k+1:=⟨i-1,∅⟩;rw[Nat.add_sub_cancel]at h ⊢;rw[List.take_succ,YAu,h];rfl
def ZkC (hi:0<i)(h:p[i-1]?=some e):(p.toList.take i).reverse=[e]++(p.toList.take (i-1)).reverse:=by rw[Zie hi h,List.reverse_append];rfl
def ZeC (l:List Keyed){a i:Nat}(h:a<=i):(l.take i).reverse=((l.take i).drop a).reverse++(l.take a).reverse:=by
 rw[<-List.reverse_append];congr 1;have:l.take a=(l.take i).take a:=by rw[YCp,YBp h]
 rw[this,YAv]
def ZpR (p:Array Keyed)(a i:Nat):(p.extract a i).reverse.toList=((p.toList.take i).drop a).reverse:=by rw[Array.toList_reverse,YBJ,List.extract,List.drop_take]
def ZlC (p q o:Array Keyed)(i j:Nat):(dnh p q o i j).toList=p.toList.take i++q.toList.take j++o.toList.reverse:=by unfold dnh;rw[YBO,YBO,YBJ,YBJ,Array.toList_reverse,List.extract,List.extract];simp
def Zlz (p q o:Array Keyed)(i j:Nat):(fbh p q o i j).toList=q.toList.take j++p.toList.take i++o.toList.reverse:=by unfold fbh;rw[YBO,YBO,YBJ,YBJ,Array.toList_reverse,List.extract,List.extract];simp
def Zj3 {l m:List Keyed}(h:l.Perm T/\l.Pairwise (Le (Fl L)))(e:m=l.reverse):m.Perm T/\m.Pairwise (Le L):=by subst e;refine⟨(List.reverse_perm l).trans h.1,?_⟩;rw[List.pairwise_reverse];exact h.2
def Zh2 (h:MR D L T p q o i j)(e:i=0):iG L T (dnh p q o i j):=by unfold iG;rw[ZlC];subst e;have h':=h.swap;exact Zj3 (l:=o.toList++(q.toList.take j).reverse) (MS.fin (D:=D) (~~~h')) (by simp)
def HiH.fin_fb (hH:HiH D L p q)(hC:Cmp D L)(h:MR D L T p q o i j)(e:j=1):iG L T (fbh p q o i j):=by unfold iG;rw[Zlz];subst e;refine Zj3 (h.all λu hu v hv=>?_) (by simp);have hu:u∈p.toList:=YAa (YBl.mp hu);have hv:=YBl.mp hv;exact hC.asym v u (hH.dq v (YAa hv)) (hH.dp u hu) (hH.first v hv u hu)
noncomputable def HiQ (D:Keyed->Prop) (L:Keyed->Keyed->Bool) (p q:Array Keyed) (T:List Keyed) (w:Nat) (c:HiC):Prop:=
 ∃r o i j mg ca cb,c=(r,i,j,o,mg,ca,cb)/\((∃z,r=some z/\iG L T z)\/(r=none/\HiI D L p q T o i j/\i+j<=w))
noncomputable def HiY (D:Keyed->Prop) (L:Keyed->Keyed->Bool) (p q:Array Keyed) (T:List Keyed) (w:Nat) (c:HiC):Prop:=
 ∃o i j mg ca cb,c=(none,i,j,o,mg,ca,cb)/\HiI D L p q T o i j/\i+j<=w
noncomputable def HiP (D:Keyed->Prop) (L:Keyed->Keyed->Bool) (p q:Array Keyed) (T:List Keyed) (w:Nat) (st:SortSt) (r:ForInStep HiC) (st':SortSt):Prop:=
 (∃g,st'=ZaM st g)/\match r with | .done c=>HiQ D L p q T w c | .yield c=>HiY D L p q T w c
def Zmf (hH:HiH D L p q)(hi:0<i)(hip:i<=p.size)(hj:1<j)(hjq:j<=q.size)(hw:i-1+j<=w)(h:MR D L T p q o i j)
  (hle:∀u∈(p.toList.take i).drop (i-1),∀v∈q.toList.take j,Le L v u):wpS M A E s (hiE p q o i j mg ca cb) (HiP D L p q T w st) (ZaM st g):=by
 obtain⟨e,he,hm⟩:=at? (p:=p) (i:=i-1) ∅;have hd:=ZkC hi he;have h2:MR D L T p q (o.push e) (i-1) j:=by
  unfold MR at h ⊢;rw[YBi];rw[hd]at h;refine MS.movX h λu hu v hv=>?_;have hu:u=e:=by simpa using hu
  subst hu;refine hle u ?_ v (YBl.mp hv);rw[Zie hi he,YCM (by simp;lia)];simp
 unfold hiE;refine YAV (Zbh he ?_);by_cases c1:i-1=0
 .rw[YAS (~~~c1)];exact YAe ⟨⟨g,rfl⟩,_,_,_,_,_,_,_,rfl,.inl ⟨_,rfl,Zh2 h2 c1⟩⟩
 .rw[YAL (~~~c1)];have hI:HiI D L p q T (o.push e) (i-1) j:=⟨h2,∅,hj,∅,hjq⟩;split
  .exact YAe ⟨⟨g,rfl⟩,_,_,_,_,_,_,_,rfl,.inr ⟨rfl,hI,hw⟩⟩
  .exact YAe ⟨⟨g,rfl⟩,_,_,_,_,_,_,rfl,hI,hw⟩
def iQ (hC:Cmp D L){v:Keyed}(h:D v):Le L v v:=by
 cases hx:L v v with
 | false=>exact hx
 | true=>exact hC.asym v v h h hx
def Zfm (hC:Cmp D L)(hd:∀u∈p.toList,D u)(hs:p.toList.Pairwise (Le L)){i:Nat}{x:Keyed}(hi:0<i)(hx:p[i-1]?=some x)(hm:x∈p.toList):∀v∈p.toList.take i,Le L v x:=by
 intro v hv;have h2:=hs.sublist (YCz i p.toList);rw[Zie hi hx]at h2 hv;rcases YAW.mp hv with hv | hv
 .exact(YBI.mp h2).2.2 v hv x (by simp)
 .have:v=x:=by simpa using hv
  subst this;exact iQ hC (hd v hm)
def Zek (hi:0<i)(hip:i<=p.size)(hx:p[i-1]?=some x):u∈(p.toList.take i).drop (i-1)↔u=x:=by rw[Zie hi hx,YCM (by simp;lia),YCW (by simp;lia)];simp
def Zmg (hH:HiH D L p q)(hC:Cmp D L)(hP:ib M A E s D L kd)(hk:kindOf st=kd)(hi:0<i)(hip:i<=p.size)(hj:1<j)(hjq:j<=q.size)(hw:i-1+j<=w)
  (h:MR D L T p q o i j) (hle:∀v∈(q.toList.take j).drop (j-1),∀u∈p.toList.take i,Le L u v):wpS M A E s (hiD p q o i j mg ca cb) (HiP D L p q T w st) (ZaM st g):=by
 obtain⟨e,he,hm⟩:=at? (p:=q) (i:=j-1) ∅;obtain⟨x,hx,hxm⟩:=at? (p:=p) (i:=i-1) ∅;have h2:MR D L T p q (o.push e) i (j-1):=by
  unfold MR at h ⊢;rw[YBi];rw[ZkC ∅ he]at h;refine MS.movY h λu hu v hv=>?_;have hu:u=e:=by simpa using hu
  exact hle u ((Zek ∅ hjq he).mpr hu) v (YBl.mp hv)
 unfold hiD;refine YAV (Zbh he ?_);by_cases c1:j-1=1
 .rw[YAS (~~~c1)];exact YAe ⟨⟨g,rfl⟩,_,_,_,_,_,_,_,rfl,.inl ⟨_,rfl,hH.fin_fb hC h2 c1⟩⟩
 .rw[YAL (~~~c1)];refine YAV (Zbh hx ?_);refine YAV (ZeP hC hP (by exact hk) ∅ ∅ (hH.dp x hxm) hH.dq (by rw[YBk];exact hH.sq.sublist (YCz _ _)) ?_);rw[YBk];intro a hkn ha hb;replace ha:∀u∈(q.toList.take (j-1)).take a,L u x=true:=ha;replace hb:∀u∈(q.toList.take (j-1)).drop a,Le L x u:=hb;rw[YCp,YBp hkn]at ha;dsimp only;have xge:=Zfm hC hH.dp hH.sp hi hx hxm;have h3:MR D L T p q (o.push e++(q.extract a (j-1)).reverse) i a:=by unfold MR at h2 ⊢;rw[YBO,ZpR];rw[ZeC q.toList hkn]at h2;refine h2.movY λu hu v hv=>?_;have hu:=YBl.mp hu;have hv:=YBl.mp hv;exact hC.tr v x u (hH.dp v (YAa hv)) (hH.dp x hxm) (hH.dq u (YAa (YAh hu))) (xge v hv) (hb u hu)
  have hle2:∀u∈(p.toList.take i).drop (i-1),∀v∈q.toList.take a,Le L v u:=by intro u hu v hv;have:=(Zek hi hip hx).mp hu;subst this;exact hC.asym v u (hH.dq v (YAa hv)) (hH.dp u hxm) (ha v hv)
  have ha0:a≠0:=by
   rintro rfl;obtain⟨y,hy,hym⟩:=at? (p:=q) (i:=0) ∅;have hyq:q.toList.take 1=[y]:=by have:=Zie (p:=q) (i:=1) ∅ hy;simpa using this
   have h5:=hH.first y (by rw[hyq];simp) x hxm
   have h6:y∈q.toList.take (j-1):=by
    have:q.toList.take 1=(q.toList.take (j-1)).take 1:=by rw[YCp,YBp ∅]
    rw[this]at hyq;exact YAa (i:=1) (by rw[hyq];simp)
   rw[show L y x=false from hb y h6]at h5;cases h5
  by_cases hk0:j-1-a>0
  .rw[YAS hk0];by_cases c2:a=1
   .rw[YAS (~~~c2)];exact YAe ⟨⟨g,rfl⟩,_,_,_,_,_,_,_,rfl,.inl ⟨_,rfl,hH.fin_fb hC h3 c2⟩⟩
   .rw[YAL (~~~c2),YAL (~~~ha0)];exact Zmf hH hi hip ∅ ∅ ∅ h3 hle2
  .rw[YAL hk0];have:a=j-1:=by lia
   subst this;exact Zmf hH hi hip ∅ ∅ ∅ h2 hle2
def ZpM (hH:HiH D L p q)(hC:Cmp D L)(hP:ib M A E s D L kd)(hk:kindOf st=kd)(hw:i-1+j<=w)(hI:HiI D L p q T o i j):
  wpS M A E s (hiF p q o i j mg ca cb) (HiP D L p q T w st) (ZaM st g):=by
 obtain⟨h,hi,hj,hip,hjq⟩:=hI;obtain⟨x,hx,hxm⟩:=at? (p:=q) (i:=j-1) ∅;unfold hiF;refine YAV (YCh ?_);refine YAV (Zbh hx ?_);refine YAV (ZeP hC hP (by exact hk) ∅ ∅ (hH.dq x hxm) hH.dp (by rw[YBk];exact hH.sp.sublist (YCz _ _)) ?_);rw[YBk];intro a hkn ha hb;replace ha:∀u∈(p.toList.take i).take a,Le L u x:=ha;replace hb:∀u∈(p.toList.take i).drop a,L x u=true:=hb;rw[YCp,YBp hkn]at ha;dsimp only;have xge:=Zfm hC hH.dq hH.sq ∅ hx hxm;have h3:MR D L T p q (o++(p.extract a i).reverse) a j:=by unfold MR at h ⊢;rw[YBO,ZpR];rw[ZeC p.toList hkn]at h;refine h.movX λu hu v hv=>?_;have hu:=YBl.mp hu;have hv:=YBl.mp hv;have hDu:=hH.dp u (YAa (YAh hu));exact hC.tr v x u (hH.dq v (YAa hv)) (hH.dq x hxm) hDu (xge v hv) (hC.asym x u (hH.dq x hxm) hDu (hb u hu))
 have hle2:∀v∈(q.toList.take j).drop (j-1),∀u∈p.toList.take a,Le L u v:=by intro v hv u hu;have:=(Zek ∅ hjq hx).mp hv;subst this;exact ha u hu
 by_cases hk0:i-a>0
 .rw[YAS hk0];by_cases c2:a=0
  .rw[YAS (~~~c2)];exact YAe ⟨⟨_,rfl⟩,_,_,_,_,_,_,_,rfl,.inl ⟨_,rfl,Zh2 h3 c2⟩⟩
  .rw[YAL (~~~c2)];exact Zmg hH hC hP hk ∅ ∅ hj hjq ∅ h3 hle2
 .rw[YAL hk0];have:a=i:=by lia
  subst this;exact Zmg hH hC hP hk hi hip hj hjq hw h hle2
def Zpo (hH:HiH D L p q)(hC:Cmp D L)(hP:ib M A E s D L kd)(hk:kindOf st=kd)(hp:0<p.size)(hq:0<q.size)
  (h0:∀u∈p.toList.drop (p.size-1),∀v∈q.toList,Le L v u) (hQ:∀z g,iG L (p.toList++q.toList) z->Q z (ZaM st g)):wpS M A E s (mHi p q) Q st:=by
 rw[Zpp];unfold mHiB;obtain⟨e,he,hm⟩:=at? (p:=p) (i:=p.size-1) ∅;have hd:p.toList=p.toList.take (p.size-1)++[e]:=by
  have:=Zie hp he
  rwa [YAq (by simp)]at this
 have h1:MR D L (p.toList++q.toList) p q #[e] (p.size-1) q.size:=by
  unfold MR;have e2:(q.toList.take q.size)=q.toList:=YAq (by simp);rw[e2];have:MS D (Fl L) (p.toList++q.toList) [] ([e]++(p.toList.take (p.size-1)).reverse) q.toList.reverse:=by
   have e3:[e]++(p.toList.take (p.size-1)).reverse=p.toList.reverse:=by
    conv=>rhs;rw[hd]
    simp
   rw[e3];exact⟨by simpa using (List.reverse_perm _).append (List.reverse_perm _),List.Pairwise.nil,by simp,by simp,Zl0.mpr hH.sp,Zl0.mpr hH.sq⟩
  refine this.movX λu hu v hv=>h0 u ?_ v (YBl.mp hv);have hu:u=e:=by simpa using hu
  subst hu;rw[hd,YCM (by simp)];simp
 refine YAV (wpS_lift (YBn ⟨rfl,?_⟩));refine YAV (Zbh he ?_);by_cases c1:p.size-1=0
 .rw[YAS (~~~c1)];exact YAe (hQ _ _ (Zh2 h1 c1))
 rw[YAL (~~~c1)];by_cases c2:q.size=1
 .rw[YAS (~~~c2)];exact YAe (hQ _ _ (hH.fin_fb hC h1 c2))
 rw[YAL (~~~c2)];refine YAV (wpS_get ?_);have hI:HiI D L p q (p.toList++q.toList) #[e] (p.size-1) q.size:=⟨h1,∅,∅,∅,∅⟩;generalize p.toList++q.toList=T at hI hQ;refine ZeN ?_;intro F1 G1;refine YAV (YCV (YBe (a:=0) (b:=p.size+q.size) (I:=λx c st'=>∃g,st'=ZaM st g/\∃o i j mg,c=(none,i,j,o,mg)/\HiI D L p q T o i j/\x+(i+j)<=p.size+q.size)
  (Q:=λc st'=>∃g,st'=ZaM st g/\∃z o i j mg,c=(some z,i,j,o,mg)/\iG L T z) ?step ?fin ⟨gallopOf st,rfl,#[e],p.size-1,q.size,gallopOf st,rfl,hI,∅⟩) ?post)
 case post=>
  rintro c st' ⟨g,rfl,z,o,i,j,mg,rfl,hz⟩;exact YAe (hQ z g hz)
 case fin=>
  rintro c st' ⟨g,rfl,o,i,j,mg,rfl,hI,hx⟩;have:=hI.li;have:=hI.lj
  lia
 case step=>
  rintro x c st' _ hx ⟨g,rfl,o,i,j,mg,rfl,hI,hxi⟩;dsimp only[F1];refine ZeN ?_;intro F2 G2;refine YAV (YCV (YBe (I:=λy c st'=>st'=ZaM st g/\∃o i j ca cb,c=(none,i,j,o,ca,cb)/\HiI D L p q T o i j/\y+x+(i+j)<=p.size+q.size)
   (Q:=λc st'=>st'=ZaM st g/\∃r o i j ca cb,c=(r,i,j,o,ca,cb)/\((∃z,r=some z/\iG L T z)\/(r=none/\HiI D L p q T o i j/\x+1+(i+j)<=p.size+q.size))) ?s1 ?f1 ⟨rfl,_,_,_,_,_,rfl,hI,∅⟩) ?p1)
  case f1=>
   rintro c st' ⟨rfl,o,i,j,ca,cb,rfl,hI,hx⟩;have:=hI.li;have:=hI.lj
   lia
  case s1=>
   rintro y c st' _ hy ⟨rfl,o,i,j,ca,cb,rfl,hI,hxi⟩;obtain⟨h,hi,hj,hip,hjq⟩:=hI;obtain⟨u,hu,hum⟩:=at? (p:=q) (i:=j-1) ∅;obtain⟨v,hv,hvm⟩:=at? (p:=p) (i:=i-1) ∅;have hDu:=hH.dq u hum;have hDv:=hH.dp v hvm;have uge:=Zfm hC hH.dq hH.sq ∅ hu hum;have vge:=Zfm hC hH.dp hH.sp hi hv hvm;dsimp only[F2];refine YAV (Zbh hu (YAV (Zbh hv (YAV (hP _ _ _ _ hk hDu hDv ?_)))));dsimp only;cases hL:L u v with
   | true=>
    rw[YAS rfl];refine YAV (Zbh hv ?_);have h2:MR D L T p q (o.push v) (i-1) j:=by
     unfold MR at h ⊢;rw[YBi];rw[ZkC hi hv]at h;refine MS.movX h λa ha b hb=>?_;have ha:a=v:=by simpa using ha
     subst ha;have hb:=YBl.mp hb;exact hC.tr b u a (hH.dq b (YAa hb)) hDu hDv (uge b hb) (hC.asym _ _ hDu hDv hL)
    by_cases c3:i-1=0
    .rw[YAS (~~~c3)];exact YAe ⟨rfl,_,_,_,_,_,_,rfl,.inl ⟨_,rfl,Zh2 h2 c3⟩⟩
    .rw[YAL (~~~c3)];have hI:HiI D L p q T (o.push v) (i-1) j:=⟨h2,∅,∅,∅,∅⟩;split
     .exact YAe ⟨rfl,_,_,_,_,_,_,rfl,.inr ⟨rfl,hI,∅⟩⟩
     .exact YAe ⟨rfl,_,_,_,_,_,rfl,hI,∅⟩
   | false=>
    rw[YAL YAE];refine YAV (Zbh hu ?_);have h2:MR D L T p q (o.push u) i (j-1):=by
     unfold MR at h ⊢;rw[YBi];rw[ZkC ∅ hu]at h;refine MS.movY h λa ha b hb=>?_;have ha:a=u:=by simpa using ha
     subst ha;have hb:=YBl.mp hb;exact hC.tr b v a (hH.dp b (YAa hb)) hDv hDu (vge b hb) hL
    by_cases c3:j-1=1
    .rw[YAS (~~~c3)];exact YAe ⟨rfl,_,_,_,_,_,_,rfl,.inl ⟨_,rfl,hH.fin_fb hC h2 c3⟩⟩
    .rw[YAL (~~~c3)];have hI:HiI D L p q T (o.push u) i (j-1):=⟨h2,∅,∅,∅,∅⟩;split
     .exact YAe ⟨rfl,_,_,_,_,_,_,rfl,.inr ⟨rfl,hI,∅⟩⟩
     .exact YAe ⟨rfl,_,_,_,_,_,rfl,hI,∅⟩
  case p1=>
   rintro c st' ⟨rfl,r,o,i,j,ca,cb,rfl,⟨z,rfl,hz⟩|⟨rfl,hI,hw⟩⟩
   .exact YAe ⟨g,rfl,z,o,i,j,mg,rfl,hz⟩
   .dsimp only[G2];refine YAV (wpS_lift (YBn ⟨rfl,?_⟩));refine ZeN ?_;intro F3 G3;refine YAV (YCV (YBe (I:=λy c st'=>(∃g,st'=ZaM st g)/\HiY D L p q T (p.size+q.size-y-(x+1)) c)
     (Q:=λc st'=>(∃g,st'=ZaM st g)/\HiQ D L p q T (p.size+q.size-(x+1)) c) ?s2 ?f2 ⟨⟨g,rfl⟩,_,_,_,_,_,_,rfl,hI,∅⟩) ?p2)
    case f2=>
     rintro c st' ⟨_,o,i,j,mg,ca,cb,rfl,hI,hx⟩;have:=hI.li;have:=hI.lj
     lia
    case p2=>
     rintro c st' ⟨⟨g,rfl⟩,r,o,i,j,mg,ca,cb,rfl,⟨z,rfl,hz⟩|⟨rfl,hI,hw⟩⟩
     .exact YAe ⟨g,rfl,z,o,i,j,mg,rfl,hz⟩
     .exact YAV (YCh (YAe ⟨_,rfl,o,i,j,mg+1,rfl,hI,by have:=hI.li;lia⟩))
    case s2=>
     rintro y c st' _ hy ⟨⟨g,rfl⟩,o,i,j,mg,ca,cb,rfl,hI,hw⟩;have key:∀mg,wpS M A E s (hiF p q o i j mg ca cb) (λr st'=>match r with | .done c'=>(∃g,st'=ZaM st g)/\HiQ D L p q T (p.size+q.size-(x+1)) c' | .yield c'=>(∃g,st'=ZaM st g)/\HiY D L p q T (p.size+q.size-(y+1)-(x+1)) c') (ZaM st g):=by
      intro mg;have:=hI.li;refine YCV (ZpM (w:=p.size+q.size-(y+1)-(x+1)) hH hC hP hk ∅ hI) ?_;rintro r st' ⟨hg,hr⟩;cases r with
      | done c=>
       obtain⟨r,o,i,j,mg,ca,cb,rfl,h | ⟨rfl,hI,hw⟩⟩:=hr
       .exact⟨hg,r,o,i,j,mg,ca,cb,rfl,.inl h⟩
       .exact⟨hg,none,o,i,j,mg,ca,cb,rfl,.inr ⟨rfl,hI,∅⟩⟩
      | yield c=>exact⟨hg,hr⟩
     refine YCV (Q:=λr st'=>match r with | .done c'=>(∃g,st'=ZaM st g)/\HiQ D L p q T (p.size+q.size-(x+1)) c' | .yield c'=>(∃g,st'=ZaM st g)/\HiY D L p q T (p.size+q.size-(y+1)-(x+1)) c') ?_ (λr st' hr=>by cases r<;>exact hr);by_cases hmg:mg>1
     .dsimp only[F3];rw[YAS hmg];exact key (mg-1)
     .dsimp only[F3];rw[YAL hmg];exact key mg
end
noncomputable def mAtB (i:Nat):StateT SortSt Sem Bool:=do
 let v <-get
 let (some (sa,na,pw),some (sb,nb,_)):=((pendingOf v)[i]?,(pendingOf v)[i+1]?) | unsupported "internal:list.sort.pending"
 set (setPending v (((pendingOf v).setIfInBounds i (sa,na+nb,pw)).eraseIdxIfInBounds (i+1)))
 let some k <-gal false (<-elem' (arrOf v) sb) (arrOf v) sa na 0 | return false
 let (sa,na):=(sa+k,na-k)
 if na == 0 then return true
 let some nb <-gal true (<-elem' (arrOf v) (sa+na-1)) (arrOf v) sb nb (nb-1) | return false
 if nb == 0 then return true
 let x:=(arrOf v).extract sa sb
 let y:=(arrOf v).extract sb (sb+nb)
 let mm <-if na<=nb then mLo x y else mHi x y
 modify λu=>setArr u (mm.toList.zipIdx.foldl (λa (p,j)=>a.setIfInBounds (sa+j) p) (arrOf u))
 return (failedOf (<-get)).isNone
def Zpr (i:Nat):mergeAt' i=mAtB i:=rfl
def Zmz {M:Model}{A:AI}{E:Q33}{s:AF}{U:Type}{v:U}{Q:PUnit->U->Prop}{st:U}(h:Q ⟨⟩ v):wpS M A E s (set v:StateT U Sem PUnit) Q st:=by unfold wpS;rw[StateT.run_set];exact YAC ⟨rfl,h⟩
noncomputable def kO (a:Array Keyed) (b:Nat) (l:List Keyed):Array Keyed:=l.zipIdx.foldl (λa (p,j)=>a.setIfInBounds (b+j) p) a
theorem Zjk:∀(l:List Keyed) (n b:Nat) (a:Array Keyed) (x y z:List Keyed),a.toList=x++y++z->x.length=b+n->y.length=l.length ->
  ((l.zipIdx n).foldl (λa (p,j)=>a.setIfInBounds (b+j) p) a).toList=x++l++z
 | [],n,b,a,x,y,z,h,hx,hy=>by
  have:y=[]:=YBq.mp hy;subst this;simpa using h
 | e::l,n,b,a,x,y,z,h,hx,hy=>by
  cases y with
  | nil=>simp at hy
  | cons f y=>
   rw[List.zipIdx_cons,YCE];have:=Zjk l (n+1) b (a.setIfInBounds (b+n) e) (x++[e]) y z (by rw[YDD,h,<-hx,YAp,YCn,List.set_append_right _ _ (YAT _),Nat.sub_self];simp) (by simp;lia) (~~~hy)
   rw[this];simp
def Zjj (h:a.toList=x++y++z)(hx:x.length=b)(hy:y.length=l.length):(kO a b l).toList=x++l++z:=
 Zjk l 0 b a x y z h ∅ hy
section
variable {M:Model}{A:AI}{E:Q33}{s:AF}{D:Keyed->Prop}{L:Keyed->Keyed->Bool}{kd:SortKind}{st:SortSt}
def slice {a:Array Keyed}{x y z:List Keyed}{b n:Nat}(h:a.toList=x++y++z)(hb:b=x.length)(hn:n=y.length):(a.toList.drop b).take n=y:=by rw[h,hb,hn,YAp,List.drop_left,List.take_left]
def Zpq (hC:Cmp D L)(hP:ib M A E s D L kd)(hk:kindOf st=kd)(hf:failedOf st=none)
  (ha:(arrOf st).toList=W++X++Y++Z) (hd:∀u∈(arrOf st).toList,D u) (hX:X≠[]) (hY:Y≠[]) (sX:X.Pairwise (Le L)) (sY:Y.Pairwise (Le L))
  (h1:(pendingOf st)[i]?=some (W.length,X.length,pw)) (h2:(pendingOf st)[i+1]?=some (W.length+X.length,Y.length,pw2))
  (hQ:∀(V:List Keyed) (a:Array Keyed) g,a.toList=W++V++Z->V.Perm (X++Y)->V.Pairwise (Le L)->Q true (SortSt.mk' kd a (((pendingOf st).setIfInBounds i (W.length,X.length+Y.length,pw)).eraseIdxIfInBounds (i+1)) g none)):
  wpS M A E s (mergeAt' i) Q st:=by
 rw[Zpr];unfold mAtB;refine YAV (wpS_get ?_);rw[h1,h2];dsimp only;refine YAV (Zmz ?_);have hsz:(arrOf st).size=W.length+X.length+Y.length+Z.length:=by rw[<-YAG,ha];simp;lia
 have hXp:0<X.length:=YBN.mpr hX;have hYp:0<Y.length:=YBN.mpr hY;have dX:∀u∈X,D u:=λu hu=>hd u (by rw[ha];simp[hu]);have dY:∀u∈Y,D u:=λu hu=>hd u (by rw[ha];simp[hu]);obtain⟨y0,Y',rfl⟩:∃y l,Y=y::l:=by cases Y with | nil=>exact absurd rfl hY | cons y l=>exact⟨y,l,rfl⟩
 have hy0:(arrOf st)[W.length+X.length]?=some y0:=by rw[<-YAu,ha,YAp,YAs (by simp)];simp
 have dy0:=dY y0 (by simp);refine YAV (Zbh hy0 ?_);have sl1:=slice (a:=arrOf st) (x:=W) (y:=X) (z:=y0::Y'++Z) (b:=W.length) (n:=X.length) (by rw[ha];simp) rfl rfl;have sl2:=slice (a:=arrOf st) (x:=W++X) (y:=y0::Y') (z:=Z) (b:=W.length+X.length) (n:=(y0::Y').length) (by rw[ha]) (by simp) rfl;refine YAV (ZeP hC hP (by exact hk) ∅ hXp dy0 hd (by rw[sl1];exact sX) ?_);rw[sl1];intro k hkn ha1 hb1;replace ha1:∀u∈X.take k,Le L u y0:=ha1;replace hb1:∀u∈X.drop k,L y0 u=true:=hb1;dsimp only;have y0le:∀v∈y0::Y',Le L y0 v:=by
  intro v hv;rcases YAJ.mp hv with rfl | hv
  .exact iQ hC dy0
  .exact(YAz.mp sY).1 v hv
 have X1Y:∀u∈X.take k,∀v∈y0::Y',Le L u v:=λu hu v hv=>hC.tr u y0 v (dX u (YAa hu)) dy0 (dY v hv) (ha1 u hu) (y0le v hv);by_cases c1:X.length-k=0
 .rw[YAS (~~~c1)];refine YAe ?_;have e:X.take k=X:=YAq ∅;rw[e]at X1Y;have:=hQ (X++(y0::Y')) (arrOf st) (gallopOf st) (by rw[ha];simp) (List.Perm.refl _) (YBI.mpr ⟨sX,sY,X1Y⟩);rw[<-hk,<-hf]at this;exact this
 rw[YAL (~~~c1)];obtain⟨xl,hxl⟩:∃xl,X[X.length-1]?=some xl:=⟨X[X.length-1],YAH ∅⟩;have hxm:xl∈X:=YAb hxl;have hxl2:xl∈X.drop k:=by refine YAb (i:=X.length-1-k) ?_;rw[YBj,<-hxl];congr 1;lia
 have hxa:(arrOf st)[W.length+k+(X.length-k)-1]?=some xl:=by rw[<-YAu,ha,YAp,YAp,YAs ∅,YAm ∅,<-hxl];congr 1;lia
 refine YAV (Zbh hxa ?_);refine YAV (ZeP hC hP (by exact hk) (by simp at hsz ⊢;lia) (by simp) (dX xl hxm) hd (by rw[sl2];exact sY) ?_);rw[sl2];intro n hnn ha2 hb2;replace ha2:∀u∈(y0::Y').take n,L u xl=true:=ha2;replace hb2:∀u∈(y0::Y').drop n,Le L xl u:=hb2;dsimp only;have hn0:n≠0:=by rintro rfl;have h5:=hb1 xl hxl2;rw[show L y0 xl=false from hb2 y0 (by simp)]at h5;cases h5
 rw[YAL (~~~hn0)];obtain⟨x,hx⟩:∃x,x=(arrOf st).extract (W.length+k) (W.length+X.length):=⟨_,rfl⟩;obtain⟨y,hy⟩:∃y,y=(arrOf st).extract (W.length+X.length) (W.length+X.length+n):=⟨_,rfl⟩;have xL:x.toList=X.drop k:=by rw[hx,YBJ,List.extract];exact slice (x:=W++X.take k) (z:=y0::Y'++Z) (by rw[ha];simp only[YAp];rw[<-YAp (X.take k),YAv]) (by rw[YAF,YAX,YBp hkn]) (by rw[YAk];lia)
 have yL:y.toList=(y0::Y').take n:=by rw[hy,YBJ,List.extract];exact slice (x:=W++X) (z:=(y0::Y').drop n++Z) (by rw[ha];simp only[YAp];rw[<-YAp (List.take n _),YAv]) (by rw[YAF]) (by rw[YAX,YBp hnn];lia)
 have xS:x.size=X.length-k:=by rw[<-YAG,xL,YAk]
 have yS:y.size=n:=by rw[<-YAG,yL,YAX,YBp hnn]
 have y1:y.toList.take 1=[y0]:=by rw[yL,YCp,YBp ∅];simp
 have xd:∀v∈x.toList.drop (x.size-1),v=xl:=by
  intro v hv;rw[xL,xS,YCS]at hv;have:X.drop (k+(X.length-k-1))=[xl]:=by obtain⟨h5,h6⟩:=YAN.mp hxl;rw[show k+(X.length-k-1)=X.length-1 by lia,YCg h5,h6,YCW ∅]
  rw[this]at hv;simpa using hv
 have dx:∀u∈x.toList,D u:=λu hu=>dX u (YAh (xL▸hu));have dy:∀u∈y.toList,D u:=λu hu=>dY u (YAa (yL▸hu));have sx:x.toList.Pairwise (Le L):=by rw[xL];exact sX.sublist (List.drop_sublist _ _)
 have sy:y.toList.Pairwise (Le L):=by rw[yL];exact sY.sublist (YCz _ _)
 have y0x:∀v∈x.toList,L y0 v=true:=λv hv=>hb1 v (xL▸hv);have yxl:∀u∈y.toList,L u xl=true:=λu hu=>ha2 u (yL▸hu);have main:∀(z:Array Keyed) g,iG L (x.toList++y.toList) z->wpS M A E s (do
   modify λu=>setArr u (kO (arrOf u) (W.length+k) z.toList)
   return (failedOf (<-get)).isNone) Q (ZaM (setPending st (((pendingOf st).setIfInBounds i (W.length,X.length+(y0::Y').length,pw)).eraseIdxIfInBounds (i+1))) g):=by
  rintro z g ⟨hz1,hz2⟩;refine YAV (YCh (YAV (wpS_get (YAe ?_))));show Q (failedOf st).isNone _;rw[hf];have hzl:(X.drop k++(y0::Y').take n).length=z.toList.length:=by rw[hz1.length_eq,xL,yL]
  have hp:(kO (arrOf st) (W.length+k) z.toList).toList=W++(X.take k++z.toList++(y0::Y').drop n)++Z:=by
   rw[Zjj (x:=W++X.take k) (y:=X.drop k++(y0::Y').take n) (z:=(y0::Y').drop n++Z) (by rw[ha];simp only[YAp];rw[<-YAp (List.take n _),YAv,<-YAp (X.take k),YAv]) (by rw[YAF,YAX,YBp hkn]) hzl]
   simp only[YAp]
  have zm:∀v∈z.toList,v∈X.drop k\/v∈(y0::Y').take n:=λv hv=>by have:=hz1.mem_iff.mp hv;rw[xL,yL]at this;exact YAW.mp this
  have dxl:=dX xl hxm;have:=hQ (X.take k++z.toList++(y0::Y').drop n) _ g hp ?_ ?_
  .rw[<-hk,<-hf]at this;exact this
  .have e1:(X.take k++z.toList++(y0::Y').drop n).Perm (X.take k++(X.drop k++(y0::Y').take n)++(y0::Y').drop n):=by refine List.Perm.append_right _ (List.Perm.append_left _ ?_);rw[xL,yL]at hz1;exact hz1
   refine e1.trans (List.Perm.of_eq ?_);rw[<-YAp,YAv,YAp,YAv]
  .have zY2:∀u∈z.toList,∀v∈(y0::Y').drop n,Le L u v:=by
    intro u hu v hv;rcases zm u hu with h | h
    .have hux:Le L u xl:=by
      have e5:X=X.take (X.length-1)++[xl]:=by
       obtain⟨h5,h6⟩:=YAN.mp hxl
       conv=>lhs;rw[<-YAv (X.length-1) X,YCg h5,h6,YCW ∅]
      have hu':u∈X:=YAh h;rw[e5]at sX hu';rcases YAW.mp hu' with hu' | hu'
      .exact(YBI.mp sX).2.2 u hu' xl (by simp)
      .have:u=xl:=by simpa using hu'
       subst this;exact iQ hC dxl
     exact hC.tr u xl v (dX u (YAh h)) dxl (dY v (YAh hv)) hux (hb2 v hv)
    .have e5:=sY;rw[<-YAv n (y0::Y')]at e5;exact(YBI.mp e5).2.2 u h v hv
   rw[YBI,YBI];refine⟨⟨sX.sublist (YCz _ _),hz2,λu hu v hv=>?_⟩,sY.sublist (List.drop_sublist _ _),λu hu v hv=>?_⟩
   .rcases zm v hv with h | h
    .have e5:=sX;rw[<-YAv k X]at e5;exact(YBI.mp e5).2.2 u hu v h
    .exact X1Y u hu v (YAa h)
   .rcases YAW.mp hu with hu | hu
    .exact X1Y u hu v (YAh hv)
    .exact zY2 u hu v hv
 have xp:0<x.size:=by lia
 have yp:0<y.size:=by lia
 rw[<-hx,<-hy];by_cases c3:X.length-k<=n
 .rw[YAS c3];refine YAV (Zpm (st:=setPending st _) ⟨dx,dy,sx,sy,λu hu v hv=>by rw[xd v hv];exact yxl u hu⟩ hC hP (by exact hk) xp yp (λu hu v hv=>?_) λz g hz=>main z g hz);have hu:u=y0:=by rw[y1]at hu;simpa using hu
  subst hu;exact hC.asym u v dy0 (dx v hv) (y0x v hv)
 .rw[YAL c3];refine YAV (Zpo (st:=setPending st _) ⟨dx,dy,sx,sy,λu hu v hv=>by rw[y1]at hu;rw[show u=y0 by simpa using hu];exact y0x v hv⟩ hC hP (by exact hk) xp yp (λu hu v hv=>?_) λz g hz=>main z g hz);rw[xd u hu];exact hC.asym v xl (dy v hv) (dX xl hxm) (yxl v hv)
end
abbrev il (L:Keyed->Keyed->Bool):Prop:=Cmp (λ_=>True) L
def il.to (h:il L):Cmp D L:=⟨λx y _ _=>h.asym x y trivial trivial,λx y z _ _ _=>h.tr x y z trivial trivial trivial⟩
def il.rf (h:il L)(x:Keyed):Le L x x:=iQ h trivial
def il.le (h:il L){x y:Keyed}(e:L x y=true):Le L x y:=h.asym x y trivial trivial e
def il.t (h:il L){x y z:Keyed}(e:Le L x y)(f:Le L y z):Le L x z:=h.tr x y z trivial trivial trivial e f
def il.lt_le (h:il L){x y z:Keyed}(e:L x y=true)(f:Le L y z):L x z=true:=by
 cases hx:L x z with
 | true=>rfl
 | false=>rw[h.tr y z x trivial trivial trivial f hx]at e;cases e
noncomputable def at0 (a:Array Keyed) (i:Nat):Keyed:=(a[i]?).getD (.none,.none)
def Zeq (h:a[i]?=b[j]?):at0 a i=at0 b j:=by unfold at0;rw[h]
noncomputable def iR (L:Keyed->Keyed->Bool) (a:Array Keyed) (l h:Nat):Prop:=∀i j,l<=i->i<=j->j<h->Le L (at0 a i) (at0 a j)
noncomputable def iJ (L:Keyed->Keyed->Bool) (a:Array Keyed) (l h:Nat):Prop:=∀i j,l<=i->i<=j->j<h->Le L (at0 a j) (at0 a i)
structure gI (lo:Nat)(a b:Array Keyed):Prop where
 perm:b.Perm a
 pre:∀k,k<lo->b[k]?=a[k]?
def gI.rf (lo:Nat)(a:Array Keyed):gI lo a a:=⟨Array.Perm.refl _,λ_ _=>rfl⟩
def gI.tr {lo:Nat}{a b c:Array Keyed}(h:gI lo a b)(k:gI lo b c):gI lo a c:=⟨k.perm.trans h.perm,λi hi=>(k.pre i hi).trans (h.pre i hi)⟩
def gI.sz {lo:Nat}{a b:Array Keyed}(h:gI lo a b):b.size=a.size:=h.perm.size_eq
def gI.d {lo:Nat}{a b:Array Keyed}{D:Keyed->Prop}(h:gI lo a b)(hd:∀u∈a.toList,D u):∀u∈b.toList,D u:=λu hu=>hd u ((YDE.mp h.perm).mem_iff.mp hu)
def Zkv (hs:src<xs.size)(hd:d<=src)(k:Nat):
  at0 (bubble xs src d) k=if k=src-d then at0 xs src else if src-d<k/\k<=src then at0 xs (k-1) else at0 xs k:=by
 have e:=getElem?_bubble hs d hd k;repeat' split
 all_goals (refine Zeq (e.trans ?_);first | rw[YAS (by assumption)] | (rw[YAL (by assumption)];first | rw[YAS (by assumption)] | rw[YAL (by assumption)]))
def Zhn (hj:j<=xs.size)(k:Nat):
  at0 (mirror xs i j ((j-i)/2)) k=if i<=k/\k<j then at0 xs (i+j-1-k) else at0 xs k:=by
 have e:=getElem?_mirror_all (i:=i) hj k;split
 .exact Zeq (e.trans (YAS (by assumption)))
 .exact Zeq (e.trans (YAL (by assumption)))
def gI.bub {lo src d:Nat}{a:Array Keyed}(hs:src<a.size)(hd:lo+d<=src):gI lo a (bubble a src d):=
 ⟨bubble_perm _ _ _,λk hk=>by rw[getElem?_bubble hs d ∅,YAL ∅,YAL ∅]⟩
def gI.mir {lo i j:Nat}{a:Array Keyed}(hj:j<=a.size)(hl:lo<=i):gI lo a (mirror a i j ((j-i)/2)):=
 ⟨mirror_perm _ _ _ _,λk hk=>by rw[getElem?_mirror_all hj,YAL ∅]⟩
section
variable {M:Model}{A:AI}{E:Q33}{s:AF}{D:Keyed->Prop}{L:Keyed->Keyed->Bool}{kd:SortKind}{st:SortSt}
def Zf6 (hP:ib M A E s D L kd)(hk:kindOf st=kd)(hd:∀u∈a.toList,D u)(hi:i<a.size)(hj:j<a.size)
  (q:Q (some (L (at0 a i) (at0 a j))) (setArr st a)):wpS M A E s (ltAt' i j) Q (setArr st a):=by
 obtain⟨x,hx,hxm⟩:=at? hi;obtain⟨y,hy,hym⟩:=at? hj;have ex:at0 a i=x:=by unfold at0;rw[hx];rfl
 have ey:at0 a j=y:=by unfold at0;rw[hy];rfl
 rw[ex,ey]at q;rw[ltAt'_eq];refine YAV (wpS_get ?_);exact YAV (Zbh hx (YAV (Zbh hy (hP _ _ _ _ hk (hd x hxm) (hd y hym) q))))
def ZnW {a:Array Keyed}{lo n ok:Nat}{Q:Bool->SortSt->Prop}(hC:il L)(hP:ib M A E s D L kd)(hk:kindOf st=kd)(hd:∀u∈a.toList,D u)(hn:lo+n<=a.size)(hok:ok<=n)
  (hs:iR L a lo (lo+ok)) (h:∀b,gI lo a b->iR L b lo (lo+n)->Q true (setArr st b)):wpS M A E s (binarySort' lo n ok) Q (setArr st a):=by
 rw[binarySort'_eq];refine YAV (YCV (YBe (I:=λk c st'=>c=(none,())/\∃b,st'=setArr st b/\gI lo a b/\iR L b lo (lo+min k n))
  (Q:=λc st'=>c=(none,())/\∃b,st'=setArr st b/\gI lo a b/\iR L b lo (lo+n)) ?step ?fin ?init) ?post)
 case post=>
  rintro c st' ⟨rfl,b,rfl,hb,hs'⟩;exact YAe (h b hb hs')
 case init=>
  refine⟨rfl,a,rfl,gI.rf _ _,λi j hl hij hj=>?_⟩;by_cases h1:ok=0
  .have:i=j:=by lia
   subst this;exact hC.rf _
  .exact hs i j hl hij ∅
 case fin=>
  rintro c st' ⟨hc,b,hst,hb,hs'⟩;refine⟨hc,b,hst,hb,?_⟩
  rwa [show min (max (max ok 1) n) n=n by lia]at hs'
 case step=>
  rintro k c st' hak hkn ⟨rfl,b,rfl,hb,hs'⟩;rw[show min k n=k by lia]at hs';have hsz:=hb.sz;have hdb:=hb.d hd;refine YAV (YCV (YBe (I:=λx c st''=>st''=setArr st b/\∃l r,c=(none,l,r)/\l<=r/\r<=k/\r-l<=k-x /\
    (∀i,lo<=i->i<lo+l->Le L (at0 b i) (at0 b (lo+k)))/\(∀i,lo+r<=i->i<lo+k->L (at0 b (lo+k)) (at0 b i)=true))
   (Q:=λc st''=>st''=setArr st b/\∃l r,c=(none,l,r)/\l<=k /\
    (∀i,lo<=i->i<lo+l->Le L (at0 b i) (at0 b (lo+k)))/\(∀i,lo+l<=i->i<lo+k->L (at0 b (lo+k)) (at0 b i)=true)) ?istep ?ifin ?iinit) ?ipost)
  case iinit=>exact⟨rfl,0,k,rfl,∅,∅,∅,λi h1 hi=>by lia,λi h1 h2=>by lia⟩
  case ifin=>
   rintro c st'' ⟨rfl,l,r,rfl,hlr,hrk,hm,hlo,hhi⟩;have:l=r:=by lia
   subst this;exact⟨rfl,l,l,rfl,hrk,hlo,hhi⟩
  case istep=>
   rintro x c st'' _ hxk ⟨rfl,l,r,rfl,hlr,hrk,hm,hlo,hhi⟩;dsimp only;by_cases hge:l>=r
   .rw[YAS hge];have:l=r:=by lia
    subst this;exact YAe ⟨rfl,l,l,rfl,hrk,hlo,hhi⟩
   .rw[YAL hge];refine YAV (Zf6 hP hk hdb ∅ ∅ ?_);cases hless:L (at0 b (lo+k)) (at0 b (lo+(l+r)/2)) with
    | true=>exact YAe ⟨rfl,l,(l+r)/2,rfl,∅,∅,∅,hlo,λi h1 h2=>hC.lt_le hless (hs' _ _ ∅ h1 h2)⟩
    | false=>exact YAe ⟨rfl,(l+r)/2+1,r,rfl,∅,∅,∅,λi h0 h1=>hC.t (hs' i (lo+(l+r)/2) h0 ∅ ∅) hless,hhi⟩
  case ipost=>
   rintro c st'' ⟨rfl,l,r,rfl,hlk,hlo,hhi⟩;show wpS _ _ _ _ (do moveDown' (lo+k) (lo+l);pure (ForInStep.yield (none,()))) _ _;rw[moveDown'_eq];have hks:lo+k<b.size:=by lia
   refine YAV (YCh (YAe ⟨rfl,bubble b (lo+k) (lo+k-(lo+l)),rfl,hb.tr (gI.bub hks ∅),?_⟩));rw[show min (k+1) n=k+1 by lia];intro i j hl hij hj;rw[Zkv hks ∅,Zkv hks ∅,show lo+k-(lo+k-(lo+l))=lo+l by lia];repeat' split
   all_goals first
    | (exfalso;lia)
    | exact hC.rf _
    | exact hlo _ ∅ ∅
    | exact hC.le (hhi _ ∅ ∅)
    | exact hs' _ _ ∅ ∅ ∅
end
noncomputable def jH (lo a nr:Nat):StateT SortSt Sem AscSt:=
 forIn [a:nr] ((none,a):AscSt) λ_ c=>do
  let x <-ltAt' (lo+c.snd) (lo+c.snd-1)
  match x with
  | some sm=>if sm=true then pure (ForInStep.done (none,c.snd)) else pure (ForInStep.yield (none,c.snd+1))
  | _=>pure (ForInStep.done (some none,c.snd))
noncomputable def jk (lo n nr:Nat):StateT SortSt Sem (Option Nat):=do
 reverseSlice' lo (lo+n)
 let c <-jH lo n nr
 match c.fst with
 | some r=>pure r
 | none=>pure (some c.snd)
noncomputable def kA (lo n nr:Nat):StateT SortSt Sem DescSt:=
 forIn [n:nr] ((none,n,0):DescSt) λ_ c=>do
  let x <-ltAt' (lo+c.snd.fst) (lo+c.snd.fst-1)
  match x with
  | some sm=>
   if sm=true then
    if c.snd.snd>0 then do
     reverseSlice' (lo+c.snd.fst-(c.snd.snd+1)) (lo+c.snd.fst)
     pure (ForInStep.yield (none,c.snd.fst+1,0))
    else pure (ForInStep.yield (none,c.snd.fst+1,0))
   else do
    let y <-ltAt' (lo+c.snd.fst-1) (lo+c.snd.fst)
    match y with
    | some lg=>
     if lg=true then pure (ForInStep.done (none,c.snd.fst,c.snd.snd))
     else pure (ForInStep.yield (none,c.snd.fst+1,c.snd.snd+1))
    | _=>pure (ForInStep.done (some none,c.snd.fst,c.snd.snd))
  | _=>pure (ForInStep.done (some none,c.snd.fst,c.snd.snd))
section
variable {M:Model}{A:AI}{E:Q33}{s:AF}{D:Keyed->Prop}{L:Keyed->Keyed->Bool}{kd:SortKind}{st:SortSt}
noncomputable def Eqv (L:Keyed->Keyed->Bool) (x y:Keyed):Prop:=Le L x y/\Le L y x
def Zd1 (q:Q () (setArr st (mirror a i j ((j-i)/2)))):wpS M A E s (reverseSlice' i j) Q (setArr st a):=by rw[reverseSlice'_eq];exact YCh q
def Zkw {a:Array Keyed}{lo n0 nr:Nat}{Q:AscSt->SortSt->Prop}(hC:il L)(hP:ib M A E s D L kd)(hk:kindOf st=kd)(hd:∀u∈a.toList,D u)(hn:lo+nr<=a.size)(h1:1<=n0)(hnn:n0<=nr)
  (hs:iR L a lo (lo+n0)) (h:∀n,n0<=n->n<=nr->iR L a lo (lo+n)->(n=nr\/L (at0 a (lo+n)) (at0 a (lo+n-1))=true)->Q (none,n) (setArr st a)):wpS M A E s (jH lo n0 nr) Q (setArr st a):=by
 unfold jH;refine YBe (I:=λx c st'=>st'=setArr st a/\c=(none,x)/\iR L a lo (lo+x)) ?step ?fin ⟨rfl,rfl,hs⟩
 case fin=>
  rintro c st' ⟨rfl,rfl,hs'⟩;rw[show max n0 nr=nr by lia]at hs' ⊢;exact h nr hnn (YAT _) hs' (.inl rfl)
 case step=>
  rintro x c st' hax hxn ⟨rfl,rfl,hs'⟩;dsimp only;refine YAV (Zf6 hP hk hd ∅ ∅ ?_);cases hl:L (at0 a (lo+x)) (at0 a (lo+x-1)) with
  | true=>exact YAe (h x hax ∅ hs' (.inr hl))
  | false=>
   refine YAe ⟨rfl,rfl,λi j hli hij hj=>?_⟩;by_cases hjx:j<lo+x
   .exact hs' i j hli hij hjx
   .have hj':j=lo+x:=by lia
    subst hj';by_cases hi':i=lo+x
    .subst hi';exact hC.rf _
    .exact hC.t (hs' i (lo+x-1) hli ∅ ∅) hl
def ZdG {a:Array Keyed}{lo n nr:Nat}{Q:Option Nat->SortSt->Prop}(hC:il L)(hP:ib M A E s D L kd)(hk:kindOf st=kd)(hd:∀u∈a.toList,D u)(hn:lo+nr<=a.size)(h1:1<=n)(hnn:n<=nr)
  (hs:iJ L a lo (lo+n)) (h:∀b m,gI lo a b->1<=m->m<=nr->iR L b lo (lo+m)->Q (some m) (setArr st b)):wpS M A E s (jk lo n nr) Q (setArr st a):=by
 unfold jk;refine YAV (Zd1 ?_);have hK:gI lo a (mirror a lo (lo+n) ((lo+n-lo)/2)):=gI.mir ∅ (YAT _);refine YAV (Zkw hC hP hk (hK.d hd) (by rw[hK.sz];exact hn) h1 hnn ?_ λm hm1 hm2 hsm _=>YAe (h _ m hK ∅ hm2 hsm));intro i j hli hij hj;rw[Zhn ∅,Zhn ∅,YAS ∅,YAS ∅];exact hs _ _ ∅ ∅ ∅
def Zfi (hC:il L)(hj:j<=a.size)(he:∀k,i<=k->k<j->Eqv L (at0 a k) (at0 a (j-1)))(k:Nat):Eqv L (at0 (mirror a i j ((j-i)/2)) k) (at0 a k):=by
 rw[Zhn hj];split
 .have e1:=he (i+j-1-k) ∅ ∅;have e2:=he k ∅ ∅;exact⟨hC.t e1.1 e2.2,hC.t e2.1 e1.2⟩
 .exact⟨hC.rf _,hC.rf _⟩
def iJ.eqv (hC:il L)(hs:iJ L a l h)(he:∀k,Eqv L (at0 b k) (at0 a k)):iJ L b l h:=
 λi j h1 h2 h3=>hC.t (he j).1 (hC.t (hs i j h1 h2 h3) (he i).2)
def iJ.more (hC:il L)(hs:iJ L a l x)(hle:l<x->Le L (at0 a x) (at0 a (x-1))):iJ L a l (x+1):=by
 intro i j hli hij hj;by_cases hjx:j<x
 .exact hs i j hli hij hjx
 .have hj':j=x:=by lia
  subst hj';by_cases hi':i=j
  .subst hi';exact hC.rf _
  .exact hC.t (hle ∅) (hs i (j-1) hli ∅ ∅)
def Zh5 {a:Array Keyed}{lo n nr:Nat}{Q:DescSt->SortSt->Prop}(hC:il L)(hP:ib M A E s D L kd)(hk:kindOf st=kd)(hd:∀u∈a.toList,D u)(hn:lo+nr<=a.size)(h1:1<=n)(hnn:n<=nr)
  (hs:iJ L a lo (lo+n))
  (h:∀b m nq,gI lo a b->n<=m->m<=nr->iJ L b lo (lo+m)->nq+1<=m->(∀i,lo+m-(nq+1)<=i->i<lo+m->Eqv L (at0 b i) (at0 b (lo+m-1)))->Q (none,m,nq) (setArr st b)):
  wpS M A E s (kA lo n nr) Q (setArr st a):=by
 unfold kA;refine YBe (I:=λx c st'=>∃b nq,st'=setArr st b/\c=(none,x,nq)/\gI lo a b/\iJ L b lo (lo+x)/\nq+1<=x /\
   (∀i,lo+x-(nq+1)<=i->i<lo+x->Eqv L (at0 b i) (at0 b (lo+x-1)))) ?step ?fin ⟨a,0,rfl,rfl,gI.rf _ _,hs,∅,λi h1 h2=>by rw[show i=lo+n-1 by lia];exact⟨hC.rf _,hC.rf _⟩⟩
 case fin=>
  rintro c st' ⟨b,nq,rfl,rfl,hK,hs',hq,he⟩;rw[show max n nr=nr by lia]at hs' hq he ⊢;exact h b nr nq hK hnn (YAT _) hs' hq he
 case step=>
  rintro x c st' hax hxn ⟨b,nq,rfl,rfl,hK,hs',hq,he⟩;have hbs:=hK.sz;have hdb:=hK.d hd;dsimp only;refine YAV (Zf6 hP hk hdb ∅ ∅ ?_);cases hl:L (at0 b (lo+x)) (at0 b (lo+x-1)) with
  | true=>
   have hmore:iJ L b lo (lo+x+1):=hs'.more hC λ_=>hC.le hl;dsimp only;by_cases hq0:nq>0
   .rw[YAS rfl,YAS hq0];refine YAV (Zd1 (YAe ⟨_,0,rfl,rfl,hK.tr (gI.mir ∅ ∅),hmore.eqv hC (Zfi hC ∅ he),∅,λi h1 h2=>?_⟩));rw[show i=lo+(x+1)-1 by lia];exact⟨hC.rf _,hC.rf _⟩
   .rw[YAS rfl,YAL hq0];refine YAe ⟨b,0,rfl,rfl,hK,hmore,∅,λi h1 h2=>?_⟩;rw[show i=lo+(x+1)-1 by lia];exact⟨hC.rf _,hC.rf _⟩
  | false=>
   dsimp only;rw[YAL YAE];refine YAV (Zf6 hP hk hdb ∅ ∅ ?_);cases hg:L (at0 b (lo+x-1)) (at0 b (lo+x)) with
   | true=>exact YAe (h b x nq hK hax ∅ hs' hq he)
   | false=>
    refine YAe ⟨b,nq+1,rfl,rfl,hK,hs'.more hC λ_=>hg,∅,λi h1 h2=>?_⟩;rw[show lo+(x+1)-1=lo+x by lia];by_cases hix:i=lo+x
    .subst hix;exact⟨hC.rf _,hC.rf _⟩
    .have e:=he i ∅ ∅;exact⟨hC.t e.1 hl,hC.t hg e.2⟩
def ZnU {a:Array Keyed}{lo nr:Nat}{Q:Option Nat->SortSt->Prop}(hC:il L)(hP:ib M A E s D L kd)(hk:kindOf st=kd)(hd:∀u∈a.toList,D u)(hn:lo+nr<=a.size)(h1:1<=nr)
  (h:∀b m,gI lo a b->1<=m->m<=nr->iR L b lo (lo+m)->Q (some m) (setArr st b)):wpS M A E s (countRun' lo nr) Q (setArr st a):=by
 rw[countRun'_eq];refine YAV (YCV (Zkw (Q:=λc st'=>∃n,c=(none,n)/\st'=setArr st a/\1<=n/\n<=nr/\iR L a lo (lo+n)/\(n=nr\/L (at0 a (lo+n)) (at0 a (lo+n-1))=true)) hC hP hk hd hn (YAT 1) h1 (λi j hl hij hj=>by have:i=j:=∅;subst this;exact hC.rf _) λn a1 a2 a3 a4=>⟨n,rfl,rfl,a1,a2,a3,a4⟩) ?_);rintro c st' ⟨n,rfl,rfl,hn1,hn2,hsn,hor⟩;dsimp only;by_cases hnn:n=nr
 .rw[YAS (~~~hnn)];exact YAe (h a n (gI.rf _ _) hn1 hn2 hsn)
 .rw[YAL (~~~hnn)];have A4:=hor.resolve_left hnn;by_cases hgt:n>1
  .rw[YAS hgt];refine YAV (Zf6 hP hk hd ∅ ∅ ?_);cases hrose:L (at0 a lo) (at0 a (lo+n-1)) with
   | true=>
    dsimp only;rw[YAS rfl];exact YAe (h a n (gI.rf _ _) hn1 hn2 hsn)
   | false=>
    dsimp only;rw[YAL YAE];have hall:∀k,lo<=k->k<lo+n->Eqv L (at0 a k) (at0 a (lo+n-1)):=by intro k hk1 hk2;have a1:=hsn lo k ∅ hk1 hk2;have a2:=hsn k (lo+n-1) hk1 ∅ ∅;exact⟨a2,hC.t hrose a1⟩
    have hsd:iJ L a lo (lo+(n+1)):=by refine iJ.more hC (λi j h1 h2 h3=>?_) λ_=>hC.le A4;replace h3:j<lo+n:=h3;exact hC.t (hall j ∅ h3).1 (hall i h1 ∅).2
    have hK:gI lo a (mirror a lo (lo+n) ((lo+n-lo)/2)):=gI.mir ∅ (YAT _);refine YAV (Zd1 ?_);obtain⟨b,hb,hKb,hsb⟩:∃b,b=mirror a lo (lo+n) ((lo+n-lo)/2)/\gI lo a b/\iJ L b lo (lo+(n+1)):=⟨_,rfl,hK,hsd.eqv hC (Zfi hC ∅ hall)⟩;rw[<-hb];have hbs:=gI.sz hKb;refine YAV (wpS_lift (YBn ⟨rfl,?_⟩));refine YAV (Zh5 hC hP hk (gI.d hKb hd) ∅ ∅ ∅ hsb λc m nq hK hm1 hm2 hs' hq he=>?_);have hcs:=hK.sz;have hdc:=hK.d (gI.d hKb hd);dsimp only;by_cases hq0:nq>0
    .rw[YAS hq0];have hK2:gI lo c (mirror c (lo+m-(nq+1)) (lo+m) ((lo+m-(lo+m-(nq+1)))/2)):=gI.mir ∅ ∅;refine YAV (Zd1 ?_);refine Eq.mp ?_ (ZdG (Q:=Q) hC hP hk (hK2.d hdc) (by rw[hK2.sz];lia) ∅ hm2 (hs'.eqv hC (Zfi hC ∅ he)) λd k hc=>h d k (gI.tr hKb (hK.tr (hK2.tr hc))));refine congrArg (λm=>wpS _ _ _ _ m _ _) ?_;unfold jk jH;refine congrArg _ (funext λ_=>congrArg _ (funext λc=>?_));obtain⟨r3,n3⟩:=c;cases r3<;>rfl
    .rw[YAL hq0];refine Eq.mp ?_ (ZdG (Q:=Q) hC hP hk hdc ∅ ∅ hm2 hs' λd k hc=>h d k (gI.tr hKb (hK.tr hc)));refine congrArg (λm=>wpS _ _ _ _ m _ _) ?_;unfold jk jH;refine congrArg _ (funext λ_=>congrArg _ (funext λc=>?_));obtain⟨r3,n3⟩:=c;cases r3<;>rfl
  .rw[YAL hgt];obtain⟨b,hb,hKb,hsb⟩:∃b,b=a/\gI lo a b/\iJ L b lo (lo+(n+1)):=⟨_,rfl,gI.rf _ _,iJ.more hC (λi j h1 h2 h3=>by replace h3:j<lo+n:=h3;rw[show i=j by lia];exact hC.rf _) λ_=>hC.le A4⟩
   rw[<-hb];have hbs:=gI.sz hKb;refine YAV (wpS_lift (YBn ⟨rfl,?_⟩));refine YAV (Zh5 hC hP hk (gI.d hKb hd) ∅ ∅ ∅ hsb λc m nq hK hm1 hm2 hs' hq he=>?_);have hcs:=hK.sz;have hdc:=hK.d (gI.d hKb hd);dsimp only;by_cases hq0:nq>0
   .rw[YAS hq0];have hK2:gI lo c (mirror c (lo+m-(nq+1)) (lo+m) ((lo+m-(lo+m-(nq+1)))/2)):=gI.mir ∅ ∅;refine YAV (Zd1 ?_);refine Eq.mp ?_ (ZdG (Q:=Q) hC hP hk (hK2.d hdc) (by rw[hK2.sz];lia) ∅ hm2 (hs'.eqv hC (Zfi hC ∅ he)) λd k hc=>h d k (gI.tr hKb (hK.tr (hK2.tr hc))));refine congrArg (λm=>wpS _ _ _ _ m _ _) ?_;unfold jk jH;refine congrArg _ (funext λ_=>congrArg _ (funext λc=>?_));obtain⟨r3,n3⟩:=c;cases r3<;>rfl
   .rw[YAL hq0];refine Eq.mp ?_ (ZdG (Q:=Q) hC hP hk hdc ∅ ∅ hm2 hs' λd k hc=>h d k (gI.tr hKb (hK.tr hc)));refine congrArg (λm=>wpS _ _ _ _ m _ _) ?_;unfold jk jH;refine congrArg _ (funext λ_=>congrArg _ (funext λc=>?_));obtain⟨r3,n3⟩:=c;cases r3<;>rfl
end
noncomputable def Pd (L:Keyed->Keyed->Bool):Nat->List (Nat×Nat×Nat)->List (List Keyed)->Prop
 | _,[],[]=>True
 | o,t::ps,r::rs=>t.1=o/\t.2.1=r.length/\r≠[]/\r.Pairwise (Le L)/\Pd L (o+r.length) ps rs
 | _,_,_=>False
section
variable {M:Model}{A:AI}{E:Q33}{s:AF}{D:Keyed->Prop}{L:Keyed->Keyed->Bool}{kd:SortKind}{st:SortSt}
theorem Pd.len:∀ {ps:List (Nat×Nat×Nat)} {rs:List (List Keyed)} {o:Nat},Pd L o ps rs->ps.length=rs.length
 | [],[],_,_=>rfl
 | t::ps,r::rs,o,h=>by have:=Pd.len h.2.2.2.2;simp[this]
 | [],_::_,_,h=>h.elim
 | _::_,[],_,h=>h.elim
theorem Pd.le:∀ {ps:List (Nat×Nat×Nat)} {rs:List (List Keyed)} {o:Nat},Pd L o ps rs->ps.length<=rs.flatten.length
 | [],[],_,_=>by simp
 | t::ps,r::rs,o,h=>by
  have h1:=Pd.le h.2.2.2.2;have h2:=YBN.mpr h.2.2.1;rw[YDA,YAF,YAf];lia
 | [],_::_,_,h=>h.elim
 | _::_,[],_,h=>h.elim
theorem Pd.app:∀ {ps:List (Nat×Nat×Nat)} {rs:List (List Keyed)} {o:Nat} {t:Nat×Nat×Nat} {r:List Keyed},Pd L o ps rs->t.1=o+rs.flatten.length->t.2.1=r.length->r≠[]->r.Pairwise (Le L)->Pd L o (ps++[t]) (rs++[r])
 | [],[],o,t,r,_,h1,h2,h3,h4=>⟨~~~h1,h2,h3,h4,trivial⟩
 | t::ps,r::rs,o,t',r',h,h1,h2,h3,h4=>⟨h.1,h.2.1,h.2.2.1,h.2.2.2.1,Pd.app h.2.2.2.2 (by rw[h1,YDA,YAF];lia) h2 h3 h4⟩
 | [],_::_,_,_,_,h,_,_,_,_=>h.elim
 | _::_,[],_,_,_,h,_,_,_,_=>h.elim
theorem Pd.pow:∀ {ps qs:List (Nat×Nat×Nat)} {rs:List (List Keyed)} {o:Nat},Pd L o ps rs->ps.map (λt=>(t.1,t.2.1))=qs.map (λt=>(t.1,t.2.1))->Pd L o qs rs
 | [],qs,[],_,_,e=>by
  have:qs=[]:=by simpa using e.symm
  subst this;trivial
 | t::ps,qs,r::rs,o,h,e=>by
  cases qs with
  | nil=>simp at e
  | cons u qs=>
   simp only[YAc,List.cons.injEq,Prod.mk.injEq]at e;exact⟨e.1.1▸h.1,e.1.2▸h.2.1,h.2.2.1,h.2.2.2.1,Pd.pow h.2.2.2.2 e.2⟩
 | [],_,_::_,_,h,_=>h.elim
 | _::_,_,[],_,h,_=>h.elim
theorem Pd.pick:∀ {ps:List (Nat×Nat×Nat)} {rs:List (List Keyed)} {o i:Nat},Pd L o ps rs->i+1<ps.length ->
  ∃ra X Y rb pw pw2,rs=ra++X::Y::rb/\ps[i]?=some (o+ra.flatten.length,X.length,pw)/\ps[i+1]?=some (o+ra.flatten.length+X.length,Y.length,pw2)/\X≠[]/\Y≠[]/\X.Pairwise (Le L)/\Y.Pairwise (Le L) /\
   ∀V:List Keyed,V.length=X.length+Y.length->V.Pairwise (Le L)->Pd L o ((ps.set i (o+ra.flatten.length,X.length+Y.length,pw)).eraseIdx (i+1)) (ra++V::rb)
 | t::u::ps,r::r2::rs,o,0,h,_=>by
  obtain⟨a1,a2,a3,a4,b1,b2,b3,b4,b5⟩:=h;obtain⟨t1,t2,t3⟩:=t;obtain⟨u1,u2,u3⟩:=u;dsimp only at a1 a2 b1 b2;subst a1 a2 b1 b2;refine⟨[],r,r2,rs,t3,u3,rfl,by simp,by simp,a3,b3,a4,b4,λV hV hs=>?_⟩;refine⟨by simp,~~~hV.symm,?_,hs,?_⟩
  .intro e;rw[e]at hV;have:=YBN.mpr a3;simp at hV;lia
  .rw[hV,<-YCB];exact b5
 | t::ps,r::rs,o,i+1,h,hi=>by
  obtain⟨a1,a2,a3,a4,a5⟩:=h;obtain⟨ra,X,Y,rb,pw,pw2,h1,h2,h3,h4,h5,h6,h7,h8⟩:=Pd.pick a5 (i:=i) (~~~hi);refine⟨r::ra,X,Y,rb,pw,pw2,by rw[h1];rfl,?_,?_,h4,h5,h6,h7,λV hV hs=>?_⟩
  .rw[YCP,h2,YDA,YAF,YCB]
  .rw[YCP,h3,YDA,YAF,YCB o]
  .have:=h8 V hV hs;rw[List.set_cons_succ,List.eraseIdx_cons_succ,YDA,YAF,<-YCB];exact⟨a1,a2,a3,a4,this⟩
 | [_],[_],_,0,_,h=>by simp at h
 | [],_,_,_,_,h=>by simp at h
 | _::_,[],_,_,h,_=>h.elim
 | _::_::_,[_],_,0,h,_=>h.2.2.2.2.elim
 | [_],_::_::_,_,0,h,_=>h.2.2.2.2.elim
structure SI (L:Keyed->Keyed->Bool)(kd:SortKind)(a0:List Keyed)(n:Nat)(Z:List Keyed)(st:SortSt):Prop where
 kind:kindOf st=kd
 fail:failedOf st=none
 perm:(arrOf st).toList.Perm a0
 runs:∃rs:List (List Keyed),(arrOf st).toList=rs.flatten++Z/\rs.flatten.length=n/\Pd L 0 (pendingOf st).toList rs
def SI.merge (hC:il L)(hP:ib M A E s D L kd)(hd:∀u∈a0,D u)(h:SI L kd a0 n Z st)(hi:i+1<(pendingOf st).size)
  (q:∀st',SI L kd a0 n Z st'->(pendingOf st').size+1=(pendingOf st).size->Q true st'):wpS M A E s (mergeAt' i) Q st:=by
 obtain⟨h1,h2,h3,rs,h4,h5,h6⟩:=h;obtain⟨ra,X,Y,rb,pw,pw2,rfl,p1,p2,p3,p4,p5,p6,p7⟩:=h6.pick (i:=i) (~~~hi);rw[Nat.zero_add]at p1 p2;have ha:(arrOf st).toList=ra.flatten++X++Y++(rb.flatten++Z):=by rw[h4];simp
 refine Zpq hC.to hP h1 h2 ha (λu hu=>hd u (h3.mem_iff.mp hu)) p3 p4 p5 p6 (by rw[<-YAu];exact p1) (by rw[<-YAu];exact p2) λV a g hV hp hs=>?_;have hl:=hp.length_eq;rw[YAF]at hl;refine q _ ⟨rfl,rfl,?_,ra++V::rb,?_,?_,?_⟩ ?_
 .show a.toList.Perm a0;refine List.Perm.trans ?_ h3;rw[hV,ha];have:=(List.Perm.append_left ra.flatten hp).append_right (rb.flatten++Z);simpa using this
 .show a.toList=_;rw[hV];simp
 .rw[<-h5];simp[hl];lia
 .show Pd L 0 (Array.eraseIdxIfInBounds _ _).toList _;have:=p7 V hl hs;rw[Nat.zero_add]at this;rw[Array.toList_eraseIdxIfInBounds,YDD];exact this
 .show (Array.eraseIdxIfInBounds _ _).size+1=_;rw[<-YAG,Array.toList_eraseIdxIfInBounds,YDD,YCX (~~~hi),List.length_set,YAG]
  lia
end
def gI.pref {lo:Nat}{a b:Array Keyed}{F Z:List Keyed}(h:gI lo a b)(ha:a.toList=F++Z)(hF:F.length=lo):b.toList=F++b.toList.drop lo:=by
 have e:b.toList.take lo=F:=by
  refine YBZ λi=>?_;rw[YBr];by_cases hi:i<lo
  .rw[YAS hi,YAu,h.pre i hi,<-YAu,ha,YAm ∅]
  .rw[YAL hi,YAi ∅]
 conv=>lhs;rw[<-YAv lo b.toList,e]
def iR.pw {L:Keyed->Keyed->Bool}{b:Array Keyed}{lo m:Nat}(h:iR L b lo (lo+m)):((b.toList.drop lo).take m).Pairwise (Le L):=by
 rw[YCC];intro i j hi hj hij;rw[YAX,YAk,YAG]at hi hj;have e:∀k (hk:k<((b.toList.drop lo).take m).length),at0 b (lo+k)=((b.toList.drop lo).take m)[k]:=by intro k hk;rw[YAX,YAk,YAG]at hk;unfold at0;rw[getElem?_pos b (lo+k) ∅];simp
 rw[<-e i (by simp;lia),<-e j (by simp;lia)];exact h _ _ ∅ ∅ ∅
section
variable {M:Model}{A:AI}{E:Q33}{s:AF}{D:Keyed->Prop}{L:Keyed->Keyed->Bool}{kd:SortKind}{st:SortSt}
def SI.push {a0 R Z:List Keyed}{lo n p:Nat}(h:SI L kd a0 lo (R++Z) st)(h1:R.length=n)(h2:R≠[])(h3:R.Pairwise (Le L)):SI L kd a0 (lo+n) Z (setPending st ((pendingOf st).push (lo,n,p))):=by
 obtain⟨a1,a2,a3,rs,a4,a5,a6⟩:=h;refine⟨a1,a2,a3,rs++[R],?_,?_,?_⟩
 .show (arrOf st).toList=_;rw[a4];simp
 .simp[a5,h1]
 .show Pd L 0 ((pendingOf st).push (lo,n,p)).toList _;rw[YBi];exact a6.app (by simp[a5]) h1.symm h2 h3
def Zit (g:α->β)(f:α->α)(h:∀x,g (f x)=g x)(l:List α)(k:Nat):(l.modify k f).map g=l.map g:=by
 refine YBZ λi=>?_;rw[YAK,YAK,List.getElem?_modify];cases l[i]? with
 | none=>rfl
 | some x=>by_cases e:k=i<;>simp[e,h]
def SI.pow {a0 Z:List Keyed}{lo k w:Nat}(h:SI L kd a0 lo Z st):SI L kd a0 lo Z (setPending st ((pendingOf st).modify k λx=>(x.1,x.2.1,w))):=by obtain⟨a1,a2,a3,rs,a4,a5,a6⟩:=h;refine⟨a1,a2,a3,rs,a4,a5,?_⟩;show Pd L 0 ((pendingOf st).modify k _).toList _;rw[Array.toList_modify];exact a6.pow (Zit (λt=>(t.1,t.2.1)) (λx=>(x.1,x.2.1,w)) (λ_=>rfl) _ _).symm
def ZgT (hC:il L)(hP:ib M A E s D L kd)(hd:∀u∈a0,D u)(hk:kindOf st=kd)(hf:failedOf st=none)(hpe:pendingOf st=#[])(ha:(arrOf st).toList=a0)
  (q:∀st',(arrOf st').toList.Perm a0->(arrOf st').toList.Pairwise (Le L)->failedOf st'=none->Q () st'):wpS M A E s sortRuns' Q st:=by
 rw[sortRuns'_eq];refine YAV (wpS_get ?_);dsimp only;obtain⟨N,hN⟩:∃N,N=(arrOf st).size:=⟨_,rfl⟩;have hN':a0.length=N:=by rw[hN,<-ha,YAG]
 rw[<-hN];have hSI:SI L kd a0 0 a0 st:=⟨hk,hf,by rw[ha],[],~~~ha,rfl,by rw[hpe];trivial⟩;refine YAV (YCV (YBe (a:=0) (b:=N) (I:=λx c st'=>∃lo Z,c=(none,lo)/\SI L kd a0 lo Z st'/\x<=lo/\lo<=N)
  (Q:=λc st'=>∃Z,c=(none,N)/\SI L kd a0 N Z st') ?step ?fin ⟨0,a0,rfl,hSI,∅,∅⟩) ?post)
 case fin=>
  rintro c st' ⟨lo,Z,rfl,hS,hx,hl⟩;have:lo=N:=by lia
  subst this;exact⟨Z,rfl,hS⟩
 case post=>
  rintro c st' ⟨Z,rfl,hS⟩;have hZ:∀st',SI L kd a0 N Z st'->Z=[]:=by intro st' hS;obtain⟨h1,h2,h3,rs,h4,h5,h6⟩:=hS;have:=h3.length_eq;rw[h4,YAF,h5,hN']at this;exact YBq.mp ∅
  dsimp only;refine YAV (YCV (YBe (a:=0) (b:=N) (I:=λx c st'=>c=(none,())/\SI L kd a0 N Z st'/\(pendingOf st').size+x<=N)
   (Q:=λc st'=>c=(none,())/\SI L kd a0 N Z st'/\(pendingOf st').size<=1) ?s2 ?f2 ⟨rfl,hS,?_⟩) ?p2)
  case f2=>
   rintro c st' ⟨rfl,hS,hx⟩;exact⟨rfl,hS,∅⟩
  case p2=>
   rintro c st' ⟨rfl,hS,hx⟩;obtain⟨h1,h2,h3,rs,h4,h5,h6⟩:=hS;have:=hZ st' ⟨h1,h2,h3,rs,h4,h5,h6⟩;subst this;refine YAe (q st' h3 ?_ h2);have hl:=h6.len;rw[YAG]at hl;rw[h4,YDT];cases rs with
   | nil=>exact List.Pairwise.nil
   | cons r rs=>
    cases rs with
    | nil=>
     cases hps:(pendingOf st').toList with
     | nil=>rw[hps]at h6;exact h6.elim
     | cons t ps=>rw[hps]at h6;simpa using h6.2.2.2.1
    | cons r2 rs=>simp at hl;lia
  case s2=>
   rintro x c st' _ hx ⟨rfl,hS,hpx⟩;refine YAV (wpS_get ?_);by_cases hp1:(pendingOf st').size<=1
   .rw[YAS hp1];exact YAe ⟨rfl,hS,hp1⟩
   .rw[YAL hp1];refine YAV (hS.merge hC hP hd ?_ λst2 hS2 hp2=>?_)
    .have hle:∀(c:Prop) [Decidable c] (k:Nat),(if c then k-1 else k)<=k:=λc _ k=>by split<;>lia
     exact YCc (YDK (hle _ _)) ∅
    .exact YAe ⟨rfl,hS2,∅⟩
  .obtain⟨h1,h2,h3,rs,h4,h5,h6⟩:=hS;have:=h6.le;rw[YAG]at this
   lia
 case step=>
  rintro x c st' _ hx ⟨lo,Z,rfl,hS,hxl,hl⟩;dsimp only;by_cases hlo:lo>=N
  .rw[YAS hlo];have:lo=N:=by lia
   subst this;exact YAe ⟨Z,rfl,hS⟩
  rw[YAL hlo];obtain⟨h1,h2,h3,rs,h4,h5,h6⟩:=hS;have hsz:(arrOf st').size=N:=by rw[<-YAG,h3.length_eq,hN']
  have hda:∀u∈(arrOf st').toList,D u:=λu hu=>hd u (h3.mem_iff.mp hu);refine YAV (Eq.mp (congrArg (λv=>wpS M A E s (countRun' lo (N-lo)) _ v) (show setArr st' (arrOf st')=st' from rfl)) (ZnU hC hP h1 hda ∅ ∅ λb m hK hm1 hm2 hsm=>?_));dsimp only;have hbz:=hK.sz;by_cases hmr:m<minRun' N N 0
  .rw[YAS hmr];obtain⟨n,hn⟩:∃n,n=min (N-lo) (minRun' N N 0):=⟨_,rfl⟩;rw[<-hn];refine YAV (wpS_lift (YBn ⟨rfl,?_⟩));refine YAV (ZnW hC hP h1 (hK.d hda) ∅ ∅ hsm λb2 hK2 hs2=>?_);rw[YAL (by simp)];have hKb:=hK.tr hK2;have hn1:1<=n:=by lia
   have hn2:n<=N-lo:=by lia
   have hbz2:=gI.sz hKb;have hb1:=gI.pref hKb h4 h5;obtain⟨R,hR⟩:∃R,R=(List.drop lo (Array.toList b2)).take n:=⟨_,rfl⟩;obtain⟨Z2,hZ2⟩:∃Z2,Z2=(List.drop lo (Array.toList b2)).drop n:=⟨_,rfl⟩;have hRZ:(List.drop lo (Array.toList b2))=R++Z2:=by rw[hR,hZ2,YAv]
   have hRl:R.length=n:=by rw[hR,YAX,YAk,YAG];lia
   have hRn:R≠[]:=by intro e;rw[e]at hRl;simp at hRl;lia
   have hRs:R.Pairwise (Le L):=by rw[hR];exact iR.pw hs2
   have hS:SI L kd a0 lo (R++Z2) (setArr st' b2):=⟨h1,h2,(YDE.mp (gI.perm hKb)).trans h3,rs,by rw[<-hRZ];exact hb1,h5,h6⟩;refine YAV (wpS_get ?_);cases hb:(pendingOf (setArr st' b2)).back? with
   | none=>
    dsimp only;exact YAV (YCh (YAe ⟨lo+n,Z2,rfl,hS.push hRl hRn hRs,∅,∅⟩))
   | some t=>
    obtain⟨s1,n1,p1⟩:=t;dsimp only;refine YAV (YCV (YBe (a:=0) (b:=N) (I:=λy c st2=>c=(none,())/\SI L kd a0 lo (R++Z2) st2) (Q:=λc st2=>c=(none,())/\SI L kd a0 lo (R++Z2) st2) ?_ (λ_ _ h=>h) ⟨rfl,hS⟩) ?_)
    .rintro y c st2 _ _ ⟨hc,hS2⟩;subst hc;refine YAV (wpS_get ?_);by_cases hp:(pendingOf st2).size>1
     .rw[YAS hp];obtain⟨t,ht⟩:∃t,(pendingOf st2)[(pendingOf st2).size-2]?=some t:=⟨_,getElem?_pos _ _ ∅⟩;obtain⟨t1,t2,t3⟩:=t;rw[ht];dsimp only;split
      .exact YAe ⟨rfl,hS2⟩
      .exact YAV (hS2.merge hC hP hd ∅ λst3 hS3 _=>YAe ⟨rfl,hS3⟩)
     .rw[YAL hp];exact YAe ⟨rfl,hS2⟩
    .rintro c st2 ⟨hc,hS2⟩;subst hc;exact YAV (YCh (YAV (YCh (YAe ⟨lo+n,Z2,rfl,hS2.pow.push hRl hRn hRs,∅,∅⟩))))
  .rw[YAL hmr];have hKb:=hK;have hbz2:=gI.sz hKb;have hb1:=gI.pref hKb h4 h5;obtain⟨R,hR⟩:∃R,R=(List.drop lo (Array.toList b)).take m:=⟨_,rfl⟩;obtain⟨Z2,hZ2⟩:∃Z2,Z2=(List.drop lo (Array.toList b)).drop m:=⟨_,rfl⟩;have hRZ:(List.drop lo (Array.toList b))=R++Z2:=by rw[hR,hZ2,YAv]
   have hRl:R.length=m:=by rw[hR,YAX,YAk,YAG];lia
   have hRn:R≠[]:=by intro e;rw[e]at hRl;simp at hRl;lia
   have hRs:R.Pairwise (Le L):=by rw[hR];exact iR.pw hsm
   have hS:SI L kd a0 lo (R++Z2) (setArr st' b):=⟨h1,h2,(YDE.mp (gI.perm hKb)).trans h3,rs,by rw[<-hRZ];exact hb1,h5,h6⟩;refine YAV (wpS_get ?_);cases hb:(pendingOf (setArr st' b)).back? with
   | none=>
    dsimp only;exact YAV (YCh (YAe ⟨lo+m,Z2,rfl,hS.push hRl hRn hRs,∅,∅⟩))
   | some t=>
    obtain⟨s1,n1,p1⟩:=t;dsimp only;refine YAV (YCV (YBe (a:=0) (b:=N) (I:=λy c st2=>c=(none,())/\SI L kd a0 lo (R++Z2) st2) (Q:=λc st2=>c=(none,())/\SI L kd a0 lo (R++Z2) st2) ?_ (λ_ _ h=>h) ⟨rfl,hS⟩) ?_)
    .rintro y c st2 _ _ ⟨hc,hS2⟩;subst hc;refine YAV (wpS_get ?_);by_cases hp:(pendingOf st2).size>1
     .rw[YAS hp];obtain⟨t,ht⟩:∃t,(pendingOf st2)[(pendingOf st2).size-2]?=some t:=⟨_,getElem?_pos _ _ ∅⟩;obtain⟨t1,t2,t3⟩:=t;rw[ht];dsimp only;split
      .exact YAe ⟨rfl,hS2⟩
      .exact YAV (hS2.merge hC hP hd ∅ λst3 hS3 _=>YAe ⟨rfl,hS3⟩)
     .rw[YAL hp];exact YAe ⟨rfl,hS2⟩
    .rintro c st2 ⟨hc,hS2⟩;subst hc;exact YAV (YCh (YAV (YCh (YAe ⟨lo+m,Z2,rfl,hS2.pow.push hRl hRn hRs,∅,∅⟩))))
end
noncomputable def ka (κ:KeyKind) (p:Keyed):κ.α:=(κ.keyOf p.1).getD κ.dflt
noncomputable def ltD (κ:KeyKind) (x y:Keyed):Bool:=κ.blt (ka κ x) (ka κ y)
def Zng (κ:KeyKind):il (ltD κ):=
 ⟨λx y _ _ h=>KeyOrd.klt_asymm (O:=κ.toKeyOrd) h,λx y z _ _ _ h1 h2=>KeyOrd.kle_trans (O:=κ.toKeyOrd) h1 h2⟩
section
def Zle (hO:κ.OneLt):ib (model prog w) A E s (λp=>∃a,κ.keyOf p.1=some a) (ltD κ) oneType':=by
 rintro st ⟨x,p⟩ ⟨y,r⟩ Q hk ⟨a,ha⟩ ⟨b,hb⟩ q;have e:ltD κ (x,p) (y,r)=κ.blt a b:=by unfold ltD ka;rw[ha,hb];rfl
 rw[e]at q;rw[lt'_eq];refine YAV (wpS_get ?_);rw[hk,keyLt'_oneType];exact YAV (wpS_lift (YCa (hO prog w A _ s x y a b ha hb ⟨rfl,YAe q⟩)))
def ZkE {a0:Array Keyed}{st:SortSt}{Q:Unit->SortSt->Prop}(hO:κ.OneLt)(h0:KeysOf κ a0)(hk:kindOf st=oneType')(hf:failedOf st=none)(hp:pendingOf st=#[])(ha:arrOf st=a0)
  (q:∀st',(arrOf st').Perm a0->failedOf st'=none->SortedToK κ (arrOf st') a0.size->Q () st'):wpS (model prog w) A E s sortRuns' Q st:=by
 refine ZgT (a0:=a0.toList) (Zng κ) (Zle hO) h0 hk hf hp (by rw[ha]) λst' p1 p2 p3=>q st' (YDE.mpr p1) p3 ?_;have hsz:(arrOf st').size=a0.size:=by rw[<-YAG,p1.length_eq,YAG]
 intro i j hij hj;have hK:∀k (hk:k<(arrOf st').size),KK κ (arrOf st') k=ka κ ((arrOf st').toList[k]'(~~~hk)):=by intro k hk;unfold KK ka;rw[getElem?_pos _ k hk];rfl
 rw[hK i ∅,hK j ∅];by_cases e:i=j
 .subst e;exact KeyOrd.kle_refl _
 .exact YCC.mp p2 i j (by simp;lia) (by simp;lia) ∅
end
section
def ZkD (hO:κ.OneLt) {a:AE} {vs:AD} {n:Nat} {P:Fin->AF->Prop} (ho:s.heap.get? a=some (seqObj "list" vs.toArray n))
  (h0:KeysOf κ (pairsOf vs)) (hkk:∀x y r,vs=x::y::r->keyKind' (x::y::r).toArray=pure oneType') (hN:vs.length<=sizeLine)
  (h:∀v:SortSt,(arrOf v).Perm (pairsOf vs)->SortedToK κ (arrOf v) (pairsOf vs).size->P (.done (.ret .none)) { s with heap:=sortedHeap s.heap a vs ((arrOf v).map (·.2)) }):
  wpAny (model prog w) A (Builtin.«list.sort» ⟨[.ref a],[]⟩) P E s:=by
 by_cases h64:vs.length<64
 .exact list_sort_treeK hO ho h0 hkk h64 h
 obtain⟨x,y,r,hv⟩:∃x y r,vs=x::y::r:=by
  match vs,h64 with
  | x::y::r,_=>exact⟨x,y,r,rfl⟩
  | [x],h=>simp at h
  | [],h=>simp at h
 have h2:¬vs.toArray.size<2:=by rw[YAM];lia
 have A4:a<s.heap.objs.size:=YAR ho;have up:=get?_update_seq ho (λ_=>#[]);generalize hep:(if (#[]:Array Value).size == vs.toArray.size then n else n+1)=ep at up;have up3:(((s.heap.update a (Obj.mapSeq λ_=>#[])).push (seqObj "tuple" vs.toArray 0)).push (seqObj "list" #[] 0)).get? a=some (seqObj "list" #[] ep):=by
  rw[Heap.get?_push_ne,Heap.get?_push_ne]
  .exact up
  .rw[Heap.size_update];exact YAd A4
  .rw[size_push',Heap.size_update];exact YAd (YBy A4)
 rw[list_sort_plain];refine YAA (listItems_at ho rfl (YAA (listUpdate_at ho rfl (YAA (seqEpoch_at up rfl (YAA (wpAny_newTuple (YAA (wpAny_newList (YBD ?_)))))) ) (hsz:=by rw[YAM];exact hN))));dsimp only;rw[YAL h2,YAL h2];have hk1:keyKind' vs.toArray=pure oneType':=by rw[hv];exact hkk x y r hv
 rw[hk1];refine YAA (YAC (YAA (YBg (ZkE hO h0 (st:=SortSt.mk' oneType' (pairsOf vs) #[] 7 none) (Q:=λ_ v=>(arrOf v).Perm (pairsOf vs)/\failedOf v=none/\SortedToK κ (arrOf v) (pairsOf vs).size) rfl rfl rfl rfl λv p1 p2 p3=>⟨p1,p2,p3⟩) ?_ λ_ _ e=>e)));rintro⟨⟨⟩,v⟩ s2 ⟨rfl,p1,p2,p3⟩;dsimp only;refine YAA (seqEpoch_at up3 rfl (YAA (listUpdate_at up3 rfl ?_ (hsz2:=?_))))
 .rw[p2,bne_self_eq_false];exact YAC (h v p1 p3)
 .rw[Array.size_map,p1.size_eq,pairsOf_size];lia
end
section
def ZeG {vs:AD}{ms:Q22}{Q:Q33}(hv:gs (ms.map tx) vs)(h64:ms.length<=sizeLine)
  (h:∀(h':Heap) (us:AD) (e:Nat),(∀b o,s.heap.get? b=some o->h'.get? b=some o)->h'.get? s.heap.objs.size=some { cls:=.type "list",data:=.seq us.toArray e }->gs ((Zbn ms).map tx) us->Q (.ref s.heap.objs.size) { s with heap:=h' }):
  wpAny (model prog w) A (do let l <-newList vs;let _ <-holding [l] (call (.builtin "list.sort") [l] []);ret l) (λfin s'=>∃v,fin=Fin.done (Flow.ret v)/\Q v s') E s:=by
 have hS:=Zi5 hv;have Av:vs.length<=sizeLine:=by rw[<-hv.length,YAB];exact h64
 refine YAA (wpAny_newList ?_ ?_)
 .have hoL:(s.heap.push (seqObj "list" vs.toArray 0)).get? s.heap.objs.size=some (seqObj "list" vs.toArray 0):=YAU _ rfl;refine YAA (YBD (YBs slot_list_sort ⟨_,hoL,rfl⟩ entry_list_sort (ZkD strKind_oneLt hoL hS.keysOf (λv9 v_2 rest e=>keyKind_strs (by rw[<-e];exact hS)) Av λst' a1 a2=>⟨_,rfl,?_⟩) (args_list_sort _)));obtain⟨ss',b1,b2,b3⟩:=sorted_out_str hS a1 a2;obtain⟨e,he⟩:=sortedHeap_at (out:=(arrOf st').map (·.2)) hoL;refine YAC ⟨_,rfl,h _ ((arrOf st').map (·.2)).toList e (λb o q=>?_) ?_ ?_⟩
  .have A4:=YAR q;have hlt':b<(s.heap.push (seqObj "list" vs.toArray 0)).objs.size:=by rw[YBa];exact YBy A4
   exact(sortedHeap_old (YAd A4) hlt').trans (YAD _ q)
  .have q:((arrOf st').map (·.2)).toList.toArray=(arrOf st').map (·.2):=YDG;rw[q];exact he
  .have p1:(ss'.map λx=>x.cps.toList).Perm ms:=by
    have:=b2.map (λx:Str=>x.cps.toList)
    rwa [ZlL]at this
   have e1:=ZbW p1 (Zfb b3);rw[<-e1];exact Zi4 b1
 .exact Av
def ZgP (hh:A.handled=none)(hS:gF prog w s.heap S ls (!ZaZ w))(h64:ls.length<=sizeLine)
  (h:∀(s':AF) (a:AE) (us:AD) (e:Nat),s.heap.get? a=none->(∀b o,s.heap.get? b=some o->s'.heap.get? b=some o)->s'.gens=s.gens->s'.os=s.os->s'.heap.get? a=some { cls:=.type "list",data:=.seq us.toArray e }->gs ((Zbn ls).map tx) us->Q (.ref a) s'):
  wpAny (model prog w) A (call (.builtin "sorted") [.ref S]) Q E s:=by
 refine Calls.call_function_entry kind_sorted plain_sorted entry_sorted (args_sorted1 _) ?_;unfold Builtin.«sorted»;refine YAA (m:=checkCount "sorted" 1 1 _) (YAC ?_);refine YAA (Zhj (by first | exact hh | simpa using hh) hS h64 λs' vs ms k1 hg ho hp hv=>?_);have hl:ms.length<=sizeLine:=by rw[hp.length_eq];exact h64
 refine ZeG hv hl λh' us e k2 he r=>?_;rw[ZdV hp]at r;exact h _ _ us e (by
  cases q:s.heap.get? s'.heap.objs.size with
  | none=>rfl
  | some o=>exact absurd (YAR (k1 _ _ q)) (YBM _)) (λb o q=>k2 b o (k1 b o q)) hg ho he r
end
section
end
def Zdx (b:Bool)(x y:Value):keyLt' (tuples' b) x y=(do
  let xs <-Builtin.List.listItems x
  let ys <-Builtin.List.listItems y
  for ((p,r),i) in (xs.toList.zip ys.toList).zipIdx do
   if !(<-eqBool p r) then return <-oneLt' (b&&i == 0) p r
  return xs.size<ys.size):=rfl
noncomputable def jM (h:Heap):Value->Int×Q11
 | .ref a=>match h.get? a with
  | some o=>match o.data with
   | .seq xs _=>match xs.toList with
    | [.int n _,.str w _]=>(n,w.cps.toList)
    | _=>(0,[])
   | _=>(0,[])
  | none=>(0,[])
 | _=>(0,[])
noncomputable def ltP (a b:Int×Q11):Bool:=decide (a.1<b.1) || (a.1 == b.1&&decide (a.2<b.2))
noncomputable def ltT (h:Heap) (x y:Keyed):Bool:=ltP (jM h x.1) (jM h y.1)
def Zg2:ltP a b=true↔a.1<b.1\/(a.1=b.1/\a.2<b.2):=by unfold ltP;simp
def ZjD:ltP b a=false↔a.1<b.1\/(a.1=b.1/\¬b.2<a.2):=by
 rw[<-Bool.not_eq_true,Zg2];constructor
 .intro h;by_cases e:a.1=b.1
  .exact .inr ⟨e,λk=>h (.inr ⟨e.symm,k⟩)⟩
  .exact .inl (by
    have:¬b.1<a.1:=λk=>h (.inl k)
    lia)
 .rintro (h | ⟨h,k⟩) (l | ⟨l,m⟩)
  .lia
  .lia
  .lia
  .exact k m
def Zne (h:Heap):il (ltT h):=by
 refine⟨λx y _ _ e=>?_,λx y z _ _ _ e f=>?_⟩
 .unfold ltT at e ⊢;rw[Zg2]at e;rw[ZjD];rcases e with e | ⟨e,f⟩
  .exact .inl e
  .exact .inr ⟨e,List.lt_asymm f⟩
 .unfold ltT at e f ⊢;rw[ZjD]at e f ⊢;rcases e with e | ⟨e,e2⟩<;>rcases f with f | ⟨f,f2⟩
  .exact .inl ∅
  .exact .inl ∅
  .exact .inl ∅
  .exact .inr ⟨∅,List.not_lt.mpr (List.le_trans (List.not_lt.mp e2) (List.not_lt.mp f2))⟩
noncomputable def IsT (h:Heap) (v:Value) (n:Int) (c:Q11):Prop:=∃a t w u e,v=.ref a/\h.get? a=some (seqObj "tuple" #[.int n t,.str w u] e)/\w.cps.toList=c
def IsT.key (k:IsT h v n c):jM h v=(n,c):=by obtain⟨a,t,w,u,e,rfl,ho,rfl⟩:=k;unfold jM;dsimp only;rw[ho]
section
def Zip (h:Q (decide (a.cps.toList<b.cps.toList)) s):wpAny (model prog w) A (oneLt' false (.str a t) (.str b u)) Q E s:=by rw[oneLt'_eq];simp only[YCe,if_false];refine YAA (wpAny_richCompare_same (typeIs_str s a t) (typeIs_str s b u) slot_str_lt (call_str_lt ⟨(λz=>nomatch z),?_⟩));exact YCv h
def Zlc:ib (model prog w) A E s (λp=>∃n c,IsT s.heap p.1 n c) (ltT s.heap) (tuples' true):=by
 rintro st ⟨x,p⟩ ⟨y,r⟩ Q hk ⟨n,c,hx⟩ ⟨m,d,hy⟩ q;have e:ltT s.heap (x,p) (y,r)=ltP (n,c) (m,d):=by unfold ltT;rw[hx.key,hy.key]
 rw[e]at q;obtain⟨a,t,v,u,ep,rfl,ho,rfl⟩:=hx;obtain⟨b,t2,v2,u2,ep2,rfl,ho2,rfl⟩:=hy;rw[lt'_eq];refine YAV (wpS_get ?_);rw[hk,Zdx];refine YAV (wpS_lift (YCa (YAA (listItems_at ho rfl (YAA (listItems_at ho2 rfl ?_))))));show wpAny _ _ (forIn [((Value.int n t,Value.int m t2),0),((Value.str v u,Value.str v2 u2),1)] _ _ >>= _) _ _ _;rw[YCk];refine YAA (YAA (YAA (wpAny_eqBool_int ?_)));by_cases hnm:n=m
 .subst hnm;rw[YAL (by simp)];refine YAC ?_;dsimp only;rw[YCk];refine YAA (YAA (eqBool_str ?_));by_cases hv:v=v2
  .subst hv;rw[YAL (by simp)];refine YAC ?_;dsimp only;rw[List.forIn_nil];refine YAC ?_;dsimp only;refine YAC ⟨rfl,YAe ?_⟩;have:ltP (n,v.cps.toList) (n,v.cps.toList)=false:=by unfold ltP;simp[YCq]
   rw[this]at q;simpa using q
  .rw[YAS (~~~hv)];refine YAA (Zip (YAC (YAC ?_)));dsimp only;refine YAC ⟨rfl,YAe ?_⟩;have:ltP (n,v.cps.toList) (n,v2.cps.toList)=decide (v.cps.toList<v2.cps.toList):=by unfold ltP;simp
   rw[this]at q;exact q
 .rw[YAS (~~~hnm)];refine YAA (oneLt_int (YAC (YAC ?_)));dsimp only;refine YAC ⟨rfl,YAe ?_⟩;have:ltP (n,v.cps.toList) (m,v2.cps.toList)=decide (n<m):=by unfold ltP;simp[hnm]
  rw[this]at q;exact q
end
structure Lin {α:Type}(lt:α->α->Bool):Prop where
 asym:∀a b,lt a b=true->lt b a=false
 trans:∀a b c,lt a b=true->lt b c=true->lt a c=true
 tri:∀a b,lt a b=false->lt b a=false->a=b
def Lin.neg {α:Type}{lt:α->α->Bool}(L:Lin lt){a b c:α}(h1:lt b a=false)(h2:lt c b=false):lt c a=false:=by
 cases h:lt c a with
 | false=>rfl
 | true=>
  cases h3:lt a b with
  | false=>rw[L.tri a b h3 h1]at h;rw[h]at h2;cases h2
  | true=>rw[L.trans c a b h h3]at h2;cases h2
theorem jS:∀(a b:Q11),a<b\/a=b\/b<a
 | [],[]=>.inr (.inl rfl)
 | [],_::_=>.inl .nil
 | _::_,[]=>.inr (.inr .nil)
 | c::a,d::b=>by
  rcases YCy c d with h | h | h
  .exact .inl (List.Lex.rel h)
  .subst h;rcases jS a b with h | h | h
   .exact .inl (List.Lex.cons h)
   .exact .inr (.inl (by rw[h]))
   .exact .inr (.inr (List.Lex.cons h))
  .exact .inr (.inr (List.Lex.rel h))
def ZjF:Lin (λa b:Q11=>decide (a<b)):=by
 refine⟨λa b h=>?_,λa b c h k=>?_,λa b h k=>?_⟩
 .exact decide_eq_false (List.lt_asymm (of_decide_eq_true h))
 .exact decide_eq_true (List.lt_trans (of_decide_eq_true h) (of_decide_eq_true k))
 .rcases jS a b with z | z | z
  .exact absurd z (of_decide_eq_false h)
  .exact z
  .exact absurd z (of_decide_eq_false k)
noncomputable def lexB {α β:Type} [DecidableEq α] (f:α->α->Bool) (g:β->β->Bool) (a b:α×β):Bool:=if a.1=b.1 then g a.2 b.2 else f a.1 b.1
section
end
section
theorem ZcJ:∀ {vs:AD} {Q:List (Option Value)->AF->Prop},(∀v∈vs,∃n c,IsT s.heap v n c) ->
  (∀us:AD,us.length=vs.length->(∀u∈us,∃n t,u=.int n t)->Q (us.map some) s)->wpAny (model prog w) A (vs.mapM firstOfTuple') Q E s
 | [],Q,_,q=>by rw[List.mapM_nil];exact YAC (q [] rfl (by simp))
 | v::vs,Q,h,q=>by
  obtain⟨n,c,a,t,x,u,e,rfl,ho,rfl⟩:=h v (by simp);rw[List.mapM_cons];refine YAA ?_;show wpAny _ _ (do
   if (<-typeOf (.ref a)) != .type "tuple" then return none
   return (<-Builtin.List.listItems (.ref a))[0]?) _ _ _
  refine YAA (wpAny_typeOf_ref ho ?_);rw[YAL (show ¬((Value.type "tuple" != Value.type "tuple")=true) by decide)];refine YAA (listItems_at ho rfl (YAC ?_));refine YAA (ZcJ (λv hv=>h v (by simp[hv])) λus hl hu=>YAC ?_);refine q (.int n t::us) (by simp[hl]) λu hu'=>?_;rcases YAJ.mp hu' with rfl | hu'
  .exact⟨n,t,rfl⟩
  .exact hu u hu'
def Zg5 (hv:∀v∈vs,∃n c,IsT s.heap v n c)(hne:vs≠[])(q:Q (tuples' true) s):wpAny (model prog w) A (keyKind' vs.toArray) Q E s:=by
 rw[keyKind'_eq,List.mapM_toArray,map_eq_pure_bind,bind_assoc];refine YAA (ZcJ hv λus hl hu=>?_);rw[pure_bind,YAS (by simp)];refine YAA (YBn ?_);have hI:IntsAre us (us.map numOf):=intsAre_map us hu;have e1:((us.map some).toArray.filterMap id)=us.toArray:=by simp
 rw[e1,oneTypeOnly'_eq,List.mapM_toArray,mapM_typeOf_ints hI];cases us with
 | nil=>
  cases vs with
  | nil=>exact absurd rfl hne
  | cons v vs=>simp at hl
 | cons u us=>
  simp only[map_pure,pure_bind];have h0:(List.map (λ_=>Value.type "int") (u::us)).toArray[0]?=some (Value.type "int"):=by simp
  have hall:((List.map (λ_=>Value.type "int") (u::us)).toArray.all λz=>z == Value.type "int")=true:=by rw[List.all_toArray,List.all_map,YBL];exact λ_ _=>rfl
  rw[h0];simp only[hall,if_true,pure_bind];exact YAC q
end
section
end
def Zdv (h:l.Perm l2):∀rows:List α,l2=rows.map f->∃rows':List α,rows'.Perm rows/\rows'.map f=l:=by
 induction h with
 | nil=>
  intro rows e;exact⟨rows,.refl _,e.symm⟩
 | cons x p ih=>
  intro rows e;cases rows with
  | nil=>cases e
  | cons r rs=>
   rw[YAc]at e;injection e with e1 e2;obtain⟨rs',p1,p2⟩:=ih rs e2;exact⟨r::rs',p1.cons r,by rw[YAc,p2,e1]⟩
 | swap x y l=>
  intro rows e
  match rows,e with
  | a::b::rs,e=>
   rw[YAc,YAc]at e;injection e with e1 e2;injection e2 with e2 e3;exact⟨b::a::rs,.swap a b rs,by rw[YAc,YAc,e1,e2,e3]⟩
 | trans p q ih1 ih2=>
  intro rows e;obtain⟨r1,p1,e1⟩:=ih2 rows e;obtain⟨r2,p2,e2⟩:=ih1 r1 e1.symm;exact⟨r2,p2.trans p1,e2⟩
section
end
abbrev KG:=Q11×AE
noncomputable def iZ (h:Heap):Value->Q11
 | .ref a=>match h.get? a with
  | some o=>match o.data with
   | .seq xs _=>match xs.toList with
    | [.str w _,_]=>w.cps.toList
    | _=>[]
   | _=>[]
  | none=>[]
 | _=>[]
noncomputable def IsG (h:Heap) (v:Value) (k:KG):Prop:=∃a o w u e,v=.ref a/\h.get? a=some o/\o.cls=.type "tuple"/\o.data=.seq #[.str w u,.ref k.2] e/\w.cps.toList=k.1
def IsG.key (q:IsG h v k):iZ h v=k.1:=by obtain⟨a,o,w,u,e,rfl,ho,_,hd,hw⟩:=q;unfold iZ;dsimp only;rw[ho];dsimp only;rw[hd];exact hw
noncomputable def ltG (x y:Q11):Bool:=decide (x<y)
noncomputable def jZ (h:Heap) (x y:Keyed):Bool:=ltG (iZ h x.1) (iZ h y.1)
def Znf (h:Heap):il (jZ h):=⟨λx y _ _ e=>ZjF.asym _ _ e,λx y z _ _ _ e f=>ZjF.neg e f⟩
def Unl (ks:List KG):Prop:=∀k∈ks,∀k2∈ks,k.1=k2.1->k=k2
section
variable {prog:AH}{w:AJ}{A:AI}{E:Q33}{s:AF}{ks:List KG}
def Zha (q:Q true s):wpAny (model prog w) A (eqBool (.ref b) (.ref b)) Q E s:=by unfold eqBool;refine YBD ?_;rw[YAS (by simp)];exact YAA (YBn (YAC q))
def Zld (un:Unl ks):ib (model prog w) A E s (λp=>∃k∈ks,IsG s.heap p.1 k) (jZ s.heap) (tuples' true):=by
 rintro st ⟨x,p⟩ ⟨y,r⟩ Q hk ⟨k1,m1,hx⟩ ⟨k2,m2,hy⟩ q;have e:jZ s.heap (x,p) (y,r)=ltG k1.1 k2.1:=by unfold jZ;rw[hx.key,hy.key]
 rw[e]at q;obtain⟨a,oa,v,u,ep,rfl,ho,_,hd1,hv⟩:=hx;obtain⟨b,ob,v2,u2,ep2,rfl,ho2,_,hd2,hv2⟩:=hy;rw[lt'_eq];refine YAV (wpS_get ?_);rw[hk,Zdx];refine YAV (wpS_lift (YCa (YAA (listItems_at ho hd1 (YAA (listItems_at ho2 hd2 ?_))))));show wpAny _ _ (forIn [((Value.str v u,Value.str v2 u2),0),((Value.ref k1.2,Value.ref k2.2),1)] _ _ >>= _) _ _ _;unfold ltG at q;rw[YCk];refine YAA (YAA (YAA (eqBool_str ?_)));by_cases h:v=v2
 .have e2:=un k1 m1 k2 m2 (by rw[<-hv,<-hv2,h]);subst h e2;rw[YAL (by simp)];refine YAC ?_;dsimp only;rw[YCk];refine YAA (YAA (Zha ?_));rw[YAL (by simp)];refine YAC ?_;dsimp only;rw[List.forIn_nil];refine YAC ?_;dsimp only;refine YAC ⟨rfl,YAe ?_⟩;rw[show decide (k1.1<k1.1)=false by simp[YCq]]at q;simpa using q
 .rw[YAS (~~~h)];refine YAA (oneLt_str (YAC (YAC ?_)));dsimp only;rw[hv,hv2];exact YAC ⟨rfl,YAe q⟩
theorem Zce:∀ {vs:AD} {Q:List (Option Value)->AF->Prop},(∀v∈vs,∃k∈ks,IsG s.heap v k) ->
  (∀(us:AD) (ss:AK),us.length=vs.length->StrsAre us ss->Q (us.map some) s)->wpAny (model prog w) A (vs.mapM firstOfTuple') Q E s
 | [],Q,_,q=>by rw[List.mapM_nil];exact YAC (q [] [] rfl .nil)
 | v::vs,Q,h,q=>by
  obtain⟨k,_,a,o,x,u,e,rfl,ho,hcl,hd,_⟩:=h v (by simp);rw[List.mapM_cons];refine YAA ?_;show wpAny _ _ (do
   if (<-typeOf (.ref a)) != .type "tuple" then return none
   return (<-Builtin.List.listItems (.ref a))[0]?) _ _ _
  refine YAA (wpAny_typeOf_ref ho ?_);rw[hcl,YAL (show ¬((Value.type "tuple" != Value.type "tuple")=true) by decide)];refine YAA (listItems_at ho hd (YAC ?_));refine YAA (Zce (λv hv=>h v (by simp[hv])) λus ss hl hu=>YAC ?_);exact q (.str x u::us) (x::ss) (by simp[hl]) (.cons _ _ hu)
def Zfo (hv:∀v∈vs,∃k∈ks,IsG s.heap v k)(hne:vs≠[])(q:Q (tuples' true) s):wpAny (model prog w) A (keyKind' vs.toArray) Q E s:=by
 rw[keyKind'_eq,List.mapM_toArray,map_eq_pure_bind,bind_assoc];refine YAA (Zce hv λus ss hl hu=>?_);rw[pure_bind,YAS (by simp)];refine YAA (YBn ?_);have e1:((us.map some).toArray.filterMap id)=us.toArray:=by simp
 rw[e1,oneTypeOnly'_eq,List.mapM_toArray,mapM_typeOf_strs hu];cases us with
 | nil=>
  cases vs with
  | nil=>exact absurd rfl hne
  | cons v vs=>simp at hl
 | cons u us=>
  simp only[map_pure,pure_bind];have h0:(List.map (λ_=>Value.type "str") (u::us)).toArray[0]?=some (Value.type "str"):=by simp
  have hall:((List.map (λ_=>Value.type "str") (u::us)).toArray.all λz=>z == Value.type "str")=true:=by rw[List.all_toArray,List.all_map,YBL];exact λ_ _=>rfl
  rw[h0];simp only[hall,if_true,pure_bind];exact YAC q
def ZgQ (ho:s.heap.get? a=some (seqObj "list" vs.toArray n)) (un:Unl ks) (hv:∀v∈vs,∃k∈ks,IsG s.heap v k) (hN:vs.length<=sizeLine)
  (h:∀out:Array Value,out.toList.Perm vs->out.toList.Pairwise (λx y=>ltG (iZ s.heap y) (iZ s.heap x)=false)->P (.done (.ret .none)) { s with heap:=sortedHeap s.heap a vs out }):
  wpAny (model prog w) A (Builtin.«list.sort» ⟨[.ref a],[]⟩) P E s:=by
 have A4:a<s.heap.objs.size:=YAR ho;have up:=get?_update_seq ho (λ_=>#[]);generalize hep:(if (#[]:Array Value).size == vs.toArray.size then n else n+1)=ep at up;have up3:(((s.heap.update a (Obj.mapSeq λ_=>#[])).push (seqObj "tuple" vs.toArray 0)).push (seqObj "list" #[] 0)).get? a=some (seqObj "list" #[] ep):=by
  rw[Heap.get?_push_ne,Heap.get?_push_ne]
  .exact up
  .rw[Heap.size_update];exact YAd A4
  .rw[size_push',Heap.size_update];exact YAd (YBy A4)
 obtain⟨h3,hh3⟩:∃h3,h3=((s.heap.update a (Obj.mapSeq λ_=>#[])).push (seqObj "tuple" vs.toArray 0)).push (seqObj "list" #[] 0):=⟨_,rfl⟩;have iq:∀v k,IsG s.heap v k->IsG h3 v k:=by
  rintro v k ⟨b,o,x,u,e,rfl,hb,hcl,hd,hw⟩;refine⟨b,o,x,u,e,rfl,?_,hcl,hd,hw⟩;have nb:b≠a:=λz=>by rw[z,ho]at hb;injection hb with hb;rw[<-hb]at hcl;simp[seqObj]at hcl
  rw[hh3];exact YAD _ (YAD _ (((YAn s.heap a _).2 b nb).trans hb))
 have hv3:∀v∈vs,∃k∈ks,IsG h3 v k:=λv hv'=>let ⟨k,hm,hk⟩:=hv v hv';⟨k,hm,iq v k hk⟩;have kq:∀v∈vs,iZ h3 v=iZ s.heap v:=λv hv'=>by obtain⟨k,_,hk⟩:=hv v hv';rw[hk.key,(iq v k hk).key]
 rw[list_sort_plain];refine YAA (listItems_at ho rfl (YAA (listUpdate_at ho rfl (YAA (seqEpoch_at up rfl (YAA (wpAny_newTuple (YAA (wpAny_newList (YBD ?_)))))) ) (hsz:=by rw[YAM];exact hN))));dsimp only;have fin:∀v:SortSt,failedOf v=none->((arrOf v).map (·.2)).toList.Perm vs->((arrOf v).map (·.2)).toList.Pairwise (λx y=>ltG (iZ s.heap y) (iZ s.heap x)=false) ->
   wpAny (model prog w) A (do
    let tch:=(<-seqEpoch a) != ep
    Builtin.List.listUpdate (.ref a) λ_=>(arrOf v).map (·.2)
    if let some e:=failedOf v then rule "list.sort.comparison-raised";throw e
    if tch then rule "list.sort.modified";raiseError "ValueError" "list modified during sort"
    ret .none) P E { s with heap:=((s.heap.update a (Obj.mapSeq λ_=>#[])).push (seqObj "tuple" vs.toArray 0)).push (seqObj "list" #[] 0) }:=by
  intro v f1 f2 f3;refine YAA (seqEpoch_at up3 rfl (YAA (listUpdate_at up3 rfl ?_ (hsz2:=?_))))
  .rw[f1,bne_self_eq_false];exact YAC (h _ f2 f3)
  .have:=f2.length_eq;rw[YAG]at this
   lia
 have zz:(vs.zip vs).map (·.2)=vs:=List.map_snd_zip (YAT _);by_cases h2:vs.toArray.size<2
 .rw[YAS h2,YAS h2];refine YAA (YAC ?_);rw[StateT.run_pure];refine YAA (YAC ?_);refine fin (SortSt.mk' general' (pairsOf vs) #[] 7 none) rfl ?_ ?_
  .show ((pairsOf vs).map (·.2)).toList.Perm vs;rw[YCZ,pairsOf_toList,zz]
  .show ((pairsOf vs).map (·.2)).toList.Pairwise _;rw[YCZ,pairsOf_toList,zz]
   match vs,h2 with
   | [],_=>exact List.Pairwise.nil
   | [x],_=>exact YDP _ _
   | _::_::_,h2=>simp at h2;lia
 .rw[YAL h2,YAL h2];have hne:vs≠[]:=λe=>by rw[e]at h2;simp at h2
  refine YAA ?_;show wpAny _ _ _ _ _ { s with heap:=((s.heap.update a (Obj.mapSeq λ_=>#[])).push (seqObj "tuple" vs.toArray 0)).push (seqObj "list" #[] 0) };rw[<-hh3]at fin ⊢;refine Zfo (s:={ s with heap:=h3 }) hv3 hne ?_;refine YAA (YBg (ZgT (a0:=vs.zip vs) (st:=SortSt.mk' (tuples' true) (pairsOf vs) #[] 7 none) (Q:=λ_ v=>(arrOf v).toList.Perm (vs.zip vs)/\(arrOf v).toList.Pairwise (Le (jZ h3))/\failedOf v=none)
    (Znf _) (Zld un (s:={ s with heap:=h3 })) (λu hu=>hv3 u.1 (YDQ hu).1) rfl rfl rfl (by show (pairsOf vs).toList=_;rw[pairsOf_toList]) λv p1 p2 p3=>⟨p1,p2,p3⟩) ?_ λ_ _ e=>e)
  rintro⟨⟨⟩,v⟩ s3 ⟨rfl,p1,p2,p3⟩;refine fin v p3 ?_ ?_
  .rw[YCZ];have:=p1.map (λp:Keyed=>p.2);rw[zz]at this;exact this
  .rw[YCZ,YBG];refine p2.imp_of_mem λ{x y} hx hy e=>?_;have mx:=p1.mem_iff.mp hx;have my:=p1.mem_iff.mp hy;have d1:∀p:Keyed,p∈vs.zip vs->p.1=p.2:=λp hp=>by obtain⟨i,hi,rfl⟩:=YBX hp;rw[List.getElem_zip]
   have e':ltG (iZ h3 y.1) (iZ h3 x.1)=false:=e;rw[d1 x mx,d1 y my,kq _ (YDQ my).2,kq _ (YDQ mx).2]at e';exact e'
end
section
def Zb5 (hc:X.calm=true):ZcG X (.builtin "sorted") (λxs H Q=>∃(a:AE) (rows:List (AE×KG)),xs=[.ref a]/\H a=some (.lst (rows.map λr=>.ref r.1))/\(∀r∈rows,H r.1=some (.tup [tx r.2.1,.ref r.2.2]))/\rows.length<=sizeLine/\Unl (rows.map (·.2)) /\
  ∀rows':List (AE×KG),rows'.Perm rows->rows'.Pairwise (λx y=>ltG y.2.1 x.2.1=false)->gU (rows'.map λr=>.ref r.1) H Q):=by
 rintro As s U H xs us Q I r ⟨a,rows,rfl,ha,hr,h64,un,q⟩;obtain⟨u,rfl,ru⟩:=r.one;cases ru;obtain⟨_,its,n,r2,Av,eo⟩:=I.lstM ha;have li:its.length=rows.length:=by rw[<-r2.length,YAB]
 have eits:its=rows.map λr=>Value.ref r.1:=by apply YBw (by rw[li,YAB]);intro i h1 h2;obtain⟨x,hx,rx⟩:=ZcM r2 (YAH h1);rw[YAK,YAH ∅]at hx;cases hx;rw[List.getElem_map];exact rx
 have hq:∀r∈rows,IsG s.heap (.ref r.1) r.2:=λr hr'=>by
  obtain⟨_,ts,rt,o,h1,h2,m,h3⟩:=I.hok r.1 _ (hr r hr');obtain⟨b,k⟩:=r;obtain⟨k1,k2⟩:=k;obtain⟨v1,rt1,rfl,rv1,rt⟩:∃v1 rt1,ts=v1::rt1/\gC (tx k1) v1/\gs [V.ref k2] rt1:=by cases rt with | cons a b=>exact⟨_,_,rfl,a,b⟩
  obtain⟨v2,rfl,rv2⟩:=rt.one;obtain⟨t1,rfl⟩:=rv1;cases rv2;exact⟨b,o,⟨k1.toArray⟩,t1,m,rfl,h1,h2,h3,rfl⟩
 refine Calls.call_function_entry kind_sorted plain_sorted entry_sorted (args_sorted1 _) ?_;unfold Builtin.«sorted»;refine YAA (m:=checkCount "sorted" 1 1 _) (YAC ?_);refine YAA (collect_list (PySem.IsL.isList eo) ?_ (by rw[li];exact h64));have sb:=YAn (s.heap.push (seqObj "list" #[] 0)) s.heap.objs.size (Obj.mapSeq (·++its.toArray));have k1:∀b o,s.heap.get? b=some o->((s.heap.push (seqObj "list" #[] 0)).update s.heap.objs.size (Obj.mapSeq (·++its.toArray))).get? b=some o:=λb o e=>(sb.2 b (YAd (YAR e))).trans (YAD _ e);generalize ((s.heap.push (seqObj "list" #[] 0)).update s.heap.objs.size (Obj.mapSeq (·++its.toArray)))=g at k1 ⊢;have nw:s.heap.get? g.objs.size=none:=by
  cases z:s.heap.get? g.objs.size with
  | none=>rfl
  | some o=>exact absurd (YAR (k1 _ _ z)) (YBM _)
 have hlen2:its.length<=sizeLine:=by rw[li];exact h64
 refine YAA (wpAny_newList ?_ ?_)
 .have hoL:(g.push (seqObj "list" its.toArray 0)).get? g.objs.size=some (seqObj "list" its.toArray 0):=YAU _ rfl;have k2:∀b o,s.heap.get? b=some o->(g.push (seqObj "list" its.toArray 0)).get? b=some o:=λb o e=>YAD _ (k1 b o e);have hq2:∀r∈rows,IsG (g.push (seqObj "list" its.toArray 0)) (.ref r.1) r.2:=λr hr'=>by obtain⟨b,o,w1,t2,m,e1,h1,r1⟩:=hq r hr';exact⟨b,o,w1,t2,m,e1,k2 _ _ h1,r1⟩
  refine YAA (YBD (YBs slot_list_sort ⟨_,hoL,rfl⟩ entry_list_sort (ZgQ hoL un (λv hv=>?_) hlen2 λout p1 p2=>⟨_,rfl,?_⟩) (args_list_sort _)))
  .rw[eits]at hv;obtain⟨r,hr',rfl⟩:=YAj.mp hv;exact⟨_,YBE hr',hq2 r hr'⟩
  .obtain⟨e,he⟩:=sortedHeap_at (out:=out) hoL;rw[eits]at p1;obtain⟨rows',q1,q2⟩:=Zdv p1 rows rfl;have hl:rows'.length<=sizeLine:=by rw[q1.length_eq];exact h64
   have pw:rows'.Pairwise (λx y=>ltG y.2.1 x.2.1=false):=by rw[<-q2,YBG]at p2;refine p2.imp_of_mem λ{x y} hx hy z=>?_;rw[(hq2 x (q1.mem_iff.mp hx)).key,(hq2 y (q1.mem_iff.mp hy)).key]at z;exact z
   have out2:out=(rows'.map λr=>Value.ref r.1).toArray:=by rw[q2,YDG]
   have rr:gs (rows'.map λr=>V.ref r.1) (rows'.map λr=>Value.ref r.1):=by
    clear q1 q2 hl pw out2;induction rows' with
    | nil=>exact .nil
    | cons r rs ih=>exact .cons rfl ih
   refine YAC ⟨_,rfl,?_⟩;refine⟨.ref g.objs.size,_,I.laid2 (s':={ s with heap:=sortedHeap (g.push (seqObj "list" its.toArray 0)) g.objs.size its out }) (o:=.lst (rows'.map λr=>.ref r.1)) rfl rfl (λb o z=>?_) nw ⟨by rw[YAB];exact hl,_,e,rr,?_⟩,rfl,q rows' q1 pw _ (I.hok.none_of nw)⟩
   .have A4:=YAR (k1 _ _ z);have hlt':b<(g.push (seqObj "list" its.toArray 0)).objs.size:=by rw[YBa];exact YBy A4
    exact(sortedHeap_old (YAd A4) hlt').trans (k2 b o z)
   .rw[<-out2];exact he
 .exact hlen2
end
section
end
section
end
open PySem.W (Frag)
noncomputable def iP (w l:Q11):Bool:=(List.range (l.length+1)).any λi=>decide (i+w.length<=l.length)&&decide ((l.drop i).take w.length=w)
def ZdO:iP w l=true↔Inf w l:=by
 unfold iP Inf AtW;rw[YDM];constructor
 .rintro⟨i,_,h⟩;rw[YAY,decide_eq_true_eq,decide_eq_true_eq]at h;exact⟨i,h⟩
 .rintro⟨i,h1,h2⟩;refine⟨i,YAl.mpr ∅,?_⟩;rw[YAY,decide_eq_true_eq,decide_eq_true_eq];exact⟨h1,h2⟩
def ZhV:iP w l=false↔¬Inf w l:=by rw[<-ZdO,Bool.not_eq_true]
def ZhX (w l:Q11):(!(Builtin.Str.occurrences ⟨l.toArray⟩ ⟨w.toArray⟩ 0 (⟨l.toArray⟩:Str).length 1).isEmpty)=iP w l:=by rw[YBS,StrLaws.found_iff,ZdO];exact⟨λ⟨i,h⟩=>⟨i,(Zck l w i).mp h⟩,λ⟨i,h⟩=>⟨i,(Zck l w i).mpr h⟩⟩
section
def ZhL:OpR X (compareOp .In) (λx y H Q=>∃w l,x=tx w/\y=tx l/\Q (.bl (iP w l)) H):=by rintro As s U H x y v u Q I rx ry ⟨w,l,rfl,rfl,q⟩;refine ZfZ As s U H _ _ v u Q I rx ry ⟨_,_,rfl,rfl,?_⟩;rw[ZhX];exact q
def Zd5:OpR X (compareOp .NotIn) (λx y H Q=>∃w l,x=tx w/\y=tx l/\Q (.bl (!iP w l)) H):=by rintro As s U H x y v u Q I rx ry ⟨w,l,rfl,rfl,q⟩;refine ZfX As s U H _ _ v u Q I rx ry ⟨_,_,rfl,rfl,?_⟩;rw[ZhX];exact q
end
def g9 (a b:Q11):Prop:=a.length<b.length\/(a.length=b.length/\a<b)
theorem Zd9:∀ {a b:Q11} {x y:Q11},a.length=b.length->a<b->a++x<b++y
 | [],[],_,_,_,h=>by cases h
 | [],_::_,_,_,e,_=>by simp at e
 | _::_,[],_,_,e,_=>by simp at e
 | c::a,d::b,x,y,e,h=>by
  rw[YCn,YCn];cases h with
  | rel h=>exact List.Lex.rel h
  | cons h=>exact List.Lex.cons (Zd9 (~~~e) h)
theorem Zg1:∀(a:Q11) {c d:Nat},c<d->a++[c]<a++[d]
 | [],_,_,h=>List.Lex.rel h
 | _::a,_,_,h=>List.Lex.cons (Zg1 a h)
theorem jo:∀(a b:Q11),a<b\/a=b\/b<a
 | [],[]=>.inr (.inl rfl)
 | [],_::_=>.inl .nil
 | _::_,[]=>.inr (.inr .nil)
 | c::a,d::b=>by
  rcases YCy c d with h | h | h
  .exact .inl (List.Lex.rel h)
  .subst h;rcases jo a b with h | h | h
   .exact .inl (List.Lex.cons h)
   .exact .inr (.inl (by rw[h]))
   .exact .inr (.inr (List.Lex.cons h))
  .exact .inr (.inr (List.Lex.rel h))
def ZfJ (l:Q11)(n:Nat):(gO l n).Pairwise (· < ·):=by
 have h1:(gO l n).Pairwise (λa b=>leT a b=true):=Zbi _;have h2:(gO l n).Nodup:=(ZaD _).nodup_iff.mpr (by rw[<-Zdo];exact ZcE _);refine(h1.and h2).imp ?_;rintro a b ⟨x,y⟩;have x':¬b<a:=by simpa [leT] using x
 rcases jo a b with z | z | z
 .exact z
 .exact absurd z y
 .exact absurd z x'
def ZaR (hm:m.Pairwise (· < ·)):(Zas l m).Pairwise g9:=by
 unfold Zas Zgb;have len:∀k w,k<=l.length->w∈ZcP (gO l k) (gO l (k+1)) m->w.length=k+1:=λk w hk hw=>by obtain⟨h,c,h1,_,rfl,_⟩:=Zb2.mp hw;rw[Zbb ∅]at h1;rw[YAF,h1.1];rfl
 rw[List.pairwise_flatMap];refine⟨λk hk=>?_,?_⟩
 .have hk:=YAl.mp hk;unfold ZcP;rw[List.pairwise_flatMap];refine⟨λh hh=>?_,?_⟩
  .unfold ZdE;rw[YBG];exact(hm.filter _).imp λ{c d} hcd=>.inr ⟨by simp,Zg1 h hcd⟩
  .refine YCl ?_ (ZfJ l k);intro a b ha hb hab x hx y hy;have la:=((Zbb (l:=l) ∅).mp ha).1;have lb:=((Zbb (l:=l) ∅).mp hb).1;unfold ZdE at hx hy;obtain⟨c,_,rfl⟩:=YAj.mp hx;obtain⟨d,_,rfl⟩:=YAj.mp hy;exact .inr ⟨by simp[la,lb],Zd9 (by rw[la,lb]) hab⟩
 .refine YCl ?_ List.pairwise_lt_range;intro i j hi hj hij x hx y hy;have hi:=YAl.mp hi;have hj:=YAl.mp hj;exact .inl (by rw[len i x ∅ hx,len j y ∅ hy];lia)
def Zdb:¬g9 a a:=λh=>h.elim (λh=>YBM _ h) λh=>YCq _ h.2
def Zix (hm:m.Pairwise (· < ·)):(Zas l m).Nodup:=by unfold List.Nodup;exact(ZaR hm).imp λ{a b} h e=>by subst e;exact Zdb h
theorem Zb0 {α:Type}[DecidableEq α]:∀(l m:List α),l.Nodup->(∀x∈l,x∈m)->l.length<=m.length
 | [],m,_,_=>YBC _
 | x::l,m,nd,h=>by
  have hx:=h x YAZ;have nd':=YBY.mp nd;have:=Zb0 l (m.erase x) nd'.2 λy hy=>(List.mem_erase_of_ne (λe=>by rw[e]at hy;exact nd'.1 hy)).mpr (h y (YAO _ hy));rw[List.length_erase_of_mem hx]at this;have pos:0<m.length:=List.length_pos_of_mem hx;rw[YAf]
  lia
def ZiD (hu:AtW l u i)(hv:AtW l v j)(e:i+u.length=j+v.length)(hl:v.length<=u.length):v=u.drop (u.length-v.length):=by
 obtain⟨a1,a2⟩:=hu;obtain⟨b1,b2⟩:=hv;have hj:j=i+(u.length-v.length):=by lia
 rw[<-a2,YAX,YAk,YBp ∅,List.drop_take,YCS,<-hj];rw[show u.length-(u.length-v.length)=v.length by lia];exact b2.symm
def ZlB (h:Inf u l)(k:Nat):Inf (u.drop k) l:=by
 obtain⟨i,h1,h2⟩:=h;by_cases hk:k<=u.length
 .refine⟨i+k,by rw[YAk];lia,?_⟩;rw[YAk];have:(l.drop (i+k)).take (u.length-k)=((l.drop i).take u.length).drop k:=by rw[List.drop_take,YCS]
  rw[this,h2]
 .rw[YCW ∅];exact Inf.nil l
def ZeL (h:w.getLast?=some c):w=w.dropLast++[c]:=by
 have ne:w≠[]:=λe=>by rw[e]at h;cases h
 rw[YBK ne]at h;have h2:=YCQ ne;rw[Option.some.inj h]at h2;exact h2.symm
def ZhQ (hw:ja l w)(hv:ja l v)(cw:w.getLast?=some c)(cv:v.getLast?=some c)(iw:AtW l w.dropLast i)(jv:AtW l v.dropLast j)(e:i+w.dropLast.length=j+v.dropLast.length)(hl:v.length<=w.length):v=w:=by
 have ew:=ZeL cw;have ev:=ZeL cv;have lw:w.dropLast.length=w.length-1:=YBA;have lv:v.dropLast.length=v.length-1:=YBA;have w1:1<=w.length:=YBN.mpr hw.ne;have v1:1<=v.length:=YBN.mpr hv.ne;have s:=ZiD iw jv e ∅;rw[show w.dropLast.length-v.dropLast.length=w.length-v.length by lia]at s;have h2:(w.dropLast++[c]).drop (w.length-v.length)=w.dropLast.drop (w.length-v.length)++[c]:=YCM ∅;have vs:v=w.drop (w.length-v.length):=by have h3:v.dropLast++[c]=w.dropLast.drop (w.length-v.length)++[c]:=congrArg (·++[c]) s;rw[<-h2,<-ew,<-ev]at h3;exact h3
 by_cases eq:v.length=w.length
 .rw[vs,eq,Nat.sub_self];rfl
 .exfalso;apply hv.no;have:v=w.tail.drop (w.length-v.length-1):=by rw[<-List.drop_one,YCS,show 1+(w.length-v.length-1)=w.length-v.length by lia];exact vs
  rw[this];exact ZlB hw.tail _
noncomputable def iV (l w:Q11):Nat:=((List.range (l.length+1)).find? λe=>(List.range (l.length+1)).any λi=>decide (i+w.dropLast.length=e)&&decide (i+w.dropLast.length<=l.length)&&decide ((l.drop i).take w.dropLast.length=w.dropLast)).getD 0
def Zfz (h:Inf w.dropLast l):∃i,AtW l w.dropLast i/\iV l w=i+w.dropLast.length:=by
 unfold iV;cases f:(List.range (l.length+1)).find? λe=>(List.range (l.length+1)).any λi=>decide (i+w.dropLast.length=e)&&decide (i+w.dropLast.length<=l.length)&&decide ((l.drop i).take w.dropLast.length=w.dropLast) with
 | none=>
  obtain⟨i,h1,h2⟩:=h;have:=List.find?_eq_none.mp f (i+w.dropLast.length) (YAl.mpr ∅);exfalso;apply this;rw[YDM];exact⟨i,YAl.mpr ∅,by rw[decide_eq_true rfl,decide_eq_true h1,decide_eq_true h2];rfl⟩
 | some e=>
  have:=List.find?_some f;rw[YDM]at this;obtain⟨i,_,hi⟩:=this;simp only[YAY,decide_eq_true_iff]at hi;exact⟨i,⟨hi.1.2,hi.2⟩,hi.1.1.symm⟩
theorem Zd7 {α β:Type}{f:α->β}:∀ {l:List α},l.Nodup->(∀x∈l,∀y∈l,f x=f y->x=y)->(l.map f).Nodup
 | [],_,_=>by simp
 | x::l,nd,h=>by have nd':=YBY.mp nd;rw[YAc,YBY];refine⟨λz=>?_,Zd7 nd'.2 λa ha b hb=>h a (YAO _ ha) b (YAO _ hb)⟩;obtain⟨y,hy,e⟩:=YAj.mp z;have:=h y (YAO _ hy) x YAZ e;rw[this]at hy;exact nd'.1 hy
def Ziy (hm:m.Pairwise (· < ·)):(Zas l m).length<=m.length*(l.length+1):=by
 have nd:=Zix (l:=l) hm;have inj:∀x∈Zas l m,∀y∈Zas l m,(x.getLast?,iV l x)=(y.getLast?,iV l y)->x=y:=by
  intro x hx y hy e;obtain⟨mx,c,hc,cx⟩:=ZaI.mp hx;obtain⟨my,d,hd,cy⟩:=ZaI.mp hy;have e1:x.getLast?=y.getLast?:=congrArg Prod.fst e;have e2:iV l x=iV l y:=congrArg Prod.snd e;obtain⟨i,hi,ei⟩:=Zfz mx.init;obtain⟨j,hj,ej⟩:=Zfz my.init;have cy':y.getLast?=some c:=by rw[<-e1];exact cx
  rcases Nat.le_total y.length x.length with h | h
  .exact(ZhQ mx my cx cy' hi hj ∅ h).symm
  .exact ZhQ my mx cy' cx hj hi ∅ h
 have nd2:=Zd7 (f:=λw:Q11=>(w.getLast?,iV l w)) nd inj;have h:=Zb0 _ (m.flatMap λc=>(List.range (l.length+1)).map λe=>(some c,e)) nd2 λp hp=>by obtain⟨w,hw,rfl⟩:=YAj.mp hp;obtain⟨mw,c,hc,cw⟩:=ZaI.mp hw;obtain⟨i,hi,ei⟩:=Zfz mw.init;rw[List.mem_flatMap];refine⟨c,hc,YAj.mpr ⟨iV l w,YAl.mpr (by have:=hi.1;lia),by rw[cw]⟩⟩
 rw[YAB]at h;have e:(m.flatMap λc=>(List.range (l.length+1)).map λe=>(some c,e)).length=m.length*(l.length+1):=by
  rw[List.length_flatMap];have:(m.map λc=>((List.range (l.length+1)).map λe=>(some c,e)).length)=List.replicate m.length (l.length+1):=by apply YBw (by simp);intro i h1 h2;simp
  rw[this,List.sum_replicate_nat]
 rw[e]at h;exact h
section
end
def ZpH (h:(ZaF P w).is k u=true):gC (kV k) u:=by
 cases k with
 | inl i=>
  have h':(intKind P w).is i u=true:=h;cases u<;>first | (exact absurd h' YAE) | skip
  rename_i j t
  have e:(i == j)=true\/(j == i)=true:=by first | exact .inl h' | exact .inr h'
  rcases e with e | e
  .exact⟨t,by rw[beq_iff_eq.mp e]⟩
  .exact⟨t,by rw[beq_iff_eq.mp e]⟩
 | inr x=>
  have h':(strKind P w).is x u=true:=h;cases u<;>first | (exact absurd h' YAE) | skip
  rename_i j t
  have e:(x == j)=true\/(j == x)=true:=by first | exact .inl h' | exact .inr h'
  rcases e with e | e
  .exact⟨t,by rw[beq_iff_eq.mp e]⟩
  .exact⟨t,by rw[beq_iff_eq.mp e]⟩
def Itd (o:Obj)(kvs:List (Key×V))(a:AE):It:=
 ⟨λi H=>H a=some (.frz o (.dK kvs))/\i<kvs.length,λi H x H'=>H'=H/\∃p,kvs[i]?=some p/\x=kV p.1,λi H=>H a=some (.frz o (.dK kvs))/\kvs.length<=i⟩
section
def Thw (a:AE)(P:Hp->Prop)(H':Hp):Prop:=∃o kvs,H' a=some (.frz o (.dK kvs))/\P (upd H' a (.dK kvs))
noncomputable def thD (a:AE)(D:iM):iM:={ nx:=λU H=>Thw a (D.nx U) H,rt:=λv H=>Thw a (D.rt v) H,bk:=λU H=>Thw a (D.bk U) H,ct:=λU H=>Thw a (D.ct U) H }
end
section
end
def Zft:typeLookup (.type "dict") "__len__"=pure (some (.builtin "dict.__len__")):=by rw[typeLookup_type,builtinLookup_eq_fast];kernel_rfl
theorem ZcL:∀ {vs:List V} {us:AD},vs.length=us.length->(∀(i:Nat) (x:V) (u:Value),vs[i]?=some x->us[i]?=some u->gC x u)->gs vs us
 | [],[],_,_=>.nil
 | [],_::_,h,_=>by simp at h
 | _::_,[],h,_=>by simp at h
 | x::vs,u::us,h,r=>.cons (r 0 x u rfl rfl) (ZcL (~~~h) λi y v h1 h2=>r (i+1) y v h1 h2)
section
def Zgw (hh:A.handled=none)(hd:(S == sysModules)=false)(hS:s.heap.DictAt (ZaF prog w) S ls ep)(hn:ls.length<=sizeLine)
  (hQ:∀(s':AF) (vs:AD),(∀b o,s.heap.get? b=some o->s'.heap.get? b=some o)->s'.gens=s.gens->s'.os=s.os->gs (ls.map λp=>kV p.1) vs->Q vs s'):wpAny (model prog w) A (collect (.ref S)) Q E s:=by
 unfold collect;refine YAA (wpAny_runValue (codeAny_builtin F.entry_proto_collect ?_));rw[YCN F.plain_proto_collect _];show wpAny _ A.in1 (newList [] >>= λl=>again (.builtin "list.__iadd__" ⟨[l,.ref S],[]⟩)) _ _ s;refine YAA (YCT (YAC ⟨plainId_quiet F.plain_list_iadd _,codeAny_builtin F.entry_list_iadd ?_⟩));rw[YCN F.plain_list_iadd _];generalize hH:s.heap.push { cls:=.type "list",data:=.seq ([]:AD).toArray }=H;have hHs:H.objs.size=s.heap.objs.size+1:=by rw[<-hH,YBa]
 have hL:H.get? s.heap.objs.size=some { cls:=.type "list",data:=.seq ([]:AD).toArray }:=hH▸YAU _ rfl;have k1:∀b o,s.heap.get? b=some o->H.get? b=some o:=λb o e=>hH▸YAD _ e;have hS1:H.DictAt (ZaF prog w) S ls ep:=hS.keep k1;have hT:Shared.TypeIs { s with heap:=H } (.ref S) "dict":=hS1.dictOf.typeIs;have nS:S≠s.heap.objs.size:=YAd hS.lt_size;show wpAny _ A.in1 (Builtin.List.listExtendWith (.ref s.heap.objs.size) (.ref S) (.ref s.heap.objs.size)) _ _ { s with heap:=H };unfold Builtin.List.listExtendWith;refine YAA (wpAny_typeOf hT ?_);have h1:Builtin.List.listSameRef (.ref s.heap.objs.size) (.ref S)=false:=by simp[Builtin.List.listSameRef,YBW nS]
 have h2:(Value.type "dict" == Value.type "list")=false:=by decide
 have h3:(Value.type "dict" == Value.type "tuple")=false:=by decide
 simp only[h1,h2,h3,Bool.or_false,YCe,if_false];refine YAA (wpAny_pyIter_dict (s:={ s with heap:=H }) hd hS1 ?_);obtain⟨I,hI0⟩:∃I,I=H.objs.size:=⟨_,rfl⟩;obtain⟨h2',hh2⟩:∃h2',h2'=H.push { cls:=.type "dict_keyiterator",data:=.fields #[.ref S,.int 0 0,.int ls.length 0,.int ep 0] }:=⟨_,rfl⟩;rw[<-hh2];show wpAny _ A.in1 (holding [.ref H.objs.size] (Builtin.List.listLengthHint (.ref S)) >>= _) _ _ _;rw[<-hI0];have k2:∀b o,H.get? b=some o->h2'.get? b=some o:=λb o e=>by rw[hh2];exact YAD _ e
 have hI:H.objs.size<=I:=YCu hI0.symm;have nI:S≠I:=by rw[hI0];exact YAd hS1.lt_size
 have st0:h2'.IsKeyIter I S 0 ls.length ep:=⟨_,by rw[hh2,hI0];exact YAU _ rfl,rfl,rfl⟩;have hS2:h2'.DictAt (ZaF prog w) S ls ep:=hS1.keep k2;have W:∀A':AI,A'.handled=none->_:=λA' hA=>Walks.dictKeys (prog:=prog) (w:=w) (knd:=ZaF prog w) (A:=A') hA I S nI ls ep;have st:=And.intro st0 hS2;have hfp:∀b∈[I,S],b=S\/H.objs.size<=b:=λb hb=>by
  rcases YAJ.mp hb with z | z
  .exact .inr (by rw[z];exact hI)
  .exact .inl (~~~z)
 have hT2:Shared.TypeIs { s with heap:=h2' } (.ref S) "dict":=hS2.dictOf.typeIs;refine YAA (YBD ?_);unfold Builtin.List.listLengthHint;refine YAA (wpAny_specialOf hT2 Zft ?_)
 wp_delta
 refine YAA (YDI (T:="dict") (v:=.ref S) (b:=true) hT2 (by rw[isSubtype_type];kernel_rfl) ?_);show wpAny _ A.in1 (typeOf (Value.ref S) >>= λr=>_) _ _ _;refine YAA (wpAny_typeOf hT2 ?_);refine YAC ?_;rw[YAS (by decide)];refine YAA (YBn ?_);have hL2:h2'.get? s.heap.objs.size=some { cls:=.type "list",data:=.seq ([]:AD).toArray }:=k2 _ _ hL;refine YAA ?_;show wpAny _ A.in1 (updateSeq s.heap.objs.size (·.push .none) >>= λ_=>updateSeq s.heap.objs.size (·.pop)) _ _ _;refine YAA (wpAny_updateSeq hL2 rfl ?_);have hL3:=YCG (Obj.mapSeq (·.push Value.none)) hL2 rfl;refine wpAny_updateSeq hL3 rfl ?_;have hL4:=YCG (Obj.mapSeq (·.pop)) hL3 rfl;have oth:∀b o,b≠s.heap.objs.size->h2'.get? b=some o->((h2'.update s.heap.objs.size (Obj.mapSeq (·.push Value.none))).update s.heap.objs.size (Obj.mapSeq (·.pop))).get? b=some o:=
  λb o hb e=>(YCr _ _ (YBW hb)).trans ((YCr _ _ (YBW hb)).trans e)
 have hle:s.heap.objs.size+1<=I:=by rw[<-hHs];exact hI
 have hSf:s.heap.objs.size∉[I,S]:=λz=>by
  rcases hfp _ z with q | q
  .exact nS q.symm
  .have q':H.objs.size<=s.heap.objs.size:=q;rw[hHs]at q';exact absurd q' (Nat.not_succ_le_self _)
 refine YAC ⟨plainId_quiet F.plain_extend_loop _,codeAny_extend_loopS (W A.in1 hh).toS hn _ hSf _ ls.length 0 _ _ _ rfl (YBC _) ((W A.in1 hh).frame 0 h2' _ st λb hb o e=>oth b o (λz=>hSf (z▸hb)) e) hL4 (ItemsOf.nil _) λs' acc' c' hm hS' Aw=>?_⟩;show wpAny _ A (load s.heap.objs.size >>= λr=>_) _ _ s';refine YAA (wpAny_load hS' ?_);have hvs:gs (ls.map λp=>kV p.1) acc'.toList:=by refine ZcL (by rw[YAB];exact(Array.length_toList.trans Aw.1).symm) λi x u h1 h2=>?_;rw[YAu]at h2;obtain⟨k,v,e,hk⟩:=Aw.2 i u h2;rw[YAK,e]at h1;cases h1;exact ZpH hk
 have done:=hQ s' acc'.toList (λb o e=>by
  have A4:=YAR e;refine hm.heap b o (λz=>?_) (oth b o (YAd A4) (k2 b o (k1 b o e)));rcases YAJ.mp z with q | q
  .rw[q]at A4;exact YBM _ A4
  .have q:b=I:=by simpa using q
   rw[q]at A4;exact absurd A4 (Nat.not_lt.mpr (Nat.le_of_succ_le hle))) hm.gens hm.os hvs
 exact YAC done
end
def kTx (l:Q11):Key:=.inr ⟨l.toArray⟩
section
end
noncomputable def fpl (l w:Q11):Nat:=((List.range (l.length+1)).find? λi=>decide (i+w.length<=l.length)&&decide ((l.drop i).take w.length=w)).getD 0
def Zmi (h:AtW l w i)(hm:∀j,j<i->¬AtW l w j):fpl l w=i:=by
 unfold fpl;have:((List.range (l.length+1)).find? λi=>decide (i+w.length<=l.length)&&decide ((l.drop i).take w.length=w))=some i:=by
  rw[List.find?_range_eq_some];refine⟨by rw[decide_eq_true h.1,decide_eq_true h.2];rfl,YAl.mpr (by have:=h.1;lia),λj hj=>?_⟩;rw[Bool.not_eq_true',Bool.and_eq_false_iff,decide_eq_false_iff_not,decide_eq_false_iff_not];by_cases c:j+w.length<=l.length
  .exact .inr λz=>hm j hj ⟨c,z⟩
  .exact .inl c
 rw[this];rfl
def ZgE (h1:g9 a b)(h2:g9 b a):False:=by
 rcases h1 with h1 | ⟨h1,k1⟩<;>rcases h2 with h2 | ⟨h2,k2⟩
 .lia
 .lia
 .lia
 .exact List.lt_asymm k1 k2
theorem Zbl:∀ {a b:Q22},a.Pairwise g9->b.Pairwise g9->(∀x,x∈a↔x∈b)->a=b
 | [],[],_,_,_=>rfl
 | [],y::b,_,_,h=>by have:=(h y).mpr YAZ;cases this
 | x::a,[],_,_,h=>by have:=(h x).mp YAZ;cases this
 | x::a,y::b,ha,hb,h=>by
  have pa:=YAz.mp ha;have pb:=YAz.mp hb;have e:x=y:=by
   rcases YAJ.mp ((h x).mp YAZ) with z | z
   .exact z
   .rcases YAJ.mp ((h y).mpr YAZ) with z2 | z2
    .exact z2.symm
    .exact(ZgE (pb.1 x z) (pa.1 y z2)).elim
  subst e;congr 1;refine Zbl pa.2 pb.2 λz=>?_;constructor
  .intro hz;rcases YAJ.mp ((h z).mp (YAO _ hz)) with e | e
   .rw[e]at hz;exact(Zdb (pa.1 x hz)).elim
   .exact e
  .intro hz;rcases YAJ.mp ((h z).mpr (YAO _ hz)) with e | e
   .rw[e]at hz;exact(Zdb (pb.1 x hz)).elim
   .exact e
def Zdm (e:kTx x=kTx y):x=y:=by unfold kTx at e;injection e with e;injection e with e;injection e
def Znc:x∈Zaj l n↔∃i,i<l.length/\x=(List.range n).map λj=>cyc l (i+j):=by unfold Zaj;rw[(ZaD _).mem_iff,ZbU,Zct]
def ZbY (l:Q11)(n:Nat):(Zaj l n).Pairwise (· < ·):=by
 have h1:(Zaj l n).Pairwise (λa b=>leT a b=true):=Zbi _;have h2:(Zaj l n).Nodup:=(ZaD _).nodup_iff.mpr (by rw[<-Zdo];exact ZcE _);refine(h1.and h2).imp ?_;rintro a b ⟨x,y⟩;have x':¬b<a:=by simpa [leT] using x
 rcases jo a b with z | z | z
 .exact z
 .exact absurd z y
 .exact absurd z x'
def ZaX (h1:1<=l.length):1<=Zam l/\Zam l<=l.length/\∀k,cyc l (k+Zam l)=cyc l k:=by obtain⟨r1,r2,r3,_⟩:=Za8 h1;exact⟨r1,r2,((ZgX r1 r2).mp r3).2⟩
def RI (l x:Q11):Prop:=∃i,∀j,j<x.length->x[j]?=some (cyc l (i+j))
def ZaY (h1:1<=l.length):x∈Zaj l n↔x.length=n/\RI l x:=by
 rw[Znc];constructor
 .rintro⟨i,_,rfl⟩;refine⟨by simp,i,λj hj=>?_⟩;rw[YAB,YAt]at hj;rw[YAK,YBf hj];rfl
 .rintro⟨rfl,i,h⟩;refine⟨i % l.length,YBh _ h1,?_⟩;apply YBZ;intro j;rw[YAK];by_cases hj:j<x.length
  .rw[h j hj,YBf hj];show _=some (cyc l (i % l.length+j));unfold cyc;rw[Nat.mod_add_mod]
  .rw[YAi ∅,YAi (by rw[YAt];lia)];rfl
def RI.nil (l:Q11):RI l []:=⟨0,λj hj=>by simp at hj⟩
def RI.inf (h:RI l w)(hu:Inf u w):RI l u:=by
 obtain⟨i,h⟩:=h;obtain⟨k,h1,h2⟩:=hu;refine⟨i+k,λj hj=>?_⟩;have e:u[j]?=w[k+j]?:=by rw[<-h2,YBr,YAS hj,YBj]
 rw[e,h (k+j) ∅,YCB]
structure j7 (l w:Q11):Prop where
 ne:w≠[]
 init:RI l w.dropLast
 tail:RI l w.tail
 no:¬RI l w
def Zcf (l m:Q11)(n:Nat):Q22:=(List.range n).flatMap λk=>ZcP (Zaj l k) (Zaj l (k+1)) m
def Zb1 (h1:1<=l.length):w∈Zcf l m n↔j7 l w/\(∃c∈m,w.getLast?=some c)/\w.length<=n:=by
 unfold Zcf;rw[List.mem_flatMap];constructor
 .rintro⟨k,hk,hw⟩;have hk:=YAl.mp hk;obtain⟨h,c,h2,hc,rfl,h3,h4⟩:=Zb2.mp hw;rw[ZaY h1]at h2 h3;refine⟨⟨by simp,~~~h2.2,h3.2,λz=>h4 ((ZaY h1).mpr ⟨by simp[h2.1],z⟩)⟩,⟨c,hc,by simp⟩,?_⟩;rw[YAF,h2.1,YAo];lia
 .rintro⟨⟨ne,hi,ht,hn⟩,⟨c,hc,hl⟩,Av⟩;have e:w.dropLast++[c]=w:=by rw[YBK ne]at hl;have h:=YCQ ne;rw[Option.some.inj hl]at h;exact h
  have h2:1<=w.length:=YBN.mpr ne;refine⟨w.length-1,YAl.mpr ∅,Zb2.mpr ⟨w.dropLast,c,?_,hc,e.symm,?_,?_⟩⟩
  .rw[ZaY h1];exact⟨YBA,hi⟩
  .rw[ZaY h1];exact⟨YCY,ht⟩
  .rw[ZaY h1];exact λz=>hn z.2
def Zca (h1:1<=l.length)(hm:m.Pairwise (· < ·)):(Zcf l m n).Pairwise g9:=by
 unfold Zcf;have len:∀k w,w∈ZcP (Zaj l k) (Zaj l (k+1)) m->w.length=k+1:=λk w hw=>by obtain⟨h,c,h2,_,rfl,_⟩:=Zb2.mp hw;rw[ZaY h1]at h2;rw[YAF,h2.1];rfl
 rw[List.pairwise_flatMap];refine⟨λk hk=>?_,?_⟩
 .unfold ZcP;rw[List.pairwise_flatMap];refine⟨λh hh=>?_,?_⟩
  .unfold ZdE;rw[YBG];exact(hm.filter _).imp λ{c d} hcd=>.inr ⟨by simp,Zg1 h hcd⟩
  .refine YCl ?_ (ZbY l k);intro a b ha hb hab x hx y hy;have la:=((ZaY (l:=l) h1).mp ha).1;have lb:=((ZaY (l:=l) h1).mp hb).1;unfold ZdE at hx hy;obtain⟨c,_,rfl⟩:=YAj.mp hx;obtain⟨d,_,rfl⟩:=YAj.mp hy;exact .inr ⟨by simp[la,lb],Zd9 (by rw[la,lb]) hab⟩
 .refine YCl ?_ List.pairwise_lt_range;intro i j hi hj hij x hx y hy;exact .inl (by rw[len i x hx,len j y hy];lia)
def io (f:Nat->Nat)(i:Nat):Nat->Nat
 | 0=>0
 | n+1=>io f i n+f (i+n)
theorem ZeD (f:Nat->Nat)(i:Nat):∀n,io f i (n+1)=f i+io f (i+1) n
 | 0=>by simp[io]
 | n+1=>by
  have ih:=ZeD f i n;have e:io f i (n+1+1)=io f i (n+1)+f (i+(n+1)):=rfl;have e2:io f (i+1) (n+1)=io f (i+1) n+f (i+1+n):=rfl;have e3:i+(n+1)=i+1+n:=by lia
  rw[e,e2,ih,e3]
  lia
def ZgN (hf:∀k,f (k+r)=f k)(i:Nat):io f (i+1) r=io f i r:=by
 have h1:=ZeD f i r;have h2:io f i (r+1)=io f i r+f (i+r):=rfl;rw[hf]at h2
 lia
theorem Ze5 {f:Nat->Nat}{r:Nat}(hf:∀k,f (k+r)=f k):∀i,io f i r=io f 0 r
 | 0=>rfl
 | i+1=>by rw[ZgN hf,Ze5 hf i]
theorem ZeE {f:Nat->Nat}{i j:Nat}:∀ {n},(∀t,t<n->f (i+t)=f (j+t))->io f i n=io f j n
 | 0,_=>rfl
 | n+1,h=>by show io f i n+f (i+n)=io f j n+f (j+n);rw[ZeE λt ht=>h t ∅,h n ∅]
def Zez {f:Nat->Nat}{r i j:Nat}(hr:1<=r)(hf:∀k,f (k+r)=f k)(h:∀t,t+1<r->f (i+t)=f (j+t)):∀t,f (i+t)=f (j+t):=by
 have all:∀t,t<r->f (i+t)=f (j+t):=by
  intro t ht;by_cases z:t+1<r
  .exact h t z
  .have e:r=t+1:=by lia
   have h1:=(Ze5 hf i).trans (Ze5 hf j).symm;rw[e]at h1;have h2:io f i t+f (i+t)=io f j t+f (j+t):=h1;have h3:io f i t=io f j t:=ZeE λu hu=>h u ∅
   lia
 have per:∀k t,f (t+k*r)=f t:=by
  intro k;induction k with
  | zero=>intro t;simp
  | succ k ih=>intro t;rw[Nat.succ_mul,<-YCB,hf,ih]
 intro t;have e1:f (i+t)=f (i+t % r):=by
  rw[<-per (t/r) (i+t % r)];congr 1;have:=YCi t r;rw[YBu]at this
  lia
 have e2:f (j+t)=f (j+t % r):=by
  rw[<-per (t/r) (j+t % r)];congr 1;have:=YCi t r;rw[YBu]at this
  lia
 rw[e1,e2];exact all _ (YBh _ hr)
def Zf4 (h1:1<=l.length)(h:j7 l w):w.length<=Zam l:=by
 obtain⟨r1,_,per⟩:=ZaX h1;by_cases z:w.length<=Zam l
 .exact z
 .exfalso;obtain⟨j,hj⟩:=h.init;obtain⟨i,hi⟩:=h.tail;rw[YBA]at hj;rw[YCY]at hi;have gi:∀t,t+1<w.length->w[t]?=some (cyc l (j+t)):=λt ht=>by have:=hj t ∅;rw[YCF,YBr,YAS ∅]at this;exact this
  have gt:∀t,t+1<w.length->w[t+1]?=some (cyc l (i+t)):=λt ht=>by have:=hi t ∅;rw[List.getElem?_tail]at this;exact this
  have ov:∀t,cyc l (i+t)=cyc l (j+1+t):=Zez r1 per λt ht=>by
   have a:=gt t ∅;have b:=gi (t+1) ∅;rw[a]at b;have e:j+(t+1)=j+1+t:=by lia
   rw[e]at b;exact Option.some.inj b
  refine h.no ⟨j,λt ht=>?_⟩;by_cases y:t+1<w.length
  .exact gi t y
  .match t,y with
   | 0,y=>
    have:w.length=1:=by lia
    lia
   | t+1,y=>
    rw[gt t ∅,ov];congr 2
    lia
def Zg3 (h1:1<=l.length)(hm:m.Pairwise (· < ·))(hn:Zam l<=n):Zcf l m n=Zcf l m (Zam l):=by
 refine Zbl (Zca h1 hm) (Zca h1 hm) λw=>?_;rw[Zb1 h1,Zb1 h1];constructor
 .rintro⟨a,b,_⟩;exact⟨a,b,Zf4 h1 a⟩
 .rintro⟨a,b,c⟩;exact⟨a,b,∅⟩
def Zew (h1:1<=l.length):∀(n:Nat) (w:Q11),w.length=n->(∀c∈w,c∈m)->¬RI l w->∃v,v∈Zcf l m (Zam l)/\Inf v w:=by
 intro n;induction n with
 | zero=>
  intro w hw _ hn;rw[YBq.mp hw]at hn;exact absurd (RI.nil l) hn
 | succ n ih=>
  intro w hw hm hn;have ne:w≠[]:=λe=>by rw[e]at hw;simp at hw
  by_cases hi:RI l w.dropLast
  .by_cases ht:RI l w.tail
   .have ms:j7 l w:=⟨ne,hi,ht,hn⟩;exact⟨w,(Zb1 h1).mpr ⟨ms,⟨w.getLast ne,hm _ (List.getLast_mem ne),YBK ne⟩,Zf4 h1 ms⟩,Inf.refl w⟩
   .obtain⟨v,k1,k2⟩:=ih w.tail (by rw[YCY];lia) (λc hc=>hm c (List.mem_of_mem_tail hc)) ht;exact⟨v,k1,k2.trans (ZdM w)⟩
  .obtain⟨v,k1,k2⟩:=ih w.dropLast (by rw[YBA];lia) (λc hc=>hm c (YAa (by rw[<-YCF];exact hc))) hi;exact⟨v,k1,k2.trans (ZdN w)⟩
def ZcA (h1:1<=l.length)(hm:∀c∈w,c∈m):RI l w↔∀v∈Zcf l m (Zam l),¬Inf v w:=by
 constructor
 .intro h v hv hw;exact((Zb1 h1).mp hv).1.no (h.inf hw)
 .intro h;by_cases hi:RI l w
  .exact hi
  .obtain⟨v,k1,k2⟩:=Zew (m:=m) h1 _ w rfl hm hi;exact absurd k2 (h v k1)
end L2
namespace L2
def Win (l s:Q11)(i:Nat):Prop:=∀j,j<s.length->s[j]?=some (cyc l (i+j))
def Win.ri (w:Win l s i):RI l s:=⟨i,w⟩
def ZiJ (h1:1<=l.length)(w:Win l s i)(hx:l.length+x.length<=s.length+1):Inf x s↔RI l x:=by
 refine⟨λh=>w.ri.inf h,λ⟨a,h⟩=>?_⟩;obtain⟨k,hk,e⟩:∃k,k<l.length/\∀j,cyc l (i+(k+j))=cyc l (a+j):=by
  refine⟨(a+(l.length-i % l.length)) % l.length,YBh _ h1,λj=>?_⟩;unfold cyc;congr 1;have hi:=YBh i h1;have e1:(i+((a+(l.length-i % l.length)) % l.length+j)) % l.length=(i % l.length+(a+(l.length-i % l.length))+j) % l.length:=by rw[<-YCB,Nat.add_mod,Nat.add_mod (i % l.length+_) j,Nat.add_mod i,Nat.mod_mod];simp only[Nat.add_mod_mod,Nat.mod_add_mod]
  rw[e1,show i % l.length+(a+(l.length-i % l.length))+j=a+j+l.length by lia,Nat.add_mod_right]
 refine⟨k,∅,?_⟩;apply YBZ;intro j;by_cases hj:j<x.length
 .rw[YBr,YAS hj,YBj,w (k+j) ∅,e,h j hj]
 .rw[YAi (by rw[YAX];lia),YAi ∅]
def ZkA (h1:1<=l.length)(hm:m.Pairwise (· < ·))(w:Win l s i)(hK:l.length+K<=s.length+1)(hr:Zam l<=K):(Zas s m).filter (λw=>decide (w.length<=K))=Zcf l m (Zam l):=by
 rw[<-Zg3 h1 hm hr];refine Zbl ((ZaR hm).filter _) (Zca h1 hm) λx=>?_;rw[YAg,ZaI,Zb1 h1,decide_eq_true_iff];constructor
 .rintro⟨⟨ms,hl⟩,hx⟩;have f:=λ{y:Q11} (hy:y.length<=x.length)=>ZiJ (x:=y) h1 w ∅;exact⟨⟨ms.ne,(f (by simp)).mp ms.init,(f (by simp)).mp ms.tail,λz=>ms.no ((f (YAT _)).mpr z)⟩,hl,hx⟩
 .rintro⟨ms,hl,hx⟩;have f:=λ{y:Q11} (hy:y.length<=x.length)=>ZiJ (x:=y) h1 w ∅;exact⟨⟨⟨ms.ne,(f (by simp)).mpr ms.init,(f (by simp)).mpr ms.tail,λz=>ms.no ((f (YAT _)).mp z)⟩,hl⟩,hx⟩
def Win.drop (w:Win l (c::s) i):Win l s (i+1):=λj hj=>by have:=w (j+1) (by simp;lia);rw[YCP]at this;rw[this,YCB,Nat.add_comm 1 j]
def Win.put (w:Win l s i):Win l (s++[cyc l (i+s.length)]) i:=λj hj=>by
 rw[YAF,YAo]at hj;by_cases h:j<s.length
 .rw[YAm h,w j h]
 .have e:j=s.length:=by lia
  rw[e,YAs (YAT _),Nat.sub_self];rfl
def Win.one (w:Win l s i)(v:Win l t i)(e:s.length=t.length):s=t:=by
 apply YBZ;intro j;by_cases h:j<s.length
 .rw[w j h,v j ∅]
 .rw[YAi ∅,YAi ∅]
end L2
namespace L2
open PySem PySem.Spec PyProof.Rows
section
def ku:V->List V->Hp->VK->Prop:=λx vs H Q=>∃(l:AE) (xs:List V) (i:Nat) (y:V),x=.ref l/\vs=[.int (i:Int),y]/\H l=some (.lst xs)/\i<=xs.length/\xs.length<100000/\Q .non (upd H l (.lst (xs.take i++[y]++xs.drop i)))
def Zjz:MtM X "list.insert" ku:=by
 intro As s U H x vs v us Q I rx rv h;obtain⟨l,xs,i,y,rfl,rfl,hH,hi,hz,q⟩:=h;cases rx;obtain⟨u,w,rfl,ru,rw'⟩:=rv.two;obtain⟨t,rfl⟩:=ru;obtain⟨z,its,n,r,hl,e⟩:=I.lstM hH;have fi:Builtin.List.listFitsIndex ((i:Nat):Int)=true:=fitsIndex_both ∅ ∅;obtain⟨k,ek⟩:∃k:Int,k=((i:Nat):Int):=⟨_,rfl⟩;rw[<-ek]at fi ⊢;have hsz:its.toArray.size<=sizeLine:=by rw[YAM,<-hl];exact z
 have hc0:¬(!Builtin.List.listFitsIndex k)=true:=by rw[fi];exact YAE
 generalize hA:its.toArray=AA at e hsz;have mm:=PySem.AutoSeq1.list_insert_list_int_val_1 l AA n k t w hc0 hsz;refine call_meets F.slot_list_insert ⟨_,e,rfl⟩ F.entry_list_insert (F.args_list_insert_3 _ _ _) mm ⟨e,?_⟩;subst hA ek;refine⟨.non,_,I.lset (its':=its.take i++[w]++its.drop i) hH e ?_ ?_ ?_,rfl,q⟩
 .show (its.toArray.extract 0 (if ((i:Nat):Int)<0 then (((i:Nat):Int)+(its.toArray.size:Int)).toNat else min ((i:Nat):Int).toNat its.toArray.size)).push w++its.toArray.extract (if ((i:Nat):Int)<0 then (((i:Nat):Int)+(its.toArray.size:Int)).toNat else min ((i:Nat):Int).toNat its.toArray.size)=_;rw[YAL ∅,YBQ,YAM,YBp ∅];apply Array.toList_inj.mp;simp;exact YAq (by rw[YAk];lia)
 .exact((r.take i).append (.cons rw' .nil)).append (r.drop i)
 .rw[YAF,YAF,YAX,YAk,YAo,sizeLine_eq]
  lia
end
section
def Ze8 {l:AE} {items:Array Value} {n:Nat} {k:Int} {t:Tok} {v:Value} {Q:Unit->AF->Prop} (e:s.heap.get? l=some { cls:=.type "list",data:=.seq items n }) (h0:0<=k) (hfit:k<2 ^ 63) (hn:k<items.size)
  (hQ:Q () { s with heap:=s.heap.update l (Obj.mapSeq (·.setIfInBounds k.toNat v)) }):wpAny (model prog w) A (setItem (.ref l) (.int k t) v) Q E s:=by
 have hl:=PySem.IsL.isList e;unfold setItem;try with_reducible refine YBD ?_
 first | refine YAA (YAC ?_) | skip
 refine YAA (wpAny_sequenceKey hl.typeIs (by decide) ?_);refine YAA (wpAny_callSpecial?_slot (name:=Str.ofString "__setitem__") hl.typeIs slot_list_setitem
  (YBs slot_list_setitem hl.typeIs entry_list_setitem ?_ (args_list_setitem _ _ _)))
 show wpAny _ _ (Builtin.List.listSubscript? (.int k t) >>= _) _ _ s;refine YAA (wpAny_listSubscript_int (fitsIndex_of h0 hfit) ?_);clear hfit;obtain⟨j,rfl⟩:=Int.eq_ofNat_of_zero_le h0;have hj:j<items.size:=by lia
 have hx':items[j]?=some items[j]:=Array.getElem?_eq_getElem hj;show wpAny _ _ ((seqItemAt l j >>= λr=>pure (r.map (j,·))) >>= _) _ _ s;refine YAA (YAA (wpAny_seqItemAt e rfl (YAC ?_)));rw[hx'];show wpAny _ _ (setSeqItemAt l j v >>= _) _ _ s;refine YAA (wpAny_setSeqItemAt e rfl ?_)
 first
  | exact YAA (YAC (YAC ⟨.none,rfl,YAC hQ⟩))
  | exact YAC ⟨.none,rfl,YAC hQ⟩
end
section
def Zoy (td ty tv:TE):TS:=λD U H=>tv U H λv H1=>td U H1 λx H2=>ty U H2 λy H3=>∃(l:AE) (xs:List V) (k:Nat),x=.ref l/\y=.int (k:Nat)/\H3 l=some (.lst xs)/\k<xs.length/\k<1000/\D.nx U (upd H3 l (.lst (xs.set k v)))
def Zjl (ho:PE X o td)(hi:PE X i ty)(hv:PE X value tv)(hs:swapsWith value (some (.Subscript o i pos')) pos.line X.env=pure false):
  PS X (.Assign [.Subscript o i pos'] value pos) (Zoy td ty tv):=by
 intro As s U H D I h;refine wpAny_Assign_Subscript (thn (hv As s U H _ I h) λr s1 ⟨v,H1,I1,rv,q1⟩=>thn (ho As s1 U H1 _ I1 q1) λu s2 ⟨x,H2,I2,rx,q2⟩=>thn (hi As s2 U H2 _ I2 q2) λiv s3 zz=>?_) hs;obtain⟨y,H3,I3,ry,l,xs,k,ex,ey,hH,hk,hk2,q3⟩:=zz;subst ex ey;obtain rfl:u=Value.ref l:=rx;obtain⟨t,rfl⟩:=ry;obtain⟨z,its,n,r2,hl,e⟩:=I3.lstM hH;refine Ze8 e ∅ ∅ (by rw[YAM,<-hl];lia) ?_;refine⟨U,_,I3.lset (t':=s3.toks) (ys:=xs.set k v) (its':=its.set k r) hH e ?_ (gs.set rv k r2) (by rw[List.length_set];exact z),q3⟩;rw[YBQ,List.setIfInBounds_toArray]
end
theorem Zii (a g:AE):Builtin.«list.sort» ⟨[.ref a],[(Str.ofString "key",.ref g)]⟩=(do
  let its <-Builtin.List.listItems (.ref a)
  Builtin.List.listUpdate (.ref a) λ_=>#[]
  let be <-seqEpoch a
  let hd <-newTuple its.toList
  let ks <-newList []
  holding [hd,ks] do
   rule "list.sort.key"
   for x in its do
    match <-(call (.ref g) [x]).attempt with
    | .ok k=>Builtin.List.listUpdate ks (·.push k)
    | .error e=>
     rule "list.sort.key-raised"
     let md <-Builtin.List.listItems ks
     Builtin.List.listUpdate ks λ_=>#[]
     letGo md.toList.reverse [e]
     Builtin.List.listUpdate (.ref a) λ_=>its
     throw e
   let kys <-Builtin.List.listItems ks
   let kind <-if its.size<2 then pure general' else keyKind' kys
   let ((),v) <-(if its.size<2 then pure () else sortRuns').run (SortSt.mk' kind (kys.zip its) #[] 7 none)
   Builtin.List.listUpdate ks λ_=>#[]
   letGo ((arrOf v).map (·.1)).toList (failedOf v).toList
   let tch:=(<-seqEpoch a) != be
   Builtin.List.listUpdate (.ref a) λ_=>(arrOf v).map (·.2)
   if let some e:=failedOf v then rule "list.sort.comparison-raised";throw e
   if tch then rule "list.sort.modified";raiseError "ValueError" "list modified during sort"
   ret .none):=rfl
noncomputable def Kp (h g:Heap):Prop:=∀b o,h.get? b=some o->g.get? b=some o
noncomputable def iT (M:Model) (A:AI) (g:AE) (vs:AD) (kf:Value->Int×Q11) (s:AF):Prop:=
 ∀(E:Q33) (s':AF) (v:Value) (Q:Q33),v∈vs->Kp s.heap s'.heap->s'.gens=s.gens->s'.os=s.os ->
  (∀(s2:AF) (k:Value),Kp s'.heap s2.heap->s2.gens=s'.gens->s2.os=s'.os->IsT s2.heap k (kf v).1 (kf v).2->Q k s2)->wpAny M A (call (.ref g) [v]) Q E s'
def IsT.kp (k:IsT h v n c)(q:Kp h g):IsT g v n c:=by obtain⟨a,t,w,u,e,h1,h2,h3⟩:=k;exact⟨a,t,w,u,e,h1,q _ _ h2,h3⟩
def IsT.up {h:Heap} {v:Value} {n:Int} {c:Q11} {K:AE} {xs:Array Value} {m:Nat} {f:Obj->Obj} (k:IsT h v n c) (hK:h.get? K=some (seqObj "list" xs m)):IsT (h.update K f) v n c:=by
 obtain⟨a,t,w,u,e,h1,h2,h3⟩:=k;refine⟨a,t,w,u,e,h1,?_,h3⟩;rw[(YAn h K f).2 a ?_]
 .exact h2
 .rintro rfl;rw[h2]at hK;have:=congrArg Obj.cls (Option.some.inj hK);exact absurd (show Value.type "tuple"=Value.type "list" from this) (by decide)
noncomputable def jq (h:Heap) (kf:Value->Int×Q11) (ks vs:AD):Prop:=ks.length=vs.length/\∀(i:Nat) (k v:Value),ks[i]?=some k->vs[i]?=some v->IsT h k (kf v).1 (kf v).2
section
theorem ZjO {g K a:AE}{vs:AD}{kf:Value->Int×Q11}{oa:Obj}{Q:PUnit->AF->Prop}{er:Value->Sem (ForInStep PUnit)}(hc:iT (model prog w) A g vs kf s)(hK0:s.heap.get? K=none)(ha0:a≠K)(hN:vs.length<=sizeLine)
  (q:∀(s2:AF) ks n,Kp s.heap s2.heap->s2.gens=s.gens->s2.os=s.os->s2.heap.get? K=some (seqObj "list" ks.toArray n)->jq s2.heap kf ks vs->s2.heap.get? a=some oa->Q ⟨⟩ s2):
  ∀(l dn ks:AD) (s':AF) (n:Nat),vs=dn++l->Kp s.heap s'.heap->s'.gens=s.gens->s'.os=s.os->s'.heap.get? K=some (seqObj "list" ks.toArray n)->jq s'.heap kf ks dn->s'.heap.get? a=some oa ->
   wpAny (model prog w) A (forIn l PUnit.unit λx _=>do
    match <-(call (.ref g) [x]).attempt with
    | .ok k=>do
     Builtin.List.listUpdate (.ref K) (·.push k)
     pure (ForInStep.yield PUnit.unit)
    | .error e=>er e) Q E s'
 | [],dn,ks,s',n,hv,h1,h2,h3,h4,h5,h6=>by
  rw[YDT]at hv;subst hv;rw[List.forIn_nil];exact YAC (q s' ks n h1 h2 h3 h4 h5 h6)
 | x::l,dn,ks,s',n,hv,h1,h2,h3,h4,h5,h6=>by
  rw[YCk];refine YAA (YAA (YCa (hc _ s' x _ (by rw[hv];simp) h1 h2 h3 λs2 k k1 k2 k3 k4=>?_)));have Av:ks.length<vs.length:=by rw[h5.1,hv];simp
  have hK2:=k1 _ _ h4;refine YAA (listUpdate_at hK2 rfl (YAC ?_) (hsz:=by rw[YAM];lia) (hsz2:=by rw[Array.size_push,YAM];lia));dsimp only;have sb:=YAn s2.heap K (Obj.mapSeq λz=>z.push k);refine ZjO hc hK0 ha0 hN q l (dn++[x]) (ks++[k]) _ _ (by rw[hv];simp) ?_ (k2.trans h2) (k3.trans h3) (by have:=get?_update_seq hK2 (λz=>z.push k);rw[List.push_toArray]at this;exact this) ?_ ?_
  .intro b o hb;refine(sb.2 b ?_).trans (k1 b o (h1 b o hb));rintro rfl;rw[hK0]at hb;cases hb
  .refine⟨by simp[h5.1],λi k' v' e1 e2=>?_⟩;by_cases hi:i<ks.length
   .rw[YAm hi]at e1;rw[YAm (by rw[<-h5.1];exact hi)]at e2;exact((h5.2 i k' v' e1 e2).kp k1).up hK2
   .have hi2:i=ks.length:=by have:=(YAN.mp e1).1;simp at this;lia
    subst hi2;rw[YAs (YAT _),Nat.sub_self]at e1;rw[h5.1,YAs (YAT _),Nat.sub_self]at e2;cases e1;cases e2;exact k4.up hK2
  .exact(sb.2 a ha0).trans (k1 a oa h6)
end
section
def ZgG (hk:jq h kf ks vs){p:Keyed}(hp:p∈ks.zip vs):jM h p.1=kf p.2/\∃n c,IsT h p.1 n c:=by
 obtain⟨i,hi,rfl⟩:=YBX hp;rw[List.length_zip]at hi;have h1:i<ks.length:=by lia
 have h2:i<vs.length:=by lia
 have:=hk.2 i ks[i] vs[i] (YAH h1) (YAH h2);rw[List.getElem_zip];exact⟨this.key,_,_,this⟩
def Zih (hc:iT (model prog w) A g vs kf s0)(hb:Kp s0.heap s.heap)(hg:s.gens=s0.gens)(hos:s.os=s0.os)(ha0:s0.heap.get? a=none)
  (ho:s.heap.get? a=some (seqObj "list" vs.toArray n)) (hN:vs.length<=sizeLine)
  (h:∀(s':AF) (us:AD) (e:Nat),Kp s0.heap s'.heap->s'.gens=s0.gens->s'.os=s0.os->s'.heap.get? a=some (seqObj "list" us.toArray e)->us.Perm vs->us.Pairwise (λx y=>ltP (kf y) (kf x)=false)->P (.done (.ret .none)) s'):
  wpAny (model prog w) A (Builtin.«list.sort» ⟨[.ref a],[(Str.ofString "key",.ref g)]⟩) P E s:=by
 have A4:a<s.heap.objs.size:=YAR ho;have up:=get?_update_seq ho (λ_=>#[]);generalize hep:(if (#[]:Array Value).size == vs.toArray.size then n else n+1)=ep at up;obtain⟨h1,hh1⟩:∃h1,h1=s.heap.update a (Obj.mapSeq λ_=>#[]):=⟨_,rfl⟩;have k1:Kp s0.heap h1:=by
  intro b o q;rw[hh1,(YAn s.heap a _).2 b ?_]
  .exact hb b o q
  .rintro rfl;rw[ha0]at q;cases q
 rw[<-hh1]at up;obtain⟨K,hK⟩:∃K,K=(h1.push (seqObj "tuple" vs.toArray 0)).objs.size:=⟨_,rfl⟩;obtain⟨h3,hh3⟩:∃h3,h3=(h1.push (seqObj "tuple" vs.toArray 0)).push (seqObj "list" #[] 0):=⟨_,rfl⟩;have k3:Kp h1 h3:=λb o q=>by rw[hh3];exact YAD _ (YAD _ q)
 have oK:h3.get? K=some (seqObj "list" #[] 0):=by rw[hh3,hK];exact YAU _ rfl
 have nK:s0.heap.get? K=none:=by
  cases z:s0.heap.get? K with
  | none=>rfl
  | some o=>
   have:=YAR (k1 _ _ z);rw[hK,size_push']at this;exact absurd this (Nat.not_lt.mpr (Nat.le_succ _))
 have aK:a≠K:=by rintro rfl;have h8:=YAR up;rw[hK,size_push']at h8;exact absurd h8 (Nat.not_lt.mpr (Nat.le_succ _))
 subst hK;rw[Zii];refine YAA (listItems_at ho rfl (YAA (listUpdate_at ho rfl ?_ (hsz:=by rw[YAM];exact hN))));rw[<-hh1];refine YAA (seqEpoch_at up rfl (YAA (wpAny_newTuple (YAA (wpAny_newList (YBD ?_))))));refine YAA (YBn ?_);rw[List.forIn_toArray];show wpAny _ _ _ _ _ { s with heap:=(h1.push (seqObj "tuple" vs.toArray 0)).push (seqObj "list" #[] 0) };rw[<-hh3];refine YAA (ZjO hc nK aK hN ?_ vs [] [] { s with heap:=h3 } 0 rfl (λb o q=>k3 b o (k1 b o q)) hg hos oK ⟨rfl,λi k v e _=>by simp at e⟩ (k3 a _ up));intro s2 ks m j1 j2 j3 j4 j5 j6;dsimp only;refine YAA (listItems_at j4 rfl ?_);have fin:∀v:SortSt,failedOf v=none->((arrOf v).map (·.2)).toList.Perm vs->((arrOf v).map (·.2)).toList.Pairwise (λx y=>ltP (kf y) (kf x)=false) ->
   wpAny (model prog w) A (do
    Builtin.List.listUpdate (.ref (h1.push (seqObj "tuple" vs.toArray 0)).objs.size) λ_=>#[]
    letGo ((arrOf v).map (·.1)).toList (failedOf v).toList
    let tch:=(<-seqEpoch a) != ep
    Builtin.List.listUpdate (.ref a) λ_=>(arrOf v).map (·.2)
    if let some e:=failedOf v then rule "list.sort.comparison-raised";throw e
    if tch then rule "list.sort.modified";raiseError "ValueError" "list modified during sort"
    ret .none) P E s2:=by
  intro v f1 f2 f3;have hl:=j5.1;refine YAA (listUpdate_at j4 rfl (YAA (wpAny_letGo ?_)) (hsz:=by rw[YAM];lia));have sb:=YAn s2.heap (h1.push (seqObj "tuple" vs.toArray 0)).objs.size (Obj.mapSeq λ_=>#[]);have a1:(s2.heap.update (h1.push (seqObj "tuple" vs.toArray 0)).objs.size (Obj.mapSeq λ_=>#[])).get? a=some (seqObj "list" #[] ep):=(sb.2 a aK).trans j6;refine YAA (seqEpoch_at a1 rfl (YAA (listUpdate_at a1 rfl ?_ (hsz2:=by
   have:=f2.length_eq;rw[YAG]at this
   lia))))
  rw[f1,bne_self_eq_false];obtain⟨out,hout⟩:∃out,out=(arrOf v).map (·.2):=⟨_,rfl⟩;rw[<-hout]at f2 f3 ⊢;have a2:=get?_update_seq a1 (λ_=>out);generalize (if out.size == (#[]:Array Value).size then ep else ep+1)=e5 at a2;have e3:out.toList.toArray=out:=YDG;refine YAC (h _ out.toList e5 ?_ j2 j3 (by rw[e3];exact a2) f2 f3);intro b o q;refine((YAn _ a _).2 b ?_).trans ((sb.2 b ?_).trans (j1 b o q))
  .rintro rfl;rw[ha0]at q;cases q
  .rintro rfl;rw[nK]at q;cases q
 have zs:(ks.toArray.zip vs.toArray)=(ks.zip vs).toArray:=by simp
 have zm:((ks.zip vs).map (·.2))=vs:=List.map_snd_zip (by rw[j5.1];exact YAT _);by_cases h2:vs.toArray.size<2
 .rw[YAS h2,YAS h2];refine YAA (YAC ?_);rw[StateT.run_pure];refine YAA (YAC ?_);refine fin (SortSt.mk' general' (ks.toArray.zip vs.toArray) #[] 7 none) rfl ?_ ?_
  .show ((ks.toArray.zip vs.toArray).map (·.2)).toList.Perm vs;rw[zs,YCZ,zm]
  .show ((ks.toArray.zip vs.toArray).map (·.2)).toList.Pairwise _;rw[zs,YCZ,zm]
   match vs,h2 with
   | [],_=>exact List.Pairwise.nil
   | [x],_=>exact YDP _ _
   | _::_::_,h2=>simp at h2;lia
 .rw[YAL h2,YAL h2];have hne:ks≠[]:=by intro e;have:=j5.1;rw[e]at this;rw[YAM,<-this]at h2;simp at h2
  refine YAA (Zg5 (λv hv=>?_) hne ?_)
  .obtain⟨i,hi,rfl⟩:=YBX hv;have h2:i<vs.length:=by rw[<-j5.1];exact hi
   exact⟨_,_,j5.2 i ks[i] vs[i] (YAH hi) (YAH h2)⟩
  .refine YAA (YBg (ZgT (a0:=ks.zip vs) (st:=SortSt.mk' (tuples' true) (ks.toArray.zip vs.toArray) #[] 7 none) (Q:=λ_ v=>(arrOf v).toList.Perm (ks.zip vs)/\(arrOf v).toList.Pairwise (Le (ltT s2.heap))/\failedOf v=none)
    (Zne _) Zlc (λu hu=>(ZgG j5 hu).2) rfl rfl rfl (by show (ks.toArray.zip vs.toArray).toList=_;rw[zs]) λv p1 p2 p3=>⟨p1,p2,p3⟩) ?_ λ_ _ e=>e)
   rintro⟨⟨⟩,v⟩ s3 ⟨rfl,p1,p2,p3⟩;refine fin v p3 ?_ ?_
   .rw[YCZ];have:=p1.map (λp:Keyed=>p.2);rw[zm]at this;exact this
   .rw[YCZ,YBG];refine p2.imp_of_mem λ{x y} hx hy e=>?_;have e1:=(ZgG j5 (p1.mem_iff.mp hx)).1;have e2:=(ZgG j5 (p1.mem_iff.mp hy)).1;have e':ltP (jM s3.heap y.1) (jM s3.heap x.1)=false:=e;rw[e1,e2]at e';exact e'
end
open PySem.W (Frag)
section
end
section
end
section
end
section
end
noncomputable def kfT:Value->Int×Q11
 | .str x _=>((x.length:Nat),x.cps.toList)
 | _=>(0,[])
abbrev Zed (x:Str)(p1 p2 p3 p4 p5:Pos)(k:Nat):Expr:=.Tuple [.Call (.Name "len" p1) [.Name x p2] [] p3,.Name x p4] k p5
structure jR (scope:Scope)(x:Str):Prop where
 kind:scope.kind=.function
 co:scope.isCoroutine=false
 gen:scope.isGenerator=false
 loc:scope.names.lookup x=some .local
 glb:scope.names.lookup ("len":Str)=some .globalImplicit
 nodbg:(x == ("__debug__":Str))=false
section
def ZgA (f:Str->Option NameKind){x:Str}{v:Value}(h:f x=some .local):bindL f [(x,v)] (λ_=>none) x=some v:=by unfold bindL bindL;rw[YAS h,YAS rfl]
def Znj 
  (ho:s.heap.get? g=some o) (hod:o.data=.func (kla_fn name qual params (Zed x p1 p2 p3 p4 p5 k) scope [] pm cv ctv)) (hcd:s.heap.CodeRec cv qual) (S:jR scope x)
  (hb:∀(s:AF) (u:Value),BindsTo s (kla_fn name qual params (Zed x p1 p2 p3 p4 p5 k) scope [] pm cv ctv) ⟨[u],[]⟩ [(x,u)]) (hroom:A.depth<recursionLimit) (hlim:s.heap.NoLimit)
  (hg:s.heap.Ns mainGlobals mg) (hgl:mg "len"=none) (hbn:s.heap.Ns builtinsNs mb) (hbb:mb "len"=bootBuiltins "len") (hv:∀v∈vs,∃y t,v=.str y t/\y.length<=sizeLine):iT (model prog w) A g vs kfT s:=by
 intro E s' v Q hvm hk hgen hos q;obtain⟨y,t,rfl,hy⟩:=hv v hvm;have hs:sizeLine=16777216:=sizeLine_eq;refine wpAny_call (kla_callFunE hroom (hk _ _ ho) hod S.co S.gen rfl (let ⟨c,oc,ws,tq,e1,e2,r⟩:=hcd;⟨c,oc,ws,tq,e1,hk _ _ e2,r⟩) (hb _ _ _ _ _ _ ?_));refine wpAny_newFunctionEnv_cells S.kind (λz hz=>.inl (by rw[YAI.mp hz];exact S.loc)) λenv he s1 X=>?_;refine⟨(hlim.keeps hk).keeps X.toInCall.keep,kla_codeExpr ?_⟩;subst he;obtain⟨h1,tk1,e1⟩:=X.toInCall.same;have kp1:Kp s'.heap s1.heap:=X.toInCall.keep;have lnm:∀(pp:Pos) (B:AI) (E2:Q33) (s2:AF) (Q2:Q33),Kp s1.heap s2.heap->Q2 (.str y t) s2->wpAny (model prog w) B (eval (.Name x pp) (newEnv scope s'.heap.objs.size mainGlobals (cellsFrom (s'.heap.objs.size+1) scope.names []) (qual++".<locals>.") (some g) cv none builtinsNs)) Q2 E2 s2:=λpp B E2 s2 Q2 k2 q2=>
  wpAny_Name (wpAny_loadName_local S.kind S.loc (X.toInCall.ns.keeps k2) (by exact ZgA _ S.loc) q2) S.nodbg
 refine wpAny_Tuple_spliced ?_;show wpAny _ _ (spliced ((false,eval (.Call (.Name "len" p1) [.Name x p2] [] p3) _)::backTo p5 (starEach [.Name x p4] _))) _ _ s1;refine YCd ?_;refine YCH (Calls.Name_function_global S.kind S.glb (Calls.loadGlobal_builtin (v:=.builtin "len") (show s1.heap.Ns mainGlobals mg from(hg.keeps hk).keeps kp1) hgl (show s1.heap.Ns builtinsNs mb from(hbn.keeps hk).keeps kp1) (hbb.trans rfl) ?_) (by decide));refine PyProof.Rows.callWith_builtin1 ?_ rfl rfl;show wpAny _ _ (spliced ((false,eval (.Name x p2) _)::backTo p3 (starEach [] _))) _ _ s1;refine YCd (lnm p2 _ _ _ _ (λ_ _ e=>e) (YDY ?_));refine len_str ∅ ?_;show wpAny _ _ (spliced ((false,eval (.Name x p4) _)::backTo p5 (starEach [] _))) _ _ _;refine YCd (lnm p4 _ _ _ _ (λ_ _ e=>e) (YDY ?_));refine⟨by rw[hs];show 2<=16777216;decide,?_⟩;rw[e1];refine q _ _ (λb o e=>YAD _ (by have:=kp1 b o e;rw[e1]at this;exact this)) rfl rfl ⟨_,_,_,_,_,rfl,YAU _ rfl,rfl⟩
end
def Zer (a v:Value):argsOk "sorted" ⟨[a],[(Str.ofString "key",v)]⟩:=by unfold argsOk;kernel_rfl
def Zdc (a v:Value):argsOk "list.sort" ⟨[a],[(Str.ofString "key",v)]⟩:=by unfold argsOk;kernel_rfl
section
def ZdU (eo:s.heap.get? a=some (seqObj "list" its.toArray n)) (hc:iT (model prog w) A.in1.in1 g its kf s) (hN:its.length<=sizeLine)
  (h:∀(s':AF) (r:AE) (us:AD) (e:Nat),s.heap.get? r=none->Kp s.heap s'.heap->s'.gens=s.gens->s'.os=s.os->s'.heap.get? r=some (seqObj "list" us.toArray e)->us.Perm its->us.Pairwise (λx y=>ltP (kf y) (kf x)=false)->Q (.ref r) s'):
  wpAny (model prog w) A (call (.builtin "sorted") [.ref a] [(Str.ofString "key",.ref g)]) Q E s:=by
 refine call_function_entry_kw kind_sorted plain_sorted entry_sorted (Zer _ _) ?_;unfold Builtin.«sorted»;refine YAA (m:=checkCount "sorted" 1 1 _) (YAC ?_);refine YAA (collect_list (PySem.IsL.isList eo) ?_ hN);have sb:=YAn (s.heap.push (seqObj "list" #[] 0)) s.heap.objs.size (Obj.mapSeq (·++its.toArray));have k1:Kp s.heap ((s.heap.push (seqObj "list" #[] 0)).update s.heap.objs.size (Obj.mapSeq (·++its.toArray))):=λb o e=>(sb.2 b (YAd (YAR e))).trans (YAD _ e);generalize ((s.heap.push (seqObj "list" #[] 0)).update s.heap.objs.size (Obj.mapSeq (·++its.toArray)))=g1 at k1 ⊢;have nw:s.heap.get? g1.objs.size=none:=by
  cases z:s.heap.get? g1.objs.size with
  | none=>rfl
  | some o=>exact absurd (YAR (k1 _ _ z)) (YBM _)
 refine YAA (wpAny_newList ?_ hN);have hoL:(g1.push (seqObj "list" its.toArray 0)).get? g1.objs.size=some (seqObj "list" its.toArray 0):=YAU _ rfl;refine YAA (YBD (wpAny_call_entry_kw slot_list_sort ⟨_,hoL,rfl⟩ entry_list_sort (Zih (s0:=s) hc (λb o e=>YAD _ (k1 b o e)) rfl rfl nw hoL hN λs' us e k2 e1 e2 e3 e4 e5=>⟨_,rfl,?_⟩) (Zdc _ _)));exact YAC ⟨_,rfl,h s' _ us e nw k2 e1 e2 e3 e4 e5⟩
end
end L2
namespace L2
open PySem PySem.Spec PyProof.Rows PySem.W
def Zc4:HO->Bool
 | .tbl _=>true
 | _=>false
def gE (H H':Hp):Prop:=∀b o,H b=some o->Zc4 o=false->H' b=some o
def gE.refl (H:Hp):gE H H:=λ_ _ e _=>e
def gE.trans (a:gE H H1)(b:gE H1 H2):gE H H2:=λc o e n=>b c o (a c o e n) n
def gp.l (s:gp H H'):gE H H':=λb o e _=>s b o e
def ZfH (c:AE)(q:Str):HO:=.ext λh=>h.CodeRec (.ref c) q
def ZlJ (x:h.CodeRec (.ref c) q):gQ P w H h c (ZfH c q):=by obtain⟨c',o,vs,t,e,e1,r⟩:=id x;cases e;refine⟨x,⟨o,e1⟩,λh1 h2 x1 k=>?_⟩;obtain⟨c',o,vs,t,e,e1,r⟩:=x1;cases e;exact⟨c,o,vs,t,rfl,k _ e1,r⟩
def gY (H:Hp)(P:AE)(pos:Pos)(q:Str):Prop:=∃ps,H P=some (.tbl ps)/\TriplesOk ps.toList/\(codeAmong pos ps.toList=none\/∃c,codeAmong pos ps.toList=some (.ref c)/\H c=some (ZfH c q))
def gY.same (t:gY H P pos q)(s:gp H H'):gY H' P pos q:=by obtain⟨ps,e,tr,h⟩:=t;exact⟨ps,s _ _ e,tr,h.imp id λ⟨c,e1,e2⟩=>⟨c,e1,s _ _ e2⟩⟩
def nQ (h:H P=some (.tbl #[])):gY H P pos q:=⟨#[],h,trivial,.inl rfl⟩
def Zeo {pos pos':Pos}{c:Value}(hne:pos'.line≠pos.line\/pos'.col≠pos.col)(l:AD)(h:TriplesOk l):codeAmong pos' (l++[rawInt pos.line,rawInt pos.col,c])=codeAmong pos' l:=by
 fun_induction TriplesOk l with
 | case1=>
  simp only[List.nil_append,codeAmong,rawInt];rw[YAL];intro z;simp only[YAY,beq_iff_eq]at z;rcases hne with n | n
  .exact n (by have:=z.1;lia)
  .exact n (by have:=z.2;lia)
 | case2 a t b u x rest ih=>
  simp only[YCn,codeAmong];rw[ih h]
 | case3 l h1 h2=>exact h.elim
def jb (pos:Pos)(H H':Hp):Prop:=gE H H'/\∀(P':AE) (pos':Pos) (q':Str),(pos'.line≠pos.line\/pos'.col≠pos.col)->gY H P' pos' q'->gY H' P' pos' q'
def jb.then (s:jb pos H H1)(t:gp H1 H2):jb pos H H2:=⟨s.1.trans t.l,λP' p' q' n T=>(s.2 P' p' q' n T).same t⟩
structure iA (base:Heap)(mg:AC)(c P:AE):Prop where
 hd:CodeHd base c P
 bm:base.BuiltinsAt mg P
section
def Inv.table (I:Inv X As U H s)(hP:H P=some (.tbl ps))(hx:Heap.ExtBut P s.heap h')(hc:s.heap.objs.size<=c')(hr:h'.CodeRec (.ref c') q)(ht:h'.get? P=some (tabObj (ps++more))):
  Inv X As U (upd (upd H P (.tbl (ps++more))) c' (ZfH c' q)) { s with heap:=h',toks:=t' }:=by
 have fc:H c'=none:=I.hok.fresh hc;have nPc:P≠c':=Zag hP fc;have nt:∀ {b u},H b=some u->(∀ps,u≠.tbl ps)->b≠P:=λe n z=>by rw[z,hP]at e;exact n _ (Option.some.inj e).symm
 have nc:∀ {b u},H b=some u->b≠c':=λe=>Zag e fc;have hz:∀ {b o},s.heap.get? b=some o->b≠c':=λe z=>absurd (YAR e) (by rw[z];exact Nat.not_lt.mpr hc);have nn:∀ {b},H b=none->b≠P:=λe z=>by rw[z,hP]at e;cases e
 refine I.call' (s':={ s with heap:=h',toks:=t' }) (ch:=[]) rfl ⟨λb o e n _ _=>hx b o (nn n) e,λb o e n _ _=>⟨o.slots,hx b o (nn n) e⟩,λb o e n _=>?_,λb o e _=>?_,λb xs e=>?_,λb o u e=>?_,λb qs e=>?_⟩ (λb u e=>?_) I.bare (λb z=>by cases z)
 .rw[Zak (hz e),Zak (nn n)];exact n
 .by_cases z:b=P
  .exact⟨_,by rw[z];exact ht⟩
  .exact⟨o,hx b o z e⟩
 .rw[Zak (nc e),Zak (nt e λ_ z=>by cases z)];exact e
 .rw[Zak (nc e),Zak (nt e λ_ z=>by cases z)];exact e
 .by_cases z:b=P
  .subst z;rw[hP]at e;cases e;exact⟨more,by rw[Zak nPc,Zao]⟩
  .exact⟨#[],by rw[Zak (nc e),Zak z,e];simp⟩
 .by_cases z1:b=c'
  .subst z1;rw[Zao]at e;cases e;exact ZlJ hr
  .rw[Zak z1]at e;by_cases z2:b=P
   .subst z2;rw[Zao]at e;cases e;exact ht
   .rw[Zak z2]at e;refine(I.hok b u e).stay (λd v hd k=>?_) (λd k=>?_) λd xs k=>?_
    .refine hx d v ?_ k;rcases hd with rfl | hd
     .exact z2
     .exact nt hd λ_ z=>by cases z
    .rw[Zak (nc k),Zak (nt k λ_ z=>by cases z)];exact k
    .rw[Zak (nc k),Zak (nt k λ_ z=>by cases z)];exact k
def ZjI (I:Inv X As U H s)(L:iA X.base X.mg c P)(hcode:X.env.code=.ref c)(hcl:closureFor scope X.env=pure clos)(hdef:defaultsOf params X.env=([],[]))
  (hq:X.env.qual++"<lambda>"=q) (T:gY H P pos q)
  (h:∀(H1:Hp) (h':Heap) (tk:Nat) (c':AE) (ctv:Value),jb pos H H1->gY H1 P pos q->(∀b,H1 b=none->H b=none)->Inv X As U H1 { s with heap:=h',toks:=tk }->h'.CodeRec (.ref c') q->H1 c'=some (ZfH c' q)->Q (.ref h'.objs.size) { s with heap:=h'.push (kla_obj "<lambda>" q params body scope clos ((X.mg "__name__").getD .none) c' ctv),toks:=tk }):
  wpAny (model X.prog X.w) X.A (eval (.Lambda params body scope pos) X.env) Q E s:=by
 obtain⟨ps,hP,tr,hc⟩:=T;have gP:s.heap.get? P=some (tabObj ps):=I.hok P _ hP;have C:CodeHd s.heap c P:=L.hd.keeps I.bk;have hg:s.heap.Ns mainGlobals X.mg:=I.mod.glob.keeps I.bk;have hgP:mainGlobals≠P:=λz=>by obtain⟨o,es,ep,e,hd,_⟩:=hg;rw[z,gP]at e;cases e;cases hd
 have hbm:s.heap.BuiltinsAt X.mg P:=let ⟨bm,o,a1,a2,a3,a4,a5,r⟩:=L.bm;⟨bm,o,a1,a2,a3,a4,I.bk _ _ a5,r⟩;refine kla_eval hdef ?_;rw[hq];rcases hc with hn | ⟨c',hf,hc'⟩
 .refine kla_makeFunction hcl I.ok.glob hg hcode C gP tr hn hgP hbm λc' ctv h' tk hx hge A4 hrec htab=>?_;have fc:H c'=none:=I.hok.fresh hge;have J:=I.table (t':=tk) hP hx hge hrec htab;have nPc:P≠c':=Zag hP fc;have el:(ps++#[rawInt pos.line,rawInt pos.col,Value.ref c']).toList=ps.toList++[rawInt pos.line,rawInt pos.col,.ref c']:=by simp
  refine h _ _ _ c' ctv ⟨λb o e n=>?_,λP' pos' q' hne T'=>?_⟩ ⟨_,by rw[Zak nPc,Zao],by rw[el];exact TriplesOk_snoc _ _ _ _ tr,.inr ⟨c',by rw[el];exact codeAmong_snoc _ tr hn,Zao⟩⟩ (λb e=>?_) J hrec Zao
  .rw[Zak (Zag e fc),Zak (λz=>by rw[z,hP]at e;cases e;cases n)];exact e
  .obtain⟨ps',e1,t1,h1⟩:=T';have keep:∀d,H d=some (ZfH d q')->upd (upd H P (.tbl (ps++#[rawInt pos.line,rawInt pos.col,Value.ref c']))) c' (ZfH c' q) d=some (ZfH d q'):=λd e=>by rw[Zak (Zag e fc),Zak (λz=>by rw[z,hP]at e;cases e)];exact e
   by_cases z:P'=P
   .subst z;rw[hP]at e1;cases e1;refine⟨_,by rw[Zak nPc,Zao],by rw[el];exact TriplesOk_snoc _ _ _ _ tr,?_⟩;rw[el,Zeo hne _ tr];exact h1.imp id λ⟨d,f1,f2⟩=>⟨d,f1,keep d f2⟩
   .exact⟨ps',by rw[Zak (Zag e1 fc),Zak z];exact e1,t1,h1.imp id λ⟨d,f1,f2⟩=>⟨d,f1,keep d f2⟩⟩
  .by_cases z1:b=c'
   .rw[z1];exact fc
   .rw[Zak z1]at e;by_cases z2:b=P
    .rw[z2,Zao]at e;cases e
    .rw[Zak z2]at e;exact e
 .refine kla_makeFunctionHit hcl I.ok.glob hg hcode C gP tr hf hbm λctv h' tk hk hsz=>?_;have hrec:s.heap.CodeRec (.ref c') q:=(I.hok c' _ hc').1;exact h H _ _ c' ctv ⟨gE.refl _,λ_ _ _ _ T=>T⟩ ⟨ps,hP,tr,.inr ⟨c',hf,hc'⟩⟩ (λb e=>e) (I.kept (t':=tk) hk) (hrec.keeps hk) hc'
def Zf7 (I:Inv X As U H s)(L:iA X.base X.mg c P)(hcode:X.env.code=.ref c)(hcl:closureFor scope X.env=pure [])(hdef:defaultsOf params X.env=([],[]))
  (hq:X.env.qual++"<lambda>"=q) (T:gY H P pos q)
  (h:∀(g:AE) (H1:Hp) (s1:AF) (cv ctv pm:Value),jb pos H H1->gY H1 P pos q->(∀b,H1 b=none->H b=none)->Inv X As U H1 s1->s1.heap.get? g=some { cls:=.type "function",data:=.func (kla_fn "<lambda>" q params body scope [] pm cv ctv) }->s1.heap.CodeRec cv q->Q (.ref g) s1):
  wpAny (model X.prog X.w) X.A (eval (.Lambda params body scope pos) X.env) Q E s:=
 ZjI I L hcode hcl hdef hq T λH1 h' tk c' ctv st t1 fr J hrec _=>h _ H1 _ (.ref c') ctv _ st t1 fr (J.kept (t':=tk) λb o e=>YAD _ e) (YAU _ rfl) (hrec.push _)
end
def ZeW:bootBuiltins "sorted"=some (.builtin "sorted"):=rfl
noncomputable def txV:Value->Q11
 | .str x _=>x.cps.toList
 | _=>[]
theorem ZiN:∀ {ws:Q22} {us:AD},gs (ws.map tx) us->ws=us.map txV/\(∀v∈us,∃y t,v=.str y t/\y.length=(txV v).length)
 | [],_,.nil=>⟨rfl,λv hv=>by cases hv⟩
 | w::ws,_,.cons ⟨t,e⟩ r=>by
  obtain⟨h1,h2⟩:=ZiN (ws:=ws) r;subst e;refine⟨by rw[YAc,<-h1];simp[txV],λv hv=>?_⟩;rcases YAJ.mp hv with rfl | hv
  .exact⟨_,t,rfl,by simp[txV,Str.length]⟩
  .exact h2 v hv
theorem ZeA:∀(us:AD),(∀v∈us,∃y t,v=.str y t)->gs ((us.map txV).map tx) us
 | [],_=>.nil
 | v::us,h=>by obtain⟨y,t,rfl⟩:=h v YAZ;exact .cons ⟨t,by simp[txV]⟩ (ZeA us λu hu=>h u (YAO _ hu))
def ZlW (P:AE)(iK:Pos)(q:Str)(ta:TA):TE:=λU H Q=>ta U H λvs H1=>∃(a:AE) (ws:Q22),vs=[.ref a]/\H1 a=some (.lst (ws.map tx))/\(∀w∈ws,w.length<=sizeLine)/\gY H1 P iK q /\
 ∀(ws':Q22) (r:AE) (H2:Hp),ws'.Perm ws->ws'.Pairwise (λa b=>¬g9 b a)->jb iK H1 H2->gY H2 P iK q->H1 r=none->H2 r=some (.lst (ws'.map tx))->Q (.ref r) H2
def ZjE:ltP ((b.length:Nat),b) ((a.length:Nat),a)=false↔¬g9 b a:=by
 rw[YCA,Ne,Zg2];unfold g9;dsimp only;have e1:((b.length:Int)<(a.length:Int))↔b.length<a.length:=by lia
 have e2:((b.length:Int)=(a.length:Int))↔b.length=a.length:=by lia
 rw[e1,e2]
section
def ZkZ (hr:hG k X.A) (L:iA X.base X.mg c P) (hcode:X.env.code=.ref c) (hg:Gl X "sorted") (hm:X.mg "sorted"=none) (Av:X.mg "len"=none) (ha:PA X [e] ta) (hcl:closureFor scope X.env=pure []) (hdef:defaultsOf params X.env=([],[])) (hq:X.env.qual++"<lambda>"=q)
  (S:jR scope x) (hb:∀(s:AF) (u pm cv ctv:Value),BindsTo s (kla_fn "<lambda>" q params (Zed x p1 p2 p3 p4 p5 kk) scope [] pm cv ctv) ⟨[u],[]⟩ [(x,u)])
  (he:backTo pos (starEach [e] X.env)=(false,eval e X.env)::backTo pos (starEach [] X.env):=by rfl) (hpl:(backTo pos (starEach [e] X.env)).any (·.1)=false:=by rfl):
  PE X (.Call (.Name "sorted" p) [e] [⟨some "key",.Lambda params (Zed x p1 p2 p3 p4 p5 kk) scope iK,kpos⟩] pos) (ZlW P iK q ta):=by
 intro As s U H Q I h;refine YCH (Zdw I hg hm ZeW ?_);refine PyProof.Rows.callWith_kw (thn (ha pos As s U H _ I h) λus s1 zz=>?_) he hpl;obtain⟨vs,H1,I1,r1,q1⟩:=zz;obtain⟨a,ws,rfl,hH,hw,T,q⟩:=q1;show wpAny _ _ (evalAll ((do let v <-eval (.Lambda params (Zed x p1 p2 p3 p4 p5 kk) scope iK) X.env;standAt pos;pure v)::[])) _ _ s1;refine wpAny_evalAll_cons (YAA (Zf7 I1 L hcode hcl hdef hq T λg H2 s2 cv ctv pm sl T2 fr I2 ho hcd=>YAA (wpAny_standAt (YAC (wpAny_evalAll_nil ?_)))));obtain⟨u,rfl,ru⟩:=r1.one;cases ru;have hH2:=sl.1 _ _ hH rfl;obtain⟨hz,its,n,r,hlen',eo⟩:=I2.lstM hH2;obtain⟨ew,hs⟩:=ZiN r;have hN:its.length<=sizeLine:=by rw[<-r.length];exact hz
 obtain⟨mb,b1,b2⟩:=I2.mod.blt;have key:=Znj (prog:=X.prog) (w:=X.w) (A:=X.A.in1.in1) (vs:=its) ho rfl hcd S (λs u=>hb s u pm cv ctv) (show X.A.depth<recursionLimit by have:=hr.dp;lia) (I2.mod.nolimit.keeps I2.bk) (I2.mod.glob.keeps I2.bk) Av (b1.keeps I2.bk) (b2 _ (by decide)) (λv hv=>by obtain⟨y,t,e1,e2⟩:=hs v hv;exact⟨y,t,e1,by rw[e2];exact hw _ (by rw[ew];exact YBE hv)⟩)
 refine ZdU eo key hN λs' r' us e nr kp g1 o1 er pm2 pw=>?_;have hs2:∀v∈us,∃y t,v=.str y t/\y.length=(txV v).length:=λv hv=>hs v (pm2.mem_iff.mp hv);have rv:gs ((us.map txV).map tx) us:=ZeA us λv hv=>let ⟨y,t,e,_⟩:=hs2 v hv;⟨y,t,e⟩;have hl2:us.length=its.length:=pm2.length_eq;have fr':H1 r'=none:=fr _ (I2.hok.none_of nr);have J:=I2.laid2 (s':=s') (a:=r') (o:=.lst ((us.map txV).map tx)) o1 g1 kp nr ⟨by rw[YAB,YAB];lia,us,e,rv,er⟩;have hr2:=I2.hok.none_of nr;refine⟨.ref r',_,J,rfl,q (us.map txV) r' _ (by rw[ew];exact pm2.map _) ?_ (sl.then (Zav hr2)) (T2.same (Zav hr2)) fr' Zao⟩;rw[YBG];refine pw.imp_of_mem λ{y z} hy hz e=>?_;rw[<-ZjE];obtain⟨y1,t1,e1,e2⟩:=hs2 y hy;obtain⟨z1,t2,e3,e4⟩:=hs2 z hz;subst e1 e3;have f1:kfT (.str y1 t1)=((((txV (.str y1 t1)).length:Nat):Int),txV (.str y1 t1)):=by rw[<-e2];rfl
 have f2:kfT (.str z1 t2)=((((txV (.str z1 t2)).length:Nat):Int),txV (.str z1 t2)):=by rw[<-e4];rfl
 rw[f1,f2]at e;exact e
end
def ij (h:Heap)(v:Value)(y:Str):Prop:=∃a items t,v=.ref a/\IsTup h a items/\items[0]?=some (.str y t)
def ij.one (h1:ij h v y)(h2:ij h v z):y=z:=by obtain⟨a,its,t,rfl,⟨o,g,_,n,d⟩,e⟩:=h1;obtain⟨a',its',t',e2,⟨o',g',_,n',d'⟩,e'⟩:=h2;cases e2;rw[g]at g';cases g';rw[d]at d';injection d' with d1 d2;subst d1;rw[e]at e';injection e' with e';injection e'
def ij.kp (h1:ij h v y)(k:Kp h g):ij g v y:=by obtain⟨a,its,t,e,⟨o,g1,c,d⟩,e1⟩:=h1;exact⟨a,its,t,e,⟨o,k _ _ g1,c,d⟩,e1⟩
open Classical in
noncomputable def kfR (h:Heap) (v:Value):Int×Q11:=if c:∃y,ij h v y then (((Classical.choose c).length:Nat),(Classical.choose c).cps.toList) else (0,[])
def Zmb (e:ij h v y):kfR h v=(((y.length:Nat):Int),y.cps.toList):=by have c:∃y,ij h v y:=⟨y,e⟩;unfold kfR;rw[dif_pos c,(Classical.choose_spec c).one e]
abbrev Zd0 (x:Str)(p1 p2 p3 p4 p5 p6 p7 p8 p9:Pos)(k j1 j2:Nat):Expr:=.Tuple [.Call (.Name "len" p1) [.Subscript (.Name x p2) (.Constant (.int 0) j1 p6) p7] [] p3,.Subscript (.Name x p4) (.Constant (.int 0) j2 p8) p9] k p5
section
def Zlh 
  (ho:s.heap.get? g=some o) (hod:o.data=.func (kla_fn name qual params (Zd0 x p1 p2 p3 p4 p5 p6 p7 p8 p9 k j1 j2) scope [] pm cv ctv)) (hcd:s.heap.CodeRec cv qual) (S:jR scope x)
  (hb:∀(s:AF) (u:Value),BindsTo s (kla_fn name qual params (Zd0 x p1 p2 p3 p4 p5 p6 p7 p8 p9 k j1 j2) scope [] pm cv ctv) ⟨[u],[]⟩ [(x,u)]) (hroom:A.depth<recursionLimit) (hlim:s.heap.NoLimit)
  (hg:s.heap.Ns mainGlobals mg) (hgl:mg "len"=none) (hbn:s.heap.Ns builtinsNs mb) (hbb:mb "len"=bootBuiltins "len") (hv:∀v∈vs,∃y,ij s.heap v y/\y.length<=sizeLine):iT (model prog w) A g vs (kfR s.heap) s:=by
 intro E s' v Q hvm hk hgen hos q;obtain⟨y,fy,hy⟩:=hv v hvm;rw[Zmb fy]at q;obtain⟨av,its,t,rfl,hits,h0⟩:=fy.kp hk;have hsz:0<its.size:=by
  cases z:its.size with
  | zero=>rw[Array.getElem?_eq_none ∅]at h0;cases h0
  | succ n=>lia
 have hs:sizeLine=16777216:=sizeLine_eq;refine wpAny_call (kla_callFunE hroom (hk _ _ ho) hod S.co S.gen rfl (let ⟨c,oc,ws,tq,e1,e2,r⟩:=hcd;⟨c,oc,ws,tq,e1,hk _ _ e2,r⟩) (hb _ _ _ _ _ _ ?_));refine wpAny_newFunctionEnv_cells S.kind (λz hz=>.inl (by rw[YAI.mp hz];exact S.loc)) λenv he s1 X=>?_;refine⟨(hlim.keeps hk).keeps X.toInCall.keep,kla_codeExpr ?_⟩;subst he;obtain⟨h1,tk1,e1⟩:=X.toInCall.same;have kp1:Kp s'.heap s1.heap:=X.toInCall.keep;have lnm:∀(pp:Pos) (B:AI) (E2:Q33) (s2:AF) (Q2:Q33),Kp s1.heap s2.heap->Q2 (.ref av) s2->wpAny (model prog w) B (eval (.Name x pp) (newEnv scope s'.heap.objs.size mainGlobals (cellsFrom (s'.heap.objs.size+1) scope.names []) (qual++".<locals>.") (some g) cv none builtinsNs)) Q2 E2 s2:=λpp B E2 s2 Q2 k2 q2=>
  wpAny_Name (wpAny_loadName_local S.kind S.loc (X.toInCall.ns.keeps k2) (by exact ZgA _ S.loc) q2) S.nodbg
 have lsub:∀(pp pc ps:Pos) (pj:Nat) (B:AI) (E2:Q33) (s2:AF) (Q2:Q33),Kp s1.heap s2.heap->Q2 (.str y t) { s2 with toks:=s2.toks+1 }->wpAny (model prog w) B (eval (.Subscript (.Name x pp) (.Constant (.int 0) pj pc) ps) (newEnv scope s'.heap.objs.size mainGlobals (cellsFrom (s'.heap.objs.size+1) scope.names []) (qual++".<locals>.") (some g) cv none builtinsNs)) Q2 E2 s2:=λpp pc ps pj B E2 s2 Q2 k2 q2=>by have ht:IsTup s2.heap av its:=let ⟨o,g1,c,d⟩:=hits;⟨o,k2 _ _ (kp1 _ _ g1),c,d⟩;refine Subscript_ (lnm pp _ _ _ _ k2 (wpAny_Constant_int ?_));exact subscriptTail_builtinR (x:=.str y t) (IsTup.typeIs (s:={ s2 with toks:=s2.toks+1 }) ht) slot_tuple_getitem.lookup (getItem_tuple (j:=0) (Q:=λr s'=>r=.str y t/\Q2 r s') (s:={ s2 with toks:=s2.toks+1 }) ht (by decide) (by decide) (by unfold seqIndex?;simp[hsz]) h0 ⟨rfl,q2⟩)
 refine wpAny_Tuple_spliced ?_;show wpAny _ _ (spliced ((false,eval (.Call (.Name "len" p1) [.Subscript (.Name x p2) (.Constant (.int 0) j1 p6) p7] [] p3) _)::backTo p5 (starEach [.Subscript (.Name x p4) (.Constant (.int 0) j2 p8) p9] _))) _ _ s1;refine YCd ?_;refine YCH (Calls.Name_function_global S.kind S.glb (Calls.loadGlobal_builtin (v:=.builtin "len") (show s1.heap.Ns mainGlobals mg from(hg.keeps hk).keeps kp1) hgl (show s1.heap.Ns builtinsNs mb from(hbn.keeps hk).keeps kp1) (hbb.trans rfl) ?_));refine PyProof.Rows.callWith_builtin1 ?_ rfl rfl;show wpAny _ _ (spliced ((false,eval (.Subscript (.Name x p2) (.Constant (.int 0) j1 p6) p7) _)::backTo p3 (starEach [] _))) _ _ s1;refine YCd (lsub p2 p6 p7 j1 _ _ _ _ (λ_ _ e=>e) (YDY ?_));refine len_str ∅ ?_;show wpAny _ _ (spliced ((false,eval (.Subscript (.Name x p4) (.Constant (.int 0) j2 p8) p9) _)::backTo p5 (starEach [] _))) _ _ _;refine YCd (lsub p4 p8 p9 j2 _ _ _ _ (λ_ _ e=>e) (YDY ?_));refine⟨by rw[hs];show 2<=16777216;decide,?_⟩;rw[e1];refine q _ _ (λb o e=>YAD _ (by have:=kp1 b o e;rw[e1]at this;exact this)) rfl rfl ⟨_,_,_,_,_,rfl,YAU _ rfl,rfl⟩
end
def ZlV (P:AE)(iK:Pos)(q:Str)(ta:TA):TE:=λU H Q=>ta U H λvs H1=>∃(a:AE) (rs:List (AE×Q11)),vs=[.ref a]/\H1 a=some (.lst (rs.map λr=>.ref r.1))/\(∀r∈rs,r.2.length<=sizeLine/\∃us,H1 r.1=some (.tup (tx r.2::us)))/\gY H1 P iK q /\
 ∀(rs':List (AE×Q11)) (r:AE) (H2:Hp),rs'.Perm rs->rs'.Pairwise (λa b=>¬g9 b.2 a.2)->jb iK H1 H2->gY H2 P iK q->H1 r=none->H2 r=some (.lst (rs'.map λr=>.ref r.1))->Q (.ref r) H2
theorem ZfK:∀ {rs:List (AE×Q11)} {us:AD},gs (rs.map λr=>V.ref r.1) us->us=rs.map λr=>Value.ref r.1
 | [],_,.nil=>rfl
 | r::rs,_,.cons e q=>by cases e;rw[ZfK (rs:=rs) q];rfl
theorem ZfS:∀(rs:List (AE×Q11)),gs (rs.map λr=>V.ref r.1) (rs.map λr=>Value.ref r.1)
 | []=>.nil
 | r::rs=>.cons rfl (ZfS rs)
def adV:Value->AE
 | .ref a=>a
 | _=>0
section
def ZkY (hr:hG k X.A) (L:iA X.base X.mg c P) (hcode:X.env.code=.ref c) (hg:Gl X "sorted") (hm:X.mg "sorted"=none) (Av:X.mg "len"=none) (ha:PA X [e] ta) (hcl:closureFor scope X.env=pure []) (hdef:defaultsOf params X.env=([],[])) (hq:X.env.qual++"<lambda>"=q)
  (S:jR scope x) (hb:∀(s:AF) (u pm cv ctv:Value),BindsTo s (kla_fn "<lambda>" q params (Zd0 x p1 p2 p3 p4 p5 p6 p7 p8 p9 kk j1 j2) scope [] pm cv ctv) ⟨[u],[]⟩ [(x,u)])
  (he:backTo pos (starEach [e] X.env)=(false,eval e X.env)::backTo pos (starEach [] X.env):=by rfl) (hpl:(backTo pos (starEach [e] X.env)).any (·.1)=false:=by rfl):
  PE X (.Call (.Name "sorted" p) [e] [⟨some "key",.Lambda params (Zd0 x p1 p2 p3 p4 p5 p6 p7 p8 p9 kk j1 j2) scope iK,kpos⟩] pos) (ZlV P iK q ta):=by
 intro As s U H Q I h;refine YCH (Zdw I hg hm ZeW ?_);refine PyProof.Rows.callWith_kw (thn (ha pos As s U H _ I h) λus s1 zz=>?_) he hpl;obtain⟨vs,H1,I1,r1,q1⟩:=zz;obtain⟨a,rs,rfl,hH,hw,T,q⟩:=q1;show wpAny _ _ (evalAll ((do let v <-eval (.Lambda params (Zd0 x p1 p2 p3 p4 p5 p6 p7 p8 p9 kk j1 j2) scope iK) X.env;standAt pos;pure v)::[])) _ _ s1;refine wpAny_evalAll_cons (YAA (Zf7 I1 L hcode hcl hdef hq T λg H2 s2 cv ctv pm sl T2 fr I2 ho hcd=>YAA (wpAny_standAt (YAC (wpAny_evalAll_nil ?_)))));obtain⟨u,rfl,ru⟩:=r1.one;cases ru;have hH2:=sl.1 _ _ hH rfl;obtain⟨hz,its,n,r,hlen',eo⟩:=I2.lstM hH2;obtain rfl:=ZfK r;have hN:(rs.map λr=>Value.ref r.1).length<=sizeLine:=by rw[<-r.length];exact hz
 obtain⟨mb,b1,b2⟩:=I2.mod.blt;have first:∀r∈rs,ij s2.heap (.ref r.1) ⟨r.2.toArray⟩:=λr hr=>by
  obtain⟨_,us,hu⟩:=hw r hr;obtain⟨its,v,pl,_⟩:=I2.tuple (a:=r.1) (xs:=tx r.2::us) (.mk (sl.1 _ _ hu rfl));cases v with
  | cons e0 q0=>
   obtain⟨t,rfl⟩:=e0;exact⟨r.1,_,t,rfl,pl,by simp⟩
 have key:=Zlh (prog:=X.prog) (w:=X.w) (A:=X.A.in1.in1) (vs:=rs.map λr=>Value.ref r.1) ho rfl hcd S (λs u=>hb s u pm cv ctv) (show X.A.depth<recursionLimit by have:=hr.dp;lia) (I2.mod.nolimit.keeps I2.bk) (I2.mod.glob.keeps I2.bk) Av (b1.keeps I2.bk) (b2 _ (by decide)) (λv hv=>by obtain⟨r,hr,rfl⟩:=YAj.mp hv;exact⟨_,first r hr,by have:=(hw r hr).1;simpa [Str.length] using this⟩)
 refine ZdU eo key hN λs' r' us e nr kp g1 o1 er pm2 pw=>?_;have gk:∀r∈rs,kfR s2.heap (.ref r.1)=(((r.2.length:Nat):Int),r.2):=λr hr=>by rw[Zmb (first r hr)];simp[Str.length]
 obtain⟨rs',ers⟩:∃rs',rs'=us.map λv=>(adV v,(kfR s2.heap v).2):=⟨_,rfl⟩;have p1':rs'.Perm rs:=by have h1:=pm2.map (λv=>(adV v,(kfR s2.heap v).2));rw[<-ers,YAw]at h1;refine h1.trans (List.Perm.of_eq ?_);refine(YBm (g:=id) λr hr=>?_).trans (List.map_id _);show (r.1,(kfR s2.heap (.ref r.1)).2)=r;rw[gk r hr]
 have eus:us=rs'.map λr=>Value.ref r.1:=by rw[ers,YAw];refine((YBm λv hv=>?_).trans (List.map_id _)).symm;obtain⟨r,_,rfl⟩:=YAj.mp (pm2.mem_iff.mp hv);rfl
 have fr':H1 r'=none:=fr _ (I2.hok.none_of nr);have hl2:us.length=rs.length:=by rw[pm2.length_eq,YAB]
 have hl3:rs'.length=rs.length:=p1'.length_eq;rw[YAB]at hN;have J:=I2.laid2 (s':=s') (a:=r') (o:=.lst (rs'.map λr=>.ref r.1)) o1 g1 kp nr ⟨by rw[YAB];lia,us,e,by rw[eus];exact ZfS rs',er⟩;have hr2:=I2.hok.none_of nr;refine⟨.ref r',_,J,rfl,q rs' r' _ p1' ?_ (sl.then (Zav hr2)) (T2.same (Zav hr2)) fr' Zao⟩;rw[eus,YBG]at pw;refine pw.imp_of_mem λ{y z} hy hz e=>?_;rw[<-ZjE];rw[gk y (p1'.mem_iff.mp hy),gk z (p1'.mem_iff.mp hz)]at e;exact e
end
end L2
namespace L2
open PySem PySem.Spec PyProof.Rows
def Ext (s L:Q11):Prop:=(∃c,L=s++[c])\/∃c,L=c::s
def Ext.len (h:Ext s L):L.length=s.length+1:=by rcases h with⟨c,rfl⟩|⟨c,rfl⟩<;>simp
def Ext.inf (h:Ext s L):Inf s L:=by
 rcases h with⟨c,rfl⟩|⟨c,rfl⟩
 .have:=ZdN (s++[c]);rwa [YDF]at this
 .exact ZdM (c::s)
def Frs (s L w:Q11):Prop:=Inf w L/\¬Inf w s
def Frs.ne (h:Frs s L w):w≠[]:=λe=>h.2 (e▸Inf.nil s)
def Zfr (l:Q11)(k:Nat):Inf (l.take k) l:=⟨0,by rw[YAX];lia,by rw[YBk,List.take_eq_take_iff,YAX];lia⟩
def Zfs (l:Q11)(k:Nat):Inf (l.drop k) l:=by
 by_cases h:k<=l.length
 .exact⟨k,by rw[YAk];lia,by rw[YCK]⟩
 .rw[YCW ∅];exact Inf.nil l
def ZdP (h:Ext s L)(f:Frs s L w):((∃c,L=s++[c])/\w=L.drop (L.length-w.length))\/((∃c,L=c::s)/\w=L.take w.length):=by
 obtain⟨⟨i,h1,h2⟩,hn⟩:=f;rcases h with⟨c,rfl⟩|⟨c,rfl⟩
 .refine .inl ⟨⟨c,rfl⟩,?_⟩;rw[YAF,YAo]at h1 ⊢;have hi:i+w.length=s.length+1:=by
   by_cases z:i+w.length<=s.length
   .refine absurd ⟨i,z,?_⟩ hn;rw[YCM ∅,List.take_append_of_le_length (by rw[YAk];lia)]at h2;exact h2
   .lia
  have e:s.length+1-w.length=i:=by lia
  rw[e];rw[YAq (by rw[YAk,YAF,YAo];lia)]at h2;exact h2.symm
 .refine .inr ⟨⟨c,rfl⟩,?_⟩;cases i with
  | zero=>rw[YBk]at h2;exact h2.symm
  | succ i=>
   refine absurd ⟨i,?_,?_⟩ hn
   .rw[YAf]at h1;lia
   .rw[List.drop_succ_cons]at h2;exact h2
def Zj0 (h:Ext s L):Frs s L w↔(∃k,1<=k/\k<=L.length/\(w=L.take k\/w=L.drop (L.length-k)))/\¬Inf w s:=by
 constructor
 .intro f;have h1:1<=w.length:=YBN.mpr f.ne;refine⟨⟨w.length,h1,f.1.len,?_⟩,f.2⟩;rcases ZdP h f with⟨_,e⟩|⟨_,e⟩
  .exact .inr e
  .exact .inl e
 .rintro⟨⟨k,_,_,rfl | rfl⟩,hn⟩
  .exact⟨Zfr _ _,hn⟩
  .exact⟨Zfs _ _,hn⟩
def Zgk (h:Ext s L)(fu:Frs s L u)(fv:Frs s L v)(hl:u.length<=v.length):Inf u v:=by
 have l1:=fu.1.len;have l2:=fv.1.len;rcases ZdP h fu with⟨⟨c,e⟩,eu⟩|⟨⟨c,e⟩,eu⟩
 .rcases ZdP h fv with⟨_,ev⟩|⟨⟨d,e2⟩,ev⟩
  .have:u=v.drop (v.length-u.length):=by
    have:v.drop (v.length-u.length)=L.drop (L.length-u.length):=by
     conv=>lhs;rw[ev]
     rw[YCS,YAk];congr 1
     lia
    rw[this];exact eu
   rw[this];exact Zfs _ _
  .
   have hv:v.length=L.length:=by
    by_cases z:v.length=L.length
    .exact z
    .exfalso;refine fv.2 ?_;have:v=s.take v.length:=by
      conv=>lhs;rw[ev,e]
      rw[List.take_append_of_le_length];have:=h.len;lia
     rw[this];exact Zfr _ _
   have:v=L:=by rw[ev,hv,YCK]
   rw[this];exact fu.1
 .rcases ZdP h fv with⟨⟨d,e2⟩,ev⟩|⟨_,ev⟩
  .have hv:v.length=L.length:=by
    by_cases z:v.length=L.length
    .exact z
    .exfalso;refine fv.2 ?_;have:v=s.drop (s.length-v.length):=by
      have h3:=h.len
      conv=>lhs;rw[ev,e]
      have e4:(c::s).length-v.length=(s.length-v.length)+1:=by rw[YAf];lia
      rw[e4,List.drop_succ_cons]
     rw[this];exact Zfs _ _
   have:v=L:=by rw[ev,hv,Nat.sub_self,YBk]
   rw[this];exact fu.1
  .have:u=v.take u.length:=by
    have:v.take u.length=L.take u.length:=by
     conv=>lhs;rw[ev]
     rw[YCp];congr 1
     lia
    rw[this];exact eu
   rw[this];exact Zfr _ _
def ZnC (h:Ext s L)(fu:Frs s L u)(fv:Frs s L v)(hl:u.length=v.length):u=v:=ZjU (Zgk h fu fv ∅) ∅
def Zg8 (h:Ext s L)(f0:Frs s L w0)(hm:∀w,Frs s L w->¬g9 w w0)(w:Q11):ja s w/\Inf w L↔w=w0:=by
 have sh:∀w,Frs s L w->w0.length<=w.length:=λw f=>by
  by_cases z:w.length<w0.length
  .exact absurd (.inl z) (hm w f)
  .lia
 have ne:=f0.ne;have l1:1<=w0.length:=YBN.mpr ne;constructor
 .rintro⟨ms,hi⟩;have fw:Frs s L w:=⟨hi,ms.no⟩;have hc:=Zgk h f0 fw (sh w fw);by_cases z:w0.length<w.length
  .rcases Znu hc z with k | k
   .exact absurd (k.trans ms.init) f0.2
   .exact absurd (k.trans ms.tail) f0.2
  .exact(ZjU hc ∅).symm
 .rintro rfl;have small:∀u,Inf u L->u.length<w.length->Inf u s:=λu hu hl=>by
   by_cases z:Inf u s
   .exact z
   .have:=sh u ⟨hu,z⟩;lia
  exact⟨⟨ne,small _ ((ZdN w).trans f0.1) (by rw[YBA];lia),small _ ((ZdM w).trans f0.1) (by rw[YCY];lia),f0.2⟩,f0.1⟩
noncomputable def jt (s w:Q11)[Decidable (Inf w.dropLast s)]:Q11:=if Inf w.dropLast s then w.tail else w.dropLast
instance (w l:Q11):Decidable (Inf w l):=decidable_of_iff (∃i,i<l.length+1/\i+w.length<=l.length/\(l.drop i).take w.length=w) ⟨λ⟨i,_,h⟩=>⟨i,h⟩,λ⟨i,h⟩=>⟨i,by have:=h.1;lia,h⟩⟩
def Opn (s L m w:Q11):Prop:=∃sh c,Frs s L sh/\c∈m/\(w=sh++[c]\/w=c::sh)/\ja L w
def Zm1 (h:Ext s L)(hm:∀x∈L,x∈m):Opn s L m w↔w∈Zas L m/\w∉Zas s m:=by
 constructor
 .rintro⟨sh,c,f,hc,e,ms⟩;refine⟨ZaI.mpr ⟨ms,?_⟩,λhw=>?_⟩
  .rcases e with rfl | rfl
   .exact⟨c,hc,by simp⟩
   .refine⟨sh.getLast f.ne,hm _ (f.1.mem (List.getLast_mem _)),?_⟩;rw[YBK (by simp),List.getLast_cons f.ne]
  .have k:=(ZaI.mp hw).1;rcases e with rfl | rfl
   .exact f.2 (by have:=k.init;rwa [YDF]at this)
   .exact f.2 k.tail
 .rintro⟨hw,hn⟩;obtain⟨ms,c,hc,hl⟩:=ZaI.mp hw;have ns:¬Inf w s:=λz=>ms.no (z.trans h.inf);have hn':¬(Inf w.dropLast s/\Inf w.tail s):=λ⟨a,b⟩=>hn (ZaI.mpr ⟨⟨ms.ne,a,b,ns⟩,c,hc,hl⟩);by_cases z:Inf w.dropLast s
  .have z2:¬Inf w.tail s:=λk=>hn' ⟨z,k⟩;have f:Frs s L w.tail:=⟨ms.tail,z2⟩
   match w,ms,f with
   | d::r,ms,f=>
    have f:Frs s L r:=f;refine⟨r,d,f,?_,.inr rfl,ms⟩
    match r,f.ne with
    | e::r,_=>exact hm _ (ms.init.mem (by simp))
  .refine⟨w.dropLast,c,⟨ms.init,z⟩,hc,.inl ?_,ms⟩;rw[YBK ms.ne]at hl;have h2:=YCQ ms.ne;rw[Option.some.inj hl]at h2;exact h2.symm
def ZoR (h:Ext s L)(f:Frs s L sh)(e:w=sh++[c]\/w=c::sh)(ms:ja L w):jt s w=sh:=by
 unfold jt;rcases e with rfl | rfl
 .rw[YDF,YAL f.2]
 .by_cases z:Inf (c::sh).dropLast s
  .rw[YAS z];rfl
  .rw[YAL z];exact ZnC h ⟨ms.init,z⟩ f (by rw[YBA];simp)
def Zf8 (h:Ext s L)(f0:Frs s L w0)(hmn:∀w,Frs s L w->¬g9 w w0)(hw:w∈Zas s m):w∈Zas L m↔w≠w0:=by
 obtain⟨ms,hc⟩:=ZaI.mp hw;constructor
 .rintro k rfl;exact(ZaI.mp k).1.no ((Zg8 h f0 hmn w).mpr rfl).2
 .intro k;have ni:¬Inf w L:=λz=>k ((Zg8 h f0 hmn w).mp ⟨ms,z⟩);exact ZaI.mpr ⟨⟨ms.ne,ms.init.trans h.inf,ms.tail.trans h.inf,ni⟩,hc⟩
def ZnM (h:Ext s L)(hm:∀x∈L,x∈m)(f0:Frs s L w0)(hmn:∀w,Frs s L w->¬g9 w w0):w0∈Zas s m:=by have k:=(Zg8 h f0 hmn w0).mpr rfl;exact ZaI.mpr ⟨k.1,w0.getLast k.1.ne,hm _ (k.2.mem (List.getLast_mem _)),YBK _⟩
noncomputable def iY (s L m:Q11):Q22:=(Zas L m).filter λw=>decide (w∉Zas s m)
noncomputable def kc (s L m:Q11):Q22:=(Zas s m).filter λw=>decide (w∉Zas L m)
def Zfj:w∈iY s L m↔w∈Zas L m/\w∉Zas s m:=by unfold iY;simp
def Zfk:w∈kc s L m↔w∈Zas s m/\w∉Zas L m:=by unfold kc;simp
def Zly (h:Ext s L)(hm:∀x∈L,x∈m)(hr:m.Pairwise (· < ·))(f0:Frs s L w0)(hmn:∀w,Frs s L w->¬g9 w w0):kc s L m=[w0]:=by
 refine Zbl ((ZaR hr).filter _) (by simp) λw=>?_;rw[Zfk,YAI];constructor
 .rintro⟨a,b⟩;by_cases z:w=w0
  .exact z
  .exact absurd ((Zf8 h f0 hmn a).mpr z) b
 .rintro rfl;have k:=ZnM h hm f0 hmn;exact⟨k,λz=>(Zf8 h f0 hmn k).mp z rfl⟩
def ZbQ {ws ws':Q22}(pm:ws'.Perm ws)(pw:ws'.Pairwise λa b=>¬g9 b a)(nd:ws.Nodup):ws'.Pairwise g9:=by
 refine(pw.and (pm.nodup_iff.mpr nd)).imp ?_;rintro a b ⟨h1,h2⟩;rcases YCy a.length b.length with z | z | z
 .exact .inl z
 .rcases jo a b with k | k | k
  .exact .inr ⟨z,k⟩
  .exact absurd k h2
  .exact absurd (.inr ⟨z.symm,k⟩) h1
 .exact absurd (.inl z) h1
def ZbN {ws:Q22}(h:ws.Pairwise g9):ws.Nodup:=h.imp λhab e=>by rw[e]at hab;exact Zdb hab
def Znn {old new came gone ws':Q22}(ho:old.Pairwise g9)(hn:new.Pairwise g9)(hc:∀w,w∈came↔w∈new/\w∉old)(nc:came.Nodup)(hg:∀w,w∈gone↔w∈old/\w∉new)(pm:ws'.Perm (old.filter (λw=>decide (w∉gone))++came))(pw:ws'.Pairwise λa b=>¬g9 b a):ws'=new:=by
 have nd:(old.filter (λw=>decide (w∉gone))++came).Nodup:=by rw[YBz];refine⟨(ZbN ho).filter _,nc,λa ha b hb e=>?_⟩;subst e;exact((hc a).mp hb).2 (YAg.mp ha).1
 refine Zbl (ZbQ pm pw nd) hn λw=>?_;rw[pm.mem_iff,YAW,YAg,hc,decide_eq_true_iff,hg];constructor
 .rintro (⟨a,b⟩|⟨a,b⟩)
  .by_cases z:w∈new
   .exact z
   .exact absurd ⟨a,z⟩ b
  .exact a
 .intro a;by_cases z:w∈old
  .exact .inl ⟨z,λk=>k.2 a⟩
  .exact .inr ⟨a,z⟩
def Zli (hm:m.Pairwise (· < ·)):Zas [] m=gL m:=by
 unfold gL;refine Zbl (ZaR hm) ?_ λw=>?_
 .rw[YBG];exact hm.imp λh=>.inr ⟨rfl,List.Lex.rel h⟩
 .rw[ZaI,YAj];constructor
  .rintro⟨ms,c,hc,hl⟩;have h:=ms.init.len;rw[YBA,List.length_nil]at h;have h1:1<=w.length:=YBN.mpr ms.ne
   match w,h,h1,hl with
   | [d],_,_,hl=>exact⟨c,hc,~~~hl.symm⟩
  .rintro⟨c,hc,rfl⟩;exact⟨⟨by simp,Inf.nil _,Inf.nil _,λz=>by have:=z.len;simp at this⟩,c,hc,rfl⟩
abbrev Wd:=Q11
def ZhN {es:List Wd}{n:Nat}{r:Wd}(nd:es.Nodup)(h:es[n]?=some r):r∉es.take n:=by intro hm;obtain⟨k,hk,e⟩:=YBX hm;rw[YAX]at hk;rw[List.getElem_take]at e;obtain⟨hn,e2⟩:=YAN.mp h;have:=(List.nodup_iff_pairwise_ne.mp nd);rw[YCC]at this;exact this k n ∅ hn ∅ (by rw[e,e2])
theorem ZgM:∀(j a b:Nat),b % 2=1->2 ^ j∣a*b->2 ^ j∣a
 | 0,a,b,_,_=>⟨a,by simp⟩
 | j+1,a,b,hb,⟨c,hc⟩=>by
  have ev:a % 2=0:=by
   have h2:a*b % 2=0:=by rw[hc,YCb,YBd,YBu,YBd];exact Nat.mul_mod_right 2 _
   rw[Nat.mul_mod,hb]at h2
   lia
  obtain⟨a',rfl⟩:∃a',a=2*a':=⟨a/2,∅⟩;have h3:2*(a'*b)=2*(2 ^ j*c):=by rw[<-YBd,hc,YCb,YBu (2 ^ j) 2,YBd]
  obtain⟨d,hd⟩:=ZgM j a' b hb ⟨c,Nat.eq_of_mul_eq_mul_left (by decide) h3⟩;exact⟨d,by rw[hd,YCb,YBu (2 ^ j) 2,YBd]⟩
theorem Zfu:∀n:Nat,∃e,5 ^ n=4*e+1
 | 0=>⟨0,rfl⟩
 | n+1=>by obtain⟨e,he⟩:=Zfu n;exact⟨5*e+1,by rw[YCb,he];lia⟩
theorem Zh0:∀(k n c:Nat),5 ^ n=2 ^ (k+2)*c+1->2 ^ k∣n
 | 0,n,c,_=>⟨n,by simp⟩
 | k+1,n,c,h=>by
  obtain⟨e,he⟩:=Zfu (n/2);have sq:5 ^ (2*(n/2))=8*(e*(2*e+1))+1:=by
   rw[Nat.pow_mul',he];have:(4*e+1) ^ 2=8*(e*(2*e+1))+1:=by
    rw[YCb,Nat.pow_one,Nat.mul_add e,Nat.mul_one,Nat.mul_add (4*e+1),Nat.mul_one,Nat.add_mul,Nat.one_mul,Nat.mul_left_comm e 2 e];have:4*e*(4*e)=16*(e*e):=by rw[Nat.mul_mul_mul_comm]
    rw[this];lia
   exact this
  have p3:2 ^ (k+1+2)=8*2 ^ k:=by rw[show k+1+2=k+3 from rfl,Nat.pow_add,YBu]
  rw[p3]at h;by_cases ev:n % 2=0
  .have en:2*(n/2)=n:=by lia
   rw[en,h,YBd]at sq;have:2 ^ k*c=e*(2*e+1):=by lia
   obtain⟨d,hd⟩:=ZgM k e (2*e+1) ∅ ⟨c,this.symm⟩;have:=Zh0 k (n/2) d (by rw[he,hd,Nat.pow_add];rw[show (2:Nat) ^ 2=4 from rfl,YBu (2 ^ k) 4,YBd]);obtain⟨q,hq⟩:=this;exact⟨q,by rw[YCb,YBu (2 ^ k) 2,YBd,<-hq];exact en.symm⟩
  .exfalso;have en:n=2*(n/2)+1:=by lia
   rw[en,YCb,sq,YBd]at h
   lia
noncomputable def hop (N:Nat):Nat->Nat->Nat
 | 0,i=>i
 | n+1,i=>hop N n ((i*5+1) % N)
theorem ZjW {N:Nat}(hN:0<N):∀(n i:Nat),i<N->hop N n i<N
 | 0,i,h=>h
 | n+1,i,h=>ZjW hN n _ (YBh _ hN)
theorem ZjX {N:Nat}:∀(a b i:Nat),hop N (a+b) i=hop N b (hop N a i)
 | 0,b,i=>by rw[Nat.zero_add];rfl
 | a+1,b,i=>by rw[Nat.add_right_comm];exact ZjX a b _
theorem ZhW {N:Nat}:∀(n i:Nat),∃c d,4*hop N n i+1+4*N*c=5 ^ n*(4*i+1)+4*N*d
 | 0,i=>⟨0,0,by simp[hop]⟩
 | n+1,i=>by
  obtain⟨c,d,h⟩:=ZhW (N:=N) n ((i*5+1) % N);have e:=YCi (i*5+1) N;refine⟨c+5 ^ n*((i*5+1)/N),d,?_⟩;show 4*hop N n ((i*5+1) % N)+1+4*N*(c+5 ^ n*((i*5+1)/N))=_;have h5:5 ^ (n+1)*(4*i+1)=5 ^ n*(4*(i*5+1)+1):=by rw[YCb,YBd];congr 1;lia
  have h6:5 ^ n*(4*(i*5+1)+1)=5 ^ n*(4*((i*5+1) % N)+1)+4*N*(5 ^ n*((i*5+1)/N)):=by
   have:4*(i*5+1)+1=(4*((i*5+1) % N)+1)+4*(N*((i*5+1)/N)):=by lia
   rw[this,Nat.mul_add];congr 1;rw[Nat.mul_left_comm,YBd 4 N,Nat.mul_left_comm (5 ^ n) N]
  rw[h5,h6,Nat.mul_add]
  lia
def Zln (hi:i<2 ^ k)(h:hop (2 ^ k) n i=i):2 ^ k∣n:=by
 obtain⟨c,d,e⟩:=ZhW (N:=2 ^ k) n i;rw[h]at e;obtain⟨q,hq⟩:=Zfu n;rw[hq,Nat.add_mul,Nat.one_mul]at e;have e2:2 ^ k*c=q*(4*i+1)+2 ^ k*d:=by
  have a1:4*2 ^ k*c=4*(2 ^ k*c):=YBd _ _ _;have a2:4*2 ^ k*d=4*(2 ^ k*d):=YBd _ _ _;have a3:4*q*(4*i+1)=4*(q*(4*i+1)):=YBd _ _ _
  lia
 have dv:2 ^ k∣q*(4*i+1):=(Nat.dvd_add_iff_left ⟨d,rfl⟩).mpr ⟨c,e2.symm⟩;obtain⟨r,hr⟩:=ZgM k q (4*i+1) ∅ dv;refine Zh0 k n r ?_;rw[hq,hr,Nat.pow_add,show (2:Nat) ^ 2=4 from rfl,YBu (2 ^ k) 4,YBd]
def Zjx {N:Nat}{l:Q11}(nd:l.Nodup)(hl:l.length=N)(hb:∀x∈l,x<N){j:Nat}(hj:j<N):j∈l:=by
 refine Classical.byContradiction λn=>?_;have len:∀(l m:Q11),l.Nodup->(∀x∈l,x∈m)->l.length<=m.length:=by
  intro l;induction l with
  | nil=>intro m _ _;exact YBC _
  | cons x l ih=>
   intro m nd h;have hx:=h x YAZ;have nd':=YBY.mp nd;have:=ih (m.erase x) nd'.2 λy hy=>(List.mem_erase_of_ne (λe=>by rw[e]at hy;exact nd'.1 hy)).mpr (h y (YAO _ hy));rw[List.length_erase_of_mem hx]at this;have pos:0<m.length:=List.length_pos_of_mem hx;rw[YAf]
   lia
 have:=len (j::l) (List.range N) (YBY.mpr ⟨n,nd⟩) λx hx=>by
  rcases YAJ.mp hx with z | z
  .rw[z];exact YAl.mpr hj
  .exact YAl.mpr (hb x z)
 rw[YAf,YAt]at this
 lia
def Znx (hi:i<2 ^ k)(hj:j<2 ^ k):∃n,n<2 ^ k/\hop (2 ^ k) n i=j:=by
 have pos:0<2 ^ k:=Nat.two_pow_pos k;have lt:∀a b,a<b->b<2 ^ k->hop (2 ^ k) a i≠hop (2 ^ k) b i:=λa b ab bl e=>by
  have:b=a+(b-a):=by lia
  rw[this,ZjX]at e;have dv:=Zln (ZjW pos a i hi) e.symm;have:=Nat.le_of_dvd ∅ dv
  lia
 have nd:((List.range (2 ^ k)).map λn=>hop (2 ^ k) n i).Nodup:=by unfold List.Nodup;rw[YBG];exact YCl (λ{a b} ha hb (h:a<b)=>lt a b h (YAl.mp hb)) (List.pairwise_lt_range (n:=2 ^ k))
 have:=Zjx nd (by simp) (λx hx=>by obtain⟨n,_,rfl⟩:=YAj.mp hx;exact ZjW pos n i hi) hj
 obtain⟨n,hn,e⟩:=YAj.mp this;exact⟨n,YAl.mp hn,e⟩
section
def ZoD (mask i:Nat):0<SetTable.runEnd mask i+1-i:=by unfold SetTable.runEnd;split<;>lia
def Zgm {A2 i p:Nat}{R:Option Nat->Prop}(h1:∀x,owner.getD x (some 0)=none->R (some x))(h2:owner.getD i (some 0)≠none->R (SetTable.layClean.free mask owner A2 ((i*5+1+p/32) % (mask+1)) (p/32))):
  R (SetTable.layClean.free mask owner (A2+1) i p):=by
 unfold SetTable.layClean.free;cases hf:(List.range (SetTable.runEnd mask i+1-i)).find? λk=>(owner.getD (i+k) (some 0)).isNone with
 | some d=>
  have:=List.find?_some hf;exact h1 (i+d) (Option.isNone_iff_eq_none.mp this)
 | none=>
  refine h2 λe=>?_;have:=List.find?_eq_none.mp hf 0 (YAl.mpr (ZoD mask i));rw[Nat.add_zero,e]at this;exact this rfl
theorem Zgl (hj:owner.getD j (some 0)=none):∀(A2 n i:Nat),n<A2->hop (mask+1) n i=j->∃x,SetTable.layClean.free mask owner A2 i 0=some x/\owner.getD x (some 0)=none
 | 0,n,i,h,_=>absurd h (Nat.not_lt_zero _)
 | A2+1,n,i,h,e=>by
  refine Zgm (R:=λr=>∃x,r=some x/\owner.getD x (some 0)=none) (λx hx=>⟨x,rfl,hx⟩) λne=>?_;cases n with
  | zero=>exact absurd (by rw[show i=j from e];exact hj) ne
  | succ n=>exact Zgl hj A2 n _ ∅ e
theorem Zj1 (hk:mask+1=2 ^ k)(hj:owner.getD j (some 0)=none)(hl:j<mask+1):∀(c A2 i p:Nat),p<32 ^ c->c+mask+1<=A2->i<mask+1->∃x,SetTable.layClean.free mask owner A2 i p=some x/\owner.getD x (some 0)=none
 | 0,A2,i,p,hp,hf,hi=>by
  have:p=0:=by simpa using hp
  subst this;obtain⟨n,hn,e⟩:=Znx (k:=k) (i:=i) (j:=j) ∅ ∅;rw[<-hk]at e hn;exact Zgl hj A2 n i ∅ e
 | c+1,0,i,p,hp,hf,hi=>by lia
 | c+1,A2+1,i,p,hp,hf,hi=>by refine Zgm (R:=λr=>∃x,r=some x/\owner.getD x (some 0)=none) (λx hx=>⟨x,rfl,hx⟩) λ_=>?_;exact Zj1 hk hj hl c A2 _ _ (Nat.div_lt_of_lt_mul (by rw[YCb,YBu]at hp;exact hp)) ∅ (YBh _ (Nat.succ_pos _))
theorem Zgn:∀ {l:List (Option Nat)},(l.filterMap id).length<l.length->∃j:Nat,l[j]?=some none
 | [],h=>by simp at h
 | none::l,_=>⟨0,rfl⟩
 | some x::l,h=>by have e:(some x::l).filterMap id=x::l.filterMap id:=rfl;rw[e,YAf,YAf]at h;obtain⟨j,e⟩:=Zgn (l:=l) ∅;exact⟨j+1,e⟩
def Zor {l:List (Option Nat)}{j x:Nat}(h:l[j]?=some none):((l.set j (some x)).filterMap id).Perm (l.filterMap id++[x]):=by
 obtain⟨hj,e⟩:=YAN.mp h;have e1:l=l.take j++none::l.drop (j+1):=by
  conv=>lhs;rw[<-YAv j l,YCg hj,e]
 have e2:l.set j (some x)=l.take j++some x::l.drop (j+1):=by rw[List.set_eq_take_append_cons_drop,YAS hj]
 have e3:l.filterMap id=(l.take j).filterMap id++(l.drop (j+1)).filterMap id:=by
  conv=>lhs;rw[e1]
  rw[List.filterMap_append];rfl
 have e4:(some x::l.drop (j+1)).filterMap id=x::(l.drop (j+1)).filterMap id:=rfl;rw[e2,e3,List.filterMap_append,e4,YAp];exact(List.perm_append_singleton x _).symm.append_left _
noncomputable def mM (mask:Nat)(acc:Option (Array (Option Nat)×Nat))(h:Int):Option (Array (Option Nat)×Nat):=do
 let (owner,k) <-acc
 let j <-SetTable.layClean.free mask owner (SetTable.turns mask) (SetTable.bits h % (mask+1)) (SetTable.bits h)
 pure (owner.setIfInBounds j (some k),k+1)
theorem ZhS (hk:mask+1=2 ^ k):∀(hs:List Int) (owner:Array (Option Nat)) (n:Nat),owner.size=mask+1->(owner.toList.filterMap id).Perm (List.range n)->n+hs.length<=mask+1 ->
  ∃o',hs.foldl (mM mask) (some (owner,n))=some (o',n+hs.length)/\o'.size=mask+1/\(o'.toList.filterMap id).Perm (List.range (n+hs.length))
 | [],owner,n,h1,h2,_=>⟨owner,rfl,h1,h2⟩
 | h::hs,owner,n,h1,h2,h3=>by
  rw[YAf]at h3;obtain⟨j,hj⟩:=Zgn (l:=owner.toList) (by rw[h2.length_eq,YAt,YAG];lia);have jl:j<mask+1:=by
   have:=(YAN.mp hj).1;rw[YAG]at this
   lia
  have hjd:owner.getD j (some 0)=none:=by rw[YAu]at hj;rw[Array.getD_eq_getD_getElem?,hj];rfl
  have bl:SetTable.bits h<32 ^ 13:=by
   unfold SetTable.bits;have a1:=YBR h (show (2 ^ 64:Int)≠0 by decide);have a2:=YBT h (show (0:Int)<2 ^ 64 by decide);have:(32:Nat) ^ 13=36893488147419103232:=by decide
   rw[this]
   lia
  obtain⟨x,hx,hn⟩:=Zj1 hk hjd jl 13 (SetTable.turns mask) (SetTable.bits h % (mask+1)) (SetTable.bits h) bl (by unfold SetTable.turns;lia) (YBh _ (Nat.succ_pos _));have hx2:owner.toList[x]?=some none:=by
   rw[Array.getD_eq_getD_getElem?]at hn;rw[YAu];cases e:owner[x]? with
   | none=>rw[e]at hn;cases hn
   | some v=>rw[e]at hn;exact congrArg some hn
  have st:mM mask (some (owner,n)) h=some (owner.setIfInBounds x (some n),n+1):=by show (SetTable.layClean.free mask owner (SetTable.turns mask) (SetTable.bits h % (mask+1)) (SetTable.bits h) >>= λj=>pure (owner.setIfInBounds j (some n),n+1))=_;rw[hx];rfl
  rw[YCE,st,YAf,show n+(hs.length+1)=n+1+hs.length by lia];refine ZhS hk hs _ (n+1) (by rw[Array.size_setIfInBounds];exact h1) ?_ ∅;rw[YDD,YCU];exact(Zor hx2).trans (h2.append_right [n])
def Zpu (hk:mask+1=2 ^ k)(hn:hs.size<=mask+1):∃o,SetTable.layClean mask hs=some o/\o.size=mask+1/\(o.toList.filterMap id).Perm (List.range hs.size):=by obtain⟨o,e,h1,h2⟩:=ZhS (k:=k) hk hs.toList (Array.replicate (mask+1) none) 0 (by simp) (by simp) (by rw[YAG];lia);refine⟨o,?_,h1,by rw[Nat.zero_add,YAG]at h2;exact h2⟩;unfold SetTable.layClean;rw[<-Array.foldl_toList];show (hs.toList.foldl (mM mask) (some (Array.replicate (mask+1) none,0))).map (·.1)=some o;rw[e];rfl
def ZjJ {hs:Array Int}{finger moves:Nat}{led plain:Bool}(hk:mask+1=2 ^ k)(hn:hs.size<=mask+1):∃t order,SetTable.laid mask finger moves led plain hs=some (t,order)/\order.toList.Perm (List.range hs.size)/\t.mask=mask/\t.place.size=hs.size/\t.dummies=#[]/\t.led=led/\t.plain=plain:=by
 obtain⟨o,e,h1,h2⟩:=Zpu (hs:=hs) hk hn;have e3:((List.range (mask+1)).filterMap λj=>(o.getD j none).map (j,·)).map (·.2)=o.toList.filterMap id:=by
  have e4:o.toList=(List.range (mask+1)).map λj=>o.getD j none:=by
   apply YBw (by simp[h1]);intro i a b;have:i<o.size:=by simpa using a
   simp[Array.getD_eq_getD_getElem?,this]
  rw[e4,List.filterMap_map,List.map_filterMap];congr 1;funext j;show _=o.getD j none;cases o.getD j none<;>rfl
 refine⟨{ mask,place:=(((List.range (mask+1)).filterMap λj=>(o.getD j none).map (j,·)).map (·.1)).toArray,dummies:=#[],finger,led,moves,plain },(((List.range (mask+1)).filterMap λj=>(o.getD j none).map (j,·)).map (·.2)).toArray,?_,?_,rfl,?_,rfl,rfl,rfl⟩
 .unfold SetTable.laid;rw[e];rfl
 .rw[List.toList_toArray,e3];exact h2
 .have:=congrArg List.length e3;rw[YAB,h2.length_eq,YAt]at this;rw[YAM,YAB];exact this
end
theorem ZgF (n:Nat):∀(A2 size:Nat),(∃k,size=2 ^ k)->∃k,SetTable.sizeAbove.go n A2 size=2 ^ k
 | 0,size,h=>h
 | A2+1,size,⟨k,h⟩=>by
  unfold SetTable.sizeAbove.go;split
  .exact ZgF n A2 _ ⟨k+1,by rw[h,YCb]⟩
  .exact⟨k,h⟩
theorem Zh8 (n:Nat):∀(A2 size:Nat),n<size*2 ^ A2->n<SetTable.sizeAbove.go n A2 size
 | 0,size,h=>by simpa [SetTable.sizeAbove.go] using h
 | A2+1,size,h=>by
  unfold SetTable.sizeAbove.go;split
  .exact Zh8 n A2 _ (by rw[YCb]at h;rw[YBd,YBu 2];exact h)
  .lia
theorem Zh7 (n:Nat):∀(A2 size:Nat),SetTable.sizeAbove.go n A2 size<=max size (2*n)
 | 0,size=>by unfold SetTable.sizeAbove.go;lia
 | A2+1,size=>by
  unfold SetTable.sizeAbove.go;split
  .have:=Zh7 n A2 (size*2)
   lia
  .lia
def Zdi {α:Type}{es:Array α}{order:Array Nat}(h:order.toList.Perm (List.range es.size)):(order.filterMap (es[·]?)).toList.Perm es.toList:=by rw[Array.toList_filterMap];exact(h.filterMap _).trans (by rw[filterMap_getElem?_range])
def ZhG {h:Heap}{a:AE}{ob:Obj}{xs ys:Array (Int×Value)}{n:Nat}{t t':SetTable}(h1:h.get? a=some ob)(h2:ob.data=.set xs n t):(h.update a (Obj.putSet ys t')).get? a=some { ob with data:=.set ys (n+1) t' }:=by
 have q:=YCG (Obj.putSet ys t') h1 (by rw[putSet_of ys t' h2];rfl)
 rwa [putSet_of ys t' h2]at q
section
def ZeI {es:Array (Int×Value)}{t:SetTable}{order:Array Nat}{Q:Array (Int×Value)×SetTable->AF->Prop}(h:order.toList.Perm (List.range es.size))(q:Q (order.filterMap (es[·]?),t) s):
  wpAny (model prog w) A (do
   let some (t,order):=some (t,order) | unsupported "internal:set-table-without-room"
   let es':=order.filterMap (es[·]?)
   if es'.size != es.size then unsupported "internal:set-table-lost-an-element"
   pure (es',t)) Q E s:=by
 have p:=Zdi h;have z:(order.filterMap (es[·]?)).size=es.size:=by rw[<-YAG,p.length_eq,YAG]
 show wpAny _ A (if ((order.filterMap (es[·]?)).size != es.size)=true then _ else _) _ _ _;rw[z,bne_self_eq_false,YAL YAE];exact YAC q
def ZkR (ho:s.heap.get? r=some (Zch led))(hn:n<scanBound)
  (h:∀h' ep t,Heap.SameBut r s.heap h'->h'.get? r=some { Zch led with data:=.set #[] ep t }->t.fits 0=true->t.fill=0->t.led=led->t.plain=true->(∃k,t.mask+1=2 ^ k)->n<=t.mask->Q () { s with heap:=h' }):
  wpAny (model prog w) A (setRoomFor r n) Q E s:=by
 have n4:n<4096:=hn;have hd:(Zch led).data=.set #[] 0 (.fresh 0 0 led):=rfl;have hf:(SetTable.fresh 0 0 led).fits (#[]:Array (Int×Value)).size=true:=rfl;unfold setRoomFor;refine YAA (YBH ho hd hf ?_);show wpAny _ A (match (SetTable.fresh 0 0 led).roomFor n with | some wanted=>setRelay r wanted | x=>pure PUnit.unit) _ _ _;have er:(SetTable.fresh 0 0 led).roomFor n=if (0+n)*5>=7*3 then some ((0+n)*2) else none:=rfl
 by_cases c:(0+n)*5>=7*3
 .rw[er,YAS c];show wpAny _ A (setRelay r ((0+n)*2)) _ _ _;have a1:=ZgF ((0+n)*2) 64 8 ⟨3,rfl⟩;have big:(8:Nat)*2 ^ 64=147573952589676412928:=by decide
  have a2:=Zh8 ((0+n)*2) 64 8 (by rw[big];lia);have a3:=Zh7 ((0+n)*2) 64 8;have a4:SetTable.sizeAbove ((0+n)*2)=SetTable.sizeAbove.go ((0+n)*2) 64 8:=rfl;rw[<-a4]at a1 a2 a3;unfold setRelay;refine YAA (YBH ho hd hf ?_);dsimp only;have hz:¬SetTable.sizeAbove ((0+n)*2)>sizeLine:=by
   have:40000<=sizeLine:=by rw[sizeLine_eq];decide
   lia
  rw[YAL hz];obtain⟨k,hk⟩:=a1;obtain⟨t,order,e,pm,m1,m2,m3,m4,m5⟩:=ZjJ (mask:=SetTable.sizeAbove ((0+n)*2)-1) (k:=k) (hs:=(#[]:Array (Int×Value)).map (·.1)) (finger:=0) (moves:=(SetTable.fresh 0 0 led).movedTo (SetTable.sizeAbove ((0+n)*2)-1)) (led:=led) (plain:=true) ∅ (by simp);have e':(SetTable.fresh 0 0 led).relaid ((#[]:Array (Int×Value)).map (·.1)) ((0+n)*2)=some (t,order):=e;rw[e'];refine YAA (ZeI (es:=#[]) (~~~pm) ?_);have oz:order.filterMap ((#[]:Array (Int×Value))[·]?)=#[]:=by have:=Zdi (es:=(#[]:Array (Int×Value))) (order:=order) (~~~pm);have l0:=this.length_eq;rw[YAG]at l0;exact Array.eq_empty_of_size_eq_zero (~~~l0)
  rw[oz];have z0:t.place.size=0:=by simpa using m2
  have tf:t.fill=0:=by unfold SetTable.fill;rw[z0,m3];rfl
  refine YCw ho hd ?_ (fits_of_scanBound (by show 0<4096;decide));refine h _ _ t (YAn _ _ _) (ZhG ho hd) ?_ tf m4 m5 ⟨k,by rw[m1];lia⟩ (by rw[m1];lia);unfold SetTable.fits;rw[tf,z0];simp
 .rw[er,YAL c];exact YAC (h s.heap 0 _ (YCm _ _) ho rfl rfl rfl rfl ⟨3,rfl⟩ (by show n<=7;lia))
def Zi7 (ho:s.heap.get? r=some (Zch led))(hS:gF prog w s.heap S ls led)(ne:r≠S)
  (h:∀h',Heap.SameBut r s.heap h'->gF prog w h' r ls led->Q () { s with heap:=h' }):wpAny (model prog w) A (setMerge r S each) Q E s:=by
 obtain⟨o,es,ep,t,ms,hg,hex,hd,hel,hf,hled,hpl,hp,hv,hb⟩:=hS;have Av:es.size=ls.length:=by have q:=hv.length;rw[YAB,YAB]at q;rw[<-YAG,<-q,hp.length_eq]
 unfold setMerge;have e0:(r == S)=false:=by simpa using ne
 rw[e0,YAL YAE];refine YAA (YBH hg hd hf ?_);dsimp only;by_cases z:es.isEmpty=true
 .rw[YAS z];have:ls=[]:=YBq.mp (by rw[<-Av];simpa using z);subst this;exact YAC (h s.heap (YCm _ _) (ZfN ho))
 rw[YAL z];have npl:t.plain=false:=by
  cases e:t.plain with
  | false=>rfl
  | true=>exact absurd (~~~hpl e) z
 refine YAA (ZkR ho hb λh1 ep1 t1 sb1 g1 f1 fl1 l1 p1 k1 n1=>?_);refine YAA (YBH (o:={ Zch led with data:=.set #[] ep1 t1 }) g1 rfl f1 ?_);dsimp only;have fin:∀(es':Array (Int×Value)) (t':SetTable),es'.toList.Perm es.toList->t'.fits es'.size=true->t'.led=led->t'.plain=false->wpAny (model prog w) A (storeSet r es' t') Q E { s with heap:=h1 }:=λes' t' pm ft lt pt=>by
  have sz:es'.size=es.size:=by rw[<-YAG,pm.length_eq,YAG]
  refine YCw g1 rfl ?_ (fits_of_scanBound (by rw[sz];exact hb));obtain⟨ms',pm',hv'⟩:=Zci (us:=es.toList.map (·.2)) (us':=es'.toList.map (·.2)) (pm.map _) hv;exact h _ (sb1.trans (YAn _ _ _)) ⟨_,es',_,t',ms',ZhG g1 rfl,⟨rfl,rfl,rfl⟩,rfl,hel.perm pm,ft,lt,λe=>(by rw[pt]at e;cases e),pm'.trans hp,hv',by rw[sz];exact hb⟩
 unfold SetTable.road;rw[fl1,bne_self_eq_false,YAL YAE];by_cases c2:(t1.mask == t.mask&&t.dummies.isEmpty)=true
 .rw[YAS c2];dsimp only;exact fin es _ (.refl _) hf (by show (t1.led&&t.led)=led;rw[l1,hled,Bool.and_self]) (by show (t1.plain&&t.plain)=false;rw[npl,YCD])
 .rw[YAL c2];dsimp only;obtain⟨k,hk⟩:=k1;obtain⟨t2,order,e,pm,m1,m2,m3,m4,m5⟩:=ZjJ (mask:=t1.mask) (k:=k) (hs:=es.map (·.1)) (finger:=t1.finger) (moves:=t1.moves) (led:=t1.led&&t.led) (plain:=t1.plain&&t.plain) hk (by rw[Array.size_map];lia);rw[e];rw[Array.size_map]at pm m2;refine YAA (ZeI pm ?_);have pp:=Zdi pm;have sz:(order.filterMap (es[·]?)).size=es.size:=by rw[<-YAG,pp.length_eq,YAG]
  refine fin _ t2 pp ?_ (by rw[m4,l1,hled,Bool.and_self]) (by rw[m5,npl,YCD]);unfold SetTable.fits SetTable.fill;rw[m1,m2,m3,sz];simp
  lia
end
def ZcD (xs:Array α)(i:Nat):(SetTable.eraseAt xs i).toList=xs.toList.eraseIdx i:=by rw[List.eraseIdx_eq_take_drop_succ];simp[SetTable.eraseAt,List.extract_eq_take_drop,YAq]
def Zg7 (xs:Array α)(p:Nat)(x:α):(SetTable.insertAt xs p x).size=xs.size+1:=by have:=(SetTable.insertAt_perm xs p x).length_eq;rw[YAG,YAG,Array.size_push]at this;exact this
theorem ZeB:∀ {vs:List V} {us:AD} (j:Nat),gs vs us->gs (vs.eraseIdx j) (us.eraseIdx j)
 | [],_,j,r=>by cases r;exact .nil
 | v::vs,us,j,r=>by
  cases r with
  | cons r1 r2=>
   cases j with
   | zero=>exact r2
   | succ j=>exact .cons r1 (ZeB j r2)
theorem Zd8 {α β:Type}(f:α->β):∀(l:List α) (j:Nat),(l.eraseIdx j).map f=(l.map f).eraseIdx j
 | [],j=>rfl
 | x::l,0=>rfl
 | x::l,j+1=>by show f x::(l.eraseIdx j).map f=f x::(l.map f).eraseIdx j;rw[Zd8 f l j]
def Zcu (ls:Q22)(l:Q11):Q22:=if l∈ls then ls.erase l else ls++[l]
noncomputable def ic (a b:Q22):Q22:=a.filter (λx=>decide (x∉b))++b.filter (λx=>decide (x∉a))
def ZnI (h:ls.Nodup):(Zcu ls l).Nodup:=by
 unfold Zcu;split
 .exact h.erase l
 .rename_i n
  rw[YBz];refine⟨h,by simp,λa ha b hb e=>?_⟩;have:b=l:=by simpa using hb
  subst e this;exact n ha
def Zlw (h:ls.Nodup):x∈Zcu ls l↔(if x=l then l∉ls else x∈ls):=by
 unfold Zcu;by_cases e:x=l
 .subst e;rw[YAS rfl];split
  .rename_i hm
   exact⟨λz=>absurd z (h.not_mem_erase),λz=>absurd hm z⟩
  .rename_i hm
   exact⟨λ_=>hm,λ_=>by simp⟩
 .rw[YAL e];split
  .exact List.mem_erase_of_ne e
  .simp[e]
def Zlx:(Zcu ls l).length<=ls.length+1:=by
 unfold Zcu;split
 .exact Nat.le_succ_of_le (List.length_erase_le)
 .simp
theorem Zgp:∀(xs ls:Q22),ls.Nodup->xs.Nodup->(xs.foldl Zcu ls).Nodup/\∀y,y∈xs.foldl Zcu ls↔(if y∈xs then y∉ls else y∈ls)
 | [],ls,h,_=>⟨h,λy=>by simp⟩
 | x::xs,ls,h,hx=>by
  have hx':=YBY.mp hx;obtain⟨a,b⟩:=Zgp xs (Zcu ls x) (ZnI h) hx'.2;refine⟨a,λy=>?_⟩;rw[YCE,b y,Zlw h];by_cases e:y=x
  .subst e;rw[YAL hx'.1,YAS rfl,YAS YAZ]
  .rw[YAL e];by_cases m:y∈xs
   .rw[YAS m,YAS (YAO _ m)]
   .rw[YAL m,YAL (λz=>by rcases YAJ.mp z with q | q;exact e q;exact m q)]
def Zlv {xs a b:Q22}(ha:a.Nodup)(hb:b.Nodup)(p:xs.Perm a):(xs.foldl Zcu b).Perm (ic a b):=by
 obtain⟨h1,h2⟩:=Zgp xs b hb (p.nodup_iff.mpr ha);have nd:(ic a b).Nodup:=by unfold ic;rw[YBz];refine⟨ha.filter _,hb.filter _,λx hx y hy e=>?_⟩;subst e;have:=(YAg.mp hx).2;exact absurd (YAg.mp hy).1 (of_decide_eq_true this)
 refine(YDC h1 nd).mpr λy=>?_;have mx:y∈xs↔y∈a:=p.mem_iff;rw[h2];unfold ic;rw[YAW,YAg,YAg,decide_eq_true_iff,decide_eq_true_iff];by_cases m:y∈a
 .rw[YAS (mx.mpr m)];simp[m]
 .rw[YAL (λz=>m (mx.mp z))];simp[m]
def ZnK {t:SetTable}{n:Nat}(h1:t.place.size=n)(h2:t.fill<=t.mask):t.fits n=true:=by unfold SetTable.fits;rw[h1,decide_eq_true h2];simp
def gF.perm (x:gF P w h a ls led)(p:ls.Perm ls'):gF P w h a ls' led:=by obtain⟨o,es,ep,t,ms,h1,h2,h3,h4,h5,h6,h7,h8,r⟩:=x;exact⟨o,es,ep,t,ms,h1,h2,h3,h4,h5,h6,h7,h8.trans p,r⟩
section
def ZgS (hS:gF prog w s.heap a ls led)
  (h1:∀h',Heap.SameBut a s.heap h'->l∈ls->gF prog w h' a (ls.erase l) led->Q true { s with heap:=h' }) (h2:l∉ls->Q false s):
  wpAny (model prog w) A (setDiscardHashed a (.str ⟨l.toArray⟩ tk) (i5 w (Sum.inr ⟨l.toArray⟩))) Q E s:=by
 obtain⟨o,es,ep,t,ms,ho,hex,hd,hel,hf,hled,hpl,hp,hv,hb⟩:=hS;have hkey:(ZaF prog w).is (Sum.inr (⟨l.toArray⟩:Str)) (.str ⟨l.toArray⟩ tk)=true:=ZcN prog w _ _;have hsc:(Value.str ⟨l.toArray⟩ tk).scannable=true:=rfl;have mem:=Ze0 (l:=l) hv;have hl:l∈ms↔l∈ls:=hp.mem_iff;unfold setDiscardHashed setFind setFindIn;refine YAA (YAA (YBH ho hd hf ?_));dsimp only;rw[byScan_of hsc hb hel,YAS rfl];refine YAA (YBn (YAA (wpAny_setScan_of (knd:=ZaF prog w) (k:=Sum.inr (⟨l.toArray⟩:Str)) hkey ho hd hf hel ?_)));cases hr:List.findIdx? (λe=>(ZaF prog w).is (Sum.inr (⟨l.toArray⟩:Str)) e.2) es.toList with
 | none=>
  dsimp only;have hnin:l∉ls:=λz=>by obtain⟨e,he,hk⟩:=mem.mpr (hl.mpr z);have q:=List.findIdx?_eq_none_iff.mp hr e he;rw[show (ZaF prog w).is (Sum.inr (⟨l.toArray⟩:Str)) e.2=true from hk]at q;cases q
  exact YAC (YAC (h2 hnin))
 | some j=>
  dsimp only;obtain⟨hj,hpj,_⟩:=List.findIdx?_eq_some_iff_getElem.mp hr;have hin:l∈ls:=hl.mp (mem.mp ⟨es.toList[j],YBv hj,hpj⟩);have hj':j<es.size:=by simpa using hj
  refine YAC ?_;rw[Nat.zero_add];refine YAA (YBH ho hd hf ?_);dsimp only;have mj:ms[j]?=some l:=by
   have e1:(es.toList.map (·.2))[j]?=some es.toList[j].2:=by rw[YAK,YAH hj];rfl
   obtain⟨v,hv1,rv⟩:=ZcM hv e1;rw[YAK]at hv1;cases q:ms[j]? with
   | none=>rw[q]at hv1;cases hv1
   | some m=>
    rw[q]at hv1;cases hv1;have:=ZpG (l:=l) rv ⟨m,rfl⟩;rw[show Zc3 (Sum.inr (⟨l.toArray⟩:Str):Key) es.toList[j].2=true from hpj,ZcK]at this;rw[of_decide_eq_true this.symm]
  obtain⟨jm,em⟩:=YAN.mp mj;have sz:(SetTable.eraseAt es j).size=es.size-1:=by rw[<-YAG,ZcD,YCX hj,YAG]
  have hfit:t.place.size=es.size/\t.fill<=t.mask:=by simp only[SetTable.fits,YAY,beq_iff_eq,decide_eq_true_eq]at hf;exact hf
  have td:(t.drop j).fits (SetTable.eraseAt es j).size=true/\(t.drop j).led=t.led/\(t.drop j).plain=t.plain:=by
   unfold SetTable.drop;have e:t.place[j]?=some (t.place[j]'∅):=getElem?_pos _ _ ∅;rw[e];have ps:(SetTable.eraseAt t.place j).size=es.size-1:=by rw[<-YAG,ZcD,YCX (by rw[YAG];lia),YAG,hfit.1]
   have h2:=hfit.2;unfold SetTable.fill at h2;refine⟨ZnK (ps.trans sz.symm) ?_,rfl,rfl⟩;show (SetTable.eraseAt t.place j).size+(SetTable.insertAt t.dummies (SetTable.below t.dummies (t.place[j]'∅)) (t.place[j]'∅)).size<=t.mask;rw[ps,Zg7]
   lia
  refine YAA (YCw ho hd (YAA (wpAny_point (YAC (h1 _ (YAn _ _ _) hin ?_)))) (fits_of_scanBound (by rw[sz];lia)));refine⟨_,SetTable.eraseAt es j,_,t.drop j,ms.eraseIdx j,ZhG ho hd,hex,rfl,λe he=>hel e (List.mem_of_mem_eraseIdx (by rw[<-ZcD];exact he)),td.1,td.2.1.trans hled,λe=>by rw[td.2.2]at e;have:=hpl e;rw[sz];lia,?_,?_,by rw[sz];lia⟩
  .have p1:(l::ms.eraseIdx j).Perm ms:=by have:=ZcC ms j jm;rw[em]at this;exact this
   exact(p1.trans (hp.trans (List.perm_cons_erase hin))).cons_inv
  .rw[ZcD,Zd8,Zd8];exact ZeB j hv
end
theorem Zcr {f:Nat->Nat}{a:Nat}(h:∀k,f (k+a)=f k):∀n k,f (k+a*n)=f k
 | 0,k=>by rw[Nat.mul_zero,Nat.add_zero]
 | n+1,k=>by rw[Nat.mul_succ,<-YCB,h];exact Zcr h n k
def ZmY {f:Nat->Nat}(a b:Nat):(∀k,f (k+a)=f k)->(∀k,f (k+b)=f k)->∀k,f (k+Nat.gcd a b)=f k:=by
 induction a,b using Nat.gcd.induction with
 | H0 n=>intro _ h k;rw[Nat.gcd_zero_left];exact h k
 | H1 m n hm ih=>
  intro ha hb k;rw[Nat.gcd_rec];refine ih (λk=>?_) ha k;rw[<-Zcr ha (n/m) (k+n % m),YCB,Nat.add_comm (n % m),YCi];exact hb k
def hW (l l2:Q11)(k:Nat):Prop:=(gS l).drop k++(gS l).take k=gS l2
def Zhr (hk:k<r.length):ZdS r (k:Nat)=r.drop k++r.take k:=by unfold ZdS;rw[Int.emod_eq_of_lt ∅ ∅];simp
def hW.words (h1:1<=l.length)(h2:1<=l2.length)(hk:k<Zam l)(h:hW l l2 k)(n:Nat):Zaj l n=Zaj l2 n:=by have rl:=Zby h1;have e:ZdS (gS l) (k:Nat)=gS l2:=(Zhr ∅).trans h;rw[<-ZcH h1,<-ZcH h2,<-e,Zeu (by have:=(ZaX h1).1;lia)]
def hW.root (h1:1<=l.length)(h2:1<=l2.length)(h:hW l l2 k):Zam l2=Zam l:=by
 have:=congrArg List.length h;rw[YAF,YAk,YAX,Zby h2,Zby h1]at this
 lia
def Zjg (h1:1<=l.length)(h2:1<=l2.length)(hw:Zaj l n=Zaj l2 n)(hn:Zam l2<=n):Zam l2<=Zam l:=by
 refine Nat.le_of_not_lt λlt=>?_;obtain⟨p1,p2,p3⟩:=ZaX h1;obtain⟨q1,q2,q3⟩:=ZaX h2;have ex:∀a:Nat,∃i,i<Zam l/\∀j,j<n->cyc l2 (a+j)=cyc l (i+j):=λa=>by
  have hm:((List.range n).map λj=>cyc l2 (a+j))∈Zaj l n:=by rw[hw,ZaY h2];refine⟨by simp,a,λj hj=>?_⟩;rw[YAB,YAt]at hj;rw[YAK,YBf hj];rfl
  obtain⟨_,i,hi⟩:=(ZaY h1).mp hm;refine⟨i % Zam l,YBh _ p1,λj hj=>?_⟩;have:=hi j (~~~hj);rw[YAK,YBf hj]at this;have e1:cyc l2 (a+j)=cyc l (i+j):=Option.some.inj this;have e2:i+j=i % Zam l+j+Zam l*(i/Zam l):=by
   have:=YCi i (Zam l)
   lia
  rw[e1,e2,Zcr p3]
 let g:Nat->Nat:=λa=>Classical.choose (ex a)
 have hg:∀a,g a<Zam l/\∀j,j<n->cyc l2 (a+j)=cyc l (g a+j):=λa=>Classical.choose_spec (ex a);have inj:¬ ∀a b,a<b->b<Zam l2->g a≠g b:=λne=>by
  have nd:((List.range (Zam l2)).map g).Nodup:=Zd7 List.nodup_range λa ha b hb e=>by
   rw[YAl]at ha hb;rcases YCy a b with z | z | z
   .exact absurd e (ne a b z hb)
   .exact z
   .exact absurd e.symm (ne b a z ha)
  have:=Zb0 _ (List.range (Zam l)) nd λx hx=>by obtain⟨a,_,rfl⟩:=YAj.mp hx;exact YAl.mpr (hg a).1
  rw[YAB,YAt,YAt]at this
  lia
 refine inj λa b ab bl e=>?_;have w1:∀t,cyc l2 (a+t)=cyc l2 (b+t):=Zez q1 q3 λt ht=>by rw[(hg a).2 t ∅,(hg b).2 t ∅,e]
 have pd:∀k,cyc l2 (k+(b-a))=cyc l2 k:=λk=>by
  have c1:k+(b-a)+Zam l2*a=b+(k+Zam l2*a-a):=by
   have:a<=Zam l2*a:=YDU a q1
   lia
  have c2:k+Zam l2*a=a+(k+Zam l2*a-a):=by
   have:a<=Zam l2*a:=YDU a q1
   lia
  rw[<-Zcr q3 a (k+(b-a)),<-Zcr q3 a k,c1,c2,w1];congr 2
  lia
 have pg:=ZmY (f:=cyc l2) (b-a) l2.length pd (ZbJ l2);have g1:1<=Nat.gcd (b-a) l2.length:=Nat.gcd_pos_of_pos_right _ h2;have g2:Nat.gcd (b-a) l2.length<=b-a:=Nat.gcd_le_left _ ∅;have g3:Nat.gcd (b-a) l2.length∣l2.length:=Nat.gcd_dvd_right _ _;have rp:=(ZgX g1 (Nat.le_of_dvd h2 g3)).mpr ⟨g3,pg⟩;obtain⟨_,_,_,mn⟩:=Za8 h2;rw[mn _ g1 ∅]at rp;cases rp
def ZiT (h1:1<=l.length)(h2:1<=l2.length)(hn:Zam l<=n)(hn2:Zam l2<=n)(hw:Zaj l n=Zaj l2 n):∃k,k<Zam l/\hW l l2 k:=by
 have e:Zam l2=Zam l:=Nat.le_antisymm (Zjg h1 h2 hw hn2) (Zjg h2 h1 hw.symm hn);obtain⟨p1,p2,p3⟩:=ZaX h1;obtain⟨q1,q2,q3⟩:=ZaX h2;have hm:((List.range n).map λj=>cyc l2 (0+j))∈Zaj l n:=by rw[hw,ZaY h2];refine⟨by simp,0,λj hj=>?_⟩;rw[YAB,YAt]at hj;rw[YAK,YBf hj];rfl
 obtain⟨_,i,hi⟩:=(ZaY h1).mp hm;have a1:∀j,j<n->cyc l2 j=cyc l (i+j):=λj hj=>by have:=hi j (~~~hj);rw[YAK,YBf hj]at this;have t2:cyc l2 (0+j)=cyc l (i+j):=Option.some.inj this;rw[Nat.zero_add]at t2;exact t2
 have a2:∀j,cyc l2 j=cyc l (i+j):=λj=>by
  have d:=YCi j (Zam l);have e1:j=j % Zam l+Zam l*(j/Zam l):=by lia
  rw[e]at q3;have A4:=YBh j p1;have b1:cyc l2 j=cyc l2 (j % Zam l):=by
   conv=>lhs;rw[e1]
   exact Zcr q3 _ _
  have b2:cyc l (i+j)=cyc l (i+j % Zam l):=by
   conv=>lhs;rw[e1,<-YCB]
   exact Zcr p3 _ _
  rw[b1,b2];exact a1 _ ∅
 refine⟨i % Zam l,YBh _ p1,?_⟩;have rl:=Zby h1;have r2:=Zby h2;have hk:i % Zam l<(gS l).length:=by rw[rl];exact YBh _ p1
 unfold hW;rw[<-Zhr hk];have r1:1<=(gS l).length:=by lia
 refine ZnN (by rw[Ze2 r1,rl,r2,e]) λj=>?_;rw[Ze3 r1,<-ZdI h1,<-ZdI h2,a2];have:((((i % Zam l:Nat):Int) % ((gS l).length:Nat)).toNat)=i % Zam l:=by rw[Int.emod_eq_of_lt ∅ ∅];exact YBQ _
 rw[this];have d:=YCi i (Zam l);have e2:i+j=j+i % Zam l+Zam l*(i/Zam l):=by lia
 rw[e2,Zcr p3]
def ZoC (h1:1<=l.length)(h2:1<=l2.length)(h:∀w,w.length=n->(RI l w↔RI l2 w)):Zaj l n=Zaj l2 n:=by
 refine List.Perm.eq_of_pairwise (le:=λa b:Q11=>a<b) (λa b _ _ x y=>absurd (List.lt_trans x y) (YCq _)) (ZbY l n) (ZbY l2 n) ?_;have nd:∀l,(Zaj l n).Nodup:=λl=>(ZbY l n).imp λh e=>by rw[e]at h;exact YCq _ h
 refine(YDC (nd l) (nd l2)).mpr λw=>?_;rw[ZaY h1,ZaY h2];constructor
 .rintro⟨a,b⟩;exact⟨a,(h w a).mp b⟩
 .rintro⟨a,b⟩;exact⟨a,(h w a).mpr b⟩
def ZlZ (h1:1<=l.length)(h:RI l w):∀c∈w,c∈l:=by intro c hc;obtain⟨j,hj,e⟩:=YBX hc;obtain⟨i,hi⟩:=h;have:=hi j hj;rw[YAH hj,e]at this;rw[Option.some.inj this];exact Znd h1 _
def ZjK (h1:1<=l.length)(h2:1<=l2.length)(m1:∀c∈l,c∈m)(m2:∀c∈l2,c∈m):Zcf l m (Zam l)=Zcf l2 m (Zam l2)↔∃k,k<Zam l/\hW l l2 k:=by
 constructor
 .intro e;refine ZiT (n:=max (Zam l) (Zam l2)) h1 h2 ∅ ∅ (ZoC h1 h2 λw hw=>?_);constructor
  .intro h;have wm:∀c∈w,c∈m:=λc hc=>m1 c (ZlZ h1 h c hc);rw[ZcA h2 wm,<-e,<-ZcA h1 wm];exact h
  .intro h;have wm:∀c∈w,c∈m:=λc hc=>m2 c (ZlZ h2 h c hc);rw[ZcA h1 wm,e,<-ZcA h2 wm];exact h
 .rintro⟨k,hk,t⟩;have e:=t.words h1 h2 hk;rw[t.root h1 h2];unfold Zcf;congr 1;funext k;rw[e,e]
structure j9 (l l2:Q11)(n:Nat)(w:Q11):Prop where
 n1:1<=n
 eq:∀j,1<=j->j<n->Zaj l j=Zaj l2 j
 ne:Zaj l n≠Zaj l2 n
 mem:w∈ic (Zaj l n) (Zaj l2 n)
 min:∀x∈ic (Zaj l n) (Zaj l2 n),¬x<w
def Zn7 (h:a≠b)(ha:a.Pairwise (· < ·))(hb:b.Pairwise (· < ·)):ic a b≠[]:=by
 intro e;apply h;have nd:∀ {l:Q22},l.Pairwise (· < ·)->l.Nodup:=λh=>h.imp λh e=>by rw[e]at h;exact YCq _ h
 refine List.Perm.eq_of_pairwise (le:=λa b:Q11=>a<b) (λa b _ _ x y=>absurd (List.lt_trans x y) (YCq _)) ha hb ?_;refine(YDC (nd ha) (nd hb)).mpr λw=>?_;have no:∀w,w∉ic a b:=λw=>by rw[e];exact YBF
 have:=no w;unfold ic at this;rw[YAW,YAg,YAg,decide_eq_true_iff,decide_eq_true_iff]at this;constructor
 .intro z;exact Classical.byContradiction λk=>this (.inl ⟨z,k⟩)
 .intro z;exact Classical.byContradiction λk=>this (.inr ⟨z,k⟩)
def ZiO (h1:1<=l.length)(h2:1<=l2.length)(h:¬ ∃k,k<Zam l/\hW l l2 k):∃n,1<=n/\n<=max l.length l2.length/\Zaj l n≠Zaj l2 n:=by obtain⟨p1,p2,_⟩:=ZaX h1;obtain⟨q1,q2,_⟩:=ZaX h2;exact⟨max (Zam l) (Zam l2),∅,∅,λe=>h (ZiT h1 h2 ∅ ∅ e)⟩
section
def ZeT {it t:AE}{items:Array Value}(hne:t≠it):∀(n i:Nat) (s:AF) (Q:AD->AF->Prop),s.heap.IsListIter it t i->s.heap.IsList t items->i+n<=items.size ->
  (∀h',h'.IsListIter it t (i+n)->Heap.SameBut it s.heap h'->Q ((items.toList.drop i).take n) { s with heap:=h' })->wpAny (model prog w) A (draw (.ref it) n) Q E s
 | 0,i,s,Q,hit,_,_,hQ=>by
  show wpAny _ _ (pure []) Q E s;exact YAC (by simpa using hQ s.heap hit (YCm ..))
 | n+1,i,s,Q,hit,ht,hle,hQ=>by
  have A4:i<items.size:=by lia
  show wpAny _ _ (pyNext (.ref it) >>= _) Q E s;refine YAA (wpAny_pyNext_list_item hit ht (x:=items[i]) (by simp[A4]) λh9 hit1 hs9=>?_);refine YAA (YBD (ZeT hne n (i+1) _ _ hit1 (ht.extBut hs9.extBut hne) ∅ λh_2 hit2 hs8=>YAC ?_));have hd:items.toList.drop i=items[i]::items.toList.drop (i+1):=by simp[YCg,A4]
  have:=hQ h_2 (by rw[show i+(n+1)=i+1+n by lia];exact hit2) (hs9.trans hs8);rw[hd,List.take_succ_cons]at this;exact this
def Zde (hh:A.handled=none)(ht:s.heap.IsList t items)
  (hQ:∀h',Heap.ExtBut s.heap.objs.size s.heap h'->Q items.toList { s with heap:=h' }):wpAny (model prog w) A (unpackItems (.ref t) items.size none) Q E s:=by
 have A4:t≠s.heap.objs.size:=by obtain⟨o,ho,_⟩:=ht;exact YAd (YAR ho)
 unfold unpackItems;refine YAA ?_;unfold notIterableAtAll;refine YAA (wpAny_specialOf ht.typeIs PySem.slot_list_iter.lookup ?_);refine YAC ?_;simp only[YCe,if_false];refine YAA (YBD (YCx ht ?_));refine YAA (YBD (ZeT A4 items.size 0 _ _ ⟨_,YAU _ rfl,rfl,rfl⟩ (ht.push _) ∅ λh9 hit1 hs9=>?_));have hall:List.take items.size (List.drop 0 items.toList)=items.toList:=by rw[YBk];exact YAq (by simp)
 rw[hall];rw[YAL (by simp)];have ht1:h9.IsList t items:=(ht.push _).extBut hs9.extBut A4;refine YAA (YBD (wpAny_pyNext_list_end hh hit1 ht1 (by simp) λh_2 he2=>?_));simp only[Option.isSome_none,YCe,if_false];refine YAC (hQ h_2 λb o hb e=>he2 b o hb (hs9.extBut b o hb (YAD _ e)))
end
section
def gLst (K:Q4)(n:Nat)(t:TGs):TG:=λv U H Q=>∃a xs,v=.ref a/\SqL K H a xs/\xs.length=n/\t xs U H Q
def ZoL (hc:X.calm=true)(h:PGs X es t)
  (hn:(assignEach es X.env).length=n:=by rfl) (hst:(assignEach es X.env).findIdx? (·.1)=none:=by rfl):PG X (.Tuple es k pos) (gLst X.K n t):=by
 intro As s U H v u Q I r hw;obtain⟨a,xs,e1,hq,hl,hw⟩:=hw;subst e1;cases r;obtain⟨its,rv,ht,hz⟩:=I.list hq;rw[assign_Tuple];refine YAA (wpAny_standAt ?_);unfold unpack;rw[show (assignEach es X.env).length=its.toArray.size by simp[hn,<-hl,rv.length],hst];refine YAA (YBD (Zde (I.ok.hd hc) ht.isList λh' hx=>?_));have I1:Inv X As U H { s with heap:=h' }:=I.kept (t':=s.toks) λb o e=>hx b o (YAd (YAR e)) e;exact h As _ U H xs _ Q I1 (~~~rv) hw
end
open PySem.W (Frag)
section
variable {te:TE}{Q:VK}{τ0:St}{H:Hp}{K:Frag}
def gu.inv (v:Nat->V)(hz:n<=100000)(Pv:AE->Nat->List V->Hp->Prop)(h0:∀acc,H acc=none->Pv acc 0 [] (upd H acc (.lst [])))
  (hgo:∀acc i ys H',i<n->Pv acc i ys H'->J.go i H') (hst:∀acc ys H',Pv acc n ys H'->J.stop n H') (hy:∀acc i ys H' x H3,i<n->Pv acc i ys H'->J.yld i H' x H3->H3=H'/\x=v i)
  (he:∀acc i ys H' (Q':VK),H acc=none->i<n->ys.length=i->Pv acc i ys H'->(∀y H6,H6 acc=some (.lst ys)->Pv acc (i+1) (ys++[y]) (upd H6 acc (.lst (ys++[y])))->Q' y H6)->te (τ0.set 0 (some (v i))) H' Q')
  (hQ:∀acc ys H',H acc=none->ys.length=n->Pv acc n ys H'->Q (.ref acc) H'):gu J τ0 (Zcb 0) jA te H Q:=by
 intro acc ha;refine⟨λi m τ H2=>i<=n/\m=n-i/\(∀w:Option V,τ.set 0 w=τ0.set 0 w)/\∃ys,ys.length=i/\Pv acc i ys H2,⟨n,YBC _,rfl,λ_=>rfl,[],rfl,h0 acc ha⟩,?_⟩;rintro i m τ H2 ⟨hi,rfl,hτ,ys,hl,hp⟩;by_cases A4:i<n
 .refine .inr ⟨hgo acc i ys H2 A4 hp,λτ' H'=>(∀w:Option V,τ'.set 0 w=τ0.set 0 w)/\∃ys,ys.length=i+1/\Pv acc (i+1) ys H',λτ' H' q=>⟨n-(i+1),∅,A4,rfl,q⟩,λx H3 y=>?_⟩;obtain⟨rfl,rfl⟩:=hy acc i ys H2 x H3 A4 hp y;show te (τ.set 0 (some (v i))) _ _;rw[hτ];have hτ':∀w:Option V,(τ0.set 0 (some (v i))).set 0 w=τ0.set 0 w:=λw=>by rw[List.set_set]
  exact he acc i ys _ _ ha A4 hl hp λy H6 h1 h3=>⟨ys,h1,by rw[hl,sizeLine_eq];lia,hτ',_,by rw[YAF,hl];rfl,h3⟩
 .have e:i=n:=by lia
  subst e;exact .inl ⟨hst acc ys H2 hp,hQ acc ys H2 ha hl hp⟩
def gu.invR {lo:Int}{n:Nat}(hz:n<=100000)(Pv:AE->Nat->List V->Hp->Prop)(h0:∀acc,H acc=none->Pv acc 0 [] (upd H acc (.lst [])))
  (he:∀acc (i:Nat) ys H' (Q':VK),H acc=none->i<n->ys.length=i->Pv acc i ys H'->(∀y H6,H6 acc=some (.lst ys)->Pv acc (i+1) (ys++[y]) (upd H6 acc (.lst (ys++[y])))->Q' y H6)->te (τ0.set 0 (some (.int (lo+i)))) H' Q')
  (hQ:∀acc ys H',H acc=none->ys.length=n->Pv acc n ys H'->Q (.ref acc) H'):gu (Itr lo n) τ0 (Zcb 0) jA te H Q:=
 .inv (λi=>.int (lo+i)) hz Pv h0 (λ_ i _ _ h _=>h) (λ_ _ _ _=>YAT _) (λ_ i _ H' x H3 _ _ y=>y) he hQ
def gu.invL (hz:xs.length<=100000)(Pv:AE->Nat->List V->Hp->Prop)(hx:∀acc i ys H',Pv acc i ys H'->SqL K H' a xs)(h0:∀acc,H acc=none->Pv acc 0 [] (upd H acc (.lst [])))
  (he:∀acc (i:Nat) ys H' (Q':VK),H acc=none->i<xs.length->ys.length=i->Pv acc i ys H'->(∀y H6,H6 acc=some (.lst ys)->Pv acc (i+1) (ys++[y]) (upd H6 acc (.lst (ys++[y])))->Q' y H6)->te (τ0.set 0 (some (xs.getD i .non))) H' Q')
  (hQ:∀acc ys H',H acc=none->ys.length=xs.length->Pv acc xs.length ys H'->Q (.ref acc) H'):gu (Itl K a) τ0 (Zcb 0) jA te H Q:=
 .inv (λi=>xs.getD i .non) hz Pv h0 (λacc i ys H' h p=>⟨xs,xs[i],hx acc i ys H' p,by simp[h]⟩) (λacc ys H' p=>⟨xs,hx acc _ ys H' p,YAT _⟩) (λacc i ys H' x H3 h p y=>by obtain⟨e,y⟩:=y;refine⟨e,?_⟩;rw[YAQ,y xs (hx acc i ys H' p)];rfl) he hQ
end
section
def Zji {es:List (Int×Value)}{ms:Q22}(hv:gs (ms.map tx) (es.map (·.2))){e:Int×Value}(he:e∈es):∃l t,l∈ms/\e.2=.str ⟨l.toArray⟩ t:=by
 obtain⟨i,hi,rfl⟩:=YBX he;have e1:(es.map (·.2))[i]?=some es[i].2:=by rw[YAK,YAH hi];rfl
 obtain⟨v,hv1,rv⟩:=ZcM hv e1;rw[YAK]at hv1;cases q:ms[i]? with
 | none=>rw[q]at hv1;cases hv1
 | some m=>
  rw[q]at hv1;cases hv1;obtain⟨t,ht⟩:=rv;exact⟨m,t,YAb q,ht⟩
def ZkW (h:∀a∈ls,∃led l2,gF prog w s.heap a l2 led)(q:Q true s):wpAny (model prog w) A (setsQuiet ls) Q E s:=by
 unfold setsQuiet;refine YAA (YBg (wpAny_forIn_list _ (λrest (b:Option Bool×Unit) s'=>s'=s/\(∀a∈rest,a∈ls)/\b=(none,())) (λ(b:Option Bool×Unit) s'=>s'=s/\b=(none,())) ?_ ?_ _ _ ⟨rfl,λa ha=>ha,rfl⟩) ?_ λ_ _ h'=>h')
 .rintro a rest b s' ⟨rfl,hm,rfl⟩;obtain⟨led,l2,o,es,ep,t,ms,hg,hex,hd,hel,hf,hled,hpl,hp,hv,hb⟩:=h a (hm a YAZ);refine YAA (wpAny_setEntries_of hg hd hf ?_);refine YAA (YBg (wpAny_forIn_array' _ (λrest (b:Option Bool×Unit) s2=>s2=s'/\(∀a∈rest,a∈es.toList)/\b=(none,())) (λ(b:Option Bool×Unit) s2=>s2=s'/\b=(none,())) ?_ ?_ _ _ ⟨rfl,λa ha=>ha,rfl⟩) ?_ λ_ _ h'=>h')
  .rintro⟨hx,x⟩ rest2 b s2 ⟨rfl,hm2,rfl⟩;obtain⟨l,tk,_,e⟩:=Zji hv (hm2 _ YAZ);have e':x=.str ⟨l.toArray⟩ tk:=e;subst e';exact YAC ⟨rfl,λa ha=>hm2 a (YAO _ ha),rfl⟩
  .rintro b s2 ⟨rfl,_,rfl⟩;exact⟨rfl,rfl⟩
  .rintro b s2 ⟨rfl,rfl⟩;exact YAC ⟨rfl,λa ha=>hm a (YAO _ ha),rfl⟩
 .rintro b s' ⟨rfl,_,rfl⟩;exact⟨rfl,rfl⟩
 .rintro b s' ⟨rfl,rfl⟩;exact YAC q
def ZgK (hS:gF prog w s.heap S lS (!ZaZ w))(hr:gF prog w s.heap r lr (!ZaZ w))(ne:r≠S)
  (h:∀(h':Heap) (es:Array (Int×Value)) (xs:Q22),Heap.SameBut r s.heap h'->gF prog w h' r lr (!ZaZ w)->xs.Perm lS->gs (xs.map tx) (es.toList.map (·.2))->ElemsOf (ZaF prog w) es.toList->Q es { s with heap:=h' }):
  wpAny (model prog w) A (setWalkUnseen S [r] (some r)) Q E s:=by
 obtain⟨o,es,ep,t,ms,hg,hex,hd,hel,hf,hled,hpl,hp,hv,hb⟩:=id hS;obtain⟨o2,es2,ep2,t2,ms2,hg2,hex2,hd2,hel2,hf2,hled2,hpl2,hp2,hv2,hb2⟩:=id hr;unfold setWalkUnseen;refine YAA (YBH hg hd hf ?_);dsimp only;unfold setsByText;refine YAA (YAA (YBt (YAC ?_)));show wpAny _ _ (if (ZaZ w || t.led&&t.plain || decide (es.size<=1))=true then _ else _) _ _ _;by_cases c:(ZaZ w || t.led&&t.plain || decide (es.size<=1))=true
 .rw[YAS c];unfold setWalk;refine YAA (YBH hg hd hf ?_);dsimp only;unfold setsByText;refine YAA (YAA (YBt (YAC ?_)));show wpAny _ _ (if ZaZ w=true then _ else (if (!t.plain&&decide (es.size>1))=true then _ else _)) _ _ _;by_cases b:ZaZ w=true
  .rw[YAS b];refine YAA (YBt (YAC ?_));have pp:=ZbA (next:=w.params.setOrder S ep) (xs:=es);obtain⟨ms',p',r'⟩:=Zci (pp.map (·.2)) hv;exact h s.heap _ ms' (YCm _ _) hr (p'.trans hp) r' (hel.perm pp)
  .rw[YAL b];have sm:es.size<=1:=by
    rw[YCA.mpr b,Bool.false_or,Bool.or_eq_true,YAY,decide_eq_true_iff]at c;rcases c with⟨_,z⟩ | z
    .rw[hpl z];exact YBC _
    .exact z
   have n1:decide (es.size>1)=false:=decide_eq_false ∅;rw[n1,YCD,YAL YAE];show wpAny _ _ ((if (!t.led&&decide (es.size>1))=true then (do let _ <-(unsupported "set:maker-not-led":Sem Unit);pure ()) else pure ()) >>= λ_=>_) _ _ _;rw[n1,YCD,YAL YAE];exact YAA (YAC (YAC (h s.heap es ms (YCm _ _) hr hp hv hel)))
 .rw[YAL c];have c':=YCA.mpr c;rw[Bool.or_eq_false_iff,Bool.or_eq_false_iff,decide_eq_false_iff_not]at c';refine YAA (ZkW (s:=s) (λa ha=>?_) ?_)
  .rcases YAJ.mp ha with z | z
   .rw[z];exact⟨_,_,hS⟩
   .rw[YAI.mp z];exact⟨_,_,hr⟩
  rw[YCR,YAL YAE];refine YAA (YBn ?_);refine YAA (YBH hg2 hd2 hf2 ?_);dsimp only;split
  .have npl:t.plain=false:=by
    cases e:t.plain with
    | false=>rfl
    | true=>exact absurd (hpl e) ∅
   refine YAA (YCw hg2 hd2 (YAC ?_) (fits_of_scanBound hb2));refine h _ es ms (YAn _ _ _) ⟨_,es2,_,_,ms2,ZhG hg2 hd2,hex2,rfl,hel2,hf2,?_,λe=>?_,hp2,hv2,hb2⟩ hp hv hel
   .show (t2.led&&t.led)=_;rw[hled,hled2,Bool.and_self]
   .have e':(t2.plain&&t.plain)=true:=e;rw[npl,YCD]at e';cases e'
  .exact YAC (h s.heap es ms (YCm _ _) hr hp hv hel)
end
def Zfy:entryFor table "set.__xor__"=some Builtin.«frozenset.__xor__»:=entryFor_alias (id':="frozenset.__xor__") (by kernel_rfl) rfl (by decide +kernel) (by kernel_rfl)
section
def ZfG (h:gF prog w s.heap v ls led)(q:Q true s):wpAny (model prog w) A (Builtin.Frozenset.isAnySet (.ref v)) Q E s:=by unfold Builtin.Frozenset.isAnySet;refine YAA (YDI (T:="set") h.typ sub_set_self ?_);exact YAC q
theorem ZhY:∀(xs ls:Q22),(xs.foldl Zcu ls).length<=ls.length+xs.length
 | [],ls=>YAT _
 | x::xs,ls=>by
  have h1:=ZhY xs (Zcu ls x);have h2:=Zlx (ls:=ls) (l:=x);rw[YCE,YAf]
  lia
def ZkH (hS:gF prog w s.heap r ls led)(hn:ls.length+1<scanBound)
  (h:∀h',Heap.SameBut r s.heap h'->gF prog w h' r (Zcu ls l) led->Q () { s with heap:=h' }):
  wpAny (model prog w) A (holding [.str ⟨l.toArray⟩ tk] (do
   if !(<-setDiscardHashed r (.str ⟨l.toArray⟩ tk) (i5 w (Sum.inr ⟨l.toArray⟩))) then
    let _ <-setAddHashed r (.str ⟨l.toArray⟩ tk) (i5 w (Sum.inr ⟨l.toArray⟩)))) Q E s:=by
 refine YBD (YAA (ZgS hS (λh' sb hin hS'=>?_) λhnin=>?_))
 .rw[YCR,YAL YAE];refine YAC (h h' sb ?_);unfold Zcu;rw[YAS hin];exact hS'
 .rw[Bool.not_false,YAS rfl];refine YAA (Zi8 hS hn λh' b sb hS'=>YAC (h h' sb ?_));unfold ir at hS';unfold Zcu;rw[YAL hnin]at hS' ⊢;exact hS'
def Zmw {x:Value}{h:Int}{l:Q11}{tk:Tok}{es:List (Int×Value)}(hel:ElemsOf (ZaF prog w) es)(hm:(h,x)∈es)(e:x=.str ⟨l.toArray⟩ tk):h=i5 w (Sum.inr ⟨l.toArray⟩):=by
 obtain⟨⟨k,hk,eh⟩,_⟩:=hel _ hm;subst e;have:k=Sum.inr ⟨l.toArray⟩:=by
  cases k with
  | inl n=>exact absurd (show Zc3 (Sum.inl n:Key) (Value.str ⟨l.toArray⟩ tk)=true from hk) (by simp[Zc3,Value.isInt])
  | inr y=>
   have hk':Zc3 (Sum.inr y:Key) (Value.str ⟨l.toArray⟩ tk)=true:=hk;simp only[Zc3,Value.isStrOf]at hk';have:(⟨l.toArray⟩:Str)=y:=by simpa using hk'
   rw[this]
 subst this;exact eh
def ZmJ (ha:gF prog w s.heap a la (!ZaZ w))(hb:gF prog w s.heap b lb (!ZaZ w))(na:la.Nodup)(nb:lb.Nodup)(ne:a≠b)(hn:la.length+lb.length+1<scanBound)
  (h:∀(h':Heap),(∀c o,s.heap.get? c=some o->h'.get? c=some o)->gF prog w h' s.heap.objs.size (ic la lb) (!ZaZ w)->Q (.ref s.heap.objs.size) { s with heap:=h' }):
  wpAny (model prog w) A (binaryOp .BitXor (.ref a) (.ref b)) Q E s:=by
 refine wpAny_binaryOp_same ha.typ hb.typ F.fills_set_xor F.slot_set_xor (YBs F.slot_set_xor ha.typ Zfy ?_ (F.args_set_xor_2 _ _));unfold Builtin.«frozenset.__xor__»;show wpAny _ _ (Builtin.Frozenset.slot1 "__xor__" ⟨[.ref a,.ref b],[]⟩ >>= _) _ _ _;unfold Builtin.Frozenset.slot1 slotArgs;simp only[List.isEmpty_nil,YCR,YCe,↓reduceIte,bind_assoc,YAf,List.length_nil,bne_self_eq_false];refine YAA (YAC ?_);dsimp only;refine YAA (YAC ?_);dsimp only;refine YAA ?_;show wpAny _ _ (Builtin.Frozenset.isAnySet (.ref a) >>= _) _ _ _;refine YAA (ZfG ha ?_);show wpAny _ _ (Builtin.Frozenset.isAnySet (.ref b)) _ _ _;refine ZfG hb ?_;rw[YCR,YAL YAE];refine YAA (show wpAny _ _ (Builtin.Frozenset.addrOf (.ref a)) _ _ _ from YAC ?_);refine YAA ?_;show wpAny _ _ (Builtin.Frozenset.baseOf a >>= λcls=>Builtin.Frozenset.newFrom (toString "frozenset."++toString "__xor__") cls (.ref b) >>= λresult=>Builtin.Frozenset.addrOf result >>= λx=>holding [result] (Builtin.Frozenset.symmetricDifferenceUpdate (toString "frozenset."++toString "__xor__") x (.ref a)) >>= λ_=>pure result) _ _ _;unfold Builtin.Frozenset.baseOf;refine YAA (YAA (YDI (T:="set") ha.typ sub_set_self (YAC ?_)));rw[YAS rfl];refine YAA ?_;unfold Builtin.Frozenset.newFrom newSet setsByText;refine YAA (YAA (YAA (YBt (YAC ?_))));dsimp only;simp only[newObj];refine YAA (wpAny_alloc (YAC ?_));have hN:(s.heap.push (Zch (!ZaZ w))).get? s.heap.objs.size=some (Zch (!ZaZ w)):=YAU _ rfl;have k1:∀c o,s.heap.get? c=some o->(s.heap.push (Zch (!ZaZ w))).get? c=some o:=λc o e=>YAD _ e;have la_:a<s.heap.objs.size:=by obtain⟨o,_,_,_,_,ho,_⟩:=ha;exact YAR ho
 have lb_:b<s.heap.objs.size:=by obtain⟨o,_,_,_,_,ho,_⟩:=hb;exact YAR ho
 have ha1:=ha.keep (k1 a);have hb1:=hb.keep (k1 b);show wpAny _ _ (Builtin.Frozenset.addrOf (.ref s.heap.objs.size) >>= _) _ _ { s with heap:=s.heap.push (Zch (!ZaZ w)) };generalize s.heap.push (Zch (!ZaZ w))=H1 at hN k1 ha1 hb1;refine YAA (show wpAny _ _ (Builtin.Frozenset.addrOf (.ref s.heap.objs.size)) _ _ _ from YAC ?_);refine YAA (YBD ?_);unfold Builtin.Frozenset.updateFrom;refine YAA (ZfG (s:={ s with heap:=H1 }) hb1 ?_);rw[YAS rfl];refine YAA (show wpAny _ _ (Builtin.Frozenset.addrOf (.ref b)) _ _ _ from YAC ?_);unfold Builtin.Frozenset.merge;obtain⟨ob,eb,epb,tb,msb,gb,exb,db,elb,fb,rb⟩:=id hb1;refine YAA (YDV gb db fb ?_);refine Zi7 (s:={ s with heap:=H1 }) hN hb1 (YBW (YAd lb_)) λH2 sb2 hr2=>?_;have k2:∀c o,c≠s.heap.objs.size->H1.get? c=some o->H2.get? c=some o:=λc o n e=>(sb2.2 c n).trans e;have na_:a≠s.heap.objs.size:=YAd la_;have ha2:=ha1.keep λo e=>k2 a o na_ e;refine YAC (YAA (show wpAny _ _ (Builtin.Frozenset.addrOf (.ref s.heap.objs.size)) _ _ _ from YAC ?_));refine YAA (YBD ?_);show wpAny _ _ _ _ _ { s with heap:=H2 };unfold Builtin.Frozenset.symmetricDifferenceUpdate;have e0:(Value.ref a == Value.ref s.heap.objs.size)=false:=by have:¬Value.ref a=Value.ref s.heap.objs.size:=λz=>na_ (by injection z);simpa using this
 rw[e0,YAL YAE];refine YAA (wpAny_typeOf (s:={ s with heap:=H2 }) (T:="set") ha2.typ ?_);rw[show (Value.type "set" == Value.type "dict")=false by decide,YAL YAE];refine YAA (ZfG (s:={ s with heap:=H2 }) ha2 ?_);rw[YAS rfl];refine YAA (YAC ?_);refine YAA (show wpAny _ _ (Builtin.Frozenset.addrOf (.ref a)) _ _ _ from YAC ?_);obtain⟨oa,ea,epa,ta,msa,ga,exa,da,ela,fa,ra⟩:=id ha2;refine YAA (YDV (s:={ s with heap:=H2 }) ga da fa ?_);refine YBD ?_;refine YAA (ZgK (s:={ s with heap:=H2 }) ha2 hr2 (YBW na_) λH3 es xs sb3 hr3 px hv hel=>?_);show wpAny _ _ _ _ _ { s with heap:=H3 };have xl:xs.length=la.length:=px.length_eq;refine YAA (YBg (wpAny_forIn_array' _ (λrest (_:PUnit) s'=>∃(h':Heap) (dn re:Q22),s'={ s with heap:=h' }/\Heap.SameBut s.heap.objs.size H2 h'/\xs=dn++re/\gs (re.map tx) (rest.map (·.2))/\(∀e∈rest,e∈es.toList)/\gF prog w h' s.heap.objs.size (dn.foldl Zcu lb) (!ZaZ w))
  (λ(_:PUnit) s'=>∃h':Heap,s'={ s with heap:=h' }/\Heap.SameBut s.heap.objs.size H2 h'/\gF prog w h' s.heap.objs.size (xs.foldl Zcu lb) (!ZaZ w)) ?_ ?_ _ _ ⟨H3,[],xs,rfl,sb3,rfl,hv,λe he=>he,hr3⟩) ?_ λ_ _ h'=>h')
 .rintro⟨hx,x⟩ rest _ s' ⟨h',dn,re,rfl,sb,ex,hv',hm,hr'⟩;cases re with
  | nil=>cases hv'
  | cons l re=>
   cases hv' with
   | cons r1 r2=>
    obtain⟨tk,e⟩:=r1;have e':x=.str ⟨l.toArray⟩ tk:=e;have ek:=Zmw hel (hm _ YAZ) e';subst e' ek;have dl:dn.length+(re.length+1)=la.length:=by rw[<-xl,ex,YAF,YAf]
    have fl:=ZhY dn lb;refine YAA (ZkH (s:={ s with heap:=h' }) hr' ∅ λh2 sb2' hr2'=>?_);show wpAny _ _ _ _ _ { s with heap:=h2 };have sb4:=sb.trans sb2';have ga':h2.get? a=some oa:=(sb4.2 a na_).trans ga;unfold Builtin.Frozenset.unchanged;refine YAA (YAA (YDV (s:={ s with heap:=h2 }) ga' da fa ?_));rw[bne_self_eq_false,YAL YAE];refine YAC (YAC ⟨h2,dn++[l],re,rfl,sb4,by rw[ex];simp,r2,λe he=>hm e (YAO _ he),?_⟩);rw[List.foldl_append];exact hr2'
 .rintro _ s' ⟨h',dn,re,rfl,sb,ex,hv',hm,hr'⟩;cases re with
  | cons l re=>cases hv'
  | nil=>
   rw[YDT]at ex;subst ex;exact⟨h',rfl,sb,hr'⟩
 .rintro _ s' ⟨h',rfl,sb,hr'⟩;refine YAC (YAC (YAC ⟨_,rfl,λz=>(by cases z),h h' (λc o e=>?_) (hr'.perm (Zlv na nb px))⟩));have nc:c≠s.heap.objs.size:=YAd (YAR e);exact(sb.2 c nc).trans (k2 c o nc (k1 c o e))
end
def rXor (P:AH)(w:AJ):R2:=λx y H Q=>∃a b la lb,x=.ref a/\y=.ref b/\H a=some (i3 P w a la)/\H b=some (i3 P w b lb)/\la.Nodup/\lb.Nodup/\a≠b/\la.length+lb.length<=4000/\∀p,H p=none->Q (.ref p) (upd H p (i3 P w p (ic la lb)))
def Zjr (hP:X.prog=P)(hw:X.w=w):OpR X (binaryOp .BitXor) (rXor P w):=by subst hP hw;intro As s U H x y v u Q I rx ry h;obtain⟨a,b,la,lb,rfl,rfl,ha,hb,na,nb,ne,hz,q⟩:=h;cases rx;cases ry;have hA:gF X.prog X.w s.heap a la (!ZaZ X.w):=(I.hok a _ ha).1;have hB:gF X.prog X.w s.heap b lb (!ZaZ X.w):=(I.hok b _ hb).1;exact ZmJ hA hB na nb ne (by show _<4096;lia) λh' k hS=>⟨.ref s.heap.objs.size,_,I.laid (t':=s.toks) k (YAT _) (ZiY hS),rfl,q _ I.fresh⟩
section
end
open PySem.W (Frag)
section
end
def Zla {K:Frag}{H:Hp}{Q:VK}{a b:AE}{vs:List V}(h1:SqT K H a vs)(h2:SqT K H b vs)(hf:vs.all ZbC=true)(q:Q (.bl false) H):iO K true (.ref a) (.ref b) H Q:=
 .inr ⟨_,_,jE h1 hf,jE h2 hf,λz=>YAE z.1,(ownT h1 hf).2.2,by rw[(ownT h1 hf).2.1];exact q⟩
noncomputable def frT (a b:Int):Int:=a/(Int.gcd a b:Nat)
noncomputable def frB (a b:Int):Int:=b/(Int.gcd a b:Nat)
def Zcc (ha:0<=a)(hb:0<b):0<=frT a b/\frT a b<=a/\1<=frB a b/\frB a b<=b/\Int.gcd (frT a b) (frB a b)=1/\frT a b*b=frB a b*a:=by
 have hg:0<Int.gcd a b:=Int.gcd_pos_of_ne_zero_right a ∅;have hg':(0:Int)<(Int.gcd a b:Nat):=by lia
 obtain⟨x,hx⟩:=Int.gcd_dvd_left a b;obtain⟨y,hy⟩:=Int.gcd_dvd_right a b;have e1:frT a b=x:=by unfold frT;exact Int.ediv_eq_of_eq_mul_right ∅ hx
 have e2:frB a b=y:=by unfold frB;exact Int.ediv_eq_of_eq_mul_right ∅ hy
 rw[e1,e2];have hy1:1<=y:=by
  rcases (by lia:y<1\/1<=y) with h | h
  .have:((Int.gcd a b:Nat):Int)*y<=0:=Int.mul_nonpos_of_nonneg_of_nonpos ∅ ∅
   lia
  .exact h
 have hx0:0<=x:=by
  rcases (by lia:x<0\/0<=x) with h | h
  .have:((Int.gcd a b:Nat):Int)*x<0:=Int.mul_neg_of_pos_of_neg hg' h
   lia
  .exact h
 refine⟨hx0,?_,hy1,?_,?_,?_⟩
 .have:1*x<=((Int.gcd a b:Nat):Int)*x:=Int.mul_le_mul_of_nonneg_right ∅ hx0
  lia
 .have:1*y<=((Int.gcd a b:Nat):Int)*y:=Int.mul_le_mul_of_nonneg_right ∅ ∅
  lia
 .have h:=Int.gcd_mul_left ((Int.gcd a b:Nat):Int) x y;rw[<-hx,<-hy,Int.natAbs_natCast]at h;exact Nat.eq_of_mul_eq_mul_left hg ∅
 .generalize Int.gcd a b=g at hx hy;rw[hx,hy,<-Int.mul_assoc,<-Int.mul_assoc,Int.mul_comm x,Int.mul_comm y,Int.mul_assoc,Int.mul_assoc,Int.mul_comm x y]
def Bt (n:Nat)(i:Int):Prop:=0<=i/\i.toNat<2 ^ n
def Bt.mono (h:Bt n i)(l:n<=k):Bt k i:=⟨h.1,YAy h.2 (Nat.pow_le_pow_right (by decide) l)⟩
def Bt.le (h:Bt n j)(h0:0<=i)(l:i<=j):Bt n i:=⟨h0,YCc ∅ h.2⟩
def Bt.mul (h1:Bt n i)(h2:Bt k j):Bt (n+k) (i*j):=by obtain⟨a,rfl⟩:∃a:Nat,i=(a:Int):=⟨i.toNat,by have:=h1.1;lia⟩;obtain⟨b,rfl⟩:∃b:Nat,j=(b:Int):=⟨j.toNat,by have:=h2.1;lia⟩;have ha:a<2 ^ n:=h1.2;have hb:b<2 ^ k:=h2.2;rw[<-Int.natCast_mul];refine⟨∅,?_⟩;show a*b<2 ^ (n+k);rw[Nat.pow_add];exact Nat.mul_lt_mul_of_lt_of_lt ha hb
def Bt.bits (h:Bt n i)(l:n<=8000):Builtin.Int.intBits i<=2 ^ 20:=by
 have e:i.natAbs=i.toNat:=by have:=h.1;lia
 exact YAP (intBits_le (k:=n) (by rw[e];exact h.2)) (YAP l (by decide))
def Bt.log (h:Bt n i)(l:n<=8000):i.natAbs.log2<9000:=by
 have e:i.natAbs=i.toNat:=by have:=h.1;lia
 rw[e];by_cases z:i.toNat=0
 .rw[z];decide
 .have:=(Nat.log2_lt z).mpr h.2
  lia
def Zp6 (i j:Int):Prop:=0<j/\∃n,n<=8000/\Bt n j
def ZrM (i j:Int):Prop:=∃n,n<=8000/\Bt n i/\Bt n j
section
def ZhM:OpR X (binaryOp .FloorDiv) (rI Zp6 λi j=>.int (i/j)):=opI λi j _ _ _ _ _ hc q=>by obtain⟨h1,n,hn,h2⟩:=hc;have h1:(0:Int)<j:=h1;exact floordiv_int ∅ (by rw[Int.fdiv_eq_ediv_of_nonneg i ∅];exact q) (.inl (PyProof.noPylong_of_log2 (h2.log hn)))
def Zd6:OpR X (binaryOp .Mult) (rI ZrM λi j=>.int (i*j)):=opI λ_ _ _ _ _ _ _ hc q=>by obtain⟨n,hn,h1,h2⟩:=hc;exact mul_int q (.of_bits (h1.bits hn) (h2.bits hn))
end
end L2
namespace L2
noncomputable def DD:Nat:=33452526613163807108170062053440751665152000000000*33452526613163807108170062053440751665152000000000
def wtN (n:Nat):Nat:=DD/(n*n)
def Zmy:∀n:Fin 42,n.val=0\/n.val*n.val*wtN n.val=DD:=by decide +kernel
def ZiH (h1:1<=n)(h2:n<=41):n*n*wtN n=DD:=(Zmy ⟨n,∅⟩).resolve_left (by show ¬n=0;lia)
def ZeX:0<DD:=by decide +kernel
def Zmx (h1:1<=n)(h2:n<=41):0<wtN n:=by
 have a:=ZiH h1 h2;have b:=ZeX;cases z:wtN n with
 | zero=>rw[z,Nat.mul_zero]at a;lia
 | succ k=>lia
def WS (ws:Q22):Nat:=(ws.map λw=>wtN w.length).sum
def Zmt:WS []=0:=rfl
def Zn4 (ws:Q22)(w:Q11):WS (ws++[w])=WS ws+wtN w.length:=by unfold WS;simp
def Zn5 (h:xs.Perm ys):WS xs=WS ys:=by unfold WS;exact(h.map _).sum_nat
def Zp2 (xs ys:Q22):WS (xs++ys)=WS xs+WS ys:=by unfold WS;simp
def Zn3 (h:∀w∈ws,1<=w.length/\w.length<=41)(z:WS ws=0):ws=[]:=by
 cases ws with
 | nil=>rfl
 | cons w ws=>
  have:=Zmx (h w (by simp)).1 (h w (by simp)).2;unfold WS at z;simp at z
  lia
theorem ZlN:∀ {xs ys:Q22},xs.Nodup->(∀w∈xs,w∈ys)->WS xs<=WS ys
 | [],_,_,_=>YBC _
 | x::xs,ys,nd,h=>by
  have hx:=h x (by simp);have p:=List.perm_cons_erase hx;rw[Zn5 p];have ih:=ZlN (xs:=xs) (ys:=ys.erase x) (YBY.mp nd).2 λw hw=>(List.mem_erase_of_ne (λ(e:w=x)=>(YBY.mp nd).1 (e▸hw))).mpr (h w (by simp[hw]));unfold WS at *;simp only[YAc,List.sum_cons]
  lia
structure gT (a b ds:Q22):Prop where
 nd:ds.Nodup
 mem:∀w,w∈ds↔(w∈a/\w∉b)\/(w∈b/\w∉a)
def gT.ws (h:gT a b ds)(g:gT a b es):WS ds=WS es:=
 Nat.le_antisymm (ZlN h.nd λw hw=>(g.mem w).mpr ((h.mem w).mp hw)) (ZlN g.nd λw hw=>(h.mem w).mpr ((g.mem w).mp hw))
def tri (h1:gT a b x)(h2:gT b c y)(h3:gT c a z):WS y<=WS x+WS z:=by rw[<-Zp2];refine ZlN h2.nd λw hw=>?_;rw[YAW,h1.mem,h3.mem];have:=(h2.mem w).mp hw;by_cases ha:w∈a<;>by_cases hb:w∈b<;>by_cases hc:w∈c<;>simp_all
def ZjL (h1:∀c∈l1,c∈m)(h2:∀c∈l2,c∈m)(h:∀w,w∈Zas l1 m↔w∈Zas l2 m):l1=l2:=by have a:Inf l1 l2:=(Zc1 h1).mpr λv hv=>(Zc1 h1).mp (Inf.refl l1) v ((h v).mpr hv);have b:Inf l2 l1:=(Zc1 h2).mpr λv hv=>(Zc1 h2).mp (Inf.refl l2) v ((h v).mp hv);exact ZjU a b.len
def Zj6 (h:a∣b*c)(g:Int.gcd a b=1):a∣c:=by rw[<-Int.natAbs_dvd_natAbs]at h ⊢;rw[Int.natAbs_mul]at h;exact Nat.Coprime.dvd_of_dvd_mul_left g h
def ZnH (hx:0<=x)(hy:0<y)(hu:0<=u)(hv:0<v)(h:x*v=u*y):frT x y=frT u v/\frB x y=frB u v:=by
 obtain⟨a1,a2,a3,a4,a5,a6⟩:=Zcc hx hy;obtain⟨b1,b2,b3,b4,b5,b6⟩:=Zcc hu hv;generalize frT x y=p at *;generalize frB x y=q at *;generalize frT u v=r at *;generalize frB u v=s at *;have yv:y*v≠0:=Int.ne_of_gt (Int.mul_pos hy hv);have e:p*s=r*q:=by
  apply Int.eq_of_mul_eq_mul_right yv;have l:p*s*(y*v)=(p*y)*(s*v):=by ac_rfl
  have k:r*q*(y*v)=(r*v)*(q*y):=by ac_rfl
  rw[l,k,a6,b6];have l2:q*x*(s*v)=q*s*(x*v):=by ac_rfl
  have k2:s*u*(q*y)=q*s*(u*y):=by ac_rfl
  rw[l2,k2,h]
 have d1:q∣s:=Zj6 (b:=p) (c:=s) ⟨r,by rw[e];ac_rfl⟩ (by rw[Int.gcd_comm];exact a5);have d2:s∣q:=Zj6 (b:=r) (c:=q) ⟨p,by rw[<-e];ac_rfl⟩ (by rw[Int.gcd_comm];exact b5);have qs:q=s:=Int.dvd_antisymm ∅ ∅ d1 d2;subst qs;exact⟨Int.eq_of_mul_eq_mul_right ∅ e,rfl⟩
end L2
namespace L2
open PySem PySem.Spec PyProof.Rows
open PySem.W (Frag)
def ZhP:MtM X "str.find" (λx vs H Q=>∃l w,x=tx l/\vs=[tx w]/\∀r:Int,((r=-1/\¬Inf w l)\/∃i:Nat,r=(i:Int)/\AtW l w i/\∀j,j<i->¬AtW l w j)->Q (.int r) H):=by
 rintro As s U H x vs v us Q I rx rv ⟨l,w,rfl,rfl,q⟩;obtain⟨t,rfl⟩:=rx;obtain⟨u,rfl,t',rfl⟩:=rv.one;refine SC.find ?_;refine⟨.int _,H,I.tok _,⟨_,rfl⟩,q _ ?_⟩;rcases find_whole (⟨l.toArray⟩:Str) ⟨w.toArray⟩ with⟨h1,h2⟩|⟨i,h1,h2,h3⟩
 .exact .inl ⟨h1,λ⟨i,hi⟩=>h2 i ((Zck l w i).mpr hi)⟩
 .exact .inr ⟨i,h1,(Zck l w i).mp h2,λj hj hA=>h3 j hj ((Zck l w j).mpr hA)⟩
section
end
section
end
end L2
namespace L2
open PySem PySem.Spec PyProof.Rows PySem.Builtin.Str
def tOr2 (t1 t2:TE):TE:=λU H Q=>t1 U H Q\/t2 U H Q
def Zcs (h1:PE X e t1)(h2:PE X e t2):PE X e (tOr2 t1 t2):=λAs s U H Q I h=>h.elim (h1 As s U H Q I) (h2 As s U H Q I)
section
end
end L2
namespace L2
open PySem PySem.Spec PyProof.Rows
section
end
section
def Zp4 (H:Hp)(ys:List V)(xs:List (Key×V)):Prop:=ys.length=xs.length/\∀(i:Nat) (y:V),ys[i]?=some y->∃(x:Key×V) (b:AE),xs[i]?=some x/\y=.ref b/\H b=some (.tup [kV x.1,x.2])
end
end L2
namespace L2
open PySem PySem.Spec PyProof.Rows PySem.W
def ZpI (o:Obj):Bool:=match o.cls,o.data with
 | .none,.fields _=>true
 | _,_=>false
def Zk9 (K:Frag):Bool:=K.all λp=>!ZpI p.2
def Zf3 {K:Frag}(h:Zk9 K=true){b:AE}{o:Obj}(e:K.lookup b=some o):ZpI o=false:=by
 unfold Zk9 at h;rw[YBL]at h;have:∀(l:AB),l.lookup b=some o->(b,o)∈l:=λl=>by
  induction l with
  | nil=>intro e;cases e
  | cons q r ih=>
   intro e;obtain⟨b',o'⟩:=q;rw[YCL]at e;by_cases z:b=b'
   .subst z;simp at e;subst e;exact YAZ
   .have z':(b == b')=false:=by simpa using z
    rw[z']at e;exact YAO _ (ih e)
 have:=h _ (this K e);simpa using this
structure jy (mg:AC)(h:Heap)(n:Str)(c P:AE):Prop where
 fn:∃a o fd,mg n=some (.ref a)/\h.get? a=some o/\o.data=.func fd/\fd.code=.ref c
 code:h.IsCode c P #[]
 tab:h.TableAt c P #[]
def jy.codeEq (t:jy mg h n c P)(e1:mg n=some (.ref a))(e2:h.get? a=some o)(e3:o.data=.func fd):fd.code=.ref c:=by obtain⟨a',o',fd',f1,f2,f3,f4⟩:=t.fn;rw[e1]at f1;cases f1;rw[e2]at f2;cases f2;rw[e3]at f3;cases f3;exact f4
def ZjH {P:AH}{w:AJ}{K:Q4}{mg mb:AC}{CX:CXT}{k:Nat}{fa a:AE}{fd:AG}{x:Str}{sp:Sp}{s_1:AF}{vs:AD}{ns:List Int}{nms:AK}{tb:Str->AE×AE}
  (KX:K.In s_1.heap) (hns:s_1.heap.Ns mainGlobals mg) (hb:s_1.heap.Ns builtinsNs mb) (hbb:∀x:Str,x≠"__name__"->mb x=bootBuiltins x) (hlim:s_1.heap.NoLimit) (hg:s_1.gens=#[])
  (ha:s_1.heap.get? a=some { cls:=.type "list",data:=.seq vs.toArray }) (hi:IntsAre vs ns) (hl:ns.length<=sizeLine) (hr:hG k callerA)
  (hT:∀n∈nms,jy mg s_1.heap n (tb n).1 (tb n).2) (hKt:Zk9 K=true) (hbm:∃bm ob,mg "__builtins__"=some (.ref bm)/\bm≠builtinsNs/\s_1.heap.get? bm=some ob/\ob.cls=.type "module"/\ob.dict=some builtinsNs/\ob.data=.plain)
  (F:∀base:Heap,K.In base->base.Ns mainGlobals mg->(∀n∈nms,iA base mg (tb n).1 (tb n).2)->gy P w K mg base CX k fa fd [x] sp) (hbind:∀(s:AF) (u:Value),BindsTo s fd ⟨[u],[]⟩ [(x,u)])
  (hsp:∀H:Hp,(∀n∈nms,H (tb n).2=some (.tbl #[]))->SqL K H a (ns.map V.int)->sp [.ref a] H (λv _=>v=.bl true) λ_ _ _=>False)
  (hCX:∀H e s',CX [] H s_1 (λ_ _ _=>False) e s'->False):
  codeAny (model P w) callerA (.call (.ref fa) ⟨[.ref a],[]⟩) (λr s'=>r=.ok (.ret (.bool true))/\OldK s_1.heap s'.heap/\s'.os=s_1.os/\AllBare s'.gens) s_1:=by
 have rv:=ZfL hi;have lenV:=hi.length;have hta:∀n∈nms,s_1.heap.get? (tb n).2=some (tabObj #[]):=λn hn=>(hT n hn).tab.2;have aP:∀n∈nms,(tb n).2≠a:=λn hn z=>by have e:=hta n hn;rw[z,ha]at e;have:=congrArg Obj.cls (Option.some.inj e);exact absurd (show Value.type "list"=Value.none from this) (by simp)
 let isP:AE->Prop:=λb=>∃n∈nms,(tb n).2=b
 have core:∀H:Hp,SqL K H a (ns.map V.int)->HOk P w H s_1.heap->(∀b,H b≠none->(b=a/\∃o xs,H b=some (.frz o (.lst xs)))\/(isP b/\H b=some (.tbl #[])))->(∀b,isP b->H b=some (.tbl #[]))->(H a≠none->K.lookup a=none) ->
   codeAny (model P w) callerA (.call (.ref fa) ⟨[.ref a],[]⟩) (λr s'=>r=.ok (.ret (.bool true))/\OldK s_1.heap s'.heap/\s'.os=s_1.os/\AllBare s'.gens) s_1:=by
  intro H hS hok hA hPt hK;have base_of:∀ {b:AE} {o:Obj},s_1.heap.get? b=some o->H b=none->(jh s_1.heap H).get? b=some o:=λe n=>Zlo e n;have noT:∀ {b:AE} {o:Obj},s_1.heap.get? b=some o->o≠tabObj #[]->o.cls≠.type "list"->H b=none:=λ{b o} e n1 n2=>by
   cases q:H b with
   | none=>rfl
   | some u=>
    rcases hA b (by rw[q];simp) with⟨e',_⟩|⟨⟨n,hn,e'⟩,_⟩
    .subst e';rw[ha]at e;cases e;exact absurd rfl n2
    .subst e';rw[hta n hn]at e;cases e;exact absurd rfl n1
  have noA:∀ {b:AE} {o:Obj} {es:Array DictEntry} {ep:Nat},s_1.heap.get? b=some o->o.data=.dict es ep->H b=none:=λ{b o es ep} e d=>by
   cases q:H b with
   | none=>rfl
   | some u=>
    rcases hA b (by rw[q];simp) with⟨e',_⟩|⟨⟨n,hn,e'⟩,_⟩
    .subst e';rw[ha]at e;cases e;have d':Data.seq vs.toArray _=Data.dict es ep:=d;cases d'
    .subst e';rw[hta n hn]at e;cases e;cases d
  have nsK:∀ {b:AE} {m:AC},s_1.heap.Ns b m->(jh s_1.heap H).Ns b m:=λ{b m} ⟨o,es,ep,e,d,r⟩=>⟨o,es,ep,base_of e (noA e d),d,r⟩;have hKb:K.In (jh s_1.heap H):=λb o e=>base_of (KX b o e) (by
   cases q:H b with
   | none=>rfl
   | some u=>
    rcases hA b (by rw[q];simp) with⟨e',_⟩|⟨⟨n,hn,e'⟩,_⟩
    .subst e';rw[hK (by rw[q];simp)]at e;cases e
    .subst e';have e1:=KX _ _ e;rw[hta n hn]at e1;have e2:=Zf3 hKt e;rw[<-Option.some.inj e1]at e2;cases e2)
  have hM:Mod K mg (jh s_1.heap H):=⟨hKb,nsK hns,⟨mb,nsK hb,hbb⟩,let ⟨mc,h1,h2⟩:=hlim;⟨mc,nsK h1,h2⟩⟩;have e0:jI P w K mg (jh s_1.heap H) callerA [] s_1 H:=⟨rfl,hM,λb o e=>Zna e,YCu (ZjY _ _),trivial,λb hb=>absurd (show b∈([]:List AE) from hb) (by simp),hok,.of_eq hg⟩;have hL:∀n∈nms,iA (jh s_1.heap H) mg (tb n).1 (tb n).2:=λn hn=>by
   obtain⟨bm,ob,b1,b2,b3,b4,b5,b6⟩:=hbm;obtain⟨oc,vc,file,tf,flags,tg,inF,text,tt,c1,c2,c3,r⟩:=CodeHd.of (hT n hn).code (hT n hn).tab;refine⟨⟨oc,vc,file,tf,flags,tg,inF,text,tt,base_of c1 (noT c1 (λz=>by rw[z]at c2;cases c2) (λz=>by rw[c2]at z;exact absurd z (by decide))),c2,c3,r⟩,bm,ob,b1,b2,λz=>?_,λz=>?_,base_of b3 (noT b3 (λz=>by rw[z]at b4;cases b4) (λz=>by rw[b4]at z;exact absurd z (by decide))),b4,b5,b6⟩
   .obtain⟨o,es,ep,e,d,_⟩:=hns;rw[<-z,b3]at e;cases e;rw[b6]at d;cases d
   .rw[z,hta n hn]at b3;cases b3;cases b4
  refine codeAny_mono ((F _ hKb (nsK hns) hL).run callerA [] s_1 H ⟨[.ref a],[]⟩ [.ref a] [.ref a] _ _ hr e0 (hbind s_1 (.ref a)) (.cons rfl .nil) (hsp H (λn hn=>hPt _ ⟨n,hn,rfl⟩) hS)) λr s' h=>?_;cases r with
  | error e=>exact(hCX H e s' h).elim
  | ok fl=>
   cases fl with
   | next=>exact False.elim h
   | brk=>exact False.elim h
   | cont=>exact False.elim h
   | ret u=>
    obtain⟨v,H',os,bare,un,hok',r',q⟩:=h;have q':v=.bl true:=q;subst q';obtain rfl:u=Value.bool true:=r';refine⟨rfl,⟨λb o e=>?_,λb o e=>un.there b o e (by simp)⟩,os,bare⟩;cases q:H b with
    | none=>exact .inl (un.keep b o e q (by intro z;exact absurd (show b∈([]:List AE) from z) (by simp)) (by simp))
    | some u=>
     rcases hA b (by rw[q];simp) with⟨_,ob,xs,z⟩|⟨⟨n,hn,e'⟩,z⟩
     .have z2:=un.frzs b ob _ z;obtain⟨e1,_⟩:=hok b _ z;obtain⟨e2,_⟩:=hok' b _ z2;rw[e]at e1;cases e1;exact .inl e2
     .obtain⟨more,z2⟩:=un.tbls b _ z;have e1:s_1.heap.get? b=some (tabObj #[]):=hok b _ z;have e2:s'.heap.get? b=some (tabObj (#[]++more)):=hok' b _ z2;rw[e]at e1;cases e1;exact .inr (.inl ⟨by rw[<-e'];exact(hT n hn).tab.isCodeTable,rfl,#[],more,rfl,e2⟩)
 cases hk:K.lookup a with
 | some o=>
  have e:=KX a o hk;rw[ha]at e;cases e
  haveI:DecidablePred isP:=λ_=>Classical.propDecidable _
  refine core (λb=>if isP b then some (.tbl #[]) else none) (.inr ⟨_,vs.toArray,_,hk,rfl,rfl,rfl,by rw[YAM,lenV];exact hl,~~~rv⟩) (λb u z=>?_) (λb z=>?_) (λb hb=>YAS hb) λz=>?_
  .by_cases hb:isP b
   .have z':=(YAS hb).symm.trans z;cases z';obtain⟨n,hn,rfl⟩:=hb;exact hta n hn
   .have z':=(YAL hb).symm.trans z;cases z'
  .by_cases hb:isP b
   .exact .inr ⟨hb,YAS hb⟩
   .exact absurd (YAL hb) z
  .have:¬isP a:=λ⟨n,hn,e⟩=>aP n hn e;exact absurd (YAL this) z
 | none=>
  haveI:DecidablePred isP:=λ_=>Classical.propDecidable _
  refine core (λb=>if b=a then some (.frz { cls:=.type "list",data:=.seq vs.toArray } (.lst (ns.map V.int))) else if isP b then some (.tbl #[]) else none) (.inl (.inr ⟨{ cls:=.type "list",data:=.seq vs.toArray },YAS rfl⟩)) (λb u z=>?_) (λb z=>?_) (λb hb=>?_) λ_=>hk
  .by_cases hb:b=a
   .have z':=(YAS hb).symm.trans z;cases z';subst hb;exact⟨ha,by rw[YAB];exact hl,vs,_,rv,ha⟩
   .have z':=(YAL hb).symm.trans z;by_cases hp:isP b
    .have z2:=(YAS hp).symm.trans z';cases z2;obtain⟨n,hn,rfl⟩:=hp;exact hta n hn
    .have z2:=(YAL hp).symm.trans z';cases z2
  .by_cases hb:b=a
   .exact .inl ⟨hb,_,_,YAS hb⟩
   .by_cases hp:isP b
    .exact .inr ⟨hp,by rw[YAL hb,YAS hp]⟩
    .exact absurd (by rw[YAL hb,YAL hp]) z
  .have nb:b≠a:=by obtain⟨n,hn,rfl⟩:=hb;exact aP n hn
   rw[YAL nb,YAS hb]
def nE {l:PySem.W.OpenLaw}{n k:Nat}{q:AH}{loose:AK}{XP:(AC)->Heap->Prop}{YP:AJ->Heap->Prop}{d:DefRec}{K:Params->Q4}{CX:CXT}{sp:Q4->(Str->AE×AE)->Sp}{x:Str}(nms:AK)
  (hn:l.most=some n) (hn2:n<=sizeLine) (hdf:d.params.defaults=[]) (hr:hG k callerA)
  (hY:∀(w:AJ) (h:Heap),YP w h->(K w.params).In h) (hKt:∀P:Params,Zk9 (K P)=true) (hnm:(nms.all λn=>(recsOf q).any λe=>e.name == n)=true)
  (F:∀(w:AJ) (mg:AC) (fa:AE) (h:Heap) (tb:Str->AE×AE),(K w.params).In h->h.Ns mainGlobals mg->mg d.name=some (.ref fa)->(∀n∈nms,jy mg h n (tb n).1 (tb n).2) ->
   ∃fd:AG,(∀(s:AF) (u:Value),BindsTo s fd ⟨[u],[]⟩ [(x,u)]) /\
    ∀base:Heap,(K w.params).In base->base.Ns mainGlobals mg->(∀n∈nms,iA base mg (tb n).1 (tb n).2)->gy l.prog w (K w.params) mg base CX k fa fd [x] (sp (K w.params) tb))
  (hsp:∀(K:Q4) (tb:Str->AE×AE) (H:Hp) (a:AE) (ns:List Int),ns.length<=n->(∀n∈nms,H (tb n).2=some (.tbl #[]))->SqL K H a (ns.map V.int)->sp K tb [.ref a] H (λv _=>v=.bl true) λ_ _ _=>False)
  (hCX:∀(H:Hp) (s:AF) (e:Value) (s':AF),CX [] H s (λ_ _ _=>False) e s'->False):
  PySem.W.WalkO q loose XP YP l.row.toRowW d [] (λf vs=>PySem.call f vs):=by
 refine Att.attach_call hn hdf λw s_0 s_1 mg mb fa o pm cd doc a vs ns G Y ho hd hcd hmg hobj hints Av hg=>?_;have KX:=hY w _ Y;have ex:∀n:Str,∃cp:AE×AE,n∈nms->jy mg s_1.heap n cp.1 cp.2:=λn=>by
  by_cases h:n∈nms
  .rw[YBL]at hnm;have:=hnm n h;rw[YDM]at this;obtain⟨e,he,en⟩:=this;have en:e.name=n:=by simpa using en
   obtain⟨a',o',fd',c,P,h1,h2,h3,h4,h5,h6⟩:=G.T.tab e he;exact⟨(c,P),λ_=>⟨⟨a',o',fd',by rw[<-en];exact h1,h2,h3,h4⟩,h5,h6⟩⟩
  .exact⟨(0,0),λz=>absurd z h⟩
 obtain⟨tb,htb⟩:=Classical.skolem.mp ex;obtain⟨fd,hb,hF⟩:=F w mg fa _ tb KX G.T.g hmg htb;exact ZjH KX G.T.g G.T.b G.T.builtins G.T.nolimit hg hobj hints (YAP Av hn2) hr htb (hKt _) G.T.bmain hF hb (λH hP hS=>hsp (K w.params) tb H a ns Av hP hS) λH e s'=>hCX H s_1 e s'
section
variable {P:AH}{w:AJ}{K:Q4}{mg:AC}{base:Heap}
def Fun.okC {x qual:Str}{st:Stmt}{f:AE}{fd:AG}{N ps:AK}{k:Nat}{sp:Sp}{c:Value}(F:Fun K x qual st f fd)(hc:fd.code=c)(S:gn N ps (Zah st))
  (body:∀(A:AI) (outer:List Env) (s:AF) (H:Hp) (vs:List V) (Q:VK) (E:XK),hG k (A.deeper (envOfC qual (Zah st) s.heap.objs.size f c))->sp vs H Q E ->
   ∃t,PSs (ji CX0 P w K mg base N qual (Zah st) f c A outer s H E).nox (ZbG st) t/\t { nx:=λ_ H'=>Q .non H',rt:=Q } (start N vs) H)(len:∀vs H Q E,sp vs H Q E->vs.length=ps.length:=by walk_at "ln"):gy P w K mg base CX0 (k+1) f fd ps sp:=by
 obtain⟨⟨oc,od,kV,doc,pm,an,Au,ct,osl,rfl,l,cc⟩,_⟩:=F;obtain rfl:Au=c:=hc;refine ZpQ l cc S len λA outer s H vs Q E hr hsp=>?_;obtain⟨t,h,q⟩:=body A outer s H vs Q E hr hsp;exact⟨t,h.nox,q⟩
def Fun.at {x qual:Str}{st:Stmt}{f:AE}{fd:AG}{h:Heap}(F:Fun K x qual st f fd)(KX:K.In h):∃o,h.get? f=some o/\o.data=.func fd:=by obtain⟨⟨oc,od,kV,doc,pm,an,Au,ct,osl,rfl,l,cc⟩,_⟩:=F;exact⟨_,KX _ _ l,rfl⟩
end
end L2
namespace L2
open PySem PySem.Spec PyProof.Rows
section
end
section
end
end L2
namespace PySem
section
variable {prog:AH}{w:AJ}{K:Type}[DecidableEq K]{knd:HeapKind prog w K}{A:AI}{E:Q33}{s:AF}
end
end PySem
namespace L2
open PySem PySem.Spec PyProof.Rows
section
end
end L2
namespace L2
open PySem PySem.Spec PyProof.Rows PySem.W
section
end
section
end
section
end
noncomputable def Itv (o:Obj)(kvs:List (Key×V))(a:AE):It:=
 ⟨λi H=>H a=some (.frz o (.dK kvs))/\i<kvs.length,λi H x H'=>H'=H/\∃p,kvs[i]?=some p/\x=p.2,λi H=>H a=some (.frz o (.dK kvs))/\kvs.length<=i⟩
section
end
section
end
section
end
end L2
namespace PySem
noncomputable def lH (h:Heap) (d:AE) (es:Array DictEntry) (ep:Nat):Prop:=∃o,h.get? d=some o/\o.ExactDict/\o.data=.dict es ep
section
def lH.at (x:lH h d es ep)(e:∀o,h.get? d=some o->h'.get? d=some o):lH h' d es ep:=let ⟨o,ho,r⟩:=x;⟨o,e _ ho,r⟩
end
end PySem
namespace L2
open PySem PySem.Spec PyProof.Rows PySem.W
def KT.at (r:KT H kvs xs):∀(i:Nat) (x:List Key×V) (u:List Key×AE×Value),kvs[i]?=some x->xs[i]?=some u->gC x.2 u.2.2:=by
 induction r with
 | nil=>intro i x u h;simp at h
 | cons hd _ ih=>
  intro i x u h1 h2;cases i with
  | zero=>
   have e1:=Option.some.inj h1;have e2:=Option.some.inj h2;rw[<-e1,<-e2];exact hd.2.2
  | succ i=>exact ih i x u (~~~h1) (~~~h2)
section
end
end L2
namespace L2
open PySem PySem.Spec PyProof.Rows
section
end
section
end
structure PAz (X:Cx)(es:List Expr)(t:TA):Prop where
 h:PA X es t
abbrev KR:=Int×Q11
noncomputable def ltR:KR->KR->Bool:=lexB (λa b=>decide (a<b)) λa b=>decide (a<b)
section
end
section
end
section
end
end L2
namespace L2
open PySem PySem.Spec PyProof.Rows PySem.W
def ZmX {X:Cx}{K:Frag}{es:List Expr}{k:Nat}{t:TGs}{pos:Pos}(n:Nat)(hK:X.K=K)(hc:X.calm=true)(h:PGs X es t)(hn:(assignEach es X.env).length=n:=by rfl)(hst:(assignEach es X.env).findIdx? (·.1)=none:=by rfl):PG X (.Tuple es k pos) (ki K n t):=by subst hK;exact Zl3 hc h hn hst
section
end
end L2
namespace L2
open PySem PySem.Spec PyProof.Rows
open PySem.W (Frag)
section
end
end L2
namespace L2
open PySem PySem.Spec PyProof.Rows
def Za9 (t:TS):TS:=t
def Zad {X:Cx}{st:List Stmt}{t:TS}(h:PSs X st t):PSs X st (Za9 t):=h
def Zai (h:t D U H):Za9 t D U H:=h
section
end
def Chg (S:List AE)(H H':Hp):Prop:=∀b o,H b=some o->b∉S->Zc4 o=false->H' b=some o
def gE.chg (s:gE H H'):Chg S H H':=λb o e _ t=>s b o e t
def gp.chg (s:gp H H'):Chg S H H':=λb o e _ _=>s b o e
def Chg.trans (a:Chg S H H1)(b:Chg S H1 H2):Chg S H H2:=λc o e n t=>b c o (a c o e n t) n t
def Chg.upd (h:a∈S):Chg S H (upd H a o):=λb u e n _=>by rw[Zak (show b≠a from λz=>n (by rw[z];exact h))];exact e
def Chg.mono (h:Chg S H H')(k:∀b∈S,b∈S'):Chg S' H H':=λb o e n t=>h b o e (λz=>n (k b z)) t
def Chg.l (h:Chg [] H H'):gE H H':=λb o e t=>h b o e (by simp) t
def Nw (H:Hp)(r:AE):Prop:=∀o,H r=some o->Zc4 o=true
def Nw.of (h:H r=none):Nw H r:=λo e=>by rw[h]at e;cases e
def Nw.ne (n:Nw H r)(h:H b=some o)(t:Zc4 o=false):b≠r:=λz=>by rw[z]at h;rw[n o h]at t;cases t
def Nw.l (n:Nw H1 r)(s:gE H H1):Nw H r:=λo e=>by
 cases t:Zc4 o with
 | true=>rfl
 | false=>rw[<-t];exact n o (s r o e t)
def Nw.same (n:Nw H1 r)(s:gp H H1):Nw H r:=n.l s.l
def Nw.chg (n:Nw H1 r)(c:Chg S H H1)(hS:∀b∈S,∃o,H1 b=some o/\Zc4 o=false):Nw H r:=λo e=>by
 by_cases z:r∈S
 .obtain⟨u,hu,tu⟩:=hS r z;exact absurd rfl (n.ne hu tu)
 .cases t:Zc4 o with
  | true=>rfl
  | false=>rw[<-t];exact n o (c r o e z t)
def Zll:HO->Bool
 | .ext _=>true
 | _=>false
def gY.upd (T:gY H P pos q)(h:H a=some o)(t:Zc4 o=false)(x:Zll o=false):gY (L2.upd H a o') P pos q:=by
 obtain⟨ps,e,tr,hc⟩:=T;refine⟨ps,?_,tr,hc.imp id ?_⟩
 .rw[Zak (λz=>by rw[z,h]at e;cases e;cases t)];exact e
 .rintro⟨c,e1,e2⟩;refine⟨c,e1,?_⟩;rw[Zak (λz=>by rw[z,h]at e2;unfold ZfH at e2;cases e2;cases x)];exact e2
def SqL.lL {K:Q4}{H H':Hp}{a:AE}{xs:List V}(h:SqL K H a xs)(s:gE H H'):SqL K H' a xs:=by
 rcases h with h | h
 .rcases h with h | ⟨o,h⟩
  .exact .inl (.inl (s _ _ h rfl))
  .exact .inl (.inr ⟨o,s _ _ h rfl⟩)
 .exact .inr h
def jL (H:Hp)(y:V)(r:Q11×List V):Prop:=∃a b,y=.ref a/\H a=some (.tup [tx r.1,.ref b])/\H b=some (.tup r.2)
def iu (H:Hp)(ys:List V)(rs:List (Q11×List V)):Prop:=ys.length=rs.length/\∀(i:Nat) (y:V),ys[i]?=some y->∃r,rs[i]?=some r/\jL H y r
def iu.chg (h:iu H ys rs)(c:Chg S H H')(hS:∀b∈S,∀us,H b≠some (.tup us)):iu H' ys rs:=by refine⟨h.1,λi y hy=>?_⟩;obtain⟨r,hr,a,b,e,h1,h2⟩:=h.2 i y hy;exact⟨r,hr,a,b,e,c _ _ h1 (λz=>hS _ z _ h1) rfl,c _ _ h2 (λz=>hS _ z _ h2) rfl⟩
def iu.l (h:iu H ys rs)(s:gE H H'):iu H' ys rs:=h.chg (S:=[]) s.chg (by simp)
theorem Zhh {K:Q4}{H:Hp}:∀ {ds:List DT} {vs:List V},vs.length=ds.length->(∀(i:Nat) (v:V),vs[i]?=some v->∃d,ds[i]?=some d/\gx K H d v)->gG K H ds vs
 | [],[],_,_=>by unfold gG;rfl
 | [],_::_,h,_=>by simp at h
 | _::_,[],h,_=>by simp at h
 | d::ds,v::vs,h,g=>by unfold gG;obtain⟨d',e,hd⟩:=g 0 v rfl;cases e;exact⟨v,vs,rfl,hd,Zhh (~~~h) λi u hu=>g (i+1) u hu⟩
theorem Zc9:∀ {ds:List DT},(∀d∈ds,deq d d=true)->hE ds ds=true
 | [],_=>by unfold hE;rfl
 | d::ds,h=>by unfold hE;rw[h d YAZ,Zc9 λe he=>h e (YAO _ he)];rfl
theorem ZfA {n:Nat}:∀ {ds:List DT},(∀d∈ds,dep d<=n)->jj ds<=n
 | [],_=>by unfold jj;exact YBC _
 | d::ds,h=>by unfold jj;exact Nat.max_le.mpr ⟨h d YAZ,ZfA λe he=>h e (YAO _ he)⟩
def ZdC (rs:Q11)(s L m:Q11):List (Q11×List V):=(iY s L m).map λw=>(w,[tx rs,tx (jt s w),.int (fpl L (jt s w):Nat)])
def ZdZ (rs:Q11)(s L m:Q11):List (Q11×List V):=(kc s L m).map λw=>(w,[tx rs,.int (fpl L w:Nat)])
noncomputable def PUT:Q11:=[112,117,116]
noncomputable def DROP:Q11:=[100,114,111,112]
def Zhf (d:Bool×Nat):List V:=[tx (if d.1 then PUT else DROP),tx [d.2]]
def g6 (H:Hp)(ts:List V)(ds:List (Bool×Nat)):Prop:=ts.length=ds.length/\∀(i:Nat) (y:V),ts[i]?=some y->∃d,ds[i]?=some d/\∃t,y=.ref t/\H t=some (.tup (Zhf d))
def g6.chg (h:g6 H ts ds)(c:Chg S H H')(hS:∀b∈S,∀us,H b≠some (.tup us)):g6 H' ts ds:=by refine⟨h.1,λi y hy=>?_⟩;obtain⟨d,hd,t,e,ht⟩:=h.2 i y hy;exact⟨d,hd,t,e,c _ _ ht (λz=>hS _ z _ ht) rfl⟩
def g6.snoc (h:g6 H ts ds)(ht:H t=some (.tup (Zhf d))):g6 H (ts++[.ref t]) (ds++[d]):=by
 refine⟨by rw[YAF,YAF,h.1];rfl,λi y hy=>?_⟩;by_cases z:i<ts.length
 .rw[YAm z]at hy;obtain⟨d',hd,r⟩:=h.2 i y hy;exact⟨d',by rw[YAm (by rw[<-h.1];exact z)];exact hd,r⟩
 .rw[YAs ∅]at hy;have e:i-ts.length=0:=by
   rcases Nat.eq_zero_or_pos (i-ts.length) with q | q
   .exact q
   .rw[YAi (by simp;lia)]at hy;cases hy
  rw[e]at hy;cases hy;refine⟨d,?_,t,rfl,ht⟩;rw[YAs (by rw[<-h.1];lia),<-h.1,e];rfl
def g6.init (h:g6 H ts (ds++[d])):∃ts' t,ts=ts'++[.ref t]/\H t=some (.tup (Zhf d))/\g6 H ts' ds:=by
 have hl:ts.length=ds.length+1:=by rw[h.1];simp
 have ne:ts≠[]:=λe=>by rw[e]at hl;simp at hl
 have e:=YCQ ne;have hlast:ts[ds.length]?=some (ts.getLast ne):=by
  rw[List.getLast_eq_getElem,YAH ∅];congr 2
  lia
 obtain⟨d',hd,t,et,ht⟩:=h.2 _ _ hlast;rw[YAs (YAT _),Nat.sub_self]at hd;cases hd;refine⟨ts.dropLast,t,by rw[<-et];exact e.symm,ht,by rw[YBA];lia,λi y hy=>?_⟩;rw[YCF,YBr]at hy;by_cases z:i<ts.length-1
 .rw[YAS z]at hy;obtain⟨d',hd,r⟩:=h.2 i y hy;rw[YAm ∅]at hd;exact⟨d',hd,r⟩
 .rw[YAL z]at hy;cases hy
inductive Run (m:Q11):List (Bool×Nat)->Q11->Prop
 | nil:Run m [] []
 | put {ds:List (Bool×Nat)} {l:Q11} {c:Nat} (h:Run m ds l) (hc:c∈m) (hl:l.length<40):Run m (ds++[(true,c)]) (l++[c])
 | drop {ds:List (Bool×Nat)} {l:Q11} {c:Nat} (h:Run m ds (c::l)):Run m (ds++[(false,c)]) l
def Run.len (h:Run m ds l):l.length<=40:=by
 induction h with
 | nil=>simp
 | put h hc hl ih=>simp;lia
 | drop h ih=>simp at ih;lia
def Run.mem (h:Run m ds l):∀x∈l,x∈m:=by
 induction h with
 | nil=>intro x hx;cases hx
 | put h hc hl ih=>
  intro x hx;rcases YAW.mp hx with hx | hx
  .exact ih x hx
  .rw[YAI.mp hx];exact hc
 | drop h ih=>exact λx hx=>ih x (YAO _ hx)
def Run.last (h:Run m ds' l)(ne:ds'≠[]):∃ds c,(ds'=ds++[(true,c)]/\∃l0,l=l0++[c]/\Run m ds l0)\/(ds'=ds++[(false,c)]/\Run m ds (c::l)):=by
 cases h with
 | nil=>exact absurd rfl ne
 | put h hc hl=>exact⟨_,_,.inl ⟨rfl,_,rfl,h⟩⟩
 | drop h=>exact⟨_,_,.inr ⟨rfl,h⟩⟩
def sF (l m:Q11)(la da:AE):List (Str×V):=[("own_text",tx l),("own_kinds",tx m),("own_lacking",.ref la),("own_deeds",.ref da)]
def f_tk:¬(("own_text":Str)="own_kinds"):=by decide +kernel
def lJ:¬(("own_text":Str)="own_lacking"):=by decide +kernel
def lO:¬(("own_text":Str)="own_deeds"):=by decide +kernel
def mD:¬(("own_kinds":Str)="own_lacking"):=by decide +kernel
def nj:¬(("own_kinds":Str)="own_deeds"):=by decide +kernel
def mh:¬(("own_lacking":Str)="own_deeds"):=by decide +kernel
def Zfd:gM f v ((f,x)::r)=(f,v)::r:=by unfold gM;rw[YAS rfl]
def Zbj (h:¬g=f):gM f v ((g,x)::r)=(g,x)::gM f v r:=by
 conv=>lhs;unfold gM
 rw[YAL h]
def Zjd:gM "own_text" (tx l') (sF l m la da)=sF l' m la da:=Zfd
def Zje:gM "own_lacking" (.ref la') (sF l m la da)=sF l m la' da:=by unfold sF;rw[Zbj lJ,Zbj mD,Zfd]
def ZkO:gM "own_deeds" (.ref da') (sF l m la da)=sF l m la da':=by unfold sF;rw[Zbj lO,Zbj nj,Zbj mh,Zfd]
def ZlX:gM "own_deeds" (.ref da) (gM "own_lacking" (.ref la) (gM "own_kinds" (tx m) (gM "own_text" (tx l) [])))=sF l m la da:=by have e2:∀(f:Str) (v:V),gM f v []=[(f,v)]:=λ_ _=>rfl;rw[e2,Zbj f_tk,e2,Zbj lJ,Zbj mD,e2,Zbj lO,Zbj nj,Zbj mh,e2];rfl
def ZfR:sF l m la da=gM "own_deeds" (.ref da) (gM "own_lacking" (.ref la) (gM "own_kinds" (tx m) (gM "own_text" (tx l) []))):=ZlX.symm
def Zbm:(sF l m la da).lookup ("own_text":Str)=some (tx l):=by rw[ZfR,Zau,YAL lO,Zau,YAL lJ,Zau,YAL f_tk,Zau,YAS rfl]
def Zcm:(sF l m la da).lookup ("own_kinds":Str)=some (tx m):=by rw[ZfR,Zau,YAL nj,Zau,YAL mD,Zau,YAS rfl]
def ZdH:(sF l m la da).lookup ("own_lacking":Str)=some (.ref la):=by rw[ZfR,Zau,YAL mh,Zau,YAS rfl]
def ZbL:(sF l m la da).lookup ("own_deeds":Str)=some (.ref da):=by rw[ZfR,Zau,YAS rfl]
def ZqW {l m:Q11} {la da:AE} {x:Str} (h1:¬x="own_text") (h2:¬x="own_kinds") (h3:¬x="own_lacking") (h4:¬x="own_deeds"):(sF l m la da).lookup x=none:=by rw[ZfR,Zau,YAL h4,Zau,YAL h3,Zau,YAL h2,Zau,YAL h1];rfl
noncomputable def LETx:Q11:=[97,98,99,100,101,102,103,104,105,106,107,108,109,110,111,112,113,114,115,116,117,118,119,120,121,122]
def iskx (l:Q11):Bool:=decide (1<=l.length)&&decide (l.length<=4)&&(l.all λc=>LETx.contains c)&&decide (gL l=Zbn (ddl (gL l)))
def ZdA (C:AE)(H:Hp)(p la da:AE)(l m:Q11):Prop:=∃dx,H p=some (.ins C dx (sF l m la da))
structure iS (m:Q11):Prop where
 k:iskx m=true
 m1:1<=m.length
 m4:m.length<=4
 rise:m.Pairwise (· < ·)
structure gq (C:AE)(H:Hp)(p la da:AE)(l m:Q11)(ds:List (Bool×Nat)):Prop where
 fld:ZdA C H p la da l m
 lack:H la=some (.lst ((Zas l m).map tx))
 deed:∃ts,H da=some (.lst ts)/\g6 H ts ds
 run:Run m ds l
 ok:iS m
 ne:la≠da
def gq.chg (h:gq C H p la da l m ds)(c:Chg S H H')(hS:∀b∈S,∀us,H b≠some (.tup us))(n1:p∉S)(n2:la∉S)(n3:da∉S):gq C H' p la da l m ds:=by obtain⟨⟨dx,f⟩,k,⟨ts,d1,d2⟩,r,o,n⟩:=h;exact⟨⟨dx,c _ _ f n1 rfl⟩,c _ _ k n2 rfl,⟨ts,c _ _ d1 n3 rfl,d2.chg c hS⟩,r,o,n⟩
def gq.l {C:AE}{H H':Hp}{p la da:AE}{l m:Q11}{ds:List (Bool×Nat)}(h:gq C H p la da l m ds)(s:gE H H'):gq C H' p la da l m ds:=h.chg (S:=[]) s.chg (by simp) (by simp) (by simp) (by simp)
def gq.same {C:AE}{H H':Hp}{p la da:AE}{l m:Q11}{ds:List (Bool×Nat)}(h:gq C H p la da l m ds)(s:gp H H'):gq C H' p la da l m ds:=h.l s.l
def gq.upd {C:AE}{H:Hp}{p la da a:AE}{l m:Q11}{ds:List (Bool×Nat)}{xs:List V}{o:HO}(h:gq C H p la da l m ds)(e:H a=some (.lst xs))(n2:a≠la)(n3:a≠da):gq C (L2.upd H a o) p la da l m ds:=by obtain⟨dx,f⟩:=h.fld;exact h.chg (S:=[a]) (Chg.upd (by simp)) (λb hb us z=>by rw[YAI.mp hb,e]at z;cases z) (λz=>by rw[YAI.mp z,e]at f;cases f) (λz=>n2 (YAI.mp z).symm) (λz=>n3 (YAI.mp z).symm)
structure jf (H H2:Hp)(t c g la:AE)(rc rg:List (Q11×List V)):Prop where
 tup:H2 t=some (.tup [.ref c,.ref g])
 came:∃ys,H2 c=some (.lst ys)/\iu H2 ys rc
 went:∃zs,H2 g=some (.lst zs)/\iu H2 zs rg
 nc:Nw H c
 ng:Nw H g
 nl:Nw H la
 ncg:c≠g
 ncl:c≠la
 ngl:g≠la
section
end
section
variable {te:TE}{Q:VK}{τ0:St}{H:Hp}{K:Q4}{a:AE}{xs:List V}
def gu.pairsD (u v:Nat->V)(D:Hp->V->Nat->Prop)(mono:∀H H' y i,(∀c us,H c=some (.tup us)->H' c=some (.tup us))->D H y i->D H' y i)(hz:xs.length<=100000)(hx:SqL K H a xs)(hp:∀i,i<xs.length->∃t,xs[i]?=some (.ref t)/\H t=some (.tup [u i,v i]))
  (he:∀i H' Q' (h:i<xs.length),gp H H'->(∀y H'',gp H' H''->D H'' y i->Q' y H'')->te ((τ0.set 0 (some (u i))).set 1 (some (v i))) H' Q')
  (hQ:∀p ys H',gp H H'->H p=none->H' p=some (.lst ys)->ys.length=xs.length->(∀(k:Nat) (y:V),ys[k]?=some y->D H' y k)->Q (.ref p) H'):gu (Itl K a) τ0 (ki K 2 (Zls (Zcb 0) (Zls (Zcb 1) lE))) jA te H Q:=by
 intro acc ha;refine⟨λi m τ H2=>i<=xs.length/\m=xs.length-i/\(∀w z:Option V,(τ.set 0 w).set 1 z=(τ0.set 0 w).set 1 z)/\gp H H2/\∃ys,H2 acc=some (.lst ys)/\ys.length=i/\∀(k:Nat) (y:V),ys[k]?=some y->D H2 y k,
  ⟨xs.length,YBC _,rfl,λ_ _=>rfl,Zav ha,[],Zao,rfl,λi y h=>by simp at h⟩,?_⟩
 rintro i m τ H2 ⟨hi,rfl,hτ,hs,ys,Aw,Av,hall⟩;by_cases A4:i<xs.length
 .refine .inr ⟨⟨xs,xs[i],hs.seq hx,by simp[A4]⟩,λτ' H'=>(∀w z:Option V,(τ'.set 0 w).set 1 z=(τ0.set 0 w).set 1 z)/\gp H H'/\∃ys,H' acc=some (.lst ys)/\ys.length=i+1/\∀(k:Nat) (y:V),ys[k]?=some y->D H' y k,λτ' H' q=>⟨xs.length-(i+1),∅,A4,rfl,q⟩,λx H3 y=>?_⟩;obtain⟨rfl,y⟩:=y;obtain⟨t,ht,hT⟩:=hp i A4;have ex:x=.ref t:=Option.some.inj ((y xs (hs.seq hx)).symm.trans ht);subst ex;refine⟨t,[u i,v i],rfl,.mk (hs _ _ hT),rfl,u i,[v i],rfl,v i,[],rfl,rfl,?_⟩;unfold jA;dsimp only;rw[YAS rfl,hτ];have hτ':∀w z:Option V,((((τ0.set 0 (some (u i))).set 1 (some (v i))).set 0 w).set 1 z)=(τ0.set 0 w).set 1 z:=λw z=>by rw[List.set_comm (some (v i)) w (show (1:Nat)≠0 by decide),List.set_set,List.set_set]
  refine he i _ _ A4 hs λy H5 s5 hD=>⟨ys,s5 _ _ Aw,by rw[Av,sizeLine_eq];lia,hτ',je ha (hs.trans s5),ys++[y],Zao,by rw[YAF,Av];rfl,λk z hz'=>?_⟩;have ne:∀c us,H5 c=some (.tup us)->upd H5 acc (.lst (ys++[y])) c=some (.tup us):=λc us h=>by rw[Zak (λe=>by rw[e,s5 _ _ Aw]at h;cases h)];exact h
  by_cases hk:k<ys.length
  .rw[YAm hk]at hz';exact mono _ _ _ _ ne (mono _ _ _ _ (λc us e=>s5 _ _ e) (hall k z hz'))
  .rw[YAs ∅]at hz';have hk':k-ys.length=0:=by
    rcases Nat.eq_zero_or_pos (k-ys.length) with h | h
    .exact h
    .rw[YAi (by simp;lia)]at hz';cases hz'
   rw[hk']at hz';cases hz';rw[show k=i by lia];exact mono _ _ _ _ ne hD
 .have e:i=xs.length:=by lia
  subst e;exact .inl ⟨⟨xs,hs.seq hx,YAT _⟩,hQ acc ys H2 hs ha Aw Av hall⟩
end
section
def Zgx (hc:X.calm=true):ZcG X (.builtin "sorted") (λxs H Q=>∃a kvs ls,xs=[.ref a]/\Rd H a (.dK kvs)/\kvs.map (·.1)=ls.map kTx/\gU ((Zbn ls).map tx) H Q):=by
 rintro As s U H xs us Q I r ⟨a,kvs,ls,rfl,ha,hk,q⟩;obtain⟨u,rfl,ru⟩:=r.one;cases ru;obtain⟨z,y,vs,rr,o,es,ep,eo⟩:=ha.ok I.hok;have hm:s.heap.DictAt (ZaF X.prog X.w) a vs ep:=⟨o,es,eo⟩;have hl2:vs.length=ls.length:=by rw[<-rr.length];have:=congrArg List.length hk;simpa using this
 have hz:ls.length<=sizeLine:=by rw[<-hl2,<-rr.length];exact z
 have hl:(Zbn ls).length<=sizeLine:=by rw[(ZaD ls).length_eq];exact hz
 refine Calls.call_function_entry kind_sorted plain_sorted entry_sorted (args_sorted1 _) ?_;unfold Builtin.«sorted»;refine YAA (m:=checkCount "sorted" 1 1 _) (YAC ?_);refine YAA (Zgw (by first | exact I.ok.hd hc | simpa using I.ok.hd hc) y hm (by rw[hl2];exact hz) λs' us' k1 hg ho hv=>?_);have ev:(vs.map λp=>kV p.1)=ls.map tx:=by
  have e1:(vs.map λp=>kV p.1)=(vs.map (·.1)).map kV:=by rw[YAw];rfl
  rw[e1,<-rr.keys,hk,YAw];rfl
 rw[ev]at hv;refine ZeG hv hz λh' us2 e k2 he r2=>?_;have nw:s.heap.get? s'.heap.objs.size=none:=by
  cases q:s.heap.get? s'.heap.objs.size with
  | none=>rfl
  | some o=>exact absurd (YAR (k1 _ _ q)) (YBM _)
 exact⟨.ref s'.heap.objs.size,_,I.laid2 (s':={ s' with heap:=h' }) (o:=.lst ((Zbn ls).map tx)) ho hg (λb o z=>k2 b o (k1 b o z)) nw ⟨by rw[YAB];exact hl,us2,e,r2,he⟩,rfl,q _ (I.hok.none_of nw)⟩
end
section
def Zbd (hc:X.calm=true):ZcG X (.builtin "sorted") (λxs H Q=>∃a ls,xs=[.ref a]/\H a=some (i3 X.prog X.w a ls)/\ls.length<=sizeLine/\gU ((Zbn ls).map tx) H Q):=by
 rintro As s U H xs us Q I r ⟨a,ls,rfl,ha,h64,q⟩;obtain⟨u,rfl,ru⟩:=r.one;cases ru;have hS:gF X.prog X.w s.heap a ls (!ZaZ X.w):=(I.hok a _ ha).1;refine ZgP (I.ok.hd hc) hS h64 λs' b us e nw k hg ho hb rv=>?_;have hl:(Zbn ls).length<=sizeLine:=by rw[(ZaD ls).length_eq];exact h64
 exact⟨.ref b,_,I.laid2 (o:=.lst ((Zbn ls).map tx)) ho hg k nw ⟨by rw[YAB];exact hl,us,e,rv,hb⟩,rfl,q b (I.hok.none_of nw)⟩
def ZiE (hc:X.calm=true):ZcG X (.type "list") (λxs H Q=>∃a kvs,xs=[.ref a]/\Rd H a (.dK kvs)/\gU (kvs.map λp=>kV p.1) H Q):=by
 rintro As s U H xs us Q I r ⟨a,kvs,rfl,ha,q⟩;obtain⟨u,rfl,ru⟩:=r.one;cases ru;obtain⟨z,y,vs,rr,o,es,ep,eo⟩:=ha.ok I.hok;have hm:s.heap.DictAt (ZaF X.prog X.w) a vs ep:=⟨o,es,eo⟩;have hl:vs.length<=sizeLine:=by rw[<-rr.length];exact z
 refine PySem.W.kdl_call (PySem.W.kdl_dict y) (I.ok.hd hc) hm hl λh' tk acc' c' hk hS Aw=>?_;have hv:gs (kvs.map λp=>kV p.1) acc'.toList:=by
  have e1:(kvs.map λp=>kV p.1)=(vs.map λp=>kV p.1):=by
   have e2:(kvs.map λp=>kV p.1)=(kvs.map (·.1)).map kV:=by rw[YAw];rfl
   have e3:(vs.map λp=>kV p.1)=(vs.map (·.1)).map kV:=by rw[YAw];rfl
   rw[e2,e3,rr.keys]
  rw[e1];refine ZcL (by rw[YAB];exact(Array.length_toList.trans Aw.1).symm) λi x u h1 h2=>?_;rw[YAu]at h2;obtain⟨k,v,e,hk⟩:=Aw.2 i u h2;rw[YAK,e]at h1;cases h1;exact ZpH hk
 exact⟨.ref s.heap.objs.size,_,I.laid (t':=tk) (o:=.lst (kvs.map λp=>kV p.1)) hk (YAT _) ⟨by rw[YAB];exact z,acc'.toList,c',hv,by rw[YDG];exact hS⟩,rfl,q _ I.fresh⟩
end
end L2
set_option maxHeartbeats 400000000
namespace Pk94
open PySem L2
noncomputable def top (i:Nat):Stmt:=PySem.Challenge.pw_lackword_k94_whole_rings_and_strips.main.body.getD i (.Pass ⟨0,0,0,0⟩)
abbrev lP:Stmt:=top 14
abbrev lC:Stmt:=top 15
abbrev kE:Stmt:=top 17
abbrev mJ:Stmt:=top 18
abbrev mf:Stmt:=top 19
abbrev lz:Stmt:=top 20
abbrev mE:Stmt:=top 22
abbrev kJ:Stmt:=top 23
abbrev mB:Stmt:=top 24
abbrev kQ:Stmt:=top 30
abbrev mN:Stmt:=top 31
abbrev lT:Stmt:=top 32
abbrev kU:Stmt:=top 33
abbrev nu:Stmt:=top 34
abbrev kT:Stmt:=top 35
abbrev mX:Stmt:=top 36
abbrev mv:Stmt:=top 38
abbrev mP:Stmt:=top 44
abbrev mO:Stmt:=top 45
abbrev lZ:Stmt:=top 48
abbrev lV:Stmt:=top 51
abbrev lD:Stmt:=top 53
abbrev lG:Stmt:=top 54
abbrev kP:Stmt:=top 55
abbrev mU:Stmt:=top 58
abbrev m7:Stmt:=top 59
abbrev mq:Stmt:=top 60
abbrev kL:Stmt:=top 61
abbrev me:Stmt:=top 62
abbrev kH:Stmt:=top 63
abbrev lK:Stmt:=top 64
abbrev kI:Stmt:=top 65
abbrev lh:Stmt:=top 66
abbrev ma:Stmt:=top 67
abbrev lI:Stmt:=top 68
abbrev ZmT:Stmt:=top 69
abbrev kS:Stmt:=gz (top 39) 0
abbrev mV:Stmt:=gz (top 39) 1
abbrev k9:Stmt:=gz (top 39) 2
abbrev lR:Stmt:=gz (top 39) 3
abbrev m6:Stmt:=gz (top 39) 4
abbrev lW:Stmt:=gz (top 39) 7
abbrev lU:Stmt:=gz (top 39) 8
abbrev mi:Stmt:=gz (top 40) 0
abbrev mW:Stmt:=gz (top 43) 0
abbrev mH:Stmt:=gz (top 43) 1
abbrev m9:Stmt:=gz (top 43) 2
abbrev lN:Stmt:=gz (top 43) 3
abbrev ml:Stmt:=gz (top 49) 0
abbrev mG:Stmt:=gz (top 49) 1
abbrev lM:Stmt:=gz (top 49) 2
abbrev m8:Stmt:=gz (top 49) 3
abbrev mL:Stmt:=gz (top 49) 4
abbrev mC:Stmt:=gz (top 49) 5
abbrev lB:Stmt:=gz (top 49) 6
abbrev lQ:Stmt:=gz (top 49) 8
abbrev mS:Stmt:=gz (top 49) 11
abbrev mY:Stmt:=gz (top 56) 0
abbrev mR:Stmt:=gz (top 56) 1
abbrev mQ:Stmt:=gz (top 56) 2
abbrev kZ:Stmt:=gz (top 56) 3
abbrev kN:Stmt:=gz (top 56) 4
abbrev mt:Stmt:=gz (top 56) 5
abbrev kK:Stmt:=gz (top 56) 6
abbrev mZ:Stmt:=gz (top 56) 7
abbrev nD:Stmt:=gz (top 56) 8
abbrev mI:Stmt:=gz (top 56) 9
structure Ad where
 (c_MA c_L0 c_MB c_L1 c_L2 bG aY aZ bH bg bI bh bi bj bJ bK bL bn bM bN bO bP bQ bR bS bT bo bU bV bW bX bY bZ b7 b8 b9 f_LJ f_LY f_MC f_LH f_MD f_L4 f_K6 f_LR f_LG f_LI f_LK f_LO f_LE f_K5 f_LF f_KR f_L3 f_LL f_ME f_LN f_L6 f_L5 f_LS f_LX f_L7 f_L9 f_LU f_LP f_LV f_LZ f_L8 f_LW f_LM f_LT f_LQ f_law t_LJ k_LJ t_LT k_LT:AE)
 (cC cD cE cF cG cH cJ cK cL cM cN cO cP cQ cR cS cT cU cV cW cX cY cZ dc de dh di dj dm du dw d_LJ d_LY d_MC d_LH d_MD d_L4 d_K6 d_LR d_LG d_LI d_LK d_LO d_LE d_K5 d_LF d_KR d_L3 d_LL d_ME d_LN d_L6 d_L5 d_LS d_LX d_L7 d_L9 d_LU d_LP d_LV d_LZ d_L8 d_LW d_LM d_LT d_LQ d_law:AG)
structure Txt (K:Q4)(mg:AC)(a:Ad):Prop where
 dJ:DF K mg "in_order" lP a.f_LJ a.d_LJ ["words"]
 fO:DF K mg "pieces" lC a.f_LY a.d_LY ["text","length"]
 f8:DF K mg "greatest_divisor" kE a.f_MC a.d_MC ["one","other"]
 dR:DF K mg "fraction" mJ a.f_LH a.d_LH ["top","bottom"]
 f9:DF K mg "plus" mf a.f_MD a.d_MD ["one","other"]
 fT:DF K mg "below" lz a.f_L4 a.d_L4 ["one","other"]
 dN:DF K mg "need_same_kinds" mE a.f_K6 a.d_K6 ["one","other"]
 eX:DF K mg "reasons" kJ a.f_LR a.d_LR ["one","other"]
 d8:DF K mg "distance" mB a.f_LG a.d_LG ["one","other"]
 d9:DF K mg "has_only" kQ a.f_LI a.d_LI ["text","letters"]
 ff:DF K mg "is_kinds" mN a.f_LK a.d_LK ["thing"]
 dS:DF K mg "is_word" lT a.f_LO a.d_LO ["thing","kinds","most"]
 eI:DF K mg "is_letter" kU a.f_LE a.d_LE ["thing","kinds"]
 dI:DF K mg "need_kinds" nu a.f_K5 a.d_K5 ["thing"]
 eJ:DF K mg "need_word" kT a.f_LF a.d_LF ["thing","kinds","most"]
 dP:DF K mg "need_letter" mX a.f_KR a.d_KR ["thing","kinds"]
 fW:DF K mg "lacking_among" mv a.f_L3 a.d_L3 ["shorter","standing","kinds"]
 fD:DF K mg "first_unlike_word" mP a.f_LL a.d_LL ["one","other"]
 gc:DF K mg "same" mO a.f_ME a.d_ME ["one","other"]
 eY:DF K mg "is_name" lZ a.f_LN a.d_LN ["thing"]
 fX:DF K mg "lacks" lV a.f_L6 a.d_L6 ["text","word"]
 fU:DF K mg "fresh_words" lD a.f_L5 a.d_L5 ["lesser","longer"]
 fE:DF K mg "filled" lG a.f_LS a.d_LS ["lesser","longer","reason"]
 fF:DF K mg "opened" kP a.f_LX a.d_LX ["lesser","longer","kinds","reason"]
 dQ:DF K mg "_law_cell" mU a.f_L7 a.d_L7 ["_law_script","_law_k"]
 fY:DF K mg "_law_mixed" m7 a.f_L9 a.d_L9 ["_law_cell_here","_law_k"]
 fP:DF K mg "_law_kinds" mq a.f_LU a.d_LU ["_law_cell_here"]
 eZ:DF K mg "_law_letters" kL a.f_LP a.d_LP ["_law_way","_law_cell_here","_law_kinds_here","_law_size"]
 fQ:DF K mg "_law_rings" me a.f_LV a.d_LV ["_law_script","_law_kinds_here"]
 fG:DF K mg "_law_window" kH a.f_LZ a.d_LZ ["_law_text","_law_start","_law_size"]
 fZ:DF K mg "_law_walk" lK a.f_L8 a.d_L8 ["_law_text","_law_kinds_here","_law_cell_here","_law_longest"]
 fH:DF K mg "_law_short" kI a.f_LW a.d_LW ["_law_words","_law_most"]
 fI:DF K mg "_law_goes_on" lh a.f_LM a.d_LM ["_law_walk_here","_law_text","_law_ring","_law_cell_here","_law_most"]
 fg:DF K mg "_law_apart" ma a.f_LT a.d_LT ["_law_one","_law_other"]
 fJ:DF K mg "_law_ranked" lI a.f_LQ a.d_LQ ["_law_walks","_law_kinds_here","_law_names"]
 ge:DF K mg "law" ZmT a.f_law a.d_law ["_law_script"]
 dC:mg "Band"=some (.ref a.c_MA)
 ce:iI K a.c_MA "__init__" (.ref a.bG)
 cl_MA:Cls K a.c_MA
 m_L0:mg "Plain"=some (.ref a.c_L0)
 cr_L0:iI K a.c_L0 "__init__" (.ref a.bi)
 aL:Cls K a.c_L0
 bq:Mk K a.c_L0 a.bi
 aD:gW K a.c_L0 "kinds" a.aY
 aT:gW K a.c_L0 "text" a.aZ
 aE:gW K a.c_L0 "words" a.bg
 az:gW K a.c_L0 "laid_out" a.bH
 aH:gW K a.c_L0 "reach" a.bI
 aq:gW K a.c_L0 "lacking" a.bh
 au:gK K a.c_L0 "own_text"
 am:gK K a.c_L0 "own_kinds"
 aI:gK K a.c_L0 "own_lacking"
 aQ:gK K a.c_L0 "own_deeds"
 aM:gK K a.c_L0 "own_strips"
 ty_L0:∀ {H:Hp} {x dx:AE} {fs:List (Str×V)},H x=some (.ins a.c_L0 dx fs)->iH K H (.ref x) (.ref a.c_L0)
 m_MB:mg "Ring"=some (.ref a.c_MB)
 cr_MB:iI K a.c_MB "__init__" (.ref a.bj)
 ak:Cls K a.c_MB
 cf:Mk K a.c_MB a.bj
 ao:gW K a.c_MB "kinds" a.aY
 aW:gW K a.c_MB "text" a.aZ
 ai:gW K a.c_MB "words" a.bg
 cg:gW K a.c_MB "laid_out" a.bJ
 ci:gW K a.c_MB "reach" a.bL
 bc:gW K a.c_MB "root" a.bK
 aj:gW K a.c_MB "lacking" a.bh
 ah:gK K a.c_MB "own_text"
 ax:gK K a.c_MB "own_kinds"
 aN:gK K a.c_MB "own_lacking"
 aU:gK K a.c_MB "own_deeds"
 aR:gK K a.c_MB "own_strips"
 ty_MB:∀ {H:Hp} {x dx:AE} {fs:List (Str×V)},H x=some (.ins a.c_MB dx fs)->iH K H (.ref x) (.ref a.c_MB)
 m_L1:mg "Shelf"=some (.ref a.c_L1)
 cr_L1:iI K a.c_L1 "__init__" (.ref a.bn)
 aG:Cls K a.c_L1
 cj:Mk K a.c_L1 a.bn
 ck:gW K a.c_L1 "kinds" a.bM
 cn:gW K a.c_L1 "need_free" a.bN
 br:gW K a.c_L1 "lay" a.bO
 bt:gW K a.c_L1 "names" a.bP
 bv:gW K a.c_L1 "kept" a.bQ
 cq:gW K a.c_L1 "shown" a.bR
 cu:gW K a.c_L1 "put" a.bS
 cz:gW K a.c_L1 "ranked" a.bT
 aV:gK K a.c_L1 "own_text"
 aC:gK K a.c_L1 "own_kinds"
 aJ:gK K a.c_L1 "own_lacking"
 aS:gK K a.c_L1 "own_deeds"
 ae:gK K a.c_L1 "own_strips"
 ty_L1:∀ {H:Hp} {x dx:AE} {fs:List (Str×V)},H x=some (.ins a.c_L1 dx fs)->iH K H (.ref x) (.ref a.c_L1)
 m_L2:mg "Strip"=some (.ref a.c_L2)
 cr_L2:iI K a.c_L2 "__init__" (.ref a.bo)
 ac:Cls K a.c_L2
 bA:Mk K a.c_L2 a.bo
 aF:gW K a.c_L2 "kinds" a.aY
 ay:gW K a.c_L2 "text" a.aZ
 cA:gW K a.c_L2 "deeds" a.bV
 ba:gW K a.c_L2 "lacking" a.bU
 bf:gW K a.c_L2 "put" a.bW
 cB:gW K a.c_L2 "drop" a.bX
 bB:gW K a.c_L2 "back" a.bY
 bC:gW K a.c_L2 "grow" a.bZ
 bD:gW K a.c_L2 "shrink" a.b7
 bE:gW K a.c_L2 "change" a.b8
 bF:gW K a.c_L2 "copied" a.b9
 aa:gK K a.c_L2 "own_text"
 ag:gK K a.c_L2 "own_kinds"
 af:gK K a.c_L2 "own_lacking"
 ad:gK K a.c_L2 "own_deeds"
 aO:gK K a.c_L2 "own_strips"
 ty_L2:∀ {H:Hp} {x dx:AE} {fs:List (Str×V)},H x=some (.ins a.c_L2 dx fs)->iH K H (.ref x) (.ref a.c_L2)
 dM:MF K "__init__" "Band.__init__" kS a.bG a.cC ["self","text","kinds"]
 dE:MF K "kinds" "Band.kinds" mV a.aY a.cD ["self"]
 eK:MF K "text" "Band.text" k9 a.aZ a.cE ["self"]
 eO:MF K "laid_out" "Band.laid_out" lR a.bH a.cF ["self","length"]
 dF:MF K "words" "Band.words" m6 a.bg a.cG ["self","length"]
 fK:MF K "reach" "Band.reach" lW a.bI a.cH ["self"]
 dG:MF K "lacking" "Band.lacking" lU a.bh a.cJ ["self"]
 eQ:MF K "__init__" "Plain.__init__" mi a.bi a.cK ["self","text","kinds"]
 fR:MF K "__init__" "Ring.__init__" mW a.bj a.cL ["self","text","kinds"]
 eP:MF K "laid_out" "Ring.laid_out" mH a.bJ a.cM ["self","length"]
 eL:MF K "root" "Ring.root" m9 a.bK a.cN ["self"]
 fL:MF K "reach" "Ring.reach" lN a.bL a.cO ["self"]
 fM:MF K "__init__" "Shelf.__init__" ml a.bn a.cP ["self","kinds"]
 fm:MF K "kinds" "Shelf.kinds" mG a.bM a.cQ ["self"]
 dU:MF K "need_free" "Shelf.need_free" lM a.bN a.cR ["self","name"]
 fk:MF K "lay" "Shelf.lay" m8 a.bO a.cS ["self","name","strip"]
 eG:MF K "names" "Shelf.names" mL a.bP a.cT ["self"]
 eS:MF K "kept" "Shelf.kept" mC a.bQ a.cU ["self","name"]
 fq:MF K "shown" "Shelf.shown" lB a.bR a.cV ["self","name"]
 fS:MF K "put" "Shelf.put" lQ a.bS a.cW ["self","name","letter"]
 fh:MF K "ranked" "Shelf.ranked" mS a.bT a.cX ["self","strip"]
 eT:MF K "__init__" "Strip.__init__" mY a.bo a.cY ["self","kinds"]
 dH:MF K "lacking" "Strip.lacking" mR a.bU a.cZ ["self"]
 fz:MF K "deeds" "Strip.deeds" mQ a.bV a.dc ["self"]
 eM:MF K "put" "Strip.put" kZ a.bW a.de ["self","letter"]
 fN:MF K "drop" "Strip.drop" kN a.bX a.dh ["self"]
 eU:MF K "back" "Strip.back" mt a.bY a.di ["self"]
 eV:MF K "grow" "Strip.grow" kK a.bZ a.dj ["self","longer"]
 dW:MF K "shrink" "Strip.shrink" mZ a.b7 a.dm ["self","lesser"]
 dZ:MF K "change" "Strip.change" nD a.b8 a.du ["self","text","came","went"]
 d0:MF K "copied" "Strip.copied" mI a.b9 a.dw ["self"]
 dD:mg "len"=none
 dO:mg "range"=none
 d7:mg "isinstance"=none
 gg:mg "all"=none
 gh:mg "max"=none
 fC:mg "list"=none
 fV:mg "set"=none
 dL:mg "sorted"=none
 gf:mg "str"=none
 aX:mg "ValueError"=none
 gj:mg "zip"=none
 c_KE:∃t,mg "SMALL_LETTERS"=some (.str (Str.ofString "abcdefghijklmnopqrstuvwxyz") t)
 c_KW:∃t,mg "MOST_KINDS"=some (.int 4 t)
 c_KC:∃t,mg "MOST_IN_STRIP"=some (.int 40 t)
 c_KV:∃t,mg "MOST_ASKED"=some (.int 60 t)
 c_KH:∃t,mg "MOST_IN_NAME"=some (.int 8 t)
 c_KI:∃t,mg "MOST_IN_RING"=some (.int 20 t)
 bl:∀(s:AF) (u:Value),BindsTo s a.d_law ⟨[u],[]⟩ [("_law_script",u)]
structure TL (K:Q4)(mg:AC)(base:Heap)(a:Ad)(tb:Str->AE×AE):Prop extends Txt K mg a where
 L_in_order:iA base mg a.k_LJ a.t_LJ
 cd_LJ:a.d_LJ.code=.ref a.k_LJ
 e_LJ:a.t_LJ=(tb "in_order").2
 L_lapart:iA base mg a.k_LT a.t_LT
 cd_LT:a.d_LT.code=.ref a.k_LT
 e_LT:a.t_LT=(tb "_law_apart").2
def lenA {P:AD->Prop}(h:∀a,P [a]):∀us:AD,us.length=1->P us:=by
 intro us ee;cases us with
 | nil=>cases ee
 | cons a us=>
  cases us with
  | nil=>exact h a
  | cons _ _=>cases ee
local macro_rules | `(tactic| walk_at "b1") => `(tactic| (intro _ _ _ _ _ _; refine lenA ?_; intros; rfl))
def lenB {P:AD->Prop}(h:∀a b,P [a,b]):∀us:AD,us.length=2->P us:=by
 intro us ee;cases us with
 | nil=>cases ee
 | cons a us=>
  cases us with
  | nil=>cases ee
  | cons b us=>
   cases us with
   | nil=>exact h a b
   | cons _ _=>cases ee
local macro_rules | `(tactic| walk_at "b2") => `(tactic| (intro _ _ _ _ _ _; refine lenB ?_; intros; rfl))
def lenC {P:AD->Prop}(h:∀a b c,P [a,b,c]):∀us:AD,us.length=3->P us:=by
 intro us ee;cases us with
 | nil=>cases ee
 | cons a us=>
  cases us with
  | nil=>cases ee
  | cons b us=>
   cases us with
   | nil=>cases ee
   | cons c us=>
    cases us with
    | nil=>exact h a b c
    | cons _ _=>cases ee
local macro_rules | `(tactic| walk_at "b3") => `(tactic| (intro _ _ _ _ _ _; refine lenC ?_; intros; rfl))
def lenD {P:AD->Prop}(h:∀a b c d,P [a,b,c,d]):∀us:AD,us.length=4->P us:=by
 intro us ee;cases us with
 | nil=>cases ee
 | cons a us=>
  cases us with
  | nil=>cases ee
  | cons b us=>
   cases us with
   | nil=>cases ee
   | cons c us=>
    cases us with
    | nil=>cases ee
    | cons d us=>
     cases us with
     | nil=>exact h a b c d
     | cons _ _=>cases ee
local macro_rules | `(tactic| walk_at "b4") => `(tactic| (intro _ _ _ _ _ _; refine lenD ?_; intros; rfl))
def lenE {P:AD->Prop}(h:∀a b c d e,P [a,b,c,d,e]):∀us:AD,us.length=5->P us:=by
 intro us ee;cases us with
 | nil=>cases ee
 | cons a us=>
  cases us with
  | nil=>cases ee
  | cons b us=>
   cases us with
   | nil=>cases ee
   | cons c us=>
    cases us with
    | nil=>cases ee
    | cons d us=>
     cases us with
     | nil=>cases ee
     | cons e us=>
      cases us with
      | nil=>exact h a b c d e
      | cons _ _=>cases ee
local macro_rules | `(tactic| walk_at "b5") => `(tactic| (intro _ _ _ _ _ _; refine lenE ?_; intros; rfl))
theorem txt_mk (X:K.In h)(G:h.Ns mainGlobals mg){bG aY aZ bH bg bI bh bi bj bJ bK bL bn bM bN bO bP bQ bR bS bT bo bU bV bW bX bY bZ b7 b8 b9 c_MA c_L0 c_MB c_L1 c_L2 f_LJ f_LY f_MC f_LH f_MD f_L4 f_K6 f_LR f_LG f_LI f_LK f_LO f_LE f_K5 f_LF f_KR f_L3 f_LL f_ME f_LN f_L6 f_L5 f_LS f_LX f_L7 f_L9 f_LU f_LP f_LV f_LZ f_L8 f_LW f_LM f_LT f_LQ f_law t_LJ k_LJ t_LT k_LT:AE}{cC cD cE cF cG cH cJ cK cL cM cN cO cP cQ cR cS cT cU cV cW cX cY cZ dc de dh di dj dm du dw d_LJ d_LY d_MC d_LH d_MD d_L4 d_K6 d_LR d_LG d_LI d_LK d_LO d_LE d_K5 d_LF d_KR d_L3 d_LL d_ME d_LN d_L6 d_L5 d_LS d_LX d_L7 d_L9 d_LU d_LP d_LV d_LZ d_L8 d_LW d_LM d_LT d_LQ d_law:AG}{tk_KE tk_KW tk_KC tk_KV tk_KH tk_KI:Tok}
  (ow_hn:specialIn K (.builtin "object.__class__") "__get__"=some (some (.builtin "getset_descriptor.__get__")))
  (ow_tk:takesIn K (.builtin "object.__class__")=some true)
  (a_MA:nsIn K mainGlobals "Band"=some (some (.ref c_MA)))
  (pg_MA:plainGet K c_MA Str.empty=true)
  (hd_MA:hasDictIn K c_MA=true)
  (po_MA:plainOver K c_MA=true)
  (sa_MA:findIn K (.ref c_MA) "__setattr__"=some (some (.builtin "object.__setattr__")))
  (rs_MA:specialIn K (.ref c_MA) "__getattribute__"=some (some (.builtin "type.__getattribute__")))
  (rr_MA:readsIn K c_MA (.type "type")=true)
  (rf_MA:findCls K (.ref c_MA) (.type "type") "__init__"=some (.val (.ref bG)))
  (a_L0:nsIn K mainGlobals "Plain"=some (some (.ref c_L0)))
  (pg_L0:plainGet K c_L0 Str.empty=true)
  (hd_L0:hasDictIn K c_L0=true)
  (po_L0:plainOver K c_L0=true)
  (sa_L0:findIn K (.ref c_L0) "__setattr__"=some (some (.builtin "object.__setattr__")))
  (rs_L0:specialIn K (.ref c_L0) "__getattribute__"=some (some (.builtin "type.__getattribute__")))
  (rr_L0:readsIn K c_L0 (.type "type")=true)
  (rf_L0:findCls K (.ref c_L0) (.type "type") "__init__"=some (.val (.ref bi)))
  (bq:makesIn K c_L0=true)
  (in_L0:findIn K (.ref c_L0) "__init__"=some (some (.ref bi)))
  (kc_L0:keepIn K (.ref c_L0)=true)
  (ha_L0:findIn K (.ref c_L0) "__class__"=some (some (.builtin "object.__class__")))
  (mo_L0:mroIn K c_L0 (.type "object")=some true)
  (aD:findIn K (.ref c_L0) "kinds"=some (some (.ref aY)))
  (aT:findIn K (.ref c_L0) "text"=some (some (.ref aZ)))
  (aE:findIn K (.ref c_L0) "words"=some (some (.ref bg)))
  (az:findIn K (.ref c_L0) "laid_out"=some (some (.ref bH)))
  (aH:findIn K (.ref c_L0) "reach"=some (some (.ref bI)))
  (aq:findIn K (.ref c_L0) "lacking"=some (some (.ref bh)))
  (au:findIn K (.ref c_L0) "own_text"=some none)
  (am:findIn K (.ref c_L0) "own_kinds"=some none)
  (aI:findIn K (.ref c_L0) "own_lacking"=some none)
  (aQ:findIn K (.ref c_L0) "own_deeds"=some none)
  (aM:findIn K (.ref c_L0) "own_strips"=some none)
  (a_MB:nsIn K mainGlobals "Ring"=some (some (.ref c_MB)))
  (pg_MB:plainGet K c_MB Str.empty=true)
  (hd_MB:hasDictIn K c_MB=true)
  (po_MB:plainOver K c_MB=true)
  (sa_MB:findIn K (.ref c_MB) "__setattr__"=some (some (.builtin "object.__setattr__")))
  (rs_MB:specialIn K (.ref c_MB) "__getattribute__"=some (some (.builtin "type.__getattribute__")))
  (rr_MB:readsIn K c_MB (.type "type")=true)
  (rf_MB:findCls K (.ref c_MB) (.type "type") "__init__"=some (.val (.ref bj)))
  (cf:makesIn K c_MB=true)
  (in_MB:findIn K (.ref c_MB) "__init__"=some (some (.ref bj)))
  (kc_MB:keepIn K (.ref c_MB)=true)
  (ha_MB:findIn K (.ref c_MB) "__class__"=some (some (.builtin "object.__class__")))
  (mo_MB:mroIn K c_MB (.type "object")=some true)
  (ao:findIn K (.ref c_MB) "kinds"=some (some (.ref aY)))
  (aW:findIn K (.ref c_MB) "text"=some (some (.ref aZ)))
  (ai:findIn K (.ref c_MB) "words"=some (some (.ref bg)))
  (cg:findIn K (.ref c_MB) "laid_out"=some (some (.ref bJ)))
  (ci:findIn K (.ref c_MB) "reach"=some (some (.ref bL)))
  (bc:findIn K (.ref c_MB) "root"=some (some (.ref bK)))
  (aj:findIn K (.ref c_MB) "lacking"=some (some (.ref bh)))
  (ah:findIn K (.ref c_MB) "own_text"=some none)
  (ax:findIn K (.ref c_MB) "own_kinds"=some none)
  (aN:findIn K (.ref c_MB) "own_lacking"=some none)
  (aU:findIn K (.ref c_MB) "own_deeds"=some none)
  (aR:findIn K (.ref c_MB) "own_strips"=some none)
  (a_L1:nsIn K mainGlobals "Shelf"=some (some (.ref c_L1)))
  (pg_L1:plainGet K c_L1 Str.empty=true)
  (hd_L1:hasDictIn K c_L1=true)
  (po_L1:plainOver K c_L1=true)
  (sa_L1:findIn K (.ref c_L1) "__setattr__"=some (some (.builtin "object.__setattr__")))
  (rs_L1:specialIn K (.ref c_L1) "__getattribute__"=some (some (.builtin "type.__getattribute__")))
  (rr_L1:readsIn K c_L1 (.type "type")=true)
  (rf_L1:findCls K (.ref c_L1) (.type "type") "__init__"=some (.val (.ref bn)))
  (cj:makesIn K c_L1=true)
  (in_L1:findIn K (.ref c_L1) "__init__"=some (some (.ref bn)))
  (kc_L1:keepIn K (.ref c_L1)=true)
  (ha_L1:findIn K (.ref c_L1) "__class__"=some (some (.builtin "object.__class__")))
  (mo_L1:mroIn K c_L1 (.type "object")=some true)
  (ck:findIn K (.ref c_L1) "kinds"=some (some (.ref bM)))
  (cn:findIn K (.ref c_L1) "need_free"=some (some (.ref bN)))
  (br:findIn K (.ref c_L1) "lay"=some (some (.ref bO)))
  (bt:findIn K (.ref c_L1) "names"=some (some (.ref bP)))
  (bv:findIn K (.ref c_L1) "kept"=some (some (.ref bQ)))
  (cq:findIn K (.ref c_L1) "shown"=some (some (.ref bR)))
  (cu:findIn K (.ref c_L1) "put"=some (some (.ref bS)))
  (cz:findIn K (.ref c_L1) "ranked"=some (some (.ref bT)))
  (aV:findIn K (.ref c_L1) "own_text"=some none)
  (aC:findIn K (.ref c_L1) "own_kinds"=some none)
  (aJ:findIn K (.ref c_L1) "own_lacking"=some none)
  (aS:findIn K (.ref c_L1) "own_deeds"=some none)
  (ae:findIn K (.ref c_L1) "own_strips"=some none)
  (a_L2:nsIn K mainGlobals "Strip"=some (some (.ref c_L2)))
  (pg_L2:plainGet K c_L2 Str.empty=true)
  (hd_L2:hasDictIn K c_L2=true)
  (po_L2:plainOver K c_L2=true)
  (sa_L2:findIn K (.ref c_L2) "__setattr__"=some (some (.builtin "object.__setattr__")))
  (rs_L2:specialIn K (.ref c_L2) "__getattribute__"=some (some (.builtin "type.__getattribute__")))
  (rr_L2:readsIn K c_L2 (.type "type")=true)
  (rf_L2:findCls K (.ref c_L2) (.type "type") "__init__"=some (.val (.ref bo)))
  (bA:makesIn K c_L2=true)
  (in_L2:findIn K (.ref c_L2) "__init__"=some (some (.ref bo)))
  (kc_L2:keepIn K (.ref c_L2)=true)
  (ha_L2:findIn K (.ref c_L2) "__class__"=some (some (.builtin "object.__class__")))
  (mo_L2:mroIn K c_L2 (.type "object")=some true)
  (aF:findIn K (.ref c_L2) "kinds"=some (some (.ref aY)))
  (ay:findIn K (.ref c_L2) "text"=some (some (.ref aZ)))
  (cA:findIn K (.ref c_L2) "deeds"=some (some (.ref bV)))
  (ba:findIn K (.ref c_L2) "lacking"=some (some (.ref bU)))
  (bf:findIn K (.ref c_L2) "put"=some (some (.ref bW)))
  (cB:findIn K (.ref c_L2) "drop"=some (some (.ref bX)))
  (bB:findIn K (.ref c_L2) "back"=some (some (.ref bY)))
  (bC:findIn K (.ref c_L2) "grow"=some (some (.ref bZ)))
  (bD:findIn K (.ref c_L2) "shrink"=some (some (.ref b7)))
  (bE:findIn K (.ref c_L2) "change"=some (some (.ref b8)))
  (bF:findIn K (.ref c_L2) "copied"=some (some (.ref b9)))
  (aa:findIn K (.ref c_L2) "own_text"=some none)
  (ag:findIn K (.ref c_L2) "own_kinds"=some none)
  (af:findIn K (.ref c_L2) "own_lacking"=some none)
  (ad:findIn K (.ref c_L2) "own_deeds"=some none)
  (aO:findIn K (.ref c_L2) "own_strips"=some none)
  (AL:MG K "__init__" "Band.__init__" kS bG cC)
  (AM:MG K "kinds" "Band.kinds" mV aY cD)
  (AR:MG K "text" "Band.text" k9 aZ cE)
  (AO:MG K "laid_out" "Band.laid_out" lR bH cF)
  (AS:MG K "words" "Band.words" m6 bg cG)
  (AQ:MG K "reach" "Band.reach" lW bI cH)
  (AN:MG K "lacking" "Band.lacking" lU bh cJ)
  (AT:MG K "__init__" "Plain.__init__" mi bi cK)
  (AU:MG K "__init__" "Ring.__init__" mW bj cL)
  (AV:MG K "laid_out" "Ring.laid_out" mH bJ cM)
  (AX:MG K "root" "Ring.root" m9 bK cN)
  (AW:MG K "reach" "Ring.reach" lN bL cO)
  (AY:MG K "__init__" "Shelf.__init__" ml bn cP)
  (Aa:MG K "kinds" "Shelf.kinds" mG bM cQ)
  (Ae:MG K "need_free" "Shelf.need_free" lM bN cR)
  (Ab:MG K "lay" "Shelf.lay" m8 bO cS)
  (Ac:MG K "names" "Shelf.names" mL bP cT)
  (AZ:MG K "kept" "Shelf.kept" mC bQ cU)
  (Ah:MG K "shown" "Shelf.shown" lB bR cV)
  (Af:MG K "put" "Shelf.put" lQ bS cW)
  (Ag:MG K "ranked" "Shelf.ranked" mS bT cX)
  (Ao:MG K "__init__" "Strip.__init__" mY bo cY)
  (Ap:MG K "lacking" "Strip.lacking" mR bU cZ)
  (Al:MG K "deeds" "Strip.deeds" mQ bV dc)
  (Aq:MG K "put" "Strip.put" kZ bW de)
  (Am:MG K "drop" "Strip.drop" kN bX dh)
  (Ai:MG K "back" "Strip.back" mt bY di)
  (An:MG K "grow" "Strip.grow" kK bZ dj)
  (Ar:MG K "shrink" "Strip.shrink" mZ b7 dm)
  (Aj:MG K "change" "Strip.change" nD b8 du)
  (Ak:MG K "copied" "Strip.copied" mI b9 dw)
  (dJ:DG K "in_order" lP f_LJ d_LJ)
  (fO:DG K "pieces" lC f_LY d_LY)
  (f8:DG K "greatest_divisor" kE f_MC d_MC)
  (dR:DG K "fraction" mJ f_LH d_LH)
  (f9:DG K "plus" mf f_MD d_MD)
  (fT:DG K "below" lz f_L4 d_L4)
  (dN:DG K "need_same_kinds" mE f_K6 d_K6)
  (eX:DG K "reasons" kJ f_LR d_LR)
  (d8:DG K "distance" mB f_LG d_LG)
  (d9:DG K "has_only" kQ f_LI d_LI)
  (ff:DG K "is_kinds" mN f_LK d_LK)
  (dS:DG K "is_word" lT f_LO d_LO)
  (eI:DG K "is_letter" kU f_LE d_LE)
  (dI:DG K "need_kinds" nu f_K5 d_K5)
  (eJ:DG K "need_word" kT f_LF d_LF)
  (dP:DG K "need_letter" mX f_KR d_KR)
  (fW:DG K "lacking_among" mv f_L3 d_L3)
  (fD:DG K "first_unlike_word" mP f_LL d_LL)
  (gc:DG K "same" mO f_ME d_ME)
  (eY:DG K "is_name" lZ f_LN d_LN)
  (fX:DG K "lacks" lV f_L6 d_L6)
  (fU:DG K "fresh_words" lD f_L5 d_L5)
  (fE:DG K "filled" lG f_LS d_LS)
  (fF:DG K "opened" kP f_LX d_LX)
  (dQ:DG K "_law_cell" mU f_L7 d_L7)
  (fY:DG K "_law_mixed" m7 f_L9 d_L9)
  (fP:DG K "_law_kinds" mq f_LU d_LU)
  (eZ:DG K "_law_letters" kL f_LP d_LP)
  (fQ:DG K "_law_rings" me f_LV d_LV)
  (fG:DG K "_law_window" kH f_LZ d_LZ)
  (fZ:DG K "_law_walk" lK f_L8 d_L8)
  (fH:DG K "_law_short" kI f_LW d_LW)
  (fI:DG K "_law_goes_on" lh f_LM d_LM)
  (fg:DG K "_law_apart" ma f_LT d_LT)
  (fJ:DG K "_law_ranked" lI f_LQ d_LQ)
  (ge:DG K "law" ZmT f_law d_law)
  (dD:nsIn K mainGlobals "len"=some none)
  (dO:nsIn K mainGlobals "range"=some none)
  (d7:nsIn K mainGlobals "isinstance"=some none)
  (gg:nsIn K mainGlobals "all"=some none)
  (gh:nsIn K mainGlobals "max"=some none)
  (fC:nsIn K mainGlobals "list"=some none)
  (fV:nsIn K mainGlobals "set"=some none)
  (dL:nsIn K mainGlobals "sorted"=some none)
  (gf:nsIn K mainGlobals "str"=some none)
  (aX:nsIn K mainGlobals "ValueError"=some none)
  (gj:nsIn K mainGlobals "zip"=some none)
  (c_KE:nsIn K mainGlobals "SMALL_LETTERS"=some (some (.str (Str.ofString "abcdefghijklmnopqrstuvwxyz") tk_KE)))
  (c_KW:nsIn K mainGlobals "MOST_KINDS"=some (some (.int 4 tk_KW)))
  (c_KC:nsIn K mainGlobals "MOST_IN_STRIP"=some (some (.int 40 tk_KC)))
  (c_KV:nsIn K mainGlobals "MOST_ASKED"=some (some (.int 60 tk_KV)))
  (c_KH:nsIn K mainGlobals "MOST_IN_NAME"=some (some (.int 8 tk_KH)))
  (c_KI:nsIn K mainGlobals "MOST_IN_RING"=some (some (.int 20 tk_KI))):∃a,Txt K mg a/\a.t_LJ=t_LJ/\a.k_LJ=k_LJ/\a.t_LT=t_LT/\a.k_LT=k_LT:=by
 obtain⟨_,_,_,_,_,_,_,_,_,rfl,_⟩:=id ge.2.ex;refine⟨{ c_MA,c_L0,c_MB,c_L1,c_L2,bG,cC,aY,cD,aZ,cE,bH,cF,bg,cG,bI,cH,bh,cJ,bi,cK,bj,cL,bJ,cM,bK,cN,bL,cO,bn,cP,bM,cQ,bN,cR,bO,cS,bP,cT,bQ,cU,bR,cV,bS,cW,bT,cX,bo,cY,bU,cZ,bV,dc,bW,de,bX,dh,bY,di,bZ,dj,b7,dm,b8,du,b9,dw,f_LJ,d_LJ,f_LY,d_LY,f_MC,d_MC,f_LH,d_LH,f_MD,d_MD,f_L4,d_L4,f_K6,d_K6,f_LR,d_LR,f_LG,d_LG,f_LI,d_LI,f_LK,d_LK,f_LO,d_LO,f_LE,d_LE,f_K5,d_K5,f_LF,d_LF,f_KR,d_KR,f_L3,d_L3,f_LL,d_LL,f_ME,d_ME,f_LN,d_LN,f_L6,d_L6,f_L5,d_L5,f_LS,d_LS,f_LX,d_LX,f_L7,d_L7,f_L9,d_L9,f_LU,d_LU,f_LP,d_LP,f_LV,d_LV,f_LZ,d_LZ,f_L8,d_L8,f_LW,d_LW,f_LM,d_LM,f_LT,d_LT,f_LQ,d_LQ,f_law,t_LJ,k_LJ,t_LT,k_LT,d_law:=_ },{ dJ:=Zbg X G dJ (by walk_at "b1"),fO:=Zbg X G fO (by walk_at "b2"),f8:=Zbg X G f8 (by walk_at "b2"),dR:=Zbg X G dR (by walk_at "b2"),f9:=Zbg X G f9 (by walk_at "b2"),fT:=Zbg X G fT (by walk_at "b2"),dN:=Zbg X G dN (by walk_at "b2"),eX:=Zbg X G eX (by walk_at "b2"),d8:=Zbg X G d8 (by walk_at "b2"),d9:=Zbg X G d9 (by walk_at "b2"),ff:=Zbg X G ff (by walk_at "b1"),dS:=Zbg X G dS (by walk_at "b3"),eI:=Zbg X G eI (by walk_at "b2"),dI:=Zbg X G dI (by walk_at "b1"),eJ:=Zbg X G eJ (by walk_at "b3"),dP:=Zbg X G dP (by walk_at "b2"),fW:=Zbg X G fW (by walk_at "b3"),fD:=Zbg X G fD (by walk_at "b2"),gc:=Zbg X G gc (by walk_at "b2"),eY:=Zbg X G eY (by walk_at "b1"),fX:=Zbg X G fX (by walk_at "b2"),fU:=Zbg X G fU (by walk_at "b2"),fE:=Zbg X G fE (by walk_at "b3"),fF:=Zbg X G fF (by walk_at "b4"),dQ:=Zbg X G dQ (by walk_at "b2"),fY:=Zbg X G fY (by walk_at "b2"),fP:=Zbg X G fP (by walk_at "b1"),eZ:=Zbg X G eZ (by walk_at "b4"),fQ:=Zbg X G fQ (by walk_at "b2"),fG:=Zbg X G fG (by walk_at "b3"),fZ:=Zbg X G fZ (by walk_at "b4"),fH:=Zbg X G fH (by walk_at "b2"),fI:=Zbg X G fI (by walk_at "b5"),fg:=Zbg X G fg (by walk_at "b2"),fJ:=Zbg X G fJ (by walk_at "b3"),ge:=Zbg X G ge (by walk_at "b1"),dC:=YCO X G a_MA,ce:=⟨rs_MA,rr_MA,rf_MA,rfl⟩,cl_MA:=⟨pg_MA,hd_MA,po_MA,sa_MA⟩,m_L0:=YCO X G a_L0,cr_L0:=⟨rs_L0,rr_L0,rf_L0,rfl⟩,aL:=⟨pg_L0,hd_L0,po_L0,sa_L0⟩,bq:=⟨bq,in_L0,AT.2,kc_L0⟩,aD:=⟨aD,AM.2,AM.1.kp⟩,aT:=⟨aT,AR.2,AR.1.kp⟩,aE:=⟨aE,AS.2,AS.1.kp⟩,az:=⟨az,AO.2,AO.1.kp⟩,aH:=⟨aH,AQ.2,AQ.1.kp⟩,aq:=⟨aq,AN.2,AN.1.kp⟩,au,am,aI,aQ,aM,ty_L0:=λe=>.ins e ⟨pg_L0,hd_L0,po_L0,sa_L0⟩ ha_L0 ow_hn ow_tk mo_L0,m_MB:=YCO X G a_MB,cr_MB:=⟨rs_MB,rr_MB,rf_MB,rfl⟩,ak:=⟨pg_MB,hd_MB,po_MB,sa_MB⟩,cf:=⟨cf,in_MB,AU.2,kc_MB⟩,ao:=⟨ao,AM.2,AM.1.kp⟩,aW:=⟨aW,AR.2,AR.1.kp⟩,ai:=⟨ai,AS.2,AS.1.kp⟩,cg:=⟨cg,AV.2,AV.1.kp⟩,ci:=⟨ci,AW.2,AW.1.kp⟩,bc:=⟨bc,AX.2,AX.1.kp⟩,aj:=⟨aj,AN.2,AN.1.kp⟩,ah,ax,aN,aU,aR,ty_MB:=λe=>.ins e ⟨pg_MB,hd_MB,po_MB,sa_MB⟩ ha_MB ow_hn ow_tk mo_MB,m_L1:=YCO X G a_L1,cr_L1:=⟨rs_L1,rr_L1,rf_L1,rfl⟩,aG:=⟨pg_L1,hd_L1,po_L1,sa_L1⟩,cj:=⟨cj,in_L1,AY.2,kc_L1⟩,ck:=⟨ck,Aa.2,Aa.1.kp⟩,cn:=⟨cn,Ae.2,Ae.1.kp⟩,br:=⟨br,Ab.2,Ab.1.kp⟩,bt:=⟨bt,Ac.2,Ac.1.kp⟩,bv:=⟨bv,AZ.2,AZ.1.kp⟩,cq:=⟨cq,Ah.2,Ah.1.kp⟩,cu:=⟨cu,Af.2,Af.1.kp⟩,cz:=⟨cz,Ag.2,Ag.1.kp⟩,aV,aC,aJ,aS,ae,ty_L1:=λe=>.ins e ⟨pg_L1,hd_L1,po_L1,sa_L1⟩ ha_L1 ow_hn ow_tk mo_L1,m_L2:=YCO X G a_L2,cr_L2:=⟨rs_L2,rr_L2,rf_L2,rfl⟩,ac:=⟨pg_L2,hd_L2,po_L2,sa_L2⟩,bA:=⟨bA,in_L2,Ao.2,kc_L2⟩,aF:=⟨aF,AM.2,AM.1.kp⟩,ay:=⟨ay,AR.2,AR.1.kp⟩,cA:=⟨cA,Al.2,Al.1.kp⟩,ba:=⟨ba,Ap.2,Ap.1.kp⟩,bf:=⟨bf,Aq.2,Aq.1.kp⟩,cB:=⟨cB,Am.2,Am.1.kp⟩,bB:=⟨bB,Ai.2,Ai.1.kp⟩,bC:=⟨bC,An.2,An.1.kp⟩,bD:=⟨bD,Ar.2,Ar.1.kp⟩,bE:=⟨bE,Aj.2,Aj.1.kp⟩,bF:=⟨bF,Ak.2,Ak.1.kp⟩,aa,ag,af,ad,aO,ty_L2:=λe=>.ins e ⟨pg_L2,hd_L2,po_L2,sa_L2⟩ ha_L2 ow_hn ow_tk mo_L2,dM:=Zbt AL (by walk_at "b3"),dE:=Zbt AM (by walk_at "b1"),eK:=Zbt AR (by walk_at "b1"),eO:=Zbt AO (by walk_at "b2"),dF:=Zbt AS (by walk_at "b2"),fK:=Zbt AQ (by walk_at "b1"),dG:=Zbt AN (by walk_at "b1"),eQ:=Zbt AT (by walk_at "b3"),fR:=Zbt AU (by walk_at "b3"),eP:=Zbt AV (by walk_at "b2"),eL:=Zbt AX (by walk_at "b1"),fL:=Zbt AW (by walk_at "b1"),fM:=Zbt AY (by walk_at "b2"),fm:=Zbt Aa (by walk_at "b1"),dU:=Zbt Ae (by walk_at "b2"),fk:=Zbt Ab (by walk_at "b3"),eG:=Zbt Ac (by walk_at "b1"),eS:=Zbt AZ (by walk_at "b2"),fq:=Zbt Ah (by walk_at "b2"),fS:=Zbt Af (by walk_at "b3"),fh:=Zbt Ag (by walk_at "b2"),eT:=Zbt Ao (by walk_at "b2"),dH:=Zbt Ap (by walk_at "b1"),fz:=Zbt Al (by walk_at "b1"),eM:=Zbt Aq (by walk_at "b2"),fN:=Zbt Am (by walk_at "b1"),eU:=Zbt Ai (by walk_at "b1"),eV:=Zbt An (by walk_at "b2"),dW:=Zbt Ar (by walk_at "b2"),dZ:=Zbt Aj (by walk_at "b4"),d0:=Zbt Ak (by walk_at "b1"),dD:=YBc X G dD,dO:=YBc X G dO,d7:=YBc X G d7,gg:=YBc X G gg,gh:=YBc X G gh,fC:=YBc X G fC,fV:=YBc X G fV,dL:=YBc X G dL,gf:=YBc X G gf,aX:=YBc X G aX,gj:=YBc X G gj,c_KE:=⟨_,YCO X G c_KE⟩,c_KW:=⟨_,YCO X G c_KW⟩,c_KC:=⟨_,YCO X G c_KC⟩,c_KV:=⟨_,YCO X G c_KV⟩,c_KH:=⟨_,YCO X G c_KH⟩,c_KI:=⟨_,YCO X G c_KI⟩,bl:=λs u=>.of_eq rfl },rfl,rfl,rfl,rfl⟩
end Pk94
namespace Pk94
open PySem L2
noncomputable def iK:Pos:=⟨42,29,42,59⟩
noncomputable def lq:Str:="in_order.<locals>.<lambda>"
def Zps:Pos:=⟨404,34,404,82⟩
noncomputable def lqM:Str:="_law_apart.<locals>.<lambda>"
noncomputable def LET:Q11:=[97,98,99,100,101,102,103,104,105,106,107,108,109,110,111,112,113,114,115,116,117,118,119,120,121,122]
def isk (l:Q11):Bool:=decide (1<=l.length)&&decide (l.length<=4)&&(l.all λc=>LET.contains c)&&decide (gL l=Zbn (ddl (gL l)))
noncomputable def isw (l m:Q11)(most:Int):Bool:=decide ((l.length:Int)<=most)&&l.all λc=>m.contains c
def Ze4:Q11->Q11->Bool
 | _,[]=>true
 | last,c::r=>decide (c∈LET)&&decide (last < [c])&&Ze4 [c] r
def Zhs (l:Q11):Bool:=decide (1<=l.length)&&decide (l.length<=4)&&Ze4 [] l
def Zju {a b:Nat}:([a] < [b])↔a<b:=by
 constructor
 .intro h;cases h with
  | rel h=>exact h
  | cons h=>cases h
 .exact λh=>List.Lex.rel h
theorem Zht:∀(l:Q11) (d:Nat),Ze4 [d] l=true↔(∀c∈l,c∈LET)/\(d::l).Pairwise (· < ·)
 | [],d=>by simp[Ze4]
 | c::r,d=>by
  rw[Ze4,YAY,YAY,decide_eq_true_iff,decide_eq_true_iff,Zju,Zht r c];simp only[YAz,YAJ,forall_eq_or_imp];constructor
  .rintro⟨⟨h1,h2⟩,h3,h4,h5⟩;exact⟨⟨h1,h3⟩,⟨h2,λx hx=>Nat.lt_trans h2 (h4 x hx)⟩,h4,h5⟩
  .rintro⟨⟨h1,h3⟩,⟨h2,_⟩,h4,h5⟩;exact⟨⟨h1,h2⟩,h3,h4,h5⟩
def ZdT (l:Q11):Ze4 [] l=true↔(∀c∈l,c∈LET)/\l.Pairwise (· < ·):=by
 cases l with
 | nil=>simp[Ze4]
 | cons c r=>
  rw[Ze4,YAY,YAY,decide_eq_true_iff,decide_eq_true_iff,Zht r c];simp only[YAJ,forall_eq_or_imp];constructor
  .rintro⟨⟨h1,_⟩,h3,h4⟩;exact⟨⟨h1,h3⟩,h4⟩
  .rintro⟨⟨h1,h3⟩,h4⟩;exact⟨⟨h1,by simp⟩,h3,h4⟩
theorem ZeQ:∀(ls acc:Q22),(acc++ls).Nodup->ls.foldl ir acc=acc++ls
 | [],acc,_=>by simp
 | x::ls,acc,h=>by
  have hx:¬x∈acc:=by rw[YBz]at h;exact λhm=>h.2.2 x hm x YAZ rfl
  rw[YCE,ir,YAL hx,ZeQ ls (acc++[x]) (~~~h)];simp
def ZgR (h:l.Pairwise (· < ·)):(gL l).Nodup:=by unfold gL List.Nodup;rw[YBG];exact h.imp λhab e=>by injection e with e;lia
def Zkf (ls:Q22):(ddl ls).Nodup:=by rw[<-Zdo];exact ZcE _
def Zig (l:Q11):gL l=Zbn (ddl (gL l))↔l.Pairwise (· < ·):=by
 constructor
 .intro e;have h1:(gL l).Pairwise (λa b=>leT a b=true):=by rw[e];exact Zbi _
  have h2:(gL l).Nodup:=by rw[e];exact(ZaD _).nodup_iff.mpr (Zkf _)
  unfold gL at h1;unfold gL List.Nodup at h2;rw[YBG]at h1 h2;refine(h1.and h2).imp ?_;rintro a b ⟨x,y⟩;have y':a≠b:=λe=>y (by rw[e]);have x':¬([b] < [a]):=by simpa [leT] using x
  rw[Zju]at x'
  lia
 .intro h;have e:ddl (gL l)=gL l:=by unfold ddl;rw[ZeQ _ _ (~~~ZgR h)];simp
  rw[e];refine ZbW (List.Perm.refl _) ?_;unfold gL;rw[YBG];refine h.imp λ{a b} hab=>?_;have:¬([b] < [a]):=by rw[Zju];lia
  simpa [leT] using this
def Zgg (l:Q11):isk l=Zhs l:=by
 have h1:(l.all λc=>LET.contains c)=decide (∀c∈l,c∈LET):=by rw[YBS,YBL,decide_eq_true_iff];simp
 have h2:decide (gL l=Zbn (ddl (gL l)))=decide (l.Pairwise (· < ·)):=by rw[YBS,decide_eq_true_iff,decide_eq_true_iff,Zig]
 have h3:Ze4 [] l=(decide (∀c∈l,c∈LET)&&decide (l.Pairwise (· < ·))):=by rw[YBS,YAY,decide_eq_true_iff,decide_eq_true_iff,ZdT]
 unfold isk Zhs;rw[h1,h2,h3,Bool.and_assoc]
def jV (l m:Q11):((List.range l.length).map (λi=>decide (l.getD i 0∈m))).all id=l.all λc=>m.contains c:=by
 rw[YBS,YBL,YBL];constructor
 .intro h c hc;obtain⟨i,hi,rfl⟩:=List.mem_iff_getElem.mp hc;have:=h _ (YBE (YAl.mpr hi));simpa [YAQ,YAH hi] using this
 .intro h b hb;obtain⟨i,hi,rfl⟩:=YAj.mp hb;have hi:=YAl.mp hi;have:=h _ (YBv hi);simpa [YAQ,YAH hi] using this
noncomputable def cell (ns:List Int)(k:Int):Int:=ns.getD k.toNat 0
def ZnY {ns:List Int}{k:Int}(h0:0<=k)(h1:k<ns.length):atI (ns.map V.int) k=some (.int (cell ns k)):=by
 have hk:k.toNat<ns.length:=by lia
 unfold atI ixN cell;rw[YAB,YAS h0,YAS h1,YDJ,YAK,YAQ,YAH hk];rfl
def Zbr (h:l.length<=1000):kG K (tx l) H l.length:=by
 have e:(⟨l.toArray⟩:Str).length=l.length:=by simp[Str.length]
 have:l.length<=sizeLine:=YAP h (by rw[sizeLine_eq];decide);exact⟨by rw[e];exact this,e.symm⟩
def cm (h:0<m)(h2:m<=2 ^ 64):kh (x % m) y:=.inl ⟨by have:=YBR x (show m≠0 by lia);lia,by have:=YBT x h;lia⟩
def Zma:kitOne K t t=some true:=by unfold kitOne;simp
def Zku (h0:0<=i)(h1:i<xs.length):∃v,atI xs i=some v/\v∈xs:=by
 have hi:i.toNat<xs.length:=by lia
 refine⟨xs[i.toNat],?_,YBv hi⟩;unfold atI ixN;rw[YAS h0,YAS h1,YDJ,YAH hi]
def ZbF (xs:Q22):(xs.map tx).all ZbC=true:=by rw[YBL];intro v hv;obtain⟨x,_,rfl⟩:=YAj.mp hv;rfl
def g0 (s:gp H H2)(h:H e=none):gp H (upd H2 e o'):=λb u hb=>by
 have:b≠e:=λz=>by rw[z,h]at hb;cases hb
 rw[Zak this];exact s _ _ hb
def Zb4 (p:α->Bool)(d:α)(ls:List α):((List.range ls.length).filter λi=>p (ls.getD i d)).map (λi=>ls.getD i d)=ls.filter p:=by
 have e:(List.range ls.length).map (λi=>ls.getD i d)=ls:=by
  apply YBw
  .simp
  .intro i h1 h2;simp[h2]
 have h:=List.filter_map (p:=p) (f:=λi=>ls.getD i d) (l:=List.range ls.length);rw[e]at h;rw[h];rfl
def ZbP {ls:Q22}{k:Nat}(h:k<ls.length):(ls.map tx).getD k V.non=tx (ls.getD k []):=by rw[YAQ,YAK,YAQ,YAH h];rfl
def Zgh {x:Q11}{ls:Q22}:inV (tx x) (ls.map tx)=decide (x∈ls):=by
 unfold inV;rw[YBS,YDM,decide_eq_true_iff];constructor
 .rintro⟨y,hy,e⟩;obtain⟨l,hl,rfl⟩:=YAj.mp hy;rw[Zmj,decide_eq_true_iff,Zds]at e;rw[<-e];exact hl
 .intro h;exact⟨tx x,YBE h,by rw[Zmj];exact decide_eq_true rfl⟩
theorem Zhd:∀(xs ys:Q22),hE ((xs.map tx).map DT.f) ((ys.map tx).map DT.f)=decide (xs=ys)
 | [],[]=>by unfold hE;rfl
 | [],y::ys=>by simp only[YAc,List.map_nil];unfold hE;rfl
 | x::xs,[]=>by simp only[YAc,List.map_nil];unfold hE;rfl
 | x::xs,y::ys=>by
  simp only[YAc];unfold hE;rw[Zhd xs ys];have e:deq (DT.f (tx x)) (DT.f (tx y))=decide (x=y):=by unfold deq;rw[<-ZcK];show ((⟨x.toArray⟩:Str) == ⟨y.toArray⟩)=_;rw[YBS,beq_iff_eq,decide_eq_true_iff];exact⟨λh=>by unfold tx;rw[h],λh=>by unfold tx at h;injection h⟩
  rw[e,YBS,YAY,decide_eq_true_iff,decide_eq_true_iff,decide_eq_true_iff,List.cons.injEq]
def Zpj {K:Q4}{H:Hp}{Q:VK}{a b:AE}{xs:Q22}(h1:SqL K H a (xs.map tx))(h2:SqL K H b (xs.map tx))(q:Q (.bl false) H):iO K true (.ref a) (.ref b) H Q:=
 .inr ⟨_,_,jG h1 (ZbF _),jG h2 (ZbF _),λz=>YAE z.1,(ko h1 (ZbF _)).2.2,by unfold deq;rw[Zhd,decide_eq_true rfl];exact q⟩
def Zkk {ns:List Int}{lo hi:Option Int}{v:V}(h:v∈ju (ns.map V.int) lo hi):∃c,v=.int c:=by have h2:v∈ns.map V.int:=YAh (YAa h);obtain⟨c,_,rfl⟩:=YAj.mp h2;exact⟨c,rfl⟩
def ZlI:(ju xs lo hi).length<=xs.length:=by
 unfold ju;rw[YAX,YAk]
 lia
def Zml {K:Q4}{H:Hp}{Q:VK}{a b:AE}{xs ys:Q22}(h1:SqL K H a (xs.map tx))(h2:SqL K H b (ys.map tx))(q:Q (.bl (decide (xs=ys))) H):iO K false (.ref a) (.ref b) H Q:=
 .inr ⟨_,_,jG h1 (ZbF _),jG h2 (ZbF _),λz=>YAE z.1,(ko h1 (ZbF _)).2.2,by unfold deq;rw[Zhd];exact q⟩
def ZjG:V.str (Str.ofString "abcdefghijklmnopqrstuvwxyz")=tx LET:=congrArg V.str (by decide +kernel)
def ZnO (l:Q11):(ddl (gL l)).length<=l.length:=by
 have:∀(ls acc:Q22),(ls.foldl ir acc).length<=acc.length+ls.length:=by
  intro ls;induction ls with
  | nil=>intro acc;simp
  | cons x ls ih=>
   intro acc;rw[YCE];refine YAP (ih _) ?_;unfold ir;split<;>simp<;>lia
 have h:=this (gL l) [];unfold ddl;unfold gL at h ⊢;simpa using h
def jw (l:Q11):(gL l).length=l.length:=by unfold gL;rw[YAB]
def jB (l m:Q11):List (Str×V):=gM "own_kinds" (tx m) (gM "own_text" (tx l) [])
def kt:¬(("own_text":Str)="own_kinds"):=by decide +kernel
def ZbB:(jB l m).lookup ("own_text":Str)=some (tx l):=by unfold jB;rw[Zau,YAL kt,Zau,YAS rfl]
def Zdn:(jB l m).lookup ("own_kinds":Str)=some (tx m):=by unfold jB;rw[Zau,YAS rfl]
def Za7 {l m:Q11} {x:Str} (h1:¬x="own_text") (h2:¬x="own_kinds"):(jB l m).lookup x=none:=by unfold jB;rw[Zau,YAL h2,Zau,YAL h1];rfl
def gJ (C:AE)(H:Hp)(p:AE)(l m:Q11):Prop:=∃dx,H p=some (.ins C dx (jB l m))
def gJ.same (r:gJ C H p l m)(s:gp H H'):gJ C H' p l m:=let ⟨dx,h⟩:=r;⟨dx,s _ _ h⟩
structure gN (l m:Q11):Prop where
 k:isk m=true
 m1:1<=m.length
 m4:m.length<=4
 l40:l.length<=40
 mem:∀x∈l,x∈m
def ZnP (ls:Q22):(ddl ls).length<=ls.length:=by
 have:∀(ls acc:Q22),(ls.foldl ir acc).length<=acc.length+ls.length:=by
  intro ls;induction ls with
  | nil=>intro acc;simp
  | cons x ls ih=>
   intro acc;rw[YCE];refine YAP (ih _) ?_;unfold ir;split<;>simp<;>lia
 simpa [ddl] using this ls []
def ZpE (h:gN l m):isw l m 40=true:=by have h2:=h.l40;unfold isw;rw[YAY,decide_eq_true_iff,YBL];exact⟨∅,λx hx=>by simpa using h.mem x hx⟩
def ZiQ (h:1<=l.length):decide (tx l=tx [])=false:=by rw[ZcK,decide_eq_false_iff_not];intro e;rw[e]at h;simp at h
def Zl8:∀k,k<26->LET[k]?=some (97+k):=by decide
def Znh (h1:97<=c)(h2:c<=122):c∈LET:=by
 have:=Zl8 (c-97) ∅;have e:97+(c-97)=c:=by lia
 rw[e]at this;exact YAb this
def ZpF (h1:1<=m.length)(h4:m.length<=4)(hm:∀c∈m,c∈LET)(hp:m.Pairwise (· < ·)):isk m=true:=by rw[Zgg];unfold Zhs;rw[(ZdT m).mpr ⟨hm,hp⟩];simp[h1,h4]
def ZnS (l:Q11){i:Int}(h:0<=i):cut l none (some i)=l.take i.toNat:=by obtain⟨k,rfl⟩:∃k:Nat,i=(k:Int):=⟨i.toNat,∅⟩;rw[Zen,YBQ]
def ZnT (l:Q11){i:Int}(h:0<=i):cut l (some i) none=l.drop i.toNat:=by obtain⟨k,rfl⟩:∃k:Nat,i=(k:Int):=⟨i.toNat,∅⟩;rw[ZcF,YBQ]
def kB {p q:Prop}[Decidable True](h:p):if True then p else q:=by rw[YAS True.intro];exact h
def ZlT (Pv:St->Prop)(μ:St->Nat)(h0:Pv U)
  (hs:∀U,Pv U->∃b:Bool,(∀Q:Bool->Hp->Prop,Q b H->c U H Q)/\if b=true then tb { D with nx:=λU' H'=>(H'=H/\Pv U')/\μ U'<μ U,ct:=λU' H'=>(H'=H/\Pv U')/\μ U'<μ U,bk:=D.nx } U H else D.nx U H):iE c tb D U H:=by
 refine⟨λm U H'=>m=μ U/\H'=H/\Pv U,⟨_,rfl,rfl,h0⟩,?_⟩;rintro m U _ ⟨rfl,rfl,p⟩;obtain⟨b,hc,hb⟩:=hs U p;refine hc _ ?_;cases b with
 | true=>exact⟨_,λU' H' ⟨p',l⟩=>⟨_,l,rfl,p'⟩,hb⟩
 | false=>exact hb
def ZdJ (l:Q11)(n:Int):(ip l n).length=n.toNat*l.length:=by unfold ip;simp
def ZhC (h:x∈ip l n):x∈l:=by unfold ip at h;obtain⟨y,hy,hx⟩:=List.mem_flatten.mp h;rw[(List.mem_replicate.mp hy).2]at hx;exact hx
def Zgs {n:Nat}(hs:1<=s):(n:Int)/(s:Nat)<=(n:Int):=by
 have e:(n:Int)/(s:Nat)=((n/s:Nat):Int):=(Int.natCast_ediv _ _).symm;have:=Nat.div_le_self n s;rw[e]
 lia
def Zj9 {n:Nat}:0<=(n:Int)/(s:Nat):=by have e:(n:Int)/(s:Nat)=((n/s:Nat):Int):=(Int.natCast_ediv _ _).symm;rw[e];exact Int.natCast_nonneg _
def fill {f m:Q11}{n:Nat}{e:Int}(hn:0<n)(hf:f.length=n)(hm:∀x∈f,x∈m)(he:1<=e):(cut (ip (cut f none (some e)) (n:Nat)) none (some ((n:Nat):Int))).length=n/\∀x∈cut (ip (cut f none (some e)) (n:Nat)) none (some ((n:Nat):Int)),x∈m:=by
 rw[Zen,ZnS f ∅];have ht:1<=(f.take e.toNat).length:=by rw[YAX];lia
 have hl:n<=(ip (f.take e.toNat) (n:Nat)).length:=by rw[ZdJ,YBQ];exact Nat.le_mul_of_pos_right n ht
 refine⟨by rw[YAX];lia,λx hx=>?_⟩;exact hm x (YAa (ZhC (YAa hx)))
def put1 {f m:Q11}{n c:Nat}{i:Int}(hf:f.length=n)(hm:∀x∈f,x∈m)(hc:c∈m)(h0:0<=i)(h1:i<(n:Nat)):(cut f none (some i)++[c]++cut f (some (i+1)) none).length=n/\∀x∈cut f none (some i)++[c]++cut f (some (i+1)) none,x∈m:=by
 rw[ZnS f h0,ZnT f ∅];refine⟨by rw[YAF,YAF,YAX,YAk,YAo];lia,λx hx=>?_⟩;rcases YAW.mp hx with hx | hx
 .rcases YAW.mp hx with hx | hx
  .exact hm x (YAa hx)
  .rw[YAI.mp hx];exact hc
 .exact hm x (YAh hx)
def Zpi (h:Q (.bl false) H):iO K true (tx x) (tx x) H Q:=.inl ⟨rfl,by rw[YAS rfl,decide_eq_true rfl];exact h⟩
def Zkl (w:Q11):cut w none (some (-1))=w.dropLast:=by
 unfold cut;have e1:HT.sIx w.length w.length (some (-1))=w.length-1:=by
  unfold HT.sIx;simp only[];rw[YAS (by decide)]
  lia
 have e2:HT.sIx w.length 0 none=0:=rfl;rw[e1,e2,YBk,YCF];rfl
def ZfD (w:Q11):cut w (some 1) none=w.tail:=by have:=ZcF w 1;rw[List.drop_one]at this;exact this
def Ziz (hm:m.length<=4)(hl:l.length<=40)(hi:i<=41):(Zgb l m i).length<=6724:=by
 have h1:∀k,(ZcP (gO l k) (gO l (k+1)) m).length<=164:=λk=>YAP (Zef _ _ _) (YAP (YDH (ZdR l k) hm) ∅);have h2:=Zcd (f:=λk=>ZcP (gO l k) (gO l (k+1)) m) h1 (List.range i);rw[YAt]at h2;have:i*164<=41*164:=Nat.mul_le_mul_right _ hi;unfold Zgb
 lia
def Zc0 (hl:l.length<=40)(h:w∈Zas l m):w.length<=41:=by
 have:=(ZaI.mp h).1.init.len;rw[YBA]at this
 lia
def Zcj {α:Type}{l:List α}{i:Nat}{x:α}(h:l[i]?=some x):l.take (i+1)=l.take i++[x]:=by rw[List.take_succ,h];rfl
structure KOk (m:Q11):Prop where
 k:isk m=true
 m1:1<=m.length
 m4:m.length<=4
def Znq (h:(l.length:Int)<=most)(hm:∀x∈l,x∈m):isw l m most=true:=by unfold isw;rw[YAY,decide_eq_true_iff,YBL];exact⟨h,λx hx=>by simpa using hm x hx⟩
def ZjM (l x:Q11):Bool:=!iP x l&&(iP x.tail l&&iP x.dropLast l)
def jC:atI (x::xs) 0=some x:=by unfold atI ixN;rw[YAS (Int.le_refl _),YAS (by rw[YAf];lia)];rfl
def Zfp (h:isk m=true):m.Pairwise (· < ·):=by rw[Zgg]at h;unfold Zhs at h;rw[YAY]at h;exact((ZdT m).mp h.2).2
def isl (l m:Q11):Bool:=isw l m 1&&decide ((l.length:Int)=1)
def KOk.kinds (h:KOk m):iS m:=⟨h.k,h.m1,h.m4,Zfp h.k⟩
def ZjN (h:iS m):KOk m:=⟨h.k,h.m1,h.m4⟩
def Znt (h:c∈m):isl [c] m=true:=by unfold isl;rw[Znq (by show ((1:Nat):Int)<=1;decide) (λx hx=>by rw[YAI.mp hx];exact h)];rfl
def Zgc (ne:x≠[]):ZjM l x=true↔ja l x:=by
 unfold ZjM;rw[YAY,YAY,Bool.not_eq_true',ZhV,ZdO,ZdO];constructor
 .rintro⟨a,b,c⟩;exact⟨ne,c,b,a⟩
 .rintro⟨_,c,b,a⟩;exact⟨a,b,c⟩
def Zbf (L:Q11)(i:Nat):Q22:=(List.range i).flatMap λk=>[L.take (k+1),L.drop (L.length-(k+1))]
def ZeR (L:Q11)(i:Nat):Zbf L (i+1)=Zbf L i++[L.take (i+1),L.drop (L.length-(i+1))]:=by unfold Zbf;rw[YCU,List.flatMap_append,List.flatMap_singleton]
theorem Zc6 (L:Q11):∀i,(Zbf L i).length=2*i
 | 0=>rfl
 | i+1=>by rw[ZeR,YAF,Zc6 L i];simp;lia
def Zf5:w∈Zbf L i↔∃k,1<=k/\k<=i/\(w=L.take k\/w=L.drop (L.length-k)):=by
 unfold Zbf;rw[List.mem_flatMap];constructor
 .rintro⟨k,hk,h⟩;have hk:=YAl.mp hk;simp only[YAJ,YBF,or_false]at h;exact⟨k+1,∅,∅,h⟩
 .rintro⟨k,h1,h2,h⟩;refine⟨k-1,YAl.mpr ∅,?_⟩;have e:k-1+1=k:=by lia
  rw[e];simpa using h
def Zhz (h:iu H zs rs){i:Nat}(hi:i<zs.length):∃t u,zs.getD i .non=.ref t/\H t=some (.tup [tx ((rs.map (·.1)).getD i []),u]):=by obtain⟨r,hr,t,b,e,h1,_⟩:=h.2 i zs[i] (YAH hi);refine⟨t,.ref b,by rw[YAQ,YAH hi];exact e,?_⟩;rw[h1,YAQ,YAK,hr];rfl
def Zkm {rs:List (Q11×List V)}{n:Nat}(h:n=rs.length):((List.range n).filter λ_=>true).map (λi=>tx ((rs.map (·.1)).getD i []))=(rs.map (·.1)).map tx:=by
 subst h;rw[YDN.mpr (λ_ _=>rfl)];apply YBw (by simp);intro i h1 h2;have hi:i<rs.length:=by simpa using h2
 simp[YAQ,YAH hi]
def Zg4 {kvs:List (Key×V)}{k:Key}{v:V}(h:hJ kvs k=some v):k∈kvs.map (·.1):=by
 unfold hJ at h;obtain⟨p,hp,_⟩:=YBb.mp h;have e:p.1=k:=by simpa using List.find?_some hp
 rw[<-e];exact YBE (List.mem_of_find?_eq_some hp)
def Zlj (l:List (Key×V))(v:V)(h:k∈l.map (·.1)):(ig l k v).map (·.1)=l.map (·.1):=by
 unfold ig;have ha:(l.any λkv=>decide (kv.1=k))=true:=by obtain⟨p,hp,e⟩:=YAj.mp h;exact YDM.mpr ⟨p,hp,decide_eq_true e⟩
 rw[YAS ha,YAw];refine YBm λp _=>?_;show (if p.1=k then (p.1,v) else p).1=p.1;split<;>rfl
structure DI (H:Hp)(s L rs:Q11)(S:Q11->Prop)(kvs:List (Key×V))(ws:Q22):Prop where
 keys:kvs.map (·.1)=ws.map kTx
 nd:ws.Nodup
 mem:∀w,w∈ws↔ja L w/\S w
 val:∀w∈ws,∃b,hJ kvs (kTx w)=some (.ref b)/\H b=some (.tup [tx rs,tx (jt s w),.int (fpl L (jt s w):Nat)])
def DI.grow (h:DI H s L rs S kvs ws)(sm:∀b us,H b=some (.tup us)->H' b=some (.tup us))(hS:∀w,ja L w->(S w↔S' w)):DI H' s L rs S' kvs ws:=
 ⟨h.keys,h.nd,λw=>(h.mem w).trans ⟨λ⟨a,b⟩=>⟨a,(hS w a).mp b⟩,λ⟨a,b⟩=>⟨a,(hS w a).mpr b⟩⟩,λw hw=>let ⟨b,h1,h2⟩:=h.val w hw;⟨b,h1,sm _ _ h2⟩⟩
def DI.put (h:DI H s L rs S kvs ws)(mx:ja L x)(hb:H b=some (.tup [tx rs,tx (jt s x),.int (fpl L (jt s x):Nat)])):
  ∃ws',DI H s L rs (λw=>S w\/w=x) (ig kvs (kTx x) (.ref b)) ws':=by
 by_cases hx:x∈ws
 .refine⟨ws,?_,h.nd,λw=>?_,λw hw=>?_⟩
  .rw[Zlj,h.keys];rw[h.keys];exact YBE hx
  .rw[h.mem];constructor
   .rintro⟨a,c⟩;exact⟨a,.inl c⟩
   .rintro⟨a,c | rfl⟩
    .exact⟨a,c⟩
    .exact(h.mem w).mp hx
  .rw[Zhp];by_cases e:w=x
   .subst e;exact⟨b,by rw[YAS rfl],hb⟩
   .rw[YAL (λz=>e (Zdm z))];exact h.val w hw
 .have hv:hJ kvs (kTx x)=none:=by
   cases e:hJ kvs (kTx x) with
   | none=>rfl
   | some v=>
    exfalso;have:=Zg4 e;rw[h.keys]at this;obtain⟨y,hy,e2⟩:=YAj.mp this;exact hx (Zdm e2▸hy)
  refine⟨ws++[x],?_,?_,λw=>?_,λw hw=>?_⟩
  .rw[ZhH _ hv,YAr,h.keys,YAr];rfl
  .rw[YBz];refine⟨h.nd,by simp,λa ha c hc e=>?_⟩;rw[YAI.mp hc]at e;exact hx (e▸ha)
  .rw[YAW,YAI,h.mem];constructor
   .rintro (⟨a,c⟩ | rfl)
    .exact⟨a,.inl c⟩
    .exact⟨mx,.inr rfl⟩
   .rintro⟨a,c | rfl⟩
    .exact .inl ⟨a,c⟩
    .exact .inr rfl
  .rw[Zhp];by_cases e:w=x
   .subst e;exact⟨b,by rw[YAS rfl],hb⟩
   .rw[YAL (λz=>e (Zdm z))];rcases YAW.mp hw with z | z
    .exact h.val w z
    .exact absurd (YAI.mp z) e
def Zhu (T:gY H P pos q)(k:∀b o,H b=some o->b≠pd->H' b=some o)(h:H pd=some o0)(t:Zc4 o0=false)(x:Zll o0=false):gY H' P pos q:=by obtain⟨ps,e,tr,hc⟩:=T;refine⟨ps,k _ _ e (λz=>by rw[z,h]at e;cases e;cases t),tr,hc.imp id ?_⟩;rintro⟨c,e1,e2⟩;exact⟨c,e1,k _ _ e2 (λz=>by rw[z,h]at e2;unfold ZfH at e2;cases e2;cases x)⟩
def Zcn (rs s L m:Q11):(ZdC rs s L m).map (·.1)=iY s L m:=by unfold ZdC;rw[YAw];exact List.map_id' _
def Zco (rs s L m:Q11):(ZdZ rs s L m).map (·.1)=kc s L m:=by unfold ZdZ;rw[YAw];exact List.map_id' _
def Zb3 (hm:m.length<=4)(hl:l.length<=40):(Zas l m).length<=6724:=Ziz hm hl ∅
def ZdK 
  (hp:gq C H p la da l m ds) (c3:Chg [da] H H3) (d3:H3 da=some (.lst ts2)) (e3:g6 H3 ts2 ds2) (ch:Chg [p] H3 H4) (f4:ZdA C H4 p la2 da l2 m) (l4:H4 la2=some (.lst ((Zas l2 m).map tx))) (an:jf H3 H4 t c g la2 rc rg) (run:Run m ds2 l2):
  Chg [p,da] H H4/\gq C H4 p la2 da l2 m ds2/\jf H H4 t c g la2 rc rg:=by
 obtain⟨⟨dx,f⟩,hk,⟨ts,d1,d2⟩,_,ok,nld⟩:=id hp;have npd:p≠da:=λz=>by rw[z,d1]at f;cases f
 have f3:=c3 _ _ f (~~~npd) rfl;have nw:∀r,Nw H3 r->Nw H r:=λr n=>n.chg c3 λb hb=>by obtain rfl:=YAI.mp hb;exact⟨_,d3,rfl⟩
 refine⟨(c3.mono (by simp)).trans (ch.mono (by simp)),⟨f4,l4,⟨ts2,ch _ _ d3 (~~~YBW npd) rfl,e3.chg ch λb hb us z=>by rw[YAI.mp hb,f3]at z;cases z⟩,run,ok,YBW (an.nl.ne d3 rfl)⟩,⟨an.tup,an.came,an.went,nw _ an.nc,nw _ an.ng,nw _ an.nl,an.ncg,an.ncl,an.ngl⟩⟩
def ZaW (h:gq C H p la da l m ds):gN l m:=⟨h.ok.k,h.ok.m1,h.ok.m4,h.run.len,h.run.mem⟩
noncomputable def okN (x:Str):Bool:=!decide (x="own_text")&&!decide (x="own_kinds")&&!decide (x="own_lacking")&&!decide (x="own_deeds")
def sN (h:okN x=true:=by decide +kernel):(sF l m la da).lookup x=none:=by unfold okN at h;simp only[YAY,Bool.not_eq_true',decide_eq_false_iff_not]at h;exact ZqW h.1.1.1 h.1.1.2 h.1.2 h.2
structure gR (l m:Q11):Prop where
 k:isk m=true
 m1:1<=m.length
 m4:m.length<=4
 l1:1<=l.length
 l20:l.length<=20
 mem:∀x∈l,x∈m
def gR.root (h:gR l m):gR (gS l) m:=⟨h.k,h.m1,h.m4,by rw[Zby h.l1];exact(Za8 h.l1).1,by rw[Zby h.l1];exact YAP (Za8 h.l1).2.1 h.l20,λx hx=>h.mem x (ZkQ hx)⟩
def Zlr (hx:0<=x)(hy:0<y):Int.gcd y (x % y)=Int.gcd x y:=by obtain⟨m,rfl⟩:∃m:Nat,x=(m:Int):=⟨x.toNat,∅⟩;obtain⟨n,rfl⟩:∃n:Nat,y=(n:Int):=⟨y.toNat,∅⟩;have e:((m:Int) % (n:Int))=((m % n:Nat):Int):=(Int.natCast_emod m n).symm;rw[e];show Nat.gcd _ _=Nat.gcd _ _;simp only[Int.natAbs_natCast];rw[Nat.gcd_comm m n,Nat.gcd_rec n m,Nat.gcd_comm]
def at2 {x y:Int}{k:Bool}:∃z:Int,atI [V.int x,V.int y] (if k then 1 else 0)=some (.int z):=by
 cases k
 .exact⟨x,rfl⟩
 .exact⟨y,rfl⟩
def TT (a:Ad)(H:Hp):Prop:=gY H a.t_LJ iK lq/\gY H a.t_LT Zps lqM
def TT.same (t:TT a H)(s:gp H H'):TT a H':=⟨t.1.same s,t.2.same s⟩
def TT.upd (t:TT a H)(h:H b=some o)(n1:Zc4 o=false)(n2:Zll o=false):TT a (upd H b o'):=⟨t.1.upd h n1 n2,t.2.upd h n1 n2⟩
def ZiX (T:TT a H)(k:∀b o,H b=some o->b≠pd->H' b=some o)(h:H pd=some o0)(t:Zc4 o0=false)(x:Zll o0=false):TT a H':=⟨Zhu T.1 k h t x,Zhu T.2 k h t x⟩
def iL (a:Ad)(H:Hp)(p:AE)(l m:Q11):Prop:=gJ a.c_L0 H p l m\/∃la da ds,gq a.c_L2 H p la da l m ds
def iL.l {a:Ad}{H H':Hp}{p:AE}{l m:Q11}(h:iL a H p l m)(s:gE H H'):iL a H' p l m:=by
 rcases h with⟨dx,h⟩|⟨la,da,ds,h⟩
 .exact .inl ⟨dx,s _ _ h rfl⟩
 .exact .inr ⟨la,da,ds,h.l s⟩
def ZlP (H:Hp)(zs:List V)(ds xs:Q22):Prop:=zs.length=ds.length/\∀(i:Nat) (y:V),zs[i]?=some y->∃w t,ds[i]?=some w/\y=.ref t/\H t=some (.tup [tx w,.int (if w∈xs then 0 else 1)])
structure jd (xs:Q22):Prop where
 srt:xs.Pairwise g9
 len:xs.length<=200
 w:∀w∈xs,1<=w.length/\w.length<=41
def Zkt {a:Ad} {H:Hp} {p:AE} {l m:Q11} {x:Str} {R1 R2:Prop} (h:iL a H p l m) (n1:¬x="own_text") (n2:¬x="own_kinds") (n3:okN x=true) (r1:gJ a.c_L0 H p l m->R1) (r2:∀la da ds,gq a.c_L2 H p la da l m ds->R2):
  (∃(a_1 dx:AE) (fs:List (Str×V)),V.ref p=V.ref a_1/\H a_1=some (HO.ins a.c_L0 dx fs)/\fs.lookup x=none/\R1)\/∃(a_1 dx:AE) (fs:List (Str×V)),V.ref p=V.ref a_1/\H a_1=some (HO.ins a.c_L2 dx fs)/\fs.lookup x=none/\R2:=by
 rcases h with⟨dx,f⟩|⟨la,da,ds,h⟩
 .exact .inl ⟨p,dx,_,rfl,f,Za7 n1 n2,r1 ⟨dx,f⟩⟩
 .obtain⟨dx,f⟩:=id h.fld;exact .inr ⟨p,dx,_,rfl,f,sN n3,r2 la da ds h⟩
def gZ (ok:gN l m):jd (Zas l m):=by
 refine⟨ZaR (Zfp ok.k),YAP (Ziy (Zfp ok.k)) (YAP (YDH ok.m4 (YDK ok.l40)) (by decide)),λw hw=>?_⟩;have ms:=(ZaI.mp hw).1;have h1:=ms.tail.len;rw[YCY]at h1;have h2:=YBN.mpr ms.ne;have:=ok.l40
 lia
def Zgt (h:ds.Perm (Zbn (ic (ddl a) (ddl b)))):gT a b ds:=by
 have h:=h.trans (ZaD _);refine⟨h.nodup_iff.mpr ?_,λw=>?_⟩
 .unfold ic;rw[YBz];refine⟨(Zbq _).filter _,(Zbq _).filter _,λx hx y hy e=>?_⟩;subst e;have h1:=(YAg.mp hx).1;have h2:=of_decide_eq_true (YAg.mp hy).2;exact h2 h1
 .rw[h.mem_iff];unfold ic;simp[YAW,YAg,ZbU]
def Zb7 {C T:AE->Hp->Prop}{R:Prop}(h1:(∀r H,C r H->T r H)->R)(h2:∀r H,C r H->T r H):R:=h1 h2
def Zmo (ls:Q22):(ddl ls).length<=ls.length:=Zb0 _ _ (Zbq ls) λ_ h=>ZbU.mp h
def Zel (h:gT a b ds)(ha:jd a)(hb:jd b){w:Q11}(hw:w∈ds):1<=w.length/\w.length<=41:=((h.mem w).mp hw).elim (λz=>ha.w w z.1) (λz=>hb.w w z.1)
def Zc8 (h:gT a b ds)(ha:jd a)(hb:jd b):ds.length<=400:=by
 have:=Zb0 ds (a++b) h.nd λw hw=>YAW.mpr (((h.mem w).mp hw).imp (λz=>z.1) (λz=>z.1));rw[YAF]at this;have:=ha.len;have:=hb.len
 lia
def Zp5:Bt 340 ((400*DD:Nat):Int):=⟨∅,by show 400*DD<2 ^ 340;decide +kernel⟩
def ZnG (h:W<=400*DD):Bt 340 (frT (W:Nat) (DD:Nat))/\Bt 340 (frB (W:Nat) (DD:Nat))/\0<frB (W:Nat) (DD:Nat):=by have dp:=ZeX;obtain⟨a1,a2,a3,a4,_⟩:=Zcc (a:=(W:Nat)) (b:=(DD:Nat)) ∅ ∅;exact⟨Zp5.le a1 ∅,Zp5.le ∅ ∅,∅⟩
def Zp1 (h:∀w∈ws,1<=w.length/\w.length<=41):WS ws<=ws.length*DD:=by
 induction ws with
 | nil=>exact YBC _
 | cons w ws ih=>
  have i:=ih λu hu=>h u (by simp[hu]);obtain⟨h1,h2⟩:=h w (by simp);have e:=ZiH h1 h2;have k:wtN w.length<=DD:=by rw[<-e];exact YDU _ (Nat.mul_pos h1 h1)
  unfold WS at *;simp only[YAc,List.sum_cons,YAf,Nat.add_mul,Nat.one_mul]
  lia
def ZnD (h1:1<=n)(h2:n<=41)(hs:s=((n*n:Nat):Int)):
  frT (frT (W:Nat) (DD:Nat)*frB 1 s+frT 1 s*frB (W:Nat) (DD:Nat)) (frB (W:Nat) (DD:Nat)*frB 1 s)=frT ((W+wtN n:Nat):Int) (DD:Nat)/\frB (frT (W:Nat) (DD:Nat)*frB 1 s+frT 1 s*frB (W:Nat) (DD:Nat)) (frB (W:Nat) (DD:Nat)*frB 1 s)=frB ((W+wtN n:Nat):Int) (DD:Nat):=by
 have dp:=ZeX;have sp:0<s:=by rw[hs];have:=Nat.mul_pos h1 h1;lia
 have e:s*(wtN n:Nat)=(DD:Nat):=by rw[hs,<-Int.natCast_mul,ZiH h1 h2]
 obtain⟨a1,a2,a3,a4,a5,a6⟩:=Zcc (a:=(W:Nat)) (b:=(DD:Nat)) ∅ ∅;obtain⟨b1,b2,b3,b4,b5,b6⟩:=Zcc (a:=1) (b:=s) (by decide) sp;generalize frT (W:Nat) (DD:Nat)=x at *;generalize frB (W:Nat) (DD:Nat)=y at *;generalize frT 1 s=z at *;generalize frB 1 s=u at *;refine ZnH (Int.add_nonneg (Int.mul_nonneg a1 ∅) (Int.mul_nonneg b1 ∅)) (Int.mul_pos ∅ ∅) ∅ ∅ ?_;have q1:(x*u+z*y)*(DD:Nat)=(x*(DD:Nat))*u+z*y*(DD:Nat):=by rw[Int.add_mul];congr 1;ac_rfl
 have q2:z*y*(DD:Nat)=(z*s)*(y*(wtN n:Nat)):=by rw[<-e];ac_rfl
 rw[q1,q2,a6,b6,Int.natCast_add,Int.add_mul,Int.mul_one];congr 1<;>ac_rfl
def ZnL (p:Q11->Bool)(xs:Q22):((List.range (xs.map tx).length).filter λi=>p (xs.getD i [])).map (λi=>tx (xs.getD i []))=(xs.filter p).map tx:=by rw[YAB,<-Zb4 p [] xs,YAw];rfl
def Zc7 (hx:xs.Nodup)(hy:ys.Nodup):gT xs ys ((xs.filter λv=>!decide (v∈ys))++ys.filter λv=>!decide (v∈xs)):=by refine⟨?_,λw=>by simp[YAW,YAg]⟩;rw[YBz];refine⟨hx.filter _,hy.filter _,λx h y k e=>?_⟩;subst e;have h1:=(YAg.mp h).1;have h2:=(YAg.mp k).2;rw[decide_eq_true h1]at h2;cases h2
theorem Zjf {H:Hp}{v:V}:∀ {ys:List V} {ws:Q22},ys.length=ws.length->(∀(k:Nat) (y:V),ys[k]?=some y->∃t w,y=.ref t/\ws[k]?=some w/\H t=some (.tup [tx w,v]))->∃rs:List (AE×Q11),ys=rs.map (λr=>.ref r.1)/\ws=rs.map (·.2)/\∀r∈rs,H r.1=some (.tup [tx r.2,v])
 | [],[],_,_=>⟨[],rfl,rfl,λr h=>by cases h⟩
 | [],_::_,hl,_=>by cases hl
 | _::_,[],hl,_=>by cases hl
 | y::ys,w::ws,hl,h=>by
  obtain⟨t,w',rfl,e,ht⟩:=h 0 y rfl;cases e;obtain⟨rs,e1,e2,hr⟩:=Zjf (ys:=ys) (ws:=ws) (~~~hl) λk y hk=>h (k+1) y (~~~hk);refine⟨(t,w)::rs,by rw[e1];rfl,by rw[e2];rfl,λr hr'=>?_⟩;rcases YAJ.mp hr' with rfl | z
  .exact ht
  .exact hr r z
def ZdF (ds xs:Q22):DT:=.l (ds.map λw=>.t ([tx w,.int (if w∈xs then 0 else 1)].map .f))
def ZdQ (h:SqL K H r zs)(d:ZlP H zs ds xs):gx K H (ZdF ds xs) (.ref r):=by unfold ZdF gx;refine⟨r,zs,rfl,h,Zhh (by rw[YAB];exact d.1) λi y hy=>?_⟩;obtain⟨w,t,e1,rfl,e2⟩:=d.2 i y hy;exact⟨_,by rw[YAK,e1];rfl,jE (.mk e2) rfl⟩
def ZlG (ds xs:Q22):deq (ZdF ds xs) (ZdF ds xs)=true:=by unfold ZdF deq;refine Zc9 λd hd=>?_;obtain⟨w,_,rfl⟩:=YAj.mp hd;unfold deq;exact Zcv rfl
def Zh4 (ds xs:Q22):dep (ZdF ds xs)<=60:=by unfold ZdF dep;refine YAP (YDK (ZfA (n:=1) λd hd=>?_)) (by decide);obtain⟨w,_,rfl⟩:=YAj.mp hd;unfold dep;rw[Zcw];exact YAT _
def Zjy (ok1:gN l1 m)(ok2:gN l2 m)(df:gT (Zas l1 m) (Zas l2 m) ds):(frT (WS ds:Nat) (DD:Nat)=0/\frB (WS ds:Nat) (DD:Nat)=1)↔l1=l2:=by
 have dp:=ZeX;constructor
 .rintro⟨h,_⟩;obtain⟨a1,a2,a3,a4,a5,a6⟩:=Zcc (a:=(WS ds:Nat)) (b:=(DD:Nat)) ∅ ∅;rw[h,Int.zero_mul]at a6;have z:WS ds=0:=by rcases Int.mul_eq_zero.mp a6.symm with k | k<;>lia
  have e:=Zn3 (λw hw=>Zel df (gZ ok1) (gZ ok2) hw) z;refine ZjL ok1.mem ok2.mem λw=>?_;have k:=df.mem w;rw[e]at k;by_cases h1:w∈Zas l1 m<;>by_cases h2:w∈Zas l2 m<;>simp_all
 .rintro rfl;have e:ds=[]:=List.eq_nil_iff_forall_not_mem.mpr λw hw=>by rcases (df.mem w).mp hw with z | z<;>exact z.2 z.1
  subst e;have:=ZnH (x:=0) (y:=1) (u:=((WS []:Nat):Int)) (v:=(DD:Nat)) (by decide) (by decide) ∅ ∅ (by rw[Zmt];simp);rw[<-this.1,<-this.2];exact⟨by decide,by decide⟩
structure Kp where
 n:Q11
 p:AE
 la:AE
 da:AE
 l:Q11
 ds:List (Bool×Nat)
def isn (n:Q11):Bool:=isw n LET 8&&decide (n≠[])
def iD (p:AE)(H H':Hp):Prop:=∀b o,H b=some o->b≠p->H' b=some o
def iD.chg (k:iD p H H'):Chg [p] H H':=λb o e n _=>k b o e (~~~n)
def iD.tt (k:iD p H H')(t:TT a H)(h:H p=some (.dK kvs)):TT a H':=ZiX t k h rfl rfl
def shF (m:Q11)(dA:AE):List (Str×V):=gM "own_strips" (.ref dA) (gM "own_kinds" (tx m) [])
def iy (F:List Kp):List (Key×V):=F.map λr=>(kTx r.n,V.ref r.p)
structure gD (a:Ad)(H:Hp)(p dA:AE)(m:Q11)(F:List Kp):Prop where
 fld:∃dx,H p=some (.ins a.c_L1 dx (shF m dA))
 dct:H dA=some (.dK (iy F))
 str:∀r∈F,gq a.c_L2 H r.p r.la r.da r.l m r.ds
 nm:∀r∈F,isn r.n=true
 nd:(F.map (·.n)).Nodup
 kok:KOk m
def ZlO (a:Ad)(H:Hp)(p:AE)(m:Q11):Prop:=(∃l,iL a H p l m)\/∃l,gJ a.c_MB H p l m
def ZrL (a:Ad)(H:Hp)(p:AE)(m:Q11):Prop:=ZlO a H p m\/∃dA F,gD a H p dA m F
def shK:(shF m dA).lookup ("own_kinds":Str)=some (tx m):=by unfold shF;rw[Zau,YAL (by decide +kernel),Zau,YAS rfl]
def shS:(shF m dA).lookup ("own_strips":Str)=some (.ref dA):=by unfold shF;rw[Zau,YAS rfl]
def shN {m:Q11} {dA:AE} {x:Str} (h1:¬x="own_strips":=by decide +kernel)(h2:¬x="own_kinds":=by decide +kernel):(shF m dA).lookup x=none:=by unfold shF;rw[Zau,YAL h1,Zau,YAL h2];rfl
def Zns (h:isn n=true):n.length<=8:=by
 unfold isn isw at h;rw[YAY,YAY,decide_eq_true_iff]at h
 lia
def Zpw (h:∀r∈F,r.n≠n):hJ (iy F) (kTx n)=none:=by
 induction F with
 | nil=>rfl
 | cons r F ih=>
  rw[show iy (r::F)=(kTx r.n,V.ref r.p)::iy F from rfl,Zbk (λe=>h r (by simp) (Zdm e))];exact ih λs hs=>h s (by simp[hs])
def Zpv {α:Type}{f:α->Q11}{g:α->V}{F:List α}(nd:(F.map f).Nodup){r:α}(hr:r∈F):hJ (F.map λr=>(kTx (f r),g r)) (kTx (f r))=some (g r):=by
 induction F with
 | nil=>cases hr
 | cons s F ih=>
  rw[YAc,YBY]at nd;rw[YAc];rcases YAJ.mp hr with rfl | z
  .exact Zbs rfl
  .rw[Zbk (λe=>nd.1 (by rw[show f s=f r from Zdm e];exact YBE z))];exact ih nd.2 z
def Zl9 (nd:(F.map (·.n)).Nodup){r:Kp}(hr:r∈F):hJ (iy F) (kTx r.n)=some (.ref r.p):=Zpv (f:=Kp.n) (g:=λr=>V.ref r.p) nd hr
def Znm (F:List Kp)(n:Q11):Zhb (iy F) (kTx n)=iy (F.filter λx=>decide (x.n≠n)):=by unfold Zhb iy;rw[List.filter_map];congr 1;refine List.filter_congr λx _=>?_;show decide (kTx x.n≠kTx n)=decide (x.n≠n);rw[decide_eq_decide];exact⟨λh e=>h (by rw[e]),λh e=>h (Zdm e)⟩
def Zpx (F:List Kp):(iy F).length=F.length:=by unfold iy;rw[YAB]
def Znl (F:List Kp):(iy F).map (·.1)=(F.map (·.n)).map kTx:=by unfold iy;rw[YAw,YAw];rfl
def ZbK (h:gq C H p la da l m ds):(∃dx fs,H p=some (.ins C dx fs))/\(∃xs,H la=some (.lst xs))/\∃xs,H da=some (.lst xs):=by obtain⟨⟨dx,f⟩,k,⟨ts,d1,_⟩,_⟩:=h;exact⟨⟨dx,_,f⟩,⟨_,k⟩,ts,d1⟩
def gD.l (h:gD a H p dA m F)(s:gE H H'):gD a H' p dA m F:=by obtain⟨⟨dx,f⟩,d,st,nm,nd,k⟩:=h;exact⟨⟨dx,s _ _ f rfl⟩,s _ _ d rfl,λr hr=>(st r hr).l s,nm,nd,k⟩
def gD.same (h:gD a H p dA m F)(s:gp H H'):gD a H' p dA m F:=h.l s.l
def Zdf (st:gq C H q la da l m ds)(k:iD dA H H')(d:H dA=some (.dK kvs)):gq C H' q la da l m ds:=by
 obtain⟨⟨_,_,x1⟩,⟨_,x2⟩,_,x3⟩:=ZbK st;have nd:∀ {b o},H b=some o->(∀kvs,o≠.dK kvs)->b∉[dA]:=λe n z=>by rw[YAI.mp z,d]at e;exact n _ (Option.some.inj e).symm
 exact st.chg k.chg (λb hb us z=>by rw[YAI.mp hb,d]at z;cases z) (nd x1 λ_ z=>by cases z) (nd x2 λ_ z=>by cases z) (nd x3 λ_ z=>by cases z)
def ZhZ (f:H p=some (.ins C dx fs))(k:iD dA H H')(d:H dA=some (.dK kvs)):H' p=some (.ins C dx fs):=k _ _ f λz=>by rw[z,d]at f;cases f
def gD.lay (h:gD a H p dA m F)(s:gp H H')(st:gq a.c_L2 H' r.p r.la r.da r.l m r.ds)(hn:isn r.n=true)(nf:∀s∈F,s.n≠r.n):
  gD a (upd H' dA (.dK (ig (iy F) (kTx r.n) (.ref r.p)))) p dA m (F++[r])/\iD dA H (upd H' dA (.dK (ig (iy F) (kTx r.n) (.ref r.p)))):=by
 have h':=h.same s;have d':=h'.dct;have k:iD dA H' (upd H' dA (.dK (ig (iy F) (kTx r.n) (.ref r.p)))):=λb o e ne=>by rw[Zak ne];exact e
 obtain⟨dx,f⟩:=h'.fld;refine⟨⟨⟨dx,ZhZ f k d'⟩,?_,λt ht=>?_,λt ht=>?_,?_,h.kok⟩,λb o e ne=>k _ _ (s _ _ e) ne⟩
 .rw[Zao,ZhH _ (Zpw nf)];unfold iy;rw[YAr];rfl
 .rcases YAW.mp ht with z | z
  .exact Zdf (h'.str t z) k d'
  .rw[YAI.mp z];exact Zdf st k d'
 .rcases YAW.mp ht with z | z
  .exact h.nm t z
  .rw[YAI.mp z];exact hn
 .rw[YAr,YBz];refine⟨h.nd,by simp,λx hx y hy e=>?_⟩;obtain⟨t,ht,rfl⟩:=YAj.mp hx;rw[List.map_singleton,YAI]at hy;exact nf t ht (e.trans hy)
def gD.take (h:gD a H p dA m F)(s:gp H H'):
  gD a (upd H' dA (.dK (Zhb (iy F) (kTx n)))) p dA m (F.filter λx=>decide (x.n≠n))/\iD dA H (upd H' dA (.dK (Zhb (iy F) (kTx n)))):=by
 have h':=h.same s;have d':=h'.dct;have k:iD dA H' (upd H' dA (.dK (Zhb (iy F) (kTx n)))):=λb o e ne=>by rw[Zak ne];exact e
 obtain⟨dx,f⟩:=h'.fld;exact⟨⟨⟨dx,ZhZ f k d'⟩,by rw[Zao,Znm],λr hr=>Zdf (h'.str r (YAg.mp hr).1) k d',λr hr=>h.nm r (YAg.mp hr).1,h.nd.sublist (List.filter_sublist.map _),h.kok⟩,λb o e ne=>k _ _ (s _ _ e) ne⟩
def ZnZ (h:jf H1 H2 t c g la rc rg)(s:gp H H1):jf H H2 t c g la rc rg:={ h with nc:=h.nc.same s,ng:=h.ng.same s,nl:=h.nl.same s }
def TxD (H:Hp)(pT:AE)(F:List Kp):Prop:=∃F':List Kp,F'.Perm F/\H pT=some (.dK (F'.map λr=>(kTx r.n,tx r.l)))
def TxD.l (h:TxD H pT F)(s:gE H H'):TxD H' pT F:=let ⟨F',pm,e⟩:=h;⟨F',pm,s _ _ e rfl⟩
def Wd (l1 l2 m:Q11):Nat:=WS (((Zas l1 m).filter λv=>!decide (v∈Zas l2 m))++(Zas l2 m).filter λv=>!decide (v∈Zas l1 m))
def gZ.nd (h:jd xs):xs.Nodup:=ZbN h.srt
def Zp0 (h1:gN l1 m)(h2:gN l2 m){ds:Q22}(d:gT (Zas l1 m) (Zas l2 m) ds):WS ds=Wd l1 l2 m:=d.ws (Zc7 (gZ.nd (gZ h1)) (gZ.nd (gZ h2)))
def Zn1 (h1:gN l1 m)(h2:gN l2 m):Wd l1 l2 m<=400*DD:=by have d:=Zc7 (gZ.nd (gZ h1)) (gZ.nd (gZ h2));exact YAP (Zp1 λw hw=>Zel d (gZ h1) (gZ h2) hw) (Nat.mul_le_mul_right _ (Zc8 d (gZ h1) (gZ h2)))
def jL (H:Hp)(t:AE)(x:Q11×Nat):Prop:=∃u,H t=some (.tup [tx x.1,.ref u])/\H u=some (.tup [.int (frT (x.2:Nat) (DD:Nat)),.int (frB (x.2:Nat) (DD:Nat))])
def Zkx (H:Hp)(zs:List V)(R:List (Q11×Nat)):Prop:=∃rs:List (AE×Q11×Nat),zs=rs.map (λr=>V.ref r.1)/\R=rs.map (·.2)/\∀r∈rs,jL H r.1 r.2
def ltR (x y:Q11×Nat):Prop:=x.2<y.2\/(x.2=y.2/\x.1<y.1)
def ltR.trans (h:ltR x y)(g:ltR y z):ltR x z:=by
 rcases h with h | ⟨h,h'⟩<;>rcases g with g | ⟨g,g'⟩
 .exact .inl (Nat.lt_trans h g)
 .exact .inl (g▸h)
 .exact .inl (h▸g)
 .exact .inr ⟨h.trans g,List.lt_trans h' g'⟩
def ltR.asym (h:ltR x y)(g:ltR y x):False:=by
 rcases h with h | ⟨h,h'⟩<;>rcases g with g | ⟨g,g'⟩
 .exact Nat.lt_asymm h g
 .lia
 .lia
 .exact List.lt_asymm h' g'
theorem Zme {p:Q11×Nat->Bool}{x:Q11×Nat}:∀ {xs:List (Q11×Nat)},xs.Pairwise ltR->(∀y∈xs,p y=true->ltR y x)->(∀y∈xs,p y=false->ltR x y)->(xs.take (xs.filter p).length++[x]++xs.drop (xs.filter p).length).Pairwise ltR
 | [],_,_,_=>by simp
 | y::ys,hs,h1,h2=>by
  obtain⟨hy,hs⟩:=YAz.mp hs;cases e:p y with
  | true=>
   have ih:=Zme (p:=p) (x:=x) hs (λz hz=>h1 z (by simp[hz])) (λz hz=>h2 z (by simp[hz]));rw[List.filter_cons_of_pos e,YAf,List.take_succ_cons,List.drop_succ_cons,YCn,YCn,YAz];refine⟨λz hz=>?_,ih⟩;rcases YAW.mp hz with hz | hz
   .rcases YAW.mp hz with hz | hz
    .exact hy z (YAa hz)
    .rw[YAI.mp hz];exact h1 y (by simp) e
   .exact hy z (YAh hz)
  | false=>
   have lx:=h2 y (by simp) e;have no:ys.filter p=[]:=List.filter_eq_nil_iff.mpr λz hz pz=>(lx.trans (hy z hz)).asym (h1 z (by simp[hz]) pz);rw[List.filter_cons_of_neg (by simp[e]),no];show ([x]++(y::ys)).Pairwise ltR;rw[List.singleton_append,YAz,YAz];exact⟨λz hz=>(YAJ.mp hz).elim (λh=>h▸lx) (λh=>lx.trans (hy z h)),hy,hs⟩
def Zlm (xs:List α)(x:α)(k:Nat):(xs.take k++[x]++xs.drop k).Perm (xs++[x]):=by
 conv=>rhs;rw[<-YAv k xs]
 rw[YAp,YAp];exact List.perm_append_comm.append_left _
def Zp3 (l m:Q11)(F:List Kp)(R:List (Q11×Nat)):Prop:=R.Pairwise ltR/\R.Perm (F.map λr=>(r.n,Wd l r.l m))
def ZnF (x y:Nat):decide (frT (x:Nat) (DD:Nat)*frB (y:Nat) (DD:Nat)<frT (y:Nat) (DD:Nat)*frB (x:Nat) (DD:Nat))=decide (x<y):=by
 have dp:=ZeX;obtain⟨_,_,x3,_,_,ex⟩:=Zcc (a:=(x:Nat)) (b:=(DD:Nat)) ∅ ∅;obtain⟨_,_,y3,_,_,ey⟩:=Zcc (a:=(y:Nat)) (b:=(DD:Nat)) ∅ ∅;generalize frT (x:Nat) (DD:Nat)=a1 at *;generalize frB (x:Nat) (DD:Nat)=b1 at *;generalize frT (y:Nat) (DD:Nat)=a2 at *;generalize frB (y:Nat) (DD:Nat)=b2 at *;have bp:(0:Int)<b1*b2:=Int.mul_pos ∅ ∅;have dq:(0:Int)<(DD:Nat):=by lia
 have e1:a1*b2*(DD:Nat)=(b1*b2)*(x:Nat):=by rw[show a1*b2*(DD:Nat)=(a1*(DD:Nat))*b2 by ac_rfl,ex];ac_rfl
 have e2:a2*b1*(DD:Nat)=(b1*b2)*(y:Nat):=by rw[show a2*b1*(DD:Nat)=(a2*(DD:Nat))*b1 by ac_rfl,ey];ac_rfl
 rw[decide_eq_decide,<-Int.mul_lt_mul_right dq,e1,e2,Int.mul_lt_mul_left bp]
 lia
def ZpP (h1:frT (x:Nat) (DD:Nat)=frT (y:Nat) (DD:Nat))(h2:frB (x:Nat) (DD:Nat)=frB (y:Nat) (DD:Nat)):x=y:=by
 have a:=ZnF x y;have b:=ZnF y x;rw[h1,h2,decide_eq_false (Int.lt_irrefl _)]at a b;have a:=of_decide_eq_false a.symm;have b:=of_decide_eq_false b.symm
 lia
def jL.ext (h:jL H t x)(k:∀b vs,H b=some (.tup vs)->H' b=some (.tup vs)):jL H' t x:=let ⟨u,e1,e2⟩:=h;⟨u,k _ _ e1,k _ _ e2⟩
def srtF (F:List Kp):∃F':List Kp,F'.Perm F/\F'.map (·.n)=Zbn (F.map (·.n)):=by have pm:=List.mergeSort_perm F (λa b=>leT a.n b.n);refine⟨_,pm,ZbW (pm.map _) ?_⟩;rw[YBG];exact List.pairwise_mergeSort (le:=λa b:Kp=>leT a.n b.n) (λa b c h1 h2=>Zbo.mpr (List.le_trans (Zbo.mp h1) (Zbo.mp h2))) (λa b=>Bool.or_eq_true_iff.mpr ((List.le_total a.n b.n).imp Zbo.mpr Zbo.mpr)) F
def Zkn (p:α->Bool)(d:α)(R:List α):((List.range R.length).filter λi=>p (R.getD i d)).length=(R.filter p).length:=by
 have e:R=(List.range R.length).map λi=>R.getD i d:=by apply YBw (by simp);intro i h1 h2;simp[YAQ,h1]
 conv=>rhs;rw[e]
 rw[List.filter_map,YAB];rfl
def ZgV (R:List (Q11×Nat)):DT:=.l (R.map λx=>.t [.f (tx x.1),.t ([V.int (frT (x.2:Nat) (DD:Nat)),.int (frB (x.2:Nat) (DD:Nat))].map .f)])
def ZhD (h:SqL K H r zs)(d:Zkx H zs R):gx K H (ZgV R) (.ref r):=by obtain⟨rs,rfl,rfl,ha⟩:=d;unfold ZgV gx;refine⟨r,_,rfl,h,Zhh (by simp) λi y hy=>?_⟩;rw[YAK]at hy;obtain⟨x,e1,rfl⟩:=YBb.mp hy;obtain⟨u,f1,f2⟩:=ha x (YAb e1);refine⟨_,by rw[YAK,YAK,e1];rfl,?_⟩;unfold gx;refine⟨x.1,_,rfl,.mk f1,?_⟩;unfold gG;refine⟨_,_,rfl,datF rfl,?_⟩;unfold gG;refine⟨_,_,rfl,jE (.mk f2) rfl,?_⟩;unfold gG;rfl
def ZkU (R:List (Q11×Nat)):deq (ZgV R) (ZgV R)=true:=by
 unfold ZgV deq;refine Zc9 λd hd=>?_;obtain⟨x,_,rfl⟩:=YAj.mp hd;unfold deq;refine Zc9 λd hd=>?_;simp only[YAJ,YBF,or_false]at hd;rcases hd with rfl | rfl
 .unfold deq;exact Zfv rfl
 .unfold deq;exact Zcv rfl
def ZkV (R:List (Q11×Nat)):dep (ZgV R)<=60:=by
 unfold ZgV dep;refine YAP (YDK (ZfA (n:=2) λd hd=>?_)) (by decide);obtain⟨x,_,rfl⟩:=YAj.mp hd;unfold dep;refine YDK (ZfA (n:=1) λd hd=>?_);simp only[YAJ,YBF,or_false]at hd;rcases hd with rfl | rfl
 .unfold dep;exact YBC _
 .unfold dep;rw[Zcw];exact YAT _
def ZhN {N:Q22}{i:Nat}{n:Q11}(nd:N.Nodup)(h:N[i]?=some n):n∉N.take i:=λhm=>by
 obtain⟨j,hj,e⟩:=YBX hm;rw[YAX]at hj;rw[List.getElem_take]at e;obtain⟨hi,e2⟩:=YAN.mp h;have:=(List.getElem_inj nd).mp (e.trans e2.symm)
 lia
def Znr (h:gR l m):isw l m 20=true:=by have h2:=h.l20;unfold isw;rw[YAY,decide_eq_true_iff,YBL];exact⟨∅,λx hx=>by simpa using h.mem x hx⟩
def Zfa (l:Q11)(n:Nat):(Zaj l n).length<=l.length:=by unfold Zaj;rw[(ZaD _).length_eq];refine YAP (ZnP _) ?_;unfold Zcy;rw[YAB,YAt];exact YAT _
inductive j0 (l l2:Q11):List V->Prop
 | same {k:Nat}:k<Zam l->hW l l2 k->(∀j,j<k->¬hW l l2 j)->j0 l l2 [tx [115,97,109,101],tx (gS l),.int (k:Nat)]
 | unlike {n:Nat} {w:Q11}:(¬ ∃k,k<Zam l/\hW l l2 k)->j9 l l2 n w->j0 l l2 [tx [117,110,108,105,107,101],tx w]
def ZjC:x∈ic a b↔(x∈a/\x∉b)\/(x∈b/\x∉a):=by unfold ic;rw[YAW,YAg,YAg,decide_eq_true_iff,decide_eq_true_iff]
def ZfB (ls:Q22):(ddl ls).length<=ls.length:=by rw[<-Zdo];exact Zkg _
def ZlY (l:Q11)(n:Nat):(Zaj l n).length<=l.length:=by unfold Zaj Zcy;rw[(ZaD _).length_eq];refine YAP (ZfB _) ?_;rw[YAB,YAt];exact YAT _
def Zmu (a b:Q22):(ic a b).length<=a.length+b.length:=by
 unfold ic;rw[YAF];have:=YAx (λx=>decide (x∉b)) a;have:=YAx (λx=>decide (x∉a)) b
 lia
def Zky (h:a≠b)(ha:a.Pairwise (· < ·))(hb:b.Pairwise (· < ·)):∃w r,Zbn (ic (ddl a) (ddl b))=w::r/\w∈ic a b/\∀x∈ic a b,¬x<w:=by
 have mm:∀x,x∈Zbn (ic (ddl a) (ddl b))↔x∈ic a b:=λx=>by rw[(ZaD _).mem_iff,ZjC,ZjC,ZbU,ZbU]
 have pw:=Zbi (ic (ddl a) (ddl b));cases e:Zbn (ic (ddl a) (ddl b)) with
 | nil=>
  exfalso;refine Zn7 h ha hb (List.eq_nil_iff_forall_not_mem.mpr λx hx=>?_);have:=(mm x).mpr hx;rw[e]at this;cases this
 | cons w r=>
  rw[e]at pw mm;refine⟨w,r,rfl,(mm w).mp YAZ,λx hx lt=>?_⟩;rcases YAJ.mp ((mm x).mpr hx) with z | z
  .rw[z]at lt;exact YCq _ lt
  .have:=(YAz.mp pw).1 x z;unfold leT at this;rw[decide_eq_true lt]at this;cases this
def Znb (h:∀b:Bool,(b=true↔x≠y)->Q (.bl b) H):iO K true (tx x) (tx y) H Q:=.inl ⟨rfl,by rw[YAS rfl];refine h _ ?_;rw[Bool.not_eq_true',decide_eq_false_iff_not,Zds]⟩
def Zj4 (h:∀b:Bool,(b=true↔x=y)->Q (.bl b) H):iO K false (tx x) (tx y) H Q:=.inl ⟨rfl,by rw[YAL YAE];refine h _ ?_;rw[decide_eq_true_iff,Zds]⟩
def Zg9 (h:∀b:Bool,(b=true↔x=y)->Q (.bl b) H):iO K false (.int x) (.int y) H Q:=.inl ⟨rfl,by rw[YAL YAE];refine h _ ?_;rw[decide_eq_true_iff];exact⟨λe=>by injection e,λe=>by rw[e]⟩⟩
def WdA (a:Ad)(H:Hp)(p:AE)(l m:Q11)(W:Nat->Q22)(N M:Nat):Prop:=(gJ a.c_L0 H p l m/\gN l m/\W=gO l/\N=l.length+1/\M=l.length+1)\/(gJ a.c_MB H p l m/\gR l m/\W=Zaj l/\N=Zam l/\M=41)
noncomputable def Zga (W:Nat->Q22)(m:Q11)(n:Nat):Q22:=(List.range n).flatMap λk=>ZcP (W k) (W (k+1)) m
def cI (l:Q11)(i:Int):Nat:=cyc l (i % (l.length:Nat)).toNat
def ia (l s:Q11)(i:Int):Prop:=Win l s (i % (l.length:Nat)).toNat
def Zkr (h1:1<=l.length)(i:Int)(k:Nat):cyc l ((i % (l.length:Nat)).toNat+k)=cI l (i+(k:Nat)):=by unfold cI cyc;congr 1;have a:=YBR i (show ((l.length:Nat):Int)≠0 by lia);have b:=YBR (i+(k:Nat)) (show ((l.length:Nat):Int)≠0 by lia);apply Int.natCast_inj.mp;rw[Int.natCast_emod,Int.natCast_emod,Int.toNat_of_nonneg b,Int.natCast_add,Int.toNat_of_nonneg a,Int.emod_add_emod,Int.emod_emod]
def ia.iff (h1:1<=l.length):ia l s i↔∀j:Nat,j<s.length->s[j]?=some (cI l (i+(j:Nat))):=by
 unfold ia Win;constructor<;>intro h j hj<;>have:=h j hj
 .rw[this,Zkr h1]
 .rw[this,Zkr h1]
def ia.put (h1:1<=l.length)(w:ia l s i):ia l (s++[cI l (i+(s.length:Nat))]) i:=by rw[<-Zkr h1];exact Win.put w
def ia.cons (h1:1<=l.length):ia l (c::s) i↔c=cI l i/\ia l s (i+1):=by
 rw[ia.iff h1,ia.iff h1];constructor
 .intro h;refine⟨by simpa using h 0 (by simp),λj hj=>?_⟩;have:=h (j+1) (~~~hj);rw[YCP]at this;rw[this,show i+((j+1:Nat):Int)=i+1+(j:Nat) by lia]
 .rintro⟨rfl,h⟩ j hj;cases j with
  | zero=>simp
  | succ j=>rw[YCP,h j (~~~hj),show i+((j+1:Nat):Int)=i+1+(j:Nat) by lia]
def ia.left (w:ia l (s++t) i):ia l s i:=λj hj=>by have:=w j (by rw[YAF];lia);rw[YAm hj]at this;exact this
def Zmq (h1:1<=l.length)(i:Int):cI l i∈l:=by have h:=Zcg (YBh (i % (l.length:Nat)).toNat h1);rw[Zem]at h;exact YAb h
def Zms (h1:1<=l.length):atI l (i % (l.length:Nat))=some (cI l i):=by have a:=YBR i (show ((l.length:Nat):Int)≠0 by lia);have b:=YBT i (show (0:Int)<((l.length:Nat):Int) by lia);unfold atI ixN;rw[YAS a,YAS b,YDJ];exact Zcg ∅
inductive iU (l:Q11) (n:Nat):List (Bool×Nat)->Int->Prop
 | base {ds:List (Bool×Nat)} {i:Int}:ds.length=n->iU l n ds i
 | step {ds:List (Bool×Nat)} {i:Int} {c:Nat}:iU l n ds i->iU l n (ds++[(true,c),(false,cI l i)]) (i+1)
def ZhU (h:ZlO a H q m)(r:R):
  (∃(a_1 dx:AE) (fs:List (Str×V)),V.ref q=V.ref a_1/\H a_1=some (HO.ins a.c_L0 dx fs)/\fs.lookup (Str.ofString "kinds")=none/\R)\/(∃(a_1 dx:AE) (fs:List (Str×V)),V.ref q=V.ref a_1/\H a_1=some (HO.ins a.c_L2 dx fs)/\fs.lookup (Str.ofString "kinds")=none/\R)\/∃(a_1 dx:AE) (fs:List (Str×V)),V.ref q=V.ref a_1/\H a_1=some (HO.ins a.c_MB dx fs)/\fs.lookup (Str.ofString "kinds")=none/\R:=by
 rcases h with⟨l,⟨dx,f⟩|⟨la,da,ds,h⟩⟩|⟨l,dx,f⟩
 .exact .inl ⟨q,dx,_,rfl,f,Za7 (by decide +kernel) (by decide +kernel),r⟩
 .obtain⟨dx,f⟩:=id h.fld;exact .inr (.inl ⟨q,dx,_,rfl,f,sN,r⟩)
 .exact .inr (.inr ⟨q,dx,_,rfl,f,Za7 (by decide +kernel) (by decide +kernel),r⟩)
def WdA.same (h:WdA a H p l m W N M)(s:gp H H'):WdA a H' p l m W N M:=h.imp (λz=>⟨z.1.same s,z.2⟩) λz=>⟨z.1.same s,z.2⟩
def ZmA {a:Ad} {H:Hp} {p:AE} {l m:Q11} {W:Nat->Q22} {N M:Nat} {x:Str} {R1 R2:Prop} (h:WdA a H p l m W N M) (n1:¬x="own_text") (n2:¬x="own_kinds") (r1:gJ a.c_L0 H p l m->gN l m->N=l.length+1->R1) (r2:gJ a.c_MB H p l m->gR l m->N=Zam l->R2):
  (∃(a_1 dx:AE) (fs:List (Str×V)),V.ref p=V.ref a_1/\H a_1=some (HO.ins a.c_L0 dx fs)/\fs.lookup x=none/\R1)\/∃(a_1 dx:AE) (fs:List (Str×V)),V.ref p=V.ref a_1/\H a_1=some (HO.ins a.c_MB dx fs)/\fs.lookup x=none/\R2:=by
 rcases h with⟨⟨dx,f⟩,ok,_,e,_⟩|⟨⟨dx,f⟩,ok,_,e,_⟩
 .exact .inl ⟨p,dx,_,rfl,f,Za7 n1 n2,r1 ⟨dx,f⟩ ok e⟩
 .exact .inr ⟨p,dx,_,rfl,f,Za7 n1 n2,r2 ⟨dx,f⟩ ok e⟩
def Zef (sh st:Q22)(m:Q11):(ZcP sh st m).length<=sh.length*m.length:=by
 have g:∀ls:Q22,(ls.flatMap (ZdE sh st m)).length<=ls.length*m.length:=λls=>by
  induction ls with
  | nil=>simp
  | cons h ls ih=>
   rw[List.flatMap_cons,YAF,YAf,Nat.succ_mul];have:=Zee sh st m h
   lia
 exact g sh
def Zdl (W:Nat->Q22)(m:Q11)(i:Nat):Zga W m (i+1)=Zga W m i++ZcP (W i) (W (i+1)) m:=by unfold Zga;rw[YCU,List.flatMap_append,List.flatMap_singleton]
def WdA.bd (h:WdA a H p l m W N M):N<=41/\N<=M/\m.length<=4/\∀k,k<=N->(W k).length<=41/\∀w∈W k,w.length<=100:=by
 rcases h with⟨_,ok,rfl,rfl,rfl⟩|⟨_,ok,rfl,rfl,rfl⟩
 .have l40:=ok.l40;exact⟨∅,YAT _,ok.m4,λk hk=>⟨by have:=ZdR l k;lia,λw hw=>by have:=(Zbb (l:=l) ∅).mp hw;lia⟩⟩
 .have l20:=ok.l20;have r2:=(ZaX ok.l1).2.1;exact⟨∅,∅,ok.m4,λk hk=>⟨by have:=Zfa l k;lia,λw hw=>by have:=((ZaY ok.l1).mp hw).1;lia⟩⟩
theorem Zf9 {W:Nat->Q22}{m:Q11}{N:Nat}(hm:m.length<=4)(h:∀k,k<=N->(W k).length<=41):∀i,i<=N->(Zga W m i).length<=i*164
 | 0,_=>by simp[Zga]
 | i+1,hi=>by
  have ih:=Zf9 hm h i ∅;have h1:=Zef (W i) (W (i+1)) m;have h2:(W i).length*m.length<=41*4:=YDH (h i ∅) hm;rw[Zdl,YAF]
  lia
def Zib {C T:Nat->Prop}{R:Prop}(h1:(∀n,C n->T n)->R)(h2:∀n,C n->T n):R:=h1 h2
def kn (C:α->Prop)(U2:α->St)(h1:∀T:TS,(∀x,C x->T D (U2 x) H)->jz s T D U H)(h2:∀x,C x->t D (U2 x) H):jz s (Za9 t) D U H:=h1 _ λx c=>Zai (h2 x c)
def Zjw (s:gp H H2)(n:H2 r=none):H r=none:=by
 cases e:H r with
 | none=>rfl
 | some o=>rw[s _ _ e]at n;cases n
def ZgZ (np:H p=none)(nd:H dx=none)(n:upd (upd H dx o) p o2 r=none):H r=none:=Zjw (g0 (Zav nd) np) n
def seqI (C:St->Hp->Prop)(h1:∀T:TS,(∀U2 H2,C U2 H2->T D U2 H2)->jz s T D U H)(h2:∀U2 H2,C U2 H2->t D U2 H2):jz s (Za9 t) D U H:=h1 _ λ_ _ c=>Zai (h2 _ _ c)
def ifI (C1 C2:Hp->Prop)(h:∀X Y:TS,(∀H',C1 H'->X D U H')->(∀H',C2 H'->Y D U H')->ke c X Y D U H)(h1:∀H',C1 H'->s1 D U H')(h2:∀H',C2 H'->s2 D U H'):ke c (Za9 s1) (Za9 s2) D U H:=h _ _ (λH' z=>Zai (h1 H' z)) λH' z=>Zai (h2 H' z)
def iU.back (h:iU l n ds i)(g:n<ds.length):∃ds0 c,ds=ds0++[(true,c)]++[(false,cI l (i-1))]/\iU l n ds0 (i-1):=by
 cases h with
 | base e=>lia
 | step h=>exact⟨_,_,by rw[YAp,Int.add_sub_cancel];rfl,by rw[Int.add_sub_cancel];exact h⟩
def ZeZ (h1:1<=l.length)(hm:m.Pairwise (· < ·))(w:ia l s i)(hK:l.length+k<=s.length+1)(lk:l.length<=k):(Zas s m).filter (λw=>decide (w.length<=k))=Zga (Zaj l) m (Zam l):=ZkA h1 hm w hK (YAP (ZaX h1).2.1 lk)
def Zni (h0:gD a H0 p dA m F)(n1:H0 r.p=none)(n3:H0 r.da=none)(h1:gD a H1 p dA m (F++[r]))(c:Chg [r.p,r.da] H1 H2)(st:gq a.c_L2 H2 r.p la2 r.da l2 m ds2):gD a H2 p dA m (F++[⟨r.n,r.p,la2,r.da,l2,ds2⟩]):=by
 have nm:∀ {b o},H0 b=some o->b∉[r.p,r.da]:=λe=>by simp only[YAJ,YBF,or_false,not_or];exact⟨Zag e n1,Zag e n3⟩
 obtain⟨_,f0⟩:=h0.fld;obtain⟨dx,f1⟩:=h1.fld;have hr:=h1.str r (by simp);obtain⟨⟨_,_,e1⟩,_,_,e3⟩:=ZbK hr;refine⟨⟨dx,c _ _ f1 (nm f0) rfl⟩,?_,λs hs=>?_,λs hs=>?_,?_,h1.kok⟩
 .rw[c _ _ h1.dct (nm h0.dct) rfl];unfold iy;rw[YAr,YAr];rfl
 .rcases YAW.mp hs with z | z
  .obtain⟨⟨_,_,x1⟩,⟨_,x2⟩,_,x3⟩:=ZbK (h0.str s z);refine(h1.str s (by simp[z])).chg c (λb hb us y=>?_) (nm x1) (nm x2) (nm x3);rcases YAJ.mp hb with w | w
   .rw[w,e1]at y;cases y
   .rw[YAI.mp w,e3]at y;cases y
  .rw[YAI.mp z];exact st
 .rcases YAW.mp hs with z | z
  .exact h1.nm s (by simp[z])
  .rw[YAI.mp z];exact h1.nm r (by simp)
 .have:=h1.nd;rw[YAr]at this ⊢;exact this
def jQ (sl:gE H H0)(k:iD dA H0 H1)(n:H dA=none):gE H H1:=λb o e t=>k b o (sl b o e t) (Zag e n)
abbrev Ent:=Addr×Q11×Nat×AE
def frV (W:Nat):HO:=.tup [.int (frT (W:Nat) (DD:Nat)),.int (frB (W:Nat) (DD:Nat))]
def jT (H:Hp)(e:Ent):Prop:=H e.1=some (.tup [tx e.2.1,.ref e.2.2.2])/\H e.2.2.2=some (frV e.2.2.1)
def RowB (H:Hp)(e:Ent):Prop:=H e.1=some (.tup [.ref e.2.2.2,tx e.2.1])/\H e.2.2.2=some (frV e.2.2.1)
def enR (e:Ent):Q11×Nat:=(e.2.1,e.2.2.1)
theorem ZgU {α:Type}{P:AE->α->Prop}:∀ {ys:List V} {ws:List α},ys.length=ws.length->(∀(k:Nat) y,ys[k]?=some y->∃t w,y=V.ref t/\ws[k]?=some w/\P t w)->∃rs:List (AE×α),ys=rs.map (λr=>V.ref r.1)/\ws=rs.map (·.2)/\∀r∈rs,P r.1 r.2
 | [],[],_,_=>⟨[],rfl,rfl,λ_ h=>by cases h⟩
 | y::ys,w::ws,hl,h=>by obtain⟨t,w',rfl,e,p⟩:=h 0 y rfl;cases e;obtain⟨rs,e1,e2,hr⟩:=ZgU (ys:=ys) (ws:=ws) (Nat.succ.inj hl) λk y e=>h (k+1) y e;exact⟨(t,w)::rs,by rw[e1];rfl,by rw[e2];rfl,λr m=>(YAJ.mp m).elim (λz=>by rw[z];exact p) (hr r)⟩
def ZkT (h:Zkx H zs R):∃es:List Ent,zs=es.map (λe=>V.ref e.1)/\R=es.map enR/\∀e∈es,jT H e:=by
 obtain⟨rs,rfl,rfl,ha⟩:=h;induction rs with
 | nil=>exact⟨[],rfl,rfl,λ_ h=>by cases h⟩
 | cons r rs ih=>
  obtain⟨es,e1,e2,he⟩:=ih λx hx=>ha x (YAO _ hx);obtain⟨u,h1,h2⟩:=ha r YAZ;exact⟨(r.1,r.2.1,r.2.2,u)::es,by rw[YAc,e1];rfl,by rw[YAc,e2];rfl,λe m=>(YAJ.mp m).elim (λz=>by rw[z];exact⟨h1,h2⟩) (he e)⟩
def Zh3 {H:Hp}{es:List Ent}(h:∀e∈es,jT H e):Zkx H (es.map λe=>V.ref e.1) (es.map enR):=⟨es.map λe=>(e.1,enR e),by rw[YAw];rfl,by rw[YAw];rfl,λr hr=>by obtain⟨e,he,rfl⟩:=YAj.mp hr;exact⟨e.2.2.2,h e he⟩⟩
def Zl5 {α β:Type}{f:α->β}{l:List α}(h:(l.map f).Nodup){x y:α}(hx:x∈l)(hy:y∈l)(e:f x=f y):x=y:=by
 induction l with
 | nil=>cases hx
 | cons z l ih=>
  rw[YAc,YBY]at h;rcases YAJ.mp hx with rfl | kx<;>rcases YAJ.mp hy with rfl | ky
  .rfl
  .exact absurd (YAj.mpr ⟨y,ky,e.symm⟩) h.1
  .exact absurd (YAj.mpr ⟨x,kx,e⟩) h.1
  .exact ih h.2 kx ky
def srtE (ha:H a=some (.lst (es.map λe=>.ref e.1)))(hr:∀e∈es,jT H e)(nd:(es.map (·.2.1)).Nodup)(hl:es.length<=1000)(q:∀(es':List Ent) (r:AE) (H2:Hp),es'.Perm es->es'.Pairwise (λx y=>¬y.2.1<x.2.1)->gp H H2->H r=none->H2 r=some (.lst (es'.map λe=>.ref e.1))->Q (.ref r) H2):∃(a_1:AE) (rows:List (AE×KG)),[V.ref a]=[V.ref a_1]/\H a_1=some (.lst (rows.map λr=>V.ref r.1))/\(∀r∈rows,H r.1=some (.tup [tx r.2.1,.ref r.2.2]))/\rows.length<=sizeLine/\Unl (rows.map (·.2))/\∀rows':List (AE×KG),rows'.Perm rows->rows'.Pairwise (λx y=>ltG y.2.1 x.2.1=false)->gU (rows'.map λr=>V.ref r.1) H Q:=by
 refine⟨a,es.map λe=>(e.1,e.2.1,e.2.2.2),rfl,by rw[YAw];exact ha,λr h=>?_,by rw[YAB];exact YAP hl (by rw[sizeLine_eq];decide),?_,λrows' pm pw=>gU.of λr H2 s2 n2 e2=>?_⟩
 .obtain⟨e,he,rfl⟩:=YAj.mp h;exact(hr e he).1
 .rw[YAw];intro x hx y hy e;obtain⟨u,hu,rfl⟩:=YAj.mp hx;obtain⟨v,hv,rfl⟩:=YAj.mp hy;rw[Zl5 nd hu hv e]
 .obtain⟨es',p1,rfl⟩:=Zdv pm es rfl;rw[YBG]at pw;rw[YAw]at e2;exact q es' r H2 p1 (pw.imp λh=>of_decide_eq_false h) s2 n2 e2
def Zn2 (h1:gN l1 m)(h2:gN l2 m):Wd l1 l2 m=Wd l2 l1 m:=by have d:=Zc7 (gZ.nd (gZ h1)) (gZ.nd (gZ h2));exact Zp0 h2 h1 ⟨d.nd,λw=>by rw[d.mem];exact Or.comm⟩
theorem ZeH {F:List Kp}{f:Kp->Nat}(nd:(F.map (·.n)).Nodup):∀ {es es2:List Ent},es.map (·.2.1)=es2.map (·.2.1)->(∀e∈es,∃k∈F,k.n=e.2.1/\e.2.2.1=f k)->(∀e∈es2,∃k∈F,k.n=e.2.1/\e.2.2.1=f k)->es.map enR=es2.map enR
 | [],[],_,_,_=>rfl
 | e::es,d::es2,h,h1,h2=>by rw[YAc,YAc]at h;injection h with g h;obtain⟨k,kF,a1,a2⟩:=h1 e YAZ;obtain⟨j,jF,b1,b2⟩:=h2 d YAZ;have z:=Zl5 nd kF jF (by rw[a1,b1,g]);rw[YAc,YAc,ZeH nd h (λe m=>h1 e (YAO _ m)) λe m=>h2 e (YAO _ m)];unfold enR;rw[g,a2,b2,z]
def ZnE (ok:gN l m):Wd l l m=0/\frV 0=.tup [.int 0,.int 1]:=by
 have e:Wd l l m=0:=by unfold Wd;rw[List.filter_eq_nil_iff.mpr λv hv=>by simpa using hv];rfl
 have h:frT (Wd l l m:Nat) (DD:Nat)=0/\frB (Wd l l m:Nat) (DD:Nat)=1:=(Zjy ok ok (Zc7 (gZ.nd (gZ ok)) (gZ.nd (gZ ok)))).mpr rfl;rw[e]at h;refine⟨e,?_⟩;unfold frV;rw[h.1,h.2]
def ZrI (h1:H u1=some (.tup [.int (frT (x:Nat) (DD:Nat)),.int (frB (x:Nat) (DD:Nat))]))(h2:H u2=some (.tup [.int (frT (y:Nat) (DD:Nat)),.int (frB (y:Nat) (DD:Nat))]))(q:Q (.bl (decide (x=y))) H):iO K false (.ref u1) (.ref u2) H Q:=by
 refine .inr ⟨_,_,jE (.mk h1) rfl,jE (.mk h2) rfl,λz=>YAE z.1,?_,?_⟩
 .unfold dep;rw[Zcw];decide
 .rw[YAL YAE];unfold deq;rw[Zgu (λv hv w hw=>?_)]
  .rw[show decide (([V.int (frT (x:Nat) (DD:Nat)),V.int (frB (x:Nat) (DD:Nat))]:List V)=[V.int (frT (y:Nat) (DD:Nat)),V.int (frB (y:Nat) (DD:Nat))])=decide (x=y) from decide_eq_decide.mpr ⟨λe=>by injection e with e1 e2;injection e2 with e2 _;injection e1 with e1;injection e2 with e2;exact ZpP e1 e2,λe=>by rw[e]⟩]
   exact q
  .simp only[YAJ,YBF,or_false]at hv hw;rcases hv with rfl | rfl<;>rcases hw with rfl | rfl<;>(simp[eqV];rfl)
structure Wk where
 t:AE
 p:AE
 la:AE
 da:AE
 s:Q11
 ds:List (Bool×Nat)
 i:Int
 n:Nat
structure WkO (a:Ad)(H:Hp)(l m:Q11)(w:Wk):Prop where
 ls:H w.t=some (.lst [.ref w.p,.int w.i,.int (w.n:Nat)])
 st:gq a.c_L2 H w.p w.la w.da w.s m w.ds
 ln:w.s.length=w.n
 wi:ia l w.s w.i
 hi:iU l w.n w.ds w.i
 n1:w.t≠w.la
 n2:w.t≠w.da
structure ApK (v w:Wk):Prop where
 p:v.p≠w.p
 tt:v.t≠w.t
 tl:v.t≠w.la
 td:v.t≠w.da
 lt:v.la≠w.t
 ld:v.la≠w.da
 dt:v.da≠w.t
 dl:v.da≠w.la
 dd:v.da≠w.da
def ApK.symm (h:ApK v w):ApK w v:=⟨h.p.symm,h.tt.symm,h.lt.symm,h.dt.symm,h.tl.symm,h.dl.symm,h.td.symm,h.ld.symm,h.dd.symm⟩
def ZiM (hX:WkO a H l m X)(hY:WkO a H l2 m Y)(ap:ApK X Y)(c:Chg [X.t,X.p,X.da] H H2)(ht:H2 X.t=some (.lst [.ref X.p,.int i2,.int (X.n:Nat)]))(st:gq a.c_L2 H2 X.p la2 X.da s2 m ds2)(sl:s2.length=X.n)(wi:ia l s2 i2)(hi:iU l X.n ds2 i2)(nl:la2=X.la\/Nw H la2):WkO a H2 l m ⟨X.t,X.p,la2,X.da,s2,ds2,i2,X.n⟩/\WkO a H2 l2 m Y/\ApK ⟨X.t,X.p,la2,X.da,s2,ds2,i2,X.n⟩ Y:=by
 obtain⟨⟨_,_,x1⟩,⟨_,x2⟩,_,x3⟩:=ZbK hX.st;obtain⟨⟨_,_,y1⟩,⟨_,y2⟩,_,y3⟩:=ZbK hY.st;have pl:∀ {b xs},H b=some (.lst xs)->b≠X.p:=λe z=>by rw[z,x1]at e;cases e
 refine⟨⟨ht,st,sl,wi,hi,?_,hX.n2⟩,⟨c _ _ hY.ls ?_ rfl,hY.st.chg c (λb hb us z=>?_) ?_ ?_ ?_,hY.ln,hY.wi,hY.hi,hY.n1,hY.n2⟩,⟨ap.p,ap.tt,ap.tl,ap.td,?_,?_,ap.dt,ap.dl,ap.dd⟩⟩
 .exact nl.elim (λz=>by rw[z];exact hX.n1) λn=>n.ne hX.ls rfl
 .simp only[YAJ,YBF,or_false,not_or];exact⟨ap.tt.symm,pl hY.ls,ap.dt.symm⟩
 .simp only[YAJ,YBF,or_false]at hb;rcases hb with w | w | w
  .rw[w,hX.ls]at z;cases z
  .rw[w,x1]at z;cases z
  .rw[w,x3]at z;cases z
 .simp only[YAJ,YBF,or_false,not_or];exact⟨λz=>(by rw[z,hX.ls]at y1;cases y1),ap.p.symm,λz=>(by rw[z,x3]at y1;cases y1)⟩
 .simp only[YAJ,YBF,or_false,not_or];exact⟨ap.tl.symm,pl y2,ap.dl.symm⟩
 .simp only[YAJ,YBF,or_false,not_or];exact⟨ap.td.symm,pl y3,ap.dd.symm⟩
 .exact nl.elim (λz=>by rw[z];exact ap.lt) λn=>(n.ne hY.ls rfl).symm
 .exact nl.elim (λz=>by rw[z];exact ap.ld) λn=>(n.ne y3 rfl).symm
def WkO.l {a:Ad}{H H2:Hp}{l m:Q11}{w:Wk}(h:WkO a H l m w)(s:gE H H2):WkO a H2 l m w:=⟨s _ _ h.ls rfl,h.st.l s,h.ln,h.wi,h.hi,h.n1,h.n2⟩
structure NwK (H:Hp)(w:Wk):Prop where
 t:Nw H w.t
 p:Nw H w.p
 la:Nw H w.la
 da:Nw H w.da
def NwK.l (n:NwK H1 w)(s:gE H H1):NwK H w:=⟨n.t.l s,n.p.l s,n.la.l s,n.da.l s⟩
def NwK.ap {a:Ad}{H:Hp}{l m:Q11}{A B:Wk}(n:NwK H B)(h:WkO a H l m A):ApK A B:=by obtain⟨⟨_,_,x1⟩,⟨_,x2⟩,_,x3⟩:=ZbK h.st;exact⟨n.p.ne x1 rfl,n.t.ne h.ls rfl,n.la.ne h.ls rfl,n.da.ne h.ls rfl,n.t.ne x2 rfl,n.da.ne x2 rfl,n.t.ne x3 rfl,n.la.ne x3 rfl,n.da.ne x3 rfl⟩
def NeK (c:AE)(w:Wk):Prop:=c≠w.t/\c≠w.la/\c≠w.da
def NwK.ne (n:NwK H w)(e:H c=some (.lst xs)):NeK c w:=⟨n.t.ne e rfl,n.la.ne e rfl,n.da.ne e rfl⟩
def WkO.upd {a:Ad}{H:Hp}{l m:Q11}{w:Wk}{c:AE}{xs:List V}{o:HO}(h:WkO a H l m w)(e:H c=some (.lst xs))(n:NeK c w):WkO a (upd H c o) l m w:=⟨by rw[Zak n.1.symm];exact h.ls,h.st.upd e n.2.1 n.2.2,h.ln,h.wi,h.hi,h.n1,h.n2⟩
structure iX (a:Ad)(H2 H:Hp)(wL cl:AE)(cs zs:List V)(l l2 m:Q11)(A B X Y:Wk)(k:Nat):Prop where
 sl:gE H2 H
 tk:TT a H
 eW:H wL=some (.lst zs)
 eC:H cl=some (.lst cs)
 hX:WkO a H l m X
 hY:WkO a H l2 m Y
 ap:ApK X Y
 tX:X.t=A.t/\X.p=A.p/\X.da=A.da/\X.n=A.n
 tY:Y.t=B.t/\Y.p=B.p/\Y.da=B.da/\Y.n=B.n
 oX:∀b,((∃o,H2 b=some o/\Zc4 o=false)\/b=wL\/b=cl)->b∉[A.t,A.p,A.da]
 oY:∀b,((∃o,H2 b=some o/\Zc4 o=false)\/b=wL\/b=cl)->b∉[B.t,B.p,B.da]
 kX:X.ds.length<=24+2*k
 kY:Y.ds.length<=24+2*k
section
def iX.swap (h:iX a H2 H wL cl cs zs l l2 m A B X Y k):iX a H2 H wL cl cs zs l2 l m B A Y X k:=⟨h.sl,h.tk,h.eW,h.eC,h.hY,h.hX,h.ap.symm,h.tY,h.tX,h.oY,h.oX,h.kY,h.kX⟩
def iX.step (h:iX a H2 H wL cl cs zs l l2 m A B X Y k)(c:Chg [X.t,X.p,X.da] H H3)(tk:TT a H3)(ht:H3 X.t=some (.lst [.ref X.p,.int i2,.int (X.n:Nat)]))(st:gq a.c_L2 H3 X.p la2 X.da s2 m ds2)(sl:s2.length=X.n)(wi:ia l s2 i2)(hi:iU l X.n ds2 i2)(nl:la2=X.la\/Nw H la2)(dl:ds2.length<=X.ds.length+2):iX a H2 H3 wL cl cs zs l l2 m A B ⟨X.t,X.p,la2,X.da,s2,ds2,i2,X.n⟩ Y (k+1):=by obtain⟨w1,w2,w3⟩:=ZiM h.hX h.hY h.ap c ht st sl wi hi nl;have o:=h.oX;obtain⟨e1,e2,e3,e4⟩:=h.tX;rw[<-e1,<-e2,<-e3]at o;have kX:=h.kX;have kY:=h.kY;exact⟨λb u e t=>c _ _ (h.sl _ _ e t) (o b (.inl ⟨u,e,t⟩)) t,tk,c _ _ h.eW (o _ (.inr (.inl rfl))) rfl,c _ _ h.eC (o _ (.inr (.inr rfl))) rfl,w1,w2,w3,h.tX,h.tY,h.oX,h.oY,by show ds2.length<=_;lia,∅⟩
end
def jd.filter (h:jd xs)(p:Q11->Bool):jd (xs.filter p):=⟨h.srt.filter _,YAP (YAx _ _) h.len,λw hw=>h.w w (YAg.mp hw).1⟩
def ZlH {L1 L2 M1 M2 ds ds2:Q22}{k:Nat}(h1:L1.filter (λw=>decide (w.length<=k))=M1)(h2:L2.filter (λw=>decide (w.length<=k))=M2)(d:gT L1 L2 ds)(p:ds.Pairwise g9)(d2:gT M1 M2 ds2)(p2:ds2.Pairwise g9):ds.filter (λw=>decide (w.length<=k))=ds2/\ZdF ds2 L1=ZdF ds2 M1:=by
 subst h1 h2;have e:ds.filter (λw=>decide (w.length<=k))=ds2:=by
  refine Zbl (p.filter _) p2 λw=>?_;rw[YAg,d.mem,d2.mem,YAg,YAg,decide_eq_true_iff]
  grind
 refine⟨e,?_⟩;unfold ZdF;congr 1;refine YBm λw hw=>?_;rw[<-e]at hw;have:=(YAg.mp hw).2;by_cases z:w∈L1
 .rw[YAS z,YAS (YAg.mpr ⟨z,this⟩)]
 .rw[YAL z,YAL λy=>z (YAg.mp y).1]
def ZlF {M1 M2 ds:Q22}(d:gT M1 M2 ds)(p1:M1.Pairwise g9)(p2:M2.Pairwise g9):ds=[]↔M1=M2:=by
 constructor
 .rintro rfl;refine Zbl p1 p2 λw=>?_;have:=d.mem w
  grind
 .rintro rfl;refine List.eq_nil_iff_forall_not_mem.mpr λw hw=>?_;have:=(d.mem w).mp hw
  grind
def Zkb (ds xs:Q22):deq (ZdF ds xs) (ZdF [] [])=decide (ds=[]):=by
 cases ds with
 | nil=>rfl
 | cons w ds=>rfl
def j0.iff (h:j0 l l2 d):∃w r,d=tx w::r/\(w=[115,97,109,101]↔∃k,k<Zam l/\hW l l2 k):=by
 cases h with
 | same h1 h2 h3=>exact⟨_,_,rfl,λ_=>⟨_,h1,h2⟩,λ_=>rfl⟩
 | unlike h1 h2=>exact⟨_,_,rfl,λe=>(by cases e),λz=>absurd z h1⟩
def nmA:Q22:=[[98],[98,97],[97],[99]]
def nmL (r:Nat):Q22:=(List.range 4).map λi=>nmA.getD ((r+3*i) % 4) []
def Zph (h:r<4):(nmL r).Nodup/\∀n∈nmL r,isn n=true:=by
 match r,h with
 | 0,_=>decide +kernel
 | 1,_=>decide +kernel
 | 2,_=>decide +kernel
 | 3,_=>decide +kernel
inductive sp_LI (K:Q4)(a:Ad)(vs:List V)(H:Hp)(Q:VK)(E:XK):Prop|mk(l m)(_:vs=[tx l,tx m])(_:l.length<=1000)(_:∀H2,gp H H2->Q (.bl (l.all λc=>m.contains c)) H2)
inductive sp_LK (K:Q4)(a:Ad)(vs:List V)(H:Hp)(Q:VK)(E:XK):Prop|mk(l)(_:vs=[tx l])(_:l.length<=1000)(_:∀H2,gp H H2->Q (.bl (isk l)) H2)
inductive sp_LO (K:Q4)(a:Ad)(vs:List V)(H:Hp)(Q:VK)(E:XK):Prop|mk(l m most)(_:vs=[tx l,tx m,.int most])(_:l.length<=1000)(_:∀H2,gp H H2->Q (.bl (isw l m most)) H2)
inductive sp_K5 (K:Q4)(a:Ad)(vs:List V)(H:Hp)(Q:VK)(E:XK):Prop|mk(l)(_:vs=[tx l])(_:l.length<=1000)(_:isk l=true)(_:∀H2,gp H H2->Q .non H2)
inductive sp_LF (K:Q4)(a:Ad)(vs:List V)(H:Hp)(Q:VK)(E:XK):Prop|mk(l m most)(_:vs=[tx l,tx m,.int most])(_:l.length<=1000)(_:isw l m most=true)(_:∀H2,gp H H2->Q .non H2)
inductive sp_LY (K:Q4)(a:Ad)(vs:List V)(H:Hp)(Q:VK)(E:XK):Prop|mk(l:Q11)(n:Nat)(_:vs=[tx l,.int n])(_:l.length<=200)(_:n<=l.length+1)(_:l.length<n+63)(_:∀p H2,gp H H2->H p=none->H2 p=some (.lst ((gO l n).map tx))->Q (.ref p) H2)
inductive sp_L3 (K:Q4)(a:Ad)(vs:List V)(H:Hp)(Q:VK)(E:XK):Prop|mk(b1 b2:AE)(sh st:Q22)(m:Q11)(_:vs=[.ref b1,.ref b2,tx m])(_:H b1=some (.lst (sh.map tx)))(_:H b2=some (.lst (st.map tx)))(_:sh.length<=100)(_:m.length<=4)(_:(∀w∈sh,w.length<=100))(_:∀p H2,gp H H2->H p=none->H2 p=some (.lst ((ZcP sh st m).map tx))->Q (.ref p) H2)
inductive sp_KX (K:Q4)(a:Ad)(vs:List V)(H:Hp)(Q:VK)(E:XK):Prop|mk(p dx:AE)(l m:Q11)(_:vs=[.ref p,tx l,tx m])(_:H p=some (.ins a.c_L0 dx []))(_:gN l m)(_:∀H2,gJ a.c_L0 H2 p l m->(∀b o,H b=some o->b≠p->H2 b=some o)->Q .non H2)
inductive sp_KB (K:Q4)(a:Ad)(vs:List V)(H:Hp)(Q:VK)(E:XK):Prop|mk(p:AE)(l m:Q11)(n:Nat)(_:vs=[.ref p,.int n])(_:gJ a.c_L0 H p l m)(_:Q (tx l) H)
inductive sp_KT (K:Q4)(a:Ad)(vs:List V)(H:Hp)(Q:VK)(E:XK):Prop|mk(p:AE)(l m:Q11)(_:vs=[.ref p])(_:gJ a.c_L0 H p l m)(_:gN l m)(_:Q (.int ((l.length:Nat)+1)) H)
inductive sp_LJ (K:Q4)(a:Ad)(vs:List V)(H:Hp)(Q:VK)(E:XK):Prop|mk(p:AE)(ws:Q22)(_:vs=[.ref p])(_:H p=some (.lst (ws.map tx)))(_:(∀w∈ws,w.length<=1000))(_:TT a H)(_:∀(ws':Q22) (r:AE) (H2:Hp),ws'.Perm ws->ws'.Pairwise (λa b=>¬g9 b a)->gE H H2->TT a H2->H r=none->H2 r=some (.lst (ws'.map tx))->Q (.ref r) H2)
inductive sp_L6 (K:Q4)(a:Ad)(vs:List V)(H:Hp)(Q:VK)(E:XK):Prop|mk(l x:Q11)(_:vs=[tx l,tx x])(_:l.length<=1000)(_:x.length<=1000)(_:Q (.bl (ZjM l x)) H)
inductive sp_L5 (K:Q4)(a:Ad)(vs:List V)(H:Hp)(Q:VK)(E:XK):Prop|mk(s L:Q11)(_:vs=[tx s,tx L])(_:L.length<=41)(_:Ext s L)(_:TT a H)(_:∀(F:Q22) (r:AE) (H2:Hp),F.Pairwise g9->(∀w,w∈F↔Frs s L w)->gE H H2->TT a H2->Nw H r->H2 r=some (.lst (F.map tx))->Q (.ref r) H2)
inductive sp_LS (K:Q4)(a:Ad)(vs:List V)(H:Hp)(Q:VK)(E:XK):Prop|mk(s L rs m:Q11)(_:vs=[tx s,tx L,tx rs])(_:L.length<=41)(_:Ext s L)(_:(∀x∈L,x∈m))(_:m.Pairwise (· < ·))(_:TT a H)(_:∀(ys:List V) (r:AE) (H2:Hp),gE H H2->TT a H2->Nw H r->H2 r=some (.lst ys)->iu H2 ys (ZdZ rs s L m)->Q (.ref r) H2)
inductive sp_LX (K:Q4)(a:Ad)(vs:List V)(H:Hp)(Q:VK)(E:XK):Prop|mk(s L rs m:Q11)(_:vs=[tx s,tx L,tx m,tx rs])(_:L.length<=41)(_:Ext s L)(_:(∀x∈L,x∈m))(_:m.Pairwise (· < ·))(_:m.length<=4)(_:TT a H)(_:∀(ys:List V) (r:AE) (H2:Hp),gE H H2->TT a H2->Nw H r->H2 r=some (.lst ys)->iu H2 ys (ZdC rs s L m)->Q (.ref r) H2)
inductive sp_KF (K:Q4)(a:Ad)(vs:List V)(H:Hp)(Q:VK)(E:XK):Prop|mk(p la da:AE)(l m:Q11)(ds:List (Bool×Nat))(_:vs=[.ref p])(_:gq a.c_L2 H p la da l m ds)(_:∀r,H r=none->Q (.ref r) (upd H r (.lst ((Zas l m).map tx))))
inductive sp_KQ (K:Q4)(a:Ad)(vs:List V)(H:Hp)(Q:VK)(E:XK):Prop|mk(p la da:AE)(l m:Q11)(ds:List (Bool×Nat))(_:vs=[.ref p])(_:gq a.c_L2 H p la da l m ds)(_:∀r ts,H r=none->g6 H ts ds->Q (.ref r) (upd H r (.lst ts)))
inductive sp_KK (K:Q4)(a:Ad)(vs:List V)(H:Hp)(Q:VK)(E:XK):Prop|mk(p la da c g:AE)(l l2 m:Q11)(old new:Q22)(ys zs:List V)(rc rg:List (Q11×List V))(_:vs=[.ref p,tx l2,.ref c,.ref g])(_:ZdA a.c_L2 H p la da l m)(_:H la=some (.lst (old.map tx)))(_:H c=some (.lst ys))(_:iu H ys rc)(_:H g=some (.lst zs))(_:iu H zs rg)(_:old.Pairwise g9)(_:new.Pairwise g9)(_:(rc.map (·.1)).Nodup)(_:(∀w,w∈rc.map (·.1)↔w∈new/\w∉old))(_:(∀w,w∈rg.map (·.1)↔w∈old/\w∉new))(_:old.length<=9000)(_:rc.length<=9000)(_:rg.length<=9000)(_:(∀w∈old,w.length<=1000))(_:(∀w∈new,w.length<=1000))(_:TT a H)(_:∀(t la2:AE) (H2:Hp),Chg [p] H H2->ZdA a.c_L2 H2 p la2 da l2 m->Nw H la2->H2 la2=some (.lst (new.map tx))->H2 t=some (.tup [.ref c,.ref g])->TT a H2->Q (.ref t) H2)
inductive sp_K3 (K:Q4)(a:Ad)(vs:List V)(H:Hp)(Q:VK)(E:XK):Prop|mk(p la da:AE)(s L m:Q11)(_:vs=[.ref p,tx L])(_:ZdA a.c_L2 H p la da s m)(_:H la=some (.lst ((Zas s m).map tx)))(_:L.length<=40)(_:Ext s L)(_:(∀x∈L,x∈m))(_:iS m)(_:TT a H)(_:∀(t c g la2:AE) (H2:Hp),Chg [p] H H2->ZdA a.c_L2 H2 p la2 da L m->H2 la2=some (.lst ((Zas L m).map tx))->jf H H2 t c g la2 (ZdC [102,105,114,115,116] s L m) (ZdZ [115,116,97,110,100,115] s L m)->TT a H2->Q (.ref t) H2)
inductive sp_KM (K:Q4)(a:Ad)(vs:List V)(H:Hp)(Q:VK)(E:XK):Prop|mk(p la da:AE)(s L m:Q11)(_:vs=[.ref p,tx s])(_:ZdA a.c_L2 H p la da L m)(_:H la=some (.lst ((Zas L m).map tx)))(_:L.length<=40)(_:Ext s L)(_:(∀x∈L,x∈m))(_:iS m)(_:TT a H)(_:∀(t c g la2:AE) (H2:Hp),Chg [p] H H2->ZdA a.c_L2 H2 p la2 da s m->H2 la2=some (.lst ((Zas s m).map tx))->jf H H2 t c g la2 (ZdZ [115,116,111,111,100] s L m) (ZdC [108,97,115,116] s L m)->TT a H2->Q (.ref t) H2)
inductive sp_K7 (K:Q4)(a:Ad)(vs:List V)(H:Hp)(Q:VK)(E:XK):Prop|mk(p dx C:AE)(l m:Q11)(_:vs=[.ref p,tx l,tx m])(_:(C=a.c_L0\/C=a.c_L2\/C=a.c_MB))(_:H p=some (.ins C dx []))(_:∀H2,H2 p=some (.ins C dx (gM "own_kinds" (tx m) (gM "own_text" (tx l) [])))->(∀b o,H b=some o->b≠p->H2 b=some o)->Q .non H2)
inductive sp_LE (K:Q4)(a:Ad)(vs:List V)(H:Hp)(Q:VK)(E:XK):Prop|mk(l m)(_:vs=[tx l,tx m])(_:l.length<=1000)(_:∀H2,gp H H2->Q (.bl (isl l m)) H2)
inductive sp_KR (K:Q4)(a:Ad)(vs:List V)(H:Hp)(Q:VK)(E:XK):Prop|mk(l m)(_:vs=[tx l,tx m])(_:l.length<=1000)(_:isl l m=true)(_:∀H2,gp H H2->Q .non H2)
inductive sp_K4 (K:Q4)(a:Ad)(vs:List V)(H:Hp)(Q:VK)(E:XK):Prop|mk(p dx:AE)(m:Q11)(_:vs=[.ref p,tx m])(_:H p=some (.ins a.c_L2 dx []))(_:KOk m)(_:∀la da H2,gq a.c_L2 H2 p la da [] m []->H la=none->H da=none->(∀b o,H b=some o->b≠p->H2 b=some o)->Q .non H2)
inductive sp_LD (K:Q4)(a:Ad)(vs:List V)(H:Hp)(Q:VK)(E:XK):Prop|mk(p la da:AE)(l m:Q11)(ds:List (Bool×Nat))(c0:Nat)(_:vs=[.ref p,tx [c0]])(_:gq a.c_L2 H p la da l m ds)(_:ds.length<=9000)(_:TT a H)(_:c0∈m)(_:l.length<40)(_:∀(t c g la2:AE) (H2:Hp),Chg [p,da] H H2->gq a.c_L2 H2 p la2 da (l++[c0]) m (ds++[(true,c0)])->jf H H2 t c g la2 (ZdC [102,105,114,115,116] l (l++[c0]) m) (ZdZ [115,116,97,110,100,115] l (l++[c0]) m)->TT a H2->Q (.ref t) H2)
inductive sp_K2 (K:Q4)(a:Ad)(vs:List V)(H:Hp)(Q:VK)(E:XK):Prop|mk(p la da:AE)(c0:Nat)(l0 m:Q11)(ds:List (Bool×Nat))(_:vs=[.ref p])(_:gq a.c_L2 H p la da (c0::l0) m ds)(_:ds.length<=9000)(_:TT a H)(_:∀(t c g la2:AE) (H2:Hp),Chg [p,da] H H2->gq a.c_L2 H2 p la2 da l0 m (ds++[(false,c0)])->jf H H2 t c g la2 (ZdZ [115,116,111,111,100] l0 (c0::l0) m) (ZdC [108,97,115,116] l0 (c0::l0) m)->TT a H2->Q (.ref t) H2)
inductive sp_K1 (K:Q4)(a:Ad)(vs:List V)(H:Hp)(Q:VK)(E:XK):Prop|mk(p la da:AE)(l m:Q11)(ds:List (Bool×Nat))(_:vs=[.ref p])(_:gq a.c_L2 H p la da l m ds)(_:ds.length<=9000)(_:TT a H)(_:((∃ds0 c0 l0,ds=ds0++[(true,c0)]/\l=l0++[c0]/\∀(t c g la2:AE) (H2:Hp),Chg [p,da] H H2->gq a.c_L2 H2 p la2 da l0 m ds0->jf H H2 t c g la2 (ZdZ [115,116,111,111,100] l0 (l0++[c0]) m) (ZdC [108,97,115,116] l0 (l0++[c0]) m)->TT a H2->Q (.ref t) H2)\/(∃ds0 c0,ds=ds0++[(false,c0)]/\∀(t c g la2:AE) (H2:Hp),Chg [p,da] H H2->gq a.c_L2 H2 p la2 da (c0::l) m ds0->jf H H2 t c g la2 (ZdC [102,105,114,115,116] l (c0::l) m) (ZdZ [115,116,97,110,100,115] l (c0::l) m)->TT a H2->Q (.ref t) H2)))
inductive sp_KL (K:Q4)(a:Ad)(vs:List V)(H:Hp)(Q:VK)(E:XK):Prop|mk(p la da:AE)(l m:Q11)(ds:List (Bool×Nat))(_:vs=[.ref p])(_:gq a.c_L2 H p la da l m ds)(_:∀(p2 la2 da2:AE) (H2:Hp),gp H H2->gq a.c_L2 H2 p2 la2 da2 l m ds->H p2=none->H la2=none->H da2=none->Q (.ref p2) H2)
inductive sp_L7 (K:Q4)(a:Ad)(vs:List V)(H:Hp)(Q:VK)(E:XK):Prop|mk(b:AE)(ns:List Int)(k:Int)(_:vs=[.ref b,.int k])(_:SqL K H b (ns.map V.int))(_:0<=k)(_:k<=1000)(_:∀r:Int,Q (.int r) H)
inductive sp_L9 (K:Q4)(a:Ad)(vs:List V)(H:Hp)(Q:VK)(E:XK):Prop|mk(c k)(_:vs=[.int c,.int k])(_:∀r:Int,0<=r->Q (.int r) H)
inductive sp_LU (K:Q4)(a:Ad)(vs:List V)(H:Hp)(Q:VK)(E:XK):Prop|mk(c)(_:vs=[.int c])(_:∀m,isk m=true->1<=m.length->m.length<=4->Q (tx m) H)
inductive sp_LP (K:Q4)(a:Ad)(vs:List V)(H:Hp)(Q:VK)(E:XK):Prop|mk(w c:Int)(m:Q11)(n:Nat)(_:vs=[.int w,.int c,tx m,.int n])(_:1<=m.length)(_:m.length<=4)(_:n<=60)(_:∀(l:Q11) H2,l.length=n->(∀x∈l,x∈m)->gp H H2->Q (tx l) H2)
inductive sp_MC (K:Q4)(a:Ad)(vs:List V)(H:Hp)(Q:VK)(E:XK):Prop|mk(x y:Int)(_:vs=[.int x,.int y])(_:0<=x)(_:0<=y)(_:Q (.int (Int.gcd x y:Nat)) H)
inductive sp_LH (K:Q4)(a:Ad)(vs:List V)(H:Hp)(Q:VK)(E:XK):Prop|mk(x y:Int)(n:Nat)(_:vs=[.int x,.int y])(_:0<=x)(_:0<y)(_:Bt n y)(_:n<=8000)(_:∀p H2,gp H H2->H2 p=some (.tup [.int (frT x y),.int (frB x y)])->Q (.ref p) H2)
inductive sp_MD (K:Q4)(a:Ad)(vs:List V)(H:Hp)(Q:VK)(E:XK):Prop|mk(p q:AE)(x y z u:Int)(n:Nat)(_:vs=[.ref p,.ref q])(_:H p=some (.tup [.int x,.int y]))(_:H q=some (.tup [.int z,.int u]))(_:0<y)(_:0<u)(_:Bt n x)(_:Bt n y)(_:Bt n z)(_:Bt n u)(_:n<=3900)(_:∀p H2,gp H H2->H2 p=some (.tup [.int (frT (x*u+z*y) (y*u)),.int (frB (x*u+z*y) (y*u))])->Q (.ref p) H2)
inductive sp_L4 (K:Q4)(a:Ad)(vs:List V)(H:Hp)(Q:VK)(E:XK):Prop|mk(p q:AE)(x y:Nat)(_:vs=[.ref p,.ref q])(_:H p=some (.tup [.int (frT (x:Nat) (DD:Nat)),.int (frB (x:Nat) (DD:Nat))]))(_:H q=some (.tup [.int (frT (y:Nat) (DD:Nat)),.int (frB (y:Nat) (DD:Nat))]))(_:x<=400*DD)(_:y<=400*DD)(_:Q (.bl (decide (x<y))) H)
inductive sp_LG (K:Q4)(a:Ad)(vs:List V)(H:Hp)(Q:VK)(E:XK):Prop|mk(p1 p2:AE)(l1 l2 m:Q11)(_:vs=[.ref p1,.ref p2])(_:iL a H p1 l1 m)(_:iL a H p2 l2 m)(_:TT a H)(_:gN l1 m)(_:gN l2 m)(_:∀(t:AE) (H2:Hp),gE H H2->TT a H2->H2 t=some (.tup [.int (frT (Wd l1 l2 m:Nat) (DD:Nat)),.int (frB (Wd l1 l2 m:Nat) (DD:Nat))])->Q (.ref t) H2)
inductive sp_LN (K:Q4)(a:Ad)(vs:List V)(H:Hp)(Q:VK)(E:XK):Prop|mk(n)(_:vs=[tx n])(_:isn n=true)(_:∀H2,gp H H2->Q (.bl true) H2)
inductive sp_KZ (K:Q4)(a:Ad)(vs:List V)(H:Hp)(Q:VK)(E:XK):Prop|mk(p dx:AE)(m:Q11)(_:vs=[.ref p,tx m])(_:H p=some (.ins a.c_L1 dx []))(_:KOk m)(_:∀dA H2,gD a H2 p dA m []->H dA=none->(∀b o,H b=some o->b≠p->H2 b=some o)->Q .non H2)
inductive sp_KN (K:Q4)(a:Ad)(vs:List V)(H:Hp)(Q:VK)(E:XK):Prop|mk(p dA:AE)(m:Q11)(F:List Kp)(_:vs=[.ref p])(_:gD a H p dA m F)(_:Q (tx m) H)
inductive sp_KA (K:Q4)(a:Ad)(vs:List V)(H:Hp)(Q:VK)(E:XK):Prop|mk(p dA:AE)(m:Q11)(F:List Kp)(n:Q11)(_:vs=[.ref p,tx n])(_:gD a H p dA m F)(_:isn n=true)(_:(∀r∈F,r.n≠n))(_:∀H2,gp H H2->Q .non H2)
inductive sp_LB (K:Q4)(a:Ad)(vs:List V)(H:Hp)(Q:VK)(E:XK):Prop|mk(p dA q la da:AE)(l m n:Q11)(ds:List (Bool×Nat))(F:List Kp)(_:vs=[.ref p,tx n,.ref q])(_:gD a H p dA m F)(_:gq a.c_L2 H q la da l m ds)(_:isn n=true)(_:(∀r∈F,r.n≠n))(_:F.length<=1000)(_:∀(r:Kp) (H2:Hp),r.n=n->r.l=l->r.ds=ds->H r.p=none->H r.la=none->H r.da=none->iD dA H H2->gD a H2 p dA m (F++[r])->Q .non H2)
inductive sp_KO (K:Q4)(a:Ad)(vs:List V)(H:Hp)(Q:VK)(E:XK):Prop|mk(p dA:AE)(m:Q11)(F:List Kp)(_:vs=[.ref p])(_:gD a H p dA m F)(_:F.length<=1000)(_:∀r H2,gp H H2->H r=none->H2 r=some (.lst ((Zbn (F.map (·.n))).map tx))->Q (.ref r) H2)
inductive sp_K0 (K:Q4)(a:Ad)(vs:List V)(H:Hp)(Q:VK)(E:XK):Prop|mk(p dA:AE)(m:Q11)(F:List Kp)(r:Kp)(_:vs=[.ref p,tx r.n])(_:gD a H p dA m F)(_:r∈F)(_:∀H2,gp H H2->Q (.ref r.p) H2)
inductive sp_KP (K:Q4)(a:Ad)(vs:List V)(H:Hp)(Q:VK)(E:XK):Prop|mk(p dA:AE)(m:Q11)(F:List Kp)(r:Kp)(_:vs=[.ref p,tx r.n])(_:gD a H p dA m F)(_:r∈F)(_:∀(p2 la2 da2:AE) (H2:Hp),gp H H2->gq a.c_L2 H2 p2 la2 da2 r.l m r.ds->H p2=none->H la2=none->H da2=none->Q (.ref p2) H2)
inductive sp_LC (K:Q4)(a:Ad)(vs:List V)(H:Hp)(Q:VK)(E:XK):Prop|mk(p dA:AE)(m:Q11)(F:List Kp)(r:Kp)(c0:Nat)(_:vs=[.ref p,tx r.n,tx [c0]])(_:gD a H p dA m F)(_:r∈F)(_:TT a H)(_:r.ds.length<=9000)(_:c0∈m)(_:r.l.length<40)(_:∀(t c g la2:AE) (H2:Hp),Chg [r.p,r.da] H H2->gq a.c_L2 H2 r.p la2 r.da (r.l++[c0]) m (r.ds++[(true,c0)])->jf H H2 t c g la2 (ZdC [102,105,114,115,116] r.l (r.l++[c0]) m) (ZdZ [115,116,97,110,100,115] r.l (r.l++[c0]) m)->TT a H2->Q (.ref t) H2)
inductive sp_KJ (K:Q4)(a:Ad)(vs:List V)(H:Hp)(Q:VK)(E:XK):Prop|mk(p q dA:AE)(l m:Q11)(F:List Kp)(_:vs=[.ref p,.ref q])(_:gD a H p dA m F)(_:iL a H q l m)(_:gN l m)(_:F.length<=1000)(_:TT a H)(_:∀(t:AE) (zs:List V) (R:List (Q11×Nat)) (H2:Hp),gE H H2->TT a H2->Nw H t->H2 t=some (.lst zs)->Zkx H2 zs R->Zp3 l m F R->Q (.ref t) H2)
inductive sp_K9 (K:Q4)(a:Ad)(vs:List V)(H:Hp)(Q:VK)(E:XK):Prop|mk(p dx:AE)(l m:Q11)(_:vs=[.ref p,tx l,tx m])(_:H p=some (.ins a.c_MB dx []))(_:gR l m)(_:∀H2,gJ a.c_MB H2 p l m->(∀b o,H b=some o->b≠p->H2 b=some o)->Q .non H2)
inductive sp_KD (K:Q4)(a:Ad)(vs:List V)(H:Hp)(Q:VK)(E:XK):Prop|mk(p:AE)(l m:Q11)(n:Nat)(_:vs=[.ref p,.int n])(_:gJ a.c_MB H p l m)(_:gR l m)(_:n<=60)(_:Q (tx (ii l n)) H)
inductive sp_LA (K:Q4)(a:Ad)(vs:List V)(H:Hp)(Q:VK)(E:XK):Prop|mk(p:AE)(l m:Q11)(_:vs=[.ref p])(_:gJ a.c_MB H p l m)(_:gR l m)(_:Q (tx (gS l)) H)
inductive sp_KY (K:Q4)(a:Ad)(vs:List V)(H:Hp)(Q:VK)(E:XK):Prop|mk(p:AE)(l m:Q11)(_:vs=[.ref p])(_:gJ a.c_MB H p l m)(_:gR l m)(_:Q (.int ((gS l).length:Nat)) H)
inductive sp_K8 (K:Q4)(a:Ad)(vs:List V)(H:Hp)(Q:VK)(E:XK):Prop|mk(p la da:AE)(l m:Q11)(ds:List (Bool×Nat))(_:vs=[.ref p])(_:gq a.c_L2 H p la da l m ds)(_:Q (tx l) H)
inductive sp_K6 (K:Q4)(a:Ad)(vs:List V)(H:Hp)(Q:VK)(E:XK):Prop|mk(p q:AE)(m:Q11)(_:vs=[.ref p,.ref q])(_:ZrL a H p m)(_:ZlO a H q m)(_:Q .non H)
inductive sp_KS (K:Q4)(a:Ad)(vs:List V)(H:Hp)(Q:VK)(E:XK):Prop|mk(p:AE)(m:Q11)(_:vs=[.ref p])(_:ZlO a H p m)(_:Q (tx m) H)
inductive sp_KU (K:Q4)(a:Ad)(vs:List V)(H:Hp)(Q:VK)(E:XK):Prop|mk(p:AE)(l m:Q11)(n N M:Nat)(W:Nat->Q22)(_:vs=[.ref p,.int n])(_:WdA a H p l m W N M)(_:n<=M)(_:∀q H2,gp H H2->H q=none->H2 q=some (.lst ((W n).map tx))->Q (.ref q) H2)
inductive sp_KG (K:Q4)(a:Ad)(vs:List V)(H:Hp)(Q:VK)(E:XK):Prop|mk(p:AE)(l m:Q11)(N M:Nat)(W:Nat->Q22)(_:vs=[.ref p])(_:WdA a H p l m W N M)(_:∀q H2,gp H H2->H q=none->H2 q=some (.lst ((Zga W m N).map tx))->Q (.ref q) H2)
inductive sp_LR (K:Q4)(a:Ad)(vs:List V)(H:Hp)(Q:VK)(E:XK):Prop|mk(p1 p2:AE)(l1 l2 m:Q11)(_:vs=[.ref p1,.ref p2])(_:iL a H p1 l1 m)(_:iL a H p2 l2 m)(_:TT a H)(_:gN l1 m)(_:gN l2 m)(_:∀(r:AE) (zs:List V) (ds:Q22) (H2:Hp),gE H H2->TT a H2->Nw H r->H2 r=some (.lst zs)->ZlP H2 zs ds (Zas l1 m)->gT (Zas l1 m) (Zas l2 m) ds->ds.Pairwise g9->Q (.ref r) H2)
inductive sp_LL (K:Q4)(a:Ad)(vs:List V)(H:Hp)(Q:VK)(E:XK):Prop|mk(p p2:AE)(l m l2:Q11)(_:vs=[.ref p,.ref p2])(_:gJ a.c_MB H p l m)(_:gJ a.c_MB H p2 l2 m)(_:gR l m)(_:gR l2 m)(_:(¬ ∃k,k<Zam l/\hW l l2 k))(_:∀n w H2,j9 l l2 n w->gp H H2->Q (tx w) H2)
inductive sp_ME (K:Q4)(a:Ad)(vs:List V)(H:Hp)(Q:VK)(E:XK):Prop|mk(p p2:AE)(l m l2:Q11)(_:vs=[.ref p,.ref p2])(_:gJ a.c_MB H p l m)(_:gJ a.c_MB H p2 l2 m)(_:gR l m)(_:gR l2 m)(_:∀t d H2,gp H H2->j0 l l2 d->H2 t=some (.tup d)->Q (.ref t) H2)
inductive sp_LV (K:Q4)(a:Ad)(vs:List V)(H:Hp)(Q:VK)(E:XK):Prop|mk(b:AE)(ns:List Int)(m:Q11)(_:vs=[.ref b,tx m])(_:SqL K H b (ns.map V.int))(_:KOk m)(_:∀(t:AE) (l l2:Q11) (H2:Hp),gp H H2->H t=none->H2 t=some (.lst [tx l,tx l2])->gR l m->gR l2 m->l.length<=8->l2.length<=8->Q (.ref t) H2)
inductive sp_LZ (K:Q4)(a:Ad)(vs:List V)(H:Hp)(Q:VK)(E:XK):Prop|mk(l:Q11)(i:Int)(n:Nat)(_:vs=[tx l,.int i,.int (n:Nat)])(_:1<=l.length)(_:l.length<=8)(_:n<=40)(_:∀s,s.length=n->ia l s i->Q (tx s) H)
inductive sp_L8 (K:Q4)(a:Ad)(vs:List V)(H:Hp)(Q:VK)(E:XK):Prop|mk(l m:Q11)(c:Int)(g:Nat)(_:vs=[tx l,tx m,.int c,.int (g:Nat)])(_:gR l m)(_:l.length<=g)(_:g<=8)(_:TT a H)(_:∀(t p la da:AE) (s:Q11) (ds:List (Bool×Nat)) (i:Int) (n:Nat) (H2:Hp),gE H H2->TT a H2->H2 t=some (.lst [.ref p,.int i,.int (n:Nat)])->gq a.c_L2 H2 p la da s m ds->s.length=n->ia l s i->iU l n ds i->ds.length=n->2*g<=n->n<=24->Nw H t->Nw H p->Nw H la->Nw H da->t≠la->t≠da->Q (.ref t) H2)
inductive sp_LW (K:Q4)(a:Ad)(vs:List V)(H:Hp)(Q:VK)(E:XK):Prop|mk(b:AE)(ws:Q22)(k:Nat)(_:vs=[.ref b,.int (k:Nat)])(_:H b=some (.lst (ws.map tx)))(_:ws.length<=1000)(_:(∀w∈ws,w.length<=1000))(_:∀r H2,gp H H2->H r=none->H2 r=some (.lst ((ws.filter λw=>decide (w.length<=k)).map tx))->Q (.ref r) H2)
inductive sp_LM (K:Q4)(a:Ad)(vs:List V)(H:Hp)(Q:VK)(E:XK):Prop|mk(t p la da r:AE)(l m s:Q11)(ds:List (Bool×Nat))(c i:Int)(n k:Nat)(_:vs=[.ref t,tx l,.ref r,.int c,.int (k:Nat)])(_:H t=some (.lst [.ref p,.int i,.int (n:Nat)]))(_:gq a.c_L2 H p la da s m ds)(_:s.length=n)(_:ia l s i)(_:iU l n ds i)(_:t≠la)(_:t≠da)(_:gJ a.c_MB H r l m)(_:gR l m)(_:l.length<=8)(_:l.length+k<=n+1)(_:l.length<=k)(_:n<=24)(_:ds.length<=8000)(_:TT a H)(_:∀(la2:AE) (s2:Q11) (ds2:List (Bool×Nat)) (i2:Int) (H2:Hp),Chg [t,p,da] H H2->TT a H2->H2 t=some (.lst [.ref p,.int i2,.int (n:Nat)])->gq a.c_L2 H2 p la2 da s2 m ds2->s2.length=n->ia l s2 i2->iU l n ds2 i2->(la2=la\/Nw H la2)->ds2.length<=ds.length+2->Q (.bl true) H2)
inductive sp_LT (K:Q4)(a:Ad)(vs:List V)(H:Hp)(Q:VK)(E:XK):Prop|mk(b c:AE)(xs ys:Q22)(_:vs=[.ref b,.ref c])(_:H b=some (.lst (xs.map tx)))(_:H c=some (.lst (ys.map tx)))(_:jd xs)(_:jd ys)(_:TT a H)(_:∀(r:AE) (zs:List V) (ds:Q22) (H2:Hp),gE H H2->TT a H2->Nw H r->H2 r=some (.lst zs)->ZlP H2 zs ds xs->gT xs ys ds->ds.Pairwise g9->Q (.ref r) H2)
inductive sp_LQ (K:Q4)(a:Ad)(vs:List V)(H:Hp)(Q:VK)(E:XK):Prop|mk(b b1 b2 b3 p q la da lb db:AE)(s1 s2 m:Q11)(d1 d2:List (Bool×Nat))(i1 n1 i2 n2:Int)(N:Q22)(_:vs=[.ref b,tx m,.ref b3])(_:H b=some (.lst [.ref b1,.ref b2]))(_:H b1=some (.lst [.ref p,.int i1,.int n1]))(_:H b2=some (.lst [.ref q,.int i2,.int n2]))(_:gq a.c_L2 H p la da s1 m d1)(_:gq a.c_L2 H q lb db s2 m d2)(_:s1.length<=24)(_:s2.length<=24)(_:d1.length<=8000)(_:d2.length<=8000)(_:H b3=some (.lst (N.map tx)))(_:N.length=4)(_:N.Nodup)(_:(∀n∈N,isn n=true))(_:TT a H)(_:∀H2,Q (.bl true) H2)
def nO (K:Q4)(tb:Str->AE×AE):Sp:=λvs H Q _=>∃(b:AE) (ns:List Int),vs=[.ref b]/\SqL K H b (ns.map V.int)/\ns.length<=63/\gY H (tb "in_order").2 iK lq/\gY H (tb "_law_apart").2 Zps lqM/\∀H2,Q (.bl true) H2
def sz (k:Nat)(h:k<=9000):k<=sizeLine:=YAP h (by rw[sizeLine_eq];decide)
section
local macro_rules | `(tactic| walk_at "r0") => `(tactic| simp only [jz, jY, tOp, tUn, jr, tC, Zcb, lE, Zls, tRet, ke, ZmD, tB, tNot, tAnd, tOr, Zoq, tIf, Zoj, jJ, Zif, Zq2, ZqZ, Zq1, Zq0, ZoJ, Zi3, tCB, tBM, tBM0, tSl, Zoe, jP, kD, L2.start, cxK, bxK, cxPr, cxWo, suxK, Zqg, Zqf, Zi0, Zq3, ZoI, ZpL, ZpK, Znw, ZpJ, ki, pick, Option.bind_some, Option.bind_none, Option.join_some, Option.join_none, List.map_cons, List.map_nil, List.length_cons, List.length_nil, Nat.zero_add, Nat.reduceAdd, Nat.reduceSub, List.replicate_succ, List.replicate_zero, List.cons_append, List.nil_append, List.append_nil, List.getElem?_cons_zero, List.getElem?_cons_succ, List.set_cons_zero, List.set_cons_succ, q_I, q_I0, q_U, q_T, q_b, nP, kW, ZmU, Zoh, Zi1, nv, sFld, sNo, tAug, kg, ZoA, ZlW, Zon, tDIn, Zi2, ipI, ZlV, tOr2, Znv, gLst, Zoy])
local macro_rules | `(tactic| walk_at "r1") => do
 let some t <-Lean.Macro.expandMacro? (<-`(tactic| walk_at "r0")) | Lean.Macro.throwUnsupported
 match (⟨t⟩:Lean.TSyntax `tactic) with
 | `(tactic| simp only[$l,*])=>let d:=⟨l.elemsAndSeps⟩;`(tactic| dsimp only[$d,*])
 | _=>Lean.Macro.throwUnsupported
def Zlg (h:let T:=Za9 t;jz s T D U H):jz s (Za9 t) D U H:=h
local macro_rules | `(tactic| walk_at "rd") => `(tactic| ((try (with_reducible refine Zlg ?_; intro)); first | (walk_at "r1"; try walk_at "r0") | walk_at "r0"))
abbrev nR (k:Nat)(l:AK)(s:Stmt):=gn l (l.take k) (Zah s)
local macro_rules | `(tactic| walk_at "sc") => `(tactic| exact ⟨rfl, rfl, rfl, by decide +kernel, rfl, by decide +kernel, by decide +kernel⟩)
local macro_rules | `(tactic| walk_at "rd?") => `(tactic| (try walk_at "rd"))
local macro_rules | `(tactic| walk_at "g") => `(tactic| (refine Zai ?_;walk_at "rd"))
local macro_rules | `(tactic| walk_at "h") => `(tactic| (show Za9 _ _ _ _;walk_at "g"))
local macro_rules | `(tactic| walk_at "k") => `(tactic| (walk_at "rd?";walk_at "g"))
local macro_rules | `(tactic| walk_at "ln") => `(tactic| (intro _ _ _ _ h; rcases h with ⟨⟩; subst_vars; rfl))
def Zqn:nR 1 ["words"] lP:=by walk_at "sc"
def Zqi:nR 2 ["text","length"] lC:=by walk_at "sc"
def ZkJ:nR 2 ["one","other","rest"] kE:=by walk_at "sc"
def Zqw:nR 2 ["one","other"] lz:=by walk_at "sc"
def ZqC:nR 1 ["self"] mV:=by walk_at "sc"
def ZqH:nR 1 ["self"] mG:=by walk_at "sc"
def ZqI:nR 1 ["self"] mR:=by walk_at "sc"
def ZmN:nR 1 ["self","size"] m9:=by walk_at "sc"
def ZqB:nR 1 ["self"] lW:=by walk_at "sc"
def Zjb:nR 3 ["shorter","standing","kinds","found","head","letter","word"] mv:=by walk_at "sc"
def ZqJ:nR 2 ["self","length"] lR:=by walk_at "sc"
def Zow:nR 2 ["self","length","size"] mH:=by walk_at "sc"
def Zqo:nR 2 ["text","letters"] kQ:=by walk_at "sc"
def Zqv:nR 2 ["text","word"] lV:=by walk_at "sc"
def Zqu:nR 2 ["_law_script","_law_k"] mU:=by walk_at "sc"
def ZmO:nR 2 ["_law_cell_here","_law_k","_law_number"] m7:=by walk_at "sc"
def ZfQ:nR 1 ["_law_cell_here","_law_letters_here","_law_at","_law_left","_law_k"] mq:=by walk_at "sc"
def ZkK:nR 3 ["_law_text","_law_start","_law_size","_law_found","_law_k"] kH:=by walk_at "sc"
def ZqN:nR 3 ["self","text","kinds"] kS:=by walk_at "sc"
def Zqj:nR 2 ["_law_words","_law_most"] kI:=by walk_at "sc"
def ZqE:nR 1 ["self"] mQ:=by walk_at "sc"
def ZqM:nR 1 ["self"] k9:=by walk_at "sc"
def Zos:nR 2 ["_law_one","_law_other","_law_found"] ma:=by walk_at "sc"
def ZqG:nR 1 ["self"] mL:=by walk_at "sc"
def Zou:nR 2 ["top","bottom","divisor"] mJ:=by walk_at "sc"
def ZqO:nR 2 ["one","other"] mE:=by walk_at "sc"
def Zqy:nR 1 ["self"] lN:=by walk_at "sc"
def ZqA:nR 2 ["self","length"] m6:=by walk_at "sc"
def Zqm:nR 1 ["thing"] mN:=by walk_at "sc"
def Zqk:nR 3 ["thing","kinds","most"] lT:=by walk_at "sc"
def ZmP:nR 2 ["lesser","longer","edges","size"] lD:=by walk_at "sc"
def ZdB:nR 4 ["_law_way","_law_cell_here","_law_kinds_here","_law_size","_law_found","_law_left","_law_k","_law_number","_law_at","_law_letter"] kL:=by walk_at "sc"
def ZmR:nR 4 ["self","text","came","went","gone","kept"] nD:=by walk_at "sc"
def Zqh:nR 2 ["one","other"] mf:=by walk_at "sc"
def Zil:nR 1 ["self","found","shorter","length","standing"] lU:=by walk_at "sc"
def Zqq:nR 2 ["thing","kinds"] kU:=by walk_at "sc"
def ZqP:nR 1 ["thing"] nu:=by walk_at "sc"
def Zqp:nR 3 ["thing","kinds","most"] kT:=by walk_at "sc"
def ZmM:nR 2 ["one","other","length"] mP:=by walk_at "sc"
def Zql:nR 1 ["thing"] lZ:=by walk_at "sc"
def Zot:nR 3 ["lesser","longer","reason","word"] lG:=by walk_at "sc"
def Zik:nR 4 ["lesser","longer","kinds","reason","found","shorter","told","letter","word"] kP:=by walk_at "sc"
def Ze9:nR 2 ["_law_script","_law_kinds_here","_law_cell_here","_law_text","_law_other","_law_at","_law_many","_law_letter"] me:=by walk_at "sc"
def ZkL:nR 2 ["one","other","first","second","words"] kJ:=by walk_at "sc"
def ZqD:nR 2 ["thing","kinds"] mX:=by walk_at "sc"
def ZkI:nR 2 ["one","other","root","wanted","turn"] mO:=by walk_at "sc"
def ZqQ:nR 2 ["self","kinds"] mY:=by walk_at "sc"
def ZmS:nR 2 ["self","longer","came","went"] kK:=by walk_at "sc"
def ZmQ:nR 2 ["self","lesser","came","went"] mZ:=by walk_at "sc"
def Zqz:nR 3 ["self","text","kinds"] mi:=by walk_at "sc"
def ZqS:nR 2 ["self","name"] mC:=by walk_at "sc"
def Zqx:nR 2 ["self","kinds"] ml:=by walk_at "sc"
def ZqK:nR 2 ["self","name"] lM:=by walk_at "sc"
def ZqL:nR 3 ["self","text","kinds"] mW:=by walk_at "sc"
def ZkN:nR 2 ["one","other","total","reason"] mB:=by walk_at "sc"
def Zqr:nR 2 ["self","letter"] kZ:=by walk_at "sc"
def Zox:nR 1 ["self","deed"] mt:=by walk_at "sc"
def ZqR:nR 1 ["self"] kN:=by walk_at "sc"
def Zja:nR 4 ["_law_text","_law_kinds_here","_law_cell_here","_law_longest","_law_size","_law_start","_law_strip","_law_letter"] lK:=by walk_at "sc"
def ZkM:nR 5 ["_law_walk_here","_law_text","_law_ring","_law_cell_here","_law_most","_law_strip","_law_start","_law_size"] lh:=by walk_at "sc"
def Zqs:nR 3 ["self","name","letter"] lQ:=by walk_at "sc"
def Zjc:nR 2 ["self","strip","ranks","name","share","ahead"] mS:=by walk_at "sc"
def Zov:nR 1 ["self","twin"] mI:=by walk_at "sc"
def Zqt:nR 3 ["self","name","strip"] m8:=by walk_at "sc"
def ZqF:nR 2 ["self","name"] lB:=by walk_at "sc"
def Zet:nR 3 ["_law_walks","_law_kinds_here","_law_names","_law_shelf","_law_k","_law_asked","_law_rows","_law_name","_law_plain","_law_found","_law_one","_law_other"] lI:=by walk_at "sc"
def Zcl:nR 1 ["_law_script","_law_kinds_here","_law_texts","_law_rings_here","_law_longest","_law_walks","_law_cell_here","_law_k","_law_found","_law_names"] ZmT:=by walk_at "sc"
variable (T:TL K mg base a tb)
include T
def Zk4:gy P w K mg base CX0 1 a.f_LJ a.d_LJ ["words"] (sp_LJ K a):=by refine T.dJ.u.okC T.cd_LJ Zqn (λA outer s H vs Q E hr h=>?_);obtain⟨p,ws,rfl,hp,hw,tk,q⟩:=h;refine⟨_,(Zaf (Zaw (ZkZ (q:="in_order.<locals>.<lambda>") hr T.L_in_order rfl rfl T.dL T.dD (Zaa (pv 0) Zac) rfl rfl (by kernel_rfl) ⟨rfl,rfl,rfl,rfl,rfl,rfl⟩ (λ_ _ _ _ _=>.of_eq rfl)))),?_⟩;have sz:∀k:Nat,k<=1000->k<=sizeLine:=λk h=>YAP h (by rw[sizeLine_eq];decide);walk_at "rd";exact⟨p,ws,rfl,hp,λw h=>sz _ (hw w h),tk.1,λws' r H2 a b c d=>q ws' r H2 a b c.1 ⟨d,c.2 _ _ _ (by decide) tk.2⟩⟩
def Zra:gy P w K mg base CX0 1 a.f_LY a.d_LY ["text","length"] (sp_LY K a):=by
 refine T.fO.u.ok Zqi (λAu A outer s H vs Q E hr h=>?_);obtain⟨l,n,rfl,hl,hn,h63,q⟩:=h;refine⟨_,(Zaf (Zaw (Zat (Zbd rfl) rfl T.dL ZbD (Zaa (Za1 (Zbu rfl) rfl T.fV Zep (Zaa (ZbM (N:=["start","length","text"]) (ix:=[none,some 1,some 0]) rfl (Za4 rfl) rfl (Zbw rfl T.dO (Zaa (Zar ZaT (Zar ZhK (Zat (Zax (K:=K) rfl) rfl T.dD ZaV (Zaa (pv 0) Zac)) (pv 1)) Zae) Zac)) (λ_ _ _ _=>(ZaA (i:=0) (show (["start","length","text"]:AK).Nodup from by decide +kernel) rfl (Or.inl rfl) (Or.inr rfl))) (λ_ _ _ _=>Zbz) (λ_ _ _ _=>(ZaL ZbS (pv 2) (ZaQ (pv 0)) (ZaQ (Zar ZaT (pv 0) (pv 1)))))) Zac)) Zac)))),?_⟩;walk_at "rd";have sz:l.length<=sizeLine:=YAP hl (by rw[sizeLine_eq];decide);have ec:((l.length:Int)-(n:Nat)+1).toNat=l.length+1-n:=by lia
 refine⟨_,_,rfl,Zbr ∅,_,rfl,∅,∅,?_⟩;rw[ec];refine gu.rangeA (λi=>tx ((l.drop i).take n)) ∅ ?_ ?_
 .intro i H1 Q1 hi s1 q1;walk_at "rd";refine⟨_,rfl,_,rfl,l,rfl,sz,?_⟩;have e1:(0+(i:Int))=((i:Nat):Int):=by lia
  have e2:((i:Nat):Int)+(n:Nat)=((i+n:Nat):Int):=by lia
  rw[e1,e2,ZpU];have e3:i+n-i=n:=by lia
  rw[e3];exact q1 H1 (gp.refl _)
 .intro p H1 s1 n1 l1;refine⟨(List.range (l.length+1-n)).map (λi=>(l.drop i).take n),by simp;lia,.inr ⟨p,rfl,.mk (by rw[l1,YAw];rfl)⟩,λp2 n2=>⟨p2,_,rfl,Zao,?_,gU.of λp3 H3 s3 n3 l3=>q p3 H3 (s1.trans ((Zav n2).trans s3)) ((s1.trans (Zav n2)).free n3) l3⟩⟩;refine YAP (ZnP _) ?_;rw[YAB,YAt,sizeLine_eq]
  lia
def Zq9:gy P w K mg base CX0 1 a.f_MC a.d_MC ["one","other"] (sp_MC K a):=by
 refine T.f8.u.ok ZkJ (λAu A outer s H vs Q E hr h=>?_);obtain⟨x,y,rfl,hx,hy,q⟩:=h;refine⟨_,(Zab (Zfe YBB (ZaB Zk1 (pv 1) Zae (ZaJ _))
  (Zab (Zaq (i:=2) ZkJ.nd (Zar Za2 (pv 0) (pv 1)))
  (Zab (Zaq (i:=0) ZkJ.nd (pv 1))
  (Zaf (Zaq (i:=1) ZkJ.nd (pv 2))))))
  (Zaf (Zaw (pv 0)))),?_⟩
 walk_at "rd";refine ZlT (λU=>∃(u v:Int) (r:Option V),U=[some (.int u),some (.int v),r]/\0<=u/\0<=v/\Int.gcd u v=Int.gcd x y) (λU=>match U with | [_,some (.int s),_]=>s.toNat | _=>0) ⟨x,y,none,rfl,hx,hy,rfl⟩ ?_;rintro U ⟨u,v,r,rfl,hu,hv,hg⟩;refine⟨decide (v>0),λQ1 h1=>?_,?_⟩
 .walk_at "rd";exact h1
 .walk_at "rd";by_cases h:v>0
  .rw[decide_eq_true h];have m0:=YBR u (show v≠0 by lia);have m1:=YBT u h;exact jg ⟨h,⟨trivial,_,_,_,rfl,∅,m0,(Zlr hu h).trans hg⟩,∅⟩
  .rw[decide_eq_false h];have e:v=0:=by lia
   subst e;refine gV ?_;rw[<-hg,Int.gcd_zero_right]at q;have:((u.natAbs:Nat):Int)=u:=by lia
   rw[this]at q;exact q
def Zo7:gy P w K mg base CX0 1 a.f_L4 a.d_L4 ["one","other"] (sp_L4 K a):=by refine T.fT.u.ok Zqw (λAu A outer s H vs Q E hr h=>?_);obtain⟨p,r,x,y,rfl,hp,hr_,hx,hy,q⟩:=h;refine⟨_,(Zaf (Zaw (ZbE Zm2 (Zar Zd6 (ZaH (ZaS (K:=K) rfl) (pv 0) Zae (λ_ _=>rfl)) (ZaH (ZaS (K:=K) rfl) (pv 1) Zae (λ_ _=>rfl))) (Zar Zd6 (ZaH (ZaS (K:=K) rfl) (pv 1) Zae (λ_ _=>rfl)) (ZaH (ZaS (K:=K) rfl) (pv 0) Zae (λ_ _=>rfl))) (ZaJ _)))),?_⟩;walk_at "rd";obtain⟨a1,a2,a3⟩:=ZnG hx;obtain⟨b1,b2,b3⟩:=ZnG hy;rw[<-ZnF x y]at q;exact⟨p,_,_,_,rfl,rfl,.mk hp,rfl,r,_,_,_,rfl,rfl,.mk hr_,rfl,_,_,rfl,rfl,⟨340,by decide,a1,b2⟩,r,_,_,_,rfl,rfl,.mk hr_,rfl,p,_,_,_,rfl,rfl,.mk hp,rfl,_,_,rfl,rfl,⟨340,by decide,b1,a2⟩,_,_,rfl,rfl,q⟩
def Zf2:gy P w K mg base CX0 1 a.aY a.cD ["self"] (sp_KS K a):=by
 refine T.dE.u.ok ZqC (λAu A outer s H vs Q E hr h=>?_);obtain⟨p,m,rfl,hp,q⟩:=h;refine⟨_,(Zaf (Zaw (Zaz (K:=K) rfl (pv 0) rfl))),?_⟩;walk_at "rd";rcases hp with⟨l,⟨dx,f⟩|⟨la,da,ds,⟨dx,f⟩,_⟩⟩|⟨l,dx,f⟩
 .exact⟨p,_,dx,_,_,rfl,f,T.aL,T.am,Zdn,q⟩
 .exact⟨p,_,dx,_,_,rfl,f,T.ac,T.ag,Zcm,q⟩
 .exact⟨p,_,dx,_,_,rfl,f,T.ak,T.ax,Zdn,q⟩
def Zrv:gy P w K mg base CX0 1 a.bM a.cQ ["self"] (sp_KN K a):=by refine T.fm.u.ok ZqH (λAu A outer s H vs Q E hr h=>?_);obtain⟨p,dA,m,F,rfl,hp,q⟩:=h;refine⟨_,(Zaf (Zaw (Zaz (K:=K) rfl (pv 0) rfl))),?_⟩;obtain⟨dx,f⟩:=hp.fld;walk_at "rd";exact⟨p,_,dx,_,_,rfl,f,T.aG,T.aC,shK,q⟩
def Zk5:gy P w K mg base CX0 1 a.bU a.cZ ["self"] (sp_KF K a):=by refine T.dH.u.ok ZqI (λAu A outer s H vs Q E hr h=>?_);obtain⟨p,la,da,l,m,ds,rfl,hp,q⟩:=h;refine⟨_,(Zaf (Zaw (Za1 (ZbI (K:=K) rfl) rfl T.fC ZcQ (Zaa (Zaz (K:=K) rfl (pv 0) rfl) Zac)))),?_⟩;obtain⟨dx,f⟩:=hp.fld;walk_at "rd";exact⟨p,_,dx,_,_,rfl,f,T.ac,T.af,ZdH,la,_,rfl,.inl (.mk hp.lack),q⟩
def Zm6:gy P w K mg base CX0 1 a.bK a.cN ["self"] (sp_LA K a):=by
 refine T.eL.u.ok ZmN (λAu A outer s H vs Q E hr h=>?_);have Ax:=hr.units;obtain⟨p,l,m,rfl,hp,ok,q⟩:=h;refine⟨_,(Zab (Zaq (i:=1) ZmN.nd Zae)
  (Zab (Zfe YBB (ZaB (ZbT (K:=K) rfl Ax) (Zar ZcV (ZaL ZbS (Zaz (K:=K) rfl (pv 0) rfl) Za5 (ZaQ (pv 1))) (Zar Za6 (Zat (Zax (K:=K) rfl) rfl T.dD ZaV (Zaa (Zaz (K:=K) rfl (pv 0) rfl) Zac)) (pv 1))) (Zaz (K:=K) rfl (pv 0) rfl) (ZaJ _))
  (Zaf (Zl2 (i:=1) ZmN.nd rfl (Or.inl rfl) Zae Zmd)))
  (Zaf (Zaw (ZaL ZbS (Zaz (K:=K) rfl (pv 0) rfl) Za5 (ZaQ (pv 1))))))),?_⟩
 obtain⟨dx,hp⟩:=hp;have l1:=ok.l1;have l20:=ok.l20;have sz:l.length<=sizeLine:=by rw[sizeLine_eq];lia
 obtain⟨r1,r2,r3,r4⟩:=Za8 l1;walk_at "rd";refine ZlT (λU=>∃s:Nat,U=[some (.ref p),some (.int (s:Nat))]/\1<=s/\s<=Zam l) (λU=>match U with | [_,some (.int s)]=>l.length-s.toNat | _=>0) ⟨1,rfl,YAT _,r1⟩ ?_;rintro U ⟨s_,rfl,hs,hr'⟩;refine⟨!Zex l s_,λQ1 h1=>?_,?_⟩
 .have ds:=Zgs (n:=l.length) hs;have dp:=Zj9 (n:=l.length) (s:=s_);have c2:=Zdp l none (some (s_:Int));walk_at "rd";refine⟨p,_,dx,_,_,rfl,hp,T.ak,T.ah,ZbB,_,rfl,l,rfl,sz,p,_,dx,_,_,rfl,hp,T.ak,T.ah,ZbB,_,_,rfl,Zbr ∅,⟨∅,∅⟩,_,_,rfl,rfl,∅,∅,∅,p,_,dx,_,_,rfl,hp,T.ak,T.ah,ZbB,.inl ⟨rfl,_,rfl,?_⟩⟩;rw[YAS rfl,ZcK,Zen];exact h1
 .walk_at "rd";cases hb:Zex l s_ with
  | false=>
   have A4:s_<Zam l:=by
    rcases Nat.lt_or_ge s_ (Zam l) with h | h
    .exact h
    .have:s_=Zam l:=by lia
     rw[this,r3]at hb;cases hb
   rw[Bool.not_false];exact jg ⟨_,_,rfl,rfl,⟨trivial,s_+1,rfl,∅,∅⟩,by show l.length-(((s_:Nat):Int)+1).toNat<l.length-((s_:Nat):Int).toNat;lia⟩
  | true=>
   have heq:s_=Zam l:=by
    rcases Nat.lt_or_ge s_ (Zam l) with h | h
    .rw[r4 s_ hs h]at hb;cases hb
    .lia
   rw[YCR];refine gV ⟨p,_,dx,_,_,rfl,hp,T.ak,T.ah,ZbB,_,rfl,l,rfl,sz,?_⟩;rw[Zen,heq];exact q
def Zrr:gy P w K mg base CX0 1 a.bI a.cH ["self"] (sp_KT K a):=by refine T.fK.u.ok ZqB (λAu A outer s H vs Q E hr h=>?_);obtain⟨p,l,m,rfl,hp,ok,q⟩:=h;refine⟨_,(Zaf (Zaw (Zar ZaT (Zat (Zax (K:=K) rfl) rfl T.dD ZaV (Zaa (Zaz (K:=K) rfl (pv 0) rfl) Zac)) Zae))),?_⟩;obtain⟨dx,hp⟩:=hp;have l40:=ok.l40;walk_at "rd";exact⟨p,_,dx,_,_,rfl,hp,T.aL,T.au,ZbB,_,_,rfl,Zbr ∅,q⟩
def Zro:gy P w K mg base CX0 1 a.f_L3 a.d_L3 ["shorter","standing","kinds"] (sp_L3 K a):=by
 refine T.fW.u.ok Zjb (λAu A outer s H vs Q E hr h=>?_);obtain⟨b1,b2,sh,st,m,rfl,hb1,hb2,hsh,hm,hw,q⟩:=h;refine⟨_,(Zab (Zaq (i:=3) Zjb.nd (ZbZ Zac))
  (Zab (Zbv YBB rfl (ZaP (K:=K) rfl (pv 0)) (ZaA (i:=4) Zjb.nd rfl (Or.inl rfl))
  (Zaf (Zbv YBB rfl (Zff (pv 2)) (ZaA (i:=5) Zjb.nd rfl (Or.inl rfl))
  (Zab (Zaq (i:=6) Zjb.nd (Zar Za3 (pv 4) (pv 5)))
  (Zaf (Zbp (PW.pt (ZhF (ZaB (Zdj (K:=K) rfl) (ZaL ZbS (pv 6) (ZaQ Zae) Za5) (pv 0) rfl) (Zfc (ZaB (ZbH (K:=K) rfl) (pv 6) (pv 1) rfl)))) (Zaf (ZaK (Zfh YBV YCJ YCI ZbO (pv 3) (Zaa (pv 6) Zac)))) ZaG))))))
  (Zaf (Zaw (pv 3))))),?_⟩
 walk_at "rd";refine⟨YBC _,gU.of λpf H1 s1 nf lf=>⟨b1,rfl,⟨_,.mk (s1 _ _ hb1)⟩,gH.list (xs:=sh.map tx) (λi U H'=>∃v4 v5 v6,U=[some (.ref b1),some (.ref b2),some (tx m),some (.ref pf),v4,v5,v6]/\gp H H'/\H' pf=some (.lst (((sh.take i).flatMap (ZdE sh st m)).map tx))) ⟨_,_,_,rfl,s1,lf⟩ (λi U H' _ ⟨_,_,_,_,s',_⟩=>.mk (s' _ _ hb1)) ?_ ?_⟩⟩
 .rintro i x U H2 hx ⟨v4,v5,v6,rfl,s2,l2⟩;obtain⟨h,hh,rfl⟩:∃h,sh[i]?=some h/\x=tx h:=by
   rw[YAK]at hx;cases e:sh[i]? with
   | none=>rw[e]at hx;cases hx
   | some h=>rw[e]at hx;exact⟨h,rfl,(Option.some.inj hx).symm⟩
  have hw1:=hw h (YAb hh);have fl:=Zcd (f:=ZdE sh st m) (b:=4) (λx=>YAP (Zee _ _ _ _) hm) (sh.take i);have tl:(sh.take i).length<=100:=by rw[YAX];lia
  walk_at "rd";refine⟨m,rfl,gH.text (λj U H'=>∃v5 v6,U=[some (.ref b1),some (.ref b2),some (tx m),some (.ref pf),some (tx h),v5,v6]/\gp H H'/\H' pf=some (.lst (((sh.take i).flatMap (ZdE sh st m)++((m.take j).filter (Zc2 sh st h)).map (λc=>h++[c])).map tx))) ⟨_,_,rfl,s2,~~~l2⟩ ?_ ?_⟩
  .rintro j c U H3 hc ⟨v5,v6,rfl,s3,l3⟩;have fj:=YAx (Zc2 sh st h) (m.take j);rw[YAX]at fj;have fe:(m.take (j+1)).filter (Zc2 sh st h)=(m.take j).filter (Zc2 sh st h)++if Zc2 sh st h c=true then [c] else []:=by
    rw[Zcj hc,YDS];congr 1;by_cases z:Zc2 sh st h c=true
    .rw[YAS z,List.filter_cons_of_pos z];rfl
    .rw[YAL z,List.filter_cons_of_neg z];rfl
   rw[fe];walk_at "rd";refine⟨by rw[sizeLine_eq];lia,_,rfl,_,rfl,by rw[YAF,YAo,sizeLine_eq];lia,?_⟩;rw[ZfD];refine⟨b1,_,rfl,.inl (.mk (s3 _ _ hb1)),rfl,ZbF _,_,rfl,?_⟩;rw[YAL YAE,Zgh];by_cases t1:(h++[c]).tail∈sh
   .rw[decide_eq_true t1];refine jg ⟨b2,_,rfl,.inl (.mk (s3 _ _ hb2)),rfl,ZbF _,_,rfl,?_⟩;rw[YAS rfl,Zgh];by_cases t2:h++[c]∈st
    .have e:¬Zc2 sh st h c=true:=by unfold Zc2;rw[decide_eq_true t2];simp
     rw[decide_eq_true t2,YCR,YAL e,YDT];exact gV ⟨_,_,rfl,s3,l3⟩
    .have e:Zc2 sh st h c=true:=by unfold Zc2;rw[decide_eq_true t1,decide_eq_false t2];rfl
     rw[decide_eq_false t2,Bool.not_false,YAS e];refine jg ⟨.inl ⟨rfl,_,.mk l3⟩,pf,_,_,rfl,rfl,l3,by rw[YAB,YAF,YAB,sizeLine_eq];lia,_,_,rfl,g0 s3 nf,?_⟩;rw[Zao];simp
   .have e:¬Zc2 sh st h c=true:=by unfold Zc2;rw[decide_eq_false t1];simp
    rw[decide_eq_false t1,YAL e,YDT];exact gV (gV ⟨_,_,rfl,s3,l3⟩)
  .rintro U H3 ⟨v5,v6,rfl,s3,l3⟩;refine⟨_,_,_,rfl,s3,?_⟩;rw[l3,Zcj hh,List.flatMap_append,List.flatMap_singleton,YCK];rfl
 .rintro U H2 ⟨v4,v5,v6,rfl,s2,l2⟩;walk_at "rd";rw[YAB,YCK]at l2;exact q pf H2 s2 nf l2
def Zry:gy P w K mg base CX0 1 a.bH a.cF ["self","length"] (sp_KB K a):=by refine T.eO.u.ok ZqJ (λAu A outer s H vs Q E hr h=>?_);obtain⟨p,l,m,n,rfl,hp,q⟩:=h;refine⟨_,(Zaf (Zaw (Zaz (K:=K) rfl (pv 0) rfl))),?_⟩;obtain⟨dx,hp⟩:=hp;walk_at "rd";exact⟨p,_,dx,_,_,rfl,hp,T.aL,T.au,ZbB,q⟩
def Zrx:gy P w K mg base CX0 1 a.bJ a.cM ["self","length"] (sp_KD K a):=by
 refine T.eP.u.ok Zow (λAu A outer s H vs Q E hr h=>?_);obtain⟨p,l,m,n,rfl,hp,ok,hn,q⟩:=h;refine⟨_,(Zab (Zaq (i:=2) Zow.nd (Zat (Zax (K:=K) rfl) rfl T.dD ZaV (Zaa (Zaz (K:=K) rfl (pv 0) rfl) Zac)))
  (Zaf (Zaw (ZaL ZbS (Zar ZcV (Zaz (K:=K) rfl (pv 0) rfl) (Zar ZaT (Zar Za6 (pv 1) (pv 2)) Zae)) Za5 (ZaQ (Zar ZhK (Zar ZaT (pv 2) (pv 1)) Zae)))))),?_⟩
 obtain⟨dx,hp⟩:=hp;have l1:=ok.l1;have l20:=ok.l20;have ds:=Zgs (n:=n) l1;have dp:=Zj9 (n:=n) (s:=l.length);have gl:=ZdJ l ((n:Int)/(l.length:Nat)+2);have gm:((n:Int)/(l.length:Nat)+2).toNat*l.length<=62*20:=YDH ∅ l20;walk_at "rd";refine⟨p,_,dx,_,_,rfl,hp,T.ak,T.ah,ZbB,_,_,rfl,Zbr ∅,p,_,dx,_,_,rfl,hp,T.ak,T.ah,ZbB,⟨∅,∅⟩,l,_,rfl,rfl,∅,∅,∅,_,rfl,_,rfl,by rw[sizeLine_eq];lia,?_⟩;rw[ZnS _ ∅];have e:((l.length:Int)+(n:Nat)-1).toNat=l.length+n-1:=by lia
 rw[e];exact q
def Zo3:gy P w K mg base CX0 1 a.f_LI a.d_LI ["text","letters"] (sp_LI K a):=by
 refine T.d9.u.ok Zqo (λAu A outer s H vs Q E hr h=>?_);obtain⟨l,m,rfl,hl,q⟩:=h;refine⟨_,(Zaf (Zaw (Zat (Zkq rfl) rfl T.gg ZpZ (Zaa (ZbM (N:=["sign","letters"]) (ix:=[none,some 1]) rfl (Za4 rfl) rfl (Zff (pv 0)) (λ_ _ _ _=>(ZaA (i:=0) (show (["sign","letters"]:AK).Nodup from by decide +kernel) rfl (Or.inl rfl) (Or.inr rfl))) (λ_ _ _ _=>Zbz) (λ_ _ _ _=>(ZbE Zin (pv 0) (pv 1) rfl))) Zac)))),?_⟩;walk_at "rd";refine⟨l,rfl,gu.text (λ_=>true) (λi=>.bl (decide (l.getD i 0∈m))) hl ?_ ?_ ?_⟩
 .intro i H1 Q1 hi s1 q1;exact q1 H1 (gp.refl _)
 .intro i H1 Q1 hi _ s1 q1;walk_at "rd";exact⟨_,m,rfl,rfl,q1 H1 (gp.refl _)⟩
 .intro p H1 s1 n1 l1;refine⟨p,(List.range l.length).map (λi=>decide (l.getD i 0∈m)),rfl,?_,?_⟩
  .rw[l1,jc,YAw];rfl
  .rw[jV];exact q H1 s1
def Zrn:gy P w K mg base CX0 1 a.f_L6 a.d_L6 ["text","word"] (sp_L6 K a):=by
 refine T.fX.u.ok Zqv (λAu A outer s H vs Q E hr h=>?_);obtain⟨l,x,rfl,hl,hx,q⟩:=h;refine⟨_,(Zaf (Zaw (Zd4 (ZbE Zd5 (pv 1) (pv 0) rfl) (Zd4 (ZbE ZhL (ZaL ZbS (pv 1) (ZaQ Zae) Za5) (pv 0) rfl) (ZfW (ZbE ZhL (ZaL ZbS (pv 1) Za5 (ZaQ (ZmZ ZiP Zae))) (pv 0) rfl)))))),?_⟩;walk_at "rd";have sx:x.length<=sizeLine:=YAP hx (by rw[sizeLine_eq];decide);unfold ZjM at q;refine⟨x,l,rfl,rfl,iz (λh1=>⟨_,rfl,x,rfl,sx,_,l,rfl,rfl,iz (λh2=>⟨_,rfl,x,rfl,sx,_,l,rfl,rfl,?_⟩) (λh2=>?_)⟩) (λh1=>?_)⟩
 .rw[ZfD]at h2;rw[Zkl];rw[h1,h2,YDB,YDB]at q;exact q
 .rw[ZfD]at h2;rw[h1,YCA.mpr h2,YBo,YCD]at q;exact q
 .rw[YCA.mpr h1,YBo]at q;exact q
def Zf0:gy P w K mg base CX0 1 a.f_L7 a.d_L7 ["_law_script","_law_k"] (sp_L7 K a):=by
 refine T.dQ.u.ok Zqu (λAu A outer s H vs Q E hr h=>?_);obtain⟨b,ns,k,rfl,hS,hk,hk1,q⟩:=h;refine⟨_,(Zab (Zbp (ZaB Zm2 (pv 1) (Zat (Zax (K:=K) rfl) rfl T.dD ZaV (Zaa (pv 0) Zac)) (ZaJ _)) (Zaf (Zaw (ZaH (ZaC (K:=K) rfl) (pv 0) (pv 1) (λ_ _=>rfl)))) ZaG)
  (Zaf (Zaw Zae))),?_⟩
 walk_at "rd";refine⟨_,_,rfl,.inl ⟨_,hS,rfl⟩,?_⟩;rw[YAB];refine iz (λh=>?_) (λh=>?_)
 .have h':k<ns.length:=of_decide_eq_true h;exact⟨b,_,k,_,rfl,rfl,hS,ZnY hk h',q _⟩
 .exact q _
def Zrl:gy P w K mg base CX0 1 a.f_L9 a.d_L9 ["_law_cell_here","_law_k"] (sp_L9 K a):=by
 refine T.fY.u.ok ZmO (λAu A outer s H vs Q E hr h=>?_);obtain⟨c,k,rfl,q⟩:=h;refine⟨_,(Zab (Zaq (i:=2) ZmO.nd (Zar Za2 (Zar ZaT (Zar ZaT (Zar ZcW (pv 0) Zae) (Zar ZcW (pv 1) Zae)) Zae) Zae))
  (Zab (Zaq (i:=2) ZmO.nd (Zar Za2 (Zar ZaT (Zar ZaT (Zar ZcW (Zar Za2 (Zar ZcW (pv 2) (pv 2)) Zae) Zae) (Zar ZcW (pv 1) Zae)) Zae) Zae))
  (Zaf (Zaw (Zar Za2 (Zar ZcW (pv 2) (pv 2)) Zae))))),?_⟩
 walk_at "rd";exact⟨.inr ⟨by decide,by decide⟩,.inr ⟨by decide,by decide⟩,by decide,cm (by decide) (by decide),by decide,.inr ⟨by decide,by decide⟩,.inr ⟨by decide,by decide⟩,by decide,cm (by decide) (by decide),by decide,q _ (YBR _ (by decide))⟩
def Zrc:gy P w K mg base CX0 1 a.f_LU a.d_LU ["_law_cell_here"] (sp_LU K a):=by
 refine T.fP.u.ok ZfQ (λAu A outer s H vs Q E hr h=>?_);obtain⟨c,rfl,q⟩:=h;refine⟨_,(Zab (Zaq (i:=1) ZfQ.nd (Za0 (l:=[]) (by decide +kernel)))
  (Zab (Zaq (i:=2) ZfQ.nd (Zar Za2 (Zar Za6 (pv 0) Zae) Zae))
  (Zab (Zaq (i:=3) ZfQ.nd (Zar Za6 (pv 0) Zae))
  (Zab (Zbv YBB rfl (Zbw rfl T.dO (Zaa (Zar ZaT Zae (Zar Za2 (pv 0) Zae)) Zac)) (ZaA (i:=4) ZfQ.nd rfl (Or.inl rfl))
  (Zab (Zaq (i:=1) ZfQ.nd (Zar Za3 (pv 1) (ZaH Zge (Za0 (l:=[97,98,99,100,101,102,103,104,105,106,107,108,109,110,111,112,113,114,115,116,117,118,119,120,121,122]) (by decide +kernel)) (pv 2) (λ_ _=>rfl))))
  (Zab (Zaq (i:=2) ZfQ.nd (Zar ZaT (Zar ZaT (pv 2) Zae) (Zar Za2 (pv 3) Zae)))
  (Zaf (Zaq (i:=3) ZfQ.nd (Zar Za6 (pv 3) Zae))))))
  (Zaf (Zaw (pv 1))))))),?_⟩
 walk_at "rd";have b1:=YBR c (show (4:Int)≠0 by decide);have b2:=YBT c (show (0:Int)<4 by decide);generalize c % 4=c4 at b1 b2;refine⟨⟨by decide,by decide⟩,by decide,⟨by decide,by decide⟩,by decide,_,rfl,∅,∅,gH.range (λi U H'=>H'=H/\∃(l:Q11) (at_ le:Int) (v4:Option V),U=[some (.int c),some (tx l),some (.int at_),some (.int le),v4]/\l.length=i/\0<=at_/\at_<=7+5*i/\(∀x∈l,97<=x/\(x:Int)<97+at_)/\(∀x∈l,x<=122)/\l.Pairwise (· < ·)) ⟨rfl,[],_,_,none,rfl,rfl,∅,∅,by simp,by simp,List.Pairwise.nil⟩ ?_ ?_⟩
 .rintro i U H1 hi ⟨rfl,l,at_,le,v4,rfl,hl,h0,h7,hx,hy,hp⟩;have hi4:i<4:=by lia
  have hk:at_.toNat<26:=by lia
  walk_at "rd";refine⟨LET,_,97+at_.toNat,rfl,rfl,by rw[sizeLine_eq];decide,?_,by rw[sizeLine_eq];lia,by decide,⟨by decide,by decide⟩,by trivial,l++[97+at_.toNat],_,_,_,rfl,by simp[hl],∅,∅,?_,?_,?_⟩
  .unfold atI ixN;rw[YAS h0,YAS (show at_<((LET.length:Nat):Int) by show at_<26;lia),YDJ,Zl8 _ hk]
  .intro x hm;rcases YAW.mp hm with hm | hm
   .have:=hx x hm
    lia
   .rw[YAI.mp hm]
    lia
  .intro x hm;rcases YAW.mp hm with hm | hm
   .exact hy x hm
   .rw[YAI.mp hm]
    lia
  .rw[YBI];refine⟨hp,YDP _ _,λx hm y hy=>?_⟩;rw[YAI.mp hy];have:=hx x hm
   lia
 .rintro U H1 ⟨rfl,l,at_,le,v4,rfl,hl,h0,h7,hx,hy,hp⟩;walk_at "rd";exact q l (ZpF ∅ ∅ (λx hm=>Znh (hx x hm).1 (hy x hm)) hp) ∅ ∅
def ZoW:gy P w K mg base CX0 1 a.f_LZ a.d_LZ ["_law_text","_law_start","_law_size"] (sp_LZ K a):=by
 refine T.fG.u.ok ZkK (λAu A outer s H vs Q E hr h=>?_);obtain⟨l,i,n,rfl,h1,h8,hn,q⟩:=h;refine⟨_,(Zab (Zaq (i:=3) ZkK.nd (Za0 (l:=[]) (by decide +kernel)))
  (Zad (Zab (Zbv YBB rfl (Zbw rfl T.dO (Zaa (pv 2) Zac)) (ZaA (i:=4) ZkK.nd rfl (Or.inl rfl))
  (Zaf (Zaq (i:=3) ZkK.nd (Zar Za3 (pv 3) (ZaH Zge (pv 0) (Zar Za2 (Zar ZaT (pv 1) (pv 4)) (Zat (Zax (K:=K) rfl) rfl T.dD ZaV (Zaa (pv 0) Zac))) (λ_ _=>rfl))))))
  (Zad (Zaf (Zaw (pv 3))))))),?_⟩
 walk_at "rd";walk_at "h";refine⟨_,rfl,∅,∅,gH.range (λk U H'=>H'=H/\∃(f:Q11) (v4:Option V),U=[some (tx l),some (.int i),some (.int (n:Nat)),some (tx f),v4]/\f.length=k/\ia l f i) ⟨rfl,[],none,rfl,rfl,λj hj=>by cases hj⟩ ?_ ?_⟩
 .rintro k U H1 hk ⟨rfl,f,v4,rfl,hf,hw⟩;walk_at "rd";have e0:i+(0+(k:Nat))=i+(f.length:Nat):=by lia
  refine⟨_,_,rfl,Zbr ∅,∅,l,_,cI l (i+(f.length:Nat)),rfl,rfl,by rw[sizeLine_eq];lia,by rw[e0];exact Zms h1,by rw[sizeLine_eq];lia,trivial,_,_,rfl,by rw[YAF,hf];rfl,hw.put h1⟩
 .rintro U H1 ⟨rfl,f,v4,rfl,hf,hw⟩;rw[YBQ]at hf;walk_at "k";exact q f hf hw
def Zm8:gy P w K mg base CX0 1 a.bG a.cC ["self","text","kinds"] (sp_K7 K a):=by
 refine T.dM.u.ok ZqN (λAu A outer s H vs Q E hr h=>?_);obtain⟨p,dx,C,l,m,rfl,hC,hp,q⟩:=h;refine⟨_,(Zab (Zcq (pv 0) (pv 1) rfl)
  (Zaf (Zcq (pv 0) (pv 2) rfl))),?_⟩
 walk_at "rd";rcases hC with rfl | rfl | rfl
 .exact⟨p,a.c_L0,dx,[],rfl,hp,T.aL,T.au,(by show 0<1000;decide),p,a.c_L0,dx,_,rfl,Zao,T.aL,T.am,(by show 1<1000;decide),q _ Zao (λb o e ne=>by rw[Zak ne,Zak ne];exact e)⟩
 .exact⟨p,a.c_L2,dx,[],rfl,hp,T.ac,T.aa,(by show 0<1000;decide),p,a.c_L2,dx,_,rfl,Zao,T.ac,T.ag,(by show 1<1000;decide),q _ Zao (λb o e ne=>by rw[Zak ne,Zak ne];exact e)⟩
 .exact⟨p,a.c_MB,dx,[],rfl,hp,T.ak,T.ah,(by show 0<1000;decide),p,a.c_MB,dx,_,rfl,Zao,T.ak,T.ax,(by show 1<1000;decide),q _ Zao (λb o e ne=>by rw[Zak ne,Zak ne];exact e)⟩
def ZoY:gy P w K mg base CX0 1 a.f_LW a.d_LW ["_law_words","_law_most"] (sp_LW K a):=by
 refine T.fH.u.ok Zqj (λAu A outer s H vs Q E hr h=>?_);obtain⟨b,ws,k,rfl,hb,hw,hl,q⟩:=h;refine⟨_,(Zaf (Zaw (ZbM (N:=["_law_word","_law_most"]) (ix:=[none,some 1]) rfl (Za4 rfl) rfl (ZaP (K:=K) rfl (pv 0)) (λ_ _ _ _=>(ZaA (i:=0) (show (["_law_word","_law_most"]:AK).Nodup from by decide +kernel) rfl (Or.inl rfl) (Or.inr rfl))) (λ_ _ _ _=>(Zb8 (ZaB Zm3 (Zat (Zax (K:=K) rfl) rfl T.dD ZaV (Zaa (pv 0) Zac)) (pv 1) (ZaJ _)))) (λ_ _ _ _=>(pv 0))))),?_⟩;walk_at "rd";refine⟨b,rfl,⟨_,.mk hb⟩,gu.listM (λj=>decide ((ws.getD j []).length<=k)) (λj=>tx (ws.getD j [])) (by rw[YAB];lia) (.mk hb) ?_ ?_ λr H2 s n e=>q r H2 s n (by rw[e,ZnL λw=>decide (w.length<=k)])⟩
 .intro j H3 Q3 hj _ q3;rw[YAB]at hj;rw[ZbP hj];walk_at "rd";have hm:ws.getD j []∈ws:=by rw[YAQ,YAH hj];exact YBv hj
  refine⟨_,_,rfl,Zbr (hl _ hm),?_⟩;have:=q3 H3 (gp.refl _);simpa using this
 .intro j H3 Q3 hj _ _ q3;rw[YAB]at hj;rw[ZbP hj];walk_at "rd";exact q3 H3 (gp.refl _)
def Zrt:gy P w K mg base CX0 1 a.bV a.dc ["self"] (sp_KQ K a):=by refine T.fz.u.ok ZqE (λAu A outer s H vs Q E hr h=>?_);obtain⟨p,la,da,l,m,ds,rfl,hp,q⟩:=h;refine⟨_,(Zaf (Zaw (Za1 (ZbI (K:=K) rfl) rfl T.fC ZcQ (Zaa (Zaz (K:=K) rfl (pv 0) rfl) Zac)))),?_⟩;obtain⟨dx,f⟩:=hp.fld;obtain⟨ts,d1,d2⟩:=hp.deed;walk_at "rd";exact⟨p,_,dx,_,_,rfl,f,T.ac,T.ad,ZbL,da,_,rfl,.inl (.mk d1),λr hr=>q r ts hr d2⟩
def Zm7:gy P w K mg base CX0 1 a.aZ a.cE ["self"] (sp_K8 K a):=by refine T.eK.u.ok ZqM (λAu A outer s H vs Q E hr h=>?_);obtain⟨p,la,da,l,m,ds,rfl,hp,q⟩:=h;refine⟨_,(Zaf (Zaw (Zaz (K:=K) rfl (pv 0) rfl))),?_⟩;obtain⟨dx,f⟩:=hp.fld;walk_at "rd";exact⟨p,_,dx,_,_,rfl,f,T.ac,T.aa,Zbm,q⟩
def Zrd:gy P w K mg base CX0 1 a.f_LT a.d_LT ["_law_one","_law_other"] (sp_LT K a):=by
 refine T.fg.u.okC T.cd_LT Zos (λA outer s H vs Q E hr h=>?_);obtain⟨b,c,xs,ys,rfl,hb,hc,okx,oky,tk,q⟩:=h;refine⟨_,(Zab (Zaq (i:=2) Zos.nd (Zar Zjt (ZbM (N:=["_law_word","_law_other"]) (ix:=[none,some 1]) rfl (Za4 rfl) rfl (ZaP (K:=K) rfl (pv 0)) (λ_ _ _ _=>(ZaA (i:=0) (show (["_law_word","_law_other"]:AK).Nodup from by decide +kernel) rfl (Or.inl rfl) (Or.inr rfl))) (λ_ _ _ _=>(Zb8 (ZaB (ZbH (K:=K) rfl) (pv 0) (pv 1) rfl))) (λ_ _ _ _=>(Zbx (Zaa (pv 0) (Zaa Zae Zac))))) (ZbM (N:=["_law_word","_law_one"]) (ix:=[none,some 0]) rfl (Za4 rfl) rfl (ZaP (K:=K) rfl (pv 1)) (λ_ _ _ _=>(ZaA (i:=0) (show (["_law_word","_law_one"]:AK).Nodup from by decide +kernel) rfl (Or.inl rfl) (Or.inr rfl))) (λ_ _ _ _=>(Zb8 (ZaB (ZbH (K:=K) rfl) (pv 0) (pv 1) rfl))) (λ_ _ _ _=>(Zbx (Zaa (pv 0) (Zaa Zae Zac)))))))
  (Zad (Zaf (Zaw (ZkY (q:="_law_apart.<locals>.<lambda>") hr T.L_lapart rfl rfl T.dL T.dD (Zaa (pv 2) Zac) rfl rfl (by kernel_rfl) ⟨rfl,rfl,rfl,rfl,rfl,rfl⟩ (λ_ _ _ _ _=>.of_eq rfl)))))),?_⟩
 have nx:=okx.len;have ny:=oky.len;have half:∀ {a1 a2:AE} {us vs:Q22} {H1:Hp} (n:Int) (Q1:VK),us.length<=200->H1 a1=some (.lst (us.map tx))->H1 a2=some (.lst (vs.map tx))->(∀(p:AE) (rs:List (AE×Q11)) (H':Hp),gp H1 H'->H1 p=none->H' p=some (.lst (rs.map λr=>.ref r.1))->(us.filter λv=>!decide (v∈vs))=rs.map (·.2)->(∀r∈rs,H' r.1=some (.tup [tx r.2,.int n]))->Q1 (.ref p) H')->gu (Itl K a1) [none,some (V.ref a2)] (Zcb 0) (ZmD (tOp (rIn K true) (jr 0) (jr 1))) (mK (Zif (jr 0) (Zif (tC (V.int n)) jJ))) H1 Q1:=λ{a1 a2 us vs H1} n Q1 hl h1 h2 hq=>by
  refine gu.dataF (xs:=us.map tx) (λi=>!decide (us.getD i []∈vs)) (λH y i=>∃t,y=.ref t/\H t=some (.tup [tx (us.getD i []),.int n])) (λ_ _ _ _ k ⟨t,e,h⟩=>⟨t,e,k _ _ h⟩) (by rw[YAB];lia) (.mk h1) ?_ ?_ ?_
  .intro i H2 Q2 hi s2 q2;rw[YAB]at hi;rw[ZbP hi];walk_at "rd";refine⟨a2,_,rfl,.inl (.mk (s2 _ _ h2)),rfl,ZbF _,_,rfl,?_⟩;rw[YAS rfl,Zgh];exact q2 H2 (gp.refl _)
  .intro i H2 Q2 hi _ s2 q2;rw[YAB]at hi;rw[ZbP hi];walk_at "rd";exact⟨sz 2 (by decide),im.of λt H3 s3 n3 l3=>q2 _ _ s3 ⟨t,rfl,l3⟩⟩
  .intro p ys H2 s2 n2 l2 e2 al;rw[YAB]at e2 al;have ef:(us.filter λv=>!decide (v∈vs))=((List.range us.length).filter λi=>!decide (us.getD i []∈vs)).map λi=>us.getD i []:=(Zb4 (λv=>!decide (v∈vs)) [] us).symm;obtain⟨rs,e3,e4,hr⟩:=Zjf (H:=H2) (v:=.int n) (ys:=ys) (ws:=us.filter λv=>!decide (v∈vs)) (by rw[ef,YAB];exact e2) λk y hk=>by obtain⟨j,hj,t,e5,h5⟩:=al k y hk;exact⟨t,us.getD j [],e5,by rw[ef,YAK,hj];rfl,h5⟩
   rw[e3]at l2;exact hq p rs H2 s2 n2 l2 e4 hr
 walk_at "rd";refine⟨b,rfl,⟨_,.mk hb⟩,half 0 _ nx hb hc λr1 rs1 H1 s1 n1 e1 w1 t1=>?_⟩;refine⟨c,rfl,⟨_,.mk (s1 _ _ hc)⟩,half 1 _ ny (s1 _ _ hc) (s1 _ _ hb) λr2 rs2 H2 s2 n2 e2 w2 t2=>?_⟩;have d:=Zc7 (ZbN okx.srt) (ZbN oky.srt);have dl:=Zc8 d okx oky;rw[w1,w2,<-YAr]at d dl;rw[YAB]at dl;refine⟨r1,r2,_,_,rfl,rfl,s2 _ _ e1,e2,?_,λr3 n3=>Zai ?_⟩
 .rw[YAF]at dl;rw[YAB,YAB];exact sz _ ∅
 rw[<-YAr];have s3:gp H2 (upd H2 r3 (.lst ((rs1++rs2).map λr=>.ref r.1))):=Zav n3;have h3:upd H2 r3 (.lst ((rs1++rs2).map λr=>.ref r.1)) r3=some (.lst ((rs1++rs2).map λr=>.ref r.1)):=Zao;generalize upd H2 r3 (.lst ((rs1++rs2).map λr=>.ref r.1))=H3 at s3 h3;have tup:∀r∈rs1++rs2,H3 r.1=some (.tup [tx r.2,.int (if r.2∈xs then 0 else 1)]):=λr hr=>by
  rcases YAW.mp hr with z | z
  .have k:r.2∈rs1.map (·.2):=YBE z;rw[<-w1]at k;rw[YAS (YAg.mp k).1];exact s3 _ _ (s2 _ _ (t1 r z))
  .have k:r.2∈rs2.map (·.2):=YBE z;rw[<-w2]at k;have k2:=(YAg.mp k).2;rw[YAL (~~~k2)];exact s3 _ _ (t2 r z)
 have s03:=s1.trans (s2.trans s3);walk_at "rd";refine⟨r3,rs1++rs2,rfl,h3,λr hr=>⟨sz _ (by have:=(Zel d okx oky (YBE hr)).2;lia),_,tup r hr⟩,tk.2.same s03,λrs' r4 H4 pm pw s4 t4 n4 e4=>?_⟩;have d':gT xs ys (rs'.map (·.2)):=⟨(pm.map _).nodup_iff.mpr d.nd,λw=>by rw[(pm.map _).mem_iff];exact d.mem w⟩;refine q r4 _ (rs'.map (·.2)) H4 (s03.l.trans s4.1) ⟨s4.2 _ _ _ (by decide) (tk.1.same s03),t4⟩ (Nw.of (s03.free n4)) e4 ⟨by rw[YAB,YAB],λi y hy=>?_⟩ d' (ZbQ (List.Perm.refl _) (by rw[YBG];exact pw) d'.nd);rw[YAK]at hy;obtain⟨r,hr,rfl⟩:=YBb.mp hy;exact⟨r.2,r.1,by rw[YAK,hr];rfl,rfl,s4.1 _ _ (tup r (pm.mem_iff.mp (YAb hr))) rfl⟩
def Zo9:gy P w K mg base CX0 1 a.bP a.cT ["self"] (sp_KO K a):=by refine T.eG.u.ok ZqG (λAu A outer s H vs Q E hr h=>?_);obtain⟨p,dA,m,F,rfl,hp,hF,q⟩:=h;refine⟨_,(Zaf (Zaw (Zat (Zgx rfl) rfl T.dL ZbD (Zaa (Zaz (K:=K) rfl (pv 0) rfl) Zac)))),?_⟩;obtain⟨dx,f⟩:=hp.fld;walk_at "rd";exact⟨p,_,dx,_,_,rfl,f,T.aG,T.ae,shS,dA,_,_,rfl,.inl hp.dct,Znl F,gU.of λr H2 s2 n2 e2=>q r H2 s2 n2 e2⟩
def Zm4:gy P w K mg base CX0 2 a.f_LH a.d_LH ["top","bottom"] (sp_LH K a):=by
 refine T.dR.u.ok Zou (λAu A outer s H vs Q E hr h=>?_);obtain⟨x,y,n,rfl,hx,hy,hy1,n8,q⟩:=h;refine⟨_,(Zab (Zaq (i:=2) Zou.nd (Zal (Zq9 T) (hM hr) rfl T.f8 Zan (Zaa (pv 0) (Zaa (pv 1) Zac))))
  (Zaf (Zaw (Zbx (Zaa (Zar ZhM (pv 0) (pv 2)) (Zaa (Zar ZhM (pv 1) (pv 2)) Zac)))))),?_⟩
 walk_at "rd";have hg:0<Int.gcd x y:=Int.gcd_pos_of_ne_zero_right x ∅;have hg1:Int.gcd x y<=y:=Int.le_of_dvd hy (Int.gcd_dvd_right x y);have cd:∀z:Int,Zp6 z (Int.gcd x y:Nat):=λz=>⟨∅,n,n8,hy1.le ∅ hg1⟩;exact⟨x,y,rfl,hx,∅,_,_,rfl,rfl,cd _,_,_,rfl,rfl,cd _,by rw[sizeLine_eq];decide,im.of λp H2 s2 n2 l2=>q p H2 s2 l2⟩
def Zm9:gy P w K mg base CX0 2 a.f_K6 a.d_K6 ["one","other"] (sp_K6 K a):=by
 refine T.dN.u.ok ZqO (λAu A outer s H vs Q E hr h=>?_);have Ax:=hr.units;obtain⟨p,q_,m,rfl,hp,hq,q⟩:=h;refine⟨_,(Zaf (Zbp (ZaB (ZbT (K:=K) rfl Ax) (Zcs (Zay (pv 0) T.aL T.aD (Zf2 T) (hM hr) T.dE.b .nil Zan) (Zcs (Zay (pv 0) T.ac T.aF (Zf2 T) (hM hr) T.dE.b .nil Zan) (Zcs (Zay (pv 0) T.ak T.ao (Zf2 T) (hM hr) T.dE.b .nil Zan) (Zay (pv 0) T.aG T.ck (Zrv T) (hM hr) T.fm.b .nil Zan)))) (Zcs (Zay (pv 1) T.aL T.aD (Zf2 T) (hM hr) T.dE.b .nil Zan) (Zcs (Zay (pv 1) T.ac T.aF (Zf2 T) (hM hr) T.dE.b .nil Zan) (Zay (pv 1) T.ak T.ao (Zf2 T) (hM hr) T.dE.b .nil Zan))) (ZaJ _)) (Zaf ZdD) ZaG)),?_⟩;walk_at "rd";have fin:=λ(H1:Hp) (e:H1=H)=>ZhU (R:=sp_KS K a [V.ref q_] H1 (λy H2=>iO K true (tx m) y H2 λx H'=>∃k,x=V.bl k/\if k=true then False else Q V.non H') E0) (e▸hq) (by subst e;exact⟨q_,m,rfl,hq,Zpi ⟨false,rfl,gV q⟩⟩);rcases hp with hb | ⟨dA,F,h⟩
 .exact(ZhU hb ⟨p,m,rfl,hb,fin H rfl⟩).elim .inl λz=>.inr (z.elim .inl λy=>.inr (.inl y))
 .obtain⟨dx,f⟩:=h.fld;exact .inr (.inr (.inr ⟨p,dx,_,rfl,f,shN,p,dA,m,F,rfl,h,fin H rfl⟩))
def Zrq:gy P w K mg base CX0 2 a.bL a.cO ["self"] (sp_KY K a):=by refine T.fL.u.ok Zqy (λAu A outer s H vs Q E hr h=>?_);obtain⟨p,l,m,rfl,hp,ok,q⟩:=h;refine⟨_,(Zaf (Zaw (Zat (Zax (K:=K) rfl) rfl T.dD ZaV (Zaa (Zay (pv 0) T.ak T.bc (Zm6 T) (hM hr) T.eL.b .nil Zan) Zac)))),?_⟩;obtain⟨dx,hp⟩:=hp;have l20:=ok.root.l20;walk_at "rd";exact⟨p,dx,_,rfl,hp,Za7 (by decide +kernel) (by decide +kernel),p,l,m,rfl,⟨dx,hp⟩,ok,_,_,rfl,Zbr ∅,q⟩
def Zf1:gy P w K mg base CX0 2 a.bg a.cG ["self","length"] (sp_KU K a):=by
 refine T.dF.u.ok ZqA (λAu A outer s H vs Q E hr h=>?_);obtain⟨p,l,m,n,N,M,W,rfl,hp,hn,q⟩:=h;refine⟨_,(Zaf (Zaw (Zal (Zra T) (hM hr) rfl T.fO Zan (Zaa (Zcs (ZaO (pv 0) T.aL T.az (Zry T) (hM hr) T.eO.b .nil Zan (Zaa (pv 1) Zac)) (ZaO (pv 0) T.ak T.cg (Zrx T) (hM hr) T.eP.b .nil Zan (Zaa (pv 1) Zac))) (Zaa (pv 1) Zac))))),?_⟩;walk_at "rd";rcases hp with⟨⟨dx,hp⟩,ok,rfl,rfl,rfl⟩|⟨⟨dx,hp⟩,ok,rfl,rfl,rfl⟩
 .have l40:=ok.l40;exact .inl ⟨p,dx,_,rfl,hp,Za7 (by decide +kernel) (by decide +kernel),p,l,m,n,rfl,⟨dx,hp⟩,l,n,rfl,∅,∅,∅,q⟩
 .have l1:=ok.l1;have l20:=ok.l20;have ll:=ZdL (l:=l) (n:=n) l1;exact .inr ⟨p,dx,_,rfl,hp,Za7 (by decide +kernel) (by decide +kernel),p,l,m,n,rfl,⟨dx,hp⟩,ok,∅,ii l n,n,rfl,∅,∅,∅,λq' H2 s2 n2 l2=>q q' H2 s2 n2 (by rw[l2,Zia l1])⟩
def Zrh:gy P w K mg base CX0 2 a.f_LK a.d_LK ["thing"] (sp_LK K a):=by
 refine T.ff.u.ok Zqm (λAu A outer s H vs Q E hr h=>?_);have Ax:=hr.units;obtain⟨l,rfl,hl,q⟩:=h;refine⟨_,(Zab (Zbp (ZcS (Zcp (Zat (Zdz (K:=K) rfl) rfl T.d7 Zda (Zaa (pv 0) (Zaa (Zjp (v:=.ty "str") rfl T.gf Zmr rfl) Zac))))) (Zaf (Zaw Zev)) ZaG)
  (Zab (Zbp (PW.pt (Zim (ZaB Zm2 (Zat (Zax (K:=K) rfl) rfl T.dD ZaV (Zaa (pv 0) Zac)) Zae (ZaJ _)) (ZeJ (ZaB Zk1 (Zat (Zax (K:=K) rfl) rfl T.dD ZaV (Zaa (pv 0) Zac)) (ZcU rfl T.c_KW) (ZaJ _))))) (Zaf (Zaw Zev)) ZaG)
  (Zaf (Zaw (Zd4 (Zal (Zo3 T) (hM hr) rfl T.d9 Zan (Zaa (pv 0) (Zaa (ZhI rfl T.c_KE) Zac))) (ZfW (ZbE (Zbe (K:=K) rfl Ax) (Za1 (Zdy rfl) rfl T.fC ZcQ (Zaa (pv 0) Zac)) (Zat (Zbd rfl) rfl T.dL ZbD (Zaa (Za1 (Zbu rfl) rfl T.fV Zep (Zaa (pv 0) Zac)) Zac)) (ZaJ _)))))))),?_⟩
 walk_at "rd";refine⟨_,_,_,_,true,rfl,rfl,.ty (.pl (.str _)),Zma,gV ?_⟩;refine⟨_,_,rfl,Zbr hl,?_⟩;refine iz (λh=>kB ?_) (λh=>?_)
 .have h1:¬1<=l.length:=by have:=of_decide_eq_true h;lia
  have e:=q H (gp.refl _);unfold isk at e;rw[decide_eq_false h1,YBo,YBo,YBo]at e;exact e
 .have h1:1<=l.length:=by have:¬((l.length:Nat):Int)<1:=λz=>h (decide_eq_true z);lia
  refine⟨_,_,rfl,Zbr hl,?_⟩;refine iz (λh'=>?_) (λh'=>?_)
  .have h4:¬l.length<=4:=by have:=of_decide_eq_true h';lia
   have e:=q H (gp.refl _);unfold isk at e;rw[decide_eq_false h4,YCD,YBo,YBo]at e;exact e
  .have h4:l.length<=4:=by have:¬4<((l.length:Nat):Int):=λz=>h' (decide_eq_true z);lia
   refine⟨l,LET,by rw[ZjG],hl,λH2 s2=>⟨_,rfl,?_⟩⟩;refine iz (λha=>?_) (λha=>?_)
   .refine⟨l,rfl,hl,gU.of λp1 H3 s3 n3 l3=>?_⟩;refine⟨gL l,by rw[jw];exact hl,.inl ⟨l,rfl,rfl⟩,λp4 n4=>?_⟩;refine⟨p4,ddl (gL l),rfl,Zao,YAP (ZnO l) (by rw[sizeLine_eq];lia),gU.of λp5 H5 s5 n5 l5=>?_⟩;refine Zml (.mk ((Zav n4).trans s5 _ _ l3)) (.mk l5) ?_;have e:=q H5 (s2.trans (s3.trans ((Zav n4).trans s5)));unfold isk at e;rw[decide_eq_true h1,decide_eq_true h4,ha,YDB,YDB,YDB]at e;exact e
   .have e:=q H2 s2;unfold isk at e;rw[YCA.mpr ha,YCD,YBo]at e;exact e
def Zk3:gy P w K mg base CX0 2 a.f_LO a.d_LO ["thing","kinds","most"] (sp_LO K a):=by
 refine T.dS.u.ok Zqk (λAu A outer s H vs Q E hr h=>?_);obtain⟨l,m,most,rfl,hl,q⟩:=h;refine⟨_,(Zaf (Zaw (Zd4 (Zat (Zdz (K:=K) rfl) rfl T.d7 Zda (Zaa (pv 0) (Zaa (Zjp (v:=.ty "str") rfl T.gf Zmr rfl) Zac))) (Zd4 (ZbE Zm3 (Zat (Zax (K:=K) rfl) rfl T.dD ZaV (Zaa (pv 0) Zac)) (pv 2) (ZaJ _)) (ZfW (Zal (Zo3 T) (hM hr) rfl T.d9 Zan (Zaa (pv 0) (Zaa (pv 1) Zac)))))))),?_⟩;walk_at "rd";refine⟨_,_,_,_,true,rfl,rfl,.ty (.pl (.str _)),Zma,jg ?_⟩;refine⟨_,_,rfl,Zbr hl,?_⟩;refine iz (λh=>?_) (λh=>?_)
 .refine⟨l,m,rfl,hl,λH2 s2=>?_⟩;have e:=q H2 s2;unfold isw at e;rw[h,YDB]at e;exact e
 .have e:=q H (gp.refl _);unfold isw at e;rw[YCA.mpr h,YBo]at e;exact e
def Zo6:gy P w K mg base CX0 2 a.f_L5 a.d_L5 ["lesser","longer"] (sp_L5 K a):=by
 refine T.fU.u.ok ZmP (λAu A outer s H vs Q E hr h=>?_);obtain⟨s_,L,rfl,hL,ex,tk,q⟩:=h;refine⟨_,(Zab (Zaq (i:=2) ZmP.nd (ZbZ Zac))
  (Zad (Zab (Zbv YBB rfl (ZfV rfl T.dO (Zaa Zae (Zaa (Zar ZaT (Zat (Zax (K:=K) rfl) rfl T.dD ZaV (Zaa (pv 1) Zac)) Zae) Zac))) (ZaA (i:=3) ZmP.nd rfl (Or.inl rfl))
  (Zab (ZaK (Zfh YBV YCJ YCI ZbO (pv 2) (Zaa (ZaL ZbS (pv 1) Za5 (ZaQ (pv 3))) Zac)))
  (Zaf (ZaK (Zfh YBV YCJ YCI ZbO (pv 2) (Zaa (ZaL ZbS (pv 1) (ZaQ (Zar ZhK (Zat (Zax (K:=K) rfl) rfl T.dD ZaV (Zaa (pv 1) Zac)) (pv 3))) Za5) Zac))))))
  (Zad (Zaf (Zaw (Zal (Zk4 T) (hM hr) rfl T.dJ Zan (Zaa (Zat (Zbd rfl) rfl T.dL ZbD (Zaa (Za1 (Zbu rfl) rfl T.fV Zep (Zaa (ZbM (N:=["word","lesser"]) (ix:=[none,some 0]) rfl (Za4 rfl) rfl (ZaP (K:=K) rfl (pv 2)) (λ_ _ _ _=>(ZaA (i:=0) (show (["word","lesser"]:AK).Nodup from by decide +kernel) rfl (Or.inl rfl) (Or.inr rfl))) (λ_ _ _ _=>(Zb8 (ZaB Zd5 (pv 0) (pv 1) rfl))) (λ_ _ _ _=>(pv 0))) Zac)) Zac)) Zac)))))))),?_⟩
 walk_at "rd";refine⟨YBC _,gU.of λpe H1 s1 ne le=>?_⟩;walk_at "g";refine⟨_,_,rfl,Zbr ∅,_,_,rfl,⟨by decide,by decide,∅,∅⟩,?_⟩;have ej:((L.length:Int)+1-1).toNat=L.length:=by lia
 rw[ej];refine gH.range (λi U H'=>∃v3,U=[some (tx s_),some (tx L),some (.ref pe),v3]/\gp H H'/\H' pe=some (.lst ((Zbf L i).map tx))) ⟨_,rfl,s1,le⟩ ?_ ?_
 .rintro i U H2 hi ⟨v3,rfl,s2,h2⟩;have el:=Zc6 L i;have e1:(1+(i:Int))=((i+1:Nat):Int):=by lia
  have e2:(L.length:Int)-(1+(i:Int))=((L.length-(i+1):Nat):Int):=by lia
  walk_at "rd";refine⟨.inl ⟨rfl,_,.mk h2⟩,_,rfl,L,rfl,sz _ ∅,pe,_,_,rfl,rfl,h2,by rw[YAB];exact sz _ ∅,.inl ⟨rfl,_,.mk Zao⟩,_,_,rfl,Zbr ∅,_,rfl,L,rfl,sz _ ∅,pe,_,_,rfl,rfl,Zao,by rw[YAF,YAB];exact sz _ (by rw[YAo];lia),_,rfl,?_,?_⟩
  .exact g0 (g0 s2 ne) ne
  .rw[Zao,e1,Zen,<-e1,e2,ZcF,ZeR,YAr,YAp];rfl
 .rintro U H2 ⟨v3,rfl,s2,h2⟩;walk_at "k";have el:=Zc6 L L.length;refine⟨pe,rfl,⟨_,.mk h2⟩,gu.listM (xs:=(Zbf L L.length).map tx) (λi=>!iP ((Zbf L L.length).getD i []) s_) (λi=>tx ((Zbf L L.length).getD i [])) (by rw[YAB];lia) (.mk h2) ?_ ?_ ?_⟩
  .intro i H3 Q3 hi s3 q3;rw[YAB]at hi;rw[ZbP hi];walk_at "rd";exact⟨_,_,rfl,rfl,q3 H3 (gp.refl _)⟩
  .intro i H3 Q3 hi _ s3 q3;rw[YAB]at hi;rw[ZbP hi];walk_at "rd";exact q3 H3 (gp.refl _)
  .intro p3 H3 s3 n3 l3;have eh:((List.range ((Zbf L L.length).map tx).length).filter λi=>!iP ((Zbf L L.length).getD i []) s_).map (λi=>tx ((Zbf L L.length).getD i []))=((Zbf L L.length).filter λv=>!iP v s_).map tx:=by rw[YAB,<-Zb4 (λv=>!iP v s_) [] (Zbf L L.length),YAw];rfl
   rw[eh]at l3;have fl:=YAx (λv=>!iP v s_) (Zbf L L.length);generalize hF:(Zbf L L.length).filter (λv=>!iP v s_)=F0 at l3 fl;have mF:∀w,w∈F0↔Frs s_ L w:=λw=>by rw[<-hF,YAg,Zf5,Zj0 ex,Bool.not_eq_true',ZhV]
   have dl:=ZnP F0;refine⟨F0,∅,.inr ⟨p3,rfl,.mk l3⟩,λp4 n4=>⟨p4,_,rfl,Zao,sz _ ∅,gU.of λp5 H5 s5 n5 l5=>?_⟩⟩;have s25:gp H H5:=s2.trans (s3.trans ((Zav n4).trans s5));have pm0:=ZaD (ddl F0);refine⟨p5,_,rfl,l5,λw hw=>?_,tk.same s25,λws r H6 pm pw sl tk6 nr lr=>?_⟩
   .have:=((mF w).mp (ZbU.mp (pm0.mem_iff.mp hw))).1.len
    lia
   .refine q ws r H6 (ZbQ pm pw (pm0.nodup_iff.mpr (Zbq F0))) (λw=>?_) (λb o e t=>sl _ _ (s25 _ _ e) t) tk6 ((Nw.of nr).same s25) lr;rw[pm.mem_iff,pm0.mem_iff,ZbU,mF]
def Zo1:gy P w K mg base CX0 2 a.f_LP a.d_LP ["_law_way","_law_cell_here","_law_kinds_here","_law_size"] (sp_LP K a):=by
 refine T.eZ.u.ok ZdB (λAu A outer s H vs Q E hr h=>?_);have Ax:=hr.units;obtain⟨w_,c,m,n,rfl,hm,h4,hn,q⟩:=h;refine⟨_,(Zab (Zaq (i:=4) ZdB.nd (Za0 (l:=[]) (by decide +kernel)))
  (Zab (Zaq (i:=5) ZdB.nd (pv 1))
  (Zab (Zbv YBB rfl (Zbw rfl T.dO (Zaa (pv 3) Zac)) (ZaA (i:=6) ZdB.nd rfl (Or.inl rfl))
  (Zab (Zaq (i:=7) ZdB.nd (pv 5))
  (Zab (Zbp (PW.pt (Zim (ZaB (Zbe (K:=K) rfl Ax) (Zar Za2 (pv 0) Zae) Zae (ZaJ _)) (ZeJ (ZaB (Zdj (K:=K) rfl) (pv 5) (Zbx (Zaa Zae (Zaa (ZmZ ZiP Zae) Zac))) rfl)))) (Zaf (Zaq (i:=7) ZdB.nd (Zal (Zrl T) (hM hr) rfl T.fY Zan (Zaa (pv 1) (Zaa (Zar ZaT Zae (pv 6)) Zac))))) ZaG)
  (Zab (Zaq (i:=4) ZdB.nd (Zar Za3 (pv 4) (ZaH Zge (pv 2) (Zar Za2 (pv 7) (Zat (Zax (K:=K) rfl) rfl T.dD ZaV (Zaa (pv 2) Zac))) (λ_ _=>rfl))))
  (Zaf (Zaq (i:=5) ZdB.nd (Zar Za6 (pv 5) (Zat (Zax (K:=K) rfl) rfl T.dD ZaV (Zaa (pv 2) Zac)))))))))
  (Zab (Zbp (PW.pt (ZhF (ZaB (Zbe (K:=K) rfl Ax) (Zar Za2 (Zar Za6 (pv 0) Zae) Zae) Zae (ZaJ _)) (Zfc (ZaB Zk1 (pv 3) Zae (ZaJ _))))) (Zab (Zaq (i:=8) ZdB.nd (Zar Za2 (Zar Za6 (pv 0) Zae) (pv 3)))
  (Zab (Zaq (i:=4) ZdB.nd (ZaL ZbS (Zar ZcV (ZaL ZbS (pv 4) Za5 (ZaQ (Zar ZaT Zae (Zar Za2 (Zar Za6 (pv 0) Zae) Zae)))) (pv 3)) Za5 (ZaQ (pv 3))))
  (Zab (Zaq (i:=9) ZdB.nd (ZaH Zge (pv 2) (Zar Za2 (Zar Za6 (pv 0) Zae) (Zat (Zax (K:=K) rfl) rfl T.dD ZaV (Zaa (pv 2) Zac))) (λ_ _=>rfl)))
  (Zaf (Zbp (ZaB (Zbe (K:=K) rfl Ax) (Zar Za2 (Zar Za6 (pv 0) Zae) Zae) Zae (ZaJ _)) (Zaf (Zaq (i:=4) ZdB.nd (Zar Za3 (Zar Za3 (ZaL ZbS (pv 4) Za5 (ZaQ (pv 8))) (pv 9)) (ZaL ZbS (pv 4) (ZaQ (Zar ZaT (pv 8) Zae)) Za5)))) ZaG))))) ZaG)
  (Zaf (Zaw (pv 4))))))),?_⟩
 walk_at "rd";have hM:m.length<=1000:=by lia
 have sz:m.length<=sizeLine:=YAP hM (by rw[sizeLine_eq];decide);have pm:(0:Int)<m.length:=by lia
 have at_:∀x:Int,∃v,atI m (x % m.length)=some v/\v∈m:=λx=>Zku (YBR _ ∅) (YBT _ pm);refine⟨_,rfl,∅,∅,gH.range (λi U H'=>gp H H'/\∃(f:Q11) (le:Int) (v6 v7:Option V),U=[some (.int w_),some (.int c),some (tx m),some (.int (n:Nat)),some (tx f),some (.int le),v6,v7,none,none]/\f.length=i/\∀x∈f,x∈m) ⟨gp.refl _,[],c,none,none,rfl,rfl,λx hx=>by cases hx⟩ ?_ ?_⟩
 .rintro i U H1 hi ⟨s1,f,le,v6,v7,rfl,hf,hfm⟩;have sf:f.length+1<=sizeLine:=by rw[sizeLine_eq];lia
  have cd:CDiv le m.length:=⟨pm,∅⟩;have mem:∀ {v:Nat},v∈m->∀x∈f++[v],x∈m:=λhv x hx=>(YAW.mp hx).elim (hfm x) λh=>by rw[YAI.mp h];exact hv
  walk_at "rd";refine⟨by decide,.inl ⟨rfl,_,rfl,iz (λh=>kB ?_) (λh=>⟨by rw[sizeLine_eq];decide,im.of λp2 H2 s2 n2 l2=>⟨p2,_,rfl,.inr (.mk l2),rfl,rfl,_,rfl,iz (λh=>?_) (λh=>?_)⟩⟩)⟩⟩
  .refine⟨_,_,rfl,λr hr=>?_⟩;walk_at "rd";obtain⟨c1,hc1,hm1⟩:=at_ r;exact⟨_,_,rfl,Zbr hM,pm,m,_,c1,rfl,rfl,sz,hc1,sf,_,_,rfl,Zbr hM,cd,s1,_,_,_,_,rfl,by simp[hf],mem hm1⟩
  .refine⟨_,_,rfl,λr hr=>?_⟩;walk_at "rd";obtain⟨c1,hc1,hm1⟩:=at_ r;exact⟨_,_,rfl,Zbr hM,pm,m,_,c1,rfl,rfl,sz,hc1,sf,_,_,rfl,Zbr hM,cd,s1.trans s2,_,_,_,_,rfl,by simp[hf],mem hm1⟩
  .obtain⟨c1,hc1,hm1⟩:=at_ le;exact⟨_,_,rfl,Zbr hM,pm,m,_,c1,rfl,rfl,sz,hc1,sf,_,_,rfl,Zbr hM,cd,s1.trans s2,_,_,_,_,rfl,by simp[hf],mem hm1⟩
 .rintro U H1 ⟨s1,f,le,v6,v7,rfl,hf,hfm⟩;rw[YBQ]at hf;walk_at "rd";refine⟨⟨by decide,by decide⟩,by decide,.inl ⟨rfl,_,rfl,iz (λh=>iz (λh2=>?_) (λh2=>q f H1 hf hfm s1)) (λh=>gV (q f H1 hf hfm s1))⟩⟩;have hn0:0<n:=by have:=of_decide_eq_true h2;lia
  obtain⟨c1,hc1,hm1⟩:=at_ (w_/2000);have cl:=Zdp f none (some (1+w_/6 % 4));obtain⟨g1,g2⟩:=fill (e:=1+w_/6 % 4) hn0 hf hfm ∅;have gl:(ip (cut f none (some (1+w_/6 % 4))) (n:Nat)).length<=60*60:=by rw[ZdJ,YBQ];exact YDH hn ∅
  have m0:=YBR (w_/24) (show ((n:Nat):Int)≠0 by lia);have m1:=YBT (w_/24) (show (0:Int)<(n:Nat) by lia);refine⟨⟨by decide,by decide⟩,∅,⟨by decide,by decide⟩,by decide,_,rfl,f,rfl,by rw[sizeLine_eq];lia,_,_,rfl,rfl,∅,∅,∅,_,rfl,_,rfl,by rw[sizeLine_eq];lia,⟨by decide,by decide⟩,_,_,rfl,Zbr hM,pm,m,_,c1,rfl,rfl,sz,hc1,⟨by decide,by decide⟩,by decide,.inl ⟨rfl,_,rfl,iz (λh3=>?_) (λh3=>q _ H1 g1 g2 s1)⟩⟩;generalize cut (ip (cut f none (some (1+w_/6 % 4))) (n:Nat)) none (some ((n:Nat):Int))=g at g1 g2;obtain⟨k1,k2⟩:=put1 (c:=c1) (i:=w_/24 % (n:Nat)) g1 g2 hm1 m0 m1;have e1:=k1;rw[YAF,YAF,YAo]at e1;refine⟨_,rfl,g,rfl,by rw[sizeLine_eq];lia,by rw[sizeLine_eq];lia,_,rfl,g,rfl,by rw[sizeLine_eq];lia,by rw[sizeLine_eq,YAF,YAo];lia,q _ H1 k1 k2 s1⟩
def Zpc:gy P w K mg base CX0 2 a.b8 a.du ["self","text","came","went"] (sp_KK K a):=by
 refine T.dZ.u.ok ZmR (λAu A outer s H vs Q E hr h=>?_);obtain⟨p,la,da,c,g,l,l2,m,old,new,ys,zs,rc,rg,rfl,hp,hla,hc,rwc,hg,rwg,ho,hn,nd,mc,mg_,lo,lc,lg,wo,wn,tk,q⟩:=h;refine⟨_,(Zad (Zab (ZcT (i:=4) ZmR.nd rfl (Or.inr rfl) (ZbM (N:=["told"]) (ix:=[none]) rfl (Za4 rfl) rfl (ZaP (K:=K) rfl (pv 3)) (λ_ _ _ _=>(ZaA (i:=0) (show (["told"]:AK).Nodup from by decide +kernel) rfl (Or.inl rfl) (Or.inr rfl))) (λ_ _ _ _=>Zbz) (λ_ _ _ _=>(ZaH (ZaS (K:=K) rfl) (pv 0) Zae (λ_ _=>rfl)))))
  (Zad (Zab (Zdg (i:=5) (N:=["word","gone"]) (ix:=[none,some 4]) rfl ZmR.nd rfl rfl rfl (Za4 rfl) rfl (ZaP (K:=K) rfl (Zaz (K:=K) rfl (pv 0) rfl)) (λ_ _ _ _=>(ZaA (i:=0) (show (["word","gone"]:AK).Nodup from by decide +kernel) rfl (Or.inl rfl) (Or.inr rfl))) (λ_ _ _ _=>(Zb8 (ZaB (ZbH (K:=K) rfl) (pv 0) (pv 1) rfl))) (λ_ _ _ _=>(pv 0)))
  (Zad (Zab (Zcq (pv 0) (Zal (Zk4 T) (hM hr) rfl T.dJ Zan (Zaa (Zar Zjt (pv 5) (ZbM (N:=["told"]) (ix:=[none]) rfl (Za4 rfl) rfl (ZaP (K:=K) rfl (pv 2)) (λ_ _ _ _=>(ZaA (i:=0) (show (["told"]:AK).Nodup from by decide +kernel) rfl (Or.inl rfl) (Or.inr rfl))) (λ_ _ _ _=>Zbz) (λ_ _ _ _=>(ZaH (ZaS (K:=K) rfl) (pv 0) Zae (λ_ _=>rfl))))) Zac)) rfl)
  (Zad (Zab (Zcq (pv 0) (pv 1) rfl)
  (Zaf (Zaw (Zbx (Zaa (pv 2) (Zaa (pv 3) Zac))))))))))))),?_⟩
 have sz:∀k:Nat,k<=30000->k<=sizeLine:=λk h=>YAP h (by rw[sizeLine_eq];decide);obtain⟨dx,f⟩:=hp;walk_at "rd";walk_at "g";have zl:=rwg.1;have yl:=rwc.1;refine⟨g,rfl,⟨_,.mk hg⟩,gu.listM (xs:=zs) (λ_=>true) (λi=>tx ((rg.map (·.1)).getD i [])) ∅ (.mk hg) (λi H' Q' _ _ q=>q H' (gp.refl _)) ?_ ?_⟩
 .intro i H1 Q1 hi _ s1 q1;obtain⟨t,u,e1,e2⟩:=Zhz rwg hi;rw[e1];walk_at "rd";exact⟨t,_,_,_,rfl,rfl,.mk (s1 _ _ e2),jC,q1 H1 (gp.refl _)⟩
 .intro pg H1 s1 n1 l1;rw[Zkm zl]at l1;walk_at "g";refine⟨p,_,dx,_,_,rfl,s1 _ _ f,T.ac,T.af,ZdH,la,rfl,⟨_,.mk (s1 _ _ hla)⟩,gu.listM (xs:=old.map tx) (λi=>!decide (old.getD i []∈rg.map (·.1))) (λi=>tx (old.getD i [])) (by rw[YAB];lia) (.mk (s1 _ _ hla)) ?_ ?_ ?_⟩
  .intro i H2 Q2 hi s2 q2;rw[YAB]at hi;rw[ZbP hi];walk_at "rd";refine⟨pg,_,rfl,.inl (.mk (s2 _ _ l1)),rfl,ZbF _,_,rfl,?_⟩;rw[YAS rfl,Zgh];exact q2 H2 (gp.refl _)
  .intro i H2 Q2 hi _ s2 q2;rw[YAB]at hi;rw[ZbP hi];walk_at "rd";exact q2 H2 (gp.refl _)
  .intro pk H2 s2 n2 l2k;have eh:((List.range (old.map tx).length).filter λi=>!decide (old.getD i []∈rg.map (·.1))).map (λi=>tx (old.getD i []))=(old.filter λv=>!decide (v∈rg.map (·.1))).map tx:=by rw[YAB,<-Zb4 (λv=>!decide (v∈rg.map (·.1))) [] old,YAw];rfl
   have e2:(old.filter λv=>!decide (v∈rg.map (·.1)))=old.filter λv=>decide (v∉rg.map (·.1)):=by congr 1;funext v;rw[decide_not]
   rw[eh,e2]at l2k;have fl:=YAx (λv=>decide (v∉rg.map (·.1))) old;generalize hk:old.filter (λv=>decide (v∉rg.map (·.1)))=kept at l2k fl;have s02:=s1.trans s2;walk_at "g";refine⟨c,rfl,⟨_,.mk (s02 _ _ hc)⟩,gu.listM (xs:=ys) (λ_=>true) (λi=>tx ((rc.map (·.1)).getD i [])) ∅ (.mk (s02 _ _ hc)) (λi H' Q' _ _ q=>q H' (gp.refl _)) ?_ ?_⟩
   .intro i H3 Q3 hi _ s3 q3;obtain⟨t,u,e1,e2⟩:=Zhz rwc hi;rw[e1];walk_at "rd";exact⟨t,_,_,_,rfl,rfl,.mk ((s02.trans s3) _ _ e2),jC,q3 H3 (gp.refl _)⟩
   .intro pc H3 s3 n3 l3;rw[Zkm yl]at l3;rw[ZoJ];refine⟨_,_,s3 _ _ l2k,l3,by rw[YAB,YAB,YAB];exact sz _ ∅,gU.of λpw H4 s4 n4 l4=>?_⟩;have s04:gp H H4:=s02.trans (s3.trans s4);rw[<-YAr]at l4;refine⟨pw,_,rfl,l4,λw hw=>?_,tk.same s04,λws r H5 pm pw5 sl tk5 nr lr=>?_⟩
    .rcases YAW.mp hw with h | h
     .rw[<-hk]at h;exact wo w (YAg.mp h).1
     .exact wn w ((mc w).mp h).1
    .rw[<-hk]at pm;have en:=Znn ho hn mc nd mg_ pm pw5;rw[en]at lr;have f5:=sl _ _ (s04 _ _ f) rfl;refine⟨p,_,dx,_,rfl,f5,T.ac,T.af,(by show 4<1000;decide),?_⟩;rw[show gM (Str.ofString "own_lacking") (.ref r) (sF l m la da)=sF l m r da from Zje];walk_at "g";refine⟨p,_,dx,_,rfl,Zao,T.ac,T.aa,(by show 4<1000;decide),sz _ (by decide),im.of λt H7 s7 n7 l7=>?_⟩;rw[show gM (Str.ofString "own_text") (tx l2) (sF l m r da)=sF l2 m r da from Zjd]at s7;have nrp:p≠r:=Zag (s04 _ _ f) nr;refine q t r H7 ?_ ⟨dx,s7 _ _ Zao⟩ ((Nw.of nr).same s04) (s7 _ _ (by rw[Zak (YBW nrp),Zak (YBW nrp)];exact lr)) l7 ?_
     .exact s04.chg.trans (sl.chg.trans ((Chg.upd (by simp)).trans ((Chg.upd (by simp)).trans s7.chg)))
     .exact((tk5.upd f5 rfl rfl).upd Zao rfl rfl).same s7
def Zq8:gy P w K mg base CX0 3 a.f_MD a.d_MD ["one","other"] (sp_MD K a):=by refine T.f9.u.ok Zqh (λAu A outer s H vs Q E hr h=>?_);obtain⟨p,r,x,y,z,u,n,rfl,hp,hr_,hy,hu,bx,by_,bz,bu,n8,q⟩:=h;refine⟨_,(Zaf (Zaw (Zal (Zm4 T) (hM hr) rfl T.dR Zan (Zaa (Zar ZaT (Zar Zd6 (ZaH (ZaS (K:=K) rfl) (pv 0) Zae (λ_ _=>rfl)) (ZaH (ZaS (K:=K) rfl) (pv 1) Zae (λ_ _=>rfl))) (Zar Zd6 (ZaH (ZaS (K:=K) rfl) (pv 1) Zae (λ_ _=>rfl)) (ZaH (ZaS (K:=K) rfl) (pv 0) Zae (λ_ _=>rfl)))) (Zaa (Zar Zd6 (ZaH (ZaS (K:=K) rfl) (pv 0) Zae (λ_ _=>rfl)) (ZaH (ZaS (K:=K) rfl) (pv 1) Zae (λ_ _=>rfl))) Zac))))),?_⟩;walk_at "rd";have b2:Bt (n+n) (x*u):=bx.mul bu;have b3:Bt (n+n) (z*y):=bz.mul by_;have b4:Bt (n+n) (y*u):=by_.mul bu;refine⟨p,_,_,_,rfl,rfl,.mk hp,rfl,r,_,_,_,rfl,rfl,.mk hr_,rfl,_,_,rfl,rfl,⟨n,∅,bx,bu⟩,r,_,_,_,rfl,rfl,.mk hr_,rfl,p,_,_,_,rfl,rfl,.mk hp,rfl,_,_,rfl,rfl,⟨n,∅,bz,by_⟩,_,_,rfl,rfl,p,_,_,_,rfl,rfl,.mk hp,rfl,r,_,_,_,rfl,rfl,.mk hr_,rfl,_,_,rfl,rfl,⟨n,∅,by_,bu⟩,?_⟩;exact⟨_,_,n+n,rfl,Int.add_nonneg b2.1 b3.1,Int.mul_pos hy hu,b4,∅,q⟩
def Ziq:gy P w K mg base CX0 3 a.bh a.cJ ["self"] (sp_KG K a):=by
 refine T.dG.u.ok Zil (λAu A outer s H vs Q E hr h=>?_);obtain⟨p,l,m,N,M,W,rfl,hp,q⟩:=h;refine⟨_,(Zab (Zaq (i:=1) Zil.nd (ZbZ Zac))
  (Zab (Zaq (i:=2) Zil.nd (Zcs (ZaO (pv 0) T.aL T.aE (Zf1 T) (hM hr) T.dF.b .nil Zan (Zaa Zae Zac)) (ZaO (pv 0) T.ak T.ai (Zf1 T) (hM hr) T.dF.b .nil Zan (Zaa Zae Zac))))
  (Zab (Zbv YBB rfl (ZfV rfl T.dO (Zaa Zae (Zaa (Zar ZaT (Zcs (Zay (pv 0) T.aL T.aH (Zrr T) (hM hr) T.fK.b .nil Zan) (Zay (pv 0) T.ak T.ci (Zrq T) (hM hr) T.fL.b .nil Zan)) Zae) Zac))) (ZaA (i:=3) Zil.nd rfl (Or.inl rfl))
  (Zab (Zaq (i:=4) Zil.nd (Zcs (ZaO (pv 0) T.aL T.aE (Zf1 T) (hM hr) T.dF.b .nil Zan (Zaa (pv 3) Zac)) (ZaO (pv 0) T.ak T.ai (Zf1 T) (hM hr) T.dF.b .nil Zan (Zaa (pv 3) Zac))))
  (Zab (ZaK (Zfh YBV PySem.F.slot_list_extend PySem.F.type_list_extend ZjA (pv 1) (Zaa (Zal (Zro T) (hM hr) rfl T.fW Zan (Zaa (pv 2) (Zaa (pv 4) (Zaa (Zaz (K:=K) rfl (pv 0) rfl) Zac)))) Zac)))
  (Zaf (Zaq (i:=2) Zil.nd (pv 4))))))
  (Zaf (Zaw (pv 1)))))),?_⟩
 have bd:=hp.bd;obtain⟨n41,nM,m4,wl⟩:=bd;obtain⟨dx,C,hC,hf,cl,nk⟩:∃dx C,(C=a.c_L0\/C=a.c_MB)/\H p=some (.ins C dx (jB l m))/\Cls K C/\gK K C "own_kinds":=by
  rcases hp with⟨⟨dx,f⟩,_⟩|⟨⟨dx,f⟩,_⟩
  .exact⟨dx,_,.inl rfl,f,T.aL,T.am⟩
  .exact⟨dx,_,.inr rfl,f,T.ak,T.ax⟩
 walk_at "rd";refine⟨YBC _,gU.of λpf H1 s1 nf lf=>?_⟩;have h1:=hp.same s1;apply Zb7 (C:=λr H'=>gp H1 H'/\H1 r=none/\H' r=some (.lst ((W 0).map tx)))
 .intro tail;exact ZmA h1 (by decide +kernel) (by decide +kernel) (λ_ _ _=>⟨p,l,m,0,N,M,W,rfl,h1,YBC _,λq0 H2 s2 n2 e2=>tail q0 H2 ⟨s2,n2,e2⟩⟩) (λ_ _ _=>⟨p,l,m,0,N,M,W,rfl,h1,YBC _,λq0 H2 s2 n2 e2=>tail q0 H2 ⟨s2,n2,e2⟩⟩)
 rintro q0 H2 ⟨s2,n2,e2⟩;have h2:=h1.same s2;apply Zib (C:=λn=>n=N)
 .intro tail;refine ZmA h2 (by decide +kernel) (by decide +kernel) (λr ok e=>⟨p,l,m,rfl,r,ok,?_⟩) (λr ok e=>⟨p,l,m,rfl,r,ok,?_⟩)
  .obtain⟨n',en⟩:∃n':Nat,n'=N:=⟨N,rfl⟩;have ec:((l.length:Int)+1)=(n':Int):=by lia
   rw[ec];exact tail n' en
  .rw[Zby ok.l1];exact tail (Zam l) e.symm
 rintro N rfl;walk_at "rd?";have ej:((N:Nat)+1-1:Int).toNat=N:=by lia
 refine⟨_,_,rfl,⟨∅,∅,∅,∅⟩,?_⟩;rw[ej];refine gH.range (λi U H'=>∃(v3 v4:Option V) (q0:AE),U=[some (.ref p),some (.ref pf),some (.ref q0),v3,v4]/\gp H H'/\H' pf=some (.lst ((Zga W m i).map tx))/\H' q0=some (.lst ((W i).map tx))/\pf≠q0) ⟨_,_,q0,rfl,s1.trans s2,s2 _ _ lf,e2,Zag lf n2⟩ ?_ ?_
 .rintro i U H3 hi ⟨v3,v4,q0,rfl,s3,h3,h4,ne0⟩;have e1:(1+(i:Int))=((i+1:Nat):Int):=by lia
  have la:=Zf9 m4 (λk hk=>(wl k hk).1) (i+1) ∅;rw[Zdl,YAF]at la;rw[e1];walk_at "rd";have h3p:=hp.same s3;apply Zb7 (C:=λr H'=>gp H3 H'/\H3 r=none/\H' r=some (.lst ((W (i+1)).map tx)))
  .intro tail;exact ZmA h3p (by decide +kernel) (by decide +kernel) (λ_ _ _=>⟨p,l,m,i+1,N,M,W,rfl,h3p,∅,λq0 H2 s2 n2 e2=>tail q0 H2 ⟨s2,n2,e2⟩⟩) (λ_ _ _=>⟨p,l,m,i+1,N,M,W,rfl,h3p,∅,λq0 H2 s2 n2 e2=>tail q0 H2 ⟨s2,n2,e2⟩⟩)
  rintro q1 H4 ⟨s4,n4,e4⟩;have h3':=s4 _ _ h3;have ne1:pf≠q1:=Zag h3 n4;walk_at "rd?";refine⟨.inl ⟨rfl,_,.mk h3'⟩,p,_,dx,_,_,rfl,(s3.trans s4) _ _ hf,cl,nk,Zdn,?_⟩;refine⟨q0,q1,W i,W (i+1),m,rfl,s4 _ _ h4,e4,by have:=(wl i ∅).1;lia,m4,λw hw=>by have:=(wl i ∅).2 w hw;lia,λr H5 s5 n5 e5=>?_⟩;refine⟨pf,r,_,_,rfl,rfl,s5 _ _ h3',e5,by rw[YAB,YAB,sizeLine_eq];lia,_,_,q1,rfl,g0 (s3.trans (s4.trans s5)) nf,?_,?_,ne1⟩
  .rw[Zao,Zdl,YAr]
  .rw[Zak (YBW ne1)];exact s5 _ _ e4
 .rintro U H3 ⟨v3,v4,q0,rfl,s3,h3,h4,ne0⟩;walk_at "rd";exact q pf H3 s3 nf h3
def Zrj:gy P w K mg base CX0 3 a.f_LE a.d_LE ["thing","kinds"] (sp_LE K a):=by
 refine T.eI.u.ok Zqq (λAu A outer s H vs Q E hr h=>?_);have Ax:=hr.units;obtain⟨l,m,rfl,hl,q⟩:=h;refine⟨_,(Zaf (Zaw (Zd4 (Zal (Zk3 T) (hM hr) rfl T.dS Zan (Zaa (pv 0) (Zaa (pv 1) (Zaa Zae Zac)))) (ZfW (ZbE (Zbe (K:=K) rfl Ax) (Zat (Zax (K:=K) rfl) rfl T.dD ZaV (Zaa (pv 0) Zac)) Zae (ZaJ _)))))),?_⟩;walk_at "rd";refine⟨l,m,1,rfl,hl,λH1 s1=>⟨_,rfl,iz (λh=>?_) (λh=>?_)⟩⟩
 .refine⟨_,_,rfl,Zbr hl,.inl ⟨rfl,?_⟩⟩;have e:=q H1 s1;unfold isl at e;rw[h,YDB]at e;rw[YAL YAE];simpa using e
 .have e:=q H1 s1;unfold isl at e;rw[YCA.mpr h,YBo]at e;exact e
def Zk6:gy P w K mg base CX0 3 a.f_K5 a.d_K5 ["thing"] (sp_K5 K a):=by refine T.dI.u.ok ZqP (λAu A outer s H vs Q E hr h=>?_);obtain⟨l,rfl,hl,hk,q⟩:=h;refine⟨_,(Zaf (Zbp (ZcS (Zcp (Zal (Zrh T) (hM hr) rfl T.ff Zan (Zaa (pv 0) Zac)))) (Zaf ZdD) ZaG)),?_⟩;walk_at "rd";refine⟨l,rfl,hl,λH2 s2=>⟨_,rfl,?_⟩⟩;rw[hk,YCR];exact gV (q H2 s2)
def Zri:gy P w K mg base CX0 3 a.f_LF a.d_LF ["thing","kinds","most"] (sp_LF K a):=by refine T.eJ.u.ok Zqp (λAu A outer s H vs Q E hr h=>?_);obtain⟨l,m,most,rfl,hl,hk,q⟩:=h;refine⟨_,(Zaf (Zbp (ZcS (Zcp (Zal (Zk3 T) (hM hr) rfl T.dS Zan (Zaa (pv 0) (Zaa (pv 1) (Zaa (pv 2) Zac)))))) (Zaf ZdD) ZaG)),?_⟩;walk_at "rd";refine⟨l,m,most,rfl,hl,λH2 s2=>⟨_,rfl,?_⟩⟩;rw[hk,YCR];exact gV (q H2 s2)
def Zrg:gy P w K mg base CX0 3 a.f_LL a.d_LL ["one","other"] (sp_LL K a):=by
 refine T.fD.u.ok ZmM (λAu A outer s H vs Q E hr h=>?_);have Ax:=hr.units;obtain⟨p,p2,l,m,l2,rfl,hp,hp2,ok,ok2,nt,q⟩:=h;refine⟨_,(Zab (Zaq (i:=2) ZmM.nd Zae)
  (Zad (Zab (Zfe YBB (ZaB (Zbe (K:=K) rfl Ax) (ZaO (pv 0) T.ak T.ai (Zf1 T) (hM hr) T.dF.b .nil Zan (Zaa (pv 2) Zac)) (ZaO (pv 1) T.ak T.ai (Zf1 T) (hM hr) T.dF.b .nil Zan (Zaa (pv 2) Zac)) (ZaJ _))
  (Zaf (Zl2 (i:=2) ZmM.nd rfl (Or.inl rfl) Zae Zmd)))
  (Zad (Zaf (Zaw (ZaH (ZaC (K:=K) rfl) (Zat (Zbd rfl) rfl T.dL ZbD (Zaa (Zar (Zjr (P:=P) (w:=w) rfl rfl) (Za1 (Zbu rfl) rfl T.fV Zep (Zaa (ZaO (pv 0) T.ak T.ai (Zf1 T) (hM hr) T.dF.b .nil Zan (Zaa (pv 2) Zac)) Zac)) (Za1 (Zbu rfl) rfl T.fV Zep (Zaa (ZaO (pv 1) T.ak T.ai (Zf1 T) (hM hr) T.dF.b .nil Zan (Zaa (pv 2) Zac)) Zac))) Zac)) Zae (λ_ _=>rfl)))))))),?_⟩
 have sz:∀k:Nat,k<=1000->k<=sizeLine:=λk h=>YAP h (by rw[sizeLine_eq];decide);have l20:=ok.l20;have i20:=ok2.l20;obtain⟨N,N1,N2,Nn⟩:=ZiO ok.l1 ok2.l1 nt;walk_at "rd";walk_at "g";refine iE.by (λU H'=>∃(n:Nat),U=[some (.ref p),some (.ref p2),some (.int (n:Nat))]/\gp H H'/\1<=n/\n<=N/\∀j,1<=j->j<n->Zaj l j=Zaj l2 j) (λU _=>match U with | [_,_,some (.int n)]=>N-n.toNat | _=>0) ⟨1,rfl,gp.refl _,YAT _,N1,λj h1 h2=>by lia⟩ ?_
 rintro U H1 ⟨n,rfl,s1,n1,nN,eqs⟩;refine⟨decide (Zaj l n=Zaj l2 n),λQ' hq=>?_,λH2 s2=>?_⟩
 .obtain⟨d1,e1⟩:=hp;obtain⟨d2,e2⟩:=hp2;have g1:=s1 _ _ e1;walk_at "rd";refine⟨p,d1,_,rfl,g1,Za7 (by decide +kernel) (by decide +kernel),p,l,m,n,_,41,_,rfl,.inr ⟨⟨d1,g1⟩,ok,rfl,rfl,rfl⟩,∅,λq1 H2 s2 f1 h1=>?_⟩;have g2:=s2 _ _ (s1 _ _ e2);refine⟨p2,d2,_,rfl,g2,Za7 (by decide +kernel) (by decide +kernel),p2,l2,m,n,_,41,_,rfl,.inr ⟨⟨d2,g2⟩,ok2,rfl,rfl,rfl⟩,∅,λq2 H3 s3 f2 h2=>?_⟩;exact Zml (.mk (s3 _ _ h1)) (.mk h2) ⟨_,rfl,hq H3 (s2.trans s3)⟩
 .by_cases c:Zaj l n=Zaj l2 n
  .rw[decide_eq_true c];refine jg ?_;walk_at "rd";have nN':n<N:=Nat.lt_of_le_of_ne nN λe=>Nn (e▸c);refine⟨_,_,rfl,rfl,⟨n+1,rfl,s1.trans s2,∅,nN',λj h1 h2=>?_⟩,?_⟩
   .by_cases e:j=n
    .rw[e];exact c
    .exact eqs j h1 ∅
   .show N-((n:Int)+1).toNat<N-((n:Int)).toNat
    lia
  .rw[decide_eq_false c];refine gV ?_;walk_at "rd";refine Zai ?_;obtain⟨d1,e1⟩:=hp;obtain⟨d2,e2⟩:=hp2;have s02:=s1.trans s2;have g1:=s02 _ _ e1;walk_at "rd";refine⟨p,d1,_,rfl,g1,Za7 (by decide +kernel) (by decide +kernel),p,l,m,n,_,41,_,rfl,.inr ⟨⟨d1,g1⟩,ok,rfl,rfl,rfl⟩,∅,λq1 H3 s3 f1 h1=>?_⟩;have a1:=ZlY l n;have a2:=ZlY l2 n;refine⟨Zaj l n,∅,.inr ⟨q1,rfl,.mk h1⟩,λpa na=>?_⟩;have s4:gp H3 (upd H3 pa (i3 P w pa (ddl (Zaj l n)))):=Zav na;have h4:upd H3 pa (i3 P w pa (ddl (Zaj l n))) pa=some (i3 P w pa (ddl (Zaj l n))):=Zao;generalize upd H3 pa (i3 P w pa (ddl (Zaj l n)))=H4 at s4 h4;have s04:=(s02.trans s3).trans s4;have g2:=s04 _ _ e2;refine⟨p2,d2,_,rfl,g2,Za7 (by decide +kernel) (by decide +kernel),p2,l2,m,n,_,41,_,rfl,.inr ⟨⟨d2,g2⟩,ok2,rfl,rfl,rfl⟩,∅,λq2 H5 s5 f2 h2=>?_⟩;refine⟨Zaj l2 n,∅,.inr ⟨q2,rfl,.mk h2⟩,λpb nb=>?_⟩;have h45:=s5 _ _ h4;have s6:gp H5 (upd H5 pb (i3 P w pb (ddl (Zaj l2 n)))):=Zav nb;have b1:=ZfB (Zaj l n);have b2:=ZfB (Zaj l2 n);refine⟨pa,pb,_,_,rfl,rfl,s6 _ _ h45,Zao,Zbq _,Zbq _,Zag h45 nb,∅,λpc nc=>?_⟩;have s7:=s6.trans (Zav (o:=i3 P w pc (ic (ddl (Zaj l n)) (ddl (Zaj l2 n)))) nc);have xl:=Zmu (ddl (Zaj l n)) (ddl (Zaj l2 n));refine⟨pc,_,rfl,Zao,sz _ ∅,gU.of λpd H8 s8 n8 h8=>?_⟩;obtain⟨x,r,ex,xm,xn⟩:=Zky c (ZbY l n) (ZbY l2 n);rw[ex]at h8;exact⟨pd,_,0,tx x,rfl,rfl,.mk h8,jC,q n x H8 ⟨n1,eqs,c,xm,xn⟩ (((s04.trans s5).trans s7).trans s8)⟩
def Zo2:gy P w K mg base CX0 3 a.f_LN a.d_LN ["thing"] (sp_LN K a):=by refine T.eY.u.ok Zql (λAu A outer s H vs Q E hr h=>?_);have Ax:=hr.units;obtain⟨n,rfl,hn,q⟩:=h;refine⟨_,(Zaf (Zaw (Zd4 (Zal (Zk3 T) (hM hr) rfl T.dS Zan (Zaa (pv 0) (Zaa (ZhI rfl T.c_KE) (Zaa (ZcU rfl T.c_KH) Zac)))) (ZfW (ZbE (ZbT (K:=K) rfl Ax) (pv 0) (Za0 (l:=[]) (by decide +kernel)) (ZaJ _)))))),?_⟩;walk_at "rd";rw[ZjG];have n8:=Zns hn;unfold isn at hn;rw[YAY]at hn;refine⟨_,LET,8,rfl,∅,λH2 s2=>?_⟩;rw[hn.1];exact⟨_,rfl,jg (.inl ⟨rfl,by rw[YAS rfl,ZcK,<-decide_not,hn.2];exact q H2 s2⟩)⟩
def ZoZ:gy P w K mg base CX0 3 a.f_LS a.d_LS ["lesser","longer","reason"] (sp_LS K a):=by
 refine T.fE.u.ok Zot (λAu A outer s H vs Q E hr h=>?_);obtain⟨s_,L,rs,m,rfl,hL,ex,hm,hrise,tk,q⟩:=h;refine⟨_,(Zab (Zaq (i:=3) Zot.nd (ZaH (ZaC (K:=K) rfl) (Zal (Zo6 T) (hM hr) rfl T.fU Zan (Zaa (pv 0) (Zaa (pv 1) Zac))) Zae (λ_ _=>rfl)))
  (Zaf (Zaw (ZbZ (Zaa (Zbx (Zaa (pv 3) (Zaa (Zbx (Zaa (pv 2) (Zaa (Zl4 (K:=K) rfl PySem.F.plainAttrs_str PySem.F.slot_str_find PySem.F.type_str_find ZhP (pv 1) (Zaa (pv 3) Zac)) Zac))) Zac))) Zac))))),?_⟩
 walk_at "rd";refine⟨s_,L,rfl,hL,ex,tk,λF r H1 pw mF sl tk1 nr lr=>?_⟩;walk_at "rd?";obtain⟨w0,F',rfl⟩:∃w0 F',F=w0::F':=by
  have:L∈F:=(mF L).mpr ⟨Inf.refl L,λz=>by have:=z.len;have:=ex.len;lia⟩;cases F with
  | nil=>cases this
  | cons x F'=>exact⟨x,F',rfl⟩
 have f0:=(mF w0).mp YAZ;have hmn:∀w,Frs s_ L w->¬g9 w w0:=λw hw hb=>by
  rcases YAJ.mp ((mF w).mpr hw) with rfl | h
  .exact Zdb hb
  .exact ZgE hb ((YAz.mp pw).1 w h)
 have eF:=Zly ex hm hrise f0 hmn;refine⟨r,_,_,_,rfl,rfl,.mk lr,jC,rfl,L,w0,rfl,rfl,λk hk=>⟨sz _ (by decide),im.of λt1 H2 s2 n2 l2=>⟨sz _ (by decide),im.of λt2 H3 s3 n3 l3=>⟨sz _ (by decide),gU.of λp4 H4 s4 n4 l4=>?_⟩⟩⟩⟩;have ek:k=((fpl L w0:Nat):Int):=by
  rcases hk with⟨_,no⟩|⟨i,rfl,at_,mn⟩
  .exact absurd f0.1 no
  .rw[Zmi at_ mn]
 have s14:=s2.trans (s3.trans s4);refine q [.ref t2] p4 H4 (sl.trans s14.l) (tk1.same s14) ((((Nw.of n4).same s3).same s2).l sl) l4 ?_;subst ek;unfold ZdZ;rw[eF];refine⟨rfl,λi y hy=>?_⟩
 match i,hy with
 | 0,hy=>
  cases hy;exact⟨_,rfl,t2,t1,rfl,s4 _ _ l3,(s3.trans s4) _ _ l2⟩
def ZoX:gy P w K mg base CX0 3 a.f_LX a.d_LX ["lesser","longer","kinds","reason"] (sp_LX K a):=by
 refine T.fF.u.ok Zik (λAu A outer s H vs Q E hr h=>?_);have hu1:=ZaE hr;obtain⟨s_,L,rs,m,rfl,hL,ex,hm,hrise,m4,tk,q⟩:=h;refine⟨_,(Zab (ZcT (i:=4) Zik.nd rfl (Or.inr rfl) ZhJ)
  (Zad (Zab (Zbv YBB rfl (ZaP (K:=K) rfl (Zal (Zo6 T) (hM hr) rfl T.fU Zan (Zaa (pv 0) (Zaa (pv 1) Zac)))) (ZaA (i:=5) Zik.nd rfl (Or.inl rfl))
  (Zab (Zaq (i:=6) Zik.nd (Zbx (Zaa (pv 3) (Zaa (pv 5) (Zaa (Zl4 (K:=K) rfl PySem.F.plainAttrs_str PySem.F.slot_str_find PySem.F.type_str_find ZhP (pv 1) (Zaa (pv 5) Zac)) Zac)))))
  (Zaf (Zbv YBB rfl (Zff (pv 2)) (ZaA (i:=7) Zik.nd rfl (Or.inl rfl))
  (Zaf (Zbv YBB rfl (ZaP (K:=K) rfl (ZbZ (Zaa (Zar Za3 (pv 5) (pv 7)) (Zaa (Zar Za3 (pv 7) (pv 5)) Zac)))) (ZaA (i:=8) Zik.nd rfl (Or.inl rfl))
  (Zaf (Zbp (Zcp (Zal (Zrn T) (hM hr) rfl T.fX Zan (Zaa (pv 1) (Zaa (pv 8) Zac)))) (Zad (Zaf (Zjm hu1 (pv 4) (pv 8) (pv 6) rfl))) ZaG))))))))
  (Zaf (Zaw (ZbM (N:=["word","found"]) (ix:=[none,some 4]) rfl (Za4 rfl) rfl (ZaP (K:=K) rfl (Zal (Zk4 T) (hM hr) rfl T.dJ Zan (Zaa (Za1 (ZiE rfl) rfl T.fC ZcQ (Zaa (pv 4) Zac)) Zac))) (λ_ _ _ _=>(ZaA (i:=0) (show (["word","found"]:AK).Nodup from by decide +kernel) rfl (Or.inl rfl) (Or.inr rfl))) (λ_ _ _ _=>Zbz) (λ_ _ _ _=>(Zbx (Zaa (pv 0) (Zaa (ZgY hu1 (pv 1) (pv 0) (λ_ _=>rfl)) Zac)))))))))),?_⟩
 walk_at "rd";intro pd hpd;walk_at "g";have s0:gp H (upd H pd (.dK [])):=Zav hpd;have h0:upd H pd (.dK []) pd=some (.dK []):=Zao;generalize upd H pd (.dK [])=H0 at s0 h0;refine⟨s_,L,rfl,hL,ex,tk.same s0,λF pF H1 pw mF sl tk1 nF lF=>?_⟩;have d1:=sl _ _ h0 rfl;have nFd:pd≠pF:=λz=>by rw[z,lF]at d1;cases d1
 have FL:F.length<=82:=by
  have nd:F.Nodup:=ZbN pw;have hs:∀w∈F,w∈Zbf L L.length:=λw hw=>Zf5.mpr ((Zj0 ex).mp ((mF w).mp hw)).1;have:=Zb0 F _ nd hs;rw[Zc6]at this
  lia
 refine⟨pF,rfl,⟨_,.mk lF⟩,gH.list (xs:=F.map tx) (λi U H'=>∃v5 v6 v7 v8 kvs ws,U=[some (tx s_),some (tx L),some (tx m),some (tx rs),some (.ref pd),v5,v6,v7,v8]/\(∀b o,H1 b=some o->b≠pd->H' b=some o)/\H' pd=some (.dK kvs)/\DI H' s_ L rs (λw=>∃sh∈F.take i,∃c∈m,w=sh++[c]\/w=c::sh) kvs ws/\kvs.length<=i*8) ⟨_,_,_,_,[],[],rfl,λb o e _=>e,d1,⟨rfl,by simp,λw=>by simp,by simp⟩,by simp⟩ (λi U H' _ ⟨_,_,_,_,_,_,_,k',_⟩=>.mk (k' _ _ lF (YBW nFd))) ?_ ?_⟩
 .rintro i x U H2 hx ⟨v5,v6,v7,v8,kvs,ws,rfl,k2,d2,i2,n2⟩;obtain⟨sh,hsh,rfl⟩:∃sh,F[i]?=some sh/\x=tx sh:=by
   rw[YAK]at hx;cases e:F[i]? with
   | none=>rw[e]at hx;cases hx
   | some sh=>rw[e]at hx;exact⟨sh,rfl,(Option.some.inj hx).symm⟩
  have fsh:=(mF sh).mp (YAb hsh);have shl:=fsh.1.len;have hi:i<F.length:=(YAN.mp hsh).1;walk_at "rd";refine⟨rfl,L,sh,rfl,rfl,λr hr=>⟨sz _ (by decide),im.of λt1 H3 s3 n3 l3=>?_⟩⟩;have er:r=((fpl L sh:Nat):Int):=by
   rcases hr with⟨_,no⟩|⟨i,rfl,at_,mn⟩
   .exact absurd fsh.1 no
   .rw[Zmi at_ mn]
  subst er;have d3:=s3 _ _ d2;refine⟨m,rfl,gH.text (λj U H'=>∃v7 v8 kvs ws,U=[some (tx s_),some (tx L),some (tx m),some (tx rs),some (.ref pd),some (tx sh),some (.ref t1),v7,v8]/\(∀b o,H1 b=some o->b≠pd->H' b=some o)/\H' t1=some (.tup [tx rs,tx sh,.int ((fpl L sh:Nat):Int)])/\H' pd=some (.dK kvs)/\DI H' s_ L rs (λw=>(∃sh∈F.take i,∃c∈m,w=sh++[c]\/w=c::sh)\/∃c∈m.take j,w=sh++[c]\/w=c::sh) kvs ws/\kvs.length<=i*8+2*j) ⟨_,_,_,_,rfl,λb o e nb=>s3 _ _ (k2 b o e nb),l3,d3,i2.grow (λb us e=>s3 _ _ e) (λw _=>by simp),∅⟩ ?_ ?_⟩
  .rintro j c U H4 hc ⟨v7,v8,kvs,ws,rfl,k4,t4,d4,i4,n4⟩;have hcm:c∈m:=YAb hc;have hj:j<m.length:=(YAN.mp hc).1;walk_at "rd";refine⟨sz _ ∅,sz _ ∅,sz _ (by decide),gU.of λpl H5 s5 n5 l5=>?_⟩;have nl:pd≠pl:=Zag d4 n5;refine⟨pl,rfl,⟨_,.mk l5⟩,gH.list (xs:=[tx (sh++[c]),tx (c::sh)]) (λk U H'=>∃v8 kvs ws,U=[some (tx s_),some (tx L),some (tx m),some (tx rs),some (.ref pd),some (tx sh),some (.ref t1),some (tx [c]),v8]/\(∀b o,H1 b=some o->b≠pd->H' b=some o)/\H' t1=some (.tup [tx rs,tx sh,.int ((fpl L sh:Nat):Int)])/\H' pl=some (.lst [tx (sh++[c]),tx (c::sh)])/\H' pd=some (.dK kvs)/\DI H' s_ L rs (λw=>((∃sh∈F.take i,∃c∈m,w=sh++[c]\/w=c::sh)\/∃c∈m.take j,w=sh++[c]\/w=c::sh)\/w∈[sh++[c],c::sh].take k) kvs ws/\kvs.length<=i*8+2*j+k) ⟨_,_,_,rfl,λb o e nb=>s5 _ _ (k4 b o e nb),s5 _ _ t4,l5,s5 _ _ d4,i4.grow (λb us e=>s5 _ _ e) (λw _=>by simp),∅⟩ (λk U H' _ ⟨_,_,_,_,_,_,l',_⟩=>.mk l') ?_ ?_⟩
   .rintro k y U H6 hy ⟨v8,kvs,ws,rfl,k6,t6,l6,d6,i6,n6⟩;obtain⟨z,hz,rfl,ez⟩:∃z,[sh++[c],c::sh][k]?=some z/\y=tx z/\(z=sh++[c]\/z=c::sh):=by
     match k,hy with
     | 0,hy=>cases hy;exact⟨_,rfl,rfl,.inl rfl⟩
     | 1,hy=>cases hy;exact⟨_,rfl,rfl,.inr rfl⟩
    have zl:z.length=sh.length+1:=by rcases ez with rfl | rfl<;>simp
    have zne:z≠[]:=λe=>by rw[e]at zl;simp at zl
    have hk:k<2:=(YAN.mp hz).1;walk_at "rd";refine⟨L,z,rfl,∅,∅,_,rfl,?_⟩;have tkS:∀w,w∈[sh++[c],c::sh].take (k+1)↔(w∈[sh++[c],c::sh].take k\/w=z):=λw=>by rw[Zcj hz,YAW,YAI]
    cases hb:ZjM L z with
    | false=>
     have nm:¬ja L z:=λh=>by rw[(Zgc zne).mpr h]at hb;cases hb
     refine gV ⟨_,kvs,ws,rfl,k6,t6,l6,d6,i6.grow (λ_ _ e=>e) (λw mw=>?_),∅⟩;rw[tkS];constructor
     .rintro (h | h)
      .exact .inl h
      .exact .inr (.inl h)
     .rintro (h | h | h)
      .exact .inl h
      .exact .inr h
      .exact absurd (h▸mw) nm
    | true=>
     have mz:=(Zgc zne).mp hb;refine jg ?_;walk_at "g";have es:jt s_ z=sh:=ZoR ex fsh ez mz;obtain⟨ws',i7⟩:=i6.put (x:=z) (b:=t1) mz (by rw[es];exact t6);have np:pd≠pl:=λe=>by rw[e,l6]at d6;cases d6
     have nt:t1≠pd:=λe=>by rw[e,d6]at t6;cases t6
     have lp:=ZcO kvs (kTx z) (.ref t1);refine⟨pd,_,rfl,jK.k (k:=kTx z) d6 (YAy (show _<9000 by lia) (sz 9000 (YAT _))),_,ig kvs (kTx z) (.ref t1),ws',rfl,λb o e nb=>by rw[Zak nb];exact k6 b o e nb,by rw[Zak nt];exact t6,by rw[Zak (YBW np)];exact l6,Zao,i7.grow (λb us e=>?_) (λw _=>?_),∅⟩
     .rw[Zak (λe2=>by rw[e2,d6]at e;cases e)];exact e
     .rw[tkS];constructor
      .rintro ((h | h) | h)
       .exact .inl h
       .exact .inr (.inl h)
       .exact .inr (.inr h)
      .rintro (h | h | h)
       .exact .inl (.inl h)
       .exact .inl (.inr h)
       .exact .inr h
   .rintro U H6 ⟨v8,kvs,ws,rfl,k6,t6,l6,d6,i6,n6⟩;refine⟨_,_,kvs,ws,rfl,k6,t6,d6,i6.grow (λ_ _ e=>e) (λw _=>?_),by simp at n6;lia⟩;rw[Zcj hc];simp only[YAW,YAI];constructor
    .rintro ((h | ⟨d,hd,h⟩) | h)
     .exact .inl h
     .exact .inr ⟨d,.inl hd,h⟩
     .exact .inr ⟨c,.inr rfl,~~~h⟩
    .rintro (h | ⟨d,hd | rfl,h⟩)
     .exact .inl (.inl h)
     .exact .inl (.inr ⟨d,hd,h⟩)
     .exact .inr (~~~h)
  .rintro U H4 ⟨v7,v8,kvs,ws,rfl,k4,t4,d4,i4,n4⟩;refine⟨_,_,_,_,kvs,ws,rfl,k4,d4,i4.grow (λ_ _ e=>e) (λw _=>?_),∅⟩;rw[YCK,Zcj hsh];simp only[YAW,YAI];constructor
   .rintro (⟨s',hs,h⟩ | h)
    .exact⟨s',.inl hs,h⟩
    .exact⟨sh,.inr rfl,h⟩
   .rintro⟨s',hs | rfl,h⟩
    .exact .inl ⟨s',hs,h⟩
    .exact .inr h
 .rintro U H2 ⟨v5,v6,v7,v8,kvs,ws,rfl,k2,d2,i2,n2⟩;walk_at "rd";rw[YAB,YCK]at i2;have e3:kvs.map (λp=>kV p.1)=ws.map tx:=by
   have:kvs.map (λp=>kV p.1)=(kvs.map (·.1)).map kV:=by rw[YAw];rfl
   rw[this,i2.keys,YAw];rfl
  refine⟨pd,kvs,rfl,.inl d2,gU.of λp3 H3 s3 n3 l3=>?_⟩;rw[e3]at l3;have mws:∀w,w∈ws↔w∈iY s_ L m:=λw=>by
   rw[i2.mem,Zfj,<-Zm1 ex hm];constructor
   .rintro⟨ms,sh,h1,c,h2,h3⟩;exact⟨sh,c,(mF sh).mp h1,h2,h3,ms⟩
   .rintro⟨sh,c,h1,h2,h3,ms⟩;exact⟨ms,sh,(mF sh).mpr h1,c,h2,h3⟩
  have tk2:=ZiX tk1 k2 d1 rfl rfl;refine⟨p3,ws,rfl,l3,λw hw=>?_,tk2.same s3,λws' r H4 pm pw4 sl4 tk4 nr lr=>?_⟩
  .have:=((i2.mem w).mp hw).1.init.len;rw[YBA]at this
   lia
  .have ew:ws'=iY s_ L m:=Zbl (ZbQ pm pw4 i2.nd) ((ZaR hrise).filter _) λw=>by rw[pm.mem_iff,mws]
   subst ew;have d4:=sl4 _ _ (s3 _ _ d2) rfl;have ol:(iY s_ L m).length<=9000:=by
    have:=pm.length_eq;have e5:=congrArg List.length e3;rw[YAB,YAB]at e5;rw[YAB]at n2
    lia
   refine⟨r,rfl,⟨_,.mk lr⟩,gu.tupsM (xs:=(iY s_ L m).map tx) (λi vs=>∃w b,(iY s_ L m)[i]?=some w/\vs=[tx w,.ref b]/\hJ kvs (kTx w)=some (.ref b)) (by rw[YAB];lia) (.mk lr) ?_ ?_⟩
   .intro i H5 Q5 hi s5 q5;rw[YAB]at hi;rw[ZbP hi];have hw:(iY s_ L m)[i]?=some ((iY s_ L m).getD i []):=by rw[YAQ,YAH hi];rfl
    obtain⟨b,hv,_⟩:=i2.val _ ((mws _).mpr (YAb hw));walk_at "rd";have dg:=i8.k (k:=kTx ((iY s_ L m).getD i [])) (s5 _ _ d4);rw[hv]at dg;refine⟨pd,_,rfl,dg,sz _ (by decide),im.of λt6 H6 s6 n6 l6=>q5 t6 _ H6 s6 l6 ⟨_,b,hw,rfl,hv⟩⟩
   .intro p5 ys H5 s5 n5 l5 yl hys;have n4':Nw H p5:=((((Nw.of n5).l sl4).same s3).chg (S:=[pd]) (H:=H1) (λb o e nb _=>k2 b o e (~~~nb)) (λb hb=>by obtain rfl:=YAI.mp hb;exact⟨_,d2,rfl⟩)).l (s0.l.trans sl);refine q ys p5 H5 (λb o e t=>?_) (tk4.same s5) n4' l5 ⟨?_,λi y hy=>?_⟩
    .have nb:b≠pd:=Zag e hpd;exact s5 _ _ (sl4 _ _ (s3 _ _ (k2 _ _ (sl _ _ (s0 _ _ e) t) nb)) t)
    .unfold ZdC;rw[YAB,yl,YAB]
    .obtain⟨t,vs,rfl,ht,w,b,hw,rfl,hv⟩:=hys i y hy;obtain⟨b',hv',hb'⟩:=i2.val w ((mws w).mpr (YAb hw));obtain rfl:b=b':=by rw[hv]at hv';injection hv' with e;injection e
     refine⟨_,by unfold ZdC;rw[YAK,hw];rfl,t,b,rfl,ht,s5 _ _ (sl4 _ _ (s3 _ _ hb') rfl)⟩
def Zrb:gy P w K mg base CX0 3 a.f_LV a.d_LV ["_law_script","_law_kinds_here"] (sp_LV K a):=by
 refine T.fQ.u.ok Ze9 (λAu A outer s H vs Q E hr h=>?_);have Ax:=hr.units;obtain⟨b,ns,m,rfl,hS,kok,q⟩:=h;refine⟨_,(Zab (Zaq (i:=2) Ze9.nd (Zal (Zf0 T) (hM hr) rfl T.dQ Zan (Zaa (pv 0) (Zaa Zae Zac))))
  (Zad (Zab (Zaq (i:=3) Ze9.nd (Zal (Zo1 T) (hM hr) rfl T.eZ Zan (Zaa (Zal (Zf0 T) (hM hr) rfl T.dQ Zan (Zaa (pv 0) (Zaa Zae Zac))) (Zaa (Zal (Zf0 T) (hM hr) rfl T.dQ Zan (Zaa (pv 0) (Zaa Zae Zac))) (Zaa (pv 1) (Zaa (Zar ZaT Zae (Zar Za2 (pv 2) Zae)) Zac))))))
  (Zad (Zab (Zaq (i:=4) Ze9.nd (Zal (Zo1 T) (hM hr) rfl T.eZ Zan (Zaa (Zal (Zf0 T) (hM hr) rfl T.dQ Zan (Zaa (pv 0) (Zaa Zae Zac))) (Zaa (Zal (Zf0 T) (hM hr) rfl T.dQ Zan (Zaa (pv 0) (Zaa Zae Zac))) (Zaa (pv 1) (Zaa (Zar ZaT Zae (Zar Za2 (Zar Za6 (pv 2) Zae) Zae)) Zac))))))
  (Zad (Zab (Zaq (i:=5) Ze9.nd (Zar Za2 (Zar Za6 (pv 2) Zae) (Zat (Zax (K:=K) rfl) rfl T.dD ZaV (Zaa (pv 3) Zac))))
  (Zad (Zab (Zaq (i:=6) Ze9.nd (Zar ZaT Zae (Zar Za2 (Zar Za6 (pv 2) Zae) (Zar Za6 Zae (Zat (Zax (K:=K) rfl) rfl T.dD ZaV (Zaa (pv 3) Zac))))))
  (Zad (Zab (Zaq (i:=7) Ze9.nd (ZaH Zge (pv 1) (Zar Za2 (Zar Za6 (pv 2) Zae) (Zat (Zax (K:=K) rfl) rfl T.dD ZaV (Zaa (pv 1) Zac))) (λ_ _=>rfl)))
  (Zad (Zab (Zbp (ZaB (Zbe (K:=K) rfl Ax) (Zar Za2 (Zar Za6 (pv 2) Zae) Zae) Zae (ZaJ _)) (Zad (Zaf (Zaq (i:=4) Ze9.nd (Zar ZcV (Zar Za3 (ZaL ZbS (pv 3) (ZaQ (pv 5)) Za5) (ZaL ZbS (pv 3) Za5 (ZaQ (pv 5)))) (pv 6))))) ZaG)
  (Zad (Zab (Zbp (ZaB (Zbe (K:=K) rfl Ax) (Zar Za2 (Zar Za6 (pv 2) Zae) Zae) Zae (ZaJ _)) (Zad (Zaf (Zaq (i:=4) Ze9.nd (Zar Za3 (Zar Za3 (ZaL ZbS (pv 3) Za5 (ZaQ (pv 5))) (pv 7)) (ZaL ZbS (pv 3) (ZaQ (Zar ZaT (pv 5) Zae)) Za5))))) ZaG)
  (Zad (Zaf (Zaw (ZbZ (Zaa (pv 3) (Zaa (pv 4) Zac))))))))))))))))))))),?_⟩
 have sz:∀k:Nat,k<=1000->k<=sizeLine:=λk h=>YAP h (by rw[sizeLine_eq];decide);have m1:=kok.m1;have m4:=kok.m4;walk_at "rd";refine⟨b,ns,1,rfl,hS,by decide,by decide,λc=>?_⟩;show Za9 _ _ _ _;refine Zai ?_;have e8:∀x:Int,∃n:Nat,1+x % 8=(n:Int)/\1<=n/\n<=8:=λx=>⟨(1+x % 8).toNat,∅,∅,∅⟩;walk_at "rd";refine⟨b,ns,2,rfl,hS,by decide,by decide,λw=>⟨b,ns,3,rfl,hS,by decide,by decide,λc2=>?_⟩⟩;obtain⟨n,en,n1,n8⟩:=e8 c;rw[en];refine⟨by decide,w,c2,m,n,rfl,m1,m4,∅,λl H1 ll lm s1=>?_⟩;walk_at "h";obtain⟨n2,en2,n21,n28⟩:=e8 (c/8);rw[en2];refine⟨b,ns,4,rfl,s1.seq hS,by decide,by decide,λw2=>⟨b,ns,5,rfl,s1.seq hS,by decide,by decide,λc3=>⟨⟨by decide,by decide⟩,by decide,w2,c3,m,n2,rfl,m1,m4,∅,λl2 H2 ll2 lm2 s2=>?_⟩⟩⟩;walk_at "h";refine⟨⟨by decide,by decide⟩,_,_,rfl,Zbr ∅,∅,Zai ?_⟩;have k0:=YBR (c/256) (show ((l.length:Nat):Int)≠0 by lia);have k1:=YBT (c/256) (show (0:Int)<(l.length:Nat) by lia);generalize c/256 % ((l.length:Nat):Int)=kk at k0 k1;have D1:1<=8/l.length:=(Nat.le_div_iff_mul_le ∅).mpr ∅;have D2:8/l.length*l.length<=8:=Nat.div_mul_le_self _ _;have D3:8/l.length<=8:=Nat.div_le_self _ _;have eD:(8:Int)/((l.length:Nat):Int)=((8/l.length:Nat):Int):=(Int.natCast_ediv 8 l.length).symm;generalize 8/l.length=D at D1 D2 D3 eD;walk_at "rd";refine⟨⟨by decide,by decide⟩,_,_,rfl,Zbr ∅,⟨∅,∅⟩,?_⟩;rw[eD];refine⟨∅,Zai ?_⟩;have x0:=YBR (c/2048) (show ((D:Nat):Int)≠0 by lia);have x1:=YBT (c/2048) (show (0:Int)<(D:Nat) by lia);generalize c/2048 % ((D:Nat):Int)=xx at x0 x1;walk_at "rd";obtain⟨v,hv,hvm⟩:=Zku (xs:=m) (YBR (c/2048) (show ((m.length:Nat):Int)≠0 by lia)) (YBT _ ∅);refine⟨⟨by decide,by decide⟩,_,_,rfl,Zbr ∅,∅,m,_,v,rfl,rfl,sz _ ∅,hv,Zai ?_⟩;refine kn (λl3:Q11=>1<=l3.length/\l3.length<=8/\∀x∈l3,x∈m) (λl3=>[some (.ref b),some (tx m),some (.int c),some (tx l),some (tx l3),some (.int kk),some (.int (1+xx)),some (tx [v])]) (λT0 tail=>?_) λl3 h3=>kn (λl3:Q11=>1<=l3.length/\l3.length<=8/\∀x∈l3,x∈m) (λl3=>[some (.ref b),some (tx m),some (.int c),some (tx l),some (tx l3),some (.int kk),some (.int (1+xx)),some (tx [v])]) (λT0 tail=>?_) λl4 h4=>?_
 .walk_at "rd";refine⟨⟨by decide,by decide⟩,by decide,Zg9 λb0 _=>⟨b0,rfl,iz (λ_=>Zai ?_) (λ_=>tail l2 ⟨∅,∅,lm2⟩)⟩⟩;obtain⟨k,rfl⟩:∃n:Nat,kk=(n:Int):=⟨kk.toNat,∅⟩;walk_at "rd";refine⟨_,rfl,l,rfl,sz _ ∅,_,rfl,l,rfl,sz _ ∅,?_⟩;rw[ZcF,Zen];have dl:(l.drop k++l.take k).length=l.length:=by rw[YAF,YAk,YAX];lia
  refine⟨sz _ (by rw[<-YAF,dl];lia),_,_,rfl,rfl,∅,∅,∅,?_⟩;have rl2:(ip (l.drop k++l.take k) (1+xx)).length=(1+xx).toNat*l.length:=by rw[ZdJ,dl]
  refine tail _ ⟨?_,?_,λy hy=>(YAW.mp (ZhC hy)).elim (λu=>lm y (YAh u)) λu=>lm y (YAa u)⟩<;>rw[rl2]
  .exact YAP ∅ (YDU _ ∅)
  .exact YAP (Nat.mul_le_mul_right _ ∅) D2
 .walk_at "rd";refine⟨⟨by decide,by decide⟩,by decide,Zg9 λb0 _=>⟨b0,rfl,iz (λ_=>Zai ?_) (λ_=>tail l3 h3)⟩⟩;obtain⟨g1,g2⟩:=put1 (c:=v) (i:=kk) rfl lm hvm k0 k1;have e1:=g1;rw[YAF,YAF,YAo]at e1;walk_at "rd";exact⟨_,rfl,l,rfl,sz _ ∅,sz _ ∅,_,rfl,l,rfl,sz _ ∅,sz _ (by rw[YAF,YAo];lia),tail _ ⟨∅,∅,g2⟩⟩
 .walk_at "rd";exact⟨sz 2 (by decide),gU.of λr H3 s3 n3 l3=>q r l l4 H3 ((s1.trans s2).trans s3) (Zjw (s1.trans s2) n3) l3 ⟨kok.k,m1,m4,∅,∅,lm⟩ ⟨kok.k,m1,m4,h4.1,∅,h4.2.2⟩ ∅ h4.2.1⟩
def Zo0:gy P w K mg base CX0 4 a.f_LR a.d_LR ["one","other"] (sp_LR K a):=by
 refine T.eX.u.ok ZkL (λAu A outer s H vs Q E hr h=>?_);obtain⟨p1,p2,l1,l2,m,rfl,h1,h2,tk,ok1,ok2,q⟩:=h;refine⟨_,(Zab (ZaK (Zal (Zm9 T) (hM hr) rfl T.dN Zan (Zaa (pv 0) (Zaa (pv 1) Zac))))
  (Zad (Zab (ZcT (i:=2) ZkL.nd rfl (Or.inr rfl) (Zcs (Zay (pv 0) T.aL T.aq (Ziq T) (hM hr) T.dG.b .nil Zan) (Zay (pv 0) T.ac T.ba (Zk5 T) (hM hr) T.dH.b .nil Zan)))
  (Zad (Zab (Zaq (i:=3) ZkL.nd (Zcs (Zay (pv 1) T.aL T.aq (Ziq T) (hM hr) T.dG.b .nil Zan) (Zay (pv 1) T.ac T.ba (Zk5 T) (hM hr) T.dH.b .nil Zan)))
  (Zad (Zab (Zaq (i:=4) ZkL.nd (Zal (Zk4 T) (hM hr) rfl T.dJ Zan (Zaa (Zat (Zbd rfl) rfl T.dL ZbD (Zaa (Zar (Zjr (P:=P) (w:=w) rfl rfl) (Za1 (Zbu rfl) rfl T.fV Zep (Zaa (pv 2) Zac)) (Za1 (Zbu rfl) rfl T.fV Zep (Zaa (pv 3) Zac))) Zac)) Zac)))
  (Zad (Zaf (Zaw (ZbM (N:=["word","first"]) (ix:=[none,some 2]) rfl (Za4 rfl) rfl (ZaP (K:=K) rfl (pv 4)) (λ_ _ _ _=>(ZaA (i:=0) (show (["word","first"]:AK).Nodup from by decide +kernel) rfl (Or.inl rfl) (Or.inr rfl))) (λ_ _ _ _=>Zbz) (λ_ _ _ _=>(Zbx (Zaa (pv 0) (Zaa (Zk0 (ZaB (Zdj (K:=K) rfl) (pv 0) (pv 1) rfl) Zae Zae) Zac))))))))))))))),?_⟩
 walk_at "rd";have o1:=gZ ok1;have o2:=gZ ok2;have n1:=o1.len;have n2:=o2.len;refine⟨p1,p2,m,rfl,.inl (.inl ⟨l1,h1⟩),.inl ⟨l2,h2⟩,?_⟩;walk_at "h";apply Zb7 (C:=λr H'=>gp H H'/\H' r=some (.lst ((Zas l1 m).map tx)))
 .intro tail;exact Zkt h1 (by decide +kernel) (by decide +kernel) (by decide +kernel) (λr=>⟨p1,l1,m,_,_,_,rfl,.inl ⟨r,ok1,rfl,rfl,rfl⟩,λq H2 s _ e=>tail q H2 ⟨s,e⟩⟩) (λla da ds h=>⟨p1,la,da,l1,m,ds,rfl,h,λr n=>tail r _ ⟨Zav n,Zao⟩⟩)
 rintro r1 H1 ⟨s1,e1⟩;walk_at "g";have h2:=h2.l s1.l;apply Zb7 (C:=λr H'=>gp H1 H'/\H' r=some (.lst ((Zas l2 m).map tx)))
 .intro tail;exact Zkt h2 (by decide +kernel) (by decide +kernel) (by decide +kernel) (λr=>⟨p2,l2,m,_,_,_,rfl,.inl ⟨r,ok2,rfl,rfl,rfl⟩,λq H2 s _ e=>tail q H2 ⟨s,e⟩⟩) (λla da ds h=>⟨p2,la,da,l2,m,ds,rfl,h,λr n=>tail r _ ⟨Zav n,Zao⟩⟩)
 rintro r2 H2 ⟨s2,e2⟩;have e1:=s2 _ _ e1;have s02:=s1.trans s2;walk_at "g";refine⟨Zas l1 m,∅,.inr ⟨r1,rfl,.mk e1⟩,λt1 f1=>⟨Zas l2 m,∅,.inr ⟨r2,rfl,.mk (Zav f1 _ _ e2)⟩,λt2 f2=>?_⟩⟩;have l1':=Zmo (Zas l1 m);have l2':=Zmo (Zas l2 m);have ne12:t1≠t2:=λz=>by rw[<-z,Zao]at f2;cases f2
 refine⟨t1,t2,_,_,rfl,rfl,by rw[Zak ne12,Zao],Zao,Zbq _,Zbq _,ne12,∅,λt3 f3=>⟨t3,_,rfl,Zao,sz _ ?_,gU.of λt4 H4 s4 f4 e4=>?_⟩⟩
 .unfold ic;rw[YAF];have:=YAx (λx=>decide (x∉ddl (Zas l2 m))) (ddl (Zas l1 m));have:=YAx (λx=>decide (x∉ddl (Zas l1 m))) (ddl (Zas l2 m))
  lia
 have s24:gp H2 H4:=((Zav f1).trans ((Zav f2).trans (Zav f3))).trans s4;have s04:=s02.trans s24;have dx:=Zgt (a:=Zas l1 m) (b:=Zas l2 m) (List.Perm.refl _);refine⟨t4,_,rfl,e4,λw hw=>by have:=(Zel dx o1 o2 hw).2;lia,tk.same s04,λws' r H5 pm pw s5 tk5 n5 e5=>?_⟩;have df:=Zgt pm;have bw:=ZbQ pm pw dx.nd;have nw:=Zc8 df o1 o2;have e15:=s5 _ _ (s24 _ _ e1) rfl;walk_at "h";refine⟨r,rfl,⟨_,.mk e5⟩,gu.dataF (xs:=ws'.map tx) (λ_=>true) (λH y i=>∃t,y=.ref t/\H t=some (.tup [tx (ws'.getD i []),.int (if ws'.getD i []∈Zas l1 m then 0 else 1)])) (λ_ _ _ _ k ⟨t,e,h⟩=>⟨t,e,k _ _ h⟩) (by rw[YAB];lia) (.mk e5) (λi H' Q' h s' q'=>q' _ (gp.refl _)) (λi H' Q' h _ s' q'=>?_) (λp6 ys6 H6 s6 n6 h6 e6 al6=>?_)⟩
 .rw[ZbP (~~~h)];walk_at "rd";refine⟨r1,(Zas l1 m).map tx,rfl,.inl (.mk (s' _ _ e15)),rfl,ZbF _,decide (ws'.getD i []∈Zas l1 m),by rw[YAL YAE,Zgh],?_⟩;by_cases z:ws'.getD i []∈Zas l1 m
  .rw[decide_eq_true z];exact jg ⟨sz 2 (by decide),im.of λt H7 s7 n7 l7=>q' _ _ s7 ⟨t,rfl,by rw[l7,YAS z]⟩⟩
  .rw[decide_eq_false z];exact gV ⟨sz 2 (by decide),im.of λt H7 s7 n7 l7=>q' _ _ s7 ⟨t,rfl,by rw[l7,YAL z]⟩⟩
 .rw[YDN.mpr (λ_ _=>rfl),YAt,YAB]at e6;refine q p6 ys6 ws' H6 ((s04.l.trans s5).trans s6.l) (tk5.same s6) (((Nw.of n6).l s5).same s04) h6 ⟨e6,λi y hy=>?_⟩ df bw;obtain⟨j,hj,t,e7,h7⟩:=al6 i y hy;rw[YDN.mpr (λ_ _=>rfl)]at hj;have hi:=(YAN.mp hy).1;rw[e6]at hi;rw[YBf (by rw[YAB];exact hi)]at hj;cases hj;exact⟨ws'.getD i [],t,by rw[YAQ,YAH hi];rfl,e7,h7⟩
def Zrs:gy P w K mg base CX0 4 a.f_KR a.d_KR ["thing","kinds"] (sp_KR K a):=by refine T.dP.u.ok ZqD (λAu A outer s H vs Q E hr h=>?_);obtain⟨l,m,rfl,hl,hk,q⟩:=h;refine⟨_,(Zaf (Zbp (ZcS (Zcp (Zal (Zrj T) (hM hr) rfl T.eI Zan (Zaa (pv 0) (Zaa (pv 1) Zac))))) (Zaf ZdD) ZaG)),?_⟩;walk_at "rd";refine⟨l,m,rfl,hl,λH2 s2=>⟨_,rfl,?_⟩⟩;rw[hk,YCR];exact gV (q H2 s2)
def Zq7:gy P w K mg base CX0 4 a.f_ME a.d_ME ["one","other"] (sp_ME K a):=by
 refine T.gc.u.ok ZkI (λAu A outer s H vs Q E hr h=>?_);have Ax:=hr.units;obtain⟨p,p2,l,m,l2,rfl,hp,hp2,ok,ok2,q⟩:=h;refine⟨_,(Zab (Zbp (ZaB (ZbT (K:=K) rfl Ax) (Zay (pv 0) T.ak T.ao (Zf2 T) (hM hr) T.dE.b .nil Zan) (Zay (pv 1) T.ak T.ao (Zf2 T) (hM hr) T.dE.b .nil Zan) (ZaJ _)) (Zaf ZdD) ZaG)
  (Zad (Zab (Zaq (i:=2) ZkI.nd (Zay (pv 0) T.ak T.bc (Zm6 T) (hM hr) T.eL.b .nil Zan))
  (Zad (Zab (Zaq (i:=3) ZkI.nd (Zay (pv 1) T.ak T.bc (Zm6 T) (hM hr) T.eL.b .nil Zan))
  (Zad (Zab (Zbv YBB rfl (Zbw rfl T.dO (Zaa (Zat (Zax (K:=K) rfl) rfl T.dD ZaV (Zaa (pv 2) Zac)) Zac)) (ZaA (i:=4) ZkI.nd rfl (Or.inl rfl))
  (Zaf (Zbp (ZaB (Zbe (K:=K) rfl Ax) (Zar Za3 (ZaL ZbS (pv 2) (ZaQ (pv 4)) Za5) (ZaL ZbS (pv 2) Za5 (ZaQ (pv 4)))) (pv 3) (ZaJ _)) (Zaf (Zaw (Zbx (Zaa (Za0 (l:=[115,97,109,101]) (by decide +kernel)) (Zaa (pv 2) (Zaa (pv 4) Zac)))))) ZaG)))
  (Zad (Zaf (Zaw (Zbx (Zaa (Za0 (l:=[117,110,108,105,107,101]) (by decide +kernel)) (Zaa (Zal (Zrg T) (hM hr) rfl T.fD Zan (Zaa (pv 0) (Zaa (pv 1) Zac))) Zac))))))))))))),?_⟩
 have sz:∀k:Nat,k<=1000->k<=sizeLine:=λk h=>YAP h (by rw[sizeLine_eq];decide);have l20:=ok.l20;have i20:=ok2.l20;obtain⟨d1,e1⟩:=hp;obtain⟨d2,e2⟩:=hp2;walk_at "rd";refine⟨p,d1,_,rfl,e1,Za7 (by decide +kernel) (by decide +kernel),p,m,rfl,.inr ⟨l,d1,e1⟩,p2,d2,_,rfl,e2,Za7 (by decide +kernel) (by decide +kernel),p2,m,rfl,.inr ⟨l2,d2,e2⟩,Zpi ⟨false,rfl,gV ?_⟩⟩;walk_at "h";refine⟨p,d1,_,rfl,e1,Za7 (by decide +kernel) (by decide +kernel),p,l,m,rfl,⟨d1,e1⟩,ok,Zai ?_⟩;walk_at "rd";refine⟨p2,d2,_,rfl,e2,Za7 (by decide +kernel) (by decide +kernel),p2,l2,m,rfl,⟨d2,e2⟩,ok2,Zai ?_⟩;have rl:=Zby ok.l1;have r20:=(ZaX ok.l1).2.1;walk_at "rd";refine⟨_,_,rfl,Zbr ∅,_,rfl,∅,∅,?_⟩;rw[rl,YBQ];refine gH.range (λi U H'=>∃v4:Option V,U=[some (.ref p),some (.ref p2),some (tx (gS l)),some (tx (gS l2)),v4]/\H'=H/\∀j,j<i->¬hW l l2 j) ⟨_,rfl,rfl,λj hj=>by lia⟩ ?_ ?_
 .rintro i U H1 hi ⟨v4,rfl,rfl,nt⟩;have e0:(0+(i:Int))=((i:Nat):Int):=by lia
  walk_at "rd";rw[e0];refine⟨_,rfl,_,rfl,sz _ ∅,_,rfl,_,rfl,sz _ ∅,?_⟩;rw[ZcF,Zen];refine⟨sz _ (by rw[YAk,YAX];lia),Zj4 λk hk=>⟨k,rfl,iz (λh=>?_) (λh=>?_)⟩⟩
  .exact⟨sz _ (by decide),im.of λt H2 s2 n2 h2=>q t _ H2 s2 (.same hi (hk.mp h) nt) h2⟩
  .refine⟨_,rfl,rfl,λj hj tj=>?_⟩;by_cases e:j=i
   .rw[e]at tj;exact h (hk.mpr tj)
   .exact nt j ∅ tj
 .rintro U H1 ⟨v4,rfl,rfl,nt⟩;walk_at "rd";walk_at "g";have nt':¬ ∃k,k<Zam l/\hW l l2 k:=λ⟨k,hk,t⟩=>nt k hk t;refine⟨p,p2,l,m,l2,rfl,⟨d1,e1⟩,⟨d2,e2⟩,ok,ok2,nt',λn x H2 fw s2=>?_⟩;exact⟨sz _ (by decide),im.of λt H3 s3 n3 h3=>q t _ H3 (s2.trans s3) (.unlike nt' fw) h3⟩
def Zpd:gy P w K mg base CX0 4 a.bo a.cY ["self","kinds"] (sp_K4 K a):=by
 refine T.eT.u.ok ZqQ (λAu A outer s H vs Q E hr h=>?_);obtain⟨p,dx,m,rfl,hp,kok,q⟩:=h;refine⟨_,(Zab (ZaK (Zal (Zk6 T) (hM hr) rfl T.dI Zan (Zaa (pv 1) Zac)))
  (Zad (Zab (ZaK (Zfg rfl T.dC T.ce (Zm8 T) (hM hr) T.dM.u.kp T.dM.b .nil Zan (Zaa (pv 0) (Zaa (Za0 (l:=[]) (by decide +kernel)) (Zaa (pv 1) Zac)))))
  (Zad (Zab (Zcq (pv 0) (Za1 (Zdy rfl) rfl T.fC ZcQ (Zaa (pv 1) Zac)) rfl)
  (Zad (Zaf (Zcq (pv 0) (ZbZ Zac) rfl)))))))),?_⟩
 walk_at "rd";have m4:=kok.m4;refine⟨m,rfl,∅,kok.k,λH1 s1=>?_⟩;walk_at "h";refine⟨p,dx,_,[],m,rfl,.inr (.inl rfl),s1 _ _ hp,λH2 f2 k2=>?_⟩;walk_at "h";refine⟨m,rfl,∅,gU.of λla H3 s3 n3 l3=>?_⟩;have f3:=s3 _ _ f2;refine⟨p,_,dx,_,rfl,f3,T.ac,T.af,(by show 2<1000;decide),?_⟩;walk_at "g";refine⟨YBC _,gU.of λda H4 s4 n4 l4=>?_⟩;have nla:p≠la:=Zag f2 n3;have kr:=kok.kinds;have f4:=s4 _ _ (Zao (H:=H3) (a:=p) (o:=.ins a.c_L2 dx (gM (Str.ofString "own_lacking") (.ref la) (gM "own_kinds" (tx m) (gM "own_text" (tx []) [])))));have l4':upd H3 p (.ins a.c_L2 dx (gM (Str.ofString "own_lacking") (.ref la) (gM "own_kinds" (tx m) (gM "own_text" (tx []) [])))) la=some (.lst ((gL m).map tx)):=by rw[Zak (YBW nla)];exact l3
 have nda:p≠da:=Zag Zao n4;have ned:la≠da:=Zag l4' n4;have n3':H3 da=none:=by rw[Zak (YBW nda)]at n4;exact n4
 have back:∀b,b≠p->H2 b=none->H b=none:=λb hb e=>by
  cases z:H1 b with
  | none=>exact s1.free z
  | some o=>rw[k2 b o z hb]at e;cases e
 refine⟨p,_,dx,_,rfl,f4,T.ac,T.ad,(by show 3<1000;decide),q la da _ ⟨⟨dx,?_⟩,?_,⟨[],?_,rfl,λi y h=>by simp at h⟩,.nil,kr,ned⟩ (back la (YBW nla) n3) (back da (YBW nda) (s3.free n3')) λb o hb nb=>?_⟩
 .rw[Zao];exact congrArg (λz=>some (HO.ins a.c_L2 dx z)) ZlX
 .rw[Zak (YBW nla),Zli kr.rise];exact s4 _ _ l4'
 .rw[Zak (YBW nda)];exact l4
 .rw[Zak nb];exact s4 _ _ (by rw[Zak nb];exact s3 _ _ (k2 _ _ (s1 _ _ hb) nb))
def Zpe:gy P w K mg base CX0 4 a.bZ a.dj ["self","longer"] (sp_K3 K a):=by
 refine T.eV.u.ok ZmS (λAu A outer s H vs Q E hr h=>?_);obtain⟨p,la,da,s_,L,m,rfl,hp,hla,hL,ex,hm,ok,tk,q⟩:=h;refine⟨_,(Zad (Zab (Zaq (i:=2) ZmS.nd (Zal (ZoX T) (hM hr) rfl T.fF Zan (Zaa (Zaz (K:=K) rfl (pv 0) rfl) (Zaa (pv 1) (Zaa (Zaz (K:=K) rfl (pv 0) rfl) (Zaa (Za0 (l:=[102,105,114,115,116]) (by decide +kernel)) Zac))))))
  (Zad (Zab (Zaq (i:=3) ZmS.nd (Zal (ZoZ T) (hM hr) rfl T.fE Zan (Zaa (Zaz (K:=K) rfl (pv 0) rfl) (Zaa (pv 1) (Zaa (Za0 (l:=[115,116,97,110,100,115]) (by decide +kernel)) Zac)))))
  (Zad (Zaf (Zaw (ZaO (pv 0) T.ac T.bE (Zpc T) (hM hr) T.dZ.b .nil Zan (Zaa (pv 1) (Zaa (pv 2) (Zaa (pv 3) Zac))))))))))),?_⟩
 obtain⟨dx,f⟩:=hp;have m4:=ok.m4;walk_at "rd";walk_at "g";refine⟨p,_,dx,_,_,rfl,f,T.ac,T.aa,Zbm,p,_,dx,_,_,rfl,f,T.ac,T.ag,Zcm,?_⟩;refine⟨s_,L,_,m,rfl,∅,ex,hm,ok.rise,m4,tk,λys c H1 sl1 tk1 n1 l1 r1=>?_⟩;walk_at "g";have f1:=sl1 _ _ f rfl;refine⟨p,_,dx,_,_,rfl,f1,T.ac,T.aa,Zbm,?_⟩;refine⟨s_,L,_,m,rfl,∅,ex,hm,ok.rise,tk1,λzs g H2 sl2 tk2 n2 l2 r2=>?_⟩;walk_at "g";have f2:=sl2 _ _ f1 rfl;have l12:=sl2 _ _ l1 rfl;have la2:=sl2 _ _ (sl1 _ _ hla rfl) rfl;have sl02:=sl1.trans sl2;have ncg:c≠g:=n2.ne l1 rfl;refine⟨p,dx,_,rfl,f2,sN,p,la,da,c,g,s_,L,m,Zas s_ m,Zas L m,ys,zs,_,_,rfl,⟨dx,f2⟩,la2,l12,r1.l sl2,l2,r2,ZaR ok.rise,ZaR ok.rise,?_,?_,?_,?_,?_,?_,?_,?_,tk2,?_⟩
 .rw[Zcn];exact ZbN ((ZaR ok.rise).filter _)
 .intro w;rw[Zcn,Zfj]
 .intro w;rw[Zco,Zfk]
 .exact YAP (Zb3 m4 (by have:=ex.len;lia)) (by decide)
 .rw[<-YAB (f:=(·.1)),Zcn];exact YAP (YAx _ _) (YAP (Zb3 m4 ∅) (by decide))
 .rw[<-YAB (f:=(·.1)),Zco];exact YAP (YAx _ _) (YAP (Zb3 m4 (by have:=ex.len;lia)) (by decide))
 .intro w hw;have:=Zc0 (by have:=ex.len;lia) hw;lia
 .intro w hw;have:=Zc0 hL hw;lia
 .intro t la3 H3 ch3 f3 nl3 e3 t3 tk3;have np:∀us,H2 p≠some (.tup us):=λus z=>by rw[f2]at z;cases z
  have ncp:p≠c:=n1.ne f rfl;have ngp:p≠g:=n2.ne f1 rfl;refine q t c g la3 H3 (sl02.chg.trans ch3) f3 e3 ⟨t3,⟨ys,ch3 _ _ l12 (~~~YBW ncp) rfl,(r1.l sl2).chg ch3 (λb hb us=>by rw[YAI.mp hb];exact np us)⟩,⟨zs,ch3 _ _ l2 (~~~YBW ngp) rfl,r2.chg ch3 (λb hb us=>by rw[YAI.mp hb];exact np us)⟩,n1,n2.l sl1,nl3.l sl02,ncg,nl3.ne l12 rfl,nl3.ne l2 rfl⟩ tk3
def Zpa:gy P w K mg base CX0 4 a.b7 a.dm ["self","lesser"] (sp_KM K a):=by
 refine T.dW.u.ok ZmQ (λAu A outer s H vs Q E hr h=>?_);obtain⟨p,la,da,s_,L,m,rfl,hp,hla,hL,ex,hm,ok,tk,q⟩:=h;refine⟨_,(Zab (Zaq (i:=2) ZmQ.nd (Zal (ZoZ T) (hM hr) rfl T.fE Zan (Zaa (pv 1) (Zaa (Zaz (K:=K) rfl (pv 0) rfl) (Zaa (Za0 (l:=[115,116,111,111,100]) (by decide +kernel)) Zac)))))
  (Zab (Zaq (i:=3) ZmQ.nd (Zal (ZoX T) (hM hr) rfl T.fF Zan (Zaa (pv 1) (Zaa (Zaz (K:=K) rfl (pv 0) rfl) (Zaa (Zaz (K:=K) rfl (pv 0) rfl) (Zaa (Za0 (l:=[108,97,115,116]) (by decide +kernel)) Zac))))))
  (Zaf (Zaw (ZaO (pv 0) T.ac T.bE (Zpc T) (hM hr) T.dZ.b .nil Zan (Zaa (pv 1) (Zaa (pv 2) (Zaa (pv 3) Zac)))))))),?_⟩
 obtain⟨dx,f⟩:=hp;have m4:=ok.m4;walk_at "rd";refine⟨p,_,dx,_,_,rfl,f,T.ac,T.aa,Zbm,?_⟩;refine⟨s_,L,_,m,rfl,∅,ex,hm,ok.rise,tk,λys c H1 sl1 tk1 n1 l1 r1=>?_⟩;walk_at "rd?";have f1:=sl1 _ _ f rfl;refine⟨p,_,dx,_,_,rfl,f1,T.ac,T.aa,Zbm,p,_,dx,_,_,rfl,f1,T.ac,T.ag,Zcm,?_⟩;refine⟨s_,L,_,m,rfl,∅,ex,hm,ok.rise,m4,tk1,λzs g H2 sl2 tk2 n2 l2 r2=>?_⟩;walk_at "rd?";have f2:=sl2 _ _ f1 rfl;have l12:=sl2 _ _ l1 rfl;have la2:=sl2 _ _ (sl1 _ _ hla rfl) rfl;have sl02:=sl1.trans sl2;have ncg:c≠g:=n2.ne l1 rfl;refine⟨p,dx,_,rfl,f2,sN,p,la,da,c,g,L,s_,m,Zas L m,Zas s_ m,ys,zs,_,_,rfl,⟨dx,f2⟩,la2,l12,r1.l sl2,l2,r2,ZaR ok.rise,ZaR ok.rise,?_,?_,?_,?_,?_,?_,?_,?_,tk2,?_⟩
 .rw[Zco];exact ZbN ((ZaR ok.rise).filter _)
 .intro w;rw[Zco,Zfk]
 .intro w;rw[Zcn,Zfj]
 .exact YAP (Zb3 m4 ∅) (by decide)
 .rw[<-YAB (f:=(·.1)),Zco];exact YAP (YAx _ _) (YAP (Zb3 m4 (by have:=ex.len;lia)) (by decide))
 .rw[<-YAB (f:=(·.1)),Zcn];exact YAP (YAx _ _) (YAP (Zb3 m4 ∅) (by decide))
 .intro w hw;have:=Zc0 hL hw;lia
 .intro w hw;have:=Zc0 (by have:=ex.len;lia) hw;lia
 .intro t la3 H3 ch3 f3 nl3 e3 t3 tk3;have np:∀us,H2 p≠some (.tup us):=λus z=>by rw[f2]at z;cases z
  have ncp:p≠c:=n1.ne f rfl;have ngp:p≠g:=n2.ne f1 rfl;refine q t c g la3 H3 (sl02.chg.trans ch3) f3 e3 ⟨t3,⟨ys,ch3 _ _ l12 (~~~YBW ncp) rfl,(r1.l sl2).chg ch3 (λb hb us=>by rw[YAI.mp hb];exact np us)⟩,⟨zs,ch3 _ _ l2 (~~~YBW ngp) rfl,r2.chg ch3 (λb hb us=>by rw[YAI.mp hb];exact np us)⟩,n1,n2.l sl1,nl3.l sl02,ncg,nl3.ne l12 rfl,nl3.ne l2 rfl⟩ tk3
def Zo8:gy P w K mg base CX0 4 a.bi a.cK ["self","text","kinds"] (sp_KX K a):=by
 refine T.eQ.u.ok Zqz (λAu A outer s H vs Q E hr h=>?_);obtain⟨p,dx,l,m,rfl,hp,ok,q⟩:=h;refine⟨_,(Zab (ZaK (Zal (Zk6 T) (hM hr) rfl T.dI Zan (Zaa (pv 2) Zac)))
  (Zab (ZaK (Zal (Zri T) (hM hr) rfl T.eJ Zan (Zaa (pv 1) (Zaa (pv 2) (Zaa (ZcU rfl T.c_KC) Zac)))))
  (Zaf (ZaK (Zfg rfl T.dC T.ce (Zm8 T) (hM hr) T.dM.u.kp T.dM.b .nil Zan (Zaa (pv 0) (Zaa (pv 1) (Zaa (pv 2) Zac)))))))),?_⟩
 walk_at "rd";have m4:=ok.m4;have l40:=ok.l40;refine⟨m,rfl,∅,ok.k,λH1 s1=>?_⟩;walk_at "rd?";refine⟨l,m,40,rfl,∅,ZpE ok,λH2 s2=>?_⟩;walk_at "rd?";exact⟨p,dx,_,l,m,rfl,.inl rfl,s1.trans s2 _ _ hp,λH3 r k=>q H3 ⟨dx,r⟩ λb o e ne=>k b o (s1.trans s2 _ _ e) ne⟩
def Zpg:gy P w K mg base CX0 4 a.bQ a.cU ["self","name"] (sp_K0 K a):=by
 refine T.eS.u.ok ZqS (λAu A outer s H vs Q E hr h=>?_);have hu1:=ZaE hr;obtain⟨p,dA,m,F,r,rfl,hp,hrF,q⟩:=h;refine⟨_,(Zab (Zbp (PW.pt (Zim (ZcS (Zcp (Zal (Zo2 T) (hM hr) rfl T.eY Zan (Zaa (pv 1) Zac)))) (ZeJ (Zl1 (Zjq hu1 (pv 1) (Zaz (K:=K) rfl (pv 0) rfl)))))) (Zaf ZdD) ZaG)
  (Zaf (Zaw (ZgY hu1 (Zaz (K:=K) rfl (pv 0) rfl) (pv 1) (λ_ _=>rfl))))),?_⟩
 obtain⟨dx,f⟩:=hp.fld;have hk:=hp.nm r hrF;have g:=Zl9 hp.nd hrF;walk_at "rd";refine⟨r.n,rfl,hk,λH2 s2=>⟨_,rfl,gV ?_⟩⟩;refine⟨p,_,dx,_,_,rfl,s2 _ _ f,T.aG,T.ae,shS,dA,_,rfl,.inl ⟨_,kTx r.n,.inl (s2 _ _ hp.dct),rfl,rfl⟩,?_⟩;rw[g];exact gV ⟨p,_,dx,_,_,rfl,s2 _ _ f,T.aG,T.ae,shS,dA,_,rfl,.inl ⟨_,kTx r.n,.inl (s2 _ _ hp.dct),rfl,g.symm⟩,q H2 s2⟩
def Zrp:gy P w K mg base CX0 4 a.bn a.cP ["self","kinds"] (sp_KZ K a):=by
 refine T.fM.u.ok Zqx (λAu A outer s H vs Q E hr h=>?_);obtain⟨p,dx,m,rfl,hp,kok,q⟩:=h;refine⟨_,(Zab (ZaK (Zal (Zk6 T) (hM hr) rfl T.dI Zan (Zaa (pv 1) Zac)))
  (Zad (Zab (Zcq (pv 0) (pv 1) rfl)
  (Zad (Zaf (Zcq (pv 0) ZhJ rfl)))))),?_⟩
 walk_at "rd";have m4:=kok.m4;refine⟨m,rfl,∅,kok.k,λH1 s1=>?_⟩;walk_at "h";refine⟨p,_,dx,_,rfl,s1 _ _ hp,T.aG,T.aC,(by show 0<1000;decide),Zai ?_⟩;have f2:upd H1 p (.ins a.c_L1 dx (gM (Str.ofString "own_kinds") (tx m) [])) p=some (.ins a.c_L1 dx (gM "own_kinds" (tx m) [])):=Zao;have k2:∀b o,H b=some o->b≠p->upd H1 p (.ins a.c_L1 dx (gM (Str.ofString "own_kinds") (tx m) [])) b=some o:=λb o e n=>by rw[Zak n];exact s1 _ _ e
 generalize upd H1 p (.ins a.c_L1 dx (gM (Str.ofString "own_kinds") (tx m) []))=H2 at f2 k2;walk_at "rd";intro dA nA;have nd:p≠dA:=Zag f2 nA;refine⟨p,_,dx,_,rfl,by rw[Zak nd];exact f2,T.aG,T.ae,(by show 1<1000;decide),q dA _ ⟨⟨dx,Zao⟩,by rw[Zak (YBW nd),Zao];rfl,λr hr=>(by cases hr),λr hr=>(by cases hr),.nil,kok⟩ ?_ λb o e n=>?_⟩
 .cases e:H dA with
  | none=>rfl
  | some o=>rw[k2 _ _ e (YBW nd)]at nA;cases nA
 .rw[Zak n,Zak (Zag (k2 _ _ e n) nA)];exact k2 _ _ e n
def Zrz:gy P w K mg base CX0 4 a.bN a.cR ["self","name"] (sp_KA K a):=by
 refine T.dU.u.ok ZqK (λAu A outer s H vs Q E hr h=>?_);have hu1:=ZaE hr;obtain⟨p,dA,m,F,n,rfl,hp,hn,nf,q⟩:=h;refine⟨_,(Zab (Zbp (ZcS (Zcp (Zal (Zo2 T) (hM hr) rfl T.eY Zan (Zaa (pv 1) Zac)))) (Zaf ZdD) ZaG)
  (Zad (Zaf (Zbp (Zl1 (ZoQ hu1 (pv 1) (Zaz (K:=K) rfl (pv 0) rfl))) (Zaf ZdD) ZaG)))),?_⟩
 obtain⟨dx,f⟩:=hp.fld;walk_at "rd";refine⟨n,rfl,hn,λH2 s2=>⟨_,rfl,gV ?_⟩⟩;walk_at "h";refine⟨p,_,dx,_,_,rfl,s2 _ _ f,T.aG,T.ae,shS,dA,_,rfl,.inl ⟨_,kTx n,.inl (s2 _ _ hp.dct),rfl,rfl⟩,?_⟩;rw[Zpw nf];exact gV (q H2 s2)
def ZrA:gy P w K mg base CX0 4 a.bj a.cL ["self","text","kinds"] (sp_K9 K a):=by
 refine T.fR.u.ok ZqL (λAu A outer s H vs Q E hr h=>?_);have Ax:=hr.units;obtain⟨p,dx,l,m,rfl,hp,ok,q⟩:=h;refine⟨_,(Zab (ZaK (Zal (Zk6 T) (hM hr) rfl T.dI Zan (Zaa (pv 2) Zac)))
  (Zab (Zbp (PW.pt (Zim (ZcS (Zcp (Zal (Zk3 T) (hM hr) rfl T.dS Zan (Zaa (pv 1) (Zaa (pv 2) (Zaa (ZcU rfl T.c_KI) Zac)))))) (ZeJ (ZaB (Zbe (K:=K) rfl Ax) (pv 1) (Za0 (l:=[]) (by decide +kernel)) (ZaJ _))))) (Zaf ZdD) ZaG)
  (Zaf (ZaK (Zfg rfl T.dC T.ce (Zm8 T) (hM hr) T.dM.u.kp T.dM.b .nil Zan (Zaa (pv 0) (Zaa (pv 1) (Zaa (pv 2) Zac)))))))),?_⟩
 walk_at "rd";have m4:=ok.m4;have l20:=ok.l20;refine⟨m,rfl,∅,ok.k,λH1 s1=>?_⟩;walk_at "rd?";refine⟨l,m,20,rfl,∅,λH2 s2=>?_⟩;walk_at "rd?";rw[Znr ok,YCR];refine gV (.inl ⟨rfl,_,rfl,?_⟩);rw[YAL YAE,ZiQ ok.l1];exact gV ⟨p,dx,_,l,m,rfl,.inr (.inr rfl),s1.trans s2 _ _ hp,λH3 r k=>q H3 ⟨dx,r⟩ λb o e ne=>k b o (s1.trans s2 _ _ e) ne⟩
def Zo4:gy P w K mg base CX0 5 a.f_LG a.d_LG ["one","other"] (sp_LG K a):=by
 refine T.d8.u.ok ZkN (λAu A outer s H vs Q E hr h=>?_);obtain⟨p1,p2,l1,l2,m,rfl,h1,h2,tk,ok1,ok2,q⟩:=h;refine⟨_,(Zab (Zaq (i:=2) ZkN.nd (Zal (Zm4 T) (hM hr) rfl T.dR Zan (Zaa Zae (Zaa Zae Zac))))
  (Zad (Zab (Zbv YBB rfl (ZaP (K:=K) rfl (Zal (Zo0 T) (hM hr) rfl T.eX Zan (Zaa (pv 0) (Zaa (pv 1) Zac)))) (ZaA (i:=3) ZkN.nd rfl (Or.inl rfl))
  (Zaf (Zaq (i:=2) ZkN.nd (Zal (Zq8 T) (hM hr) rfl T.f9 Zan (Zaa (pv 2) (Zaa (Zal (Zm4 T) (hM hr) rfl T.dR Zan (Zaa Zae (Zaa (Zar ZoS (Zat (Zax (K:=K) rfl) rfl T.dD ZaV (Zaa (ZaH (ZaS (K:=K) rfl) (pv 3) Zae (λ_ _=>rfl)) Zac)) Zae) Zac))) Zac))))))
  (Zad (Zaf (Zaw (pv 2))))))),?_⟩
 have dp:=ZeX;walk_at "rd";refine⟨0,1,1,rfl,by decide,by decide,⟨by decide,by decide⟩,by decide,λt0 H1 s1 e1=>?_⟩;walk_at "h";have o1:=gZ ok1;have o2:=gZ ok2;refine⟨p1,p2,l1,l2,m,rfl,h1.l s1.l,h2.l s1.l,tk.same s1,ok1,ok2,λr zs ds H2 s2 tk2 n2 e2 da df _=>?_⟩;have dl:=Zc8 df o1 o2;have zl:=da.1;have i0:(0:Int)=frT ((WS (ds.take 0):Nat):Int) (DD:Nat)/\(1:Int)=frB ((WS (ds.take 0):Nat):Int) (DD:Nat):=by rw[List.take_zero];have:=ZnH (x:=0) (y:=1) (u:=((WS []:Nat):Int)) (v:=(DD:Nat)) (by decide) (by decide) ∅ ∅ (by rw[Zmt];simp);rw[<-this.1,<-this.2];exact⟨rfl,rfl⟩
 refine⟨r,rfl,⟨_,.mk e2⟩,gH.list (xs:=zs) (λi U H'=>∃t v3,U=[some (.ref p1),some (.ref p2),some (.ref t),v3]/\gp H2 H'/\H' t=some (.tup [.int (frT (WS (ds.take i):Nat) (DD:Nat)),.int (frB (WS (ds.take i):Nat) (DD:Nat))])) ⟨t0,_,rfl,gp.refl _,by rw[<-i0.1,<-i0.2];exact s2 _ _ e1 rfl⟩ (λi U H' _ ⟨_,_,_,s',_⟩=>.mk (s' _ _ e2)) ?_ ?_⟩
 .rintro i x U H3 hx ⟨t,v3,rfl,s3,e3⟩;obtain⟨w_,tw,hw,rfl,ew⟩:=da.2 i x hx;obtain⟨w1,w41⟩:=Zel df o1 o2 (YAb hw);have wb:=Zp1 (ws:=ds.take i) λu hu=>Zel df o1 o2 (YAa hu);have wl:(ds.take i).length<=400:=by rw[YAX];lia
  have wb2:WS (ds.take i)<=400*DD:=YAP wb (Nat.mul_le_mul_right _ wl);obtain⟨f1,f2,f3⟩:=ZnG wb2;have hs:((w_.length:Nat):Int) ^ Int.toNat 2=((w_.length*w_.length:Nat):Int):=by show ((w_.length:Nat):Int) ^ 2=_;rw[Int.natCast_mul,Int.pow_succ,Int.pow_succ,Int.pow_zero,Int.one_mul]
  have sm:w_.length*w_.length<=41*41:=YDH w41 w41;have sp:0<w_.length*w_.length:=Nat.mul_pos w1 w1;have bs:Bt 11 (((w_.length*w_.length:Nat)):Int):=⟨∅,by show w_.length*w_.length<2 ^ 11;lia⟩;obtain⟨c1,c2,c3,c4,_⟩:=Zcc (a:=1) (b:=(((w_.length*w_.length:Nat)):Int)) (by decide) ∅;have st:=ZnD (W:=WS (ds.take i)) w1 w41 rfl;walk_at "rd";refine⟨tw,_,0,_,rfl,rfl,.mk (s3 _ _ ew),rfl,_,_,rfl,Zbr ∅,⟨by decide,by decide,by show w_.length<2 ^ 64;lia⟩,?_⟩;rw[hs];refine⟨1,_,11,rfl,by decide,∅,bs,by decide,λtf H4 s4 e4=>⟨t,tf,_,_,_,_,340,rfl,s4 _ _ e3,e4,f3,∅,f1,f2,(bs.le c1 ∅).mono (by decide),(bs.le ∅ c4).mono (by decide),by decide,λtp H5 s5 e5=>⟨tp,_,rfl,s3.trans (s4.trans s5),?_⟩⟩⟩;rw[e5,st.1,st.2,YDX,hw];show _=some (HO.tup [V.int (frT (WS (ds.take i++[w_]):Nat) (DD:Nat)),V.int (frB (WS (ds.take i++[w_]):Nat) (DD:Nat))]);rw[Zn4]
 .rintro U H3 ⟨t,v3,rfl,s3,e3⟩;rw[zl,YCK]at e3;walk_at "k";rw[Zp0 ok1 ok2 df]at e3;exact q t H3 ((s1.l.trans s2).trans s3.l) (tk2.same s3) e3
def Zm5:gy P w K mg base CX0 5 a.bW a.de ["self","letter"] (sp_LD K a):=by
 refine T.eM.u.ok Zqr (λAu A outer s H vs Q E hr h=>?_);obtain⟨p,la,da,l,m,ds,c0,rfl,hp,hd,tk,hc,hl,q⟩:=h;refine⟨_,(Zad (Zab (ZaK (Zal (Zrs T) (hM hr) rfl T.dP Zan (Zaa (pv 1) (Zaa (Zaz (K:=K) rfl (pv 0) rfl) Zac))))
  (Zab (Zbp (ZaB Zq5 (Zat (Zax (K:=K) rfl) rfl T.dD ZaV (Zaa (Zaz (K:=K) rfl (pv 0) rfl) Zac)) (ZcU rfl T.c_KC) (ZaJ _)) (Zad (Zaf ZdD)) ZaG)
  (Zad (Zab (ZaK (Zfh YBV YCJ YCI ZbO (Zaz (K:=K) rfl (pv 0) rfl) (Zaa (Zbx (Zaa (Za0 (l:=[112,117,116]) (by decide +kernel)) (Zaa (pv 1) Zac))) Zac)))
  (Zaf (Zaw (ZaO (pv 0) T.ac T.bC (Zpe T) (hM hr) T.eV.b .nil Zan (Zaa (Zar Za3 (Zaz (K:=K) rfl (pv 0) rfl) (pv 1)) Zac))))))))),?_⟩
 have sz:∀k:Nat,k<=30000->k<=sizeLine:=λk h=>YAP h (by rw[sizeLine_eq];decide);obtain⟨⟨dx,f⟩,hk,⟨ts,d1,d2⟩,run,ok,nld⟩:=id hp;have m4:=ok.m4;have l40:=run.len;have tl:=d2.1;have npd:p≠da:=λz=>by rw[z,d1]at f;cases f
 walk_at "rd";walk_at "g";refine⟨p,_,dx,_,_,rfl,f,T.ac,T.ag,Zcm,?_⟩;refine⟨[c0],m,rfl,by simp,Znt hc,λH1 s1=>?_⟩;walk_at "rd?";refine⟨p,_,dx,_,_,rfl,s1 _ _ f,T.ac,T.aa,Zbm,_,_,rfl,Zbr ∅,?_⟩;rw[decide_eq_false ∅];refine gV ?_;walk_at "g";refine⟨p,_,dx,_,_,rfl,s1 _ _ f,T.ac,T.ad,ZbL,.inl ⟨rfl,_,.mk (s1 _ _ d1)⟩,sz _ (by decide),im.of λtd H2 s2 n2 l2=>?_⟩;have s02:=s1.trans s2;refine⟨da,_,_,rfl,rfl,s02 _ _ d1,by rw[tl];exact sz _ ∅,?_⟩;have c3:Chg [da] H (upd H2 da (.lst (ts++[.ref td]))):=s02.chg.trans (Chg.upd (by simp));have d3:upd H2 da (.lst (ts++[.ref td])) da=some (.lst (ts++[.ref td])):=Zao;have t3:upd H2 da (.lst (ts++[.ref td])) td=some (.tup (Zhf (true,c0))):=by rw[Zak (λz=>by rw[z,s02 _ _ d1]at l2;cases l2)];exact l2
 have tk3:=(tk.same s02).upd (o':=.lst (ts++[.ref td])) (s02 _ _ d1) rfl rfl;generalize upd H2 da (.lst (ts++[.ref td]))=H3 at c3 d3 t3 tk3;have e3:g6 H3 (ts++[.ref td]) (ds++[(true,c0)]):=(d2.chg c3 (λb hb us z=>by rw[YAI.mp hb,d1]at z;cases z)).snoc t3;have f3:=c3 _ _ f (~~~npd) rfl;have k3:=c3 _ _ hk (~~~nld) rfl;have r3:=run.put hc hl;refine⟨p,dx,_,rfl,f3,sN,p,_,dx,_,_,rfl,f3,T.ac,T.aa,Zbm,l,[c0],rfl,rfl,sz _ (by rw[YAo];lia),?_⟩;refine⟨p,la,da,l,l++[c0],m,rfl,⟨dx,f3⟩,k3,r3.len,.inl ⟨c0,rfl⟩,r3.mem,ok,tk3,λt c g la2 H4 ch f4 l4 an tk4=>?_⟩;obtain⟨q1,q2,q3⟩:=ZdK hp c3 d3 e3 ch f4 l4 an r3;exact q t c g la2 H4 q1 q2 q3 tk4
def Zpf:gy P w K mg base CX0 5 a.bY a.di ["self"] (sp_K1 K a):=by
 refine T.eU.u.ok Zox (λAu A outer s H vs Q E hr h=>?_);have Ax:=hr.units;obtain⟨p,la,da,l,m,ds,rfl,hp,hd,tk,q⟩:=h;refine⟨_,(Zad (Zab (Zbp (ZaB (Zbe (K:=K) rfl Ax) (Zat (Zax (K:=K) rfl) rfl T.dD ZaV (Zaa (Zaz (K:=K) rfl (pv 0) rfl) Zac)) Zae (ZaJ _)) (Zaf ZdD) ZaG)
  (Zad (Zab (Zaq (i:=1) Zox.nd (ZoP YBV PySem.F.slot_list_pop PySem.F.type_list_pop Zpl (Zaz (K:=K) rfl (pv 0) rfl)))
  (Zad (Zab (Zbp (ZaB (Zbe (K:=K) rfl Ax) (ZaH (ZaS (K:=K) rfl) (pv 1) Zae (λ_ _=>rfl)) (Za0 (l:=[112,117,116]) (by decide +kernel)) (ZaJ _)) (Zaf (Zaw (ZaO (pv 0) T.ac T.bD (Zpa T) (hM hr) T.dW.b .nil Zan (Zaa (ZaL ZbS (Zaz (K:=K) rfl (pv 0) rfl) Za5 (ZaQ (ZmZ ZiP Zae))) Zac)))) ZaG)
  (Zaf (Zaw (ZaO (pv 0) T.ac T.bC (Zpe T) (hM hr) T.eV.b .nil Zan (Zaa (Zar Za3 (ZaH (ZaS (K:=K) rfl) (pv 1) Zae (λ_ _=>rfl)) (Zaz (K:=K) rfl (pv 0) rfl)) Zac)))))))))),?_⟩
 have sz:∀k:Nat,k<=30000->k<=sizeLine:=λk h=>YAP h (by rw[sizeLine_eq];decide);obtain⟨⟨dx,f⟩,hk,⟨ts,d1,d2⟩,run,ok,nld⟩:=id hp;have m4:=ok.m4;have l40:=run.len;have tl:=d2.1;have npd:p≠da:=λz=>by rw[z,d1]at f;cases f
 walk_at "rd";walk_at "g";refine⟨p,_,dx,_,_,rfl,f,T.ac,T.ad,ZbL,_,_,rfl,.inl ⟨_,.mk d1,rfl⟩,.inl ⟨rfl,?_⟩⟩;rw[YAL YAE];have pop:∀(ds0:List (Bool×Nat)) (d:Bool×Nat),ds=ds0++[d]->∃ts' td,ts=ts'++[.ref td]/\H td=some (.tup (Zhf d))/\g6 H ts' ds0:=λds0 d e=>(e▸d2).init;have ne0:ds≠[]->decide (V.int ((ts.length:Nat):Int)=V.int 0)=false:=λh=>decide_eq_false λe=>by injection e with e;rw[tl]at e;exact h (YBq.mp ∅)
 have go:∀(ds0:List (Bool×Nat)) (d:Bool×Nat),ds=ds0++[d]->∃td H3 ts',Chg [da] H H3/\H3 da=some (.lst ts')/\g6 H3 ts' ds0/\H3 td=some (.tup (Zhf d))/\TT a H3/\ts[ts.length-1]?=some (.ref td)/\upd H da (.lst ts.dropLast)=H3:=λds0 d e=>by
  obtain⟨ts',td,rfl,h1,h2⟩:=pop ds0 d e;refine⟨td,_,ts',Chg.upd (by simp),by rw[Zao,YDF],?_,?_,tk.upd d1 rfl rfl,by simp,rfl⟩
  .exact h2.chg (S:=[da]) (Chg.upd (by simp)) (λb hb us z=>by rw[YAI.mp hb,d1]at z;cases z)
  .rw[Zak (λz=>by rw[z,d1]at h1;cases h1)];exact h1
 rcases q with⟨ds0,c0,l0,e0,rfl,q⟩|⟨ds0,c0,e0,q⟩
 .rw[ne0 (by rw[e0];simp)];refine⟨_,rfl,gV ?_⟩;walk_at "g";obtain⟨td,H3,ts',c3,d3,e3,t3,tk3,hy,eH⟩:=go ds0 (true,c0) e0;refine⟨p,_,dx,_,_,rfl,f,T.ac,T.ad,ZbL,.inl ⟨rfl,_,.mk d1⟩,da,_,_,rfl,rfl,d1,hy,?_⟩;rw[eH];walk_at "g";have f3:=c3 _ _ f (~~~npd) rfl;have k3:=c3 _ _ hk (~~~nld) rfl;have run0:Run m ds0 l0:=by
   obtain⟨ds1,c1,⟨e1,l1,e2,r1⟩|⟨e1,_⟩⟩:=run.last (by rw[e0];simp)
   .rw[e0]at e1;have e3:=List.append_inj' e1 rfl;have e4:=List.append_inj' e2 rfl;rw[e3.1,e4.1];exact r1
   .rw[e0]at e1;have e3:=(List.append_inj' e1 rfl).2;cases e3
  refine⟨td,_,_,_,rfl,rfl,.mk t3,jC,.inl ⟨rfl,true,?_,jg ?_⟩⟩
  .rw[YAL YAE];exact congrArg V.bl (decide_eq_true rfl)
  .refine⟨p,dx,_,rfl,f3,sN,p,_,dx,_,_,rfl,f3,T.ac,T.aa,Zbm,_,rfl,l0++[c0],rfl,sz _ ∅,?_⟩;rw[Zkl,YDF];refine⟨p,la,da,l0,l0++[c0],m,rfl,⟨dx,f3⟩,k3,l40,.inl ⟨c0,rfl⟩,run.mem,ok,tk3,λt c g la2 H4 ch f4 l4 an tk4=>?_⟩;obtain⟨q1,q2,q3⟩:=ZdK hp c3 d3 e3 ch f4 l4 an run0;exact q t c g la2 H4 q1 q2 q3 tk4
 .rw[ne0 (by rw[e0];simp)];refine⟨_,rfl,gV ?_⟩;walk_at "g";obtain⟨td,H3,ts',c3,d3,e3,t3,tk3,hy,eH⟩:=go ds0 (false,c0) e0;refine⟨p,_,dx,_,_,rfl,f,T.ac,T.ad,ZbL,.inl ⟨rfl,_,.mk d1⟩,da,_,_,rfl,rfl,d1,hy,?_⟩;rw[eH];walk_at "g";have f3:=c3 _ _ f (~~~npd) rfl;have k3:=c3 _ _ hk (~~~nld) rfl;have run0:Run m ds0 (c0::l):=by
   obtain⟨ds1,c1,⟨e1,l1,e2,r1⟩|⟨e1,r1⟩⟩:=run.last (by rw[e0];simp)
   .rw[e0]at e1;have e3:=(List.append_inj' e1 rfl).2;cases e3
   .rw[e0]at e1;have e3:=List.append_inj' e1 rfl;have e4:=e3.2;injection e4 with e4 _;injection e4 with _ e4;rw[e3.1,e4];exact r1
  have l41:=run0.len;rw[YAf]at l41;refine⟨td,_,_,_,rfl,rfl,.mk t3,jC,.inl ⟨rfl,false,?_,gV ?_⟩⟩
  .rw[YAL YAE];exact congrArg V.bl (show decide (tx DROP=tx [112,117,116])=false by rw[ZcK];decide)
  .refine⟨p,dx,_,rfl,f3,sN,td,_,_,_,rfl,rfl,.mk t3,rfl,p,_,dx,_,_,rfl,f3,T.ac,T.aa,Zbm,[c0],l,rfl,rfl,sz _ (by rw[YAo];lia),?_⟩;refine⟨p,la,da,l,c0::l,m,rfl,⟨dx,f3⟩,k3,run0.len,.inr ⟨c0,rfl⟩,run0.mem,ok,tk3,λt c g la2 H4 ch f4 l4 an tk4=>?_⟩;obtain⟨q1,q2,q3⟩:=ZdK hp c3 d3 e3 ch f4 l4 an run0;exact q t c g la2 H4 q1 q2 q3 tk4
def ZrB:gy P w K mg base CX0 5 a.bX a.dh ["self"] (sp_K2 K a):=by
 refine T.fN.u.ok ZqR (λAu A outer s H vs Q E hr h=>?_);have Ax:=hr.units;obtain⟨p,la,da,c0,l0,m,ds,rfl,hp,hd,tk,q⟩:=h;refine⟨_,(Zad (Zab (Zbp (ZaB (Zbe (K:=K) rfl Ax) (Zaz (K:=K) rfl (pv 0) rfl) (Za0 (l:=[]) (by decide +kernel)) (ZaJ _)) (Zaf ZdD) ZaG)
  (Zad (Zab (ZaK (Zfh YBV YCJ YCI ZbO (Zaz (K:=K) rfl (pv 0) rfl) (Zaa (Zbx (Zaa (Za0 (l:=[100,114,111,112]) (by decide +kernel)) (Zaa (ZaH Zge (Zaz (K:=K) rfl (pv 0) rfl) Zae (λ_ _=>rfl)) Zac))) Zac)))
  (Zaf (Zaw (ZaO (pv 0) T.ac T.bD (Zpa T) (hM hr) T.dW.b .nil Zan (Zaa (ZaL ZbS (Zaz (K:=K) rfl (pv 0) rfl) (ZaQ Zae) Za5) Zac)))))))),?_⟩
 have sz:∀k:Nat,k<=30000->k<=sizeLine:=λk h=>YAP h (by rw[sizeLine_eq];decide);obtain⟨⟨dx,f⟩,hk,⟨ts,d1,d2⟩,run,ok,nld⟩:=id hp;have m4:=ok.m4;have l40:=run.len;have tl:=d2.1;have npd:p≠da:=λz=>by rw[z,d1]at f;cases f
 walk_at "rd";walk_at "g";refine⟨p,_,dx,_,_,rfl,f,T.ac,T.aa,Zbm,.inl ⟨rfl,?_⟩⟩;rw[YAL YAE,ZcK];rw[decide_eq_false (by simp)];refine⟨_,rfl,gV ?_⟩;walk_at "g";refine⟨p,_,dx,_,_,rfl,f,T.ac,T.ad,ZbL,.inl ⟨rfl,_,.mk d1⟩,p,_,dx,_,_,rfl,f,T.ac,T.aa,Zbm,c0::l0,0,c0,rfl,rfl,sz _ ∅,jC,sz _ (by decide),im.of λtd H2 s2 n2 l2=>?_⟩;refine⟨da,_,_,rfl,rfl,s2 _ _ d1,by rw[tl];exact sz _ ∅,?_⟩;have c3:Chg [da] H (upd H2 da (.lst (ts++[.ref td]))):=s2.chg.trans (Chg.upd (by simp));have d3:upd H2 da (.lst (ts++[.ref td])) da=some (.lst (ts++[.ref td])):=Zao;have t3:upd H2 da (.lst (ts++[.ref td])) td=some (.tup (Zhf (false,c0))):=by rw[Zak (λz=>by rw[z,s2 _ _ d1]at l2;cases l2)];exact l2
 have tk3:=(tk.same s2).upd (o':=.lst (ts++[.ref td])) (s2 _ _ d1) rfl rfl;generalize upd H2 da (.lst (ts++[.ref td]))=H3 at c3 d3 t3 tk3;have e3:g6 H3 (ts++[.ref td]) (ds++[(false,c0)]):=(d2.chg c3 (λb hb us z=>by rw[YAI.mp hb,d1]at z;cases z)).snoc t3;have f3:=c3 _ _ f (~~~npd) rfl;have k3:=c3 _ _ hk (~~~nld) rfl;refine⟨p,dx,_,rfl,f3,sN,p,_,dx,_,_,rfl,f3,T.ac,T.aa,Zbm,_,rfl,c0::l0,rfl,sz _ ∅,?_⟩;rw[ZfD];refine⟨p,la,da,l0,c0::l0,m,rfl,⟨dx,f3⟩,k3,l40,.inr ⟨c0,rfl⟩,run.mem,ok,tk3,λt c g la2 H4 ch f4 l4 an tk4=>?_⟩;obtain⟨q1,q2,q3⟩:=ZdK hp c3 d3 e3 ch f4 l4 an run.drop;exact q t c g la2 H4 q1 q2 q3 tk4
def Zrm:gy P w K mg base CX0 6 a.f_L8 a.d_L8 ["_law_text","_law_kinds_here","_law_cell_here","_law_longest"] (sp_L8 K a):=by
 refine T.fZ.u.ok Zja (λAu A outer s H vs Q E hr h=>?_);obtain⟨l,m,c,g,rfl,ok,lg,g8,tk,q⟩:=h;refine⟨_,(Zab (Zaq (i:=4) Zja.nd (Zar ZaT (Zar ZcW Zae (pv 3)) (Zar Za2 (pv 2) Zae)))
  (Zad (Zab (Zaq (i:=5) Zja.nd (Zar Za2 (Zar Za6 (pv 2) Zae) (Zat (Zax (K:=K) rfl) rfl T.dD ZaV (Zaa (pv 0) Zac))))
  (Zad (Zab (Zaq (i:=6) Zja.nd (Zdh T.bA (Zpd T) (hM hr) rfl T.m_L2 T.eT.b .nil Zan (Zaa (pv 1) Zac)))
  (Zad (Zab (Zbv YBB rfl (Zff (Zal (ZoW T) (hM hr) rfl T.fG Zan (Zaa (pv 0) (Zaa (pv 5) (Zaa (pv 4) Zac))))) (ZaA (i:=7) Zja.nd rfl (Or.inl rfl))
  (Zaf (ZaK (ZaO (pv 6) T.ac T.bf (Zm5 T) (hM hr) T.eM.b .nil Zan (Zaa (pv 7) Zac)))))
  (Zad (Zaf (Zaw (ZbZ (Zaa (pv 6) (Zaa (pv 5) (Zaa (pv 4) Zac)))))))))))))),?_⟩
 have l1:=ok.l1;have kok:KOk m:=⟨ok.k,ok.m1,ok.m4⟩;obtain⟨n,en,n1,n2⟩:∃n:Nat,2*(g:Int)+c % 9=(n:Nat)/\2*g<=n/\n<=24:=⟨(2*(g:Int)+c % 9).toNat,∅,∅,∅⟩;walk_at "rd";refine⟨.inl ⟨by decide,by decide⟩,by decide,?_⟩;rw[en];walk_at "h";refine⟨⟨by decide,by decide⟩,_,_,rfl,Zbr ∅,∅,Zai ?_⟩;generalize c/9 % ((l.length:Nat):Int)=i;walk_at "rd";intro p dx np ndx ne;refine⟨p,dx,m,rfl,Zao,kok,λla0 da H1 at1 nla nda k1=>⟨rfl,Zai ?_⟩⟩;have s1:gp H H1:=λb o e=>k1 b o (by rw[Zak (Zag e np),Zak (Zag e ndx)];exact e) (Zag e np);have tk1:=tk.same s1;have nda0:=ZgZ np ndx nda;have nla0:=ZgZ np ndx nla;have keepL:∀ {H' H'':Hp},gE H H'->Chg [p,da] H' H''->gE H H'':=λsl ch bb o e t=>ch _ _ (sl _ _ e t) (by simp only[YAJ,YBF,or_false,not_or];exact⟨Zag e np,Zag e nda0⟩) t
 walk_at "rd";refine⟨l,i,n,rfl,l1,∅,∅,λs_ sl wi=>⟨s_,rfl,gH.text (λj U H'=>∃v7 la ds,U=[some (tx l),some (tx m),some (.int c),some (.int (g:Nat)),some (.int (n:Nat)),some (.int i),some (.ref p),v7]/\gq a.c_L2 H' p la da (s_.take j) m ds/\ds.length=j/\TT a H'/\gE H H'/\Nw H la) ⟨_,la0,[],rfl,at1,rfl,tk1,s1.l,Nw.of nla0⟩ ?_ ?_⟩⟩
 .rintro j x U H3 hx ⟨v7,la,ds,rfl,at3,dl,tk3,sl3,nw3⟩;have hj:j<s_.length:=(YAN.mp hx).1;have mx:x∈m:=by rw[(ia.iff l1).mp wi j hj]at hx;injection hx with e;rw[<-e];exact ok.mem _ (Zmq l1 _)
  obtain⟨dx3,f3⟩:=id at3.fld;walk_at "rd";refine⟨p,dx3,_,rfl,f3,sN,p,la,da,_,m,ds,x,rfl,at3,∅,tk3,mx,by rw[YAX];lia,λt c g la2 H4 q1 q2 q3 q4=>⟨_,la2,ds++[(true,x)],rfl,?_,by rw[YAF,dl];rfl,q4,keepL sl3 q1,q3.nl.l sl3⟩⟩;rw[YDX,hx];exact q2
 .rintro U H3 ⟨v7,la,ds,rfl,at3,dl,tk3,sl3,nw3⟩;rw[YCK]at at3;walk_at "k";obtain⟨_,d3,_⟩:=id at3.deed;exact⟨sz 3 (by decide),gU.of λt H4 s4 n4 l4=>q t p la da s_ ds i n H4 (sl3.trans s4.l) (tk3.same s4) l4 (at3.same s4) sl wi (.base ∅) ∅ n1 n2 ((Nw.of n4).l sl3) (Nw.of np) nw3 (Nw.of nda0) (Zag at3.lack n4).symm (Zag d3 n4).symm⟩
def Zrf:gy P w K mg base CX0 6 a.f_LM a.d_LM ["_law_walk_here","_law_text","_law_ring","_law_cell_here","_law_most"] (sp_LM K a):=by
 refine T.fI.u.ok ZkM (λAu A outer s H vs Q E hr h=>?_);have Ax:=hr.units;obtain⟨t,p,la,da,r,l,m,s_,ds,c,i,n,k,rfl,ht,st,sl,wi,hi,n1,n2,rg,ok,l8,hk,lk,n24,hd,tk,q⟩:=h;refine⟨_,(Zab (ZoK (pv 0) (ZoL rfl (Zb9 (ZaA (i:=5) ZkM.nd rfl (Or.inl rfl)) (Zb9 (ZaA (i:=6) ZkM.nd rfl (Or.inl rfl)) (Zb9 (ZaA (i:=7) ZkM.nd rfl (Or.inl rfl)) ZgW)))))
  (Zad (Zab (Zbp (PW.pt (ZhF (ZaB (Zbe (K:=K) rfl Ax) (Zar Za2 (pv 3) Zae) Zae (ZaJ _)) (Zfc (ZaB Zk1 (Zat (Zax (K:=K) rfl) rfl T.dD ZaV (Zaa (Zay (pv 5) T.ac T.cA (Zrt T) (hM hr) T.fz.b .nil Zan) Zac)) (pv 7) (ZaJ _))))) (Zad (Zab (ZaK (Zay (pv 5) T.ac T.bB (Zpf T) (hM hr) T.eU.b .nil Zan))
  (Zad (Zab (ZaK (Zay (pv 5) T.ac T.bB (Zpf T) (hM hr) T.eU.b .nil Zan))
  (Zad (Zaf (Zjl (pv 0) Zae (Zar ZhK (pv 6) Zae) rfl))))))) (Zad (Zab (ZaK (ZaO (pv 5) T.ac T.bf (Zm5 T) (hM hr) T.eM.b .nil Zan (Zaa (ZaH Zge (pv 1) (Zar Za2 (Zar ZaT (pv 6) (pv 7)) (Zat (Zax (K:=K) rfl) rfl T.dD ZaV (Zaa (pv 1) Zac))) (λ_ _=>rfl)) Zac)))
  (Zad (Zab (Zbp (ZaB (ZbT (K:=K) rfl Ax) (Zal (ZoY T) (hM hr) rfl T.fH Zan (Zaa (Zay (pv 5) T.ac T.ba (Zk5 T) (hM hr) T.dH.b .nil Zan) (Zaa (pv 4) Zac))) (Zay (pv 2) T.ak T.aj (Ziq T) (hM hr) T.dG.b .nil Zan) (ZaJ _)) (Zad (Zaf (Zaw Zev))) ZaG)
  (Zad (Zab (ZaK (Zay (pv 5) T.ac T.cB (ZrB T) (hM hr) T.fN.b .nil Zan))
  (Zad (Zaf (Zjl (pv 0) Zae (Zar ZaT (pv 6) Zae) rfl))))))))))
  (Zad (Zab (Zbp (ZaB (ZbT (K:=K) rfl Ax) (Zay (pv 5) T.ac T.ay (Zm7 T) (hM hr) T.eK.b .nil Zan) (Zal (ZoW T) (hM hr) rfl T.fG Zan (Zaa (pv 1) (Zaa (ZaH (ZaC (K:=K) rfl) (pv 0) Zae (λ_ _=>rfl)) (Zaa (pv 7) Zac)))) (ZaJ _)) (Zad (Zaf (Zaw Zev))) ZaG)
  (Zad (Zaf (Zaw (ZbE (Zbe (K:=K) rfl Ax) (Zal (ZoY T) (hM hr) rfl T.fH Zan (Zaa (Zay (pv 5) T.ac T.ba (Zk5 T) (hM hr) T.dH.b .nil Zan) (Zaa (pv 4) Zac))) (Zay (pv 2) T.ak T.aj (Ziq T) (hM hr) T.dG.b .nil Zan) (ZaJ _)))))))))),?_⟩
 have l1:=ok.l1;obtain⟨dxp,fp⟩:=id st.fld;obtain⟨tsd,fd,_⟩:=id st.deed;have tp:t≠p:=λz=>by rw[<-z,ht]at fp;cases fp
 have tm:t∉[p,da]:=by simp[tp,n2]
 have sub:∀b∈[p,da],b∈[t,p,da]:=λb hb=>YAO _ hb;have rgK:∀ {H':Hp},Chg [t,p,da] H H'->gJ a.c_MB H' r l m:=λch=>by
  obtain⟨dx,f⟩:=rg;refine⟨dx,ch _ _ f ?_ rfl⟩;simp only[YAJ,YBF,or_false,not_or];refine⟨λz=>?_,λz=>?_,λz=>?_⟩
  .rw[z,ht]at f;cases f
  .rw[z,fp]at f;injection f with f;injection f with _ _ f;have h:=ZdH (l:=s_) (m:=m) (la:=la) (da:=da);rw[f,Za7 (by decide +kernel) (by decide +kernel)]at h;cases h
  .rw[z,fd]at f;cases f
 have nwS:∀ {H':Hp} {la' x:AE} {s':Q11} {ds':List (Bool×Nat)},Nw H' x->Chg [p,da] H H'->gq a.c_L2 H' p la' da s' m ds'->Nw H x:=λn ch st=>n.chg ch λb hb=>by
  obtain⟨_,f⟩:=st.fld;obtain⟨_,d,_⟩:=st.deed;rcases YAJ.mp hb with rfl | hb
  .exact⟨_,f,rfl⟩
  .rw[YAI.mp hb];exact⟨_,d,rfl⟩
 have cmp:∀(ng:Bool) {H':Hp} {la':AE} {s':Q11} {ds':List (Bool×Nat)} {i':Int} {v0 v1 v3 v6 v7:Option V} {Q':VK},gq a.c_L2 H' p la' da s' m ds'->ia l s' i'->n<=s'.length->Chg [t,p,da] H H'->(∀H'',gp H' H''->Q' (.bl (!ng)) H'')->tOp (iO K ng) (Zi3 (sp_LW K a) [] E0 (Zif (Zi1 a.c_L2 (Str.ofString "lacking") (sp_KF K a) [] E0 (jr 5) jJ) (Zif (jr 4) jJ))) (Zi1 a.c_MB (Str.ofString "lacking") (sp_KG K a) [] E0 (jr 2) jJ) [v0,v1,some (.ref r),v3,some (.int (k:Nat)),some (.ref p),v6,v7] H' Q':=λng {H' la' s' ds' i' v0 v1 v3 v6 v7 Q'} st' w' ln' ch' q'=>by
  obtain⟨dx',f'⟩:=id st'.fld;obtain⟨dxr,fr⟩:=rgK ch';have lo:=gZ (ZaW st');have l200:=lo.len;walk_at "rd";refine⟨p,dx',_,rfl,f',sN,p,la',da,s',m,ds',rfl,st',λr1 n1=>⟨r1,_,k,rfl,Zao,∅,λw hw=>by have:=lo.w w hw;lia,λr2 H2 s2 n2 e2=>?_⟩⟩;have s3:gp H' H2:=(Zav n1).trans s2;refine⟨r,dxr,_,rfl,s3 _ _ fr,Za7 (by decide +kernel) (by decide +kernel),r,l,m,_,41,_,rfl,.inr ⟨⟨dxr,s3 _ _ fr⟩,ok,rfl,rfl,rfl⟩,λr4 H4 s4 n4 e4=>?_⟩;have e2':=s4 _ _ e2;rw[ZeZ l1 st'.ok.rise w' ∅ lk]at e2';cases ng with
  | true=>exact Zpj (.mk e2') (.mk e4) (q' _ (s3.trans s4))
  | false=>exact ZlA (.mk e2') (.mk e4) (ZbF _) (q' _ (s3.trans s4))
 walk_at "rd";refine⟨t,_,rfl,.mk ht,rfl,_,_,rfl,_,_,rfl,_,_,rfl,rfl,Zai ?_⟩;refine seqI (λU2 H2=>∃la2 s2 ds2 i2,U2=[some (.ref t),some (tx l),some (.ref r),some (.int c),some (.int (k:Nat)),some (.ref p),some (.int i),some (.int (n:Nat))]/\Chg [t,p,da] H H2/\TT a H2/\H2 t=some (.lst [.ref p,.int i2,.int (n:Nat)])/\gq a.c_L2 H2 p la2 da s2 m ds2/\s2.length=n/\ia l s2 i2/\iU l n ds2 i2/\(la2=la\/Nw H la2)/\ds2.length<=ds.length+2) (λT0 tail=>?_) ?_
 .show ke _ _ _ _ _ _;refine ifI (λH'=>gp H H'/\n<ds.length) (λH'=>gp H H') (λX Y hX hY=>?_) ?_ ?_
  .obtain⟨dx,f⟩:=id st.fld;walk_at "rd";refine⟨by decide,Zg9 λb0 _=>⟨b0,rfl,iz (λ_=>⟨p,dx,_,rfl,f,sN,p,la,da,s_,m,ds,rfl,st,λr1 ts n1 dA=>⟨_,ts.length,rfl,.inl ⟨_,.mk Zao,rfl⟩,iz (λh=>hX _ ⟨Zav n1,?_⟩) (λ_=>hY _ (Zav n1))⟩⟩) (λ_=>gV (hY H (gp.refl _)))⟩⟩;have:=of_decide_eq_true h;have:=dA.1
   lia
  .rintro H1 ⟨s1,dn⟩;have tk1:=tk.same s1;have st1:=st.same s1;obtain⟨ds0,c0,rfl,hi0⟩:=hi.back dn;obtain⟨dx1,f1⟩:=id st1.fld;walk_at "rd";refine⟨p,dx1,_,rfl,f1,sN,p,la,da,s_,m,_,rfl,st1,∅,tk1,.inr ⟨_,_,rfl,λt2 c2 g2 la2 H2 q1 st2 q3 tk2=>Zai ?_⟩⟩;obtain⟨dx2,f2⟩:=id st2.fld;obtain⟨s0,e0⟩:∃s0,cI l (i-1)::s_=s0++[c0]:=by
    obtain⟨d,e,⟨z,s0,h,_⟩|⟨z,_⟩⟩:=st2.run.last (by simp)
    .have:=(List.append_inj' z rfl).2;injection this with this;injection this with _ this;exact⟨s0,by rw[h,this]⟩
    .have:=(List.append_inj' z rfl).2;cases this
   have w0:ia l (cI l (i-1)::s_) (i-1):=(ia.cons l1).mpr ⟨rfl,by rw[Int.sub_add_cancel];exact wi⟩;rw[e0]at w0;have el:=congrArg List.length e0;rw[YAF,YAo,YAf]at el;walk_at "rd";refine⟨p,dx2,_,rfl,f2,sN,p,la2,da,_,m,_,rfl,st2,by rw[YAF]at hd;lia,tk2,.inl ⟨ds0,c0,s0,rfl,e0,λt3 c3 g3 la3 H3 q5 st3 q7 tk3=>Zai ?_⟩⟩;have ht3:=q5 _ _ (q1 _ _ (s1 _ _ ht) tm rfl) tm rfl;walk_at "rd";refine⟨t,_,1,rfl,rfl,ht3,YAT _ |> Nat.le_succ_of_le,by decide,tail _ _ ⟨la3,s0,ds0,i-1,rfl,?_,tk3.upd ht3 rfl rfl,Zao,st3.upd ht3 ?_ n2,∅,w0.left,hi0,.inr ?_,by simp;lia⟩⟩
   .exact((s1.chg.trans (q1.mono sub)).trans (q5.mono sub)).trans (Chg.upd YAZ)
   .exact q7.nl.ne (q1 _ _ (s1 _ _ ht) tm rfl) rfl
   .exact nwS q7.nl (s1.chg.trans q1) st2
  .intro H1 s1;have tk1:=tk.same s1;have st1:=st.same s1;obtain⟨dx1,f1⟩:=id st1.fld;walk_at "rd";refine⟨p,dx1,_,rfl,f1,sN,_,_,rfl,Zbr ∅,∅,l,_,cI l (i+(n:Nat)),rfl,rfl,by rw[sizeLine_eq];lia,Zms l1,p,la,da,s_,m,ds,_,rfl,st1,∅,tk1,ok.mem _ (Zmq l1 _),∅,λt2 c2 g2 la2 H2 q1 st2 q3 tk2=>Zai ?_⟩;have ht2:=q1 _ _ (s1 _ _ ht) tm rfl;have ch2:Chg [t,p,da] H H2:=s1.chg.trans (q1.mono sub);have w2:=wi.put l1;rw[sl]at w2;refine cmp true st2 w2 (by rw[YAF];lia) ch2 λH3 s3=>⟨_,rfl,gV ?_⟩;walk_at "rd?";refine Zai ?_;obtain⟨c0,s0,rfl⟩:∃c0 s0,s_=c0::s0:=by
    cases s_ with
    | nil=>rw[List.length_nil]at sl;lia
    | cons c0 s0=>exact⟨c0,s0,rfl⟩
   have st3:=st2.same s3;obtain⟨dx3,f3⟩:=id st3.fld;walk_at "rd";refine⟨p,dx3,_,rfl,f3,sN,p,la2,da,c0,s0++[cI l (i+(n:Nat))],m,_,rfl,st3,by rw[YAF,YAo];lia,tk2.same s3,λt4 c4 g4 la4 H4 q5 st4 q7 tk4=>Zai ?_⟩;have ht4:=q5 _ _ (s3 _ _ ht2) tm rfl;walk_at "rd";refine⟨t,_,1,rfl,rfl,ht4,YAT _ |> Nat.le_succ_of_le,by decide,tail _ _ ⟨la4,_,_,i+1,rfl,?_,tk4.upd ht4 rfl rfl,Zao,st4.upd ht4 ?_ n2,?_,?_,?_,.inr ?_,?_⟩⟩
   .exact((ch2.trans s3.chg).trans (q5.mono sub)).trans (Chg.upd YAZ)
   .exact q7.nl.ne (s3 _ _ ht2) rfl
   .rw[YAF,<-sl];rfl
   .exact((ia.cons l1).mp w2).2
   .rw[((ia.cons l1).mp wi).1,YAp];exact .step hi
   .exact nwS q7.nl ((s1.chg.trans q1).trans s3.chg) st3
   .rw[YAF,YAF];exact YAT _
 .rintro U2 H2 ⟨la2,s2,ds2,i2,rfl,ch2,tk2,ht2,st2,sl2,wi2,hi2,nl2,dl2⟩;obtain⟨dx2,f2⟩:=id st2.fld;walk_at "rd";refine⟨p,dx2,_,rfl,f2,sN,p,la2,da,s2,m,ds2,rfl,st2,?_⟩;refine⟨t,_,1,_,rfl,rfl,.mk ht2,rfl,l,i2,n,rfl,l1,l8,∅,λs3 sl3 wi3=>?_⟩;rw[Win.one wi3 wi2 ∅];refine Znb λb0 h0=>⟨b0,rfl,iz (λz=>absurd rfl (h0.mp z)) λ_=>?_⟩;show Za9 _ _ _ _;refine Zai (cmp false st2 wi2 ∅ ch2 λH3 s3=>q la2 s2 ds2 i2 H3 (ch2.trans s3.chg) (tk2.same s3) (s3 _ _ ht2) (st2.same s3) sl2 wi2 hi2 nl2 dl2)
def Zrk:gy P w K mg base CX0 6 a.bS a.cW ["self","name","letter"] (sp_LC K a):=by refine T.fS.u.ok Zqs (λAu A outer s H vs Q E hr h=>?_);obtain⟨p,dA,m,F,r,c0,rfl,hp,hrF,tk,hd,hc,hl,q⟩:=h;refine⟨_,(Zaf (Zaw (ZaO (ZaO (pv 0) T.aG T.bv (Zpg T) (hM hr) T.eS.b .nil Zan (Zaa (pv 1) Zac)) T.ac T.bf (Zm5 T) (hM hr) T.eM.b .nil Zan (Zaa (pv 2) Zac)))),?_⟩;obtain⟨dx,f⟩:=hp.fld;walk_at "rd";refine⟨p,dx,_,rfl,f,shN,p,dA,m,F,r,rfl,hp,hrF,λH1 s1=>?_⟩;have st:=(hp.str r hrF).same s1;obtain⟨dy,g⟩:=id st.fld;exact⟨r.p,dy,_,rfl,g,sN,r.p,r.la,r.da,r.l,m,r.ds,c0,rfl,st,hd,tk.same s1,hc,hl,λt c g la2 H2 c2 st2 an tk2=>q t c g la2 H2 (s1.chg.trans c2) st2 (ZnZ an s1) tk2⟩
def Zrw:gy P w K mg base CX0 6 a.bT a.cX ["self","strip"] (sp_KJ K a):=by
 refine T.fh.u.ok Zjc (λAu A outer s H vs Q E hr h=>?_);have hu1:=ZaE hr;obtain⟨p,q_,dA,l,m,F,rfl,hp,hq,ok,hF,tk,q⟩:=h;refine⟨_,(Zab (ZaK (Zal (Zm9 T) (hM hr) rfl T.dN Zan (Zaa (pv 0) (Zaa (pv 1) Zac))))
  (Zad (Zab (Zaq (i:=2) Zjc.nd (ZbZ Zac))
  (Zad (Zab (Zbv YBB rfl (ZaP (K:=K) rfl (Zay (pv 0) T.aG T.bt (Zo9 T) (hM hr) T.eG.b .nil Zan)) (ZaA (i:=3) Zjc.nd rfl (Or.inl rfl))
  (Zab (ZcT (i:=4) Zjc.nd rfl (Or.inr rfl) (Zal (Zo4 T) (hM hr) rfl T.d8 Zan (Zaa (pv 1) (Zaa (ZgY hu1 (Zaz (K:=K) rfl (pv 0) rfl) (pv 3) (λ_ _=>rfl)) Zac))))
  (Zad (Zab (Zdg (i:=5) (N:=["rank","share"]) (ix:=[none,some 4]) rfl Zjc.nd rfl rfl rfl (Za4 rfl) rfl (ZaP (K:=K) rfl (pv 2)) (λ_ _ _ _=>(ZaA (i:=0) (show (["rank","share"]:AK).Nodup from by decide +kernel) rfl (Or.inl rfl) (Or.inr rfl))) (λ_ _ _ _=>(Zb8 (ZcS (Zcp (Zal (Zo7 T) (hM hr) rfl T.fT Zan (Zaa (pv 1) (Zaa (ZaH (ZaS (K:=K) rfl) (pv 0) Zae (λ_ _=>rfl)) Zac))))))) (λ_ _ _ _=>(pv 0)))
  (Zad (Zaf (ZaK (Zfh YBV PySem.F.slot_list_insert PySem.F.type_list_insert Zjz (pv 2) (Zaa (Zat (Zax (K:=K) rfl) rfl T.dD ZaV (Zaa (pv 5) Zac)) (Zaa (Zbx (Zaa (pv 3) (Zaa (pv 4) Zac))) Zac))))))))))
  (Zad (Zaf (Zaw (pv 2))))))))),?_⟩
 obtain⟨dx,f⟩:=hp.fld;obtain⟨F',pm,eN⟩:=srtF F;have lF:F'.length=F.length:=pm.length_eq;walk_at "rd";refine⟨p,q_,m,rfl,.inr ⟨dA,F,hp⟩,.inl ⟨l,hq⟩,?_⟩;walk_at "h";refine⟨YBC _,gU.of λpr H1 s1 n1 e1=>Zai ?_⟩;walk_at "rd";refine⟨p,dx,_,rfl,s1 _ _ f,shN,p,dA,m,F,rfl,hp.same s1,hF,λpn H2 s2 n2 e2=>?_⟩;rw[<-eN]at e2;have npn:pn≠pr:=λz=>by rw[z,e1]at n2;cases n2
 have srt:(F'.map (·.n)).Pairwise (λa b=>leT a b=true):=by rw[eN];exact Zbi _
 have ndF:(F'.map (·.n)).Nodup:=((pm.map _).nodup_iff).mpr hp.nd;refine⟨pn,rfl,⟨_,.mk e2⟩,gH.list (xs:=(F'.map (·.n)).map tx) (λi U H'=>∃v3 v4 v5 zs R,U=[some (.ref p),some (.ref q_),some (.ref pr),v3,v4,v5]/\gE H H'/\TT a H'/\H' pn=some (.lst ((F'.map (·.n)).map tx))/\H' pr=some (.lst zs)/\Zkx H' zs R/\R.Pairwise ltR/\R.Perm ((F'.take i).map λr=>(r.n,Wd l r.l m))) ⟨_,_,_,[],[],rfl,(s1.trans s2).l,tk.same (s1.trans s2),e2,s2 _ _ e1,⟨[],rfl,rfl,λr h=>(by cases h)⟩,.nil,.nil⟩ (λi U H' _ ⟨_,_,_,_,_,_,_,_,e',_⟩=>.mk e') ?_ ?_⟩
 .rintro i x U H3 hx ⟨v3,v4,v5,zs,R,rfl,s3,tk3,en3,e3,ra,pw,pR⟩;rw[YAw,YAK]at hx;obtain⟨r,hr,rfl⟩:=YBb.mp hx;have hrF:r∈F:=pm.mem_iff.mp (YAb hr);have hi:i<F'.length:=(YAN.mp hr).1;have g:=Zl9 hp.nd hrF;have hp3:=hp.l s3;have st:=hp3.str r hrF;have okr:=ZaW st;have f3:=s3 _ _ f rfl;walk_at "rd";refine⟨p,_,dx,_,_,rfl,f3,T.aG,T.ae,shS,dA,_,rfl,.inl ⟨_,kTx r.n,.inl hp3.dct,rfl,g.symm⟩,q_,r.p,l,r.l,m,rfl,hq.l s3,.inr ⟨r.la,r.da,r.ds,st⟩,tk3,ok,okr,λt H4 s4 tk4 e4=>?_⟩;walk_at "h";obtain⟨rs,rfl,rfl,ha⟩:=ra;have ha4:∀x∈rs,jL H4 x.1 x.2:=λx hx=>(ha x hx).ext λb vs e=>s4 _ _ e rfl;have pr4:=s4 _ _ e3 rfl;have wl:=Zn1 ok okr;have bd:∀x∈rs,x.2.2<=400*DD:=λx hx=>by
   obtain⟨r',hr',e⟩:=YAj.mp (pR.mem_iff.mp (YBE (f:=(·.2)) hx));have:x.2.2=Wd l r'.l m:=by rw[<-e]
   rw[this];exact Zn1 ok (ZaW (hp.str r' (pm.mem_iff.mp (YAa hr'))))
  have lrs:rs.length<=1000:=by
   have:=pR.length_eq;rw[YAB,YAB,YAX]at this
   lia
  refine⟨pr,rfl,⟨_,.mk pr4⟩,gu.dataF (xs:=rs.map λr=>V.ref r.1) (λi=>!decide (Wd l r.l m<(rs.getD i (0,[],0)).2.2)) (λ_ _ _=>True) (λ_ _ _ _ _ _=>trivial) (by rw[YAB];lia) (.mk pr4) (λj H' Q' h s' q'=>?_) (λj H' Q' h _ s' q'=>?_) (λpa ya H5 s5 n5 e5 l5 _=>?_)⟩
  .rw[YAB]at h;have hg:(rs.map λr=>V.ref r.1).getD j V.non=.ref (rs.getD j (0,[],0)).1:=by simp[YAQ,h]
   have hm:rs.getD j (0,[],0)∈rs:=by simp[YAQ,h]
   rw[hg];generalize rs.getD j (0,[],0)=y at hm q' ⊢;obtain⟨u,u1,u2⟩:=(ha4 y hm).ext λb vs e=>s' _ _ e;walk_at "rd";exact⟨y.1,_,_,_,rfl,rfl,.mk u1,rfl,t,u,Wd l r.l m,y.2.2,rfl,s' _ _ e4,u2,wl,bd y hm,_,rfl,q' H' (gp.refl _)⟩
  .walk_at "rd";exact q' _ H' (gp.refl _) trivial
  .walk_at "h";have k5:∀b vs,H4 b=some (.tup vs)->H5 b=some (.tup vs):=λb vs e=>s5 _ _ e;obtain⟨k,ek⟩:∃k,k=(rs.filter λy=>!decide (Wd l r.l m<y.2.2)).length:=⟨_,rfl⟩;rw[YAB,Zkn (λy:AE×Q11×Nat=>!decide (Wd l r.l m<y.2.2)),<-ek]at l5;have kl:k<=rs.length:=by rw[ek];exact YAx _ _
   have pr5:=s5 _ _ pr4;refine⟨.inl ⟨rfl,_,.mk pr5⟩,_,_,rfl,.inl ⟨_,.mk e5,rfl⟩,sz 2 (by decide),im.of λt6 H6 s6 n6 e6=>?_⟩;have pr6:=s6 _ _ pr5;rw[l5];refine⟨pr,_,k,_,rfl,rfl,pr6,by rw[YAB];exact kl,by rw[YAB];lia,_,_,_,_,_,rfl,?_,?_,?_,Zao,⟨rs.take k++[(t6,r.n,Wd l r.l m)]++rs.drop k,?_,rfl,?_⟩,?_,?_⟩
   .exact λb o e z=>by rw[Zak (Zag e n1)];exact s6 _ _ (s5 _ _ (s4 _ _ (s3 _ _ e z) z))
   .exact(tk4.same (s5.trans s6)).upd pr6 rfl rfl
   .rw[Zak npn];exact s6 _ _ (s5 _ _ (s4 _ _ en3 rfl))
   .rw[YAr,YAr,List.map_take,List.map_drop];rfl
   .have up:∀b vs,H6 b=some (.tup vs)->upd H6 pr (.lst ((rs.map λr=>V.ref r.1).take k++[.ref t6]++(rs.map λr=>V.ref r.1).drop k)) b=some (.tup vs):=λb vs e=>by rw[Zak (λz=>by rw[z,pr6]at e;cases e)];exact e
    intro y hy;rcases YAW.mp hy with z | z
    .rcases YAW.mp z with z | z
     .exact(ha4 y (YAa z)).ext λb vs e=>up _ _ (s6 _ _ (k5 _ _ e))
     .rw[YAI.mp z];exact⟨t,up _ _ e6,up _ _ (s6 _ _ (k5 _ _ e4))⟩
    .exact(ha4 y (YAh z)).ext λb vs e=>up _ _ (s6 _ _ (k5 _ _ e))
   .rw[YAr,YAr,List.map_take,List.map_drop];have ek2:k=((rs.map (·.2)).filter λy=>!decide (Wd l r.l m<y.2)).length:=by rw[ek,List.filter_map,YAB];rfl
    rw[ek2];refine Zme pw (λy hy py=>?_) (λy hy py=>?_)
    .obtain⟨r',hr',rfl⟩:=YAj.mp (pR.mem_iff.mp hy);have lt:r'.n<r.n:=by
      have h1:leT r'.n r.n=true:=by obtain⟨j,hj,e⟩:=YBX hr';rw[YAX]at hj;rw[List.getElem_take]at e;have:=YCC.mp srt j i (by rw[YAB];lia) (by rw[YAB];exact hi) ∅;rw[List.getElem_map,List.getElem_map,e,(YAN.mp hr).2]at this;exact this
      have ne:r'.n≠r.n:=λe=>by have:=ZhN ndF (i:=i) (n:=r.n) (by rw[YAK,hr];rfl);rw[<-e,<-List.map_take]at this;exact this (YBE hr')
      rcases List.le_iff_lt_or_eq.mp (Zbo.mp h1) with z | z
      .exact z
      .exact absurd z ne
     have w1:¬Wd l r.l m<Wd l r'.l m:=by simpa using py
     rcases Nat.lt_or_eq_of_le (Nat.le_of_not_lt w1) with z | z
     .exact .inl z
     .exact .inr ⟨z,lt⟩
    .exact .inl (~~~py)
   .rw[YAr,YAr,List.map_take,List.map_drop];refine(Zlm _ _ _).trans ?_;rw[YDX,hr];show (rs.map (·.2)++[(r.n,Wd l r.l m)]).Perm ((F'.take i++[r]).map _);rw[YAr];exact pR.append_right _
 .rintro U H3 ⟨v3,v4,v5,zs,R,rfl,s3,tk3,en3,e3,ra,pw,pR⟩;rw[YAB,YAB,YCK]at pR;walk_at "k";exact q pr zs R H3 s3 tk3 (Nw.of n1) e3 ra ⟨pw,pR.trans (pm.map _)⟩
def Zpb:gy P w K mg base CX0 6 a.b9 a.dw ["self"] (sp_KL K a):=by
 refine T.d0.u.ok Zov (λAu A outer s H vs Q E hr h=>?_);obtain⟨p,la,da,l,m,ds,rfl,hp,q⟩:=h;refine⟨_,(Zab (Zaq (i:=1) Zov.nd (Zdh T.bA (Zpd T) (hM hr) rfl T.m_L2 T.eT.b .nil Zan (Zaa (Zaz (K:=K) rfl (pv 0) rfl) Zac)))
  (Zad (Zab (Zcq (pv 1) (Zaz (K:=K) rfl (pv 0) rfl) rfl)
  (Zad (Zab (Zcq (pv 1) (Za1 (ZbI (K:=K) rfl) rfl T.fC ZcQ (Zaa (Zaz (K:=K) rfl (pv 0) rfl) Zac)) rfl)
  (Zad (Zab (Zcq (pv 1) (Za1 (ZbI (K:=K) rfl) rfl T.fC ZcQ (Zaa (Zaz (K:=K) rfl (pv 0) rfl) Zac)) rfl)
  (Zad (Zaf (Zaw (pv 1))))))))))),?_⟩
 obtain⟨⟨dx,f⟩,hk,⟨ts,d1,d2⟩,run,ok,nld⟩:=id hp;walk_at "rd";refine⟨p,_,dx,_,_,rfl,f,T.ac,T.ag,Zcm,λx dx2 nx ndx ne=>?_⟩;refine⟨x,dx2,m,rfl,Zao,ZjN ok,λla2 da2 H2 at2 nla nda k2=>⟨rfl,?_⟩⟩;have s2:gp H H2:=λb o e=>k2 b o (by rw[Zak (Zag e nx),Zak (Zag e ndx)];exact e) (Zag e nx);obtain⟨dx3,f2⟩:=at2.fld;have npx:p≠x:=Zag f nx;walk_at "g";refine⟨p,_,dx,_,_,rfl,s2 _ _ f,T.ac,T.aa,Zbm,x,_,dx3,_,rfl,f2,T.ac,T.aa,(by show 4<1000;decide),?_⟩;rw[show gM (Str.ofString "own_text") (tx l) (sF [] m la2 da2)=sF l m la2 da2 from Zjd];have s3:gp H (upd H2 x (.ins a.c_L2 dx3 (sF l m la2 da2))):=g0 s2 nx;have f3:upd H2 x (.ins a.c_L2 dx3 (sF l m la2 da2)) x=some (.ins a.c_L2 dx3 (sF l m la2 da2)):=Zao;generalize upd H2 x (.ins a.c_L2 dx3 (sF l m la2 da2))=H3 at s3 f3;walk_at "g";refine⟨p,_,dx,_,_,rfl,s3 _ _ f,T.ac,T.af,ZdH,la,_,rfl,.inl (.mk (s3 _ _ hk)),λl4 n4=>?_⟩;have s4:gp H3 (upd H3 l4 (.lst ((Zas l m).map tx))):=Zav n4;have e4:upd H3 l4 (.lst ((Zas l m).map tx)) l4=some (.lst ((Zas l m).map tx)):=Zao;generalize upd H3 l4 (.lst ((Zas l m).map tx))=H4 at s4 e4;have nx4:x≠l4:=Zag f3 n4;refine⟨x,_,dx3,_,rfl,s4 _ _ f3,T.ac,T.af,(by show 4<1000;decide),?_⟩;rw[show gM (Str.ofString "own_lacking") (.ref l4) (sF l m la2 da2)=sF l m l4 da2 from Zje];have s5:gp H (upd H4 x (.ins a.c_L2 dx3 (sF l m l4 da2))):=g0 (s3.trans s4) nx;have f5:upd H4 x (.ins a.c_L2 dx3 (sF l m l4 da2)) x=some (.ins a.c_L2 dx3 (sF l m l4 da2)):=Zao;have e5:upd H4 x (.ins a.c_L2 dx3 (sF l m l4 da2)) l4=some (.lst ((Zas l m).map tx)):=by rw[Zak (YBW nx4)];exact e4
 generalize upd H4 x (.ins a.c_L2 dx3 (sF l m l4 da2))=H5 at s5 f5 e5;walk_at "g";refine⟨p,_,dx,_,_,rfl,s5 _ _ f,T.ac,T.ad,ZbL,da,_,rfl,.inl (.mk (s5 _ _ d1)),λl6 n6=>?_⟩;have s6:gp H5 (upd H5 l6 (.lst ts)):=Zav n6;have e6:upd H5 l6 (.lst ts) l6=some (.lst ts):=Zao;generalize upd H5 l6 (.lst ts)=H6 at s6 e6;have nx6:x≠l6:=Zag f5 n6;have n46:l4≠l6:=Zag e5 n6;refine⟨x,_,dx3,_,rfl,s6 _ _ f5,T.ac,T.ad,(by show 4<1000;decide),?_⟩;rw[show gM (Str.ofString "own_deeds") (.ref l6) (sF l m l4 da2)=sF l m l4 l6 from ZkO];walk_at "g";have s7:gp H (upd H6 x (.ins a.c_L2 dx3 (sF l m l4 l6))):=g0 (s5.trans s6) nx;refine q x l4 l6 _ s7 ⟨⟨dx3,Zao⟩,?_,⟨ts,?_,d2.chg s7.chg (S:=[]) (by simp)⟩,run,ok,n46⟩ nx (s3.free n4) (s5.free n6)
 .rw[Zak (YBW nx4)];exact s6 _ _ e5
 .rw[Zak (YBW nx6)];exact e6
def Zo5:gy P w K mg base CX0 7 a.bO a.cS ["self","name","strip"] (sp_LB K a):=by
 refine T.fk.u.ok Zqt (λAu A outer s H vs Q E hr h=>?_);have hu1:=ZaE hr;obtain⟨p,dA,q_,la,da,l,m,n,ds,F,rfl,hp,hs,hn,nf,hF,q⟩:=h;refine⟨_,(Zab (ZaK (ZaO (pv 0) T.aG T.cn (Zrz T) (hM hr) T.dU.b .nil Zan (Zaa (pv 1) Zac)))
  (Zad (Zab (ZaK (Zal (Zm9 T) (hM hr) rfl T.dN Zan (Zaa (pv 0) (Zaa (pv 2) Zac))))
  (Zad (Zaf (Zjm hu1 (Zaz (K:=K) rfl (pv 0) rfl) (pv 1) (Zay (pv 2) T.ac T.bF (Zpb T) (hM hr) T.d0.b .nil Zan) rfl)))))),?_⟩
 obtain⟨dx,f⟩:=hp.fld;obtain⟨dy,g⟩:=id hs.fld;walk_at "rd";refine⟨p,dx,_,rfl,f,shN,p,dA,m,F,n,rfl,hp,hn,nf,λH1 s1=>?_⟩;have hs1:=hs.same s1;walk_at "h";refine⟨p,q_,m,rfl,.inr ⟨dA,F,hp.same s1⟩,.inl ⟨l,.inr ⟨la,da,ds,hs1⟩⟩,?_⟩;walk_at "h";refine⟨q_,dy,_,rfl,s1 _ _ g,sN,q_,la,da,l,m,ds,rfl,hs1,λp2 la2 da2 H2 s2 st2 n1 n2 n3=>?_⟩;have s12:=s1.trans s2;obtain⟨k1,k2⟩:=hp.lay (r:=⟨n,p2,la2,da2,l,ds⟩) s12 st2 hn nf;exact⟨p,_,dx,_,_,rfl,s12 _ _ f,T.aG,T.ae,shS,dA,_,rfl,.inl ⟨_,kTx n,s12 _ _ hp.dct,rfl,by rw[Zpx];exact YCc hF (by rw[sizeLine_eq];decide),rfl⟩,q ⟨n,p2,la2,da2,l,ds⟩ _ rfl rfl rfl (s1.free n1) (s1.free n2) (s1.free n3) k2 k1⟩
def Zru:gy P w K mg base CX0 7 a.bR a.cV ["self","name"] (sp_KP K a):=by refine T.fq.u.ok ZqF (λAu A outer s H vs Q E hr h=>?_);obtain⟨p,dA,m,F,r,rfl,hp,hrF,q⟩:=h;refine⟨_,(Zaf (Zaw (Zay (ZaO (pv 0) T.aG T.bv (Zpg T) (hM hr) T.eS.b .nil Zan (Zaa (pv 1) Zac)) T.ac T.bF (Zpb T) (hM hr) T.d0.b .nil Zan))),?_⟩;obtain⟨dx,f⟩:=hp.fld;walk_at "rd";refine⟨p,dx,_,rfl,f,shN,p,dA,m,F,r,rfl,hp,hrF,λH1 s1=>?_⟩;have st:=(hp.str r hrF).same s1;obtain⟨dy,g⟩:=id st.fld;exact⟨r.p,dy,_,rfl,g,sN,r.p,r.la,r.da,r.l,m,r.ds,rfl,st,λp2 la2 da2 H2 s2 st2 n1 n2 n3=>q p2 la2 da2 H2 (s1.trans s2) st2 (s1.free n1) (s1.free n2) (s1.free n3)⟩
def Zre:gy P w K mg base CX0 8 a.f_LQ a.d_LQ ["_law_walks","_law_kinds_here","_law_names"] (sp_LQ K a):=by
 refine T.fJ.u.ok Zet (λAu A outer s H vs Q E hr h=>?_);have Ax:=hr.units;obtain⟨b,b1,b2,b3,p,q_,la,da,lb,db,s1_,s2,m,d1,d2,i1,n1,i2,n2,N,rfl,hb,hb1,hb2,st1,st2,l1,l2,dl1,dl2,h3,hN,ndN,inN,tk,q⟩:=h;refine⟨_,(Zab (Zaq (i:=3) Zet.nd (Zdh T.cj (Zrp T) (hM hr) rfl T.m_L1 T.fM.b .nil Zan (Zaa (pv 1) Zac)))
  (Zad (Zab (Zbv YBB rfl (Zbw rfl T.dO (Zaa Zae Zac)) (ZaA (i:=4) Zet.nd rfl (Or.inl rfl))
  (Zad (Zab (ZaK (ZaO (pv 3) T.aG T.br (Zo5 T) (hM hr) T.fk.b .nil Zan (Zaa (ZaH (ZaC (K:=K) rfl) (pv 2) (pv 4) (λ_ _=>rfl)) (Zaa (ZaH (ZaC (K:=K) rfl) (ZaH (ZaC (K:=K) rfl) (pv 0) (pv 4) (λ_ _=>rfl)) Zae (λ_ _=>rfl)) Zac))))
  (Zad (Zab (ZaK (ZaO (pv 3) T.aG T.br (Zo5 T) (hM hr) T.fk.b .nil Zan (Zaa (ZaH (ZaC (K:=K) rfl) (pv 2) (Zar ZaT (pv 4) Zae) (λ_ _=>rfl)) (Zaa (ZaH (ZaC (K:=K) rfl) (ZaH (ZaC (K:=K) rfl) (pv 0) (pv 4) (λ_ _=>rfl)) Zae (λ_ _=>rfl)) Zac))))
  (Zad (Zaf (ZaK (ZaO (pv 3) T.aG T.cu (Zrk T) (hM hr) T.fS.b .nil Zan (Zaa (ZaH (ZaC (K:=K) rfl) (pv 2) (Zar ZaT (pv 4) Zae) (λ_ _=>rfl)) (Zaa (ZaH Zge (pv 1) (Zar Za2 (pv 4) (Zat (Zax (K:=K) rfl) rfl T.dD ZaV (Zaa (pv 1) Zac))) (λ_ _=>rfl)) Zac)))))))))))
  (Zad (Zab (Zaq (i:=5) Zet.nd (ZaH (ZaC (K:=K) rfl) (ZaH (ZaC (K:=K) rfl) (pv 0) Zae (λ_ _=>rfl)) Zae (λ_ _=>rfl)))
  (Zad (Zab (Zaq (i:=6) Zet.nd (ZbZ Zac))
  (Zad (Zab (Zbv YBB rfl (ZaP (K:=K) rfl (Zay (pv 3) T.aG T.bt (Zo9 T) (hM hr) T.eG.b .nil Zan)) (ZaA (i:=7) Zet.nd rfl (Or.inl rfl))
  (Zad (Zab (Zaq (i:=8) Zet.nd (Zdh T.bq (Zo8 T) (hM hr) rfl T.m_L0 T.eQ.b .nil Zan (Zaa (Zay (ZaO (pv 3) T.aG T.cq (Zru T) (hM hr) T.fq.b .nil Zan (Zaa (pv 7) Zac)) T.ac T.ay (Zm7 T) (hM hr) T.eK.b .nil Zan) (Zaa (pv 1) Zac))))
  (Zad (Zaf (ZaK (Zfh YBV YCJ YCI ZbO (pv 6) (Zaa (Zbx (Zaa (Zal (Zo4 T) (hM hr) rfl T.d8 Zan (Zaa (pv 8) (Zaa (Zdh T.bq (Zo8 T) (hM hr) rfl T.m_L0 T.eQ.b .nil Zan (Zaa (Zay (pv 5) T.ac T.ay (Zm7 T) (hM hr) T.eK.b .nil Zan) (Zaa (pv 1) Zac))) Zac))) (Zaa (pv 7) Zac))) Zac))))))))
  (Zad (Zab (Zaq (i:=9) Zet.nd (ZaO (pv 3) T.aG T.cz (Zrw T) (hM hr) T.fh.b .nil Zan (Zaa (pv 5) Zac)))
  (Zad (Zab (Zbp (PW.pt (Zim (ZaB (ZbT (K:=K) rfl Ax) (Zat (Zb5 rfl) rfl T.dL ZbD (Zaa (ZbM (N:=["_law_near","_law_name"]) (ix:=[none,none]) rfl (Za4 rfl) rfl (ZaP (K:=K) rfl (pv 6)) (λ_ _ _ _=>(ZmX (K:=K) 2 rfl rfl (Zb9 (ZaA (i:=0) (show (["_law_near","_law_name"]:AK).Nodup from by decide +kernel) rfl (Or.inl rfl) (Or.inr rfl)) (Zb9 (ZaA (i:=1) (show (["_law_near","_law_name"]:AK).Nodup from by decide +kernel) rfl (Or.inl rfl) (Or.inr rfl)) ZgW)))) (λ_ _ _ _=>Zbz) (λ_ _ _ _=>(Zbx (Zaa (pv 1) (Zaa (pv 0) Zac))))) Zac)) (Zat (Zb5 rfl) rfl T.dL ZbD (Zaa (pv 9) Zac)) (ZaJ _)) (ZeJ (ZaB (ZbT (K:=K) rfl Ax) (ZaH (ZaS (K:=K) rfl) (ZaH (ZaC (K:=K) rfl) (pv 9) Zae (λ_ _=>rfl)) Zae (λ_ _=>rfl)) (Zbx (Zaa Zae (Zaa Zae Zac))) (ZaJ _))))) (Zad (Zaf (Zaw Zev))) ZaG)
  (Zad (Zab (Zbv YBB rfl (ZkX (K:=K) rfl rfl T.gj (Zaa (pv 9) (Zaa (ZaL (Zhv (K:=K) rfl) (pv 9) (ZaQ Zae) Za5) Zac))) (Zl3 rfl (Zb9 (ZaA (i:=10) Zet.nd rfl (Or.inl rfl)) (Zb9 (ZaA (i:=11) Zet.nd rfl (Or.inl rfl)) ZgW)))
  (Zad (Zaf (Zbp (PW.pt (Zim (Zcp (Zal (Zo7 T) (hM hr) rfl T.fT Zan (Zaa (ZaH (ZaS (K:=K) rfl) (pv 11) Zae (λ_ _=>rfl)) (Zaa (ZaH (ZaS (K:=K) rfl) (pv 10) Zae (λ_ _=>rfl)) Zac)))) (ZeJ (PW.pt (ZhF (ZaB (Zbe (K:=K) rfl Ax) (ZaH (ZaS (K:=K) rfl) (pv 10) Zae (λ_ _=>rfl)) (ZaH (ZaS (K:=K) rfl) (pv 11) Zae (λ_ _=>rfl)) (ZaJ _)) (Zfc (ZaB Zk2 (ZaH (ZaS (K:=K) rfl) (pv 10) Zae (λ_ _=>rfl)) (ZaH (ZaS (K:=K) rfl) (pv 11) Zae (λ_ _=>rfl)) (ZaJ _)))))))) (Zad (Zaf (Zaw Zev))) ZaG))))
  (Zad (Zaf (Zaw Zev)))))))))))))))))),?_⟩
 have kok:KOk m:=⟨st1.ok.k,st1.ok.m1,st1.ok.m4⟩;have m1:=kok.m1;have m4:=kok.m4;walk_at "rd";intro x dx np ndx ne;refine⟨x,dx,m,rfl,Zao,kok,λdA H1 sh1 nd1 k1=>⟨rfl,Zai ?_⟩⟩;have s1:gp H H1:=λb o e=>k1 b o (by rw[Zak (Zag e np),Zak (Zag e ndx)];exact e) (Zag e np);have ndA:=ZgZ np ndx nd1;walk_at "rd";refine⟨_,rfl,by decide,by decide,gH.range (λi U H'=>∃v4 F,U=[some (.ref b),some (tx m),some (.ref b3),some (.ref x),v4,none,none,none,none,none,none,none]/\gD a H' x dA m F/\gE H H'/\TT a H'/\F.length=2*i/\(∀r∈F,∃j,j<i/\(N[j]?=some r.n\/N[j+2]?=some r.n))/\(i=2->∃r∈F,r.l=s2)) ⟨none,[],rfl,sh1,s1.l,tk.same s1,rfl,λr hr=>(by cases hr),λe=>by cases e⟩ ?_ ?_⟩
 .rintro i U H2 hi ⟨v4,F,rfl,sh2,sl2,tk2,hF,hN2,_⟩;obtain⟨bk,pk,lk,dk,sk,dsk,ik,nk,hbk,hk,stk,lsk,ldk,esk⟩:∃(bk pk lk dk:AE) (sk:Q11) (dsk:List (Bool×Nat)) (ik nk:Int),atI [V.ref b1,.ref b2] (0+(i:Nat))=some (.ref bk)/\H bk=some (.lst [.ref pk,.int ik,.int nk])/\gq a.c_L2 H pk lk dk sk m dsk/\sk.length<=24/\dsk.length<=8000/\(i=1->sk=s2):=by
   match i,hi with
   | 0,_=>exact⟨b1,p,la,da,s1_,d1,i1,n1,rfl,hb1,st1,l1,dl1,λe=>by cases e⟩
   | 1,_=>exact⟨b2,q_,lb,db,s2,d2,i2,n2,rfl,hb2,st2,l2,dl2,λ_=>rfl⟩
  obtain⟨nA,eA⟩:∃nA,N[i]?=some nA:=⟨_,YAH ∅⟩;obtain⟨nB,eB⟩:∃nB,N[i+2]?=some nB:=⟨_,YAH ∅⟩;have inj:∀ {j k:Nat} {n:Q11},N[j]?=some n->N[k]?=some n->j=k:=λ{j k n} e1 e2=>by obtain⟨h1,e1⟩:=YAN.mp e1;obtain⟨h2,e2⟩:=YAN.mp e2;exact(List.getElem_inj ndN).mp (e1.trans e2.symm)
  have fA:∀r∈F,r.n≠nA:=λr hr e=>by obtain⟨j,hj,z⟩:=hN2 r hr;rw[e]at z;rcases z with z | z<;>have:=inj z eA<;>lia
  have fB:∀r∈F,r.n≠nB:=λr hr e=>by obtain⟨j,hj,z⟩:=hN2 r hr;rw[e]at z;rcases z with z | z<;>have:=inj z eB<;>lia
  have nAB:nA≠nB:=λe=>by rw[e]at eA;have:=inj eA eB;lia
  have e0:(0+(i:Int))=(i:Nat):=by lia
  have e2:(0+(i:Int)+2)=((i+2:Nat):Int):=by lia
  have aA:atI (N.map tx) (0+(i:Int))=some (tx nA):=by rw[e0];exact Zcx (by rw[YAK,eA];rfl)
  have aB:atI (N.map tx) (0+(i:Int)+2)=some (tx nB):=by rw[e2];exact Zcx (by rw[YAK,eB];rfl)
  obtain⟨dx2,f2⟩:=sh2.fld;walk_at "k";refine⟨x,dx2,_,rfl,f2,shN,b3,_,_,_,rfl,rfl,.mk (sl2 _ _ h3 rfl),aA,b,_,_,_,rfl,rfl,.mk (sl2 _ _ hb rfl),hbk,bk,_,_,_,rfl,rfl,.mk (sl2 _ _ hk rfl),rfl,x,dA,pk,lk,dk,sk,m,nA,dsk,F,rfl,sh2,stk.l sl2,inN _ (YAb eA),fA,∅,λrA H3 en3 el3 ed3 np3 nl3 nd3 kb3 sh3=>Zai ?_⟩;have sl3:=jQ sl2 kb3 ndA;have tk3:=kb3.tt tk2 sh2.dct;obtain⟨dx3,f3⟩:=sh3.fld;walk_at "rd";refine⟨x,dx3,_,rfl,f3,shN,b3,_,_,_,rfl,rfl,.mk (sl3 _ _ h3 rfl),aB,b,_,_,_,rfl,rfl,.mk (sl3 _ _ hb rfl),hbk,bk,_,_,_,rfl,rfl,.mk (sl3 _ _ hk rfl),rfl,x,dA,pk,lk,dk,sk,m,nB,dsk,_,rfl,sh3,stk.l sl3,inN _ (YAb eB),λr hr=>?_,by rw[YAF];exact YDK ∅,λrB H4 en4 el4 ed4 np4 nl4 nd4 kb4 sh4=>Zai ?_⟩
  .rcases YAW.mp hr with z | z
   .exact fB r z
   .rw[YAI.mp z,en3];exact nAB
  have sl4:=jQ sl3 kb4 ndA;have tk4:=kb4.tt tk3 sh3.dct;obtain⟨dx4,f4⟩:=sh4.fld;obtain⟨c0,hc0,mc0⟩:=Zku (xs:=m) (i:=(0+(i:Int)) % m.length) (YBR _ ∅) (YBT _ ∅);walk_at "rd";refine⟨x,dx4,_,rfl,f4,shN,b3,_,_,_,rfl,rfl,.mk (sl4 _ _ h3 rfl),aB,_,_,rfl,Zbr ∅,∅,m,_,c0,rfl,rfl,sz _ ∅,hc0,x,dA,m,_,rB,c0,by rw[en4],sh4,by simp,tk4,by rw[ed4];lia,mc0,by rw[el4];lia,λt5 c5 g5 la5 H5 q1 q2 q3 q4=>?_⟩;refine⟨_,_,rfl,Zni sh3 np4 nd4 sh4 q1 q2,λbb o e t=>q1 _ _ (sl4 _ _ e t) ?_ t,q4,by rw[YAF,YAF,hF];rfl,λr hr=>?_,λe=>⟨rA,by simp,by rw[el3];exact esk ∅⟩⟩
  .simp only[YAJ,YBF,or_false,not_or];exact⟨Zag (sl3 _ _ e t) np4,Zag (sl3 _ _ e t) nd4⟩
  .rcases YAW.mp hr with z | z
   .rcases YAW.mp z with z | z
    .obtain⟨j,hj,y⟩:=hN2 r z;exact⟨j,YBy hj,y⟩
    .rw[YAI.mp z,en3];exact⟨i,YDL _,.inl eA⟩
   .rw[YAI.mp z];exact⟨i,YDL _,.inr (by rw[en4];exact eB)⟩
 .rintro U H2 ⟨v4,F,rfl,sh2,sl2,tk2,hF,hN2,hs2⟩;walk_at "k";refine⟨b,_,1,_,rfl,rfl,.mk (sl2 _ _ hb rfl),rfl,b2,_,0,_,rfl,rfl,.mk (sl2 _ _ hb2 rfl),rfl,?_⟩;walk_at "h";refine⟨YBC _,gU.of λrr H3 s3 n3 e3=>?_⟩;show Za9 _ _ _ _;refine Zai ?_;have sh3:=sh2.same s3;obtain⟨dx3,f3⟩:=sh3.fld;walk_at "rd";refine⟨x,dx3,_,rfl,f3,shN,x,dA,m,F,rfl,sh3,∅,λrn H4 s4 n4 e4=>?_⟩;have s24:gp H2 H4:=s3.trans s4;have nrr:∀ {b o},H2 b=some o->b≠rr:=λe=>Zag e n3;refine⟨rn,rfl,⟨_,.mk e4⟩,gH.list (xs:=(Zbn (F.map (·.n))).map tx) (λi U H'=>∃(v7 v8:Option V) (rs:List Ent),U=[some (.ref b),some (tx m),some (.ref b3),some (.ref x),v4,some (.ref q_),some (.ref rr),v7,v8,none,none,none]/\gE H2 H'/\TT a H'/\H' rn=some (.lst ((Zbn (F.map (·.n))).map tx))/\H' rr=some (.lst (rs.map λr=>.ref r.1))/\rs.map (·.2.1)=(Zbn (F.map (·.n))).take i/\∀r∈rs,RowB H' r/\∃k∈F,k.n=r.2.1/\r.2.2.1=Wd k.l s2 m) ⟨_,_,[],rfl,s24.l,tk2.same s24,e4,s4 _ _ e3,rfl,λr hr=>by cases hr⟩ (λi U H' _ ⟨_,_,_,_,_,_,e,_⟩=>.mk e) ?_ ?_⟩
  .rintro i v U H5 hv ⟨v7,v8,rs,rfl,sl5,tk5,en5,er5,hn5,hr5⟩;rw[YAK]at hv;obtain⟨n,hn,rfl⟩:=YBb.mp hv;obtain⟨k,kF,rfl⟩:=YAj.mp ((ZaD _).mem_iff.mp (YAb hn));have sh5:=sh2.l sl5;obtain⟨dx5,f5⟩:=sh5.fld;walk_at "k";refine⟨x,dx5,_,rfl,f5,shN,x,dA,m,F,k,rfl,sh5,kF,λp6 la6 da6 H6 s6 st6 _ _ _=>?_⟩;obtain⟨dx6,f6⟩:=id st6.fld;refine⟨p6,dx6,_,rfl,f6,sN,p6,la6,da6,k.l,m,k.ds,rfl,st6,λy dy ny ndy ney=>⟨y,dy,k.l,m,rfl,Zao,ZaW st6,λH7 rg7 k7=>⟨rfl,Zai ?_⟩⟩⟩;have s7:gp H6 H7:=λb o e=>k7 b o (by rw[Zak (Zag e ny),Zak (Zag e ndy)];exact e) (Zag e ny);have s57:=s6.trans s7;have sl7:=sl5.trans s57.l;have st7:=st2.l (sl2.trans sl7);obtain⟨dx7,f7⟩:=id st7.fld;have er7:=s57 _ _ er5;walk_at "rd";refine⟨.inl ⟨rfl,_,.mk er7⟩,q_,dx7,_,rfl,f7,sN,q_,lb,db,s2,m,d2,rfl,st7,λz dz nz ndz nez=>⟨z,dz,s2,m,rfl,Zao,ZaW st7,λH8 rg8 k8=>⟨rfl,?_⟩⟩⟩;have s8:gp H7 H8:=λb o e=>k8 b o (by rw[Zak (Zag e nz),Zak (Zag e ndz)];exact e) (Zag e nz);refine⟨y,z,k.l,s2,m,rfl,.inl (rg7.same s8),.inl rg8,tk5.same (s57.trans s8),ZaW st6,ZaW st7,λu H9 s9 tk9 e9=>⟨sz 2 (by decide),im.of λt H10 s10 n10 e10=>?_⟩⟩;have sl10:gE H5 H10:=(s57.trans s8).l.trans (s9.trans s10.l);have er10:=sl10 _ _ er5 rfl;have up:∀ {o:HO} {bb:AE} {vs:List V},H10 bb=some (.tup vs)->upd H10 rr o bb=some (.tup vs):=λ{o bb vs} e=>by rw[Zak (λw=>by rw[w,er10]at e;cases e)];exact e
   refine⟨rr,_,_,rfl,rfl,er10,?_,_,_,rs++[(t,k.n,Wd k.l s2 m,u)],rfl,λbb o e w=>?_,(tk9.same s10).upd er10 rfl rfl,?_,?_,?_,λr hr=>?_⟩
   .rw[YAB];have:=congrArg List.length hn5;rw[YAB,YAX,(ZaD _).length_eq,YAB]at this;exact YCc (show _<=4 by lia) (by rw[sizeLine_eq];decide)
   .rw[Zak (nrr e)];exact sl10 _ _ (sl5 _ _ e w) w
   .rw[Zak (YBW (Zag e3 n4))];exact sl10 _ _ en5 rfl
   .rw[Zao,YAr];rfl
   .rw[YAr,hn5,YDX,hn];rfl
   .rcases YAW.mp hr with w | w
    .exact⟨⟨up (sl10 _ _ (hr5 r w).1.1 rfl),up (sl10 _ _ (hr5 r w).1.2 rfl)⟩,(hr5 r w).2⟩
    .rw[YAI.mp w];exact⟨⟨up e10,up (s10 _ _ e9)⟩,k,kF,rfl,rfl⟩
  .rintro U H5 ⟨v7,v8,rs,rfl,sl5,tk5,en5,er5,hn5,hr5⟩;walk_at "rd?";refine Zai ?_;have sh5:=sh2.l sl5;obtain⟨dx5,f5⟩:=sh5.fld;have st5:=st2.l (sl2.trans sl5);rw[YAB,YAq (YAT _)]at hn5;walk_at "rd";refine⟨x,dx5,_,rfl,f5,shN,x,q_,dA,s2,m,F,rfl,sh5,.inr ⟨_,_,_,st5⟩,ZaW st5,∅,tk5,λtf zf R H6 s6 tk6 n6 e6 ra ro=>?_⟩;walk_at "h";have hr6:∀r∈rs,RowB H6 r:=λr h=>⟨s6 _ _ (hr5 r h).1.1 rfl,s6 _ _ (hr5 r h).1.2 rfl⟩;have lrs:rs.length=4:=by
    have:=congrArg List.length hn5;rw[YAB,(ZaD _).length_eq,YAB]at this
    lia
   have er6:=s6 _ _ er5 rfl;have gd:∀ {j:Nat},j<rs.length->rs[j]?=some (rs.getD j (0,[],0,0)):=λh=>by rw[YAQ,YAH h];rfl
   refine⟨rr,rfl,⟨_,.mk er6⟩,gu.pairsD (λj=>.ref (rs.getD j (0,[],0,0)).2.2.2) (λj=>tx (rs.getD j (0,[],0,0)).2.1) (λH' y j=>∃t,y=.ref t/\H' t=some (.tup [tx (rs.getD j (0,[],0,0)).2.1,.ref (rs.getD j (0,[],0,0)).2.2.2])) (λ_ _ _ _ k ⟨t,e,h⟩=>⟨t,e,k _ _ h⟩) (by rw[YAB];lia) (.mk er6) (λj hj=>?_) (λj H7 Q7 hj s7 q7=>?_) (λg ys H7 s7 n7 e7 l7 h7=>?_)⟩
   .rw[YAB]at hj;exact⟨_,by rw[YAK,gd hj];rfl,(hr6 _ (YAb (gd hj))).1⟩
   .walk_at "rd";exact⟨sz 2 (by decide),im.of λt H8 s8 n8 e8=>q7 _ _ s8 ⟨t,rfl,e8⟩⟩
   obtain⟨es1,rfl,ews,he1⟩:=ZgU (ys:=ys) (ws:=rs.map (·.2)) (P:=λt w=>H7 t=some (.tup [tx w.1,.ref w.2.2])) (by rw[l7,YAB,YAB]) λj y hy=>by
    obtain⟨t,e,h⟩:=h7 j y hy;have hj:j<rs.length:=by have:=(YAN.mp hy).1;rw[l7,YAB]at this;exact this
    exact⟨t,_,e,by rw[YAK,gd hj];rfl,h⟩
   have re1:∀e∈es1,jT H7 e:=λe h=>⟨he1 e h,by
    have k:e.2∈rs.map (·.2):=by rw[ews];exact YBE h
    obtain⟨r,hr,ek⟩:=YAj.mp k;rw[<-ek];exact s7 _ _ (hr6 r hr).2⟩
   have en1:es1.map (·.2.1)=Zbn (F.map (·.n)):=by have:=congrArg (List.map Prod.fst) ews;rw[YAw,YAw]at this;rw[<-hn5];exact this.symm
   have ndF:(Zbn (F.map (·.n))).Nodup:=(ZaD _).nodup_iff.mpr sh2.nd;have l1e:es1.length=4:=by
    have:=congrArg List.length ews;rw[YAB,YAB]at this
    lia
   refine srtE e7 re1 (by rw[en1];exact ndF) ∅ λes3 g3 H8 pm3 pw3 s8 n8 e8=>?_;obtain⟨es2,rfl,eR,re2⟩:=ZkT ra;have s78:=s7.trans s8;have re2':∀ {H':Hp},gp H6 H'->∀e∈es2,jT H' e:=λs e h=>⟨s _ _ (re2 e h).1,s _ _ (re2 e h).2⟩;have inF:∀e∈es2,∃k∈F,k.n=e.2.1/\e.2.2.1=Wd s2 k.l m:=λe h=>by have k:=ro.2.mem_iff.mp (by rw[eR];exact YBE (f:=enR) h);obtain⟨k,kF,ek⟩:=YAj.mp k;injection ek with e1 e2;exact⟨k,kF,e1,e2.symm⟩
   have pn2:(es2.map (·.2.1)).Perm (F.map (·.n)):=by have:=ro.2.map Prod.fst;rw[eR,YAw,YAw]at this;exact this
   have l2e:es2.length=4:=by
    have:=pn2.length_eq;rw[YAB,YAB]at this
    lia
   refine srtE (s78 _ _ e6) (re2' s78) (pn2.nodup_iff.mpr sh2.nd) ∅ λes4 g4 H9 pm4 pw4 s9 n9 e9=>?_;have srt:∀ {es:List Ent},(es.map (·.2.1)).Perm (F.map (·.n))->es.Pairwise (λx y=>¬y.2.1<x.2.1)->es.map (·.2.1)=Zbn (F.map (·.n)):=λpm pw=>ZbW pm (by rw[YBG];exact pw.imp λh=>by unfold leT;rw[decide_eq_false h];rfl)
   have eE:es3.map enR=es4.map enR:=by
    refine ZeH (f:=λk=>Wd s2 k.l m) sh2.nd ((srt ((pm3.map _).trans (by rw[en1];exact ZaD _)) pw3).trans (srt ((pm4.map _).trans pn2) pw4).symm) (λe h=>?_) λe h=>inF e (pm4.mem_iff.mp h);have k:e.2∈rs.map (·.2):=by rw[ews];exact YBE (pm3.mem_iff.mp h)
    obtain⟨r,hr,ek⟩:=YAj.mp k;obtain⟨k,kF,a1,a2⟩:=(hr5 r hr).2;rw[<-ek];exact⟨k,kF,a1,a2.trans (Zn2 (ZaW (sh2.str k kF)) (ZaW st2))⟩
   refine .inr ⟨_,_,ZhD (.mk (s9 _ _ e8)) (Zh3 λe h=>?_),ZhD (.mk e9) (Zh3 λe h=>re2' (s78.trans s9) e (pm4.mem_iff.mp h)),λz=>YAE z.1,ZkV _,?_⟩
   .have:=re1 e (pm3.mem_iff.mp h);exact⟨s9 _ _ (s8 _ _ this.1),s9 _ _ (s8 _ _ this.2)⟩
   rw[YAS rfl,eE,ZkU];refine⟨false,rfl,gV ?_⟩;have s69:=s78.trans s9;have e69:=s69 _ _ e6;have lt2:(es2.map enR).Pairwise ltR:=by rw[<-eR];exact ro.1
   obtain⟨e0,es5,rfl⟩:∃e0 es5,es2=e0::es5:=by
    cases es2 with
    | nil=>cases l2e
    | cons e0 es5=>exact⟨e0,es5,rfl⟩
   have r0:=re2' s69 e0 YAZ;obtain⟨w0,f0⟩:=ZnE (ZaW st2);have z0:e0.2.2.1=0:=by
    obtain⟨k,kF,ek⟩:=hs2 rfl;have hk:(k.n,Wd s2 k.l m)∈(e0::es5).map enR:=by rw[<-eR];exact ro.2.mem_iff.mpr (YAj.mpr ⟨k,kF,rfl⟩)
    rw[ek,w0,YAc]at hk;rw[YAc]at lt2;rcases YAJ.mp hk with y | y
    .have:=congrArg Prod.snd y;exact this.symm
    .rcases (YAz.mp lt2).1 _ y with z | z
     .exact absurd z (Nat.not_lt_zero _)
     .exact z.1
   have r1:=r0.2;rw[z0,f0]at r1;refine⟨tf,_,0,_,rfl,rfl,.mk e69,Zcx (j:=0) rfl,e0.1,_,1,_,rfl,rfl,.mk r0.1,rfl,sz 2 (by decide),im.of λt H10 s10 n10 e10=>Zla (.mk (s10 _ _ r1)) (.mk e10) rfl ⟨false,rfl,gV ?_⟩⟩;show Za9 _ _ _ _;refine Zai ?_;have e610:=s10 _ _ e69;walk_at "rd";refine⟨1,rfl,tf,_,rfl,.mk e610,λt2 n11=>?_⟩;have ec:ju ((e0::es5).map λe=>V.ref e.1) (some 1) none=es5.map λe=>V.ref e.1:=ZcF _ 1;rw[ec];have re11:∀ {H':Hp},gp H10 H'->∀e∈e0::es5,jT H' e:=λs=>re2' ((s69.trans s10).trans s);refine⟨tf,t2,rfl,⟨_,.mk (Zav n11 _ _ e610)⟩,⟨_,.mk Zao⟩,gH.zipM (xs:=(e0::es5).map λe=>V.ref e.1) (ys:=es5.map λe=>V.ref e.1) (by rw[YAB,YAB];rfl) (λj U H'=>∃v10 v11:Option V,U=[some (.ref b),some (tx m),some (.ref b3),some (.ref x),v4,some (.ref q_),some (.ref rr),v7,v8,some (.ref tf),v10,v11]/\gp (upd H10 t2 (.lst (es5.map λe=>V.ref e.1))) H') ⟨_,_,rfl,gp.refl _⟩ (λj U H' _ ⟨_,_,_,s⟩=>⟨.mk (s _ _ (Zav n11 _ _ e610)),.mk (s _ _ Zao)⟩) ?_ ?_⟩
   .rintro j v1 v2 pp U H11 hv1 hv2 ⟨v10,v11,rfl,s11⟩ npp;rw[YAK]at hv1 hv2;obtain⟨a1,ha1,rfl⟩:=YBb.mp hv1;obtain⟨a2,ha2,rfl⟩:=YBb.mp hv2;have s12:gp H10 (upd H11 pp (.tup [.ref a1.1,.ref a2.1])):=((Zav n11).trans s11).trans (Zav npp);have q1:=re11 s12 a1 (YAb ha1);have q2:=re11 s12 a2 (YAO _ (YAb ha2));have bd:∀e∈e0::es5,e.2.2.1<=400*DD:=λe h=>by obtain⟨k,kF,_,z⟩:=inF e h;rw[z];exact Zn1 (ZaW st2) (ZaW (sh2.str k kF))
    have b1_:=bd a1 (YAb ha1);have b2_:=bd a2 (YAO _ (YAb ha2));have lt:ltR (enR a1) (enR a2):=by
     have h1:((e0::es5).map enR)[j]?=some (enR a1):=by rw[YAK,ha1];rfl
     have h2:((e0::es5).map enR)[j+1]?=some (enR a2):=by rw[YAK,YCP,ha2];rfl
     obtain⟨k1,h1⟩:=YAN.mp h1;obtain⟨k2,h2⟩:=YAN.mp h2;have:=YCC.mp lt2 j (j+1) k1 k2 (YDL _);rw[h1,h2]at this;exact this
    have nb:decide (a2.2.2.1<a1.2.2.1)=false:=decide_eq_false λz=>lt.elim (Nat.lt_asymm z) λy=>by have:a1.2.2.1=a2.2.2.1:=y.1;lia
    walk_at "rd";refine⟨pp,_,rfl,.mk Zao,rfl,_,_,rfl,_,_,rfl,rfl,Zai ?_⟩;walk_at "rd";have fin:=s11.trans (Zav (o:=.tup [.ref a1.1,.ref a2.1]) npp);refine⟨a2.1,_,1,_,rfl,rfl,.mk q2.1,rfl,a1.1,_,1,_,rfl,rfl,.mk q1.1,rfl,a2.2.2.2,a1.2.2.2,_,_,rfl,q2.2,q1.2,b2_,b1_,_,rfl,?_⟩;rw[nb];refine gV ⟨a1.1,_,1,_,rfl,rfl,.mk q1.1,rfl,a2.1,_,1,_,rfl,rfl,.mk q2.1,rfl,ZrI q1.2 q2.2 ⟨_,rfl,iz (λz=>⟨a1.1,_,0,_,rfl,rfl,.mk q1.1,rfl,a2.1,_,0,_,rfl,rfl,.mk q2.1,rfl,a1.2.1,a2.2.1,rfl,rfl,trivial,_,rfl,?_⟩) (λ_=>gV ⟨_,_,rfl,fin⟩)⟩⟩;have z:=of_decide_eq_true z;have hn:a1.2.1<a2.2.1:=lt.elim (λy=>absurd z (YAd y)) (·.2);rw[decide_eq_true hn];exact gV ⟨_,_,rfl,fin⟩
   .rintro U H11 ⟨v10,v11,rfl,s11⟩;walk_at "k";exact q _
def ok_law:gy P w K mg base CX0 9 a.f_law a.d_law ["_law_script"] (nO K tb):=by
 refine T.ge.u.ok Zcl (λAu A outer s H vs Q E hr h=>?_) (λvs H Q E h=>by obtain⟨_,_,rfl,_⟩:=h;rfl)
 .have Ax:=hr.units;obtain⟨b,ns,rfl,hS,hl,tk,tkM,q⟩:=h;refine⟨_,(Zad (Zab (ZcT (i:=1) Zcl.nd rfl (Or.inr rfl) (Zal (Zrc T) (hM hr) rfl T.fP Zan (Zaa (Zal (Zf0 T) (hM hr) rfl T.dQ Zan (Zaa (pv 0) (Zaa Zae Zac))) Zac)))
   (Zad (Zab (ZcT (i:=2) Zcl.nd rfl (Or.inr rfl) (Zal (Zrb T) (hM hr) rfl T.fQ Zan (Zaa (pv 0) (Zaa (pv 1) Zac))))
   (Zad (Zab (Zdg (i:=3) (N:=["_law_text","_law_kinds_here"]) (ix:=[none,some 1]) rfl Zcl.nd rfl rfl rfl (Za4 rfl) rfl (ZaP (K:=K) rfl (pv 2)) (λ_ _ _ _=>(ZaA (i:=0) (show (["_law_text","_law_kinds_here"]:AK).Nodup from by decide +kernel) rfl (Or.inl rfl) (Or.inr rfl))) (λ_ _ _ _=>Zbz) (λ_ _ _ _=>(Zdh T.cf (ZrA T) (hM hr) rfl T.m_MB T.fR.b .nil Zan (Zaa (pv 0) (Zaa (pv 1) Zac)))))
   (Zad (Zab (ZcT (i:=4) Zcl.nd rfl (Or.inr rfl) (Zat (Zkp rfl) rfl T.gh ZpY (Zaa (Zat (Zax (K:=K) rfl) rfl T.dD ZaV (Zaa (ZaH (ZaC (K:=K) rfl) (pv 2) Zae (λ_ _=>rfl)) Zac)) (Zaa (Zat (Zax (K:=K) rfl) rfl T.dD ZaV (Zaa (ZaH (ZaC (K:=K) rfl) (pv 2) Zae (λ_ _=>rfl)) Zac)) Zac))))
   (Zad (Zab (Zdg (i:=5) (N:=["_law_k","_law_kinds_here","_law_longest","_law_script","_law_texts"]) (ix:=[none,some 1,some 4,some 0,some 2]) rfl Zcl.nd rfl rfl rfl (Za4 rfl) rfl (Zbw rfl T.dO (Zaa Zae Zac)) (λ_ _ _ _=>(ZaA (i:=0) (show (["_law_k","_law_kinds_here","_law_longest","_law_script","_law_texts"]:AK).Nodup from by decide +kernel) rfl (Or.inl rfl) (Or.inr rfl))) (λ_ _ _ _=>Zbz) (λ_ _ _ _=>(Zal (Zrm T) (hM hr) rfl T.fZ Zan (Zaa (ZaH (ZaC (K:=K) rfl) (pv 4) (pv 0) (λ_ _=>rfl)) (Zaa (pv 1) (Zaa (Zal (Zf0 T) (hM hr) rfl T.dQ Zan (Zaa (pv 3) (Zaa (Zar ZaT Zae (pv 0)) Zac))) (Zaa (pv 2) Zac)))))))
   (Zad (Zab (Zbv YBB rfl (ZaP (K:=K) rfl (Zar Zjt (ZbZ (Zaa Zae Zac)) (ZaL (Zhv (K:=K) rfl) (pv 0) (ZaQ Zae) (ZaQ Zae)))) (ZaA (i:=6) Zcl.nd rfl (Or.inr rfl))
   (Zad (Zaf (Zbv YBB rfl (Zbw rfl T.dO (Zaa Zae Zac)) (ZaA (i:=7) Zcl.nd rfl (Or.inl rfl))
   (Zad (Zaf (Zbp (ZcS (Zcp (Zal (Zrf T) (hM hr) rfl T.fI Zan (Zaa (ZaH (ZaC (K:=K) rfl) (pv 5) (pv 7) (λ_ _=>rfl)) (Zaa (ZaH (ZaC (K:=K) rfl) (pv 2) (pv 7) (λ_ _=>rfl)) (Zaa (ZaH (ZaC (K:=K) rfl) (pv 3) (pv 7) (λ_ _=>rfl)) (Zaa (Zar Za6 (pv 6) (Zar ZaT (Zar ZcW Zae (pv 7)) Zae)) (Zaa (Zar ZaT (pv 4) Zae) Zac)))))))) (Zad (Zaf (Zaw Zev))) ZaG)))))))
   (Zad (Zab (Zdg (i:=8) (N:=["_law_row","_law_longest"]) (ix:=[none,some 4]) rfl Zcl.nd rfl rfl rfl (Za4 rfl) rfl (ZaP (K:=K) rfl (Zal (Zo0 T) (hM hr) rfl T.eX Zan (Zaa (ZaH (ZaC (K:=K) rfl) (ZaH (ZaC (K:=K) rfl) (pv 5) Zae (λ_ _=>rfl)) Zae (λ_ _=>rfl)) (Zaa (ZaH (ZaC (K:=K) rfl) (ZaH (ZaC (K:=K) rfl) (pv 5) Zae (λ_ _=>rfl)) Zae (λ_ _=>rfl)) Zac)))) (λ_ _ _ _=>(ZaA (i:=0) (show (["_law_row","_law_longest"]:AK).Nodup from by decide +kernel) rfl (Or.inl rfl) (Or.inr rfl))) (λ_ _ _ _=>(Zb8 (ZaB Zm3 (Zat (Zax (K:=K) rfl) rfl T.dD ZaV (Zaa (ZaH (ZaS (K:=K) rfl) (pv 0) Zae (λ_ _=>rfl)) Zac)) (Zar ZaT (pv 1) Zae) (ZaJ _)))) (λ_ _ _ _=>(pv 0)))
   (Zad (Zab (Zbp (ZaB (ZbT (K:=K) rfl Ax) (pv 8) (Zal (Zrd T) (hM hr) rfl T.fg Zan (Zaa (Zay (ZaH (ZaC (K:=K) rfl) (pv 3) Zae (λ_ _=>rfl)) T.ak T.aj (Ziq T) (hM hr) T.dG.b .nil Zan) (Zaa (Zay (ZaH (ZaC (K:=K) rfl) (pv 3) Zae (λ_ _=>rfl)) T.ak T.aj (Ziq T) (hM hr) T.dG.b .nil Zan) Zac))) (ZaJ _)) (Zad (Zaf (Zaw Zev))) ZaG)
   (Zad (Zab (Zbp (ZaB (ZbT (K:=K) rfl Ax) (ZbE (Zbe (K:=K) rfl Ax) (pv 8) (ZbZ Zac) (ZaJ _)) (ZbE (Zbe (K:=K) rfl Ax) (ZaH (ZaS (K:=K) rfl) (Zal (Zq7 T) (hM hr) rfl T.gc Zan (Zaa (ZaH (ZaC (K:=K) rfl) (pv 3) Zae (λ_ _=>rfl)) (Zaa (ZaH (ZaC (K:=K) rfl) (pv 3) Zae (λ_ _=>rfl)) Zac))) Zae (λ_ _=>rfl)) (Za0 (l:=[115,97,109,101]) (by decide +kernel)) (ZaJ _)) (ZaJ _)) (Zad (Zaf (Zaw Zev))) ZaG)
   (Zad (Zab (ZcT (i:=6) Zcl.nd rfl (Or.inr rfl) (Zal (Zf0 T) (hM hr) rfl T.dQ Zan (Zaa (pv 0) (Zaa Zae Zac))))
   (Zad (Zab (Zdg (i:=9) (N:=["_law_k","_law_cell_here"]) (ix:=[none,some 6]) rfl Zcl.nd rfl rfl rfl (Za4 rfl) rfl (Zbw rfl T.dO (Zaa Zae Zac)) (λ_ _ _ _=>(ZaA (i:=0) (show (["_law_k","_law_cell_here"]:AK).Nodup from by decide +kernel) rfl (Or.inl rfl) (Or.inr rfl))) (λ_ _ _ _=>Zbz) (λ_ _ _ _=>(ZaH (ZaC (K:=K) rfl) (ZbZ (Zaa (Za0 (l:=[98]) (by decide +kernel)) (Zaa (Za0 (l:=[98,97]) (by decide +kernel)) (Zaa (Za0 (l:=[97]) (by decide +kernel)) (Zaa (Za0 (l:=[99]) (by decide +kernel)) Zac))))) (Zar Za2 (Zar ZaT (pv 1) (Zar ZcW Zae (pv 0))) Zae) (λ_ _=>rfl))))
   (Zad (Zaf (Zaw (Zal (Zre T) (hM hr) rfl T.fJ Zan (Zaa (pv 5) (Zaa (pv 1) (Zaa (pv 9) Zac))))))))))))))))))))))))))))),?_⟩
  have hn63:=hl;rw[<-T.e_LJ]at tk;rw[<-T.e_LT]at tkM;have tt0:TT a H:=⟨tk,tkM⟩;clear tk tkM;walk_at "g";refine⟨b,ns,0,rfl,hS,by decide,by decide,λr0=>⟨_,rfl,λm mk m1 m4=>Zai ?_⟩⟩;have kok:KOk m:=⟨mk,m1,m4⟩;walk_at "rd";refine⟨b,ns,m,rfl,hS,kok,λt l l2 H1 s1 n1 e1 ok ok2 l8 l28=>Zai ?_⟩;have okk:∀k,k<2->gR ([l,l2].getD k []) m:=λk hk=>by
   match k,hk with
   | 0,_=>exact ok
   | 1,_=>exact ok2
  walk_at "rd";refine⟨t,rfl,⟨_,.mk e1⟩,gu.invL (xs:=[l,l2].map tx) (show 2<=100000 by decide) (λacc i ys H'=>gp H1 H'/\H' acc=some (.lst ys)/\∀(k:Nat) (y:V),ys[k]?=some y->∃p,y=.ref p/\gJ a.c_MB H' p ([l,l2].getD k []) m) (λacc i ys H' h=>.mk (h.1 _ _ e1)) (λacc na=>⟨Zav na,Zao,λk y h=>by simp at h⟩) ?_ ?_⟩
  .rintro acc i ys H2 Q2 na hi hl ⟨s2,e2,h2⟩ q2;rw[show ([l,l2].map tx).getD i V.non=tx ([l,l2].getD i []) from ZbP hi];walk_at "rd";intro x dx nx ndx _;refine⟨x,dx,_,m,rfl,Zao,okk i hi,λH3 rg3 k3=>⟨rfl,?_⟩⟩;have s3:gp H2 H3:=λb o e=>k3 b o (by rw[Zak (Zag e nx),Zak (Zag e ndx)];exact e) (Zag e nx);have kp:∀ {p L},gJ a.c_MB H3 p L m->gJ a.c_MB (upd H3 acc (.lst (ys++[.ref x]))) p L m:=λ⟨d,f⟩=>⟨d,by rw[Zak (λz=>by rw[z,s3 _ _ e2]at f;cases f)];exact f⟩;refine q2 _ _ (s3 _ _ e2) ⟨g0 (s2.trans s3) na,Zao,λk y h=>?_⟩;rcases YCy k ys.length with z | z | z
   .rw[YAm z]at h;obtain⟨p,e,r⟩:=h2 k y h;exact⟨p,e,kp (r.same s3)⟩
   .rw[z,List.getElem?_concat_length]at h;injection h with h;rw[z,hl];exact⟨x,h.symm,kp rg3⟩
   .rw[YAi (by rw[YAF,YAo];lia)]at h;cases h
  rintro rL ys H2 nrL hl ⟨s2,e2,h2⟩;obtain⟨y1,y2,rfl⟩:∃y1 y2,ys=[y1,y2]:=by
   match ys,hl with
   | [y1,y2],_=>exact⟨y1,y2,rfl⟩
  obtain⟨g1,rfl,rg1⟩:=h2 0 y1 rfl;obtain⟨g2,rfl,rg2⟩:=h2 1 y2 rfl;walk_at "h";have e12:=s2 _ _ e1;refine⟨t,_,0,_,rfl,rfl,.mk e12,rfl,_,_,rfl,Zbr ∅,t,_,1,_,rfl,rfl,.mk e12,rfl,_,_,rfl,Zbr ∅,_,_,rfl,?_⟩;obtain⟨g,eg,g1_,g2_,g8⟩:∃g:Nat,(if (l2.length:Int)>(l.length:Nat) then (l2.length:Int) else (l.length:Nat))=(g:Nat)/\l.length<=g/\l2.length<=g/\g<=8:=by
   by_cases z:(l2.length:Int)>(l.length:Nat)
   .rw[YAS z];exact⟨_,rfl,∅,∅,∅⟩
   .rw[YAL z];exact⟨_,rfl,∅,∅,∅⟩
  rw[eg];show Za9 _ _ _ _;refine Zai ?_;have s02:=s1.trans s2;walk_at "rd";refine⟨2,rfl,by decide,by decide,gu.invR (show 2<=100000 by decide) (λacc i ys H'=>gE H2 H'/\TT a H'/\H' acc=some (.lst ys)/\∃ws:List Wk,ys=ws.map (λw=>.ref w.t)/\ws.Pairwise ApK/\∀(k:Nat) (w:Wk),ws[k]?=some w->WkO a H' ([l,l2].getD k []) m w/\NwK H2 w/\NeK acc w/\2*g<=w.n/\w.n<=24/\w.ds.length=w.n) (λacc na=>⟨(Zav na).l,tt0.same (s02.trans (Zav na)),Zao,[],rfl,.nil,λk y h=>by simp at h⟩) ?_ ?_⟩
  .rintro acc i ys H3 Q3 na hi hl ⟨sl3,tk3,e3,ws,rfl,ap3,h3⟩ q3;rw[YAB]at hl;walk_at "rd";refine⟨t,_,_,_,rfl,rfl,.mk (sl3 _ _ e12 rfl),?_,b,ns,_,rfl,hS.lL (s02.l.trans sl3),∅,∅,λc=>⟨_,m,c,g,rfl,okk i hi,?_,g8,tk3,λt4 p4 la4 da4 s4 ds4 i4 n4 H4 sl4 tk4 e4 st4 ln4 wi4 hi4 dl4 g4 n24 nt np nla nda ntl ntd=>?_⟩⟩
   .match i,hi with
    | 0,_=>rfl
    | 1,_=>rfl
   .match i,hi with
    | 0,_=>exact g1_
    | 1,_=>exact g2_
   have nK:NwK H3 ⟨t4,p4,la4,da4,s4,ds4,i4,n4⟩:=⟨nt,np,nla,nda⟩;have w4:WkO a H4 ([l,l2].getD i []) m ⟨t4,p4,la4,da4,s4,ds4,i4,n4⟩:=⟨e4,st4,ln4,wi4,hi4,ntl,ntd⟩;have e34:=sl4 _ _ e3 rfl;refine q3 _ _ e34 ⟨λbb o e z=>?_,tk4.upd e34 rfl rfl,Zao,ws++[⟨t4,p4,la4,da4,s4,ds4,i4,n4⟩],by rw[YAr];rfl,YBI.mpr ⟨ap3,YDP _ _,λx hx y hy=>?_⟩,λk w h=>?_⟩
   .rw[Zak (Zag e na)];exact sl4 _ _ (sl3 _ _ e z) z
   .rw[YAI.mp hy];obtain⟨k,hk⟩:=List.mem_iff_getElem?.mp hx;exact nK.ap (h3 k x hk).1
   .rcases YCy k ws.length with z | z | z
    .rw[YAm z]at h;obtain⟨x1,x2,x3,x4⟩:=h3 k w h;exact⟨(x1.l sl4).upd e34 x3,x2,x3,x4⟩
    .rw[z,List.getElem?_concat_length]at h;injection h with h;rw[z,hl,<-h];exact⟨w4.upd e34 (nK.ne e3),nK.l sl3,nK.ne e3,g4,n24,dl4⟩
    .rw[YAi (by rw[YAF,YAo];lia)]at h;cases h
  rintro wL ys H3 nwL hl ⟨sl3,tk3,e3,ws,rfl,ap3,h3⟩;rw[YAB]at hl;obtain⟨A,B,rfl⟩:∃A B,ws=[A,B]:=by
   match ws,hl with
   | [y1,y2],_=>exact⟨y1,y2,rfl⟩
  obtain⟨hA,nA,neA,gA,nA24,dA⟩:=h3 0 A rfl;obtain⟨hB,nB,neB,gB,nB24,dB⟩:=h3 1 B rfl;have apAB:ApK A B:=(YAz.mp ap3).1 B (by simp);walk_at "h";refine⟨sz 1 (by decide),gU.of λc0 H4 s4 n4 e4=>⟨10,rfl,18,rfl,b,_,rfl,hS.lL (s02.l.trans (sl3.trans s4.l)),λc1 n5=>?_⟩⟩;obtain⟨cv,ecv,icv,lcv⟩:∃cv,ju (ns.map V.int) (some 10) (some 18)=cv/\(∀v∈cv,∃c,v=.int c)/\cv.length<=63:=⟨_,rfl,λv hv=>Zkk hv,YAP ZlI (by rw[YAB];exact hn63)⟩;rw[ecv];have s5:gp H4 (upd H4 c1 (.lst cv)):=Zav n5;refine⟨c0,c1,_,_,rfl,rfl,s5 _ _ e4,Zao,by show 1+cv.length<=_;exact sz _ ∅,λcl n6=>?_⟩;rw[show [V.int 0]++cv=V.int 0::cv from rfl];have s6:=s5.trans (Zav (o:=.lst (V.int 0::cv)) n6);have e6:upd (upd H4 c1 (.lst cv)) cl (.lst (V.int 0::cv)) cl=some (.lst (V.int 0::cv)):=Zao;generalize upd (upd H4 c1 (.lst cv)) cl (.lst (V.int 0::cv))=H6 at s6 e6;have ncl:H3 cl=none:=Zjw (s4.trans s5) n6;have s36:=s4.trans s6;have out:∀ {w:Wk} {l':Q11},WkO a H3 l' m w->NwK H2 w->NeK wL w->∀c,((∃o,H2 c=some o/\Zc4 o=false)\/c=wL\/c=cl)->c∉[w.t,w.p,w.da]:=λ{w l'} hw nw ne c h=>by
   obtain⟨⟨_,_,x1⟩,_,_,x3⟩:=ZbK hw.st;simp only[YAJ,YBF,or_false,not_or];rcases h with⟨o,e,z⟩ | rfl | rfl
   .exact⟨nw.t.ne e z,nw.p.ne e z,nw.da.ne e z⟩
   .exact⟨ne.1,λz=>(by rw[z,x1]at e3;cases e3),ne.2.2⟩
   .exact⟨(Zag hw.ls ncl).symm,(Zag x1 ncl).symm,(Zag x3 ncl).symm⟩
  have mid0:iX a H2 H6 wL cl (V.int 0::cv) [.ref A.t,.ref B.t] l l2 m A B A B 0:=⟨sl3.trans s36.l,tk3.same s36,s36 _ _ e3,e6,hA.l s36.l,hB.l s36.l,apAB,⟨rfl,rfl,rfl,rfl⟩,⟨rfl,rfl,rfl,rfl⟩,out hA nA neA,out hB nB neB,∅,∅⟩;refine⟨cl,rfl,⟨_,.mk e6⟩,gH.list (xs:=V.int 0::cv) (λj U H'=>∃v6 v7:Option V,U=[some (.ref b),some (tx m),some (.ref t),some (.ref rL),some (.int (g:Nat)),some (.ref wL),v6,v7,none,none]/\∃X Y,iX a H2 H' wL cl (V.int 0::cv) [.ref A.t,.ref B.t] l l2 m A B X Y (2*j)) ⟨_,_,rfl,A,B,mid0⟩ (λj U H' _ ⟨_,_,_,_,_,h⟩=>.mk h.eC) ?_ ?_⟩
  .rintro j v U H7 hv ⟨v6,v7,rfl,X,Y,mid⟩;have hj:=(YAN.mp hv).1;rw[YAf]at hj;obtain⟨c,rfl⟩:∃c,v=.int c:=by
    rcases YAJ.mp (YAb hv) with z | z
    .exact⟨0,z⟩
    .exact icv v z
   walk_at "k";refine⟨2,rfl,by decide,by decide,gH.range (λi U H'=>∃v7:Option V,U=[some (.ref b),some (tx m),some (.ref t),some (.ref rL),some (.int (g:Nat)),some (.ref wL),some (.int c),v7,none,none]/\∃X Y,iX a H2 H' wL cl (V.int 0::cv) [.ref A.t,.ref B.t] l l2 m A B X Y (2*j+i)) ⟨_,rfl,X,Y,mid⟩ ?_ ?_⟩
   .rintro i U H8 hi ⟨v7,rfl,X,Y,mid⟩;obtain⟨X1,Y1,A1,B1,lX,lY,rX,md,aw,at_,ar,rgX,okX,lgX,gX,nX,bk⟩:∃(X1 Y1 A1 B1:Wk) (lX lY:Q11) (rX:AE),iX a H2 H8 wL cl (V.int 0::cv) [.ref A.t,.ref B.t] lX lY m A1 B1 X1 Y1 (2*j+i)/\[V.ref A.t,.ref B.t][i]?=some (.ref X1.t)/\[tx l,tx l2][i]?=some (tx lX)/\[V.ref g1,.ref g2][i]?=some (.ref rX)/\gJ a.c_MB H2 rX lX m/\gR lX m/\lX.length<=g/\2*g<=X1.n/\X1.n<=24/\∀ {H':Hp} {X2:Wk} {k:Nat},iX a H2 H' wL cl (V.int 0::cv) [.ref A.t,.ref B.t] lX lY m A1 B1 X2 Y1 k->∃X Y,iX a H2 H' wL cl (V.int 0::cv) [.ref A.t,.ref B.t] l l2 m A B X Y k:=by
     match i,hi with
     | 0,_=>exact⟨X,Y,A,B,l,l2,g1,mid,by rw[mid.tX.1];rfl,rfl,rfl,rg1,ok,g1_,by rw[mid.tX.2.2.2];exact gA,by rw[mid.tX.2.2.2];exact nA24,λh=>⟨_,_,h⟩⟩
     | 1,_=>exact⟨Y,X,B,A,l2,l,g2,mid.swap,by rw[mid.tY.1];rfl,rfl,rfl,rg2,ok2,g2_,by rw[mid.tY.2.2.2];exact gB,by rw[mid.tY.2.2.2];exact nB24,λh=>⟨_,_,h.swap⟩⟩
    have e0:(0+(i:Int))=(i:Nat):=by lia
    have kX:=md.kX;obtain⟨dr,fr⟩:=rgX;walk_at "k";rw[e0];have hX:=md.hX;exact⟨wL,_,_,_,rfl,rfl,.mk md.eW,Zcx aw,t,_,_,_,rfl,rfl,.mk (md.sl _ _ e12 rfl),Zcx at_,rL,_,_,_,rfl,rfl,.mk (md.sl _ _ e2 rfl),Zcx ar,.inl ⟨by decide,by decide⟩,⟨∅,∅⟩,X1.t,X1.p,X1.la,X1.da,rX,lX,m,X1.s,X1.ds,_,X1.i,X1.n,g+1,rfl,hX.ls,hX.st,hX.ln,hX.wi,hX.hi,hX.n1,hX.n2,⟨dr,md.sl _ _ fr rfl⟩,okX,∅,∅,∅,nX,∅,md.tk,λla9 s9 ds9 i9 H9 c9 tk9 ht9 st9 ln9 wi9 hi9 nl9 dl9=>⟨true,rfl,gV ⟨_,rfl,bk (md.step c9 tk9 ht9 st9 ln9 wi9 hi9 nl9 dl9)⟩⟩⟩
   .rintro U H8 ⟨v7,rfl,X,Y,mid⟩;exact⟨_,_,rfl,X,Y,mid⟩
  rintro U H7 ⟨v6,v7,rfl,X,Y,mid⟩;walk_at "k";have hX:=mid.hX;have hY:=mid.hY;have okX:=ZaW hX.st;have okY:=ZaW hY.st;have eW:=mid.eW;rw[<-mid.tX.1,<-mid.tY.1]at eW;refine⟨wL,_,0,_,rfl,rfl,.mk eW,rfl,X.t,_,0,_,rfl,rfl,.mk hX.ls,rfl,wL,_,1,_,rfl,rfl,.mk eW,rfl,Y.t,_,0,_,rfl,rfl,.mk hY.ls,rfl,X.p,Y.p,X.s,Y.s,m,rfl,.inr ⟨_,_,_,hX.st⟩,.inr ⟨_,_,_,hY.st⟩,mid.tk,okX,okY,λrr zr dr H8 sl8 tk8 nr8 er8 da8 df8 pw8=>?_⟩;refine⟨rr,rfl,⟨_,.mk er8⟩,?_⟩;obtain⟨rs,rfl,rfl,hrs⟩:=ZgU (ys:=zr) (ws:=dr) (P:=λt w=>H8 t=some (.tup [tx w,.int (if w∈Zas X.s m then 0 else 1)])) da8.1 λj y hy=>by obtain⟨w,t,e1,e2,e3⟩:=da8.2 j y hy;exact⟨t,w,e2,e1,e3⟩
  have ldr:=Zc8 df8 (gZ okX) (gZ okY);rw[YAB]at ldr;have gd:∀ {j:Nat},j<rs.length->rs[j]?=some (rs.getD j (0,[])):=λh=>by rw[YAQ,YAH h];rfl
  have gv:∀ {j:Nat},j<rs.length->(rs.map λr=>V.ref r.1).getD j .non=.ref (rs.getD j (0,[])).1:=λh=>by rw[YAQ,YAK,gd h];rfl
  refine gu.listM (λj=>decide ((rs.getD j (0,[])).2.length<=g+1)) (λj=>V.ref (rs.getD j (0,[])).1) (by rw[YAB];lia) (.mk er8) (λj H9 Q9 hj s9 q9=>?_) (λj H9 Q9 hj _ s9 q9=>?_) λfl H9 s9 n9 e9=>?_
  .rw[YAB]at hj;rw[gv hj];have hm:=YAb (gd hj);have wl:=Zel df8 (gZ okX) (gZ okY) (YBE hm);walk_at "rd";refine⟨_,_,0,_,rfl,rfl,.mk (s9 _ _ (hrs _ hm)),rfl,_,_,rfl,Zbr ∅,?_⟩;have:=q9 H9 (gp.refl _);rw[decide_eq_decide.mpr (show (((rs.getD j (0,[])).2.length:Nat):Int)<=(g:Int)+1↔(rs.getD j (0,[])).2.length<=g+1 by lia)];exact this
  .rw[YAB]at hj;rw[gv hj];walk_at "rd";exact q9 H9 (gp.refl _)
  show Za9 _ _ _ _;refine Zai ?_;have ef:(((List.range (rs.map λr=>V.ref r.1).length).filter λj=>decide ((rs.getD j (0,[])).2.length<=g+1)).map λj=>V.ref (rs.getD j (0,[])).1)=(rs.filter λr=>decide (r.2.length<=g+1)).map λr=>V.ref r.1:=by rw[YAB,<-Zb4 (λr=>decide (r.2.length<=g+1)) (0,[]) rs,YAw];rfl
  rw[ef]at e9;walk_at "rd";have sl9:gE H2 H9:=mid.sl.trans (sl8.trans s9.l);have tk9:=tk8.same s9;have M1:=ZeZ (k:=g+1) ok.l1 hX.st.ok.rise hX.wi (by have:=hX.ln;have:=mid.tX.2.2.2;lia) ∅;have M2:=ZeZ (k:=g+1) ok2.l1 hX.st.ok.rise hY.wi (by have:=hY.ln;have:=mid.tY.2.2.2;lia) ∅;have lk1:=(gZ okX).filter λw=>decide (w.length<=g+1);have lk2:=(gZ okY).filter λw=>decide (w.length<=g+1);rw[M1]at lk1;rw[M2]at lk2;obtain⟨d1,f1⟩:=id rg1;obtain⟨d2,f2⟩:=id rg2;have f19:=sl9 _ _ f1 rfl;refine⟨rL,_,0,_,rfl,rfl,.mk (sl9 _ _ e2 rfl),rfl,g1,d1,_,rfl,f19,Za7 (by decide +kernel) (by decide +kernel),g1,l,m,_,41,_,rfl,.inr ⟨⟨d1,f19⟩,ok,rfl,rfl,rfl⟩,λr10 H10 s10 n10 e10=>?_⟩;have f210:=s10 _ _ (sl9 _ _ f2 rfl);refine⟨rL,_,1,_,rfl,rfl,.mk (s10 _ _ (sl9 _ _ e2 rfl)),rfl,g2,d2,_,rfl,f210,Za7 (by decide +kernel) (by decide +kernel),g2,l2,m,_,41,_,rfl,.inr ⟨⟨d2,f210⟩,ok2,rfl,rfl,rfl⟩,λr11 H11 s11 n11 e11=>⟨r10,r11,_,_,rfl,s11 _ _ e10,e11,lk1,lk2,tk9.same (s10.trans s11),λr12 zs12 ds12 H12 sl12 tk12 nw12 e12_ da12 df12 pw12=>?_⟩⟩;have sl912:gE H9 H12:=(s10.trans s11).l.trans sl12;obtain⟨eD,eF⟩:=ZlH M1 M2 df8 pw8 df12 pw12;have dfl:∀ {H':Hp},gE H9 H'->ZlP H' ((rs.filter λr=>decide (r.2.length<=g+1)).map λr=>V.ref r.1) ds12 (Zas X.s m):=λ{H'} s=>by
   have e:ds12=(rs.filter λr=>decide (r.2.length<=g+1)).map (·.2):=by rw[<-eD,List.filter_map];rfl
   rw[e];refine⟨by rw[YAB,YAB],λj y hy=>?_⟩;rw[YAK]at hy;obtain⟨r,hr,rfl⟩:=YBb.mp hy;exact⟨r.2,r.1,by rw[YAK,hr];rfl,rfl,s _ _ (s9 _ _ (hrs r (YAg.mp (YAb hr)).1)) rfl⟩
  have e912:=sl912 _ _ e9 rfl;refine .inr ⟨_,_,ZdQ (.mk e912) (dfl sl912),ZdQ (.mk e12_) da12,λz=>YAE z.1,Zh4 _ _,?_⟩;rw[YAS rfl,eF,ZlG];refine⟨false,rfl,gV ?_⟩;walk_at "h";refine⟨YBC _,gU.of λr13 H13 s13 n13 e13=>.inr ⟨_,_,ZdQ (.mk (s13 _ _ e912)) (dfl (sl912.trans s13.l)),ZdQ (ds:=[]) (xs:=[]) (.mk e13) ⟨rfl,λj y h=>by simp at h⟩,λz=>YAE z.1,Zh4 _ _,?_⟩⟩;rw[YAL YAE,Zkb];have sl13:=sl9.trans (sl912.trans s13.l);refine⟨rL,_,0,_,rfl,rfl,.mk (sl13 _ _ e2 rfl),rfl,rL,_,1,_,rfl,rfl,.mk (sl13 _ _ e2 rfl),rfl,g1,g2,l,m,l2,rfl,⟨d1,sl13 _ _ f1 rfl⟩,⟨d2,sl13 _ _ f2 rfl⟩,ok,ok2,λt14 d14 H14 s14 du14 e14=>?_⟩;obtain⟨w14,r14,rfl,hw14⟩:=du14.iff;refine⟨t14,_,0,_,rfl,rfl,.mk e14,Zcx (j:=0) rfl,Zj4 λb0 hb0=>?_⟩;have eb:decide (ds12=[])=b0:=by rw[YBS,decide_eq_true_iff,hb0,hw14,ZlF df12 lk1.srt lk2.srt];exact ZjK ok.l1 ok2.l1 ok.mem ok2.mem
  rw[eb];refine .inl ⟨rfl,?_⟩;rw[YAS rfl,decide_eq_true rfl];refine⟨false,rfl,gV ?_⟩;show Za9 _ _ _ _;refine Zai ?_;have sl14:=sl13.trans s14.l;walk_at "rd";refine⟨b,ns,8,rfl,hS.lL (s02.l.trans sl14),by decide,by decide,λc8=>?_⟩;walk_at "h";obtain⟨r8,hr8,er8_⟩:∃r8:Nat,r8<4/\∀i:Nat,(c8+3*(0+(i:Int))) % 4=(((r8+3*i) % 4:Nat):Int):=⟨(c8 % 4).toNat,∅,λi=>by lia⟩;obtain⟨nd8,in8⟩:=Zph hr8;have sl714:gE H7 H14:=sl8.trans (s9.l.trans (sl912.trans (s13.trans s14).l));refine⟨4,rfl,by decide,by decide,gu.rangeA (λi=>tx (nmA.getD ((r8+3*i) % 4) [])) (show 4<=1000 by decide) (λi H15 Q15 hi s15 q15=>?_) λn15 H15 s15 nn15 e15=>?_⟩
  .walk_at "rd";refine⟨sz 4 (by decide),gU.of λnL H16 s16 n16 e16=>⟨.inl ⟨by decide,by decide⟩,by decide,nL,nmA.map tx,_,_,rfl,rfl,.mk e16,?_,q15 _ s16⟩⟩;have A4:(r8+3*i) % 4<nmA.length:=YBh _ (by decide);rw[er8_];exact Zcx (by rw[YAK,YAQ,YAH A4];rfl)
  show Za9 _ _ _ _;refine Zai ?_;have e15':H15 n15=some (.lst ((nmL r8).map tx)):=by rw[e15];unfold nmL;rw[YAw];rfl
  have sl715:=sl714.trans s15.l;have kX:=mid.kX;have kY:=mid.kY;walk_at "rd";exact⟨wL,X.t,Y.t,n15,X.p,Y.p,X.la,X.da,Y.la,Y.da,X.s,Y.s,m,X.ds,Y.ds,X.i,X.n,Y.i,Y.n,nmL r8,rfl,sl715 _ _ eW rfl,sl715 _ _ hX.ls rfl,sl715 _ _ hY.ls rfl,hX.st.l sl715,hY.st.l sl715,by rw[hX.ln,mid.tX.2.2.2];exact nA24,by rw[hY.ln,mid.tY.2.2.2];exact nB24,by rw[YAf]at kX;lia,by rw[YAf]at kY;lia,e15',rfl,nd8,in8,tk12.same ((s13.trans s14).trans s15),q⟩
end
end Pk94
structure PySem.W.Fast:Prop where(tw10071933531906934835 tw10131142621080198151 tw10190561915631338585 tw10244048056655987632 tw10277552807518591173 tw10777002923651879343 tw10872957909265448998 tw10921674544214482810 tw11084347500609844669 tw11175691356576922725 tw11182452319249728147 tw11241108821133521018 tw11332049825517827250 tw1136751828368806988 tw11441498961016965365 tw11539990829919468305 tw1157422891849503696 tw11579928757708351741 tw11612868646026984686 tw11787815914178360485 tw12101447133385567759 tw12257985721173199127 tw12330328452604759409 tw123640945152421550 tw12712156824974568551 tw12742067445484713079 tw1289649332733947732 tw13021952050545643822 tw13075782204338690135 tw13101533312985816882 tw13107462828987029906 tw13112432134765364570 tw13186532770469990711 tw13218429323150622100 tw13345805817267152604 tw13435919245681698236 tw13492826835946160881 tw13659798008740081417 tw13668401242583860557 tw13671024292319934594 tw13746186732930735161 tw13784748054904088635 tw13818393525404776076 tw13845459292502640929 tw13894479924036750389 tw1392515393553166105 tw13938085015293330094 tw14193227459423212699 tw14314907253300960741 tw1433128164540243937 tw14344329260625508716 tw14411393293738591372 tw14420603792439339274 tw1444585714218194648 tw14498883109782944310 tw1459838192962779324 tw14627133473078059337 tw14713516245014691011 tw14758500003369878321 tw1477126952569806961 tw14843542653301489157 tw14946687131378273684 tw14975381910377172595 tw14985154037993806710 tw15109829676917738528 tw1527635065211291572 tw1560823532693656271 tw15659254744335073783 tw15741735945545528194 tw15744520658730772259 tw15760975317224528855 tw15808552264662113009 tw15879919919375558754 tw15949712334120174841 tw16059934374855328478 tw16102367737978541207 tw16273214131934265027 tw16283739735614963336 tw16482727943022099959 tw1653646076447899149 tw16571077431118260702 tw16583267160100409 tw16594014393938770331 tw16640783938635357602 tw16653428245074680587 tw16687913985224122070 tw16908982195796402548 tw17038604941918102693 tw17073857819353750525 tw17075056071414603565 tw17351315668787910187 tw1736485920673853130 tw17439845639676447143 tw17466050843088516935 tw17806118152759305349 tw18013651662115051516 tw1807051483119337412 tw18204568408333798762 tw18205880652272616709 tw18255309370376711357 tw18266345470839710123 tw18299608934276636257 tw18304190653562588895 tw1838396849279174814 tw194815020790100227 tw2149049476147899811 tw227865918656796048 tw2356691774874744199 tw2393241527562861184 tw2398290424564411592 tw2432182806606901440 tw2454590836482764053 tw2511693488762036077 tw2553447967224567064 tw271048312648370958 tw2776389565577610598 tw2784586206134414559 tw2871413309473493468 tw2898535210271924040 tw2906233840577681894 tw3362840065221477027 tw3379569366041761146 tw3487504075101049654 tw3637528350738428088 tw3660251709873599851 tw3735914014952965969 tw3739062702387401207 tw3840084237133231625 tw3856898740040602648 tw3876564819390333484 tw3945478347374332730 tw3963218764722942555 tw4030165636020731119 tw4107754113688908770 tw4270449824260668514 tw4296017736251002951 tw4359602538747369500 tw4387211875555924453 tw4422104687975627392 tw4422260205342745331 tw4466151306202225268 tw449074430087701224 tw4657635132428878591 tw4863935146634864780 tw4896696391218181012 tw4951215778143043624 tw5026544736135488150 tw5042534542194459126 tw5051859283582399238 tw509214933518706761 tw5112169770725607906 tw5156191674420366542 tw5214211051770693054 tw5291241731755220891 tw5325466281210172722 tw53546591221125115 tw5397619027678834600 tw5448225970188322312 tw5450677395972501627 tw5460485159834716851 tw5464942021580333532 tw5558984312525164999 tw556588819780510910 tw5623193183163996977 tw565415257029065799 tw5658005136523087724 tw5697753384553710256 tw5707169255151770071 tw5772275825159091521 tw5786622752886647402 tw5863667231333161954 tw5910888334927444253 tw6070059276887645189 tw6193144606856904868 tw6294575892719854128 tw6313660879128676864 tw6370856144731027207 tw6400380716913668599 tw6472492029282532863 tw6526161057168375842 tw6633181799959466516 tw671383225032972304 tw6722859259206388592 tw6798927982121519934 tw6871552273763139763 tw6915674254944875296 tw7076661674437441387 tw7106549639949443620 tw7111279923144118326 tw7378136731165929482 tw7490084970463960821 tw7561871634168277637 tw7603336484006197450 tw7657424341759778590 tw7727716956210249804 tw7804771169722044881 tw7851925225578902616 tw798044576878142851 tw7991316266868790689 tw829373982784246544 tw8306303511031324818 tw8434629460372230687 tw8654350968042488565 tw8837063377445540848 tw8898051319848295754 tw9053384208935578343 tw9090470634794265954 tw9127089432754586418 tw9180159708537371970 tw9216507251745041002 tw9230318413083942662 tw9714148873636658795 tw9767304431271389806:True)
open PySem PySem.W PyProof.Rows
set_option maxRecDepth 100000 in
set_option maxHeartbeats 0 in
theorem PySem.Challenge.cw_lackword_k94_whole_rings_and_strips_holds : PySem.Challenge.rw_lackword_k94_whole_rings_and_strips.Holds := by
 w_on;o_law;k_head;(case hw=>w_witness2)
 k_fill
 refine L2.nE (l:=PySem.Challenge.rw_lackword_k94_whole_rings_and_strips) (n:=63) (k:=9) (x:="_law_script") (CX:=L2.CX0) (sp:=Pk94.nO) ["in_order","_law_apart"] rfl (by decide) rfl ⟨rfl,by decide,by decide⟩ (λw h Y=>PySem.W.km_in_of Y) (λ_=>by kernel_rfl) (by kernel_rfl) ?F ?S ?C
 case F=>
  intro w mg fa h tb KX G hmg hT;have T:∃t,Pk94.Txt (L2.KOf KX) mg t/\t.t_LJ=(tb "in_order").2/\t.k_LJ=(tb "in_order").1/\t.t_LT=(tb "_law_apart").2/\t.k_LT=(tb "_law_apart").1:=by
   dsimp only[L2.KOf];apply Pk94.txt_mk (t_LJ:=(tb "in_order").2) (k_LJ:=(tb "in_order").1) (t_LT:=(tb "_law_apart").2) (k_LT:=(tb "_law_apart").1) KX G;iterate 114 k_is
   iterate 31 (apply L2.mg_mk;iterate 4 k_is)
   iterate 36 (apply L2.dg_mk;iterate 4 k_is)
   iterate 17 k_is
  obtain⟨t,T,et_LJ,ek_LJ,et_LT,ek_LT⟩:=T;have e0:=hmg.symm.trans T.ge.m;cases e0;have cd_LJ:t.d_LJ.code=.ref t.k_LJ:=by obtain⟨o,e1,e2⟩:=T.dJ.u.at KX;rw[ek_LJ];exact(hT "in_order" (by simp)).codeEq T.dJ.m e1 e2
  have cd_LT:t.d_LT.code=.ref t.k_LT:=by obtain⟨o,e1,e2⟩:=T.fg.u.at KX;rw[ek_LT];exact(hT "_law_apart" (by simp)).codeEq T.fg.m e1 e2
  refine' ⟨_,?b,λbase kb nb hL=>Pk94.ok_law (tb:=tb) { T with L_in_order:=by rw[et_LJ,ek_LJ];exact hL "in_order" (by simp),cd_LJ:=cd_LJ,e_LJ:=et_LJ,L_lapart:=by rw[et_LT,ek_LT];exact hL "_law_apart" (by simp),cd_LT:=cd_LT,e_LT:=et_LT }⟩;exact T.bl
 case S=>exact λK tb H a ns hl hP hS=>⟨a,ns,rfl,hS,hl,L2.nQ (hP "in_order" (by simp)),L2.nQ (hP "_law_apart" (by simp)),λ_=>rfl⟩
 case C=>exact λ_ _ _ _ z=>z
#print axioms PySem.Challenge.cw_lackword_k94_whole_rings_and_strips_holds
