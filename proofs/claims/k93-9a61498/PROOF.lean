import PyProof.Rows.All
import Wide.All
import OpenK.AllK
import Wide.FinOn
import Lean
import PyProof.EqAt
import PyProof.EqKinds
import PyProof.TupleCall
import PyProof.SetRoads
import PyProof.Rows.SetFrom
import PyProof.StrWalks
import PyProof.FactsAll.set
import PyProof.FactsAll.subtypes_3
import PyProof.CollectWalk
import PyProof.CollectStr
import PyProof.StationsW
import PyProof.RulesAs
import KE.KTryMore
import PyProof.NsDelKeeps
import PyProof.ListStr
import PyProof.TupleOfStr
import PyProof.ConsumeS
import KE.KEqDict
import PyProof.DictWalks
import PyProof.DictUpdate
import PyProof.DictDisplay
import KE.KDictSum
import PyProof.DictItems
import PyProof.DictItemsLoops
import KE.KPairComp
import PyProof.ListRange
import PyProof.Rows.StrNews2
import KE.KLam
import KE.KRevIter
import KE.KDictList
import PyProof.Rows.Range3
import KE.KDictLaws
import PyProof.DictRoadsH
import PySem.Challenge.RW_lackword_k93_whole_a_place_or_a_missing
open PySem.W(instObj methodObj hideAll hideAll_get of_hideAll hideAll_none lookIn plainGet hasDictIn findIn handedIn plainGet_of findObj_own isFn plainOver takerIn set_plain looks_clsIn makesIn typeIn emptyDict bind_fn keepIn specialIn takesIn mroIn kitOne kitx_none kitx_bool kitx_int kitx_str kitx_float kitx_tuple kitx_dict methodCall_KW cellsFrom_some fnOf codeIn notCls findObj looks_find looks_mroIn check_slot osa_eq clsIn readsIn findCls method_cls cls_value exmOne keq_eq kitAny kla_fn nsIn)
set_option autoImplicit true
set_option compiler.extract_closed false
set_option bootstrap.genMatcherCode false
set_option genSizeOf false
noncomputable section
set_option relaxedAutoImplicit true
abbrev AA:=List (PySem.Addr×PySem.Obj)
abbrev AB:=PySem.Str->Option PySem.Value
abbrev AC:=List PySem.Value
abbrev AD:=PySem.Addr
abbrev AE:=PySem.Shared
abbrev AF:=PySem.FuncData
abbrev AG:=PySem.Program
abbrev AH:=PySem.Around
abbrev AI:=PySem.World
abbrev AJ:=List PySem.Str
abbrev mN:=List Nat
abbrev mU:=List (List Nat)
abbrev oo:=PySem.Value->PySem.Shared->Prop
abbrev Q4:=PySem.W.Frag
set_option Elab.async false
set_option linter.all false
local macro_rules | `(∅) => `(by lia)
local macro_rules | `(~~~$x) => `(by simpa using $x)
local macro_rules (kind := «term{}») | `({}) => `(by simp)
local macro_rules | `(nofun) => `(by decide +kernel)
local macro_rules | `(⋯) => `(by decide)
def JH:=@decide_eq_true_iff
def JI:=@decide_eq_true
def JJ:=@decide_eq_false
def JK:=@of_decide_eq_true
def JL:=@decide_eq_false_iff_not
def JM:=@of_decide_eq_false
def JN:=@congrArg
def JO:=@absurd
def JP:=@beq_iff_eq
def JQ:=@decide_eq_true_eq
def mO:=@PySem.wpAny_bind
def nG:=@PySem.Heap.get?_push_of_some
def m6:=@List.length_map
def om:=@List.getElem?_eq_getElem
def nN:=@List.length_append
def mW:=@PySem.wpAny_pure
def nU:=@Bool.false_ne_true
def oM:=@List.getElem?_eq_some_iff
def pM:=@List.getD_eq_getElem?_getD
def nD:=@Nat.le_refl
def oP:=@PySem.Heap.get?_push_size
def ou:=@List.length_take
def og:=@Nat.le_trans
def nP:=@PySem.Heap.lt_size
def oN:=@List.mem_singleton
def mR:=@if_neg
def oH:=@List.size_toArray
def mS:=@if_pos
def oJ:=@Bool.and_eq_true
def m7:=@PyProof.Rows.wpS_bind
def ot:=@List.mem_cons
def pB:=@Array.length_toList
def pZ:=@List.length_singleton
def pP:=@List.mem_cons_of_mem
def oV:=@List.mem_append
def qf:=@List.mem_of_mem_take
def pA:=@List.getElem?_map
def oU:=@List.mem_range
def qT:=@List.getElem?_append_left
def nA:=@PyProof.Rows.wpS_pure
def pW:=@List.mem_cons_self
def qA:=@List.mem_of_getElem?
def pO:=@List.length_drop
def qE:=@List.mem_of_mem_drop
def qD:=@PySem.Heap.SameBut.update
def oO:=@Nat.ne_of_lt
def qz:=@Nat.lt_of_lt_of_le
def qN:=@List.getElem?_eq_none
def pS:=@PySem.PassesOwn.never
def sd:=@List.getElem?_append_right
def pH:=@List.map_cons
def qr:=@List.mem_filter
def qv:=@Bool.eq_iff_iff
def qK:=@List.length_cons
def sA:=@List.take_of_length_le
def pK:=@List.mem_map
def nX:=@Ne.symm
def si:=@List.take_append_drop
def qW:=@List.append_assoc
def pE:=@Nat.zero_le
def rm:=@List.length_range
def rZ:=@List.length_dropLast
def rh:=@Int.toNat_natCast
def sI:=@Array.getElem?_toList
def qC:=@Nat.lt_irrefl
def ql:=@List.map_map
def sD:=@PySem.W.mg_none_of
def vk:=@List.getLast?_eq_some_getLast
def ue:=@PySem.F.plainAttrs_list
def tI:=@List.mem_append_right
def tO:=@List.length_filter_le
def rH:=@List.take_length
def tj:=@List.length_pos_iff
def qR:=@PySem.wpAny_holding
def ug:=@PySem.F.plainAttrs_str
def tT:=@Array.toList_extract
def sE:=@List.all_eq_true
def rM:=@Nat.min_eq_left
def tW:=@Array.toList_append
def uT:=@PySem.Heap.get?_update_other
def sv:=@PySem.W.kia_one
def vf:=@PySem.F.type_list_append
def vo:=@PySem.F.slot_list_append
def tY:=@List.pairwise_cons
def tU:=@List.getElem?_drop
def rO:=@PySem.Heap.size_push
def t7:=@List.map_congr_left
def wS:=@List.eq_nil_of_length_eq_zero
def qF:=@PySem.wpAny_mono
def tN:=@Bool.eq_false_iff
def uI:=@List.pairwise_append
def uW:=@List.mem_append_left
def rF:=@PyProof.Rows.wpS_forRange
def uR:=@List.mem_map_of_mem
def tD:=@List.map_append
def u5:=@PySem.Heap.get?_update_self
def sH:=@PySem.wpAny_setField
def sG:=@List.drop_zero
def sJ:=@Bool.false_and
def ua:=@PySem.wpAny_loadPart_at
def ut:=@List.nodup_append
def ul:=@List.ext_getElem?
def ud:=@Array.toList_push
def uz:=@PySem.wpAny_Call_Name_kw
def vW:=@List.drop_eq_nil_of_le
def tz:=@List.take_take
def tZ:=@List.nodup_cons
def uj:=@Option.bind_some
def uv:=@List.mem_reverse
def uc:=@List.lookup_cons
def t8:=@List.getElem_mem
def uP:=@PySem.wpAny_newObj_type
def wf:=@PySem.F.type_str_find
def wk:=@PySem.F.slot_str_find
def uG:=@List.pairwise_map
def uY:=@List.flatten_cons
def tH:=@PySem.wpAny_seqItems
def rQ:=@PySem.wpAny_field
def tw:=@PySem.W.mg_of
def uZ:=@List.getElem?_take
def sS:=@Bool.true_and
def wA:=@PySem.Around.under_plainId
def uK:=@List.ext_getElem
def wQ:=@PySem.F.plain_min_loop
def u9:=@PySem.wpAny_truthy_bool
def ww:=@PySem.mem_of_lookup
def ui:=@List.drop_drop
def uH:=@List.range_succ
def xq:=@List.dropLast_eq_take
def vO:=@Int.emod_lt_of_pos
def vJ:=@PySem.Calls.spliced_cons
def ve:=@PySem.wpAny_call_entry
def u6:=@List.not_mem_nil
def zV:=@List.drop_append_of_le_length
def vv:=@List.any_eq_true
def xj:=@PySem.W.looks_findIn
def xE:=@List.length_eq_zero_iff
def yy:=@List.dropLast_concat_getLast
def uB:=@Nat.mul_le_mul
def rW:=@PySem.wpAny_rule
def wZ:=@List.filter_eq_self
def va:=@List.append_nil
def vx:=@Int.emod_nonneg
def qP:=@PyProof.Rows.wpS_mono
def zf:=@Array.getElem?_eq_some_iff
def v0:=@List.length_tail
def uy:=@PySem.wpAny_attempt
def xt:=@PySem.F.slot_dict_get
def wD:=@PySem.Obj.data_mapFields
def wL:=@List.filter_append
def wP:=@List.contains_cons
def yJ:=@List.pairwise_iff_getElem
def sT:=@PyProof.Rows.wpS_modify
def wN:=@Nat.lt_succ_of_lt
def BQ:=@PyProof.Rows.callWith_builtin1
def uk:=@Nat.le_succ
def vd:=@Nat.add_assoc
def xJ:=@List.getElem_of_mem
def wW:=@PySem.W.any_some
def wT:=@List.mem_flatMap
def wJ:=@List.cons_append
def vK:=@List.drop_take
def wu:=@Bool.and_false
def xR:=@PySem.W.callWith_K
def xY:=@Bool.false_eq_true
def w6:=@PySem.wpAny_passesOwn
def BL:=@PyProof.Rows.callWith_type1
def vj:=@Nat.le_of_eq
def yQ:=@List.mem_iff_getElem?
def wI:=@List.forIn_cons
def wO:=@List.foldl_cons
def yn:=@PySem.wpAny_setState_of
def uu:=@PySem.wpAny_call
def yt:=@PySem.W.kitx_list
def yh:=@List.take_sublist
def yr:=@PySem.Calls.spliced_nil
def Bh:=@List.findSome?_eq_none_iff
def Cq:=@PySem.F.slot_tuple_iterator_next
def BZ:=@Array.perm_iff_toList_perm
def zL:=@List.dropLast_concat
def Bz:=@List.drop_eq_getElem_cons
def xW:=@PySem.wpAny_askSetting
def yX:=@PySem.wpAny_isSubtype_exc
def zQ:=@List.replicate_succ
def B8:=@Option.isSome_iff_exists
def wp:=@Nat.zero_add
def A5:=@List.getElem?_take_of_lt
def Cs:=@List.Pairwise.imp_of_mem
def wB:=@PySem.wpAny_standAt
def yA:=@PySem.wpAny_setField_rec
def xC:=@PySem.wpAny_execs_nil
def x8:=@Nat.not_lt_zero
def zT:=@Nat.lt_of_le_of_lt
def x9:=@List.find?_cons
def A6:=@PySem.F.entry_dict_get
def Bm:=@Option.map_eq_some_iff
def Br:=@List.length_pos_of_mem
def Cw:=@PySem.Calls.callWith_builtin
def vA:=@Nat.mod_lt
set_option maxRecDepth 100000
namespace L2
open PySem PySem.Spec PyProof.Rows
abbrev nH:=Sum Int Str
def vp:nH->Value->Bool
 | .inl k,v=>Value.isInt k v
 | .inr x,v=>Value.isStrOf x v
noncomputable def ja (w:AI):nH->Int
 | .inl k=>hashInt k
 | .inr x=>hashStr w x
theorem vi:∀ {k:nH} {v:Value},vp k v=true->(∃i t,k=Sum.inl i/\v=Value.int i t)\/(∃x t,k=Sum.inr x/\v=Value.str x t)
 | .inl i,v,h=>by
  obtain⟨t,e⟩:=Value.isInt_shape (k:=i) (v:=v) h;exact .inl ⟨i,t,rfl,e⟩
 | .inr x,v,h=>by obtain⟨t,e⟩:=Value.isStrOf_shape (x:=x) (v:=v) h;exact .inr ⟨x,t,rfl,e⟩
def Zkq (i:Int)(t:Tok):vp (.inl i) (.int i t)=true:=by simp[vp,Value.isInt]
def Zkp (x:Str)(t:Tok):vp (.inr x) (.str x t)=true:=by simp[vp,Value.isStrOf]
def ZpW (a b:Int):decide ((Sum.inl a:nH)=Sum.inl b)=(a == b):=by
 by_cases e:a=b
 .subst e;simp
 .have h:¬(Sum.inl a:nH)=Sum.inl b:=λq=>e (Sum.inl.inj q);rw[JJ h];exact(beq_eq_false_iff_ne.mpr e).symm
def ZpT (a b:Str):decide ((Sum.inr a:nH)=Sum.inr b)=decide (a=b):=by
 by_cases e:a=b
 .subst e;simp
 .have h:¬(Sum.inr a:nH)=Sum.inr b:=λq=>e (Sum.inr.inj q);rw[JJ h,JJ e]
def ZpV (a:Int)(b:Str):decide ((Sum.inl a:nH)=Sum.inr b)=false:=JJ (λq=>nomatch q)
def ZpU (a:Str)(b:Int):decide ((Sum.inr a:nH)=Sum.inl b)=false:=JJ (λq=>nomatch q)
def pI (prog:AG)(w:AI):PySem.KeyKind prog w nH where
 is:=vp
 hash:=ja w
 inj:=λv a b ha hb=>by
  rcases vi ha with⟨i,t,rfl,rfl⟩|⟨x,t,rfl,rfl⟩
  .rcases vi hb with⟨j,u,rfl,e⟩|⟨y,u,rfl,e⟩
   .injection e with e1 _;rw[e1]
   .exact nomatch e
  .rcases vi hb with⟨j,u,rfl,e⟩|⟨y,u,rfl,e⟩
   .exact nomatch e
   .injection e with e1 _;rw[e1]
 byValue:=λk v h=>by rcases vi h with⟨i,t,rfl,rfl⟩|⟨x,t,rfl,rfl⟩<;>rfl
 pyHash:=λhv h=>by
  rcases vi hv with⟨i,t,rfl,rfl⟩|⟨x,t,rfl,rfl⟩
  .exact wpAny_pyHash_int h
  .exact wpAny_pyHash_str h
 eqBool:=λhu hv h=>by
  rcases vi hu with⟨i,t,rfl,rfl⟩|⟨x,t,rfl,rfl⟩
  .rcases vi hv with⟨j,u,rfl,rfl⟩|⟨y,u,rfl,rfl⟩
   .rw[ZpW]at h;exact wpAny_eqBool_int h
   .rw[ZpV]at h;exact SeqAt.EqAt.int_str i t y u _ _ _ _ h
  .rcases vi hv with⟨j,u,rfl,rfl⟩|⟨y,u,rfl,rfl⟩
   .rw[ZpU]at h;exact SeqAt.EqAt.str_int x t j u _ _ _ _ h
   .rw[ZpT]at h;exact wpAny_eqBool_str h
 «strs»:=λk x t v h=>by
  rcases vi h with⟨i,u,rfl,e⟩|⟨y,u,rfl,e⟩
  .exact nomatch e
  .injection e with e1 _;subst e1;cases v<;>rfl
def Zhn (prog:AG)(w:AI)(i:Int)(t:Tok):(pI prog w).is (.inl i) (.int i t)=true:=Zkq i t
def GG (prog:AG)(w:AI)(x:Str)(t:Tok):(pI prog w).is (.inr x) (.str x t)=true:=Zkp x t
inductive V where
 | non | bl (b:Bool) | int (i:Int) | str (x:Str) | byt (b:Array UInt8) | flt (b:UInt64) | ref (a:AD) | ty (n:String)
 deriving DecidableEq
abbrev JR:=List V
set_option genInjectivity false
def fZ:V->Value->Prop
 | .non,u=>u=Value.none
 | .bl b,u=>u=Value.bool b
 | .int i,u=>∃t,u=Value.int i t
 | .str x,u=>∃t,u=Value.str x t
 | .byt b,u=>∃t,u=Value.bytes b t
 | .flt b,u=>∃t,u=Value.float b t
 | .ref a,u=>u=Value.ref a
 | .ty n,u=>u=Value.type n
abbrev fV:JR->AC->Prop:=Paired fZ
def fV.length (r:fV xs us):xs.length=us.length:=Paired.length r
theorem fV.get:∀ {xs:JR} {us:AC} {i:Nat} {x:V},fV xs us->xs[i]?=some x->∃u,us[i]?=some u/\fZ x u
 | _,_,_,_,.nil,e=>by simp at e
 | _,_,0,_,.cons r _,e=>by simp at e;subst e;exact⟨_,rfl,r⟩
 | _,_,i+1,x,.cons _ t,e=>by obtain⟨u,h1,h2⟩:=fV.get (i:=i) (x:=x) t (~~~e);exact⟨u,~~~h1,h2⟩
theorem fV.set {x:V}{u:Value}(r:fZ x u):∀ {xs:JR} {us:AC} (i:Nat),fV xs us->fV (xs.set i x) (us.set i u)
 | _,_,_,.nil=>.nil
 | _,_,0,.cons _ t=>.cons r t
 | _,_,i+1,.cons q t=>.cons q (fV.set r i t)
theorem fV.append:∀ {xs ys:JR} {us ws:AC},fV xs us->fV ys ws->fV (xs++ys) (us++ws)
 | _,_,_,_,.nil,s=>s
 | _,_,_,_,.cons r t,s=>.cons r (fV.append t s)
theorem fV.take:∀ {xs:JR} {us:AC} (n:Nat),fV xs us->fV (xs.take n) (us.take n)
 | _,_,0,_=>.nil
 | _,_,_+1,.nil=>.nil
 | _,_,n+1,.cons r t=>.cons r (fV.take n t)
theorem fV.drop:∀ {xs:JR} {us:AC} (n:Nat),fV xs us->fV (xs.drop n) (us.drop n)
 | _,_,0,r=>r
 | _,_,_+1,.nil=>.nil
 | _,_,n+1,.cons _ t=>fV.drop n t
def gV:Option V->Option Value->Prop
 | some v,some u=>fZ v u
 | none,none=>True
 | _,_=>False
def KV {κ:Type}:List (κ×V)->List (κ×Value)->Prop:=Paired λ(p:κ×V) (q:κ×Value)=>p.1=q.1/\fZ p.2 q.2
noncomputable def kV:nH->V
 | .inl i=>.int i
 | .inr x=>.str x
inductive HO where
 | lst (xs:JR)
 | tup (xs:JR)
 | dK (kvs:List (nH×V)) | dT (kvs:List (List nH×V))
 | set (S:Int->Bool) (n:Nat)
 | ins (C dx:AD) (fs:List (Str×V))
 | own (x:AD)
 | xd (fs:List (Str×V))
 | met (f x:AD)
 | rng (lo hi:Int)
 | frz (o:Obj) (u:HO)
 | tbl (ps:Array Value)
 | ext (φ:Heap->Prop)
abbrev Hp:=Addr->Option HO
noncomputable def upd (H:Hp)(a:AD)(o:HO):Hp:=λb=>if b=a then some o else H b
def nu:upd H a o a=some o:=by unfold upd;rw[mS rfl]
def mT (h:b≠a):upd H a o b=H b:=by unfold upd;rw[mR h]
def GB {H:Hp}{a b:AD}{o u:HO}(h:H a=some o)(h':H b=some u)(d:o≠u):a≠b:=by intro e;subst e;rw[h]at h';exact d (Option.some.inj h')
def on {H:Hp}{a b:AD}{o:HO}(h:H a=some o)(h':H b=none):a≠b:=by intro e;subst e;rw[h]at h';cases h'
section
variable (P:AG)(w:AI)
def gg (H:Hp)(h:Heap)(a:AD):HO->Prop
 | .lst xs=>xs.length<=sizeLine/\∃(its:AC) (n:Nat),fV xs its/\h.get? a=some { cls:=.type "list",data:=.seq its.toArray n }
 | .tup xs=>xs.length<=sizeLine/\∃its:AC,fV xs its/\IsTup h a its.toArray
 | .dK kvs=>kvs.length<=sizeLine/\(a == sysModules)=false/\∃vs,KV kvs vs/\h.DictOf (pI P w) a vs
 | .dT kvs=>kvs.length<=sizeLine/\(a == sysModules)=false/\∃xs:List (List nH×AD×Value),
   Paired (λ(p:List nH×V) (q:List nH×AD×Value)=>p.1=q.1/\H q.2.1=some (.tup (p.1.map kV))/\fZ p.2 q.2.2) kvs xs /\
   ∃o es ep,h.get? a=some o/\o.ExactDict/\o.data=.dict es ep/\es.toList=xs.map (entryOfKey (tupleKind (pI P w)))/\(xs.map (·.1)).Nodup
 | .set S n=>h.SetOf (intKind P w) a S n
 | .ins C dx fs=>H dx=some (.own a)/\fs.length<=1000/\dx≠a/\h.get? a=some (instObj C dx) /\
   ∃mA,h.Ns1 dx mA/\(∀f,gV (fs.lookup f) (mA f))/\PySem.Within mA (fs.map (·.1))
 | .own _=>∃o,h.get? a=some o
 | .xd fs=>∃mA,h.Ns1 a mA/\∀f,gV (fs.lookup f) (mA f)
 | .rng lo hi=>∃t u v,h.get? a=some { cls:=.type "range",data:=.fields #[.int lo t,.int hi u,.int 1 v] }
 | .frz o u=>h.get? a=some o/\gg H h a u
 | .tbl ps=>h.get? a=some { cls:=.none,data:=.fields ps }
 | .met f x=>h.get? a=some (methodObj (.ref f) (.ref x))
 | .ext φ=>φ h/\(∃o,h.get? a=some o)/\∀h1 h2:Heap,φ h1->(∀o,h1.get? a=some o->h2.get? a=some o)->φ h2
def o7 (H:Hp)(h:Heap):Prop:=∀a o,H a=some o->gg P w H h a o
end
section
def gg.lt (x:gg P w H h a o):a<h.objs.size:=by
 cases o with
 | lst xs=>obtain⟨_,_,_,_,e⟩:=x;exact nP e
 | tup xs=>obtain⟨_,_,_,p⟩:=x;exact p.lt
 | dK kvs=>obtain⟨_,_,_,_,o,_,_,e,_⟩:=x;exact nP e
 | dT kvs=>obtain⟨_,_,_,_,o,_,_,e,_⟩:=x;exact nP e
 | set S n=>obtain⟨o,_,_,_,e,_⟩:=x;exact nP e
 | ins C dx fs=>obtain⟨_,_,_,e,_⟩:=x;exact nP e
 | own y=>obtain⟨_,e⟩:=x;exact nP e
 | xd fs=>obtain⟨_,⟨_,_,_,e,_⟩,_⟩:=x;exact nP e
 | rng lo hi=>obtain⟨_,_,_,e⟩:=x;exact nP e
 | frz ob u=>obtain⟨e,_⟩:=x;exact nP e
 | tbl ps=>exact nP (show h.get? a=some _ from x)
 | met f y=>exact nP (show h.get? a=some _ from x)
 | ext φ=>obtain⟨_,⟨_,e⟩,_⟩:=x;exact nP e
theorem Paired.mapP {α β:Type}{F G:α->β->Prop}:∀ {l_1:List α} {l_2:List β},Paired F l_1 l_2->(∀a b,F a b->G a b)->Paired G l_1 l_2
 | _,_,.nil,_=>.nil
 | _,_,.cons r t,f=>.cons (f _ _ r) (Paired.mapP t f)
def gg.stay (x:gg P w H h a o)(k:∀b u,(b=a\/H b=some (.own a))->h.get? b=some u->h'.get? b=some u)
  (ho:∀b,H b=some (.own a)->H' b=some (.own a)) (ht:∀b xs,H b=some (.tup xs)->H' b=some (.tup xs)):gg P w H' h' a o:=by
 induction o with
 | lst xs=>obtain⟨z,its,n,r,e⟩:=x;exact⟨z,its,n,r,k _ _ (.inl rfl) e⟩
 | tup xs=>obtain⟨z,its,r,ob,e,c⟩:=x;exact⟨z,its,r,ob,k _ _ (.inl rfl) e,c⟩
 | dK kvs=>obtain⟨z,y,vs,r,ob,es,ep,e,c⟩:=x;exact⟨z,y,vs,r,ob,es,ep,k _ _ (.inl rfl) e,c⟩
 | dT kvs=>
  obtain⟨z,y,xs,r,ob,es,ep,e,c⟩:=x;exact⟨z,y,xs,Paired.mapP r λp q z=>⟨z.1,ht _ _ z.2.1,z.2.2⟩,ob,es,ep,k _ _ (.inl rfl) e,c⟩
 | set S n=>obtain⟨ob,es,ep,t,e,c⟩:=x;exact⟨ob,es,ep,t,k _ _ (.inl rfl) e,c⟩
 | ins C dx fs=>
  obtain⟨d,z,ne,e,mA,⟨od,es,ep,e2,c⟩,r⟩:=x;exact⟨ho _ d,z,ne,k _ _ (.inl rfl) e,mA,⟨od,es,ep,k _ _ (.inr d) e2,c⟩,r⟩
 | own y=>obtain⟨ob,e⟩:=x;exact⟨ob,k _ _ (.inl rfl) e⟩
 | xd fs=>obtain⟨mA,⟨od,es,ep,e,c⟩,r⟩:=x;exact⟨mA,⟨od,es,ep,k _ _ (.inl rfl) e,c⟩,r⟩
 | rng lo hi=>obtain⟨t,u,v,e⟩:=x;exact⟨t,u,v,k _ _ (.inl rfl) e⟩
 | frz ob u ih=>obtain⟨e,q⟩:=x;exact⟨k _ _ (.inl rfl) e,ih q⟩
 | tbl ps=>
  have e:h.get? a=some { cls:=.none,data:=.fields ps }:=x;show h'.get? a=some { cls:=.none,data:=.fields ps };exact k a _ (.inl rfl) e
 | met f y=>
  have e:h.get? a=some (methodObj (.ref f) (.ref y)):=x;show h'.get? a=some (methodObj (.ref f) (.ref y));exact k a _ (.inl rfl) e
 | ext φ=>obtain⟨p,⟨o,e⟩,st⟩:=x;exact⟨st _ _ p λo q=>k _ _ (.inl rfl) q,⟨o,k _ _ (.inl rfl) e⟩,st⟩
def o7.lt (x:o7 P w H h)(e:H a=some o):a<h.objs.size:=(x a o e).lt
def o7.fresh (x:o7 P w H h)(e:h.objs.size<=a):H a=none:=by
 cases q:H a with
 | none=>rfl
 | some u=>exact JO (qz (x.lt q) e) (qC _)
def o7.kept (x:o7 P w H h)(k:∀b u,h.get? b=some u->h'.get? b=some u):o7 P w H h':=λa o e=>
 (x a o e).stay (λb u _ q=>k b u q) (λ_ q=>q) λ_ _ q=>q
def o7.laid (x:o7 P w H h)(k:∀b u,h.get? b=some u->h'.get? b=some u)(hp:h.objs.size<=a)(new:gg P w (upd H a o) h' a o):o7 P w (upd H a o) h':=λb u e=>by
 have hn:=x.fresh hp;by_cases hb:b=a
 .subst hb;rw[nu]at e;cases e;exact new
 .rw[mT hb]at e;exact(x b u e).stay (λc v _ q=>k c v q) (λc q=>by rw[mT (on q hn)];exact q) λc xs q=>by rw[mT (on q hn)];exact q
end
def Rd (H:Hp)(a:AD)(u:HO):Prop:=H a=some u\/∃o,H a=some (.frz o u)
def Rd.ok (r:Rd H a u)(x:o7 P w H h):gg P w H h a u:=by
 rcases r with r | ⟨o,r⟩
 .exact x a u r
 .obtain⟨_,q⟩:=x a _ r;exact q
def zU:Option HO->Prop
 | some (.lst _)=>True
 | some (.dK _)=>True
 | some (.dT _)=>True
 | some (.set _ _)=>True
 | some (.ins _ _ _)=>True
 | some (.ext _)=>True
 | _=>False
section
def o7.write (ok:o7 P w H h)(mu:zU (H x))(he:e=x\/H e=some (.own x))(k:∀b u,b≠e->h.get? b=some u->h'.get? b=some u)(heo:∃u,h'.get? e=some u)
  (new:gg P w (upd H x o') h' x o'):o7 P w (upd H x o') h':=λb u q=>by
 have nown:∀c y,H c=some (.own y)->c≠x:=λc y r z=>by subst z;rw[r]at mu;exact mu
 have ntup:∀c xs,H c=some (.tup xs)->c≠x:=λc xs r z=>by subst z;rw[r]at mu;exact mu
 by_cases hb:b=x
 .subst hb;rw[nu]at q;cases q;exact new
 .rw[mT hb]at q;by_cases hbe:b=e
  .have q':H b=some (.own x):=by
    rcases he with z | z
    .exact JO (hbe.trans z) hb
    .rw[hbe];exact z
   rw[q]at q';cases q';obtain⟨v,hv⟩:=heo;exact⟨v,by rw[hbe];exact hv⟩
  .refine(ok b u q).stay (λc v hc r=>k c v ?_ r) (λc r=>by rw[mT (nown c b r)];exact r) λc xs r=>by rw[mT (ntup c xs r)];exact r
   rcases hc with rfl | hc
   .exact hbe
   .rintro rfl;rcases he with z | z
    .exact nown c b hc z
    .rw[hc]at z;cases z;exact hb rfl
end
structure Un (fs ex:List AD)(H H':Hp)(h h':Heap):Prop where
 keep:∀b o,h.get? b=some o->H b=none->b∉fs->b∉ex->h'.get? b=some o
 slot:∀b o,h.get? b=some o->H b=none->b∈fs->b∉ex->∃sl,h'.get? b=some { o with slots:=sl }
 free:∀b o,h.get? b=some o->H b=none->b∉ex->H' b=none
 there:∀b o,h.get? b=some o->b∉ex->∃o',h'.get? b=some o'
 tups:∀b xs,H b=some (.tup xs)->H' b=some (.tup xs)
 frzs:∀b o u,H b=some (.frz o u)->H' b=some (.frz o u)
 tbls:∀b ps,H b=some (.tbl ps)->∃more,H' b=some (.tbl (ps++more))
section
def Un.any (u:Un fs ex H H1 h h1){b:AD}{ob:Obj}(q:h.get? b=some ob)(n:H b=none)(hx:b∉ex):∃sl,h1.get? b=some { ob with slots:=sl }:=by
 by_cases hb:b∈fs
 .exact u.slot b ob q n hb hx
 .exact⟨ob.slots,u.keep b ob q n hb hx⟩
def Un.trans (a:Un fs ex H H1 h h1)(b:Un fs ex H1 H2 h1 h2):Un fs ex H H2 h h2 where
 keep:=λc ob q n hc hx=>b.keep c ob (a.keep c ob q n hc hx) (a.free c ob q n hx) hc hx
 slot:=λc ob q n hc hx=>by obtain⟨sl,e1⟩:=a.slot c ob q n hc hx;obtain⟨sl',e2⟩:=b.slot c _ e1 (a.free c ob q n hx) hc hx;exact⟨sl',e2⟩
 free:=λc ob q n hx=>by obtain⟨o',e1⟩:=a.there c ob q hx;exact b.free c o' e1 (a.free c ob q n hx) hx
 there:=λc ob q hx=>by obtain⟨o',e1⟩:=a.there c ob q hx;exact b.there c o' e1 hx
 tups:=λc xs q=>b.tups c xs (a.tups c xs q)
 frzs:=λc ob xs q=>b.frzs c ob xs (a.frzs c ob xs q)
 tbls:=λc ps q=>by obtain⟨m1,e1⟩:=a.tbls c ps q;obtain⟨m2,e2⟩:=b.tbls c _ e1;exact⟨m1++m2,by rw[e2,Array.append_assoc]⟩
def Un.kept (k:∀b u,h.get? b=some u->h'.get? b=some u):Un fs ex H H h h':=
 ⟨λb ob q _ _ _=>k b ob q,λb ob q _ _ _=>⟨ob.slots,k b ob q⟩,λ_ _ _ n _=>n,λb ob q _=>⟨ob,k b ob q⟩,λ_ _ q=>q,λ_ _ _ q=>q,λ_ ps q=>⟨#[],by rw[q];simp⟩⟩
def Un.refl:Un fs ex H H h h:=Un.kept λ_ _ q=>q
def Un.laid (k:∀b u,h.get? b=some u->h'.get? b=some u)(hp:h.objs.size<=a)(hn:H a=none):Un fs ex H (upd H a o) h h' where
 keep:=λb u q _ _ _=>k b u q
 slot:=λb u q _ _ _=>⟨u.slots,k b u q⟩
 free:=λb u q n _=>by rw[mT (oO (qz (nP q) hp))];exact n
 there:=λb u q _=>⟨u,k b u q⟩
 tups:=λb xs q=>by rw[mT (on q hn)];exact q
 frzs:=λb u xs q=>by rw[mT (on q hn)];exact q
 tbls:=λb ps q=>⟨#[],by rw[mT (on q hn),q];simp⟩
def Un.write (mu:zU (H x))(he:e=x\/H e=some (.own x))(k:∀b u,b≠e->h.get? b=some u->h'.get? b=some u)(heo:∃u,h'.get? e=some u):Un fs ex H (upd H x o) h h':=by
 have hx:∀b,H b=none->b≠x:=λb n z=>by subst z;rw[n]at mu;exact mu
 have hb:∀b,H b=none->b≠e:=λb n z=>by
  subst z;rcases he with r | r
  .exact hx b n r
  .rw[n]at r;cases r
 have hm:∀b u,H b=some u->¬zU (some u)->b≠x:=λb u q nm z=>by subst z;rw[q]at mu;exact nm mu
 refine⟨λb u q n _ _=>k b u (hb b n) q,λb u q n _ _=>⟨u.slots,k b u (hb b n) q⟩,λb u q n _=>by rw[mT (hx b n)];exact n,λb u q _=>?_,
  λb xs q=>by rw[mT (hm b _ q λz=>z)];exact q,λb u xs q=>by rw[mT (hm b _ q λz=>z)];exact q,λb ps q=>⟨#[],by rw[mT (hm b _ q λz=>z),q];simp⟩⟩
 by_cases hbe:b=e
 .subst hbe;exact heo
 .exact⟨u,k b u hbe q⟩
end
noncomputable def xB (h:Heap)(H:Hp):List AD:=(List.range h.objs.size).filter λa=>(H a).isSome
def iQ (h:Heap)(H:Hp):Heap:=hideAll h (xB h H)
def ZkA (h:Heap)(H:Hp):(iQ h H).objs.size=h.objs.size:=PySem.W.hideAll_size _ _
def Zl4 (e:h.get? b=some o)(n:H b=none):(iQ h H).get? b=some o:=
 hideAll_get _ e λhm=>by have q:(H b).isSome=true:=(qr.mp hm).2;rw[n]at q;simp at q
def ZnS (e:(iQ h H).get? b=some o):h.get? b=some o/\H b=none:=by
 have e':h.get? b=some o:=of_hideAll (xB h H) e;refine⟨e',?_⟩;cases q:H b with
 | none=>rfl
 | some x=>
  have hm:b∈xB h H:=qr.mpr ⟨oU.mpr (nP e'),by simp[q]⟩;have z:(iQ h H).get? b=none:=hideAll_none (xB h H) hm;rw[z]at e;cases e
def Zoy (g h:Heap)(L:AD):AA:=(List.range h.objs.size).filterMap λa=>if a=L\/(g.get? a).isSome=true then none else (h.get? a).map λo=>(a,o)
noncomputable def gx (g h:Heap)(L d:AD):AA:=(Zoy g h L).filter λp=>decide (p.1≠d)
structure Mod (K:Q4)(mg:AB)(base:Heap):Prop where
 kin:K.In base
 glob:base.Ns mainGlobals mg
 blt:∃mb,base.Ns builtinsNs mb/\∀x:Str,x≠"__name__"->mb x=bootBuiltins x
 nolimit:base.NoLimit
structure Cx where
 prog:AG
 w:AI
 K:Q4
 mg:AB
 base:Heap
 A:AH
 N:AJ
 s_0:AE
 H_0:Hp
 env:Env
 outer:List Env
 stack:List Env
 ex:List AD
 fn:Str->Bool
 calm:Bool
 pn:AA
 xe:oo
noncomputable def pz (l:List Env):List AD:=l.filterMap (·.frame)
abbrev Cx.fs (X:Cx):List AD:=pz X.outer
def yg (sc:Scope)(x:Str):Prop:=sc.names.lookup x=some .local\/sc.names.lookup x=some .cell\/sc.names.lookup x=some .free
def xu (sc:Scope)(x:Str):Prop:=sc.names.lookup x=some .local\/sc.names.lookup x=some .cell
def Look (env:Env)(h:Heap)(m:AB)(x:Str)(u:Value):Prop:=
 (env.kindOf x=some .local/\m x=some u)\/((env.kindOf x=some .cell\/env.kindOf x=some .free)/\∃c,env.cells.lookup x=some c/\h.IsCell c (some u))
structure Cx.Ok (X:Cx):Prop where
 mod:Mod X.K X.mg X.base
 kind:X.env.scope.kind=.function
 glob:X.env.globals=mainGlobals
 blt:X.env.builtins=builtinsNs
 above:X.s_0.heap.objs.size<=X.env.locals
 inj:∀x y c,X.env.cells.lookup x=some c->X.env.cells.lookup y=some c->x=y
 has:∀x,(X.env.kindOf x=some .cell\/X.env.kindOf x=some .free)->∃c,X.env.cells.lookup x=some c
 cab:∀x c,X.fn x=true->X.env.cells.lookup x=some c->X.s_0.heap.objs.size<=c
 hd:X.calm=true->X.A.handled=none
 frames:X.A.frames=some X.stack
 stk:X.stack=X.outer\/(X.stack=X.env::X.outer/\X.env.frame=some X.env.locals)
 exf:∀b∈X.ex,b≠X.env.locals/\∀x c,X.env.cells.lookup x=some c->c≠b
 bs:∀b o,X.base.get? b=some o->X.s_0.heap.get? b=some o/\X.H_0 b=none
 bsz:X.base.objs.size<=X.s_0.heap.objs.size
 noex:∀b o,X.base.get? b=some o->b∉X.ex
 exfs:∀b∈X.ex,b∉X.fs
 funs:X.s_0.heap.FunFrames X.base X.outer
 frf:∀b∈X.fs,X.H_0 b=none
structure mP (X:Cx)(Aq:AA)(U:List (Option V))(H:Hp)(s:AE):Prop where
 ok:X.Ok
 os:s.os=X.s_0.os
 bare:AllBare s.gens
 base:Un X.fs X.ex X.H_0 H X.s_0.heap s.heap
 loc:∃m,s.heap.Ns X.env.locals m/\∀(i:Nat) (x:Str) (v:V),X.N[i]?=some x->U[i]?=some (some v)->yg X.env.scope x->∃u,fZ v u/\Look X.env s.heap m x u
 cell:∀x c,X.env.cells.lookup x=some c->∃v,s.heap.IsCell c v
 free:H X.env.locals=none
 freeC:∀x c,X.env.cells.lookup x=some c->H c=none
 pin:∀p∈X.pn++Aq,s.heap.get? p.1=some p.2/\H p.1=none/\p.1≠X.env.locals/\p.1∉X.fs/\∀v,p.2.data≠.cell v
 hok:o7 X.prog X.w H s.heap
 len:U.length=X.N.length
section
variable {X:Cx}{Aq:AA}{U:List (Option V)}{H H':Hp}{s:AE}{h':Heap}
def Cx.Ok.nofr (ok:X.Ok){b:AD}{o:Obj}(e:X.base.get? b=some o):b∉X.fs:=λhb=>by have:=(ok.funs.mem hb).1;rw[e]at this;cases this
def mP.bs (I:mP X Aq U H s):∀b o,X.base.get? b=some o->s.heap.get? b=some o/\H b=none:=λb o e=>
 ⟨I.base.keep b o (I.ok.bs b o e).1 (I.ok.bs b o e).2 (I.ok.nofr e) (I.ok.noex b o e),I.base.free b o (I.ok.bs b o e).1 (I.ok.bs b o e).2 (I.ok.noex b o e)⟩
def mP.bk (I:mP X Aq U H s):∀b o,X.base.get? b=some o->s.heap.get? b=some o:=λb o e=>(I.bs b o e).1
def mP.mod (I:mP X Aq U H s):Mod X.K X.mg X.base:=I.ok.mod
def mP.kIn (I:mP X Aq U H s):X.K.In s.heap:=I.ok.mod.kin.keeps I.bk
def mP.lt (I:mP X Aq U H s):X.env.locals<s.heap.objs.size:=let ⟨_,hn,_⟩:=I.loc;hn.lt
def mP.sz (I:mP X Aq U H s):X.s_0.heap.objs.size<=s.heap.objs.size:=og I.ok.above (Nat.le_of_lt I.lt)
def mP.nofs (I:mP X Aq U H s){a:AD}(h:s.heap.objs.size<=a):a∉X.fs:=λhb=>by obtain⟨_,o,ho,_⟩:=I.ok.funs.mem hb;exact JO (qz (nP ho) (og I.sz h)) (qC _)
def mP.cne (I:mP X Aq U H s):∀x c,X.env.cells.lookup x=some c->c≠X.env.locals:=λx c e z=>by obtain⟨v,o,ho,hd⟩:=I.cell x c e;obtain⟨m,⟨o',es,ep,ho',hd',_⟩,_⟩:=I.loc;rw[z,ho']at ho;cases ho;rw[hd']at hd;cases hd
def mP.funs (I:mP X Aq U H s):s.heap.FunFrames X.base X.outer:=by
 have all:∀(l:List Env),(∀b∈pz l,b∈X.fs)->X.s_0.heap.FunFrames X.base l->s.heap.FunFrames X.base l:=by
  intro l;induction l with
  | nil=>intro _ _;trivial
  | cons env r ih=>
   intro hs hl;obtain⟨hk,⟨L,o,hf,hn,ho,hd⟩,hr⟩:=hl;have hL:L∈X.fs:=hs L (by unfold pz;rw[List.filterMap_cons,hf];exact pW);obtain⟨sl,e⟩:=I.base.slot L o ho (I.ok.frf L hL) hL λz=>I.ok.exfs L z hL;exact⟨hk,⟨L,_,hf,hn,e,hd⟩,ih (λb hb=>hs b (by unfold pz;rw[List.filterMap_cons,hf];exact pP _ hb)) hr⟩
 exact all X.outer (λ_ hb=>hb) I.ok.funs
def mP.stack (I:mP X Aq U H s):s.heap.FunFrames X.base X.stack:=by
 rcases I.ok.stk with e | ⟨e,hf⟩
 .rw[e];exact I.funs
 .rw[e];obtain⟨m,hn,_⟩:=I.loc;refine .cons (by rw[I.ok.kind];decide) hf hn ?_ I.funs;exact Heap.get?_none_of_le (og I.ok.bsz I.ok.above)
def mP.stkSub (I:mP X Aq U H s):∀b∈pz X.stack,b∈X.env.locals::X.fs:=λb hb=>by
 rcases I.ok.stk with e | ⟨e,hf⟩
 .rw[e]at hb;exact pP _ hb
 .rw[e]at hb;unfold pz at hb;rw[List.filterMap_cons,hf]at hb;exact hb
def mP.stkFree (I:mP X Aq U H s):∀b∈pz X.stack,H b=none:=λb hb=>by
 rcases ot.mp (I.stkSub b hb) with e | hb
 .rw[e];exact I.free
 .obtain⟨_,o,ho,_⟩:=I.ok.funs.mem hb;exact I.base.free b o ho (I.ok.frf b hb) λz=>I.ok.exfs b z hb
def mP.step {g':Array GenState}{t':Nat}{d':Drawn}{ch:List AD}(I:mP X Aq U H s)
  (hch:∀b∈ch,(b∈X.ex\/X.s_0.heap.objs.size<=b)/\b≠X.env.locals/\(∀x c,X.env.cells.lookup x=some c->c≠b)/\∀p∈X.pn++Aq,p.1≠b)
  (keep:∀b o,b≠X.env.locals->b∉X.fs->b∉ch->s.heap.get? b=some o->H b=none->h'.get? b=some o)
  (slot:∀b o,b≠X.env.locals->b∈X.fs->b∉ch->s.heap.get? b=some o->H b=none->∃sl,h'.get? b=some { o with slots:=sl }) (free:∀b o,b∉ch->s.heap.get? b=some o->H b=none->H' b=none)
  (there:∀b o,b∉ch->s.heap.get? b=some o->∃o',h'.get? b=some o')
  (tups:∀b xs,H b=some (.tup xs)->H' b=some (.tup xs)) (frzs:∀b o u,H b=some (.frz o u)->H' b=some (.frz o u)) (tbls:∀b ps,H b=some (.tbl ps)->∃more,H' b=some (.tbl (ps++more)))
  (ns:∀m,s.heap.Ns X.env.locals m->h'.Ns X.env.locals m) (hok:o7 X.prog X.w H' h') (hg:AllBare g'):
  mP X Aq U H' { s with heap:=h',gens:=g',drawn:=d',toks:=t' }:=by
 have neL:∀b o,X.s_0.heap.get? b=some o->b≠X.env.locals:=λb o e=>oO (qz (nP e) I.ok.above);have neC:∀b o,X.s_0.heap.get? b=some o->b∉X.ex->b∉ch:=λb o e hx hb=>by
  rcases (hch b hb).1 with z | z
  .exact hx z
  .exact JO (qz (nP e) z) (qC _)
 have cellK:∀x c,X.env.cells.lookup x=some c->∀v,s.heap.IsCell c v->h'.IsCell c v:=λx c e v ⟨o,ho,hd⟩=>by
  have nch:c∉ch:=λz=>(hch c z).2.2.1 x c e rfl;by_cases hc:c∈X.fs
  .obtain⟨sl,q⟩:=slot c o (I.cne x c e) hc nch ho (I.freeC x c e);exact⟨_,q,hd⟩
  .exact⟨o,keep c o (I.cne x c e) hc nch ho (I.freeC x c e),hd⟩
 refine⟨I.ok,I.os,hg,⟨λb o e n hb hx=>?_,λb o e n hb hx=>?_,λb o e n hx=>?_,λb o e hx=>?_,λb xs e=>tups b xs (I.base.tups b xs e),λb o xs e=>frzs b o xs (I.base.frzs b o xs e),λb ps e=>?_⟩,?_,λx c e=>?_,?_,λx c e=>?_,λp hp=>?_,hok,I.len⟩
 .exact keep b o (neL b o e) hb (neC b o e hx) (I.base.keep b o e n hb hx) (I.base.free b o e n hx)
 .obtain⟨sl,e1⟩:=I.base.slot b o e n hb hx;obtain⟨sl',e2⟩:=slot b _ (neL b o e) hb (neC b o e hx) e1 (I.base.free b o e n hx);exact⟨sl',e2⟩
 .obtain⟨o',e1⟩:=I.base.there b o e hx;exact free b o' (neC b o e hx) e1 (I.base.free b o e n hx)
 .obtain⟨o',e1⟩:=I.base.there b o e hx;exact there b o' (neC b o e hx) e1
 .obtain⟨m1,e1⟩:=I.base.tbls b ps e;obtain⟨m2,e2⟩:=tbls b _ e1;exact⟨m1++m2,by rw[e2,Array.append_assoc]⟩
 .obtain⟨m,hn,hl⟩:=I.loc;refine⟨m,ns m hn,λi x v e1 e2 e3=>?_⟩;obtain⟨u,r,l⟩:=hl i x v e1 e2 e3;refine⟨u,r,?_⟩;rcases l with l | ⟨k,c,e,z⟩
  .exact .inl l
  .exact .inr ⟨k,c,e,cellK x c e _ z⟩
 .obtain⟨v,z⟩:=I.cell x c e;exact⟨v,cellK x c e v z⟩
 .obtain⟨m,⟨o,_,_,ho,_⟩,_⟩:=I.loc;exact free _ o (λz=>(hch _ z).2.1 rfl) ho I.free
 .obtain⟨v,o,ho,hd⟩:=I.cell x c e;exact free c o (λz=>(hch c z).2.2.1 x c e rfl) ho (I.freeC x c e)
 .obtain⟨e,n,ne,nf,d⟩:=I.pin p hp;have nch:p.1∉ch:=λz=>(hch p.1 z).2.2.2 p hp rfl;exact⟨keep p.1 p.2 ne nf nch e n,free p.1 p.2 nch e n,ne,nf,d⟩
def mP.un (I:mP X Aq U H s)(u:Un X.fs [] H H' s.heap h')(hok:o7 X.prog X.w H' h'):mP X Aq U H' { s with heap:=h',toks:=t' }:=by
 obtain⟨m,⟨o,es,ep,ho,r⟩,_⟩:=id I.loc;obtain⟨sl,hL⟩:=u.any ho I.free {};exact I.step (g':=s.gens) (d':=s.drawn) (ch:=[]) (λ_ z=>nomatch z) (λb o _ hb _ e n=>u.keep b o e n hb {}) (λb o _ hb _ e n=>u.slot b o e n hb {}) (λb o _ e n=>u.free b o e n {}) (λb o _ e=>u.there b o e {}) u.tups u.frzs u.tbls (λm' hm=>by obtain⟨o',es',ep',ho',r'⟩:=hm;rw[ho]at ho';cases ho';exact⟨_,es',ep',hL,r'⟩) hok I.bare
def mP.call (I:mP X Aq U H s)(u:Un (pz X.stack) ch H H' s.heap h')(hok:o7 X.prog X.w H' h')(hg:AllBare g')
  (hch:∀b∈ch,(b∈X.ex\/X.s_0.heap.objs.size<=b)/\b≠X.env.locals/\(∀x c,X.env.cells.lookup x=some c->c≠b)/\∀p∈X.pn++Aq,p.1≠b):
  mP X Aq U H' { s with heap:=h',gens:=g',drawn:=d',toks:=t' }:=by
 obtain⟨m,⟨o,es,ep,ho,r⟩,_⟩:=id I.loc;obtain⟨sl,hL⟩:=u.any ho I.free λz=>(hch _ z).2.1 rfl;exact I.step (ch:=ch) hch (λb o hL hb hc e n=>u.keep b o e n (λz=>(ot.mp (I.stkSub b z)).elim hL hb) hc) (λb o _ _ hc e n=>u.any e n hc) (λb o hc e n=>u.free b o e n hc) (λb o hc e=>u.there b o e hc) u.tups u.frzs u.tbls (λm' hm=>by obtain⟨o',es',ep',ho',r'⟩:=hm;rw[ho]at ho';cases ho';exact⟨_,es',ep',hL,r'⟩) hok hg
def mP.turned (I:mP X Aq U H s)(k:∀b o,b≠it->s.heap.get? b=some o->h'.get? b=some o)(hn:H it=none)(hL:it≠X.env.locals)
  (h1:it∈X.ex\/X.s_0.heap.objs.size<=it) (h2:∀x c,X.env.cells.lookup x=some c->c≠it) (h3:∀p∈X.pn++Aq,p.1≠it):mP X Aq U H { s with heap:=h',toks:=t' }:=by
 have nit:∀b u,H b=some u->b≠it:=λb u e z=>by rw[z,hn]at e;cases e
 refine I.step (g':=s.gens) (d':=s.drawn) (ch:=[it]) (λb hb=>?_) (λb o _ _ hc e _=>k b o (λz=>hc (by simp[z])) e) (λb o _ _ hc e _=>⟨o.slots,k b o (λz=>hc (by simp[z])) e⟩) (λ_ _ _ _ n=>n)
  (λb o hc e=>⟨o,k b o (λz=>hc (by simp[z])) e⟩) (λ_ _ e=>e) (λ_ _ _ e=>e) (λb ps e=>⟨#[],by rw[e];simp⟩) (λm hm=>?_) (λb u e=>?_) I.bare
 .have e:b=it:=by simpa using hb
  subst e;exact⟨h1,hL,h2,h3⟩
 .obtain⟨o,es,ep,ho,r⟩:=hm;exact⟨o,es,ep,k _ o (nX hL) ho,r⟩
 .refine(I.hok b u e).stay (λc v hc q=>k c v ?_ q) (λ_ q=>q) λ_ _ q=>q;rcases hc with z | z
  .rw[z];exact nit b u e
  .exact nit c _ z
def mP.tok (I:mP X Aq U H s)(t:Nat):mP X Aq U H { s with toks:=t }:=I.un (h':=s.heap) (t':=t) Un.refl I.hok
def mP.kept (I:mP X Aq U H s)(k:∀b u,s.heap.get? b=some u->h'.get? b=some u):mP X Aq U H { s with heap:=h',toks:=t' }:=I.un (Un.kept k) (I.hok.kept k)
def mP.laid (I:mP X Aq U H s)(k:∀b u,s.heap.get? b=some u->h'.get? b=some u)(hp:s.heap.objs.size<=a)(new:gg X.prog X.w (upd H a o) h' a o):
  mP X Aq U (upd H a o) { s with heap:=h',toks:=t' }:=I.un (Un.laid k hp (I.hok.fresh hp)) (I.hok.laid k hp new)
def mP.write (I:mP X Aq U H s)(mu:zU (H x))(he:e=x\/H e=some (.own x))(k:∀b u,b≠e->s.heap.get? b=some u->h'.get? b=some u)(heo:∃u,h'.get? e=some u)
  (new:gg X.prog X.w (upd H x o) h' x o):mP X Aq U (upd H x o) { s with heap:=h',toks:=t' }:=I.un (Un.write mu he k heo) (I.hok.write mu he k heo new)
def mP.pins_of (I:mP X Aq U H s)(h:∀p∈pins',s.heap.get? p.1=some p.2/\H p.1=none/\p.1≠X.env.locals/\p.1∉X.fs/\∀v,p.2.data≠.cell v):mP X pins' U H s:=
 ⟨I.ok,I.os,I.bare,I.base,I.loc,I.cell,I.free,I.freeC,λp hp=>(oV.mp hp).elim (λz=>I.pin p (uW _ z)) (h p),I.hok,I.len⟩
def DZ {N:AJ}(hN:N.Nodup){i j:Nat}{x:Str}(a:N[i]?=some x)(b:N[j]?=some x):i=j:=by obtain⟨h1,e1⟩:=oM.mp a;obtain⟨h2,e2⟩:=oM.mp b;exact(List.getElem_inj hN).mp (e1.trans e2.symm)
def G8 (I:mP X Aq U H s)(hN:X.N.Nodup)(hi:X.N[i]?=some x)(hx:xu X.env.scope x)(r:fZ v u)
  (h:∀s',mP X Aq (U.set i (some v)) H s'->(∃a,Heap.SameBut a s.heap s'.heap/\(a=X.env.locals\/X.env.cells.lookup x=some a))->Q () s') (hf:X.fn x=true\/X.env.scope.names.lookup x=some .local:=by first | exact .inl rfl | exact .inr rfl | assumption):wpAny M A (storeName X.env x u) Q E s:=by
 obtain⟨m,hn,hl⟩:=id I.loc;have hcls:(X.env.scope.kind == .class || (X.env.scope.kind == .module&&X.env.locals != X.env.globals))=false:=by rw[I.ok.kind];rfl
 have hiU:i<U.length:=by rw[I.len];exact(oM.mp hi).1
 have cne:=I.cne;have tracked:∀ {a:AD} {h':Heap},(∃o,s.heap.get? a=some o/\H a=none)->Heap.SameBut a s.heap h'->o7 X.prog X.w H h':=λ{a h'} ha hs b ob e=>by
  obtain⟨_,_,hfree⟩:=ha;refine(I.hok b ob e).stay (λc w' hc q=>(hs.2 c ?_).trans q) (λ_ q=>q) λ_ _ q=>q;rintro rfl;rcases hc with rfl | hc
  .rw[hfree]at e;cases e
  .rw[hfree]at hc;cases hc
 rcases hx with hk | hk
 .refine wpAny_storeName_local hk hn (λh' hn' hs=>?_) hcls;obtain⟨oL,_,_,hoL,_⟩:=id hn;refine h _ ⟨I.ok,I.os,I.bare,⟨λb o e n hb hx=>?_,λb o e n hb hx=>?_,I.base.free,λb o e hx=>?_,I.base.tups,I.base.frzs,I.base.tbls⟩,⟨_,hn',λj y v' e1 e2 e3=>?_⟩,λy c e=>?_,I.free,I.freeC,λp hp=>?_,tracked ⟨oL,hoL,I.free⟩ hs,~~~I.len⟩ ⟨_,hs,.inl rfl⟩
  .exact(hs.2 b (oO (qz (nP e) I.ok.above))).trans (I.base.keep b o e n hb hx)
  .obtain⟨sl,e1⟩:=I.base.slot b o e n hb hx;exact⟨sl,(hs.2 b (oO (qz (nP e) I.ok.above))).trans e1⟩
  .obtain⟨o',e1⟩:=I.base.there b o e hx;exact⟨o',(hs.2 b (oO (qz (nP e) I.ok.above))).trans e1⟩
  .by_cases hj:j=i
   .subst hj;rw[hi]at e1;cases e1;rw[List.getElem?_set_self hiU]at e2;cases e2;exact⟨u,r,.inl ⟨hk,{}⟩⟩
   .rw[List.getElem?_set_ne (nX hj)]at e2;obtain⟨u',r',q⟩:=hl j y v' e1 e2 e3;refine⟨u',r',?_⟩;rcases q with⟨k,e⟩|⟨k,c,e,z⟩
    .refine .inl ⟨k,?_⟩;have:y≠x:=λe=>hj (DZ hN e1 (e▸hi));simp[this,e]
    .exact .inr ⟨k,c,e,z.sameBut hs (cne y c e)⟩
  .obtain⟨w',z⟩:=I.cell y c e;exact⟨w',z.sameBut hs (cne y c e)⟩
  .obtain⟨e,n,ne,nf,d⟩:=I.pin p hp;exact⟨(hs.2 p.1 ne).trans e,n,ne,nf,d⟩
 .have hfn:X.fn x=true:=by
   rcases hf with z | z
   .exact z
   .rw[z]at hk;cases hk
  obtain⟨c,hc⟩:=I.ok.has x (.inl hk);obtain⟨w',z⟩:=I.cell x c hc;refine wpAny_storeName_cell I.ok.kind hk hc z (λh' hc' hs=>?_);obtain⟨oc,hoc,hocd⟩:=id z;refine h { s with heap:=h' } ⟨I.ok,I.os,I.bare,⟨λb o e n hb hx=>?_,λb o e n hb hx=>?_,I.base.free,λb o e hx=>?_,I.base.tups,I.base.frzs,I.base.tbls⟩,⟨m,hn.sameBut hs (nX (cne x c hc)),λj y v' e1 e2 e3=>?_⟩,λy c' e=>?_,I.free,I.freeC,λp hp=>?_,tracked ⟨oc,hoc,I.freeC x c hc⟩ hs,~~~I.len⟩ ⟨c,hs,.inr hc⟩
  .exact(hs.2 b (oO (qz (nP e) (I.ok.cab x c hfn hc)))).trans (I.base.keep b o e n hb hx)
  .obtain⟨sl,e1⟩:=I.base.slot b o e n hb hx;exact⟨sl,(hs.2 b (oO (qz (nP e) (I.ok.cab x c hfn hc)))).trans e1⟩
  .obtain⟨o',e1⟩:=I.base.there b o e hx;exact⟨o',(hs.2 b (oO (qz (nP e) (I.ok.cab x c hfn hc)))).trans e1⟩
  .by_cases hj:j=i
   .subst hj;rw[hi]at e1;cases e1;rw[List.getElem?_set_self hiU]at e2;cases e2;exact⟨u,r,.inr ⟨.inl hk,c,hc,hc'⟩⟩
   .rw[List.getElem?_set_ne (nX hj)]at e2;obtain⟨u',r',q⟩:=hl j y v' e1 e2 e3;refine⟨u',r',?_⟩;rcases q with q | ⟨k,c',e,z'⟩
    .exact .inl q
    .refine .inr ⟨k,c',e,z'.sameBut hs ?_⟩;rintro rfl;exact hj (DZ hN e1 (I.ok.inj _ _ _ e hc▸hi))
  .by_cases hcc:c'=c
   .subst hcc;exact⟨_,hc'⟩
   .obtain⟨w2,z2⟩:=I.cell y c' e;exact⟨w2,z2.sameBut hs hcc⟩
  .obtain⟨e,n,ne,nf,d⟩:=I.pin p hp;refine⟨(hs.2 p.1 ?_).trans e,n,ne,nf,d⟩;intro q;rw[q,hoc]at e;have q':oc=p.2:=Option.some.inj e;exact d w' (by rw[<-q'];exact hocd)
def A3 (I:mP X Aq U H s)(hN:X.N.Nodup)(hi:X.N[i]?=some x)(hx:xu X.env.scope x)(r:fZ v u)
  (h:∀s',mP X Aq (U.set i (some v)) H s'->Q () s') (hf:X.fn x=true\/X.env.scope.names.lookup x=some .local:=by first | exact .inl rfl | exact .inr rfl | assumption):wpAny M A (storeName X.env x u) Q E s:=
 G8 I hN hi hx r (λs' I' _=>h s' I') hf
def mP.call' (I:mP X Aq U H s)(ho:s'.os=s.os)(u:Un (pz X.stack) ch H H' s.heap s'.heap)(hok:o7 X.prog X.w H' s'.heap)(hg:AllBare s'.gens)
  (hch:∀b∈ch,(b∈X.ex\/X.s_0.heap.objs.size<=b)/\b≠X.env.locals/\(∀x c,X.env.cells.lookup x=some c->c≠b)/\∀p∈X.pn++Aq,p.1≠b):mP X Aq U H' s':=by
 obtain⟨h',g',d',t',o'⟩:=s';have e:o'=s.os:=ho;subst e;exact I.call (g':=g') (t':=t') (d':=d') u hok hg hch
end
abbrev XK:=Value->Option AD->Hp->Prop
abbrev St:=List (Option V)
abbrev VK:=V->Hp->Prop
abbrev TE:=St->Hp->VK->Prop
abbrev TT:=St->Hp->(Bool->Hp->Prop)->Prop
abbrev TA:=St->Hp->(JR->Hp->Prop)->Prop
structure ia where
 nx:St->Hp->Prop
 rt:VK
 bk:St->Hp->Prop:=λ_ _=>False
 ct:St->Hp->Prop:=λ_ _=>False
abbrev TS:=ia->St->Hp->Prop
def EP (X:Cx)(Aq:AA)(U:St)(Q:VK)(u:Value)(s':AE):Prop:=∃v H',mP X Aq U H' s'/\fZ v u/\Q v H'
def TP (X:Cx)(Aq:AA)(U:St)(Q:Bool->Hp->Prop)(b:Bool)(s':AE):Prop:=∃H',mP X Aq U H' s'/\Q b H'
def AP (X:Cx)(Aq:AA)(U:St)(Q:JR->Hp->Prop)(us:AC)(s':AE):Prop:=∃vs H',mP X Aq U H' s'/\fV vs us/\Q vs H'
def SP (X:Cx)(Aq:AA)(D:ia)(f:Flow)(s':AE):Prop:=
 match f with
 | .next=>∃U' H',mP X Aq U' H' s'/\D.nx U' H'
 | .brk=>∃U' H',mP X Aq U' H' s'/\D.bk U' H'
 | .cont=>∃U' H',mP X Aq U' H' s'/\D.ct U' H'
 | .ret u=>∃v U' H',mP X Aq U' H' s'/\fZ v u/\D.rt v H'
def PE (X:Cx)(e:Expr)(t:TE):Prop:=
 ∀(Aq:AA) (s:AE) (U:St) (H:Hp) (Q:VK),mP X Aq U H s->t U H Q->wpAny (model X.prog X.w) X.A (eval e X.env) (EP X Aq U Q) X.xe s
def PT (X:Cx)(e:Expr)(t:TT):Prop:=
 ∀(Aq:AA) (s:AE) (U:St) (H:Hp) (Q:Bool->Hp->Prop),mP X Aq U H s->t U H Q->wpAny (model X.prog X.w) X.A (isTrue e X.env (eval e X.env)) (TP X Aq U Q) X.xe s
def PW (X:Cx)(e:Expr)(t:TT):Prop:=
 ∀(whole:Sem Value) (Aq:AA) (s:AE) (U:St) (H:Hp) (Q:Bool->Hp->Prop),mP X Aq U H s->t U H Q->wpAny (model X.prog X.w) X.A (isTrue e X.env whole) (TP X Aq U Q) X.xe s
def PW.pt (h:PW X e t):PT X e t:=h _
def PA (X:Cx)(es:List Expr)(t:TA):Prop:=
 ∀(pos:Pos) (Aq:AA) (s:AE) (U:St) (H:Hp) (Q:JR->Hp->Prop),mP X Aq U H s->t U H Q->wpAny (model X.prog X.w) X.A (spliced (backTo pos (starEach es X.env))) (AP X Aq U Q) X.xe s
def PS (X:Cx)(st:Stmt)(t:TS):Prop:=
 ∀(Aq:AA) (s:AE) (U:St) (H:Hp) (D:ia),mP X Aq U H s->t D U H->wpAny (model X.prog X.w) X.A (exec st X.env) (SP X Aq D) X.xe s
def rn (X:Cx)(st:List Stmt)(t:TS):Prop:=
 ∀(Aq:AA) (s:AE) (U:St) (H:Hp) (D:ia),mP X Aq U H s->t D U H->wpAny (model X.prog X.w) X.A (execs st X.env) (SP X Aq D) X.xe s
def m8 (h:wpAny M A t Q E s)(hQ:∀a s,Q a s->Q' a s):wpAny M A t Q' E s:=qF h hQ λ_ _ x=>x
section
variable {X:Cx}
abbrev xK (x:V)(p:Bool->Prop):Prop:=match x with | .bl c=>p c | _=>False
def yE (h:xK x p):∃c,x=.bl c/\p c:=by cases x<;>first | exact⟨_,rfl,h⟩ | exact False.elim h
def CS (o:Option (Option V))(p:V->Prop):Prop:=match o with | some (some v)=>p v | _=>False
def ZpL (h:CS o p):∃v,o=some (some v)/\p v:=by
 match o,h with | some (some v),h=>exact⟨v,rfl,h⟩
def kP (i:Nat):TE:=λU H Q=>CS U[i]? λv=>Q v H
def tC (v:V):TE:=λ_ H Q=>Q v H
def Zpf (hN:X.N[i]?=some x) (hv:yg X.env.scope x) (hd:(x == ("__debug__":Str))=false:=by decide) (hcd:(x == ("__classdict__":Str))=false:=by decide):PE X (.Name x pos) (kP i):=by
 intro Aq s U H Q I h;obtain⟨v,e,h⟩:=ZpL h;obtain⟨m,hn,hl⟩:=I.loc;obtain⟨u,r,l⟩:=hl i x v hN e hv;have fin:EP X Aq U Q u s:=⟨v,H,I,r,h⟩;rcases l with⟨hk,hm⟩|⟨hk,c,hc,hcell⟩
 .exact wpAny_Name (wpAny_loadName_local I.ok.kind hk hn hm fin) hd
 .rcases hk with hk | hk
  .exact wpAny_Name (wpAny_loadName_cell I.ok.kind hk hc hcell fin) hd
  .exact wpAny_Name (wpAny_loadName_free I.ok.kind hk hc hcell fin hcd) hd
def mX {i j pos}:PE X (.Constant (.int i) j pos) (tC (.int i)):=λ_ _ _ H _ I h=>wpAny_Constant_int ⟨.int i,H,I.tok _,⟨_,rfl⟩,h⟩
def qk {b j pos}:PE X (.Constant (.bool b) j pos) (tC (.bl b)):=λ_ _ _ H _ I h=>Constant_bool ⟨.bl b,H,I,rfl,h⟩
def sj {j pos}:PE X (.Constant .none j pos) (tC .non):=λ_ _ _ H _ I h=>Constant_none ⟨.non,H,I,rfl,h⟩
def Zpg {x j pos}:PE X (.Constant (.str x) j pos) (tC (.str x)):=λ_ _ _ H _ I h=>Calls.Constant_str ⟨.str x,H,I.tok _,⟨_,rfl⟩,h⟩
def Gl (X:Cx)(x:Str):Prop:=X.env.kindOf x=some .globalImplicit
def vG (I:mP X Aq U H s)(hg:Gl X x)(hm:X.mg x=some u)(h:Q u s)
  (hd:(x == ("__debug__":Str))=false:=by decide):wpAny (model X.prog X.w) X.A (eval (.Name x pos) X.env) Q E s:=
 Calls.Name_function_global I.ok.kind hg (Calls.loadGlobal_global (by rw[I.ok.glob];exact I.mod.glob.keeps I.bk) hm h) hd
def uQ (I:mP X Aq U H s)(hg:Gl X x)(hm:X.mg x=none)(hv:bootBuiltins x=some u)(h:Q u s)
  (hn:x≠"__name__":=by decide) (hd:(x == ("__debug__":Str))=false:=by decide):wpAny (model X.prog X.w) X.A (eval (.Name x pos) X.env) Q E s:=by
 obtain⟨mb,h1,h2⟩:=I.mod.blt;exact Calls.Name_function_global I.ok.kind hg (Calls.loadGlobal_builtin (by rw[I.ok.glob];exact I.mod.glob.keeps I.bk) hm (by rw[I.ok.blt];exact h1.keeps I.bk) ((h2 x hn).trans hv) h) hd
def BE (hg:Gl X x) (hm:X.mg x=some u) (r:fZ v u) (hd:(x == ("__debug__":Str))=false:=by decide):PE X (.Name x pos) (tC v):=
 λ_ _ _ H _ I h=>vG I hg hm ⟨v,H,I,r,h⟩ hd
def qc (hg:Gl X x) (hm:X.mg x=none) (hv:bootBuiltins x=some u) (r:fZ v u) (hn:x≠"__name__":=by decide) (hd:(x == ("__debug__":Str))=false:=by decide):PE X (.Name x pos) (tC v):=
 λ_ _ _ H _ I h=>uQ I hg hm hv ⟨v,H,I,r,h⟩ hn hd
variable {a b:Expr}{ta tb:TE}{pos:Pos}
def PC (X:Cx)(op:CmpOp)(a b:Expr)(t:TE):Prop:=
 ∀(Aq:AA) (s:AE) (U:St) (H:Hp) (Q:VK),mP X Aq U H s->t U H Q ->
  wpAny (model X.prog X.w) X.A (eval a X.env) (λv s_1=>wpAny (model X.prog X.w) X.A (eval b X.env) (λu s_2=>wpAny (model X.prog X.w) X.A (compareOp op v u) (EP X Aq U Q) X.xe s_2) X.xe s_1) X.xe s
def ZlO (b:Expr){op:CmpOp}(h:op≠.In)(h2:op≠.NotIn):behindInMarks op b=false:=by
 have e1:(op == CmpOp.In)=false:=by cases op<;>first | rfl | exact JO rfl h
 have e2:(op == CmpOp.NotIn)=false:=by cases op<;>first | rfl | exact JO rfl h2
 cases b<;>simp[behindInMarks,e1,e2]
def tB (t:TE):TT:=λU H Q=>t U H λx H1=>xK x λc=>Q c H1
def Zpa (h:PC X op a b t)(h1:behindInMarks op b=false:=by first | exact ZlO _ ⋯ ⋯ | rfl):PT X (.Compare a [op] [b] pos) (tB t):=by intro Aq s U H Q I hw;refine wpAny_isTrue_Compare1 (m8 (h Aq s U H _ I hw) λv s1 h1=>m8 h1 λu s2 h2=>m8 h2 λc s3 zz=>?_) h1;obtain⟨x,H1,I1,r1,q1⟩:=zz;obtain⟨d,rfl,q⟩:=yE q1;cases r1;exact u9 ⟨H1,I1,q⟩
def qu (h:PE X e t)(he:∀whole,isTrue e X.env whole=(do let v <-whole;standAt e.pos;holding [v] (truthy v)):=by intro _;rfl):PT X e (tB t):=by intro Aq s U H Q I hw;refine isTrue_plain (m8 (h Aq s U H _ I hw) λv s1 zz=>?_) (he _);obtain⟨x,H1,I1,r1,q1⟩:=zz;obtain⟨d,rfl,q⟩:=yE q1;cases r1;exact u9 ⟨H1,I1,q⟩
variable {tA tB':TT}{gx:List Expr}
def tAnd (t u:TT):TT:=λU H Q=>t U H λc H1=>if c=true then u U H1 Q else Q false H1
def Fv (t u:TT):TT:=λU H Q=>t U H λc H1=>if c=true then Q true H1 else u U H1 Q
def tNot (t:TT):TT:=λU H Q=>t U H λc H1=>Q (!c) H1
def y9 (ha:PT X a tA):PW X (.BoolOp .And [a] pos) tA:=by
 intro wh Aq s U H Q I h;refine isTrue_and (m8 (ha Aq s U H Q I h) λc s1 e=>?_);cases c with
 | true=>exact isTrue_and_nil e
 | false=>exact e
def vD (ha:PT X a tA):PW X (.BoolOp .Or [a] pos) tA:=by
 intro wh Aq s U H Q I h;refine isTrue_or (m8 (ha Aq s U H Q I h) λc s1 e=>?_);cases c with
 | false=>exact isTrue_or_nil e
 | true=>exact e
def zW (ha:PT X a tA)(hb:PW X (.BoolOp .And (b::gx) pos) tB'):PW X (.BoolOp .And (a::b::gx) pos) (tAnd tA tB'):=by
 intro wh Aq s U H Q I h;refine isTrue_and (m8 (ha Aq s U H _ I h) λc s1 zz=>?_);obtain⟨H1,I1,q1⟩:=zz;cases c with
 | true=>exact hb wh Aq s1 U H1 Q I1 q1
 | false=>exact⟨H1,I1,q1⟩
def uM (ha:PT X a tA)(hb:PW X (.BoolOp .Or (b::gx) pos) tB'):PW X (.BoolOp .Or (a::b::gx) pos) (Fv tA tB'):=by
 intro wh Aq s U H Q I h;refine isTrue_or (m8 (ha Aq s U H _ I h) λc s1 zz=>?_);obtain⟨H1,I1,q1⟩:=zz;cases c with
 | true=>exact⟨H1,I1,q1⟩
 | false=>exact hb wh Aq s1 U H1 Q I1 q1
def rY (ha:PT X a tA):PT X (.UnaryOp .Not a pos) (tNot tA):=by intro Aq s U H Q I h;exact isTrue_not (ha Aq s U H (λc H1=>Q (!c) H1) I h)
def FB (ta tb:TE):TE:=λU H Q=>ta U H λx H1=>xK x λc=>if c=true then tb U H1 Q else Q (.bl false) H1
def tOrV (ta tb:TE):TE:=λU H Q=>ta U H λx H1=>xK x λc=>if c=true then Q (.bl true) H1 else tb U H1 Q
def ub {op}{t:TE}(h:PE X a t):PE X (.BoolOp op [a] pos) t:=λAq s U H Q I hw=>BoolOp_one (h Aq s U H Q I hw)
def sM (ha:PE X a ta)(hb:PE X (.BoolOp .And (b::gx) pos) tb):PE X (.BoolOp .And (a::b::gx) pos) (FB ta tb):=by
 intro Aq s U H Q I h;refine BoolOp_and (m8 (ha Aq s U H _ I h) λv s1 zz=>?_);obtain⟨x,H1,I1,r1,q1⟩:=zz;obtain⟨c,rfl,q1⟩:=yE q1;cases r1;refine u9 ?_;cases c with
 | true=>exact hb Aq s1 U H1 Q I1 q1
 | false=>exact⟨.bl false,H1,I1,rfl,q1⟩
def Zrn (ha:PE X a ta)(hb:PE X (.BoolOp .Or (b::gx) pos) tb):PE X (.BoolOp .Or (a::b::gx) pos) (tOrV ta tb):=by
 intro Aq s U H Q I h;refine BoolOp_or (m8 (ha Aq s U H _ I h) λv s1 zz=>?_);obtain⟨x,H1,I1,r1,q1⟩:=zz;obtain⟨c,rfl,q1⟩:=yE q1;cases r1;refine u9 ?_;cases c with
 | false=>exact hb Aq s1 U H1 Q I1 q1
 | true=>exact⟨.bl true,H1,I1,rfl,q1⟩
def IS (t:TT)(ta tb:TE):TE:=λU H Q=>t U H λc H1=>if c=true then ta U H1 Q else tb U H1 Q
def ZlD (hc:PT X c tA)(ha:PE X a ta)(hb:PE X b tb):PE X (.IfExp c a b pos) (IS tA ta tb):=by
 intro Aq s U H Q I h;refine wpAny_IfExp (m8 (hc Aq s U H _ I h) λd s1 zz=>?_);obtain⟨H1,I1,q1⟩:=zz;cases d with
 | true=>exact ha Aq s1 U H1 Q I1 q1
 | false=>exact hb Aq s1 U H1 Q I1 q1
end
def oj (K:Q4)(H:Hp)(a:AD)(xs:JR):Prop:=
 Rd H a (.lst xs) \/
  ∃(o:Obj) (its:Array Value) (n:Nat),K.lookup a=some o/\o.cls=.type "list"/\o.dict=none/\o.data=.seq its n/\its.size<=sizeLine/\fV xs its.toList
def oW (K:Q4)(H:Hp)(a:AD)(xs:JR):Prop:=
 Rd H a (.tup xs) \/
  ∃(o:Obj) (its:Array Value) (n:Nat),K.lookup a=some o/\o.cls=.type "tuple"/\o.data=.seq its n/\its.size<=sizeLine/\fV xs its.toList
noncomputable def absV:Value->Option V
 | .none=>some .non
 | .bool b=>some (.bl b)
 | .int i _=>some (.int i)
 | .str x _=>some (.str x)
 | .bytes b _=>some (.byt b)
 | .float b _=>some (.flt b)
 | .ref a=>some (.ref a)
 | .type n=>some (.ty n)
 | _=>none
def fZ.abs (r:fZ x u):absV u=some x:=by
 cases x with
 | non=>cases r;rfl
 | bl _=>cases r;rfl
 | int _=>obtain⟨t,rfl⟩:=r;rfl
 | str _=>obtain⟨t,rfl⟩:=r;rfl
 | byt _=>obtain⟨t,rfl⟩:=r;rfl
 | flt _=>obtain⟨t,rfl⟩:=r;rfl
 | ref _=>cases r;rfl
 | ty _=>cases r;rfl
def fZ.inj (r:fZ x u)(q:fZ y u):x=y:=Option.some.inj (r.abs.symm.trans q.abs)
theorem fV.inj:∀ {xs ys:JR} {us:AC},fV xs us->fV ys us->xs=ys
 | _,_,_,.nil,.nil=>rfl
 | _,_,_,.cons r t,.cons r' t'=>by rw[r.inj r',fV.inj t t']
section
def mP.list (I:mP X Aq U H s)(h:oj X.K H a xs):∃its:AC,fV xs its/\PlainL s.heap a its.toArray/\xs.length<=sizeLine:=by
 rcases h with h | ⟨o,its,n,hk,hc,hd,hs,hz,r⟩
 .obtain⟨z,its,n,r,e⟩:=h.ok I.hok;exact⟨its,r,⟨_,n,e,rfl,rfl,rfl⟩,z⟩
 .refine⟨its.toList,r,⟨o,n,I.kIn a o hk,hc,hd,~~~hs⟩,?_⟩;have e:=r.length;simp only[pB]at e
  lia
def mP.tuple (I:mP X Aq U H s)(h:oW X.K H a xs):∃its:AC,fV xs its/\IsTup s.heap a its.toArray/\xs.length<=sizeLine:=by
 rcases h with h | ⟨o,its,n,hk,hc,hs,hz,r⟩
 .obtain⟨z,its,r,p⟩:=h.ok I.hok;exact⟨its,r,p,z⟩
 .refine⟨its.toList,r,⟨o,I.kIn a o hk,hc,n,~~~hs⟩,?_⟩;have e:=r.length;simp only[pB]at e
  lia
def mP.list_inj (I:mP X Aq U H s)(h:oj X.K H a xs)(h':oj X.K H a ys):xs=ys:=by
 obtain⟨its,r,⟨o,n,e,_,_,d⟩,_⟩:=I.list h;obtain⟨its',r',⟨o',n',e',_,_,d'⟩,_⟩:=I.list h';rw[e]at e';cases e';rw[d]at d';injection d' with d1 _;have:its=its':=by simpa using JN Array.toList d1
 subst this;exact r.inj r'
def mP.tuple_inj (I:mP X Aq U H s)(h:oW X.K H a xs)(h':oW X.K H a ys):xs=ys:=by
 obtain⟨its,r,⟨o,e,_,n,d⟩,_⟩:=I.tuple h;obtain⟨its',r',⟨o',e',_,n',d'⟩,_⟩:=I.tuple h';rw[e]at e';cases e';rw[d]at d';injection d' with d1 _;have:its=its':=by simpa using JN Array.toList d1
 subst this;exact r.inj r'
end
noncomputable abbrev Cx.wish (X:Cx)(E:oo):Cx:={ X with xe:=E }
abbrev Cx.nox (X:Cx):Cx:=X.wish λ_ _=>False
def Cx.Ok.wish {X:Cx}(ok:X.Ok)(E:oo):(X.wish E).Ok:=
 ⟨ok.mod,ok.kind,ok.glob,ok.blt,ok.above,ok.inj,ok.has,ok.cab,ok.hd,ok.frames,ok.stk,ok.exf,ok.bs,ok.bsz,ok.noex,ok.exfs,ok.funs,ok.frf⟩
def Cx.Ok.unwish {X:Cx}{E:oo}(ok:(X.wish E).Ok):X.Ok:=
 ⟨ok.mod,ok.kind,ok.glob,ok.blt,ok.above,ok.inj,ok.has,ok.cab,ok.hd,ok.frames,ok.stk,ok.exf,ok.bs,ok.bsz,ok.noex,ok.exfs,ok.funs,ok.frf⟩
section
def mP.wish (I:mP X Aq U H s)(E:oo):mP (X.wish E) Aq U H s:=⟨I.ok.wish E,I.os,I.bare,I.base,I.loc,I.cell,I.free,I.freeC,I.pin,I.hok,I.len⟩
def mP.unwish (I:mP (X.wish E) Aq U H s):mP X Aq U H s:=⟨I.ok.unwish,I.os,I.bare,I.base,I.loc,I.cell,I.free,I.freeC,I.pin,I.hok,I.len⟩
def SP.unwish (h:SP (X.wish E) Aq D f s'):SP X Aq D f s':=by
 cases f with
 | next=>obtain⟨U',H',I,q⟩:=h;exact⟨U',H',I.unwish,q⟩
 | brk=>obtain⟨U',H',I,q⟩:=h;exact⟨U',H',I.unwish,q⟩
 | cont=>obtain⟨U',H',I,q⟩:=h;exact⟨U',H',I.unwish,q⟩
 | ret u=>obtain⟨v,U',H',I,r,q⟩:=h;exact⟨v,U',H',I.unwish,r,q⟩
def rn.nox {st:List Stmt}{t:TS}(h:rn X.nox st t):rn X st t:=λAq s U H D I hw=>
 qF (h Aq s U H D (I.wish _) hw) (λ_ _ q=>q.unwish) λ_ _ z=>False.elim z
end
section
variable {X:Cx}{st:Stmt}{gx:List Stmt}{t u:TS}{e:Expr}{te:TE}{pos:Pos}
def jT:TS:=λD U H=>D.nx U H
def jc (t u:TS):TS:=λD U H=>t { D with nx:=u D } U H
def oE:rn X [] jT:=λ_ _ U H _ I h=>xC ⟨U,H,I,h⟩
def mV (h1:PS X st t)(h2:rn X gx u):rn X (st::gx) (jc t u):=by
 intro Aq s U H D I h;refine wpAny_execs_cons (m8 (h1 Aq s U H { D with nx:=u D } I h) λf s1 q=>?_);cases f with
 | next=>
  obtain⟨U',H',I',q⟩:=q;exact h2 Aq s1 U' H' D I' q
 | ret v=>exact q
 | brk=>exact q
 | cont=>exact q
def mY (h1:PS X st t):rn X [st] t:=by
 intro Aq s U H D I h;refine wpAny_execs_cons (m8 (h1 Aq s U H D I h) λf s1 q=>?_);cases f with
 | next=>exact xC q
 | ret v=>exact q
 | brk=>exact q
 | cont=>exact q
def mP.quiet (I:mP X Aq U H s):interactive X.env=false:=by simp[interactive,I.ok.kind]
def JE (te:TE):TS:=λD U H=>te U H λ_ H1=>D.nx U H1
def qe (he:PE X e te)(hs:swapsWith e none pos.line X.env=pure false:=by rfl):PS X (.Expr e pos) (JE te):=by intro Aq s U H D I h;exact wpAny_Expr_any (m8 (he Aq s U H _ I h) λv s1 ⟨x,H1,I1,r1,q1⟩=>⟨U,H1,I1,q1⟩) I.quiet hs
def tRet (te:TE):TS:=λD U H=>te U H D.rt
def ny (he:PE X e te):PS X (.Return (some e) pos) (tRet te):=by intro Aq s U H D I h;exact wpAny_Return_some (m8 (he Aq s U H _ I h) λv s1 ⟨x,H1,I1,r1,q1⟩=>⟨x,U,H1,I1,r1,q1⟩)
def tIfS (c:TT)(t u:TS):TS:=λD U H=>c U H λb H1=>if b=true then t D U H1 else u D U H1
def oF (hc:PT X c tc)(ha:rn X a t)(hb:rn X b u):PS X (.If c a b pos) (tIfS tc t u):=by
 intro Aq s U H D I h;refine wpAny_If (m8 (hc Aq s U H _ I h) λd s1 zz=>?_);obtain⟨H1,I1,q1⟩:=zz;cases d with
 | true=>exact ha Aq s1 U H1 D I1 q1
 | false=>exact hb Aq s1 U H1 D I1 q1
end
abbrev TG:=V->St->Hp->(St->Hp->Prop)->Prop
abbrev zE:=JR->St->Hp->(St->Hp->Prop)->Prop
def PG (X:Cx)(target:Expr)(t:TG):Prop:=
 ∀(Aq:AA) (s:AE) (U:St) (H:Hp) (v:V) (u:Value) (Q:St->Hp->Prop),mP X Aq U H s->fZ v u->t v U H Q ->
  wpAny (model X.prog X.w) X.A (assign target X.env u) (λ_ s'=>∃U' H',mP X Aq U' H' s'/\Q U' H') X.xe s
def Bu (X:Cx)(ts:List Expr)(t:zE):Prop:=
 ∀(Aq:AA) (s:AE) (U:St) (H:Hp) (vs:JR) (us:AC) (Q:St->Hp->Prop),mP X Aq U H s->fV vs us->t vs U H Q ->
  wpAny (model X.prog X.w) X.A (assignInOrder ((assignEach ts X.env).map (·.2)) us) (λ_ s'=>∃U' H',mP X Aq U' H' s'/\Q U' H') X.xe s
abbrev EB:=V->V->Hp->VK->Prop
def HW (X:Cx)(op:Operator)(t:EB):Prop:=
 ∀(Aq:AA) (s:AE) (U:St) (H:Hp) (x y:V) (v u:Value) (Q:VK),mP X Aq U H s->fZ x v->fZ y u->t x y H Q ->
  wpAny (model X.prog X.w) X.A (inplaceOp op v u) (EP X Aq U Q) X.xe s
section
noncomputable def sO (i:Nat):TG:=λv U H Q=>Q (U.set i (some v)) H
def oG (hN:X.N.Nodup)(hi:X.N[i]?=some x)(hx:xu X.env.scope x)(hf:X.fn x=true\/X.env.scope.names.lookup x=some .local:=by first | exact .inl rfl | exact .inr rfl | assumption):PG X (.Name x pos) (sO i):=by intro Aq s U H v u Q I r h;exact wpAny_assign_Name (A3 I hN hi hx r (λs' I'=>⟨_,H,I',h⟩) hf)
def gNil:zE:=λvs U H Q=>vs=[]/\Q U H
def HL (t:TG)(u:zE):zE:=λvs U H Q=>∃v r,vs=v::r/\t v U H λU' H'=>u r U' H' Q
def DE:Bu X [] gNil:=by intro Aq s U H vs us Q I r h;obtain⟨e,h⟩:=h;subst e;cases r;exact assignInOrder_nil ⟨U,H,I,h⟩
def wE (h1:PG X e t)(h2:Bu X es u)
  (hs:(assignEach (e::es) X.env).map (·.2)=assign e X.env::(assignEach es X.env).map (·.2):=by rfl):Bu X (e::es) (HL t u):=by
 intro Aq s U H vs us Q I r h;obtain⟨v,vr,e1,h⟩:=h;subst e1;cases r with
 | cons r rr=>
  rw[hs];refine assignInOrder_cons (m8 (h1 Aq s U H _ _ _ I r h) λ_ s1 zz=>?_);obtain⟨U1,H1,I1,q1⟩:=zz;exact h2 Aq s1 U1 H1 _ _ Q I1 rr q1
def gTup (K:Q4)(n:Nat)(t:zE):TG:=λv U H Q=>∃a xs,v=.ref a/\oW K H a xs/\xs.length=n/\t xs U H Q
def EI (hc:X.calm=true)(h:Bu X es t)
  (hn:(assignEach es X.env).length=n:=by rfl) (hst:(assignEach es X.env).findIdx? (·.1)=none:=by rfl):PG X (.Tuple es k pos) (gTup X.K n t):=by
 intro Aq s U H v u Q I r hw;obtain⟨a,xs,e1,hq,hl,hw⟩:=hw;subst e1;cases r;obtain⟨its,rv,ht,hz⟩:=I.tuple hq;refine assign_Tuple_tuple (I.ok.hd hc) ht (by simp[hn,<-hl,rv.length]) hst λh' hx=>?_;have I1:mP X Aq U H { s with heap:=h' }:=I.kept (t':=s.toks) λb o e=>hx b o (oO (nP e)) e;exact h Aq _ U H xs _ Q I1 (~~~rv) hw
def jN (te:TE)(g:TG):TS:=λD U H=>te U H λx H1=>g x U H1 D.nx
def xF (hN:X.N.Nodup)(hi:X.N[i]?=some x)(hx:xu X.env.scope x)(he:PE X e te)(hs:swapsWith e (some (.Name x pos')) pos.line X.env=pure false:=by rfl)(hf:X.fn x=true\/X.env.scope.names.lookup x=some .local:=by first | exact .inl rfl | exact .inr rfl | assumption):
  PS X (.Assign [.Name x pos'] e pos) (jN te (sO i)):=by
 intro Aq s U H D I h;refine wpAny_Assign_Name (m8 (he Aq s U H _ I h) λv s1 zz=>?_) hs;obtain⟨y,H1,I1,r1,q1⟩:=zz;exact A3 I1 hN hi hx r1 (λs2 I2=>⟨_,H1,I2,q1⟩) hf
def tAug (i:Nat)(te:TE)(ti:EB):TS:=λD U H=>∃x,U[i]?=some (some x)/\te U H λy H1=>ti x y H1 λz H2=>D.nx (U.set i (some z)) H2
def Fb (hN:X.N.Nodup)(hi:X.N[i]?=some x)(hx:xu X.env.scope x)(he:PE X e te)(ho:HW X op ti)(hf:X.fn x=true\/X.env.scope.names.lookup x=some .local:=by first | exact .inl rfl | exact .inr rfl | assumption):
  PS X (.AugAssign (.Name x pos') op e pos) (tAug i te ti):=by
 intro Aq s U H D I h;obtain⟨v,e1,h⟩:=h;obtain⟨m,hn,hl⟩:=I.loc;have vis:yg X.env.scope x:=by rcases hx with k | k;exact .inl k;exact .inr (.inl k)
 obtain⟨u,r,l⟩:=hl i x v hi e1 vis;refine wpAny_AugAssign_Name ?_;have go:wpAny (model X.prog X.w) X.A (eval e X.env) (λw s_2=>wpAny (model X.prog X.w) X.A (inplaceOp op u w) (λr s₃=>wpAny (model X.prog X.w) X.A (storeName X.env x r) (λ_=>SP X Aq D .next) X.xe s₃) X.xe s_2) X.xe s:=by refine m8 (he Aq s U H _ I h) λw s1 zz=>?_;obtain⟨y,H1,I1,r1,q1⟩:=zz;refine m8 (ho Aq s1 U H1 v y u w _ I1 r r1 q1) λz s2 zz=>?_;obtain⟨zv,H2,I2,r2,q2⟩:=zz;exact A3 I2 hN hi hx r2 (λs3 I3=>⟨_,H2,I3,q2⟩) hf
 rcases l with⟨hk,hm⟩|⟨hk,c,hc,hcell⟩
 .exact wpAny_loadName_local I.ok.kind hk hn hm go
 .rcases hk with hk | hk
  .exact wpAny_loadName_cell I.ok.kind hk hc hcell go
  .rcases hx with k | k
   .have:X.env.scope.names.lookup x=some .free:=hk;rw[k]at this;cases this
   .have:X.env.scope.names.lookup x=some .free:=hk;rw[k]at this;cases this
def GW (f:Int->Int->Int):EB:=λx y H Q=>∃i j,x=.int i/\y=.int j/\Q (.int (f i j)) H
def Gu:HW X .Add (GW λi j=>i+j):=by intro Aq s U H x y v u Q I r1 r2 h;obtain⟨i,j,e1,e2,q⟩:=h;subst e1;subst e2;obtain⟨t,rfl⟩:=r1;obtain⟨t',rfl⟩:=r2;exact iadd_int ⟨.int _,H,I.tok _,⟨_,rfl⟩,q⟩
end
section
def Dc (c:TT)(tb:TS):TS:=λD U H=>∃W:Nat->St->Hp->Prop,(∃m,W m U H)/\∀m U H,W m U H ->
 c U H λb H1=>if b=true then ∃N:St->Hp->Prop,(∀U' H',N U' H'->∃m',m'<m/\W m' U' H')/\tb { D with nx:=N,ct:=N,bk:=D.nx } U H1 else D.nx U H1
def zK (hp:PassesOwn (model X.prog X.w) X.A X.env X.xe)(hc:PT X c tc)(hb:rn X body tb):PS X (.While c body [] pos) (Dc tc tb):=by
 intro Aq s U H D I h;obtain⟨W,⟨m0,w0⟩,turn⟩:=h;refine wpAny_While (codeAny_whileLoop (λn s'=>∃U' H',mP X Aq U' H' s'/\W n U' H') ?_ m0 ⟨U,H,I,w0⟩);rintro n s1 ⟨U1,H1,I1,w1⟩;refine w6 hp (m8 (hc Aq s1 U1 H1 _ I1 (turn n U1 H1 w1)) λb s2 zz=>?_);obtain⟨H2,I2,q2⟩:=zz;cases b with
 | true=>
  obtain⟨N,hN,q2⟩:=q2;rw[mS rfl];refine w6 hp (m8 (hb Aq s2 U1 H2 _ I2 q2) λf s3 q3=>?_);cases f with
  | next=>
   obtain⟨U3,H3,I3,n3⟩:=q3;obtain⟨m',hm,w3⟩:=hN U3 H3 n3;exact⟨m',hm,U3,H3,I3,w3⟩
  | cont=>
   obtain⟨U3,H3,I3,n3⟩:=q3;obtain⟨m',hm,w3⟩:=hN U3 H3 n3;exact⟨m',hm,U3,H3,I3,w3⟩
  | brk=>exact q3
  | ret v=>exact q3
 | false=>
  rw[mR nU];exact xC ⟨U1,H2,I2,q2⟩
end
structure It where
 go:Nat->Hp->Prop
 yld:Nat->Hp->V->Hp->Prop
 stop:Nat->Hp->Prop
def io (X:Cx)(Aq:AA)(H:Hp)(b:AD):Prop:=
 H b=none/\b≠X.env.locals/\b∉X.fs/\(b∈X.ex\/X.s_0.heap.objs.size<=b)/\(∀x c,X.env.cells.lookup x=some c->c≠b)/\∀p∈X.pn++Aq,p.1≠b
def mP.fpOk (I:mP X Aq U H s)(hb:s.heap.objs.size<=b)(hn:H' b=none):io X Aq H' b:=by
 refine⟨hn,Nat.ne_of_gt (qz I.lt hb),I.nofs hb,.inr (og I.sz hb),λx c e z=>?_,λp hp z=>?_⟩
 .obtain⟨v,q⟩:=I.cell x c e;exact JO (qz q.lt (by rw[z];exact hb)) (qC _)
 .exact JO (qz (nP (I.pin p hp).1) (by rw[z];exact hb)) (qC _)
structure i8 (P:AG)(w:AI)(K:Q4)(tg:Expr)(J:It)(fp:List AD)(it:AD)(tn:Nat->Heap->Prop):Prop where
 mem:it∈fp
 obj:∀i h,tn i h->∀b∈fp,∃o,h.get? b=some o/\∀v,o.data≠.cell v
 keep:∀i h h',tn i h->(∀b∈fp,∀o,h.get? b=some o->h'.get? b=some o)->tn i h'
 item:∀(X:Cx),X.prog=P->X.w=w->X.K=K->X.calm=true->∀(i:Nat) (Aq:AA) (s:AE) (U:St) (H:Hp) (E:oo),mP X Aq U H s->(∀b∈fp,io X Aq H b)->tn i s.heap->J.go i H ->
  wpAny (model P w) X.A (pyNext (.ref it)) (λr s1=>∃u,r=some u /\
   wpAny (model P w) X.A (letOwnedTupleGo tg (.ref it) u) (λ_ s2=>∃x H',mP X Aq U H' s2/\fZ x u/\J.yld i H x H'/\tn (i+1) s2.heap/\∀b∈fp,H' b=none) E s1) E s
 done:∀(X:Cx),X.prog=P->X.w=w->X.K=K->X.calm=true->∀(i:Nat) (Aq:AA) (s:AE) (U:St) (H:Hp) (E:oo),mP X Aq U H s->(∀b∈fp,io X Aq H b)->tn i s.heap->J.stop i H ->
  wpAny (model P w) X.A (pyNext (.ref it)) (λr s1=>r=none/\mP X Aq U H s1) E s
 self:∀(A:AH) (i:Nat) (s:AE) (Q:oo) (E:oo),tn i s.heap->Q (.ref it) s->wpAny (model P w) A (pyIter (.ref it)) Q E s
abbrev TI:=St->Hp->(It->Hp->Prop)->Prop
def Ev (X:Cx)(Aq:AA)(U:St)(tg:Expr)(R:It->Hp->Prop)(itv:Value)(s2:AE):Prop:=
 ∃(it:AD) (fp:List AD) (tn:Nat->Heap->Prop) (J:It) (H':Hp),itv=.ref it/\mP X Aq U H' s2/\i8 X.prog X.w X.K tg J fp it tn/\tn 0 s2.heap/\(∀b∈fp,io X Aq H' b)/\R J H'
def PI (X:Cx)(tg iter:Expr)(wi:TI):Prop:=
 ∀(Aq:AA) (s:AE) (U:St) (H:Hp) (R:It->Hp->Prop),mP X Aq U H s->wi U H R ->
  wpAny (model X.prog X.w) X.A (eval iter X.env) (λv s1=>wpAny (model X.prog X.w) X.A (pyIter v) (Ev X Aq U tg R) X.xe s1) X.xe s
def zg (ho:s.heap.get? it=some o)(hc:o.cls=.type n)(hd:o.data=.fields vs)
    (hn:["enumerate","zip","dict_itemiterator","dict_reverseitemiterator","odict_iterator","itertools.zip_longest","itertools.pairwise"].contains n=false) (hQ:Q () s):wpAny M A (letOwnedTupleGo tg (.ref it) u) Q E s:=by
  unfold letOwnedTupleGo;cases tg<;>first
    | exact mW hQ
    | (cases u<;>first
        | exact mW hQ
        | (refine mO (wpAny_load ho ?_)
           rw[hc,hd];show wpAny M A (if (["enumerate","zip","dict_itemiterator","dict_reverseitemiterator","odict_iterator","itertools.zip_longest","itertools.pairwise"].contains n&&vs[0]? == some (rawInt _))=true then _ else _) Q E s;rw[mR (by intro h;rw[hn,sJ]at h;cases h)];exact mW hQ))
noncomputable def vy (K:Q4)(a:AD):It:=
 ⟨λi H=>∃xs x,oj K H a xs/\xs[i]?=some x,λi H x H'=>H'=H/\∀xs,oj K H a xs->xs[i]?=some x,λi H=>∃xs,oj K H a xs/\xs.length<=i⟩
noncomputable def ES (K:Q4)(a:AD):It:=
 ⟨λi H=>∃xs x,oW K H a xs/\xs[i]?=some x,λi H x H'=>H'=H/\∀xs,oW K H a xs->xs[i]?=some x,λi H=>∃xs,oW K H a xs/\xs.length<=i⟩
noncomputable def uO (lo:Int)(n:Nat):It:=⟨λi _=>i<n,λi H x H'=>H'=H/\x=.int (lo+i),λi _=>n<=i⟩
def Zjt {P:AG}{w:AI}{K:Q4}{tg:Expr}(a it:AD):i8 P w K tg (vy K a) [it] it (λi h=>h.IsListIter it a i) where
 mem:=by simp
 obj:=λi h st b hb=>by
  have e:b=it:=by simpa using hb
  subst e;obtain⟨o,e,c,d⟩:=st;exact⟨o,e,λv z=>by rw[d]at z;cases z⟩
 keep:=λi h h' st k=>st.at λo e=>k it {} o e
 item:=by intro X hP hw hK hc i Aq s U H E I hf st hg;subst hP hw hK;obtain⟨xs,x,hq,hx⟩:=hg;obtain⟨its,rv,p,hz⟩:=I.list hq;obtain⟨u,hu,ru⟩:=rv.get hx;obtain⟨f0,f1,f2,f3,f4,f5⟩:=hf it {};refine wpAny_pyNext_list_item st p.isList (x:=u) (~~~hu) λh' st' sb=>?_;have I1:mP X Aq U H { s with heap:=h' }:=I.turned (t':=s.toks) (λb o hb e=>(sb.2 b hb).trans e) f0 f1 f3 f4 f5;obtain⟨o,e,c,d⟩:=id st';exact⟨u,rfl,zg (s:={ s with heap:=h' }) e c d ⋯ ⟨x,H,I1,ru,⟨rfl,λys hy=>by rw[I.list_inj hy hq];exact hx⟩,st',λb hb=>(hf b hb).1⟩⟩
 done:=by intro X hP hw hK hc i Aq s U H E I hf st hg;subst hP hw hK;obtain⟨xs,hq,hx⟩:=hg;obtain⟨its,rv,p,hz⟩:=I.list hq;obtain⟨f0,f1,f2,f3,f4,f5⟩:=hf it {};have hl:=rv.length;exact wpAny_pyNext_list_end (I.ok.hd hc) st p.isList (by simp;lia) λh' eb=>⟨rfl,I.turned (t':=s.toks) (λb o hb e=>eb b o hb e) f0 f1 f3 f4 f5⟩
 self:=λ_ _ _ _ _ st h=>wpAny_pyIter_listiter st h
def ZiF {P:AG}{w:AI}{K:Q4}{tg:Expr}(a it:AD):i8 P w K tg (ES K a) [it] it (λi h=>h.IsTupleIter it a i) where
 mem:=by simp
 obj:=λi h st b hb=>by
  have e:b=it:=by simpa using hb
  subst e;obtain⟨o,e,c,d⟩:=st;exact⟨o,e,λv z=>by rw[d]at z;cases z⟩
 keep:=λi h h' st k=>st.at λo e=>k it {} o e
 item:=by intro X hP hw hK hc i Aq s U H E I hf st hg;subst hP hw hK;obtain⟨xs,x,hq,hx⟩:=hg;obtain⟨its,rv,p,hz⟩:=I.tuple hq;obtain⟨u,hu,ru⟩:=rv.get hx;obtain⟨f0,f1,f2,f3,f4,f5⟩:=hf it {};refine wpAny_pyNext_tuple_item st (show s.heap.IsTuple a its.toArray from p) (x:=u) (~~~hu) λh' st' sb=>?_;have I1:mP X Aq U H { s with heap:=h' }:=I.turned (t':=s.toks) (λb o hb e=>(sb.2 b hb).trans e) f0 f1 f3 f4 f5;obtain⟨o,e,c,d⟩:=id st';exact⟨u,rfl,zg (s:={ s with heap:=h' }) e c d ⋯ ⟨x,H,I1,ru,⟨rfl,λys hy=>by rw[I.tuple_inj hy hq];exact hx⟩,st',λb hb=>(hf b hb).1⟩⟩
 done:=by intro X hP hw hK hc i Aq s U H E I hf st hg;subst hP hw hK;obtain⟨xs,hq,hx⟩:=hg;obtain⟨its,rv,p,hz⟩:=I.tuple hq;obtain⟨f0,f1,f2,f3,f4,f5⟩:=hf it {};have hl:=rv.length;exact wpAny_pyNext_tuple_end (I.ok.hd hc) st (show s.heap.IsTuple a its.toArray from p) (by simp;lia) λh' eb=>⟨rfl,I.turned (t':=s.toks) (λb o hb e=>eb b o hb e) f0 f1 f3 f4 f5⟩
 self:=λ_ _ _ _ _ st h=>wpAny_pyIter_tupleiter st h
def ZiG {P:AG}{w:AI}{K:Q4}{tg:Expr}(it:AD)(lo:Int)(n:Nat):i8 P w K tg (uO lo n) [it] it (λi h=>IsRangeIter h it (lo+(i:Nat)*1) ((n:Int)-(i:Nat)) 1) where
 mem:=by simp
 obj:=λi h st b hb=>by
  have e:b=it:=by simpa using hb
  subst e;exact⟨_,st,λv z=>by have z':Data.fields _=Data.cell v:=z;cases z'⟩
 keep:=λi h h' st k=>k it {} _ st
 item:=by intro X hP hw hK hc i Aq s U H E I hf st hg;subst hP hw hK;obtain⟨f0,f1,f2,f3,f4,f5⟩:=hf it {};have W:=Walks.range (prog:=X.prog) (w:=X.w) (I.ok.hd hc) it lo 1 n;refine W.item i s _ _ hg st λv h' tk hv st' kk=>?_;obtain⟨t,rfl⟩:=hv;have I1:mP X Aq U H { s with heap:=h',toks:=tk }:=I.turned (λb o hb e=>kk b o (~~~hb) e) f0 f1 f3 f4 f5;refine⟨_,rfl,zg (s:={ s with heap:=h',toks:=tk }) (n:="range_iterator") st' rfl rfl ⋯ ⟨.int (lo+i),H,I1,⟨t,?_⟩,⟨rfl,rfl⟩,st',λb hb=>(hf b hb).1⟩⟩;rw[Int.mul_one]
 done:=by intro X hP hw hK hc i Aq s U H E I hf st hg;subst hP hw hK;obtain⟨f0,f1,f2,f3,f4,f5⟩:=hf it {};exact wpAny_pyNext_range_end (I.ok.hd hc) st (by have:n<=i:=hg;lia) λh' eb=>⟨rfl,I.turned (t':=s.toks) (λb o hb e=>eb b o hb e) f0 f1 f3 f4 f5⟩
 self:=λ_ _ _ _ _ st h=>wpAny_pyIter_rangeiter st h
section
def C3 (K:Q4)(tl:TE):TI:=λU H R=>tl U H λx H1=>∃a,x=.ref a/\(∃xs,oj K H1 a xs)/\R (vy K a) H1
def mq (K:Q4)(tl:TE):TI:=λU H R=>tl U H λx H1=>∃a,x=.ref a/\(∃xs,oW K H1 a xs)/\R (ES K a) H1
def ZnC (hl:PE X l tl):PI X tg l (C3 X.K tl):=by
 intro Aq s U H R I h;refine m8 (hl Aq s U H _ I h) λv s1 zz=>?_;obtain⟨x,H1,I1,r1,q1⟩:=zz;obtain⟨a,e,⟨xs,hq⟩,q⟩:=q1;subst e;cases r1;obtain⟨its,rv,p,hz⟩:=I1.list hq;refine wpAny_pyIter_list p.isList ?_;refine⟨s1.heap.objs.size,[s1.heap.objs.size],_,_,H1,rfl,I1.kept (t':=s1.toks) λb o e=>nG _ e,Zjt a _,⟨_,oP _ rfl,rfl,rfl⟩,λb hb=>?_,q⟩;have e:b=s1.heap.objs.size:=by simpa using hb
 subst e;exact I1.fpOk (nD _) (I1.hok.fresh (nD _))
def Zpd (hl:PE X l tl):PI X tg l (mq X.K tl):=by
 intro Aq s U H R I h;refine m8 (hl Aq s U H _ I h) λv s1 zz=>?_;obtain⟨x,H1,I1,r1,q1⟩:=zz;obtain⟨a,e,⟨xs,hq⟩,q⟩:=q1;subst e;cases r1;obtain⟨its,rv,p,hz⟩:=I1.tuple hq;refine wpAny_pyIter_tuple (show s1.heap.IsTuple a its.toArray from p) ?_;refine⟨s1.heap.objs.size,[s1.heap.objs.size],_,_,H1,rfl,I1.kept (t':=s1.toks) λb o e=>nG _ e,ZiF a _,⟨_,oP _ rfl,rfl,rfl⟩,λb hb=>?_,q⟩;have e:b=s1.heap.objs.size:=by simpa using hb
 subst e;exact I1.fpOk (nD _) (I1.hok.fresh (nD _))
def IZ {Aq:AA}{U:St}{H:Hp}{s:AE}{R:It->Hp->Prop}{E:oo}{lo hi:Int}{t u v:Tok}{tk:Nat}(I:mP X Aq U H s)(h1:-(2 ^ 62)<=lo)(h2:lo<2 ^ 62)(h3:-(2 ^ 62)<=hi)(h4:hi<2 ^ 62)
  (q:R (uO lo (hi-lo).toNat) H):wpAny (model X.prog X.w) X.A (pyIter (.ref s.heap.objs.size)) (Ev X Aq U tg R) E { s with heap:=s.heap.push { cls:=.type "range",data:=.fields #[.int lo t,.int hi u,.int 1 v] },toks:=tk }:=by
 refine wpAny_pyIter_range (IsRange.new ..) (small_one h1 h2 h3 h4) ?_;have I1:mP X Aq U H { s with heap:=s.heap.push { cls:=.type "range",data:=.fields #[.int lo t,.int hi u,.int 1 v] },toks:=tk }:=I.kept λb o e=>nG _ e;refine⟨(s.heap.push { cls:=.type "range",data:=.fields #[.int lo t,.int hi u,.int 1 v] }).objs.size,[(s.heap.push { cls:=.type "range",data:=.fields #[.int lo t,.int hi u,.int 1 v] }).objs.size],_,_,H,rfl,
  I1.kept (t':=tk) λb o e=>nG _ e,ZiG _ lo (hi-lo).toNat,?_,λb hb=>?_,q⟩
 .have e1:lo+((0:Nat):Int)*1=lo:=by simp
  have e2:(((hi-lo).toNat:Nat):Int)-((0:Nat):Int)=Builtin.Range.rangeSize lo hi 1:=by rw[rangeSize_one];split<;>lia
  show IsRangeIter _ _ (lo+((0:Nat):Int)*1) ((((hi-lo).toNat:Nat):Int)-((0:Nat):Int)) 1;rw[e1,e2];exact oP _ rfl
 .have e:b=(s.heap.push { cls:=.type "range",data:=.fields #[.int lo t,.int hi u,.int 1 v] }).objs.size:=by simpa using hb
  subst e;exact I1.fpOk (nD _) (I1.hok.fresh (nD _))
def Ip (ta:TA):TI:=λU H R=>ta U H λvs H1=>∃j:Int,vs=[.int j]/\-(2 ^ 62)<=j/\j<2 ^ 62/\R (uO 0 j.toNat) H1
def Fi (ta:TA):TI:=λU H R=>ta U H λvs H1=>∃i j:Int,vs=[.int i,.int j]/\(-(2 ^ 62)<=i/\i<2 ^ 62/\-(2 ^ 62)<=j/\j<2 ^ 62)/\R (uO i (j-i).toNat) H1
def vX (hg:Gl X "range") (hm:X.mg "range"=none) (ha:PA X [a] ta) (hs:starEach [a] X.env=[(false,eval a X.env)]:=by rfl):PI X tg (.Call (.Name "range" p) [a] [] pos) (Ip ta):=by
 intro Aq s U H R I h;refine Call_ (uQ I hg hm boot_range (BL (m8 (ha pos Aq s U H _ I h) λus s1 zz=>?_) hs rfl));obtain⟨vs,H1,I1,r1,q1⟩:=zz;obtain⟨j,e,q1,q2,q⟩:=q1;subst e;cases r1 with
 | cons r rr=>
  cases rr;obtain⟨t,rfl⟩:=r;exact call_range_1 (IZ I1 ∅ ∅ q1 q2 (~~~q))
def DX (hg:Gl X "range") (hm:X.mg "range"=none) (ha:PA X [a,b] ta) (hs:starEach [a,b] X.env=[(false,eval a X.env),(false,eval b X.env)]:=by rfl) (hs2:starEach [b] X.env=[(false,eval b X.env)]:=by rfl):
  PI X tg (.Call (.Name "range" p) [a,b] [] pos) (Fi ta):=by
 intro Aq s U H R I h;refine Call_ (uQ I hg hm boot_range (BL (m8 (ha pos Aq s U H _ I h) λus s1 ⟨vs,H1,I1,r1,q1⟩=>?_) (by rw[hs,hs2]) (by rw[hs2];rfl)));obtain⟨i,j,e,⟨q1,q2,q3,q4⟩,q⟩:=q1;subst e;cases r1 with
 | cons r rr=>
  cases rr with
  | cons r' rr=>
   cases rr;obtain⟨t,rfl⟩:=r;obtain⟨t',rfl⟩:=r';exact call_range_2 (IZ I1 q1 q2 q3 q4 q)
def tFor (wi:TI)(g:TG)(tb:TS):TS:=λD U H=>wi U H λJ H1=>∃W:Nat->Nat->St->Hp->Prop,(∃m,W 0 m U H1)/\∀i m U H,W i m U H ->
 (J.stop i H/\D.nx U H)\/(J.go i H/\∃N:St->Hp->Prop,(∀U' H',N U' H'->∃m',m'<m/\W (i+1) m' U' H')/\∀x H',J.yld i H x H'->g x U H' λU2 H2=>tb { D with nx:=N,ct:=N,bk:=D.nx } U2 H2)
def zd (fp:List AD)(h:Heap):AA:=fp.filterMap λb=>(h.get? b).map λo=>(b,o)
def BR (hb:b∈fp)(e:h.get? b=some o):(b,o)∈zd fp h:=List.mem_filterMap.mpr ⟨b,hb,by rw[e];rfl⟩
def Zj9 (hp:p∈zd fp h):p.1∈fp/\h.get? p.1=some p.2:=by
 obtain⟨b,hb,e⟩:=List.mem_filterMap.mp hp;cases q:h.get? b with
 | none=>rw[q]at e;cases e
 | some o=>
  rw[q]at e;have e':(b,o)=p:=Option.some.inj e;subst e';exact⟨hb,q⟩
def mP.pinned (I:mP X Aq U H s)(hf:∀b∈fp,io X Aq H b)(ho:∀b∈fp,∃o,s.heap.get? b=some o/\∀v,o.data≠.cell v):mP X (Aq++zd fp s.heap) U H s:=
 I.pins_of λp hp=>(oV.mp hp).elim (λz=>I.pin p (tI _ z)) λz=>by obtain⟨hb,e⟩:=Zj9 z;obtain⟨f0,f1,f2,_⟩:=hf p.1 hb;obtain⟨o,e',d⟩:=ho p.1 hb;rw[e]at e';cases e';exact⟨e,f0,f1,f2,d⟩
def mP.unpinned (I:mP X (Aq++pl) U H s):mP X Aq U H s:=I.pins_of λp hp=>I.pin p (tI _ (uW _ hp))
def qx (hp:PassesOwn (model X.prog X.w) X.A X.env X.xe)(hc:X.calm=true)(hi:PI X tg iter wi)(hg:PG X tg g)(hb:rn X body tb)
  (hs:∀x,foldedSetIterable iter X.env x=pure x:=by intro _;rfl):PS X (.For tg iter body [] pos) (tFor wi g tb):=by
 intro Aq s U H D I h;refine wpAny_For (m8 (hi Aq s U H _ I h) λv s1 h1=>m8 h1 λitv s2 h2=>?_) hs;obtain⟨it,fp,tn,J,H2,e,I2,T,st2,f2,W,⟨m0,w0⟩,turn⟩:=h2;subst e;have stat:∀ {H':Hp},(∀b∈fp,H' b=none)->∀b∈fp,io X Aq H' b:=λhn b hb=>⟨hn b hb,(f2 b hb).2⟩;refine codeAny_forLoop_any (λn s'=>∃i U' H',mP X Aq U' H' s'/\tn i s'.heap/\(∀b∈fp,H' b=none)/\W i n U' H') ?_ m0 ⟨0,U,H2,I2,st2,λb hb=>(f2 b hb).1,w0⟩;rintro n s3 ⟨i,U3,H3,I3,st3,fr3,w3⟩;rcases turn i n U3 H3 w3 with⟨stop,qn⟩|⟨go,N,hN,step⟩
 .refine w6 hp (m8 (T.done X rfl rfl rfl hc i Aq s3 U3 H3 X.xe I3 (stat fr3) st3 stop) λr s4 zz=>?_);obtain⟨hr,I4⟩:=zz;subst hr;exact xC ⟨U3,H3,I4,qn⟩
 .refine w6 hp (m8 (T.item X rfl rfl rfl hc i Aq s3 U3 H3 X.xe I3 (stat fr3) st3 go) λr s4 zz=>?_);obtain⟨u,hr,h4⟩:=zz;subst hr;refine w6 hp (m8 h4 λ_ s5 zz=>?_);obtain⟨x,H5,I5,r5,y5,st5,fr5⟩:=zz;have I5':=I5.pinned (stat fr5) (T.obj _ _ st5);refine w6 hp (m8 (hg _ s5 U3 H5 x u _ I5' r5 (step x H5 y5)) λ_ s6 zz=>?_);obtain⟨U6,H6,I6,q6⟩:=zz;refine w6 hp (m8 (hb _ s6 U6 H6 _ I6 q6) λf s7 q7=>?_);have again:∀ {U7:St} {H7:Hp},mP X (Aq++zd fp s5.heap) U7 H7 s7->N U7 H7->∃m,m<n/\∃i U' H',mP X Aq U' H' s7/\tn i s7.heap/\(∀b∈fp,H' b=none)/\W i m U' H':=λ{U7 H7} I7 n7=>by obtain⟨m',hm,w7⟩:=hN U7 H7 n7;refine⟨m',hm,i+1,U7,H7,I7.unpinned,T.keep _ _ _ st5 λb hb o e=>(I7.pin (b,o) (tI _ (tI _ (BR hb e)))).1,λb hb=>?_,w7⟩;obtain⟨o,e,d⟩:=T.obj _ _ st5 b hb;exact(I7.pin (b,o) (tI _ (tI _ (BR hb e)))).2.1
  cases f with
  | next=>obtain⟨U7,H7,I7,n7⟩:=q7;exact again I7 n7
  | cont=>obtain⟨U7,H7,I7,n7⟩:=q7;exact again I7 n7
  | brk=>obtain⟨U7,H7,I7,q7⟩:=q7;exact⟨U7,H7,I7.unpinned,q7⟩
  | ret v=>obtain⟨x7,U7,H7,I7,r7,q7⟩:=q7;exact⟨x7,U7,H7,I7.unpinned,r7,q7⟩
end
def Zl8 {K:Q4}{a:AD}{xs:JR}{g:TG}{tb:TS}{D:ia}{U:St}{H:Hp}(Pv:Nat->St->Hp->Prop)(h0:Pv 0 U H)(hl:∀i U H,i<=xs.length->Pv i U H->oj K H a xs)
  (hs:∀i x U H,xs[i]?=some x->Pv i U H->g x U H λU2 H2=>tb { D with nx:=Pv (i+1),ct:=Pv (i+1),bk:=D.nx } U2 H2) (hd:∀U H,Pv xs.length U H->D.nx U H):
  ∃W:Nat->Nat->St->Hp->Prop,(∃m,W 0 m U H)/\∀i m U H,W i m U H ->
   ((vy K a).stop i H/\D.nx U H)\/((vy K a).go i H/\∃N:St->Hp->Prop,(∀U' H',N U' H'->∃m',m'<m/\W (i+1) m' U' H')/\∀x H',(vy K a).yld i H x H'->g x U H' λU2 H2=>tb { D with nx:=N,ct:=N,bk:=D.nx } U2 H2):=by
 refine⟨λi m U H=>m=xs.length-i/\i<=xs.length/\Pv i U H,⟨xs.length,{},pE _,h0⟩,?_⟩;rintro i m U H ⟨rfl,hi,p⟩;have q:=hl i U H hi p;by_cases A1:i<xs.length
 .refine .inr ⟨⟨xs,xs[i],q,by simp[A1]⟩,Pv (i+1),λU' H' p'=>⟨xs.length-(i+1),∅,rfl,A1,p'⟩,λx H' y=>?_⟩;obtain⟨e,y⟩:=y;subst e;exact hs i x U _ (y xs q) p
 .have e:i=xs.length:=by lia
  subst e;exact .inl ⟨⟨xs,q,nD _⟩,hd U H p⟩
def ZkE {lo:Int}{n:Nat}{g:TG}{tb:TS}{D:ia}{U:St}{H:Hp}(Pv:Nat->St->Hp->Prop)(h0:Pv 0 U H)
  (hs:∀i U H,i<n->Pv i U H->g (.int (lo+i)) U H λU2 H2=>tb { D with nx:=Pv (i+1),ct:=Pv (i+1),bk:=D.nx } U2 H2) (hd:∀U H,Pv n U H->D.nx U H):
  ∃W:Nat->Nat->St->Hp->Prop,(∃m,W 0 m U H)/\∀i m U H,W i m U H ->
   ((uO lo n).stop i H/\D.nx U H)\/((uO lo n).go i H/\∃N:St->Hp->Prop,(∀U' H',N U' H'->∃m',m'<m/\W (i+1) m' U' H')/\∀x H',(uO lo n).yld i H x H'->g x U H' λU2 H2=>tb { D with nx:=N,ct:=N,bk:=D.nx } U2 H2):=by
 refine⟨λi m U H=>m=n-i/\i<=n/\Pv i U H,⟨n,{},pE _,h0⟩,?_⟩;rintro i m U H ⟨rfl,hi,p⟩;by_cases A1:i<n
 .refine .inr ⟨A1,Pv (i+1),λU' H' p'=>⟨n-(i+1),∅,rfl,A1,p'⟩,λx H' y=>?_⟩;obtain⟨e,y⟩:=y;subst e y;exact hs i U _ A1 p
 .have e:i=n:=by lia
  subst e;exact .inl ⟨nD _,hd U H p⟩
abbrev R2:=V->V->Hp->VK->Prop
def oZ (X:Cx)(f:Value->Value->Sem Value)(r:R2):Prop:=
 ∀(Aq:AA) (s:AE) (U:St) (H:Hp) (x y:V) (v u:Value) (Q:VK),mP X Aq U H s->fZ x v->fZ y u->r x y H Q ->
  wpAny (model X.prog X.w) X.A (f v u) (EP X Aq U Q) X.xe s
def Ec (X:Cx)(f:Value->Sem Value)(r:V->Hp->VK->Prop):Prop:=
 ∀(Aq:AA) (s:AE) (U:St) (H:Hp) (x:V) (v:Value) (Q:VK),mP X Aq U H s->fZ x v->r x H Q ->
  wpAny (model X.prog X.w) X.A (f v) (EP X Aq U Q) X.xe s
def rq (X:Cx)(f:Value)(r:JR->Hp->VK->Prop):Prop:=
 ∀(Aq:AA) (s:AE) (U:St) (H:Hp) (xs:JR) (us:AC) (Q:VK),mP X Aq U H s->fV xs us->r xs H Q ->
  wpAny (model X.prog X.w) X.A (call f us) (EP X Aq U Q) X.xe s
def TruR (X:Cx)(r:V->Hp->(Bool->Hp->Prop)->Prop):Prop:=
 ∀(Aq:AA) (s:AE) (U:St) (H:Hp) (x:V) (v:Value) (Q:Bool->Hp->Prop),mP X Aq U H s->fZ x v->r x H Q ->
  wpAny (model X.prog X.w) X.A (truthy v) (TP X Aq U Q) X.xe s
def zi (r:R2)(ta tb:TE):TE:=λU H Q=>ta U H λx H1=>tb U H1 λy H2=>r x y H2 Q
def FA (r:V->Hp->VK->Prop)(ta:TE):TE:=λU H Q=>ta U H λx H1=>r x H1 Q
def Ca (x y:V)(p:Int->Int->Prop):Prop:=match x,y with | .int i,.int j=>p i j | _,_=>False
def Bk (h:Ca x y p):∃i j,x=.int i/\y=.int j/\p i j:=by cases x<;>first | exact False.elim h | (cases y<;>first | exact⟨_,_,rfl,rfl,h⟩ | exact False.elim h)
def rI (C:Int->Int->Prop)(g:Int->Int->V):R2:=λx y H Q=>Ca x y λi j=>C i j/\Q (g i j) H
def u7 (g:Int->Int->V):R2:=λx y H Q=>Ca x y λi j=>Q (g i j) H
def rU (g:Int->V):V->Hp->VK->Prop:=λx H Q=>Ca x x λi _=>Q (g i) H
section
def lH (ha:PE X a ta)(hb:PE X b tb){Aq:AA}{s:AE}{U:St}{H:Hp}{R:V->V->Hp->Prop}(I:mP X Aq U H s)
  (h:ta U H λx H1=>tb U H1 λy H2=>R x y H2) {Q:oo} {f:Value->Value->Sem Value}
  (hf:∀v u s2 x y H2,mP X Aq U H2 s2->fZ x v->fZ y u->R x y H2->wpAny (model X.prog X.w) X.A (f v u) Q X.xe s2):
  wpAny (model X.prog X.w) X.A (eval a X.env) (λv s_1=>wpAny (model X.prog X.w) X.A (eval b X.env) (λu s_2=>wpAny (model X.prog X.w) X.A (f v u) Q X.xe s_2) X.xe s_1) X.xe s:=by
 refine m8 (ha Aq s U H _ I h) λv s1 zz=>?_;obtain⟨x,H1,I1,r1,q1⟩:=zz;refine m8 (hb Aq s1 U H1 _ I1 q1) λu s2 zz=>?_;obtain⟨y,H2,I2,r2,q2⟩:=zz;exact hf v u s2 x y H2 I2 r1 r2 q2
def m5 (ho:oZ X (binaryOp op) r)(ha:PE X a ta)(hb:PE X b tb):PE X (.BinOp a op b pos) (zi r ta tb):=by intro Aq s U H Q I h;exact wpAny_BinOp (lH ha hb I h λv u s2 x y H2 I2 rx ry q=>ho Aq s2 U H2 x y v u Q I2 rx ry q)
def zS (ho:Ec X (unaryOp op) r)(ha:PE X a ta):PE X (.UnaryOp op a pos) (FA r ta):=by intro Aq s U H Q I h;exact UnaryOp_ (m8 (ha Aq s U H _ I h) λv s1 ⟨x,H1,I1,r1,q1⟩=>ho Aq s1 U H1 x v Q I1 r1 q1)
def EA {f:Value->Value->Sem Value}{C:Int->Int->Prop}{g:Int->Int->Int}
  (rule:∀(i j:Int) (t u:Tok) (s:AE) (Q:oo) (E:oo),C i j->Q (.int (g i j) s.toks) { s with toks:=s.toks+1 }->wpAny (model X.prog X.w) X.A (f (.int i t) (.int j u)) Q E s):
  oZ X f (rI C λi j=>.int (g i j)):=by
 intro Aq s U H x y v u Q I rx ry h;obtain⟨i,j,rfl,rfl,hc,q⟩:=Bk h;obtain⟨t,rfl⟩:=rx;obtain⟨t',rfl⟩:=ry;exact rule i j t t' s _ _ hc ⟨.int (g i j),H,I.tok _,⟨_,rfl⟩,q⟩
def opI0 {f:Value->Value->Sem Value}{g:Int->Int->Int}
  (rule:∀(i j:Int) (t u:Tok) (s:AE) (Q:oo) (E:oo),Q (.int (g i j) s.toks) { s with toks:=s.toks+1 }->wpAny (model X.prog X.w) X.A (f (.int i t) (.int j u)) Q E s):
  oZ X f (u7 λi j=>.int (g i j)):=by
 intro Aq s U H x y v u Q I rx ry h;obtain⟨i,j,rfl,rfl,q⟩:=Bk h;obtain⟨t,rfl⟩:=rx;obtain⟨t',rfl⟩:=ry;exact rule i j t t' s _ _ ⟨.int (g i j),H,I.tok _,⟨_,rfl⟩,q⟩
def jM {f:Value->Value->Sem Value}{g:Int->Int->Bool}
  (rule:∀(i j:Int) (t u:Tok) (s:AE) (Q:oo) (E:oo),Q (.bool (g i j)) s->wpAny (model X.prog X.w) X.A (f (.int i t) (.int j u)) Q E s):
  oZ X f (u7 λi j=>.bl (g i j)):=by
 intro Aq s U H x y v u Q I rx ry h;obtain⟨i,j,rfl,rfl,q⟩:=Bk h;obtain⟨t,rfl⟩:=rx;obtain⟨t',rfl⟩:=ry;exact rule i j t t' s _ _ ⟨.bl (g i j),H,I,rfl,q⟩
def CDiv (i j:Int):Prop:=0<j/\j<1073741824
def jO (i j:Int):Prop:=(-(2 ^ 64)<i/\i<2 ^ 64)\/(-(2 ^ 64)<j/\j<2 ^ 64)
def jO.ok (h:jO i j):IntMulOk i j:=by
 rcases h with⟨h1,h2⟩|⟨h1,h2⟩
 .exact .of_left (intBits_le_64 h1 h2)
 .exact .of_right (intBits_le_64 h1 h2)
def pG:oZ X (binaryOp .Add) (u7 λi j=>.int (i+j)):=opI0 λ_ _ _ _ _ _ _ q=>add_int q
def vn:oZ X (binaryOp .Sub) (u7 λi j=>.int (i-j)):=opI0 λ_ _ _ _ _ _ _ q=>sub_int q
def xc:oZ X (binaryOp .Mult) (rI jO λi j=>.int (i*j)):=EA λ_ _ _ _ _ _ _ hc q=>mul_int q hc.ok
def rl:oZ X (binaryOp .FloorDiv) (rI CDiv λi j=>.int (i/j)):=EA λi j _ _ _ _ _ hc q=>by have h1:(0:Int)<j:=hc.1;have h2:j<1073741824:=hc.2;exact floordiv_int ∅ (by rw[Int.fdiv_eq_ediv_of_nonneg i ∅];exact q) (.inl (PyProof.noPylong_small ∅))
def qB:oZ X (binaryOp .Mod) (rI (λ_ j=>0<j) λi j=>.int (i % j)):=EA λi j _ _ _ _ _ hc q=>by have h1:(0:Int)<j:=hc;exact mod_int' ∅ (by rw[Int.fmod_eq_emod_of_nonneg i ∅];exact q)
def unI {f:Value->Sem Value}{g:Int->Int}
  (rule:∀(i:Int) (t:Tok) (s:AE) (Q:oo) (E:oo),Q (.int (g i) s.toks) { s with toks:=s.toks+1 }->wpAny (model X.prog X.w) X.A (f (.int i t)) Q E s):
  Ec X f (rU λi=>.int (g i)):=by
 intro Aq s U H x v Q I rx h;obtain⟨i,_,rfl,_,q⟩:=Bk h;obtain⟨t,rfl⟩:=rx;exact rule i t s _ _ ⟨.int (g i),H,I.tok _,⟨_,rfl⟩,q⟩
def yW:Ec X (unaryOp .USub) (rU λi=>.int (-i)):=unI λ_ _ _ _ _ q=>neg_int q
end
noncomputable def jP:V->V->Bool
 | .non,.non=>true | .non,.int _=>true | .int _,.non=>true | .non,.bl _=>true | .bl _,.non=>true | .non,.str _=>true | .str _,.non=>true
 | .int _,.int _=>true | .bl _,.bl _=>true | .str _,.str _=>true | .byt _,.byt _=>true
 | .int _,.str _=>true | .str _,.int _=>true | .bl _,.str _=>true | .str _,.bl _=>true
 | _,_=>false
def rEq:R2:=λx y H Q=>jP x y=true/\Q (.bl (decide (x=y))) H
def rNe:R2:=λx y H Q=>jP x y=true/\Q (.bl (!decide (x=y))) H
def G0:decide (V.int i=V.int j)=(i == j):=by rw[qv];simp
def IK:decide (V.bl i=V.bl j)=(i == j):=by rw[qv];simp
def Jr:decide (V.str i=V.str j)=(i == j):=by rw[qv];simp
def Gk:decide (V.byt i=V.byt j)=(i.toList == j.toList):=by rw[qv];cases i;cases j;simp
section
def ph (I:mP X Aq U H s)(q:Q (.bl k) H)(e:k=k'):EP X Aq U Q (.bool k') s:=by subst e;exact⟨.bl k,H,I,rfl,q⟩
def Zrp:oZ X (compareOp .Eq) rEq:=by
 intro Aq s U H x y v u Q I rx ry h;obtain⟨hs,q⟩:=h;cases x with
 | non=>
  cases rx;cases y with
  | non=>cases ry;exact PySem.EqNone.eq_none_none (ph I q {})
  | bl j=>cases ry;exact PySem.EqNone.eq_none_bool (ph I q {})
  | int j=>obtain⟨t',rfl⟩:=ry;exact PySem.EqNone.eq_none_int (ph I q {})
  | str j=>obtain⟨t',rfl⟩:=ry;exact PySem.EqNone.eq_none_str (ph I q {})
  | _=>exact JO (show false=true from hs) nU
 | bl i=>
  cases rx;cases y with
  | non=>cases ry;exact PySem.EqNone.eq_bool_none (ph I q {})
  | bl j=>cases ry;exact eq_bool (ph I q IK)
  | str j=>obtain⟨t',rfl⟩:=ry;exact PySem.EqMixed.eq_bool_str (ph I q {})
  | _=>exact JO (show false=true from hs) nU
 | int i=>
  obtain⟨t,rfl⟩:=rx;cases y with
  | non=>cases ry;exact PySem.EqNone.eq_int_none (ph I q {})
  | int j=>obtain⟨t',rfl⟩:=ry;exact eq_int (ph I q G0)
  | str j=>obtain⟨t',rfl⟩:=ry;exact PySem.EqMixed.eq_int_str (ph I q {})
  | _=>exact JO (show false=true from hs) nU
 | str i=>
  obtain⟨t,rfl⟩:=rx;cases y with
  | non=>cases ry;exact PySem.EqNone.eq_str_none (ph I q {})
  | bl j=>cases ry;exact PySem.EqMixed.eq_str_bool (ph I q {})
  | int j=>obtain⟨t',rfl⟩:=ry;exact PySem.EqMixed.eq_str_int (ph I q {})
  | str j=>obtain⟨t',rfl⟩:=ry;exact eq_str (ph I q Jr)
  | _=>exact JO (show false=true from hs) nU
 | byt i=>
  obtain⟨t,rfl⟩:=rx;cases y with
  | byt j=>obtain⟨t',rfl⟩:=ry;exact PySem.W.eq_bytes (ph I q Gk)
  | _=>exact JO (show false=true from hs) nU
 | _=>cases y<;>exact JO (show false=true from hs) nU
def Zro:oZ X (compareOp .NotEq) rNe:=by
 intro Aq s U H x y v u Q I rx ry h;obtain⟨hs,q⟩:=h;cases x with
 | non=>
  cases rx;cases y with
  | non=>cases ry;exact PySem.EqNone.ne_none_none (ph I q {})
  | bl j=>cases ry;exact PySem.EqNone.ne_none_bool (ph I q {})
  | int j=>obtain⟨t',rfl⟩:=ry;exact PySem.EqNone.ne_none_int (ph I q {})
  | str j=>obtain⟨t',rfl⟩:=ry;exact PySem.EqNone.ne_none_str (ph I q {})
  | _=>exact JO (show false=true from hs) nU
 | bl i=>
  cases rx;cases y with
  | non=>cases ry;exact PySem.EqNone.ne_bool_none (ph I q {})
  | bl j=>cases ry;exact ne_bool (ph I q (JN not IK))
  | str j=>obtain⟨t',rfl⟩:=ry;exact PySem.EqMixed.ne_bool_str (ph I q {})
  | _=>exact JO (show false=true from hs) nU
 | int i=>
  obtain⟨t,rfl⟩:=rx;cases y with
  | non=>cases ry;exact PySem.EqNone.ne_int_none (ph I q {})
  | int j=>obtain⟨t',rfl⟩:=ry;exact ne_int (ph I q (JN not G0))
  | str j=>obtain⟨t',rfl⟩:=ry;exact PySem.EqMixed.ne_int_str (ph I q {})
  | _=>exact JO (show false=true from hs) nU
 | str i=>
  obtain⟨t,rfl⟩:=rx;cases y with
  | non=>cases ry;exact PySem.EqNone.ne_str_none (ph I q {})
  | bl j=>cases ry;exact PySem.EqMixed.ne_str_bool (ph I q {})
  | int j=>obtain⟨t',rfl⟩:=ry;exact PySem.EqMixed.ne_str_int (ph I q {})
  | str j=>obtain⟨t',rfl⟩:=ry;exact ne_str (ph I q (JN not Jr))
  | _=>exact JO (show false=true from hs) nU
 | byt i=>
  obtain⟨t,rfl⟩:=rx;cases y with
  | byt j=>obtain⟨t',rfl⟩:=ry;exact PySem.W.ne_bytes (ph I q (JN not Gk))
  | _=>exact JO (show false=true from hs) nU
 | _=>cases y<;>exact JO (show false=true from hs) nU
def Ej:oZ X (compareOp .Lt) (u7 λi j=>.bl (decide (i<j))):=jM λ_ _ _ _ _ _ _ q=>lt_int q
def BH:oZ X (compareOp .LtE) (u7 λi j=>.bl (decide (i<=j))):=jM λ_ _ _ _ _ _ _ q=>le_int q
def xf:oZ X (compareOp .Gt) (u7 λi j=>.bl (decide (j<i))):=jM λ_ _ _ _ _ _ _ q=>gt_int q
def DQ:oZ X (compareOp .GtE) (u7 λi j=>.bl (decide (j<=i))):=jM λ_ _ _ _ _ _ _ q=>ge_int q
def Iu:oZ X (compareOp .In) (λx y H Q=>∃i j,x=.str i/\y=.str j/\Q (.bl (!(Builtin.Str.occurrences j i 0 j.length 1).isEmpty)) H):=by intro Aq s U H x y v u Q I rx ry h;obtain⟨i,j,rfl,rfl,q⟩:=h;obtain⟨t,rfl⟩:=rx;obtain⟨t',rfl⟩:=ry;exact in_str (ph I q rfl)
def wX:oZ X (compareOp .Is) (λx y H Q=>y=.non/\Q (.bl (decide (x=.non))) H):=by
 intro Aq s U H x y v u Q I rx ry h;obtain⟨rfl,q⟩:=h;cases ry;refine is_none_gen (ph I q ?_);cases x<;>first
  | (cases rx;rfl)
  | (obtain⟨t,rfl⟩:=rx;rfl)
def DU:oZ X (compareOp .IsNot) (λx y H Q=>y=.non/\Q (.bl (!decide (x=.non))) H):=by
 intro Aq s U H x y v u Q I rx ry h;obtain⟨rfl,q⟩:=h;cases ry;refine isnot_none_gen (ph I q ?_);cases x<;>first
  | (cases rx;rfl)
  | (obtain⟨t,rfl⟩:=rx;rfl)
def HE:oZ X (compareOp .NotIn) (λx y H Q=>∃i j,x=.str i/\y=.str j/\Q (.bl (!(!(Builtin.Str.occurrences j i 0 j.length 1).isEmpty))) H):=by intro Aq s U H x y v u Q I rx ry h;obtain⟨i,j,rfl,rfl,q⟩:=h;obtain⟨t,rfl⟩:=rx;obtain⟨t',rfl⟩:=ry;exact notIn_str (ph I q rfl)
def nZ (b:Expr){op:CmpOp}(h:op≠.In:=by decide)(h2:op≠.NotIn:=by decide):behindInMarks op b=false:=by
 have e1:(op == CmpOp.In)=false:=by cases op<;>first | rfl | exact JO rfl h
 have e2:(op == CmpOp.NotIn)=false:=by cases op<;>first | rfl | exact JO rfl h2
 cases b<;>simp[behindInMarks,e1,e2]
def qt (ho:oZ X (compareOp op) r)(ha:PE X a ta)(hb:PE X b tb)(hm:behindInMarks op b=false):PE X (.Compare a [op] [b] pos) (zi r ta tb):=by intro Aq s U H Q I h;exact wpAny_Compare1 (lH ha hb I h λv u s2 x y H2 I2 rx ry q=>ho Aq s2 U H2 x y v u Q I2 rx ry q) hm
def JC (t:TE):TT:=λU H Q=>t U H λx H'=>xK x λk=>Q k H'
def oA (ho:oZ X (compareOp op) r)(ha:PE X a ta)(hb:PE X b tb)(hm:behindInMarks op b=false):PT X (.Compare a [op] [b] pos) (JC (zi r ta tb)):=by
 intro Aq s U H Q I h;refine wpAny_isTrue_Compare1 (m8 (ha Aq s U H _ I h) λv s1 ⟨x,H1,I1,r1,q1⟩=>m8 (hb Aq s1 U H1 _ I1 q1) λu s2 ⟨y,H2,I2,r2,q2⟩=>
  m8 (ho Aq s2 U H2 x y v u _ I2 r1 r2 q2) λc s3 ⟨z,H3,I3,r3,q3⟩=>?_) hm
 obtain⟨k,e,q3⟩:=yE q3;subst e;cases r3;exact u9 ⟨H3,I3,q3⟩
def mh (K:Q4)(x:V)(H:Hp)(k:Bool):Prop:=
 match x with
 | .non=>k=false
 | .bl b=>k=b
 | .int i=>k=(i != 0)
 | .str y=>y.length<=sizeLine/\k=((y.length:Int) != 0)
 | .byt y=>y.size<=sizeLine/\k=((y.size:Int) != 0)
 | .ref p=>(∃xs,oj K H p xs/\k=!xs.isEmpty)\/(∃xs,oW K H p xs/\k=!xs.isEmpty)\/∃kvs,H p=some (.dK kvs)/\k=!kvs.isEmpty
 | _=>False
def Zi8 (r:KV kvs vs):(!vs.isEmpty)=!kvs.isEmpty:=by cases r<;>rfl
def Iz (r:fV xs its):(!its.toArray.isEmpty)=!xs.isEmpty:=by cases r<;>simp
def zG:(sizeLine:Nat)<2 ^ 63:=by rw[sizeLine_eq];decide
def ZoG:TruR X (λx H Q=>∃k,mh X.K x H k/\Q k H):=by
 intro Aq s U H x v Q I rx h;obtain⟨k,e,q⟩:=h;have hl:=zG;have hs:sizeLine=16777216:=sizeLine_eq;cases x with
 | non=>
  cases rx;have e':k=false:=e;subst e';exact truthy_none ⟨H,I,q⟩
 | bl b=>
  cases rx;have e':k=b:=e;subst e';exact u9 ⟨H,I,q⟩
 | int i=>
  obtain⟨t,rfl⟩:=rx;have e':k=(i != 0):=e;subst e';exact PySem.P.truthy_int ⟨H,I,q⟩
 | str y=>
  obtain⟨t,rfl⟩:=rx;obtain⟨hy,e'⟩:y.length<=sizeLine/\k=((y.length:Int) != 0):=e;subst e';exact PySem.P.truthy_str ∅ ⟨H,I.tok _,q⟩
 | byt y=>
  obtain⟨t,rfl⟩:=rx;obtain⟨hy,e'⟩:y.size<=sizeLine/\k=((y.size:Int) != 0):=e;subst e';exact PySem.W.truthy_bytes ∅ ⟨H,I.tok _,q⟩
 | ref p=>
  cases rx;have e':(∃xs,oj X.K H p xs/\k=!xs.isEmpty)\/(∃xs,oW X.K H p xs/\k=!xs.isEmpty)\/∃kvs,H p=some (.dK kvs)/\k=!kvs.isEmpty:=e;rcases e' with⟨xs,hx,e'⟩|⟨xs,hx,e'⟩|⟨kvs,hx,e'⟩
  .subst e';obtain⟨its,r,pl,hz⟩:=I.list hx;have As:=r.length;exact wpAny_truthy_list pl.isList (by simp only[oH];lia) ⟨H,I.tok _,by rw[Iz r];exact q⟩
  .subst e';obtain⟨its,r,pl,hz⟩:=I.tuple hx;have As:=r.length;exact truthy_tuple pl (by simp only[oH];lia) ⟨H,I.tok _,by rw[Iz r];exact q⟩
  .subst e';obtain⟨hz,hS,vs,r,m⟩:kvs.length<=sizeLine/\(p == sysModules)=false/\∃vs,KV kvs vs/\s.heap.DictOf (pI X.prog X.w) p vs:=I.hok p _ hx;have As:kvs.length=vs.length:=Paired.length r;exact wpAny_truthy_dict hS m ∅ ⟨H,I.tok _,by rw[Zi8 r];exact q⟩
 | _=>exact(show False from e).elim
def Zlv (ha:PE X a ta)(he:∀whole,isTrue a X.env whole=(do let v <-whole;standAt a.pos;holding [v] (truthy v))):
  PT X a (λU H Q=>ta U H λx H'=>∃k,mh X.K x H' k/\Q k H'):=by
 intro Aq s U H Q I h;exact isTrue_plain (m8 (ha Aq s U H _ I h) λv s1 ⟨x,H1,I1,r1,q1⟩=>ZoG Aq s1 U H1 x v Q I1 r1 q1) (he _)
def ZiS:oZ X (binaryOp .Add) (λx y H Q=>∃i j,x=.str i/\y=.str j/\i.length+j.length<=sizeLine/\Q (.str (i++j)) H):=by intro Aq s U H x y v u Q I rx ry h;obtain⟨i,j,rfl,rfl,hz,q⟩:=h;obtain⟨t,rfl⟩:=rx;obtain⟨t',rfl⟩:=ry;exact add_str (λt' tk=>⟨.str (i++j),H,I.tok _,⟨_,rfl⟩,q⟩) hz
def ju (r:fV [x] us):∃u,us=[u]/\fZ x u:=by
 cases r with
 | cons r1 r2=>cases r2;exact⟨_,rfl,r1⟩
def ko (K:Q4)(x:V)(H:Hp)(n:Nat):Prop:=
 match x with
 | .str y=>y.length<=sizeLine/\n=y.length
 | .byt y=>y.size<=sizeLine/\n=y.size
 | .ref p=>(∃xs,oj K H p xs/\n=xs.length)\/∃xs,oW K H p xs/\n=xs.length
 | _=>False
def Zmo:rq X (.builtin "len") (λxs H Q=>∃x n,xs=[x]/\ko X.K x H n/\Q (.int n) H):=by
 intro Aq s U H xs us Q I r h;obtain⟨x,n,rfl,e,q⟩:=h;obtain⟨u,rfl,rx⟩:=ju r;have hl:=zG;have hs:sizeLine=16777216:=sizeLine_eq;cases x with
 | str y=>
  obtain⟨t,rfl⟩:=rx;obtain⟨hy,e'⟩:y.length<=sizeLine/\n=y.length:=e;subst e';exact len_str ∅ ⟨.int _,H,I.tok _,⟨_,rfl⟩,q⟩
 | byt y=>
  obtain⟨t,rfl⟩:=rx;obtain⟨hy,e'⟩:y.size<=sizeLine/\n=y.size:=e;subst e';exact PySem.W.len_bytes ∅ ⟨.int _,H,I.tok _,⟨_,rfl⟩,q⟩
 | ref p=>
  cases rx;have e':(∃xs,oj X.K H p xs/\n=xs.length)\/∃xs,oW X.K H p xs/\n=xs.length:=e;rcases e' with⟨xs,hx,e'⟩|⟨xs,hx,e'⟩
  .subst e';obtain⟨its,r',pl,hz⟩:=I.list hx;have As:=r'.length;exact Calls.call_len_list pl.isList (by simp only[oH];lia) ⟨.int xs.length,H,I.tok _,⟨_,by simp only[oH];rw[As]⟩,q⟩
  .subst e';obtain⟨its,r',pl,hz⟩:=I.tuple hx;have As:=r'.length;exact len_tuple pl (by simp only[oH];lia) ⟨.int xs.length,H,I.tok _,⟨_,by simp only[oH];rw[As]⟩,q⟩
 | _=>exact(show False from e).elim
end
structure jh (h:Heap)(x dx C:AD)(mA:AB):Prop where
 obj:h.get? x=some (instObj C dx)
 ns:h.Ns1 dx mA
 ne:dx≠x
def Ee {h:Heap}{dx:AD}{mA:AB}(n:h.Ns1 dx mA):∃od,h.get? dx=some od/\∀name,lookIn name od=some (mA name):=by
 obtain⟨o,es,ep,ho,hd,hk,_,hm⟩:=n;refine⟨o,ho,λname=>?_⟩;have e:=hm name;unfold nsFind findBy at e;rw[<-Array.find?_toList]at e;unfold lookIn;rw[hd];dsimp only;split
 .rename_i y q
  rw[q]at e;exact JN some e
 .rename_i q
  rw[q]at e;have a:es.toList.any (·.refKey)=false:=by rw[List.any_eq_false];intro y hy;obtain⟨z,t,hkey⟩:=hk y (Array.mem_toList_iff.mp hy);simp[DictEntry.refKey,hkey]
  have a':¬es.toList.any (·.refKey)=true:=by rw[a];exact nU
  rw[mR a'];exact JN some e
def jh.look (I:jh h x dx C mA):∃od,PySem.W.InstAt h x (instObj C dx) C (some od)/\∀name,lookIn name od=some (mA name):=
 let ⟨od,ho,hl⟩:=Ee I.ns
 ⟨od,⟨I.obj,rfl,rfl,ho⟩,hl⟩
section
variable {prog:AG}{w:AI}{A:AH}{E:oo}{s:AE}{K:Q4}{x dx C f:AD}{mA:AB}{name:Str}{v:Value}
def Zod (X:K.In s.heap)(I:jh s.heap x dx C mA)(hg:plainGet K C name=true)(hh:hasDictIn K C=true)
  (ha:findIn K (.ref C) name=some none) (hv:mA name=some v) (hv':handedIn v=true) (h:Q v { s with toks:=s.toks+1 }):
  wpAny (model prog w) A (getAttr (.ref x) name expr) Q E s:=by
 obtain⟨od,J,hl⟩:=I.look;exact PySem.W.get_value X J (plainGet_of hg).1 (findObj_own hh ha rfl (by rw[hl,hv])) hv' h
def Zl6 (X:K.In s.heap)(I:jh s.heap x dx C mA)(hg:plainGet K C name=true)
  (hf:findIn K (.ref C) name=some (some (.ref f))) (ht:isFn K (.ref f)=true) (hv:mA name=none) (h:Q (.ref f,[.ref x]) s):
  wpAny (model prog w) A (getMethod (.ref x) name pl) Q E s:=by
 obtain⟨od,J,hl⟩:=I.look;exact PySem.W.method_fn X J (plainGet_of hg).1 (plainGet_of hg).2 hf (beq_iff_eq.mp ht) (by show (lookIn name od).map (·.isSome)=some false;rw[hl,hv];rfl) h
def Znh (X:K.In s.heap)(I:jh s.heap x dx C mA)
  (hs:findIn K (.ref C) "__setattr__"=some (some (.builtin "object.__setattr__"))) (hp:plainOver K C=true) (ht:takerIn K C name=some none) (hh:hasDictIn K C=true)
  (hw:PySem.Within mA ns) (hsz:ns.length<=sizeLine)
  (h:∀h',jh h' x dx C (λy=>if y=name then some v else mA y)->Heap.SameBut dx s.heap h'->Q () { s with heap:=h',toks:=s.toks+2 }):
  wpAny (model prog w) A (setAttr (.ref x) name v) Q E s:=by
 obtain⟨od,J,hl⟩:=I.look;refine set_plain X J hs (PySem.W.osa_open (s:={ s with toks:=s.toks+1 }) (r:=none) X J hp ht λb=>?_);obtain⟨cd,hc,hd'⟩:=wW hh;have hx:s.heap.get? x=some ⟨.ref C,some dx,.plain,#[]⟩:=I.obj;refine mO (mW (mO (mO (wpAny_loadPart hx (mO (PySem.W.Looks.here (s:={ s with toks:=s.toks+1 }) (looks_clsIn X hc) ?_))))));rw[hd'];refine mW (a:=some dx) (mO (mW (mO ?_)));refine wpAny_nsSet1 (s:={ s with toks:=s.toks+1 }) I.ns λh' hn2 hs2=>?_;obtain⟨oD,esD,epD,hoD,hdD,hcD⟩:=hn2.count (PySem.Within.cons name v hw);refine mO (wpAny_lookBehind hoD (by rw[hdD];exact pastItsLine_dict (og hcD (by rw[qK];lia))) ?_);exact mW (h _ ⟨(hs2.2 _ (nX I.ne)).trans I.obj,hn2,I.ne⟩ hs2)
def ZlR (X:K.In s.heap)(hm:makesIn K C=true)
  (hi:findIn K (.ref C) "__init__"=some (some (.ref f))) (hf:typeIn K (.ref f)=some (.type "function"))
  (h:codeAny (model prog w) (A.under (.builtin "type.__call__" ⟨.ref C::vs,kw⟩)) (.call (.ref f) ⟨.ref (s.heap.objs.size+1)::vs,kw⟩) (PySem.W.InitBack (s.heap.objs.size+1) R)
   { s with heap:=(s.heap.push emptyDict).push (instObj C s.heap.objs.size) }):
  codeAny (model prog w) A (.call (.ref C) ⟨vs,kw⟩) R s:=by
 obtain⟨hh,g,d,t,os⟩:=s;exact PySem.W.make_core (PySem.W.makes_of X hm) (xj X hi) (λself=>bind_fn X self hf) (.inl rfl) h
end
noncomputable def gs (f:Str)(v:V):List (Str×V)->List (Str×V)
 | []=>[(f,v)]
 | (g,x)::r=>if g=f then (g,v)::r else (g,x)::gs f v r
theorem pY (f g:Str)(v:V):∀fs:List (Str×V),(gs f v fs).lookup g=if g=f then some v else fs.lookup g
 | []=>by
  show List.lookup g [(f,v)]=_;by_cases h:g=f
  .have hb:(g == f)=true:=beq_iff_eq.mpr h;simp only[List.lookup,hb,mS h]
  .have hb:(g == f)=false:=beq_eq_false_iff_ne.mpr h;simp only[List.lookup,hb,mR h]
 | (k,x)::r=>by
  have ih:=pY f g v r;rw[show gs f v ((k,x)::r)=(if k=f then (k,v)::r else (k,x)::gs f v r) from rfl];by_cases hk:k=f
  .rw[mS hk];by_cases h:g=k
   .have hb:(g == k)=true:=beq_iff_eq.mpr h;simp only[List.lookup,hb,mS (h.trans hk)]
   .have hb:(g == k)=false:=beq_eq_false_iff_ne.mpr h;simp only[List.lookup,hb,mR (λe:g=f=>h (e.trans hk.symm))]
  .rw[mR hk];by_cases h:g=k
   .have hb:(g == k)=true:=beq_iff_eq.mpr h;simp only[List.lookup,hb,mR (λe:g=f=>hk (h.symm.trans e))]
   .have hb:(g == k)=false:=beq_eq_false_iff_ne.mpr h;simp only[List.lookup,hb];exact ih
theorem yD (f:Str)(v:V):∀fs:List (Str×V),f∈(gs f v fs).map (·.1)/\∀g,g∈fs.map (·.1)->g∈(gs f v fs).map (·.1)
 | []=>⟨by simp[gs],λg h=>by simp at h⟩
 | (k,x)::r=>by
  obtain⟨i1,i2⟩:=yD f v r;rw[show gs f v ((k,x)::r)=(if k=f then (k,v)::r else (k,x)::gs f v r) from rfl];by_cases hk:k=f
  .rw[mS hk];subst hk;exact⟨{},λg h=>by simpa using h⟩
  .rw[mR hk];refine⟨?_,λg h=>?_⟩
   .rw[pH];exact pP _ i1
   .rw[pH]at h ⊢;rcases ot.mp h with e | e
    .exact ot.mpr (.inl e)
    .exact pP _ (i2 g e)
theorem Dv (f:Str)(v:V):∀fs:List (Str×V),(gs f v fs).length<=fs.length+1
 | []=>by simp[gs]
 | (k,x)::r=>by
  have ih:=Dv f v r;rw[show gs f v ((k,x)::r)=(if k=f then (k,v)::r else (k,x)::gs f v r) from rfl];by_cases hk:k=f
  .rw[mS hk,qK,qK];lia
  .rw[mR hk,qK,qK];lia
def gV.some_of (r:gV (some v) o):∃u,o=some u/\fZ v u:=by
 cases o with
 | none=>exact(show False from r).elim
 | some u=>exact⟨u,rfl,r⟩
def gV.none_of (r:gV none o):o=none:=by
 cases o with
 | none=>rfl
 | some u=>exact(show False from r).elim
def IB (r:fZ v u):handedIn u=true:=by
 cases v with
 | non=>cases (show u=Value.none from r);rfl
 | bl b=>cases (show u=Value.bool b from r);rfl
 | int i=>obtain⟨t,e⟩:=(show ∃t,u=Value.int i t from r);cases e;rfl
 | str x=>obtain⟨t,e⟩:=(show ∃t,u=Value.str x t from r);cases e;rfl
 | byt b=>obtain⟨t,e⟩:=(show ∃t,u=Value.bytes b t from r);cases e;rfl
 | flt b=>obtain⟨t,e⟩:=(show ∃t,u=Value.float b t from r);cases e;rfl
 | ref a=>cases (show u=Value.ref a from r);rfl
 | ty n=>cases (show u=Value.type n from r);rfl
section
def Cg (hok:o7 P w H h)(e:H a=some (.ins C dx fs)):∃mA,jh h a dx C mA/\(∀f,gV (fs.lookup f) (mA f))/\PySem.Within mA (fs.map (·.1))/\fs.length<=1000/\H dx=some (.own a):=by obtain⟨d,z,ne,ob,mA,n,r,q⟩:=(show gg P w H h a (.ins C dx fs) from hok a _ e);exact⟨mA,⟨ob,n,ne⟩,r,q,z,d⟩
end
structure rE (K:Q4)(C:AD):Prop where
 pg:plainGet K C Str.empty=true
 hd:hasDictIn K C=true
 po:plainOver K C=true
 sa:findIn K (.ref C) "__setattr__"=some (some (.builtin "object.__setattr__"))
def rE.get {K:Q4}{C:AD}(c:rE K C)(f:Str):plainGet K C f=true:=c.pg
def ge (K:Q4)(C:AD)(f:Str):Prop:=findIn K (.ref C) f=some none
def ge.taker {K:Q4}{C:AD}{f:Str}(n:ge K C f):takerIn K C f=some none:=by unfold takerIn;rw[show findIn K (.ref C) f=some none from n];rfl
structure gF (K:Q4)(C:AD)(m:Str)(f:AD):Prop where
 at_:findIn K (.ref C) m=some (some (.ref f))
 fn:isFn K (.ref f)=true
 kp:keepIn K (.ref f)=true
section
def Zi9 (I:mP X Aq U H s)(e:H a=some (.ins C dx fs))(c:rE X.K C)(n:ge X.K C f)(l:fs.lookup f=some v)
  (h:∀u s',mP X Aq U H s'->fZ v u->Q u s'):wpAny (model X.prog X.w) A (getAttr (.ref a) f b) Q E s:=by
 obtain⟨mA,O,r,_,_,_⟩:=Cg I.hok e;obtain⟨u,hu,ru⟩:=gV.some_of (v:=v) (o:=mA f) (by rw[<-l];exact r f);exact Zod I.kIn O (c.get f) c.hd n hu (IB ru) (h u _ (I.tok _) ru)
def Ge (I:mP X Aq U H s)(e:H a=some (.ins C dx fs))(c:rE X.K C)(k:gF X.K C m g)(l:fs.lookup m=none)
  (h:Q (.ref g,[.ref a]) s):wpAny (model X.prog X.w) A (getMethod (.ref a) m pl) Q E s:=by
 obtain⟨mA,O,r,_,_,_⟩:=Cg I.hok e;have hn:mA m=none:=gV.none_of (by rw[<-l];exact r m);exact Zl6 I.kIn O (c.get m) k.at_ k.fn hn h
def ZiL (I:mP X Aq U H s)(e:H a=some (.ins C dx fs))(c:rE X.K C)(n:ge X.K C f)(hl:fs.length<1000)(ry:fZ y u)
  (h:∀s',mP X Aq U (upd H a (.ins C dx (gs f y fs))) s'->Q () s'):wpAny (model X.prog X.w) A (setAttr (.ref a) f u) Q E s:=by
 obtain⟨mA,O,r,wi,_,ho⟩:=Cg I.hok e;have hz:(fs.map (·.1)).length<=sizeLine:=by rw[m6,sizeLine_eq];lia
 refine Znh I.kIn O c.sa c.po n.taker c.hd wi hz λh' O' sb=>h _ ?_;have hd:∃o,h'.get? dx=some o:=let ⟨o,_,_,e',_⟩:=O'.ns;⟨o,e'⟩;refine I.write (x:=a) (e:=dx) (by rw[e];exact True.intro) (.inr ho) (λb q hb z=>(sb.2 b hb).trans z) hd ?_;refine⟨by rw[mT O.ne];exact ho,?_,O.ne,O'.obj,_,O'.ns,λg=>?_,λg hg=>?_⟩
 .have:=Dv f y fs;lia
 .show gV ((gs f y fs).lookup g) (if g=f then some u else mA g);rw[pY];by_cases q:g=f
  .rw[mS q,mS q];exact ry
  .rw[mR q,mR q];exact r g
 .by_cases q:g=f
  .rw[q];exact(yD f y fs).1
  .refine(yD f y fs).2 g (wi g λz=>hg ?_);show (if g=f then some u else mA g)=none;rw[mR q];exact z
def mP.made (I:mP X Aq U H s):mP X Aq U (upd (upd H s.heap.objs.size (.own (s.heap.objs.size+1))) (s.heap.objs.size+1) (.ins C s.heap.objs.size []))
  { s with heap:=(s.heap.push emptyDict).push (instObj C s.heap.objs.size) }:=by
 have e1:(s.heap.push emptyDict).get? s.heap.objs.size=some emptyDict:=oP s.heap rfl;have e2:((s.heap.push emptyDict).push (instObj C s.heap.objs.size)).get? (s.heap.objs.size+1)=some (instObj C s.heap.objs.size):=by
  have:=oP (s.heap.push emptyDict) (o:=instObj C s.heap.objs.size) rfl
  rwa [rO]at this
 have e3:(s.heap.push emptyDict).Ns s.heap.objs.size (λ_=>none):=⟨emptyDict,#[],_,e1,rfl,(λe he=>JO he {}),λ_=>rfl⟩;have I1:=I.laid (a:=s.heap.objs.size) (o:=.own (s.heap.objs.size+1)) (h':=s.heap.push emptyDict) (t':=s.toks) (λb u q=>nG _ q) (nD _) ⟨_,e1⟩;refine I1.laid (a:=s.heap.objs.size+1) (o:=.ins C s.heap.objs.size []) (t':=s.toks) (λb u q=>nG _ q) (vj (rO _ _)) ?_;have ne:s.heap.objs.size≠s.heap.objs.size+1:=oO (Nat.lt_succ_self _);refine⟨by rw[mT ne,nu],pE _,ne,e2,λ_=>none,(Heap.Ns1.of_empty e3).at λo q=>nG _ q,λ_=>True.intro,λy hy=>JO rfl hy⟩
def FO (hb:attributeBase e f env (eval e env)=eval e env)
  (h:wpAny (model prog w) A (eval e env) (λo s_1=>wpAny (model prog w) A (getAttr o f true) Q E s_1) E s):wpAny (model prog w) A (eval (.Attribute e f pos) env) Q E s:=
 Attribute_any_ h (by rw[arm_eval_Attribute,hb])
end
def lA (K:Q4)(ta:TE)(f:Str):TE:=λU H Q=>ta U H λx H1=>∃a C dx fs v,x=.ref a/\H1 a=some (.ins C dx fs)/\rE K C/\ge K C f/\fs.lookup f=some v/\Q v H1
def sFld (K:Q4)(ta tv:TE)(f:Str):TS:=λD U H=>tv U H λy H1=>ta U H1 λx H2=>∃a C dx fs,x=.ref a/\H2 a=some (.ins C dx fs)/\rE K C/\ge K C f/\fs.length<1000 /\
 D.nx U (upd H2 a (.ins C dx (gs f y fs)))
section
def Zph (he:PE X e ta)(hb:attributeBase e f X.env (eval e X.env)=eval e X.env):PE X (.Attribute e f pos) (lA X.K ta f):=by intro Aq s U H Q I h;refine FO hb (m8 (he Aq s U H _ I h) λu s1 zz=>?_);obtain⟨x,H1,I1,rx,a,C,dx,fs,v,ex,ea,c,n,l,q⟩:=zz;subst ex;obtain rfl:u=Value.ref a:=rx;exact Zi9 I1 ea c n l λu' s2 I2 ru=>⟨v,H1,I2,ru,q⟩
def vP (ha:PE X o ta)(hv:PE X value tv)(hs:swapsWith value (some (.Attribute o f pos')) pos.line X.env=pure false):PS X (.Assign [.Attribute o f pos'] value pos) (sFld X.K ta tv f):=by intro Aq s U H D I h;refine plainObj_wpAny_Assign_Attribute (m8 (hv Aq s U H _ I h) λu s1 ⟨y,H1,I1,ry,q⟩=>m8 (ha Aq s1 U H1 _ I1 q) λov s2 zz=>?_) hs;obtain⟨x,H2,I2,rx,a,C,dx,fs,ex,ea,c,n,l,q2⟩:=zz;subst ex;obtain rfl:ov=Value.ref a:=rx;exact ZiL I2 ea c n l ry λs3 I3=>⟨U,_,I3,q2⟩
end
section
inductive ie (K:Q4) (H:Hp):V->Value->Prop where
 | non:ie K H .non (.type "NoneType")
 | bl (x:Bool):ie K H (.bl x) (.type "bool")
 | int (i:Int):ie K H (.int i) (.type "int")
 | str (x:Str):ie K H (.str x) (.type "str")
 | flt (x:UInt64):ie K H (.flt x) (.type "float")
 | lst {a:AD} {xs:JR} (e:H a=some (.lst xs)):ie K H (.ref a) (.type "list")
 | frz {a:AD} {o:Obj} {xs:JR} (e:H a=some (.frz o (.lst xs))):ie K H (.ref a) (.type "list")
 | tup {a:AD} {xs:JR} (e:H a=some (.tup xs)):ie K H (.ref a) (.type "tuple")
 | dK {a:AD} {kvs:List (nH×V)} (e:H a=some (.dK kvs)):ie K H (.ref a) (.type "dict")
 | dT {a:AD} {kvs:List (List nH×V)} (e:H a=some (.dT kvs)):ie K H (.ref a) (.type "dict")
 | ins {a C dx:AD} {fs:List (Str×V)} (e:H a=some (.ins C dx fs)) (cl:rE K C) (ha:findIn K (.ref C) "__class__"=some (some (.builtin "object.__class__")))
   (hn:specialIn K (.builtin "object.__class__") "__get__"=some (some (.builtin "getset_descriptor.__get__"))) (htk:takesIn K (.builtin "object.__class__")=some true)
   (hm:mroIn K C (.type "object")=some true):ie K H (.ref a) (.ref C)
def Zku (I:mP X Aq U H s)(rx:fZ x u)(ty:ie X.K H x t)(e:kitOne X.K t c=some b)(h:∀tk,Q (.bool b) { s with toks:=tk }):
  wpAny (model X.prog X.w) A (call (.builtin "isinstance") [u,c]) Q E s:=by
 cases ty with
 | non=>cases (show u=Value.none from rx);exact sv kitx_none I.kIn True.intro e (λz=>nomatch z) h
 | bl y=>cases (show u=Value.bool y from rx);exact sv kitx_bool I.kIn True.intro e (λz=>nomatch z) h
 | int i=>obtain⟨t,q⟩:=(show ∃t,u=Value.int i t from rx);cases q;exact sv kitx_int I.kIn True.intro e (λz=>nomatch z) h
 | str y=>obtain⟨t,q⟩:=(show ∃t,u=Value.str y t from rx);cases q;exact sv kitx_str I.kIn True.intro e (λz=>nomatch z) h
 | flt y=>obtain⟨t,q⟩:=(show ∃t,u=Value.float y t from rx);cases q;exact sv kitx_float I.kIn True.intro e (λz=>nomatch z) h
 | @lst a xs ea=>
  cases (show u=Value.ref a from rx);obtain⟨_,_,n,_,h1⟩:=(show gg X.prog X.w H s.heap a (.lst xs) from I.hok a _ ea);exact sv yt I.kIn ⟨_,h1,rfl⟩ e (λz=>nomatch z) h
 | @frz a ob xs ea=>
  cases (show u=Value.ref a from rx);obtain⟨_,_,_,n,_,h1⟩:=(show gg X.prog X.w H s.heap a (.frz ob (.lst xs)) from I.hok a _ ea);exact sv yt I.kIn ⟨_,h1,rfl⟩ e (λz=>nomatch z) h
 | @tup a xs ea=>
  cases (show u=Value.ref a from rx);obtain⟨_,_,_,p⟩:=(show gg X.prog X.w H s.heap a (.tup xs) from I.hok a _ ea);obtain⟨o,h1,h2,_⟩:=p;exact sv kitx_tuple I.kIn ⟨o,h1,h2⟩ e (λz=>nomatch z) h
 | @dK a kvs ea=>
  cases (show u=Value.ref a from rx);obtain⟨_,_,vs,_,p⟩:=(show gg X.prog X.w H s.heap a (.dK kvs) from I.hok a _ ea);obtain⟨o,es,ep,h1,h2,_⟩:=p;exact sv kitx_dict I.kIn ⟨o,h1,h2.1⟩ e (λz=>nomatch z) h
 | @dT a kvs ea=>
  cases (show u=Value.ref a from rx);obtain⟨_,_,xs,_,o,es,ep,h1,h2,_⟩:=(show gg X.prog X.w H s.heap a (.dT kvs) from I.hok a _ ea);exact sv kitx_dict I.kIn ⟨o,h1,h2.1⟩ e (λz=>nomatch z) h
 | @ins a C dx fs ea cl ha hn htk hm=>
  cases (show u=Value.ref a from rx);obtain⟨mA,O,_⟩:=Cg I.hok ea;obtain⟨od,J,_⟩:=O.look;exact sv (PySem.W.kitx_own (cl.get _) cl.hd ha hn htk hm) I.kIn J e (λz=>nomatch z) h
end
structure gz (k:Nat)(A:AH):Prop where
 hd:A.handled=none
 dp:A.depth+3*k+5<recursionLimit
 un:A.units+16*k+200<cLine
def gz.mono (r:gz k A)(h:j<=k):gz j A:=⟨r.hd,by have:=r.dp;lia,by have:=r.un;lia⟩
def gz.deeper (r:gz (k+1) A)(env:Env):gz k (A.deeper env):=
 ⟨r.hd,by have:=r.dp;show A.depth+1+3*k+5<_;lia,by have:=r.un;show A.units+3+16*k+200<_;lia⟩
def Zi0 {A:AH}{C:AD}{us:AC}{kw:List (Str×Value)}:(A.under (.builtin "type.__call__" ⟨.ref C::us,kw⟩)).depth=A.depth+1:=by
 first | rfl | simp[Around.under,Code.weight,Code.isCreation,Code.isGuard,Code.isCaller,Code.frames,Code.isFrame,guardIds]
def ZiZ {A:AH}{C:AD}{us:AC}{kw:List (Str×Value)}:(A.under (.builtin "type.__call__" ⟨.ref C::us,kw⟩)).units=A.units+1:=by
 first | rfl | simp[Around.under,Code.cUnits,Code.frames,Code.isFrame]
def gz.make (r:gz (k+1) A)(C:AD)(us:AC)(kw:List (Str×Value)):gz k (A.under (.builtin "type.__call__" ⟨.ref C::us,kw⟩)):=
 ⟨r.hd,by have:=r.dp;rw[Zi0];lia,by have:=r.un;rw[ZiZ];lia⟩
def gz.depth (r:gz k A):A.depth<recursionLimit:=by have:=r.dp;lia
def gz.units (r:gz k A):A.units+64<cLine:=by have:=r.un;lia
def kF:TA:=λ_ H Q=>Q [] H
def FW (ta:TE)(tr:TA):TA:=λU H Q=>ta U H λx H1=>tr U H1 λxs H2=>Q (x::xs) H2
section
def mQ:PA X [] kF:=λ_ _ _ _ H Q I h=>yr ⟨[],H,I,.nil,h⟩
def mM (ha:PE X e te)(hr:PA X es t)(hs:starEach (e::es) X.env=(false,eval e X.env)::starEach es X.env:=by rfl):PA X (e::es) (FW te t):=by intro pos Aq s U H Q I h;rw[hs];show wpAny _ _ (spliced ((false,eval e X.env)::backTo pos (starEach es X.env))) _ _ s;refine vJ (m8 (ha Aq s U H _ I h) λu s1 zz=>?_);obtain⟨x,H1,I1,r1,q1⟩:=zz;exact m8 (hr pos Aq s1 U H1 _ I1 q1) λus s2 ⟨xs,H2,I2,r2,q2⟩=>⟨x::xs,H2,I2,.cons r1 r2,q2⟩
def tTup (t:TA):TE:=λU H Q=>t U H λxs H1=>xs.length<=sizeLine/\∀p,H1 p=none->Q (.ref p) (upd H1 p (.tup xs))
def tLst (t:TA):TE:=λU H Q=>t U H λxs H1=>xs.length<=sizeLine/\∀p,H1 p=none->Q (.ref p) (upd H1 p (.lst xs))
def rp {x1}(h:PA X es t):PE X (.Tuple es x1 pos) (tTup t):=by intro Aq s U H Q I hq;refine wpAny_Tuple_spliced (m8 (h pos Aq s U H _ I hq) λus s1 ⟨xs,H1,I1,r,z,q⟩=>⟨by rw[<-r.length];exact z,?_⟩);have hf:H1 s1.heap.objs.size=none:=I1.hok.fresh (nD _);refine⟨.ref s1.heap.objs.size,upd H1 s1.heap.objs.size (.tup xs),I1.laid (t':=s1.toks) (λb u e=>nG _ e) (nD _) ?_,rfl,q _ hf⟩;exact⟨z,us,r,⟨_,oP _ rfl,rfl,_,rfl⟩⟩
def sk (h:PA X es t):PE X (.List es pos) (tLst t):=by intro Aq s U H Q I hq;refine wpAny_List_spliced (m8 (h pos Aq s U H _ I hq) λus s1 ⟨xs,H1,I1,r,z,q⟩=>⟨by rw[<-r.length];exact z,?_⟩);have hf:H1 s1.heap.objs.size=none:=I1.hok.fresh (nD _);refine⟨.ref s1.heap.objs.size,upd H1 s1.heap.objs.size (.lst xs),I1.laid (t':=s1.toks) (λb u e=>nG _ e) (nD _) ?_,rfl,q _ hf⟩;exact⟨z,us,0,r,oP _ rfl⟩
end
abbrev Sp:=JR->Hp->VK->XK->Prop
abbrev tK:=List Env->Hp->AE->XK->Value->AE->Prop
structure jk (P:AG)(w:AI)(K:Q4)(mg:AB)(base:Heap)(A:AH)(outer:List Env)(s:AE)(H:Hp):Prop where
 frames:A.frames=some outer
 mod:Mod K mg base
 bs:∀b o,base.get? b=some o->s.heap.get? b=some o/\H b=none
 bsz:base.objs.size<=s.heap.objs.size
 funs:s.heap.FunFrames base outer
 frf:∀b∈pz outer,H b=none
 hok:o7 P w H s.heap
 bare:AllBare s.gens
def CE (outer:List Env)(P:AG)(w:AI)(H:Hp)(s:AE)(Q:VK)(u:Value)(s':AE):Prop:=
 ∃v H',s'.os=s.os/\AllBare s'.gens/\Un (pz outer) [] H H' s.heap s'.heap/\o7 P w H' s'.heap/\fZ v u/\Q v H'
def CR (CX:tK)(outer:List Env)(P:AG)(w:AI)(H:Hp)(s:AE)(Q:VK)(E:XK)(r:Result)(s':AE):Prop:=
 match r with
 | .ok (.ret u)=>CE outer P w H s Q u s'
 | .ok _=>False
 | .error e=>CX outer H s E e s'
structure f7 (P:AG)(w:AI)(K:Q4)(mg:AB)(base:Heap)(CX:tK)(k:Nat)(f:AD)(fd:AF)(ps:AJ)(sp:Sp):Prop where
 len:∀vs H Q E,sp vs H Q E->vs.length=ps.length
 run:∀(A:AH) (outer:List Env) (s:AE) (H:Hp) (args:Args) (us:AC) (vs:JR) (Q:VK) (E:XK),gz k A->jk P w K mg base A outer s H->BindsTo s fd args (ps.zip us)->fV vs us->sp vs H Q E ->
  codeAny (model P w) A (.call (.ref f) args) (CR CX outer P w H s Q E) s
def jk.make {P:AG}{w:AI}{K:Q4}{mg:AB}{base:Heap}{A:AH}{outer:List Env}{s:AE}{H:Hp}(e:jk P w K mg base A outer s H)(C:AD)(us:AC)(kw:List (Str×Value)):
  jk P w K mg base (A.under (.builtin "type.__call__" ⟨.ref C::us,kw⟩)) outer s H:=⟨by first | exact e.frames | (simpa [Around.under,Code.envs,Code.isFrame,pushEnvs] using e.frames),e.mod,e.bs,e.bsz,e.funs,e.frf,e.hok,e.bare⟩
section
def mP.env0 (I:mP X Aq U H s):jk X.prog X.w X.K X.mg X.base X.A X.stack s H:=
 ⟨I.ok.frames,I.ok.mod,I.bs,og I.ok.bsz I.sz,I.stack,I.stkFree,I.hok,I.bare⟩
def mP.after (I:mP X Aq U H s)(h:CE X.stack X.prog X.w H s Q u s'):EP X Aq U Q u s':=by obtain⟨v,H',os,bare,un,hok,r,q⟩:=h;obtain⟨hh,g,d,t,os'⟩:=s';obtain rfl:os'=s.os:=os;exact⟨v,H',I.call (h':=hh) (g':=g) (d':=d) (t':=t) (ch:=[]) un hok bare (λb z=>JO z {}),r,q⟩
end
def Ba (sp:Sp)(A0:JR)(E:XK)(t:TA):TE:=λU H Q=>t U H λvs H1=>sp (vs++A0) H1 Q E
def EO (C:AD)(m:Str)(sp:Sp)(A0:JR)(E:XK)(ta:TE)(t:TA):TE:=λU H Q=>ta U H λx H1=>∃a dx fs,x=.ref a/\H1 a=some (.ins C dx fs)/\fs.lookup m=none /\
 t U H1 λvs H2=>sp (x::(vs++A0)) H2 Q E
def Hr (C:AD)(sp:Sp)(A0:JR)(E:XK)(t:TA):TE:=λU H Q=>t U H λvs H1=>∀x dx,H1 x=none->H1 dx=none->dx≠x ->
 sp (.ref x::(vs++A0)) (upd (upd H1 dx (.own x)) x (.ins C dx [])) (λv H2=>v=.non/\Q (.ref x) H2) E
def gR (K:Q4)(fd:AF)(ps:AJ)(ds:AC):Prop:=
 ∀(s:AE) (us:AC),K.In s.heap->(us++ds).length=ps.length->BindsTo s fd ⟨us,[]⟩ (ps.zip (us++ds))
def gR.all {K:Q4}{fd:AF}{ps:AJ}(h:∀us:AC,us.length=ps.length->bindArgs fd ⟨us,[]⟩=pure (ps.zip us)):gR K fd ps []:=λs us _ hl=>by rw[va]at hl ⊢;exact .of_eq (h us hl)
def sW (CX:tK)(X:Cx)(E:XK):Prop:=∀(Aq:AA) (U:St) (H:Hp) (s:AE) (e:Value) (s':AE),mP X Aq U H s->CX X.stack H s E e s'->X.xe e s'
section
def Cd (F:f7 X.prog X.w X.K X.mg X.base CX k f fd ps sp)(hr:gz k X.A)(hb:gR X.K fd ps ds)(hd:fV A0 ds)(hx:sW CX X E)
  (I:mP X Aq U H s) (r:fV vs us) (h:sp (vs++A0) H Q E):wpAny (model X.prog X.w) X.A (call (.ref f) us) (EP X Aq U Q) X.xe s:=by
 have r2:fV (vs++A0) (us++ds):=r.append hd;have hl:(us++ds).length=ps.length:=by rw[<-r2.length];exact F.len _ _ _ _ h
 refine uu (codeAny_mono (F.run X.A X.stack s H ⟨us,[]⟩ (us++ds) (vs++A0) Q E hr I.env0 (hb s us I.kIn hl) r2 h) λr s' hq=>?_);cases r with
 | error e=>exact hx Aq U H s e s' I hq
 | ok fl=>
  cases fl with
  | ret u=>exact I.after hq
  | next=>exact False.elim hq
  | brk=>exact False.elim hq
  | cont=>exact False.elim hq
def ZnE (F:f7 X.prog X.w X.K X.mg X.base CX k f fd ps sp)(hr:gz k X.A)(hg:Gl X x)(hm:X.mg x=some (.ref f))(hk:keepIn X.K (.ref f)=true)(hb:gR X.K fd ps ds)(hd:fV A0 ds)(hx:sW CX X E)
  (ha:PA X (e::es) t) (hdb:(x == ("__debug__":Str))=false:=by decide) (he:starEach (e::es) X.env=(false,eval e X.env)::starEach es X.env:=by rfl) (hpl:(backTo pos (starEach es X.env)).any (·.1)=false:=by rfl):
  PE X (.Call (.Name x p) (e::es) [] pos) (Ba sp A0 E t):=by
 intro Aq s U H Q I h;refine uz (vG I hg hm ?_ hdb);refine xR (h₀:=X.base) I.ok.mod.kin hk (m8 (ha pos Aq s U H _ I h) λus s1 ⟨vs,H1,I1,r,q⟩=>⟨I1.kIn,?_⟩) he hpl;exact Cd F hr hb hd hx I1 r q
def qm (he:PE X o ta)(c:rE X.K C)(hm:gF X.K C m f)(F:f7 X.prog X.w X.K X.mg X.base CX k f fd ps sp)(hr:gz k X.A)(hb:gR X.K fd ps ds)(hd:fV A0 ds)(hx:sW CX X E)(ha:PA X (e::es) t)
  (hst:starEach (e::es) X.env=(false,eval e X.env)::starEach es X.env:=by rfl) (hpl:(backTo pos (starEach es X.env)).any (·.1)=false:=by rfl)
  (ht:eval (.Call (.Attribute o m Aw) (e::es) [] pos) X.env=(do
   let ov <-eval o X.env
   standAt Aw.atName
   let (f,first) <-holding [ov] (getMethod ov m pl)
   callWith pos f first (backTo pos (starEach (e::es) X.env)) (backToKw pos (keywordEach [] X.env))):=by rfl):
  PE X (.Call (.Attribute o m Aw) (e::es) [] pos) (EO C m sp A0 E ta t):=by
 intro Aq s U H Q I h;refine methodCall_KW (pl:=pl) (m8 (he Aq s U H _ I h) λu s1 zz=>?_) ht;obtain⟨x,H1,I1,rx,a,dx,fs,ex,ea,l,q⟩:=zz;subst ex;obtain rfl:u=Value.ref a:=rx;refine Ge I1 ea c hm l ?_;refine xR (first:=[.ref a]) (h₀:=X.base) I.ok.mod.kin hm.kp (m8 (ha pos Aq s1 U H1 _ I1 q) λus s2 ⟨vs,H2,I2,r,q2⟩=>⟨I2.kIn,?_⟩) hst hpl;exact Cd (us:=.ref a::us) (vs:=.ref a::vs) F hr hb hd hx I2 (.cons rfl r) q2
def t9 (he:PE X o ta)(c:rE X.K C)(hm:gF X.K C m f)(F:f7 X.prog X.w X.K X.mg X.base CX k f fd ps sp)(hr:gz k X.A)(hb:gR X.K fd ps ds)(hd:fV A0 ds)(hx:sW CX X E)
  (ht:eval (.Call (.Attribute o m Aw) [] [] pos) X.env=(do
   let ov <-eval o X.env
   standAt Aw.atName
   let (f,first) <-holding [ov] (getMethod ov m pl)
   callWith pos f first (backTo pos (starEach [] X.env)) (backToKw pos (keywordEach [] X.env))):=by rfl):
  PE X (.Call (.Attribute o m Aw) [] [] pos) (EO C m sp A0 E ta kF):=by
 intro Aq s U H Q I h;refine methodCall_KW (pl:=pl) (m8 (he Aq s U H _ I h) λu s1 zz=>?_) ht;obtain⟨x,H1,I1,rx,a,dx,fs,ex,ea,l,q⟩:=zz;subst ex;obtain rfl:u=Value.ref a:=rx;refine Ge I1 ea c hm l ?_;exact PySem.W.callWith_K0 (first:=[.ref a]) I1.kIn hm.kp (Cd (us:=[.ref a]) (vs:=[.ref a]) F hr hb hd hx I1 (.cons rfl .nil) q)
structure Mk (K:Q4)(C f:AD):Prop where
 makes:makesIn K C=true
 init:findIn K (.ref C) "__init__"=some (some (.ref f))
 fn:isFn K (.ref f)=true
 kp:keepIn K (.ref C)=true
def Zlp (M:Mk X.K C f)(F:f7 X.prog X.w X.K X.mg X.base CX k f fd ps sp)(hr:gz (k+1) X.A)(hb:gR X.K fd ps ds)(hd:fV A0 ds)
  (hx:sW CX X E) (I:mP X Aq U H s) (r:fV vs us)
  (h:∀x dx,H x=none->H dx=none->dx≠x->sp (.ref x::(vs++A0)) (upd (upd H dx (.own x)) x (.ins C dx [])) (λv H2=>v=.non/\Q (.ref x) H2) E):
  wpAny (model X.prog X.w) X.A (call (.ref C) us) (EP X Aq U Q) X.xe s:=by
 have hq:=h (s.heap.objs.size+1) s.heap.objs.size (I.hok.fresh (uk _)) (I.hok.fresh (nD _)) (oO (Nat.lt_succ_self _));have I2:=mP.made (C:=C) I;have r2:fV (V.ref (s.heap.objs.size+1)::(vs++A0)) (Value.ref (s.heap.objs.size+1)::(us++ds)):=.cons rfl (r.append hd);have hl:(Value.ref (s.heap.objs.size+1)::us++ds).length=ps.length:=by have e:=r2.length;rw[F.len _ _ _ _ hq]at e;exact e.symm
 refine uu (ZlR (f:=f) I.kIn M.makes M.init (beq_iff_eq.mp M.fn) (codeAny_mono (F.run _ X.stack _ _ ⟨Value.ref (s.heap.objs.size+1)::us,[]⟩ (Value.ref (s.heap.objs.size+1)::(us++ds)) _ _ E (hr.make C us [])
  (I2.env0.make C us []) (hb _ (Value.ref (s.heap.objs.size+1)::us) I2.kIn hl) r2 hq) λr s' hq'=>?_))
 cases r with
 | error e=>exact hx Aq U _ _ e s' I2 hq'
 | ok fl=>
  cases fl with
  | ret u=>
   obtain⟨v,H',I3,rv,ev,q3⟩:=I2.after hq';subst ev;exact⟨rv,⟨V.ref (s.heap.objs.size+1),H',I3,rfl,q3⟩⟩
  | next=>exact False.elim hq'
  | brk=>exact False.elim hq'
  | cont=>exact False.elim hq'
def y8 (M:Mk X.K C f)(F:f7 X.prog X.w X.K X.mg X.base CX k f fd ps sp)(hr:gz (k+1) X.A)(hg:Gl X x)(hm:X.mg x=some (.ref C))(hb:gR X.K fd ps ds)(hd:fV A0 ds)(hx:sW CX X E)
  (ha:PA X (e::es) t) (hdb:(x == ("__debug__":Str))=false:=by decide) (he:starEach (e::es) X.env=(false,eval e X.env)::starEach es X.env:=by rfl) (hpl:(backTo pos (starEach es X.env)).any (·.1)=false:=by rfl):
  PE X (.Call (.Name x p) (e::es) [] pos) (Hr C sp A0 E t):=by
 intro Aq s U H Q I h;refine uz (vG I hg hm ?_ hdb);refine xR (h₀:=X.base) I.ok.mod.kin M.kp (m8 (ha pos Aq s U H _ I h) λus s1 ⟨vs,H1,I1,r,q⟩=>⟨I1.kIn,?_⟩) he hpl;exact Zlp M F hr hb hd hx I1 r q
end
section
end
structure fU (N P:AJ)(sc:Scope):Prop where
 kind:sc.kind=.function
 co:sc.isCoroutine=false
 gen:sc.isGenerator=false
 nd:N.Nodup
 pre:N.take P.length=P
 par:∀x∈P,sc.names.lookup x=some .local\/sc.names.lookup x=some .cell
 nofree:∀y∈sc.names,y.2≠.free
theorem F4 {kindOf:Str->Option NameKind}{x:Str}:∀ {binds:List (Str×Value)} {m:AB},(∀v,(x,v)∉binds)->bindL kindOf binds m x=m x
 | [],_,_=>rfl
 | (n,v)::r,m,h=>by
  unfold bindL;rw[F4 λw hw=>h w (pP _ hw)];split
  .have:x≠n:=by rintro rfl;exact h v pW
   simp[this]
  .rfl
theorem Jx {kindOf:Str->Option NameKind}{x:Str}:∀ {binds:List (Str×Value)} {m:AB},(∀v,(x,v)∉binds)->bindC kindOf binds m x=m x
 | [],_,_=>rfl
 | (n,v)::r,m,h=>by
  unfold bindC;rw[Jx λw hw=>h w (pP _ hw)];split
  .rfl
  .have:x≠n:=by rintro rfl;exact h v pW
   simp[this]
theorem Gh {kindOf:Str->Option NameKind}{x:Str}{v:Value}:∀ {P:AJ} {vs:AC} {i:Nat} {m:AB},P.Nodup->P[i]?=some x->vs[i]?=some v->kindOf x=some .local ->
  bindL kindOf (P.zip vs) m x=some v
 | [],_,_,_,_,h,_,_=>by simp at h
 | _::_,[],_,_,_,_,h,_=>by simp at h
 | p::P,w::vs,0,m,nd,h1,h2,hk=>by
  simp at h1 h2;subst h1;subst h2;show bindL kindOf ((p,w)::P.zip vs) m p=_;unfold bindL;rw[F4 λv hv=>(tZ.mp nd).1 (List.of_mem_zip hv).1,mS hk];simp
 | p::P,w::vs,i+1,m,nd,h1,h2,hk=>by show bindL kindOf ((p,w)::P.zip vs) m x=_;unfold bindL;exact Gh (i:=i) (tZ.mp nd).2 (~~~h1) (~~~h2) hk
theorem Fs {kindOf:Str->Option NameKind}{x:Str}{v:Value}:∀ {P:AJ} {vs:AC} {i:Nat} {m:AB},P.Nodup->P[i]?=some x->vs[i]?=some v->kindOf x≠some .local ->
  bindC kindOf (P.zip vs) m x=some v
 | [],_,_,_,_,h,_,_=>by simp at h
 | _::_,[],_,_,_,_,h,_=>by simp at h
 | p::P,w::vs,0,m,nd,h1,h2,hk=>by
  simp at h1 h2;subst h1;subst h2;show bindC kindOf ((p,w)::P.zip vs) m p=_;unfold bindC;rw[Jx λv hv=>(tZ.mp nd).1 (List.of_mem_zip hv).1,mR hk];simp
 | p::P,w::vs,i+1,m,nd,h1,h2,hk=>by show bindC kindOf ((p,w)::P.zip vs) m x=_;unfold bindC;exact Fs (i:=i) (tZ.mp nd).2 (~~~h1) (~~~h2) hk
noncomputable def start (N:AJ)(vs:JR):St:=vs.map some++List.replicate (N.length-vs.length) none
noncomputable def ir (CX:tK)(P:AG)(w:AI)(K:Q4)(mg:AB)(base:Heap)(N:AJ)(qual:Str)(scope:Scope)(f:AD)(cd:Value)(A:AH)(outer:List Env)(s:AE)(H:Hp)(E:XK):Cx where
 prog:=P
 w:=w
 K:=K
 mg:=mg
 base:=base
 A:=A.deeper (envOfC qual scope s.heap.objs.size f cd)
 N:=N
 s_0:=s
 H_0:=H
 env:=envOfC qual scope s.heap.objs.size f cd
 outer:=outer
 stack:=envOfC qual scope s.heap.objs.size f cd::outer
 ex:=[]
 calm:=true
 fn:=λ_=>true
 pn:=[]
 xe:=λe s'=>wpAny (model P w) (A.deeper (envOfC qual scope s.heap.objs.size f cd)) (leaving (envOfC qual scope s.heap.objs.size f cd) e) (λ_ s''=>CX outer H s E e s'') (λe' s''=>CX outer H s E e' s'') s'
def E5 {sc:Scope}{n:Nat}{x:Str}(h:sc.names.lookup x=some .cell):∃c,(cellsFrom n sc.names []).lookup x=some c:=by have q:=cellsFrom_some sc.names n [] (.inl h);exact B8.mp q
def Zkv {CX:tK}{P:AG}{w:AI}{K:Q4}{mg:AB}{base:Heap}{N ps:AJ}{qual:Str}{scope:Scope}{f:AD}{cd:Value}{A:AH}{outer:List Env}{s s1:AE}{H:Hp}{E:XK}{us:AC}{vs:JR}
  (S:fU N ps scope) (hd:A.handled=none) (e0:jk P w K mg base A outer s H) (hl:vs.length=ps.length) (r:fV vs us)
  (x:InCallC s s.heap.objs.size (bindL (envOfC qual scope s.heap.objs.size f cd).kindOf (ps.zip us) λ_=>none) (cellsFrom (s.heap.objs.size+1) scope.names []) (bindC (envOfC qual scope s.heap.objs.size f cd).kindOf (ps.zip us) λ_=>none) s1):
  mP (ir CX P w K mg base N qual scope f cd A outer s H E) [] (start N vs) H s1:=by
 have hpl:ps.length<=N.length:=by have:=JN List.length S.pre;rw[ou]at this;lia
 obtain⟨h1,tk,rfl,hk⟩:=x.done;have noA:∀b:AD,b∉(ir CX P w K mg base N qual scope f cd A outer s H E).ex:=λb z=>JO (show b∈([]:List AD) from z) {};refine⟨⟨e0.mod,S.kind,rfl,rfl,nD _,λy z c h1 h2=>?_,λy hy=>?_,λy c _ h=>?_,λ_=>hd,Around.frames_deeper e0.frames,.inr ⟨rfl,rfl⟩,λb z=>JO z (noA b),e0.bs,e0.bsz,λb _ _=>noA b,λb z=>JO z (noA b),e0.funs,e0.frf⟩,
  rfl,e0.bare,Un.kept hk,⟨_,x.toInCall.ns,λi y v h1 h2 h3=>?_⟩,λy c h=>⟨_,x.cell y c h⟩,e0.hok.fresh (nD _),λy c h=>?_,λp hp=>JO (show p∈([]:AA) from hp) {},e0.hok.kept hk,?_⟩
 .exact name_of_addr x.apart (ww h1) (ww h2)
 .have hy:scope.names.lookup y=some .cell\/scope.names.lookup y=some .free:=hy;rcases hy with hy | hy
  .exact E5 hy
  .exact JO rfl (S.nofree _ (ww hy))
 .exact Nat.le_of_lt (x.above y c (ww h))
 .have hi:i<vs.length:=by
   unfold start at h2;by_cases hi:i<vs.length
   .exact hi
   .rw[sd (~~~hi)]at h2;rw[List.getElem?_replicate]at h2;split at h2<;>cases h2
  have ha:vs[i]?=some v:=by
   unfold start at h2;rw[qT (~~~hi),pA]at h2;cases e:vs[i]? with
   | none=>rw[e]at h2;cases h2
   | some a=>rw[e]at h2;cases h2;rfl
  obtain⟨u,hu,rv⟩:=r.get ha;have hp:ps[i]?=some y:=by rw[<-S.pre,A5 ∅];exact h1
  have ndP:ps.Nodup:=by rw[<-S.pre];exact S.nd.sublist (yh _ _)
  refine⟨u,rv,?_⟩;rcases S.par y (qA hp) with k | k
  .exact .inl ⟨k,Gh ndP hp hu k⟩
  .obtain⟨c,e⟩:=E5 (n:=s.heap.objs.size+1) k;refine .inr ⟨.inl k,c,e,?_⟩;have q:=x.cell y c e;rw[Fs ndP hp hu (by show scope.names.lookup y≠_;rw[k];decide)]at q;exact q
 .exact e0.hok.fresh (Nat.le_of_lt (x.above y c (ww h)))
 .unfold start;show _=N.length;rw[nN,m6,List.length_replicate]
  lia
def CO {CX:tK}{P:AG}{w:AI}{K:Q4}{mg:AB}{base:Heap}{k:Nat}{f:AD}{name qual:Str}{params:Arguments}{body:List Stmt}{scope:Scope}{dV kV doc pm Ar ct oc:Value}{an od:Option AD}
  {osl:Array (Option Value)} {N ps:AJ} {sp:Sp} (lk:K.lookup f=some ⟨oc,od,.func (fnOf name qual params body scope dV kV doc pm an Ar ct),osl⟩) (hcd:codeIn K Ar qual=true) (S:fU N ps scope)
  (len:∀vs H Q E,sp vs H Q E->vs.length=ps.length)
  (hbody:∀(A:AH) (outer:List Env) (s:AE) (H:Hp) (vs:JR) (Q:VK) (E:XK),gz k (A.deeper (envOfC qual scope s.heap.objs.size f Ar))->sp vs H Q E ->
   ∃t,rn (ir CX P w K mg base N qual scope f Ar A outer s H E) body t/\t { nx:=λ_ H'=>Q .non H',rt:=Q } (start N vs) H):
  f7 P w K mg base CX (k+1) f (fnOf name qual params body scope dV kV doc pm an Ar ct) ps sp:=by
 refine⟨len,λA outer s H args us vs Q E hr e0 hb r hsp=>?_⟩;have hl:=len _ _ _ _ hsp;have KX:K.In s.heap:=e0.mod.kin.keeps λb o e=>(e0.bs b o e).1;have lim:s.heap.NoLimit:=e0.mod.nolimit.keeps λb o e=>(e0.bs b o e).1;have hkind:∀y∈ps.zip us,scope.names.lookup y.1=some .local\/(scope.names.lookup y.1=some .cell/\((cellsFrom (s.heap.objs.size+1) scope.names []).lookup y.1).isSome=true):=λ⟨n,v⟩ hy=>by
  rcases S.par n (List.of_mem_zip hy).1 with q | q
  .exact .inl q
  .exact .inr ⟨q,cellsFrom_some _ _ _ (.inl q)⟩
 refine codeAny_call_function hr.depth (KX _ _ lk) rfl S.co S.gen rfl (PySem.W.codeRec_of KX hcd) (hb _ _ _ _ ?_);refine wpAny_newFunctionEnv_cells S.kind hkind λenv he s1 x=>?_;subst he;refine⟨lim.keeps x.toInCall.keep,codeAny_func ?_⟩;obtain⟨t,ht,hq⟩:=hbody A outer s H vs Q E (hr.deeper _) hsp;have I:mP (ir CX P w K mg base N qual scope f Ar A outer s H E) [] (start N vs) H s1:=Zkv S hr.hd e0 hl r x;refine qF (ht [] s1 (start N vs) H _ I hq) (λfl s' hs=>?_) λe s' hs=>hs;have fin:∀ {U':St} {H':Hp} {v:V} {u:Value},mP (ir CX P w K mg base N qual scope f Ar A outer s H E) [] U' H' s'->fZ v u->Q v H'->CE outer P w H s Q u s':=
  λ{U' H' v u} J rv q=>⟨v,H',J.os,J.bare,J.base,J.hok,rv,q⟩
 cases fl with
 | ret u=>
  obtain⟨v,U',H',J,rv,q⟩:=hs;exact fin J rv q
 | next=>
  obtain⟨U',H',J,q⟩:=hs;exact fin (v:=V.non) (u:=Value.none) J rfl q
 | brk=>
  obtain⟨_,_,_,q⟩:=hs;exact False.elim q
 | cont=>
  obtain⟨_,_,_,q⟩:=hs;exact False.elim q
section
variable {X:Cx}{x:Str}{p pos:Pos}{e:Expr}{es:List Expr}{t:TA}{id T:String}{r:JR->Hp->VK->Prop}
def Ce (r:JR->Hp->VK->Prop)(t:TA):TE:=λU H Q=>t U H λvs H1=>r vs H1 Q
def nE (hc:rq X (.builtin id) r) (hg:Gl X x) (hm:X.mg x=none) (hv:bootBuiltins x=some (.builtin id)) (ha:PA X (e::es) t) (hn:x≠"__name__":=by decide) (hdb:(x == ("__debug__":Str))=false:=by decide)
  (he:starEach (e::es) X.env=(false,eval e X.env)::starEach es X.env:=by rfl) (hpl:(backTo pos (starEach es X.env)).any (·.1)=false:=by rfl):PE X (.Call (.Name x p) (e::es) [] pos) (Ce r t):=by
 intro Aq s U H Q I h;refine uz (uQ I hg hm hv ?_ hn hdb);exact BQ (m8 (ha pos Aq s U H _ I h) λus s1 ⟨vs,H1,I1,r1,q1⟩=>hc Aq s1 U H1 vs us Q I1 r1 q1) he hpl
def uV (hc:rq X (.type T) r) (hg:Gl X x) (hm:X.mg x=none) (hv:bootBuiltins x=some (.type T)) (ha:PA X (e::es) t) (hn:x≠"__name__":=by decide) (hdb:(x == ("__debug__":Str))=false:=by decide)
  (he:starEach (e::es) X.env=(false,eval e X.env)::starEach es X.env:=by rfl) (hpl:(backTo pos (starEach es X.env)).any (·.1)=false:=by rfl):PE X (.Call (.Name x p) (e::es) [] pos) (Ce r t):=by
 intro Aq s U H Q I h;refine uz (uQ I hg hm hv ?_ hn hdb);exact BL (m8 (ha pos Aq s U H _ I h) λus s1 ⟨vs,H1,I1,r1,q1⟩=>hc Aq s1 U H1 vs us Q I1 r1 q1) he hpl
end
end L2
namespace HT
open PySem PyProof.Rows
section
open PySem.SeqAt
open PySem.AutoSeq1 (wpAny_loadPart')
open PySem.MeetsSeq PySem.MeetsSeq2 PySem.MeetsSeq3
end
section
noncomputable def sIx (n d:Nat):Option Int->Nat
 | none=>d
 | some v=>if v<0 then (v+(n:Int)).toNat else min v.toNat n
def sIx_none (n d:Nat):sIx n d none=d:=rfl
def sIx_nat (n d k:Nat):sIx n d (some (k:Int))=min k n:=by show (if (k:Int)<0 then ((k:Int)+(n:Int)).toNat else min (k:Int).toNat n)=min k n;rw[mR ∅,rh]
def sIx_le (n d:Nat)(hd:d<=n)(o:Option Int):sIx n d o<=n:=by
 cases o with
 | none=>exact hd
 | some v=>
  show (if v<0 then (v+(n:Int)).toNat else min v.toNat n)<=n;by_cases hv:v<0
  .rw[mS hv];lia
  .rw[mR hv];exact Nat.min_le_right _ _
def clip_eq (v:Int)(n d:Nat):(if v<0 then max (v+(n:Int)) 0 else min v (n:Int))=((sIx n d (some v):Nat):Int):=by
 show (if v<0 then max (v+(n:Int)) 0 else min v (n:Int))=(((if v<0 then (v+(n:Int)).toNat else min v.toNat n):Nat):Int);by_cases hv:v<0
 .simp only[mS hv];lia
 .simp only[mR hv];lia
end
end HT
namespace L2
open PySem PySem.Spec PyProof.Rows
abbrev TO:=St->Hp->(Option Int->Hp->Prop)->Prop
def PO (X:Cx)(e:Option Expr)(t:TO):Prop:=
 ∀(Aq:AA) (s:AE) (U:St) (H:Hp) (Q:Option Int->Hp->Prop),mP X Aq U H s->t U H Q ->
  wpAny (model X.prog X.w) X.A (evalPart e X.env) (λu s'=>∃o H',mP X Aq U H' s'/\IsPart u o/\Q o H') X.xe s
def jt:TO:=λ_ H Q=>Q none H
def Ho (t:TE):TO:=λU H Q=>t U H λx H1=>∃i,x=.int i/\Q (some i) H1
section
variable {X:Cx}{e:Expr}{te:TE}{lo hi:Option Expr}{tl th:TO}{pos p2:Pos}
def qL:PO X none jt:=by intro Aq s U H Q I h;rw[evalPart_none];exact mW ⟨none,H,I,.none,h⟩
def oY (h:PE X e te):PO X (some e) (Ho te):=by intro Aq s U H Q I hw;rw[evalPart_some];refine m8 (h Aq s U H _ I hw) λu s1 zz=>?_;obtain⟨x,H1,I1,r1,q1⟩:=zz;obtain⟨i,rfl,q⟩:=q1;obtain⟨t,rfl⟩:=r1;exact⟨some i,H1,I1,.int i t,q⟩
def BG (X:Cx)(r:V->Option Int->Option Int->Hp->VK->Prop):Prop:=
 ∀(Aq:AA) (s:AE) (U:St) (H:Hp) (x:V) (v vl vu:Value) (lo hi:Option Int) (sl:AD) (Q:VK),mP X Aq U H s->fZ x v->s.heap.IsSliceOf sl vl vu .none->IsPart vl lo->IsPart vu hi->r x lo hi H Q ->
  ∃T id,typeLookup (.type T) "__getitem__"=pure (some (.builtin id))/\s.TypeIs v T/\wpAny (model X.prog X.w) X.A (getItem v (.ref sl)) (EP X Aq U Q) X.xe s
def Jo (r:V->Option Int->Option Int->Hp->VK->Prop)(te:TE)(tl th:TO):TE:=λU H Q=>te U H λx H1=>tl U H1 λl H2=>th U H2 λu H3=>r x l u H3 Q
def pL (hr:BG X r)(he:PE X e te)(hl:PO X lo tl)(hu:PO X hi th):PE X (.Subscript e (.Slice lo hi none p2) pos) (Jo r te tl th):=by intro Aq s U H Q I h;refine Subscript_ (m8 (he Aq s U H _ I h) λv s1 zz=>?_);obtain⟨x,H1,I1,r1,q1⟩:=zz;refine wpAny_Slice (m8 (hl Aq s1 U H1 _ I1 q1) λvl s2 ⟨l,H2,I2,pl,q2⟩=>m8 (hu Aq s2 U H2 _ I2 q2) λvu s3 zz=>?_);obtain⟨u,H3,I3,pu,q3⟩:=zz;rw[evalPart_none];refine mW ?_;have I4:mP X Aq U H3 { s3 with heap:=s3.heap.push { cls:=.type "slice",data:=.fields #[vl,vu,.none] } }:=I3.kept (t':=s3.toks) λb ob q=>nG _ q;obtain⟨T,id,hT,ht,hg⟩:=hr Aq { s3 with heap:=s3.heap.push { cls:=.type "slice",data:=.fields #[vl,vu,.none] } } U H3 x v vl vu l u s3.heap.objs.size Q I4 r1 (Heap.IsSliceOf.new ..) pl pu q3;show wpAny (model X.prog X.w) X.A (subscriptTail e (.Slice lo hi none p2) v (.ref s3.heap.objs.size)) (EP X Aq U Q) X.xe { s3 with heap:=s3.heap.push { cls:=.type "slice",data:=.fields #[vl,vu,.none] } };exact tail_any (ops:=[.ref s3.heap.objs.size,v]) ht hT hg (by with_unfolding_all rfl)
def jf (xs:JR)(lo hi:Option Int):JR:=(xs.drop (HT.sIx xs.length 0 lo)).take (HT.sIx xs.length xs.length hi-HT.sIx xs.length 0 lo)
def ZhK (xs:JR)(lo hi:Option Int):(jf xs lo hi).length<=xs.length:=by
 unfold jf;rw[ou,pO]
 lia
end
end L2
namespace L2
open PySem PySem.Spec PyProof.Rows
noncomputable def sg (n:Nat)(i:Int):Option Nat:=if 0<=i then (if i<n then some i.toNat else none) else if -(n:Int)<=i then some (i+n).toNat else none
def qh {α:Type}(xs:List α)(i:Int):Option α:=(sg xs.length i).bind λj=>xs[j]?
def Zn6 (h:sg n i=some j):seqIndex? i n=some j/\j<n/\-(n:Int)<=i/\i<n:=by
 unfold sg at h;by_cases h0:0<=i
 .rw[mS h0]at h;by_cases h1:i<n
  .rw[mS h1]at h;have e:i.toNat=j:=Option.some.inj h;exact⟨by rw[seqIndex_of h0 h1,e],∅,∅,h1⟩
  .rw[mR h1]at h;cases h
 .rw[mR h0]at h;by_cases h1:-(n:Int)<=i
  .rw[mS h1]at h;have e:(i+n).toNat=j:=Option.some.inj h;exact⟨by rw[seqIndex_neg ∅ h1,e],∅,h1,∅⟩
  .rw[mR h1]at h;cases h
def Df (h:qh xs i=some v):∃j,seqIndex? i xs.length=some j/\xs[j]?=some v/\j<xs.length/\-(xs.length:Int)<=i/\i<xs.length:=by
 unfold qh at h;cases e:sg xs.length i with
 | none=>rw[e]at h;cases h
 | some j=>
  rw[e]at h;obtain⟨h1,h2,h3,h4⟩:=Zn6 e;exact⟨j,h1,h,h2,h3,h4⟩
def Zow {α:Type}{xs:List α}{j:Nat}{v:α}(h:xs[j]?=some v):qh xs (j:Int)=some v:=by
 have hj:j<xs.length:=(oM.mp h).1;have e:sg xs.length (j:Int)=some j:=by unfold sg;rw[mS ∅,mS ∅];simp
 unfold qh;rw[e];exact h
def Zmr (xs:List α)(v:α):qh (xs++[v]) (-1)=some v:=by
 have hl:(xs++[v]).length=xs.length+1:=by simp
 have e:sg (xs++[v]).length (-1)=some xs.length:=by
  unfold sg;rw[hl,mR ⋯,mS ∅];congr 1
  lia
 unfold qh;rw[e];show (xs++[v])[xs.length]?=some v;simp
def ZoA (b:Expr):Prop:=∀o i,subscripted b false o i=operate [o,i] (getItem o i)
def wY (X:Cx)(r:R2):Prop:=
 ∀(value slice:Expr) (Aq:AA) (s:AE) (U:St) (H:Hp) (x y:V) (v u:Value) (Q:VK),mP X Aq U H s->fZ x v->fZ y u->r x y H Q ->
  subscripted slice false v u=operate [v,u] (getItem v u)->wpAny (model X.prog X.w) X.A (subscriptTail value slice v u) (EP X Aq U Q) X.xe s
def CP (X:Cx)(id:String)(r:V->JR->Hp->VK->Prop):Prop:=
 ∀(Aq:AA) (s:AE) (U:St) (H:Hp) (x:V) (xs:JR) (v:Value) (us:AC) (Q:VK),mP X Aq U H s->fZ x v->fV xs us->r x xs H Q ->
  wpAny (model X.prog X.w) X.A (call (.builtin id) (v::us)) (EP X Aq U Q) X.xe s
section
variable {X:Cx}{a b:Expr}{ta tb:TE}{pos:Pos}
def pJ (hr:wY X r)(ha:PE X a ta)(hb:PE X b tb)(hs:ZoA b):PE X (.Subscript a b pos) (zi r ta tb):=by intro Aq s U H Q I h;exact Subscript_ (lH ha hb I h λv u s2 x y H2 I2 rx ry q=>hr a b Aq s2 U H2 x y v u Q I2 rx ry q (hs _ _))
def lz (K:Q4):R2:=λx y H Q=>∃p xs i v,x=.ref p/\y=.int i/\oj K H p xs/\qh xs i=some v/\Q v H
def rIxT (K:Q4):R2:=λx y H Q=>∃p xs i v,x=.ref p/\y=.int i/\oW K H p xs/\qh xs i=some v/\Q v H
def rIxS:R2:=λx y H Q=>∃z i c,x=.str z/\y=.int i/\z.length<=sizeLine/\qh z.cps.toList i=some c/\Q (.str ⟨#[c]⟩) H
def Zn5:wY X (lz X.K):=by
 intro value slice Aq s U H x y v u Q I rx ry h hs;obtain⟨p,xs,i,z,rfl,rfl,hq,he,q⟩:=h;cases rx;obtain⟨t,rfl⟩:=ry;obtain⟨its,r,pl,hz⟩:=I.list hq;obtain⟨j,h1,h2,h3,h4,h5⟩:=Df he;obtain⟨w,ew,rw'⟩:=r.get h2;have hl:=r.length;have hn:=zG;have fin:EP X Aq U Q w s:=⟨z,H,I,rw',q⟩;by_cases h0:0<=i
 .have hj:i.toNat=j:=by rw[seqIndex_of h0 h5]at h1;exact Option.some.inj h1
  exact item_listR pl.isList h0 ∅ (by rw[hj];simpa using ew) fin hs
 .have hj:(i+(its.toArray.size:Int)).toNat=j:=by rw[seqIndex_neg ∅ h4]at h1;rw[oH,<-hl];exact Option.some.inj h1
  exact subscriptTail_builtinR (x:=w) pl.isList.typeIs slot_list_getitem.lookup
   (wpAny_getItem_list_neg (Q:=λr s'=>r=w/\EP X Aq U Q r s') pl.isList ∅ (by rw[oH]<;>lia) ∅ (by rw[hj];simpa using ew) ⟨rfl,fin⟩) hs
def ZpX:wY X (rIxT X.K):=by
 intro value slice Aq s U H x y v u Q I rx ry h hs;obtain⟨p,xs,i,z,rfl,rfl,hq,he,q⟩:=h;cases rx;obtain⟨t,rfl⟩:=ry;obtain⟨its,r,pl,hz⟩:=I.tuple hq;obtain⟨j,h1,h2,h3,h4,h5⟩:=Df he;obtain⟨w,ew,rw'⟩:=r.get h2;have hl:=r.length;have hn:=zG;have fin:EP X Aq U Q w s:=⟨z,H,I,rw',q⟩;exact subscriptTail_builtinR (x:=w) pl.typeIs slot_tuple_getitem.lookup
  (getItem_tuple (j:=j) (Q:=λr s'=>r=w/\EP X Aq U Q r s') pl ∅ ∅ (by rw[oH,<-hl];exact h1) (~~~ew) ⟨rfl,fin⟩) hs
def ZpY:wY X rIxS:=by
 intro value slice Aq s U H x y v u Q I rx ry h hs;obtain⟨z,i,c,rfl,rfl,hz,he,q⟩:=h;obtain⟨t,rfl⟩:=rx;obtain⟨t',rfl⟩:=ry;obtain⟨j,h1,h2,h3,h4,h5⟩:=Df he;have hl:z.cps.toList.length=z.length:=by simp[Str.length]
 rw[hl]at h1 h4 h5;have hn:=zG;exact tail_any (typeIs_str s z t) slot_str_getitem.lookup (getItem_str (c:=c) (by have e1:decide (i < -(2 ^ 63:Int))=false:=JJ ∅;have e2:decide (i>=2 ^ 63)=false:=JJ ∅;rw[e1,e2,Bool.or_false]) (by rw[h1];simpa using h2) ⟨.str ⟨#[c]⟩,H,I.tok _,⟨_,rfl⟩,q⟩) hs
def Zf6 (lo hi:Option Int)(n:Nat):(sliceBounds lo hi none n).1=((HT.sIx n 0 lo:Nat):Int)/\(sliceBounds lo hi none n).2.1=((HT.sIx n n hi:Nat):Int)/\(sliceBounds lo hi none n).2.2=1:=by
 refine⟨?_,?_,rfl⟩
 .cases lo with
  | none=>simp[sliceBounds,HT.sIx]
  | some i=>
   simp only[sliceBounds,HT.sIx,Option.getD_none,show (1:Int)>0 by decide,if_true];by_cases h:i<0
   .simp only[h,if_true]<;>lia
   .simp only[h,if_false]<;>lia
 .cases hi with
  | none=>simp[sliceBounds,HT.sIx]
  | some i=>
   simp only[sliceBounds,HT.sIx,Option.getD_none,show (1:Int)>0 by decide,if_true];by_cases h:i<0
   .simp only[h,if_true]<;>lia
   .simp only[h,if_false]<;>lia
def Zfi (its:AC)(lo hi:Option Int):slicePick its.toArray lo hi none=((its.drop (HT.sIx its.length 0 lo)).take (HT.sIx its.length its.length hi-HT.sIx its.length 0 lo)).toArray:=by obtain⟨h1,h2,h3⟩:=Zf6 lo hi its.toArray.size;unfold slicePick;rw[h1,h2,h3];simp only[sliceRange_one,pick_run,oH]<;>rfl
def rSlL (K:Q4):V->Option Int->Option Int->Hp->VK->Prop:=λx lo hi H Q=>∃a xs,x=.ref a/\oj K H a xs/\∀p,H p=none->Q (.ref p) (upd H p (.lst (jf xs lo hi)))
def Znf:BG X (rSlL X.K):=by intro Aq s U H x v vl vu lo hi sl Q I rx hs pl pu h;obtain⟨a,xs,rfl,hx,q⟩:=h;cases rx;obtain⟨its,r,ht,hz⟩:=I.list hx;have As:=r.length;refine⟨"list",_,slot_list_getitem.lookup,ht.isList.typeIs,?_⟩;refine wpAny_getItem_list_slice ht.isList hs pl pu .none {} ?_ (by rw[oH]<;>lia);rw[Zfi,<-As];refine⟨.ref s.heap.objs.size,_,I.laid (t':=s.toks) (o:=.lst (jf xs lo hi)) (λb ob q=>nG _ q) (nD _) ?_,rfl,q _ (I.hok.fresh (nD _))⟩;exact⟨og (ZhK xs lo hi) hz,_,0,(r.drop (HT.sIx xs.length 0 lo)).take (HT.sIx xs.length xs.length hi-HT.sIx xs.length 0 lo),oP _ rfl⟩
noncomputable def pR:V->Bool
 | .non=>true
 | .bl _=>true
 | .int _=>true
 | .str _=>true
 | _=>false
noncomputable def t5:V->V->Bool
 | .non,.non=>true
 | .bl a,.bl b=>a == b
 | .bl a,.int b=>(if a then 1 else 0) == b
 | .int a,.bl b=>a == (if b then 1 else 0)
 | .int a,.int b=>a == b
 | .str a,.str b=>a == b
 | _,_=>false
def FY (ry:fZ y u)(rx:fZ x v)(fy:pR y=true)(fx:pR x=true):SeqAt.EqAt A s u v (t5 y x):=by
 cases y with
 | non=>
  cases ry;cases x with
  | non=>cases rx;exact SeqAt.EqAt.same _
  | bl b=>cases rx;exact SeqAt.EqAt.none_bool b
  | int b=>obtain⟨t,rfl⟩:=rx;exact SeqAt.EqAt.none_int b t
  | str b=>obtain⟨t,rfl⟩:=rx;exact SeqAt.EqAt.none_str b t
  | _=>exact JO (show false=true from fx) nU
 | bl a=>
  cases ry;cases x with
  | non=>cases rx;exact SeqAt.EqAt.bool_none a
  | bl b=>cases rx;exact SeqAt.EqAt.bool_bool a b
  | int b=>obtain⟨t,rfl⟩:=rx;exact SeqAt.EqAt.bool_int a b t
  | str b=>obtain⟨t,rfl⟩:=rx;exact SeqAt.EqAt.bool_str a b t
  | _=>exact JO (show false=true from fx) nU
 | int a=>
  obtain⟨t',rfl⟩:=ry;cases x with
  | non=>cases rx;exact SeqAt.EqAt.int_none a t'
  | bl b=>cases rx;exact SeqAt.EqAt.int_bool a t' b
  | int b=>obtain⟨t,rfl⟩:=rx;exact SeqAt.EqAt.int_int a t' b t
  | str b=>obtain⟨t,rfl⟩:=rx;exact SeqAt.EqAt.int_str a t' b t
  | _=>exact JO (show false=true from fx) nU
 | str a=>
  obtain⟨t',rfl⟩:=ry;cases x with
  | non=>cases rx;exact SeqAt.EqAt.str_none a t'
  | bl b=>cases rx;exact SeqAt.EqAt.str_bool a t' b
  | int b=>obtain⟨t,rfl⟩:=rx;exact SeqAt.EqAt.str_int a t' b t
  | str b=>obtain⟨t,rfl⟩:=rx;exact SeqAt.EqAt.str_str a t' b t
  | _=>exact JO (show false=true from fx) nU
 | _=>exact JO (show false=true from fy) nU
def rR (x:V)(u:Value):Bool:=match u with
 | .none=>t5 .non x
 | .bool b=>t5 (.bl b) x
 | .int i _=>t5 (.int i) x
 | .str z _=>t5 (.str z) x
 | _=>false
def FT (r:fZ y u)(f:pR y=true):rR x u=t5 y x:=by
 cases y with
 | non=>cases r;rfl
 | bl b=>cases r;rfl
 | int i=>obtain⟨t,rfl⟩:=r;rfl
 | str z=>obtain⟨t,rfl⟩:=r;rfl
 | _=>exact JO (show false=true from f) nU
theorem zR {x:V}:∀ {xs:JR} {us:AC},fV xs us->xs.all pR=true->us.any (rR x)=xs.any λy=>t5 y x
 | _,_,.nil,_=>rfl
 | y::xs,u::us,.cons r t,f=>by rw[List.all_cons,oJ]at f;rw[List.any_cons,List.any_cons,FT r f.1,zR t f.2]
theorem zI {A:AH}{s:AE}{x:V}{v:Value}(rx:fZ x v)(fx:pR x=true):∀ {xs:JR} {us:AC},fV xs us->xs.all pR=true->∀u∈us,SeqAt.EqAt A s u v (rR x u)
 | _,_,.nil,_=>λu hu=>by cases hu
 | y::xs,u::us,.cons r t,f=>λu' hu=>by
  rw[List.all_cons,oJ]at f;rcases ot.mp hu with rfl | hu
  .rw[FT r f.1];exact FY r rx f.1 fx
  .exact zI rx fx t f.2 u' hu
def BO (x:V)(xs:JR):Bool:=xs.any λy=>t5 y x
def Cn (K:Q4)(neg:Bool):R2:=λx y H Q=>∃p xs,y=.ref p/\(oj K H p xs\/oW K H p xs)/\pR x=true/\xs.all pR=true/\Q (.bl (if neg then !BO x xs else BO x xs)) H
def Zj6:oZ X (compareOp .In) (Cn X.K false):=by
 intro Aq s U H x y v u Q I rx ry h;obtain⟨p,xs,rfl,hq,fx,fs,q⟩:=h;cases ry;rcases hq with hq | hq
 .obtain⟨its,r,pl,hz⟩:=I.list hq;refine SeqAt.in_listAt (rR x) pl.isList (λw hw=>zI rx fx r fs w (~~~hw)) ⟨.bl _,H,I,rfl,?_⟩;rw[show its.toArray.any (rR x)=its.any (rR x) by simp,zR r fs];exact q
 .obtain⟨its,r,pl,hz⟩:=I.tuple hq;refine SeqAt.in_tupleAt (rR x) pl (λw hw=>zI rx fx r fs w (~~~hw)) ⟨.bl _,H,I,rfl,?_⟩;rw[show its.toArray.any (rR x)=its.any (rR x) by simp,zR r fs];exact q
def Zgi:oZ X (compareOp .NotIn) (Cn X.K true):=by
 intro Aq s U H x y v u Q I rx ry h;obtain⟨p,xs,rfl,hq,fx,fs,q⟩:=h;cases ry;rcases hq with hq | hq
 .obtain⟨its,r,pl,hz⟩:=I.list hq;refine SeqAt.notIn_listAt (rR x) pl.isList (λw hw=>zI rx fx r fs w (~~~hw)) ⟨.bl _,H,I,rfl,?_⟩;rw[show its.toArray.any (rR x)=its.any (rR x) by simp,zR r fs];exact q
 .obtain⟨its,r,pl,hz⟩:=I.tuple hq;refine SeqAt.notIn_tupleAt (rR x) pl (λw hw=>zI rx fx r fs w (~~~hw)) ⟨.bl _,H,I,rfl,?_⟩;rw[show its.toArray.any (rR x)=its.any (rR x) by simp,zR r fs];exact q
def ZgV:rq X (.type "list") (λxs H Q=>∃p ys,xs=[.ref p]/\(oj X.K H p ys\/oW X.K H p ys)/\∀l,H l=none->Q (.ref l) (upd H l (.lst ys))):=by
 intro Aq s U H xs us Q I r h;obtain⟨p,ys,rfl,hq,q⟩:=h;obtain⟨u,rfl,rx⟩:=ju r;cases rx;have fin:∀(its:AC),fV ys its->ys.length<=sizeLine->∀(h':Heap) (c':Nat),(∀b o',s.heap.get? b=some o'->h'.get? b=some o') ->
   h'.get? s.heap.objs.size=some { cls:=.type "list",dict:=none,data:=.seq its.toArray c',slots:=#[] }->EP X Aq U Q (.ref s.heap.objs.size) { s with heap:=h' }:=λits r' hz h' c' kp e=>
  ⟨.ref s.heap.objs.size,_,I.laid (t':=s.toks) kp (nD _) (show gg X.prog X.w _ h' _ (.lst ys) from⟨hz,its,c',r',e⟩),rfl,q _ (I.hok.fresh (nD _))⟩
 rcases hq with hq | hq
 .obtain⟨its,r',pl,hz⟩:=I.list hq;have As:=r'.length;obtain⟨o,ho,hc,n,hd⟩:=pl.isList;exact call_list_seq p (.inl rfl) ho hc hd (λh' c' kp e=>fin its r' hz h' c' kp e) (by simp only[oH]<;>lia)
 .obtain⟨its,r',pl,hz⟩:=I.tuple hq;have As:=r'.length;obtain⟨o,ho,hc,n,hd⟩:=pl;exact call_list_seq p (.inr rfl) ho hc hd (λh' c' kp e=>fin its r' hz h' c' kp e) (by simp only[oH]<;>lia)
def ZfS:rq X (.type "tuple") (λxs H Q=>∃p ys,xs=[.ref p]/\((oj X.K H p ys/\∀l,H l=none->Q (.ref l) (upd H l (.tup ys)))\/(oW X.K H p ys/\Q (.ref p) H))):=by
 intro Aq s U H xs us Q I r h;obtain⟨p,ys,rfl,h⟩:=h;obtain⟨u,rfl,rx⟩:=ju r;cases rx;rcases h with⟨hq,q⟩|⟨hq,q⟩
 .obtain⟨its,r',pl,hz⟩:=I.list hq;have As:=r'.length;refine call_tuple_list pl.isList (λh' kp=>?_) (by simp only[oH]<;>lia);have I1:mP X Aq U H { s with heap:=h' }:=I.kept (t':=s.toks) kp;have I2:mP X Aq U (upd H h'.objs.size (.tup ys)) { s with heap:=h'.push { cls:=.type "tuple",data:=.seq its.toArray } }:=
   I1.laid (t':=s.toks) (λb o e=>nG _ e) (nD _) (show gg X.prog X.w _ _ _ (.tup ys) from⟨hz,its,r',IsTup.new _ _⟩)
  exact⟨.ref h'.objs.size,_,I2,rfl,q _ (I1.hok.fresh (nD _))⟩
 .obtain⟨its,r',pl,hz⟩:=I.tuple hq;exact call_tuple_same pl ⟨.ref p,H,I,rfl,q⟩
def De (K:Q4)(T:String)(x:V)(H:Hp):Prop:=match x with
 | .str _=>T="str"
 | .int _=>T="int"
 | .ref p=>(T="list"/\∃xs,oj K H p xs)\/(T="tuple"/\∃o,K.lookup p=some o/\o.cls=.type "tuple"/\o.dict=none) \/
   (T="dict"/\((∃kvs,H p=some (.dK kvs))\/∃kvs,H p=some (.dT kvs)))\/(T="set"/\∃S n,H p=some (.set S n))
 | _=>False
def Iq (I:mP X Aq U H s)(r:fZ x v)(ty:De X.K T x H):
  s.TypeIs v T/\∀a,v=.ref a->∃ob,s.heap.get? a=some ob/\ob.dict=none:=by
 cases x with
 | str z=>
  obtain⟨t,rfl⟩:=r;cases (show T="str" from ty);exact⟨typeIs_str s z t,λ_ e=>nomatch e⟩
 | int i=>
  obtain⟨t,rfl⟩:=r;cases (show T="int" from ty);exact⟨typeIs_int s i t,λ_ e=>nomatch e⟩
 | ref p=>
  cases r;rcases ty with⟨rfl,xs,hq⟩|⟨rfl,o,hk,hc,hd⟩|⟨rfl,hk⟩|⟨rfl,S,n,hk⟩
  .obtain⟨its,_,pl,_⟩:=I.list hq;refine⟨pl.isList.typeIs,λa e=>?_⟩;cases e;obtain⟨o,n,e,c,hd,_⟩:=pl;exact⟨o,e,hd⟩
  .refine⟨⟨o,I.kIn p o hk,hc⟩,λa e=>?_⟩;cases e;exact⟨o,I.kIn _ o hk,hd⟩
  .have z:∃o,s.heap.get? p=some o/\o.ExactDict:=by
    rcases hk with⟨kvs,hk⟩|⟨kvs,hk⟩
    .obtain⟨_,_,_,_,o,_,_,e,ex,_⟩:=I.hok p _ hk;exact⟨o,e,ex⟩
    .obtain⟨_,_,_,_,o,_,_,e,ex,_⟩:=I.hok p _ hk;exact⟨o,e,ex⟩
   obtain⟨o,e,ex⟩:=z;refine⟨⟨o,e,ex.1⟩,λa e2=>?_⟩;cases e2;exact⟨o,e,ex.2.1⟩
  .obtain⟨o,_,_,_,e,ex,_⟩:=I.hok p _ hk;refine⟨⟨o,e,ex.1⟩,λa e2=>?_⟩;cases e2;exact⟨o,e,ex.2.1⟩
 | _=>exact False.elim ty
def tBM0 (K:Q4)(T:String)(r:V->JR->Hp->VK->Prop)(to:TE):TE:=λU H Q=>to U H λx H1=>De K T x H1/\r x [] H1 Q
def Du (K:Q4)(T:String)(r:V->JR->Hp->VK->Prop)(to:TE)(t:TA):TE:=λU H Q=>to U H λx H1=>De K T x H1/\t U H1 λxs H2=>r x xs H2 Q
variable {o e:Expr}{es:List Expr}{to:TE}{t:TA}{name:Str}{Aw Ax:Pos}{T id:String}{r:V->JR->Hp->VK->Prop}
def Zpi (pa:PlainAttrs T) (slot:Slot T name id) (hty:typeOf (.builtin id)=pure (.type "method_descriptor")) (hm:CP X id r) (ho:PE X o to)
  (hbase:attributeBase o name X.env (eval o X.env)=eval o X.env:=by rfl) (hline:(Aw.endLine == Ax.line)=true:=by rfl):PE X (.Call (.Attribute o name Aw) [] [] Ax) (tBM0 X.K T r to):=by
 intro Aq s U H Q I h;refine wpAny_Call_method0_late hbase hline (m8 (ho Aq s U H _ I h) λv s1 zz=>?_);obtain⟨x,H1,I1,r1,ty,q1⟩:=zz;obtain⟨h1,h2⟩:=Iq I1 r1 ty;exact⟨T,id,pa,slot,hty,h1,h2,Cw rfl (PySem.evalArgs_none (hm Aq s1 U H1 x [] v [] Q I1 r1 .nil q1))⟩
def sV (pa:PlainAttrs T) (slot:Slot T name id) (hty:typeOf (.builtin id)=pure (.type "method_descriptor")) (hm:CP X id r) (ho:PE X o to) (ha:PA X (e::es) t)
  (hbase:attributeBase o name X.env (eval o X.env)=eval o X.env:=by rfl)
  (hfew:((backTo Ax (starEach (e::es) X.env)).all (λx=>!x.1)&&(backToKw Ax (keywordEach [] X.env)).all (λx=>x.1.isSome)
   && decide ((e::es).length+([]:List Keyword).length+(if ([]:List Keyword).isEmpty then 0 else 1)<30))=true:=by rfl)
  (hline:(Aw.endLine == Ax.line)=true:=by rfl) (hs:starEach (e::es) X.env=(false,eval e X.env)::starEach es X.env:=by rfl) (hplain:(backTo Ax (starEach es X.env)).any (·.1)=false:=by rfl):
  PE X (.Call (.Attribute o name Aw) (e::es) [] Ax) (Du X.K T r to t):=by
 intro Aq s U H Q I h;refine wpAny_Call_method_late hbase hfew hline rfl (m8 (ho Aq s U H _ I h) λv s1 zz=>?_);obtain⟨x,H1,I1,r1,ty,q1⟩:=zz;obtain⟨h1,h2⟩:=Iq I1 r1 ty;refine⟨T,id,pa,slot,hty,h1,h2,?_⟩;have hA:=ha Ax Aq s1 U H1 _ I1 q1;rw[hs]at hA ⊢;refine Cw (by show (false || (backTo Ax (starEach es X.env)).any (·.1))=false;rw[hplain]<;>rfl) (Calls.evalArgs_plain ?_);exact m8 hA λus s2 ⟨vs,H2,I2,r2,q2⟩=>hm Aq s2 U H2 x vs v us Q I2 r1 r2 q2
end
def wC (X:Cx)(id:String)(r:V->JR->Hp->VK->Prop):Prop:=
 ∀(Aq:AA) (s:AE) (U:St) (H:Hp) (x:V) (xs:JR) (v:Value) (us:AC) (Q:VK),mP X Aq U H s->fZ x v->fV xs us->r x xs H Q ->
  wpAny (model X.prog X.w) X.A (call (.builtin id) (v::us)) (EP X Aq U Q) X.xe s
def fV.one (h:fV [x] us):∃u,us=[u]/\fZ x u:=by
 cases h with
 | cons r n=>cases n;exact⟨_,rfl,r⟩
def fV.two (h:fV [x,y] us):∃u v,us=[u,v]/\fZ x u/\fZ y v:=by
 cases h with
 | cons r t=>
  cases t with
  | cons q n=>cases n;exact⟨_,_,rfl,r,q⟩
theorem fV.eraseIdx:∀ {xs:JR} {us:AC} (i:Nat),fV xs us->fV (xs.eraseIdx i) (us.eraseIdx i)
 | _,_,_,.nil=>.nil
 | _,_,0,.cons _ t=>t
 | _,_,i+1,.cons r t=>.cons r (fV.eraseIdx i t)
theorem GR {α:Type}:∀(l:List α) (i:Nat),(l.eraseIdx i).length<=l.length
 | [],_=>nD _
 | _::_,0=>uk _
 | _::r,i+1=>Nat.succ_le_succ (GR r i)
section
def mP.lset {its its':AC}{n:Nat}{f:Array Value->Array Value}{t':Nat}(I:mP X Aq U H s)(hH:H l=some (.lst xs))
  (e:s.heap.get? l=some { cls:=.type "list",data:=.seq its.toArray n }) (hf:f its.toArray=its'.toArray) (hv:fV ys its') (hz:ys.length<=sizeLine):
  mP X Aq U (upd H l (.lst ys)) { s with heap:=s.heap.update l (Obj.mapSeq f),toks:=t' }:=by
 have q:=PySem.IsL.update e f;rw[hf]at q;refine I.write (x:=l) (e:=l) (by rw[hH];exact trivial) (.inl rfl) (λb' u hb hu=>(uT s.heap (Obj.mapSeq f) (nX hb)).trans hu) ⟨_,q⟩ ?_;exact⟨hz,its',_,hv,q⟩
def mP.lnew (I:mP X Aq U H s)(hv:fV ys its)(hz:ys.length<=sizeLine):
  mP X Aq U (upd H s.heap.objs.size (.lst ys)) { s with heap:=s.heap.push { cls:=.type "list",data:=.seq its.toArray },toks:=t' }:=
 I.laid (λ_ _ q=>nG _ q) (nD _) ⟨hz,its,0,hv,oP _ rfl⟩
def mP.fresh (I:mP X Aq U H s):H s.heap.objs.size=none:=I.hok.fresh (nD _)
def mP.lstM (I:mP X Aq U H s)(hH:H l=some (.lst xs)):xs.length<=sizeLine/\∃(its:AC) (n:Nat),fV xs its/\xs.length=its.length/\s.heap.get? l=some { cls:=.type "list",data:=.seq its.toArray n }:=by obtain⟨z,its,n,r,e⟩:=I.hok l _ hH;exact⟨z,its,n,r,r.length,e⟩
def ZlN (h:n<=sizeLine):Builtin.List.listTooLong n=false:=by unfold Builtin.List.listTooLong;exact JJ ∅
end
section
def jK:V->JR->Hp->VK->Prop:=λx vs H Q=>∃l xs y,x=.ref l/\vs=[y]/\H l=some (.lst xs)/\xs.length<sizeLine/\Q .non (upd H l (.lst (xs++[y])))
def uC:wC X "list.append" jK:=by
 intro Aq s U H x vs v us Q I rx rv h;obtain⟨l,xs,y,rfl,rfl,hH,hz,q⟩:=h;cases rx;obtain⟨u,rfl,ru⟩:=rv.one;obtain⟨z,its,n,r,hl,e⟩:=I.lstM hH;refine call_meets F.slot_list_append ⟨_,e,rfl⟩ F.entry_list_append (F.args_list_append_2 _ _) (PySem.list_append l its.toArray n u (by rw[oH];lia)) ⟨e,?_⟩;refine⟨.non,_,I.lset (its':=its++[u]) hH e {} (r.append (.cons ru .nil)) ?_,rfl,q⟩;rw[nN,pZ]
 lia
def jS:V->JR->Hp->VK->Prop:=λx vs H Q=>∃l b xs zs,x=.ref l/\vs=[.ref b]/\H l=some (.lst xs)/\H b=some (.lst zs)/\xs.length+zs.length<=sizeLine/\Q .non (upd H l (.lst (xs++zs)))
def Zke:wC X "list.extend" jS:=by
 intro Aq s U H x vs v us Q I rx rv h;obtain⟨l,b,xs,zs,rfl,rfl,hH,hB,hz,q⟩:=h;cases rx;obtain⟨u,rfl,ru⟩:=rv.one;cases ru;obtain⟨z,its,n,r,hl,e⟩:=I.lstM hH;obtain⟨z2,its2,n2,r2,hl2,e2⟩:=I.lstM hB;have hsz:its.toArray.size+its2.toArray.size<=sizeLine:=by rw[oH,oH];lia
 have hlong:¬(!its.toArray.isEmpty&&Builtin.List.listTooLong (its.toArray.size+its2.toArray.size))=true:=by rw[ZlN hsz,wu];exact nU
 refine call_meets F.slot_list_extend ⟨_,e,rfl⟩ F.entry_list_extend (F.args_list_extend_2 _ _)
  (AutoSeq1.list_extend_list_list_0 l its.toArray n b its2.toArray n2 hlong (by rw[oH];lia) ∅) ⟨e,e2,?_⟩
 refine⟨.non,_,I.lset (its':=its++its2) hH e {} (r.append r2) ?_,rfl,q⟩;rw[nN]
 lia
def lU:V->JR->Hp->VK->Prop:=λx vs H Q=>∃l xs i k y,x=.ref l/\vs=[.int i]/\H l=some (.lst xs)/\-(2 ^ 63)<=i/\i<2 ^ 63/\seqIndex? i xs.length=some k/\xs[k]?=some y/\Q y (upd H l (.lst (xs.eraseIdx k)))
def ZlQ:wC X "list.pop" lU:=by
 intro Aq s U H x vs v us Q I rx rv h;obtain⟨l,xs,i,k,y,rfl,rfl,hH,h1,h2,hk,hy,q⟩:=h;cases rx;obtain⟨u,rfl,ru⟩:=rv.one;obtain⟨t,rfl⟩:=ru;obtain⟨z,its,n,r,hl,e⟩:=I.lstM hH;obtain⟨w,hw,rw'⟩:=r.get hy;refine call_meets F.slot_list_pop ⟨_,e,rfl⟩ F.entry_list_pop (F.args_list_pop_2 _ _)
  (MeetsSeq.list_pop_at l its.toArray n i t k w (fitsIndex_both h1 h2) (by rw[oH,<-hl];exact hk) (by rw[<-sI];exact hw) (by rw[oH];lia)) ⟨e,?_⟩
 refine⟨y,_,I.lset (its':=its.eraseIdx k) hH e ?_ (r.eraseIdx k) ?_,rw',q⟩
 .show its.toArray.eraseIdxIfInBounds k=(its.eraseIdx k).toArray;rw[List.eraseIdxIfInBounds_toArray]
 .have:=GR xs k
  lia
def kE:R2:=λx y H Q=>∃l b xs zs,x=.ref l/\y=.ref b/\H l=some (.lst xs)/\H b=some (.lst zs)/\xs.length+zs.length<=sizeLine/\∀p,H p=none->Q (.ref p) (upd H p (.lst (xs++zs)))
def DN:oZ X (binaryOp .Add) kE:=by
 intro Aq s U H x y v u Q I rx ry h;obtain⟨l,b,xs,zs,rfl,rfl,hH,hB,hz,q⟩:=h;cases rx;cases ry;obtain⟨z,its,n,r,hl,e⟩:=I.lstM hH;obtain⟨z2,its2,n2,r2,hl2,e2⟩:=I.lstM hB;refine PySem.P.add_list e e2 ?_ (by rw[oH,oH];lia);have ea:its.toArray++its2.toArray=(its++its2).toArray:=by simp
 rw[ea];exact⟨.ref _,_,I.lnew (t':=s.toks) (r.append r2) (by rw[nN];lia),rfl,q _ I.fresh⟩
end
section
end
section
end
end L2
namespace Att
open PySem PySem.W PySem.Calls PyProof.Rows
def Zer:∀(ns:List Int) (vs:AC),WellAll P h vs (ns.map WData.int)->IntsAre vs ns:=by
 intro ns;induction ns with
 | nil=>
  intro vs w;rw[List.map_nil]at w;cases w;exact .nil
 | cons n ns ih=>
  intro vs w;rw[pH]at w;cases w with
  | cons a b=>
   cases a;exact .cons _ _ (ih _ b)
def ZjC {l:OpenLaw}{n:Nat}(hn:l.most=some n){P:Params}{h:Heap}{args:List WData}{vals:AC}
  (hpre:l.row.toRowW.claim.pre args=true) (hwl:WellAll P h vals args):
  ∃a vs ns,vals=[Value.ref a]/\args=[WData.list (ns.map WData.int)]/\h.get? a=some { cls:=.type "list",data:=.seq vs.toArray }/\IntsAre vs ns/\ns.length<=n:=by
 have hsh:WShape.hasAll [] args [.list .int]=true:=(pre_splitW hpre).1;have hc:l.pre.holds [] { args:=args }=true:=(pre_splitW hpre).2;obtain⟨d,r,rfl,h1,h2⟩:=hasAllW_cons hsh;obtain rfl:=hasAllW_nil h2;obtain⟨xs,rfl,h3⟩:=hasW_list h1;obtain⟨ns,rfl⟩:=items_int h3;have As:ns.length<=n:=by
  unfold OpenLaw.pre at hc;have h4:(WTm.not (.lt (.lit (.int (n:Int))) (.len (.arg 0)))).holds [] { args:=[.list (ns.map .int)] }=true:=by have h4:=(holds_andW hc).1;rw[hn]at h4;exact h4
  have h5:=condW_of h4 (w_not (w_lt w_lit (w_len_list (w_arg rfl))));rw[m6]at h5;refine Nat.le_of_not_lt λq=>?_;have q':(n:Int)<((ns.length:Nat):Int):=by lia
  first
   | (rw[JI q']at h5;exact JO h5 ⋯)
   | (simp at h5;lia)
 cases hwl with
 | cons w1 w2=>
  cases w2;cases w1 with
  | list ho hall=>exact⟨_,_,ns,rfl,rfl,ho,Zer ns _ hall,As⟩
def ZjT (l:OpenLaw)(args:List WData):l.row.toRowW.claim.post args (.bool true) args=true:=
 postW_of (r:=l.row.toRowW) (X:=(true == true))
  (show WShape.has [] (.bool true) .bool=true by first | rfl | decide | simp[WShape.has,WShape.arms,WShape.armsAll])
  (show (WTm.eq .res (.lit (.bool true))).value [] { args:=args,res:=some (.bool true),after:=args }=some (.bool (true == true)) from w_eq_bool (w_res rfl) w_lit) rfl
def attach_call {l:OpenLaw}{n:Nat}{q:AG}{loose:AJ}{XP:(AB)->Heap->Prop}{YP:AI->Heap->Prop}{d:DefRec}
  (hn:l.most=some n) (hdf:d.params.defaults=[])
  (call:∀(w:AI) (s_0 s_1:AE) (mg mb:AB) (fa:AD) (o:Obj) (pm cd doc:Value) (a:AD) (vs:AC) (ns:List Int),
   Ground q loose [] XP w s_0 mg mb s_1.heap->YP w s_1.heap ->
   s_1.heap.get? fa=some o->o.data=.func (docDef d.name d.params d.body d.scope pm cd doc)->s_1.heap.CodeRec cd d.name->mg d.name=some (.ref fa) ->
   s_1.heap.get? a=some { cls:=.type "list",data:=.seq vs.toArray }->IntsAre vs ns->ns.length<=n->s_1.gens=#[] ->
   codeAny (model l.prog w) callerA (.call (.ref fa) ⟨[.ref a],[]⟩) (λr s'=>r=.ok (.ret (.bool true))/\OldK s_1.heap s'.heap/\s'.os=s_1.os/\AllBare s'.gens) s_1):
  WalkO q loose XP YP l.row.toRowW d [] (λf vs=>PySem.call f vs):=by
 intro w s_0 s_1 mg mb G Y fa o pm cd doc dV kV ho hd hcd hD hmg hg args vals as hpre hlay hrd hwl hlo;obtain rfl:dV=.none:=Dflts.none hD hdf;obtain rfl:kV=.none:=Dflts.noKw hD;obtain⟨a,vs,ns,rfl,rfl,hobj,hints,As⟩:=ZjC hn hpre hwl;refine enter_call (codeAny_mono (call w s_0 s_1 mg mb fa o pm cd doc a vs ns G Y ho (fd_plain hd) hcd hmg hobj hints As hg) λr s' hq=>?_);obtain⟨rfl,h2,h3,h4⟩:=hq;exact⟨.inl ⟨.bool true,.bool true,[],rfl,λ_=>rfl,.bool true,ZjT l _,λ_=>⟨List.Pairwise.nil,λ_ hm=>(nomatch hm)⟩⟩,h2,h3,h4⟩
section
end
end Att
namespace L2
open PySem PySem.Spec PyProof.Rows
theorem HK:∀ {vs:AC} {ns:List Int},IntsAre vs ns->fV (ns.map V.int) vs
 | _,_,.nil=>.nil
 | _,_,.cons n t h=>.cons ⟨t,rfl⟩ (HK h)
noncomputable abbrev KOf {K:Q4}{h:Heap}(_:K.In h):Q4:=K
noncomputable def gb (s:Stmt)(j:Nat):Stmt:=match s with
 | .ClassDef _ _ _ body _ _ _ _ _ _ _=>body.getD j (.Pass ⟨0,0,0,0⟩)
 | _=>.Pass ⟨0,0,0,0⟩
def uF (s:Stmt):Arguments:=match s with
 | .FunctionDef _ a _ _ _ _ _ _ _ _=>a
 | _=>{ posonlyargs:=[],args:=[],vararg:=none,kwonlyargs:=[],kw_defaults:=[],kwarg:=none,defaults:=[] }
def tE (s:Stmt):List Stmt:=match s with
 | .FunctionDef _ _ b _ _ _ _ _ _ _=>b
 | _=>[]
def qQ (s:Stmt):Scope:=match s with
 | .FunctionDef _ _ _ _ _ _ sc _ _ _=>sc
 | _=>{ kind:=.function,names:=[],isGenerator:=false,isCoroutine:=false }
abbrev nQ:tK:=λ_ _ _ _ _ _=>False
abbrev E0:XK:=λ_ _ _=>False
def m9:sW nQ X E0:=λ_ _ _ _ _ _ _ h=>h.elim
structure rJ (K:Q4)(x qual:Str)(st:Stmt)(f:AD)(fd:AF):Prop where
 ex:∃(oc:Value) (od:Option AD) (kV doc pm:Value) (an:Option AD) (Ar ct:Value) (osl:Array (Option Value)),
  fd=fnOf x qual (uF st) (tE st) (qQ st) .none kV doc pm an Ar ct/\K.lookup f=some ⟨oc,od,.func fd,osl⟩/\codeIn K Ar qual=true
 kp:keepIn K (.ref f)=true
section
variable {P:AG}{w:AI}{K:Q4}{mg:AB}{base:Heap}
def rJ.ok {x qual:Str}{st:Stmt}{f:AD}{fd:AF}{N ps:AJ}{k:Nat}{sp:Sp}(F:rJ K x qual st f fd)(S:fU N ps (qQ st))
  (hbody:∀(Ar:Value) (A:AH) (outer:List Env) (s:AE) (H:Hp) (vs:JR) (Q:VK) (E:XK),gz k (A.deeper (envOfC qual (qQ st) s.heap.objs.size f Ar))->sp vs H Q E ->
   ∃t,rn (ir nQ P w K mg base N qual (qQ st) f Ar A outer s H E).nox (tE st) t/\t { nx:=λ_ H'=>Q .non H',rt:=Q } (start N vs) H)(len:∀vs H Q E,sp vs H Q E->vs.length=ps.length:=by walk_at "ln"):f7 P w K mg base nQ (k+1) f fd ps sp:=by
 obtain⟨oc,od,kV,doc,pm,an,Ar,ct,osl,rfl,lk,hcd⟩:=F.ex;refine CO lk hcd S len λA outer s H vs Q E hr hsp=>?_;obtain⟨t,h,q⟩:=hbody Ar A outer s H vs Q E hr hsp;exact⟨t,h.nox,q⟩
def rJ.binds {x qual:Str}{st:Stmt}{f:AD}{fd:AF}{ps:AJ}(F:rJ K x qual st f fd)
  (h:∀(kV doc pm:Value) (an:Option AD) (Ar ct:Value) (us:AC),us.length=ps.length->bindArgs (fnOf x qual (uF st) (tE st) (qQ st) .none kV doc pm an Ar ct) ⟨us,[]⟩=pure (ps.zip us)):gR K fd ps []:=by
 obtain⟨oc,od,kV,doc,pm,an,Ar,ct,osl,rfl,lk,hcd⟩:=F.ex;exact .all (h kV doc pm an Ar ct)
def Hg {x qual:Str}{st:Stmt}{f:AD}{oc:Value}{od an:Option AD}{osl:Array (Option Value)}{kV doc pm Ar ct:Value}(l:K.lookup f=some ⟨oc,od,.func (fnOf x qual (uF st) (tE st) (qQ st) .none kV doc pm an Ar ct),osl⟩)
  (c:codeIn K Ar qual=true) (k:keepIn K (.ref f)=true):rJ K x qual st f (fnOf x qual (uF st) (tE st) (qQ st) .none kV doc pm an Ar ct):=⟨⟨oc,od,kV,doc,pm,an,Ar,ct,osl,rfl,l,c⟩,k⟩
end
def yF (hr:gz k A):A.units+1<cLine:=zT (Nat.add_le_add_left (by decide:1<=64) _) hr.units
def Dg (h:n<=1000):n<sizeLine:=zT h ⋯
section
def pv (i:Nat) {x:Str} {pos:Pos} (hN:X.N[i]?=some x:=by rfl) (hv:yg X.env.scope x:=by first | exact Or.inl rfl | exact Or.inr (Or.inl rfl) | exact Or.inr (Or.inr rfl)) (hd:(x == ("__debug__":Str))=false:=by decide)
  (hcd:(x == ("__classdict__":Str))=false:=by decide):PE X (.Name x pos) (kP i):=Zpf hN hv hd hcd
end
def gq {A B:Prop}(h:B):if false=true then A else B:=by rw[mR nU];exact h
def gW {A B:Prop}(h:A):if true=true then A else B:=by rw[mS rfl];exact h
def gK {c A B:Prop}[Decidable c](h1:c->A)(h2:¬c->B):if c then A else B:=by
 by_cases h:c
 .rw[mS h];exact h1 h
 .rw[mR h];exact h2 h
def fT (H H':Hp):Prop:=∀b o,H b=some o->H' b=some o
def fT.refl (H:Hp):fT H H:=λ_ _ h=>h
def fT.trans (a:fT H H1)(b:fT H1 H2):fT H H2:=λc o h=>b c o (a c o h)
def fT.free (e:fT H H'){l:AD}(h:H' l=Option.none):H l=Option.none:=by
 cases q:H l with
 | none=>rfl
 | some o=>
  rw[e l o q]at h;cases h
def fT.seq {K:Q4}{H H':Hp}{a:AD}{xs:JR}(e:fT H H')(h:oj K H a xs):oj K H' a xs:=by
 rcases h with (h | ⟨o,h⟩) | h
 .exact .inl (.inl (e _ _ h))
 .exact .inl (.inr ⟨o,e _ _ h⟩)
 .exact .inr h
section
variable {κ:Type}[DecidableEq κ]
noncomputable def gp (kvs:List (κ×V))(k:κ):Option V:=(kvs.find? λkv=>decide (kv.1=k)).map (·.2)
noncomputable def gv (kvs:List (κ×V))(k:κ)(v:V):List (κ×V):=
 if (kvs.any λkv=>decide (kv.1=k))=true then kvs.map (λkv=>if kv.1=k then (kv.1,v) else kv) else kvs++[(k,v)]
noncomputable def Ih (kvs:List (κ×V))(k:κ):List (κ×V):=kvs.filter λkv=>decide (kv.1≠k)
def tS {p:κ×V}{r:List (κ×V)}{k:κ}(e:p.1=k):gp (p::r) k=some p.2:=by simp[gp,x9,e]
def tF {p:κ×V}{r:List (κ×V)}{k:κ}(e:¬p.1=k):gp (p::r) k=gp r k:=by simp[gp,x9,e]
theorem xI (k:κ):∀kvs:List (κ×V),(kvs.any λkv=>decide (kv.1=k))=(gp kvs k).isSome
 | []=>rfl
 | p::r=>by
  rw[List.any_cons];by_cases e:p.1=k
  .simp only[tS e,JI e,Bool.true_or,Option.isSome_some]
  .rw[tF e,JJ e,Bool.false_or];exact xI k r
theorem IW (k j:κ)(y:V):∀kvs:List (κ×V),gp (kvs.map λkv=>if kv.1=k then (kv.1,y) else kv) j=(gp kvs j).map λx=>if j=k then y else x
 | []=>rfl
 | p::r=>by
  have ih:=IW k j y r;rw[pH];by_cases h:p.1=k
  .rw[mS h];by_cases e:p.1=j
   .rw[tS (p:=(p.1,y)) e,tS e,Option.map_some,mS (e.symm.trans h)]
   .rw[tF (p:=(p.1,y)) e,tF e,ih]
  .rw[mR h];by_cases e:p.1=j
   .rw[tS (p:=p) e,tS e,Option.map_some,mR (λz=>h (e.trans z))]
   .rw[tF (p:=p) e,tF e,ih]
theorem Gr (k j:κ)(y:V):∀kvs:List (κ×V),gp kvs k=none->gp (kvs++[(k,y)]) j=if j=k then some y else gp kvs j
 | [],_=>by
  by_cases e:k=j
  .rw[mS e.symm];exact tS (p:=(k,y)) e
  .rw[mR (λz=>e z.symm)];exact tF (p:=(k,y)) e
 | p::r,hn=>by
  rw[wJ];have hk:¬p.1=k:=λz=>by rw[tS z]at hn;cases hn
  rw[tF hk]at hn;have ih:=Gr k j y r hn;by_cases e:p.1=j
  .rw[tS e,tS e,mR (λz=>hk (e.trans z))]
  .rw[tF e,tF e,ih]
def yV (kvs:List (κ×V))(k j:κ)(y:V):gp (gv kvs k y) j=if j=k then some y else gp kvs j:=by
 unfold gv;by_cases a:(kvs.any λkv=>decide (kv.1=k))=true
 .rw[mS a,IW];rw[xI]at a;by_cases e:j=k
  .obtain⟨x,hx⟩:=B8.mp a;rw[mS e,e,hx,Option.map_some,mS rfl]
  .rw[mR e];cases gp kvs j with
   | none=>rfl
   | some x=>rw[Option.map_some,mR e]
 .rw[mR a];refine Gr k j y kvs ?_;rw[xI]at a;cases q:gp kvs k with
  | none=>rfl
  | some x=>rw[q]at a;exact(a rfl).elim
def yq (kvs:List (κ×V))(k:κ)(v:V):(gv kvs k v).length<=kvs.length+1:=by
 unfold gv;split
 .rw[m6];lia
 .rw[nN,qK,List.length_nil];lia
def DR {kvs:List (κ×V)}{k:κ}(v:V)(h:gp kvs k=none):gv kvs k v=kvs++[(k,v)]:=by unfold gv;rw[xI,h];exact mR ⋯
def gV.isSome_eq (r:gV o u):o.isSome=u.isSome:=by
 cases o with
 | none=>cases u with
  | none=>rfl
  | some _=>exact(show False from r).elim
 | some _=>cases u with
  | none=>exact(show False from r).elim
  | some _=>rfl
def gV.getD (r:gV o u)(rd:fZ d d'):fZ (o.getD d) (u.getD d'):=by
 cases o with
 | none=>cases u with
  | none=>exact rd
  | some _=>exact(show False from r).elim
 | some _=>cases u with
  | none=>exact(show False from r).elim
  | some _=>exact r
def KV.val (r:KV kvs vs)(k:κ):gV (gp kvs k) (valueAt vs k):=by
 unfold KV at r;induction r with
 | nil=>exact True.intro
 | @cons p q ps qs h t ih=>
  obtain⟨h1,h2⟩:=h;by_cases e:p.1=k
  .have e':q.1=k:=h1.symm.trans e;have b:valueAt (q::qs) k=some q.2:=by simp[valueAt,x9,e']
   rw[tS e,b];exact h2
  .have e':¬q.1=k:=λz=>e (h1.trans z);have b:valueAt (q::qs) k=valueAt qs k:=by simp[valueAt,x9,e']
   rw[tF e,b];exact ih
def KV.any (r:KV kvs vs)(k:κ):(kvs.any λkv=>decide (kv.1=k))=vs.any λkv=>decide (kv.1=k):=by
 unfold KV at r;induction r with
 | nil=>rfl
 | cons h t ih=>rw[List.any_cons,List.any_cons,ih,h.1]
def KV.repl (r:KV kvs vs)(k:κ){y:V}{u:Value}(ry:fZ y u):
  KV (kvs.map λkv=>if kv.1=k then (kv.1,y) else kv) (vs.map λkv=>if kv.1=k then (kv.1,u) else kv):=by
 unfold KV at r ⊢;induction r with
 | nil=>exact .nil
 | @cons p q ps qs h t ih=>
  rw[pH,pH];refine .cons ?_ ih;obtain⟨h1,h2⟩:=h;by_cases e:p.1=k
  .rw[mS e,mS (h1.symm.trans e)];exact⟨h1,ry⟩
  .rw[mR e,mR (λz=>e (h1.trans z))];exact⟨h1,h2⟩
def KV.put (r:KV kvs vs)(k:κ){y:V}{u:Value}(ry:fZ y u):KV (gv kvs k y) (stored vs k u):=by
 unfold gv stored;rw[r.any k];by_cases e:(vs.any λkv=>decide (kv.1=k))=true
 .rw[mS e,mS e];exact r.repl k ry
 .rw[mR e,mR e];exact Paired.snoc r ⟨rfl,ry⟩
def KV.drop (r:KV kvs vs)(k:κ):KV (Ih kvs k) (without vs k):=by
 unfold KV at r ⊢;unfold Ih without;induction r with
 | nil=>exact .nil
 | @cons p q ps qs h t ih=>
  obtain⟨h1,h2⟩:=h;rw[List.filter_cons,List.filter_cons];by_cases e:p.1=k
  .have a:¬decide (p.1≠k)=true:=by simp[e]
   have b:¬decide (q.1≠k)=true:=by simp[h1.symm.trans e]
   rw[mR a,mR b];exact ih
  .have e':¬q.1=k:=λz=>e (h1.trans z);have a:decide (p.1≠k)=true:=by simp[e]
   have b:decide (q.1≠k)=true:=by simp[e']
   rw[mS a,mS b];exact .cons ⟨h1,h2⟩ ih
def KV.keys {kvs:List (κ×V)}{vs:List (κ×Value)}(r:KV kvs vs):kvs.map (·.1)=vs.map (·.1):=by
 unfold KV at r;induction r with
 | nil=>rfl
 | cons h t ih=>rw[pH,pH,ih,h.1]
def KV.length (r:KV kvs vs):kvs.length=vs.length:=Paired.length r
end
def xk (r:fZ (kV k) u):(pI P w).is k u=true:=by
 cases k with
 | inl i=>obtain⟨t,e⟩:=(show ∃t,u=Value.int i t from r);subst e;exact Zhn P w i t
 | inr x=>obtain⟨t,e⟩:=(show ∃t,u=Value.str x t from r);subst e;exact GG P w x t
theorem FR {P:AG}{w:AI}:∀ {ks:List nH} {us:AC},fV (ks.map kV) us->ItemsAre (pI P w) ks us
 | [],_,r=>by rw[List.map_nil]at r;cases r;exact .nil
 | k::ks,_,r=>by
  rw[pH]at r;cases r with
  | cons h t=>exact .cons (xk h) (FR t)
abbrev KT (H:Hp):List (List nH×V)->List (List nH×AD×Value)->Prop:=Paired λp q=>p.1=q.1/\H q.2.1=some (.tup (p.1.map kV))/\fZ p.2 q.2.2
def KT.val (r:KT H kvs xs)(k:List nH):gV (gp kvs k) ((atKey xs k).map (·.2)):=by
 induction r with
 | nil=>exact True.intro
 | @cons p q ps qs h t ih=>
  obtain⟨h1,_,h2⟩:=h;by_cases e:p.1=k
  .have e':q.1=k:=h1.symm.trans e;have b:atKey (q::qs) k=some q.2:=by simp[atKey,x9,e']
   rw[tS e,b];exact h2
  .have e':¬q.1=k:=λz=>e (h1.trans z);have b:atKey (q::qs) k=atKey qs k:=by simp[atKey,x9,e']
   rw[tF e,b];exact ih
def KT.repl (r:KT H kvs xs)(k:List nH){y:V}{u:Value}(ry:fZ y u):
  KT H (kvs.map λkv=>if kv.1=k then (kv.1,y) else kv) (xs.map (putAt k u)):=by
 induction r with
 | nil=>exact .nil
 | @cons p q ps qs h t ih=>
  rw[pH,pH];refine .cons ?_ ih;obtain⟨h1,h2,h3⟩:=h;unfold putAt;by_cases e:p.1=k
  .rw[mS e,mS (h1.symm.trans e)];exact⟨h1,h2,ry⟩
  .rw[mR e,mR (λz=>e (h1.trans z))];exact⟨h1,h2,h3⟩
def KT.put (r:KT H kvs xs)(k:List nH){b:AD}{y:V}{u:Value}(hb:H b=some (.tup (k.map kV)))(ry:fZ y u):
  KT H (gv kvs k y) (storedH xs k b u):=by
 have e:(kvs.any λkv=>decide (kv.1=k))=(atKey xs k).isSome:=by rw[xI,(r.val k).isSome_eq,Option.isSome_map]
 unfold gv storedH;rw[e];by_cases q:(atKey xs k).isSome=true
 .rw[mS q,mS q];exact r.repl k ry
 .rw[mR q,mR q];exact Paired.snoc r ⟨rfl,hb,ry⟩
def KT.keeps (r:KT H kvs xs)(ht:∀b ys,H b=some (.tup ys)->H' b=some (.tup ys)):KT H' kvs xs:=
 Paired.mapP r λ_ _ z=>⟨z.1,ht _ _ z.2.1,z.2.2⟩
section
def Gq (ok:o7 P w H h)(e:Rd H a u):gg P w H h a u:=e.ok ok
def wz (ok:o7 P w H h)(e:Rd H a (.dK kvs)):kvs.length<=sizeLine/\(a == sysModules)=false/\∃vs,KV kvs vs/\h.DictOf (pI P w) a vs:=
 show gg P w H h a (.dK kvs) from Gq ok e
def A4 (ok:o7 P w H h)(e:H a=some (.dK kvs)):kvs.length<=sizeLine/\(a == sysModules)=false/\∃vs,KV kvs vs/\h.DictOf (pI P w) a vs:=wz ok (.inl e)
def wV (ok:o7 P w H h)(e:H a=some (.tup (ks.map kV))):(tupleKind (pI P w)).is h ks a:=by obtain⟨_,its,r,o,h1,h2,n,h3⟩:=(show gg P w H h a (.tup (ks.map kV)) from ok a _ e);exact⟨o,its.toArray,n,h1,h2,h3,by simpa using FR r⟩
def xn (ok:o7 P w H h)(e:Rd H a (.dT kvs)):kvs.length<=sizeLine/\(a == sysModules)=false /\
  ∃xs,KT H kvs xs/\h.DictOfH (tupleKind (pI P w)) a xs:=by
 obtain⟨z,y,xs,r,o,es,ep,h1,h2,h3,h4,h5⟩:=(show gg P w H h a (.dT kvs) from Gq ok e);refine⟨z,y,xs,r,o,es,ep,h1,h2,h3,h4,λx hx=>?_,h5⟩;have all:∀ {l:List (List nH×V)} {m:List (List nH×AD×Value)},KT H l m->∀x∈m,(tupleKind (pI P w)).is h x.1 x.2.1:=by
  intro l m q;induction q with
  | nil=>intro x hx;exact nomatch hx
  | @cons p q ps qs hq t ih=>
   intro x hx;rcases ot.mp hx with e | hx
   .subst e;exact wV ok (by rw[<-hq.1];exact hq.2.1)
   .exact ih x hx
 exact all r x hx
def Ik (ok:o7 P w H h)(e:H a=some (.dT kvs)):kvs.length<=sizeLine/\(a == sysModules)=false /\
  ∃xs,KT H kvs xs/\h.DictOfH (tupleKind (pI P w)) a xs:=xn ok (.inl e)
end
def iA (H:Hp)(a:AD)(y:V)(r:Option V):Prop:=
 (∃kvs k,Rd H a (.dK kvs)/\y=kV k/\r=gp kvs k)\/∃kvs k b,Rd H a (.dT kvs)/\y=.ref b/\H b=some (.tup (k.map kV))/\r=gp kvs k
def iM (H:Hp)(a:AD)(y v:V)(H':Hp):Prop:=
 (∃kvs k,H a=some (.dK kvs)/\y=kV k/\kvs.length<sizeLine/\H'=upd H a (.dK (gv kvs k v))) \/
 ∃kvs k b,H a=some (.dT kvs)/\y=.ref b/\H b=some (.tup (k.map kV))/\kvs.length<sizeLine/\H'=upd H a (.dT (gv kvs k v))
def iA.k {H:Hp}{a:AD}{kvs:List (nH×V)}{k:nH}(e:H a=some (.dK kvs)):iA H a (kV k) (gp kvs k):=.inl ⟨kvs,k,.inl e,rfl,rfl⟩
def iA.t {H:Hp}{a b:AD}{kvs:List (List nH×V)}{k:List nH}(e:H a=some (.dT kvs))(eb:H b=some (.tup (k.map kV))):iA H a (.ref b) (gp kvs k):=.inr ⟨kvs,k,b,.inl e,rfl,eb,rfl⟩
def iM.k {H:Hp}{a:AD}{kvs:List (nH×V)}{k:nH}{v:V}(e:H a=some (.dK kvs))(hl:kvs.length<sizeLine):iM H a (kV k) v (upd H a (.dK (gv kvs k v))):=.inl ⟨kvs,k,e,rfl,hl,rfl⟩
def iM.t {H:Hp}{a b:AD}{kvs:List (List nH×V)}{k:List nH}{v:V}(e:H a=some (.dT kvs))(eb:H b=some (.tup (k.map kV)))(hl:kvs.length<sizeLine):
  iM H a (.ref b) v (upd H a (.dT (gv kvs k v))):=.inr ⟨kvs,k,b,e,rfl,eb,hl,rfl⟩
section
def mP.big (I:mP X Aq U H s):sysModules<s.heap.objs.size:=by have h:mainGlobals<s.heap.objs.size:=(I.mod.glob.keeps I.bk).lt;exact Nat.lt_trans ⋯ h
def ZkP (hu:A.units+1<cLine)(I:mP X Aq U H s)(g:iA H a y (some v))(ry:fZ y u)(h:∀w' s',mP X Aq U H s'->fZ v w'->Q w' s'):
  wpAny (model X.prog X.w) A (getItem (.ref a) u) Q E s:=by
 rcases g with⟨kvs,k,e,ey,l⟩|⟨kvs,k,b,e,ey,eb,l⟩
 .subst ey;obtain⟨z,hd,vs,rel,dd⟩:=wz I.hok e;obtain⟨w',hw,rw'⟩:=gV.some_of (v:=v) (o:=valueAt vs k) (by rw[l];exact rel.val k);exact wpAny_getItem_of (xk ry) dd.mapOf hw (h w' _ (I.tok _) rw')
 .subst ey;cases (show u=Value.ref b from ry);obtain⟨z,hd,xs,rel,dd⟩:=xn I.hok e;obtain⟨w',hw,rw'⟩:=gV.some_of (v:=v) (o:=(atKey xs k).map (·.2)) (by rw[l];exact rel.val k);obtain⟨p,hp,hp2⟩:=Bm.mp hw;refine wpAny_getItem_heap (tupleKind_room_in1 hu) (wV I.hok eb) dd hp ?_;rw[hp2];exact h w' _ (I.tok _) rw'
def Zoo (hu:A.units+1<cLine)(I:mP X Aq U H s)(g:iA H a y o)(ry:fZ y u)(h:∀s',mP X Aq U H s'->Q (.bool (!o.isSome)) s'):
  wpAny (model X.prog X.w) A (compareOp .NotIn u (.ref a)) Q E s:=by
 rcases g with⟨kvs,k,e,ey,l⟩|⟨kvs,k,b,e,ey,eb,l⟩
 .subst ey;obtain⟨z,hd,vs,rel,dd⟩:=wz I.hok e;refine wpAny_notIn_of (xk ry) hd dd.mapOf ?_;rw[<-(rel.val k).isSome_eq,<-l];exact h _ (I.tok _)
 .subst ey;cases (show u=Value.ref b from ry);obtain⟨z,hd,xs,rel,dd⟩:=xn I.hok e;refine wpAny_notIn_heap (tupleKind_room_in1 hu) (wV I.hok eb) hd dd ?_;have q:=(rel.val k).isSome_eq;rw[Option.isSome_map]at q;rw[<-q,<-l];exact h _ (I.tok _)
def Ch (I:mP X Aq U H s)(mu:zU (H a))(hs:Heap.SameBut a s.heap h')(he:∃q,h'.get? a=some q)(new:gg X.prog X.w (upd H a ob) h' a ob):
  mP X Aq U (upd H a ob) { s with heap:=h',toks:=t' }:=
 I.write (x:=a) (e:=a) mu (.inl rfl) (λb q hb z=>(hs.2 b hb).trans z) he new
def FG (z:kvs.length<=sizeLine)(hd:(a == sysModules)=false)(rel:KV kvs vs)(dd:h'.DictOf (pI P w) a vs):
  gg P w H' h' a (.dK kvs):=⟨z,hd,vs,rel,dd⟩
def ZkO (hu:A.units+1<cLine)(I:mP X Aq U H s)(g:iM H a y v H')(ry:fZ y u)(rv:fZ v r)(h:∀s',mP X Aq U H' s'->Q () s'):
  wpAny (model X.prog X.w) A (setItem (.ref a) u r) Q E s:=by
 rcases g with⟨kvs,k,e,ey,l,eH⟩|⟨kvs,k,b,e,ey,eb,l,eH⟩
 .subst ey eH;obtain⟨z,hd,vs,rel,dd⟩:=A4 I.hok e;have hz:vs.length<=sizeLine:=by rw[<-rel.length];exact z
  have hl:(gv kvs k v).length<=sizeLine:=by have:=yq kvs k v;lia
  refine wpAny_setItem_pairs (hsz:=hz) (xk ry) dd λh' dd' hs=>h _ ?_;have he:∃q,h'.get? a=some q:=let ⟨q,_,_,hq,_⟩:=dd';⟨q,hq⟩;exact Ch I (by rw[e];exact True.intro) hs he (FG hl hd (rel.put k rv) dd')
 .subst ey eH;cases (show u=Value.ref b from ry);obtain⟨z,hd,xs,rel,dd⟩:=Ik I.hok e;have hz:xs.length<=sizeLine:=by rw[<-Paired.length rel];exact z
  have hl:(gv kvs k v).length<=sizeLine:=by have:=yq kvs k v;lia
  refine wpAny_setItem_heap (hsz:=hz) (tupleKind_room_in1 hu) (wV I.hok eb) dd λh' dd' hs=>h _ ?_;obtain⟨q,es,ep,hq,h2,h3,h4,_,h5⟩:=dd';refine Ch I (by rw[e];exact True.intro) hs ⟨q,hq⟩ ⟨hl,hd,_,(rel.put k eb rv).keeps λc ys ec=>?_,q,es,ep,hq,h2,h3,h4,h5⟩;rw[mT (GB ec e (λz=>nomatch z))];exact ec
end
section
def Zr5 (I:mP X Aq U H s)(e:Rd H a (.dK kvs))(h:∀t s',mP X Aq U H s'->Q (.int kvs.length t) s'):wpAny (model X.prog X.w) A (call (.builtin "len") [.ref a]) Q E s:=by obtain⟨z,hd,vs,rel,dd⟩:=wz I.hok e;refine call_len_dict hd dd (by rw[<-rel.length];rw[sizeLine_eq]at z;lia) ?_;rw[<-rel.length];exact h _ _ (I.tok _)
end
def NoSl (i:Expr):Prop:=∀ov iv,subscripted i false ov iv=operate [ov,iv] (getItem ov iv)
def Zne {prog:AG}{w:AI}{A:AH}{E:oo}{s:AE}{env:Env}{value slice:Expr}{pos:Pos}{T id:String}{Q:oo}
  (hl:typeLookup (.type T) "__getitem__"=pure (some (.builtin id))) (hs:NoSl slice)
  (h:wpAny (model prog w) A (eval value env) (λo s_1=>wpAny (model prog w) A (eval slice env) (λi s_2=>s_2.TypeIs o T/\wpAny (model prog w) A (getItem o i) Q E s_2) E s_1) E s):
  wpAny (model prog w) A (eval (.Subscript value slice pos) env) Q E s:=by
 refine Subscript_ (qF h (λo s_1 h9=>qF h9 (λi s_2 h_2=>?_) λ_ _ x=>x) λ_ _ x=>x);obtain⟨hT,h_2⟩:=h_2;unfold subscriptTail;refine mO ?_;rw[getitemInPython_of_ne hT.not_modules];refine mO (wpAny_specialOf hT hl ?_);have fin:wpAny (model prog w) A (subscripted slice false o i) (λr s₃=>wpAny (model prog w) A (letTemporaryGo value o r >>= λ_=>pure r) Q E s₃) E s_2:=by rw[hs o i];exact wpAny_operating (qF h_2 (λr s₃ h₃=>mO (wpAny_letTemporaryGo (mW h₃))) λ_ _ x=>x)
 first
  | exact mW (mO fin)
  | exact mO (mW (mO fin))
  | exact mO fin
def ZhG (I:mP X Aq U H s)(g:iA H a y o):s.TypeIs (.ref a) "dict":=by
 rcases g with⟨kvs,k,e,_,_⟩|⟨kvs,k,b,e,_,_,_⟩
 .obtain⟨_,_,vs,_,dd⟩:=wz I.hok e;exact dd.typeIs
 .obtain⟨_,_,xs,_,dd⟩:=xn I.hok e;exact dd.typeIs
def Jn (td ty:TE):TE:=λU H Q=>td U H λx H1=>ty U H1 λy H2=>∃a v,x=.ref a/\iA H2 a y (some v)/\Q v H2
def IA (ty td:TE):TE:=λU H Q=>ty U H λy H1=>td U H1 λx H2=>∃a o,x=.ref a/\iA H2 a y o/\Q (.bl (!o.isSome)) H2
def E6 (td ty tv:TE):TS:=λD U H=>tv U H λv H1=>td U H1 λx H2=>ty U H2 λy H3=>∃a H4,x=.ref a/\iM H3 a y v H4/\D.nx U H4
section
def Ew (hu:X.A.units+1<cLine)(ho:PE X o td)(hi:PE X i ty)(hs:NoSl i):PE X (.Subscript o i pos) (Jn td ty):=by intro Aq s U H Q I h;refine Zne PySem.F.slot_dict_getitem.lookup hs (m8 (ho Aq s U H _ I h) λu s1 ⟨x,H1,I1,rx,q1⟩=>m8 (hi Aq s1 U H1 _ I1 q1) λiv s2 zz=>?_);obtain⟨y,H2,I2,ry,a,v,ex,g,q2⟩:=zz;subst ex;obtain rfl:u=Value.ref a:=rx;exact⟨ZhG I2 g,ZkP hu I2 g ry λw' s3 I3 rw'=>⟨v,H2,I3,rw',q2⟩⟩
def Zj3 (hu:X.A.units+1<cLine)(hi:PE X i ty)(ho:PE X o td):PC X .NotIn i o (IA ty td):=by intro Aq s U H Q I h;refine m8 (hi Aq s U H _ I h) λiv s1 ⟨y,H1,I1,ry,q1⟩=>m8 (ho Aq s1 U H1 _ I1 q1) λu s2 zz=>?_;obtain⟨x,H2,I2,rx,a,ov,ex,g,q2⟩:=zz;subst ex;obtain rfl:u=Value.ref a:=rx;exact Zoo hu I2 g ry λs3 I3=>⟨.bl (!ov.isSome),H2,I3,rfl,q2⟩
def zq (hu:X.A.units+1<cLine)(ho:PE X o td)(hi:PE X i ty)(hv:PE X value tv)(hs:swapsWith value (some (.Subscript o i pos')) pos.line X.env=pure false):
  PS X (.Assign [.Subscript o i pos'] value pos) (E6 td ty tv):=by
 intro Aq s U H D I h;refine wpAny_Assign_Subscript (m8 (hv Aq s U H _ I h) λr s1 ⟨v,H1,I1,rv,q1⟩=>m8 (ho Aq s1 U H1 _ I1 q1) λu s2 ⟨x,H2,I2,rx,q2⟩=>m8 (hi Aq s2 U H2 _ I2 q2) λiv s3 zz=>?_) hs;obtain⟨y,H3,I3,ry,a,H4,ex,g,q3⟩:=zz;subst ex;obtain rfl:u=Value.ref a:=rx;exact ZkO hu I3 g ry rv λs4 I4=>⟨U,H4,I4,q3⟩
end
def G6 (h:Heap)(hb:sysModules<h.objs.size):gg P w H (h.push { cls:=.type "dict",data:=.dict #[] }) h.objs.size (.dK []):=
 ⟨pE _,beq_eq_false_iff_ne.mpr (nX (oO hb)),[],.nil,Heap.DictOf.new h⟩
def Zmd (h:Heap)(hb:sysModules<h.objs.size):gg P w H (h.push { cls:=.type "dict",data:=.dict #[] }) h.objs.size (.dT []):=
 ⟨pE _,beq_eq_false_iff_ne.mpr (nX (oO hb)),[],.nil,_,#[],0,oP _ rfl,⟨rfl,rfl,rfl⟩,rfl,rfl,List.nodup_nil⟩
def jF:TE:=λ_ H Q=>∀p,H p=none->Q (.ref p) (upd H p (.dK []))
section
def Bd:PE X (.Dict [] [] pos) jF:=λAq s U H Q I h=>
 wpAny_Dict_empty ⟨.ref s.heap.objs.size,_,I.laid (a:=s.heap.objs.size) (o:=.dK []) (t':=s.toks) (λ_ _ q=>nG _ q) (nD _) (G6 s.heap I.big),rfl,h _ (I.hok.fresh (nD _))⟩
end
def Bw:List (TE×TE)->St->Hp->(List (V×V)->Hp->Prop)->Prop
 | [],_,H,Q=>Q [] H
 | (tk,tv)::r,U,H,Q=>tk U H λx H1=>tv U H1 λy H2=>Bw r U H2 λps H3=>Q ((x,y)::ps) H3
abbrev VV:List (V×V)->List (Value×Value)->Prop:=Paired λp q=>fZ p.1 q.1/\fZ p.2 q.2
def B2 (X:Cx)(pos:Pos)(keys:List (Option Expr))(values:List Expr)(trs:List (TE×TE)):Prop:=
 ∀(Aq:AA) (s:AE) (U:St) (H:Hp) (Q:List (V×V)->Hp->Prop),mP X Aq U H s->Bw trs U H Q ->
  wpAny (model X.prog X.w) X.A (evalPairs (pairTrees keys values X.env pos)) (λvs s'=>∃ps H',mP X Aq U H' s'/\VV ps vs/\Q ps H') X.xe s
def EM:B2 X pos [] [] []:=λAq s U H Q I h=>pairTrees_nil_walk ⟨[],H,I,.nil,h⟩
def CJ (hk:PE X k tk)(hv:PE X v tv)(hr:B2 X pos ks vs trs):
  B2 X pos (some k::ks) (v::vs) ((tk,tv)::trs):=λAq s U H Q I h=>
 pairTrees_cons_walk (m8 (hk Aq s U H _ I h) λu s1 ⟨x,H1,I1,rx,q1⟩=>m8 (hv Aq s1 U H1 _ I1 q1) λw2 s2 ⟨y,H2,I2,ry,q2⟩=>
  m8 (hr Aq s2 U H2 _ I2 q2) λws s3 ⟨ps,H3,I3,rel,q3⟩=>⟨(x,y)::ps,H3,I3,.cons ⟨rx,ry⟩ rel,q3⟩)
def qS (kvs more:List (nH×V)):List (nH×V):=more.foldl (λacc kv=>gv acc kv.1 kv.2) kvs
def KV.merge:∀ {more:List (nH×V)} {rs:List (nH×Value)} {kvs:List (nH×V)} {vs:List (nH×Value)},KV more rs->KV kvs vs->KV (qS kvs more) (merged vs rs):=by
 intro more rs kvs vs r;unfold KV at r;induction r generalizing kvs vs with
 | nil=>intro q;exact q
 | @cons p q ps qs h t ih=>
  intro r0;have e:KV (gv kvs p.1 p.2) (stored vs q.1 q.2):=by have:=r0.put p.1 h.2;rw[<-h.1];exact this
  exact ih e
theorem EK:∀(more kvs:List (nH×V)),(qS kvs more).length<=kvs.length+more.length
 | [],kvs=>by show kvs.length<=kvs.length+0;lia
 | p::r,kvs=>by have h1:=EK r (gv kvs p.1 p.2);have h2:=yq kvs p.1 p.2;show (qS (gv kvs p.1 p.2) r).length<=_;rw[qK];lia
theorem E4 {P:AG}{w:AI}:∀ {kvs:List (nH×V)} {ws:List (Value×Value)},VV (kvs.map λkv=>(kV kv.1,kv.2)) ws->∃rs,Carries (pI P w) ws rs/\KV kvs rs
 | [],_,r=>by rw[List.map_nil]at r;cases r;exact⟨[],True.intro,.nil⟩
 | p::kvs,_,r=>by
  rw[pH]at r;cases r with
  | @cons a b as bs h t=>
   obtain⟨rs,c,q⟩:=E4 (P:=P) (w:=w) t;obtain⟨b1,b2⟩:=b;exact⟨(p.1,b2)::rs,⟨xk h.1,rfl,c⟩,.cons ⟨rfl,h.2⟩ q⟩
def Gs (trs:List (TE×TE)):TE:=λU H Q=>∀p,H p=none->Bw trs U (upd H p (.dK [])) λps H2=>H2 p=some (.dK [])/\∃kvs:List (nH×V),ps=kvs.map (λkv=>(kV kv.1,kv.2))/\kvs.length<=15/\Q (.ref p) (upd H2 p (.dK (qS [] kvs)))
def DB (h:B2 X pos keys values trs)(hall:keys.all (·.isSome)=true)(hl:keys.length=values.length)(h0:keys≠[])
  (h15:keys.length<=15):PE X (.Dict keys values pos) (Gs trs):=by
 intro Aq s U H Q I q;have hn:=I.hok.fresh (nD s.heap.objs.size);have I1:=I.laid (a:=s.heap.objs.size) (o:=.dK []) (h':=s.heap.push { cls:=.type "dict",data:=.dict #[] }) (t':=s.toks) (λ_ _ q=>nG _ q) (nD _) (G6 s.heap I.big);refine wpAny_Dict_walk (knd:=pI X.prog X.w) hall hl h0 h15 (m8 (h Aq _ U _ _ I1 (q _ hn)) λws s2 zz=>?_);obtain⟨ps,H2,I2,rel,e,kvs,ep,lk,q2⟩:=zz;subst ep;obtain⟨rs,c,rk⟩:=E4 (P:=X.prog) (w:=X.w) rel;obtain⟨z,hd,vs0,r0,dd⟩:=A4 I2.hok e;cases r0;refine⟨rs,c,dd,λh' dd' hs=>⟨.ref s.heap.objs.size,_,?_,rfl,q2⟩⟩;have hz:(qS [] kvs).length<=sizeLine:=by have h1:=EK kvs [];rw[List.length_nil]at h1;rw[sizeLine_eq];lia
 have he:∃q,h'.get? s.heap.objs.size=some q:=let ⟨q,_,_,hq,_⟩:=dd';⟨q,hq⟩;exact Ch I2 (by rw[e];exact True.intro) hs he (FG hz hd (rk.merge .nil) dd')
structure M1 (X:Cx)(o:Expr)(m:Str)(Aw:Pos)(e:Expr)(Ax:Pos):Prop where
 base:attributeBase o m X.env (eval o X.env)=eval o X.env
 few:((backTo Ax (starEach [e] X.env)).all (λx=>!x.1)&&(backToKw Ax (keywordEach [] X.env)).all (λx=>x.1.isSome)
  && decide (([e]:List Expr).length+([]:List Keyword).length+(if ([]:List Keyword).isEmpty then 0 else 1)<30))=true
 line:(Aw.endLine == Ax.line)=true
 trees:backTo Ax (starEach [e] X.env)=[(false,eval e X.env)]
structure M2 (X:Cx)(o:Expr)(m:Str)(Aw:Pos)(e f:Expr)(Ax:Pos):Prop where
 base:attributeBase o m X.env (eval o X.env)=eval o X.env
 few:((backTo Ax (starEach [e,f] X.env)).all (λx=>!x.1)&&(backToKw Ax (keywordEach [] X.env)).all (λx=>x.1.isSome)
  && decide (([e,f]:List Expr).length+([]:List Keyword).length+(if ([]:List Keyword).isEmpty then 0 else 1)<30))=true
 line:(Aw.endLine == Ax.line)=true
 trees:backTo Ax (starEach [e,f] X.env)=[(false,eval e X.env),(false,eval f X.env)]
def DW (H:Hp)(a:AD):Prop:=(∃kvs,Rd H a (.dK kvs))\/∃kvs,Rd H a (.dT kvs)
def FD (I:mP X Aq U H s)(d:DW H a):
  s.TypeIs (.ref a) "dict"/\(∀b,Value.ref a=.ref b->∃ob,s.heap.get? b=some ob/\ob.dict=none)/\(a == sysModules)=false:=by
 rcases d with⟨kvs,e⟩|⟨kvs,e⟩
 .obtain⟨_,hd,vs,_,dd⟩:=wz I.hok e;refine⟨dd.typeIs,λb q=>?_,hd⟩;cases q;obtain⟨ob,_,_,h1,h2,_⟩:=dd;exact⟨ob,h1,h2.2.1⟩
 .obtain⟨_,hd,xs,_,dd⟩:=xn I.hok e;refine⟨dd.typeIs,λb q=>?_,hd⟩;cases q;obtain⟨ob,_,_,h1,h2,_⟩:=dd;exact⟨ob,h1,h2.2.1⟩
section
def Zqn (hu:A.units+1<cLine)(I:mP X Aq U H s)(g:iA H a y o)(ry:fZ y u)(h:∀w' s',mP X Aq U H s'->fZ (o.getD .non) w'->Q w' s'):
  wpAny (model X.prog X.w) A (call (.builtin "dict.get") [.ref a,u]) Q E s:=by
 rcases g with⟨kvs,k,e,ey,l⟩|⟨kvs,k,b,e,ey,eb,l⟩
 .subst ey;obtain⟨z,hd,vs,rel,dd⟩:=wz I.hok e;refine call_meetsIn xt dd.typeIs A6 (PySem.F.args_dict_get_2 _ _) (meets_dict_get (pI X.prog X.w) a (xk ry) hd) ⟨_,dd.mapOf,h _ _ (I.tok _) ?_⟩;rw[l];exact(rel.val k).getD rfl
 .subst ey;cases (show u=Value.ref b from ry);obtain⟨z,hd,xs,rel,dd⟩:=xn I.hok e;refine call_meetsIn xt dd.typeIs A6 (PySem.F.args_dict_get_2 _ _) (meetsH_dict_get (tupleKind (pI X.prog X.w)) a b hd) ⟨tupleKind_room_in1 hu,k,xs,wV I.hok eb,dd,h _ _ (I.tok _) ?_⟩;rw[l];exact(rel.val k).getD rfl
def Zqm (hu:A.units+1<cLine)(I:mP X Aq U H s)(g:iA H a y o)(ry:fZ y u)(rd:fZ d r)(h:∀w' s',mP X Aq U H s'->fZ (o.getD d) w'->Q w' s'):
  wpAny (model X.prog X.w) A (call (.builtin "dict.get") [.ref a,u,r]) Q E s:=by
 rcases g with⟨kvs,k,e,ey,l⟩|⟨kvs,k,b,e,ey,eb,l⟩
 .subst ey;obtain⟨z,hd,vs,rel,dd⟩:=wz I.hok e;refine call_meetsIn xt dd.typeIs A6 (PySem.F.args_dict_get_3 _ _ _) (meets_dict_get_default (pI X.prog X.w) a (xk ry) hd r) ⟨_,dd.mapOf,h _ _ (I.tok _) ?_⟩;rw[l];exact(rel.val k).getD rd
 .subst ey;cases (show u=Value.ref b from ry);obtain⟨z,hd,xs,rel,dd⟩:=xn I.hok e;refine call_meetsIn xt dd.typeIs A6 (PySem.F.args_dict_get_3 _ _ _) (meetsH_dict_get_default (tupleKind (pI X.prog X.w)) a b hd r) ⟨tupleKind_room_in1 hu,k,xs,wV I.hok eb,dd,h _ _ (I.tok _) ?_⟩;rw[l];exact(rel.val k).getD rd
end
def HJ (td ty:TE):TE:=λU H Q=>td U H λx H1=>∃a,x=.ref a/\DW H1 a/\ty U H1 λy H2=>∃o,iA H2 a y o/\Q (o.getD .non) H2
def GM (td ty tx:TE):TE:=λU H Q=>td U H λx H1=>∃a,x=.ref a/\DW H1 a/\ty U H1 λy H2=>tx U H2 λz H3=>∃o,iA H3 a y o/\Q (o.getD z) H3
section
def ZlG (hu:X.A.units+1<cLine) (ho:PE X o td) (he:PE X e ty) (m:M1 X o "get" Aw e Ax):PE X (.Call (.Attribute o "get" Aw) [e] [] Ax) (HJ td ty):=by intro Aq s U H Q I h;refine wpAny_Call_method m.base m.few m.line PySem.F.plainAttrs_dict xt PySem.F.type_dict_get (m8 (ho Aq s U H _ I h) λu s1 zz=>?_);obtain⟨x,H1,I1,rx,a,ex,d,q1⟩:=zz;subst ex;obtain rfl:u=Value.ref a:=rx;obtain⟨t1,t2,_⟩:=FD I1 d;refine⟨t1,t2,?_⟩;rw[m.trees];refine Cw rfl (Calls.evalArgs_plain (vJ (m8 (he Aq s1 U H1 _ I1 q1) λiv s2 ⟨y,H2,I2,ry,ov,g,q2⟩=>yr ?_)));exact Zqn hu I2 g ry λw' s3 I3 rw'=>⟨_,H2,I3,rw',q2⟩
def ZlF (hu:X.A.units+1<cLine) (ho:PE X o td) (he:PE X e ty) (hf:PE X f tx) (m:M2 X o "get" Aw e f Ax):PE X (.Call (.Attribute o "get" Aw) [e,f] [] Ax) (GM td ty tx):=by
 intro Aq s U H Q I h;refine wpAny_Call_method m.base m.few m.line PySem.F.plainAttrs_dict xt PySem.F.type_dict_get (m8 (ho Aq s U H _ I h) λu s1 zz=>?_);obtain⟨x,H1,I1,rx,a,ex,d,q1⟩:=zz;subst ex;obtain rfl:u=Value.ref a:=rx;obtain⟨t1,t2,_⟩:=FD I1 d;refine⟨t1,t2,?_⟩;rw[m.trees];refine Cw rfl (Calls.evalArgs_plain (vJ (m8 (he Aq s1 U H1 _ I1 q1) λiv s2 ⟨y,H2,I2,ry,q2⟩=>
  vJ (m8 (hf Aq s2 U H2 _ I2 q2) λfv s3 ⟨z,H3,I3,rz,ov,g,q3⟩=>yr ?_))))
 exact Zqm hu I3 g ry rz λw' s4 I4 rw'=>⟨_,H3,I4,rw',q3⟩
end
section
end
section
end
section
def Hf:rq X (.builtin "len") (λxs H Q=>∃a kvs,xs=[V.ref a]/\H a=some (.dK kvs)/\Q (.int kvs.length) H):=by intro Aq s U H xs us Q I r h;obtain⟨a,kvs,rfl,ha,q⟩:=h;obtain⟨u,rfl,ru⟩:=ju r;cases ru;exact Zr5 I (.inl ha) λt s' I'=>⟨.int kvs.length,H,I',⟨t,rfl⟩,q⟩
end
section
variable {κ:Type}[DecidableEq κ]
def Jc {kvs:List (κ×V)}{k:κ}{v:V}(h:gp kvs k=some v):k∈kvs.map (·.1):=by
 have q:(kvs.any λkv=>decide (kv.1=k))=true:=by rw[xI,h];all_goals rfl
 obtain⟨p,hp,e⟩:=vv.mp q;exact pK.mpr ⟨p,hp,JK e⟩
end
noncomputable def ig (cells:List (Str×AD)):List (Str×NameKind)->List (Str×AD)->List (Str×AD)
 | [],acc=>acc
 | (n,k)::r,acc=>if k == NameKind.free then ig cells r ((n,(cells.lookup n).getD 0)::acc) else ig cells r acc
theorem C8 {cells:List (Str×AD)}:∀(names:List (Str×NameKind)) (acc:List (Str×AD)) (p:Str×AD),p∈acc->p∈ig cells names acc
 | [],_,_,h=>h
 | (n,k)::r,acc,p,h=>by
  unfold ig;split
  .exact C8 r _ p (pP _ h)
  .exact C8 r acc p h
theorem EL {cells:List (Str×AD)}{x:Str}:∀(names:List (Str×NameKind)) (acc:List (Str×AD)),(x,NameKind.free)∈names->(x,(cells.lookup x).getD 0)∈ig cells names acc
 | [],_,h=>by cases h
 | (n,k)::r,acc,h=>by
  unfold ig;rcases ot.mp h with e | h
  .have e1:x=n:=JN Prod.fst e;have e2:NameKind.free=k:=JN Prod.snd e;subst e1 e2;exact C8 r _ _ pW
  .split
   .exact EL r _ h
   .exact EL r _ h
theorem Dz {cells:List (Str×AD)}:∀(names:List (Str×NameKind)) (acc:List (Str×AD)) (p:Str×AD),p∈ig cells names acc->p∈acc\/((p.1,NameKind.free)∈names/\p.2=(cells.lookup p.1).getD 0)
 | [],_,_,h=>.inl h
 | (n,k)::r,acc,p,h=>by
  unfold ig at h;split at h
  .rename_i hk
   have hk':k=NameKind.free:=by simpa using hk
   rcases Dz r _ p h with q | ⟨q,e⟩
   .rcases ot.mp q with q | q
    .subst q;subst hk';exact .inr ⟨pW,rfl⟩
    .exact .inl q
   .exact .inr ⟨pP _ q,e⟩
  .rcases Dz r _ p h with q | ⟨q,e⟩
   .exact .inl q
   .exact .inr ⟨pP _ q,e⟩
def GH (h:∀y∈sc.names,y.2=NameKind.free->∃c,env.cells.lookup y.1=some c):closureFor sc env=pure (ig env.cells sc.names []):=by
 have all:∀(names:List (Str×NameKind)) (acc:List (Str×AD)),(∀y∈names,y.2=NameKind.free->∃c,env.cells.lookup y.1=some c) ->
   (forIn names acc λ(y:Str×NameKind) (cs:List (Str×AD))=>(if (y.2 == NameKind.free)=true then (do let a <-cellOf env y.1;pure (ForInStep.yield ((y.1,a)::cs))) else pure (ForInStep.yield cs):Sem (ForInStep (List (Str×AD)))))=pure (ig env.cells names acc):=by
  intro names;induction names with
  | nil=>intro acc _;rfl
  | cons y r ih=>
   intro acc hy;obtain⟨n,k⟩:=y;rw[wI];unfold ig;by_cases hk:k=NameKind.free
   .subst hk;obtain⟨c,hc⟩:=hy (n,NameKind.free) pW rfl;have hc':env.cells.lookup n=some c:=hc;simp only[beq_self_eq_true,if_true,cellOf,hc',pure_bind,Option.getD_some];exact ih _ λz hz=>hy z (pP _ hz)
   .have hb:(k == NameKind.free)=false:=by simpa using hk
    simp only[hb,xY,if_false,pure_bind];exact ih _ λz hz=>hy z (pP _ hz)
 have q:=all sc.names [] h;unfold closureFor;show (forIn sc.names [] λ(y:Str×NameKind) (cs:List (Str×AD))=>_) >>= _=_
 first
  | (rw[q];rfl)
  | (refine Eq.trans (JN (λt=>t >>= λcs=>pure cs) q) ?_;rfl)
structure gT (X:Cx)(sc:Scope):Prop where
 kind:sc.kind=.function
 nocell:∀y∈sc.names,y.2≠NameKind.cell
 loc:∀y∈sc.names,y.2=NameKind.local->sc.names.lookup y.1=some .local
 clos:∀y∈sc.names,y.2=NameKind.free->(X.env.kindOf y.1=some .cell\/X.env.kindOf y.1=some .free)
noncomputable def pick (ix:List (Option Nat))(U:St):St:=ix.map λo=>o.bind λi=>(U[i]?).join
def ze (N M:AJ)(sc:Scope)(ix:List (Option Nat)):Bool:=
 ix.length == N.length&&(N.zip ix).all λp=>match p.2 with | none=>true | some i=>decide (M[i]?=some p.1)&&decide (sc.names.lookup p.1=some NameKind.free)
def bx (X:Cx)(sc:Scope)(N:AJ)(fp:List AD)(s_0:AE)(H:Hp)(pn:AA):Cx:=
 { X with N:=N,s_0:=s_0,H_0:=H,env:=compEnvC sc (ig X.env.cells sc.names []) s_0.heap.objs.size X.env,outer:=X.stack,stack:=X.stack,ex:=fp,fn:=λ_=>false,pn:=pn,xe:=λ_ _=>False }
def II (h:(relabel sc env).names.lookup x=some k):(x,k)∈sc.names\/(k=.cell/\(x,NameKind.free)∈sc.names):=by
 have m:=ww h;unfold relabel at m;obtain⟨⟨n,k'⟩,hm,e⟩:=pK.mp m;dsimp only at e;split at e
 .rename_i hc
  have e1:n=x:=JN Prod.fst e;have e2:NameKind.cell=k:=JN Prod.snd e;have e3:k'=NameKind.free:=by rw[oJ,oJ]at hc;simpa using hc.1.1
  subst e1 e2 e3;exact .inr ⟨rfl,hm⟩
 .have e1:n=x:=JN Prod.fst e;have e2:k'=k:=JN Prod.snd e;subst e1 e2;exact .inl hm
theorem E3 {env:Env}{x:Str}:∀ {names:List (Str×NameKind)},names.lookup x=some NameKind.free ->
  (names.map λ(n,k)=>if (k == NameKind.free&&env.scope.kind == .function&&env.kindOf n == some .cell) then (n,NameKind.cell) else (n,k)).lookup x=some .cell \/
  (names.map λ(n,k)=>if (k == NameKind.free&&env.scope.kind == .function&&env.kindOf n == some .cell) then (n,NameKind.cell) else (n,k)).lookup x=some .free
 | [],h=>by simp at h
 | (n,k)::r,h=>by
  by_cases hx:x=n
  .subst hx;simp only[uc,beq_self_eq_true]at h;cases h;simp only[pH];split
   .left;simp[uc]
   .right;simp[uc]
  .have hb:(x == n)=false:=by simpa using hx
   simp only[uc,hb]at h;have ih:=E3 (env:=env) h;simp only[pH];split
   .simpa only[uc,hb] using ih
   .simpa only[uc,hb] using ih
theorem ID {α:Type}{x:Str}{c:α}:∀ {l:List (Str×α)},(x,c)∈l->∃c',l.lookup x=some c'
 | [],h=>by cases h
 | (n,d)::r,h=>by
  by_cases hx:x=n
  .subst hx;exact⟨d,by simp[uc]⟩
  .have hb:(x == n)=false:=by simpa using hx
   rcases ot.mp h with e | h
   .exact JO (JN Prod.fst e) hx
   .obtain⟨c',e⟩:=ID h;exact⟨c',by simpa only[uc,hb] using e⟩
section
def mP.capt (I:mP X Aq U H s)(S:gT X sc):∀y∈sc.names,y.2=NameKind.free->∃c,X.env.cells.lookup y.1=some c:=λy hy e=>I.ok.has y.1 (S.clos y hy e)
def mP.clcell (I:mP X Aq U H s)(S:gT X sc){x:Str}{c:AD}(h:(ig X.env.cells sc.names []).lookup x=some c):X.env.cells.lookup x=some c:=by
 rcases Dz _ _ _ (ww h) with q | ⟨q,e⟩
 .cases q
 .obtain⟨c',hc⟩:=I.capt S _ q rfl;have hc':X.env.cells.lookup x=some c':=hc;have e':c=(X.env.cells.lookup x).getD 0:=e;rw[hc',Option.getD_some]at e';rw[e'];exact hc'
def mP.clhas (I:mP X Aq U H s)(S:gT X sc){x:Str}(h:(x,NameKind.free)∈sc.names):∃c,(ig X.env.cells sc.names []).lookup x=some c/\X.env.cells.lookup x=some c:=by obtain⟨c,e⟩:=ID (EL (cells:=X.env.cells) sc.names [] h);exact⟨c,e,I.clcell S e⟩
def mP.block (I:mP X Aq U H s)(S:gT X sc)(hix:ze N X.N sc ix=true)(hf:∀b∈fp,io X Aq H b/\b<s.heap.objs.size)
  (hk:∀b o,s.heap.get? b=some o->h1.get? b=some o) (hn:h1.Ns s.heap.objs.size m):
  mP (bx X sc N fp s H (X.pn++Aq)) [] (pick ix U) H { s with heap:=h1,toks:=tk }:=by
 have hC:∀b o,s.heap.get? b=some o->b≠s.heap.objs.size:=λb o e=>oO (nP e);have hcell:∀x c,(ig X.env.cells sc.names []).lookup x=some c->∃v,s.heap.IsCell c v:=λx c e=>I.cell x c (I.clcell S e);have stk:∀b,b≠X.env.locals->b∉X.fs->b∉pz X.stack:=λb h1 h2 hb=>by
  rcases ot.mp (I.stkSub b hb) with z | z
  .exact h1 z
  .exact h2 z
 rw[ze,oJ]at hix;refine⟨⟨I.ok.mod,S.kind,I.ok.glob,I.ok.blt,nD _,?_,?_,?_,I.ok.hd,I.ok.frames,.inl rfl,?_,I.bs,og I.ok.bsz I.sz,?_,?_,I.stack,I.stkFree⟩,
  rfl,I.bare,Un.kept hk,⟨m,hn,?_⟩,?_,I.fresh,?_,?_,I.hok.kept hk,?_⟩
 .intro x y c e1 e2;exact I.ok.inj x y c (I.clcell S e1) (I.clcell S e2)
 .intro x hx;have hx:(relabel sc X.env).names.lookup x=some .cell\/(relabel sc X.env).names.lookup x=some .free:=hx;have hm:(x,NameKind.free)∈sc.names:=by
   rcases hx with hx | hx
   .rcases II hx with q | ⟨_,q⟩
    .exact JO rfl (S.nocell _ q)
    .exact q
   .rcases II hx with q | ⟨q,_⟩
    .exact q
    .cases q
  obtain⟨c,e,_⟩:=I.clhas S hm;exact⟨c,e⟩
 .intro x c z;cases z
 .intro b hb;obtain⟨f,A1⟩:=hf b hb;refine⟨oO A1,λx c e=>f.2.2.2.2.1 x c (I.clcell S e)⟩
 .intro b o e hb;obtain⟨⟨_,_,_,f3,_⟩,_⟩:=hf b hb;rcases f3 with z | z
  .exact I.ok.noex b o e z
  .exact JO (nP e) (Nat.not_lt.mpr (og I.ok.bsz z))
 .intro b hb;obtain⟨⟨_,f1,f2,_⟩,_⟩:=hf b hb;exact stk b f1 f2
 .intro i x v e1 e2 e3;have e1:N[i]?=some x:=e1;have hi:∃j,ix[i]?=some (some j)/\U[j]?=some (some v):=by
   unfold pick at e2;rw[pA]at e2;cases q:ix[i]? with
   | none=>rw[q]at e2;cases e2
   | some o=>
    rw[q]at e2;cases o with
    | none=>cases e2
    | some j=>
     refine⟨j,rfl,?_⟩;have e4:(U[j]?).join=some v:=Option.some.inj e2;cases q2:U[j]? with
     | none=>rw[q2]at e4;cases e4
     | some w=>rw[q2]at e4;cases w with
      | none=>cases e4
      | some w=>rw[<-e4];rfl
  obtain⟨j,hj,hU⟩:=hi;have hz:(x,some j)∈N.zip ix:=by
   have q:(N.zip ix)[i]?=some (x,some j):=by rw[List.getElem?_zip_eq_some];exact⟨e1,hj⟩
   exact qA q
  have hp:=sE.mp hix.2 _ hz;dsimp only at hp;rw[oJ]at hp;have hM:X.N[j]?=some x:=JK hp.1;have hfr:sc.names.lookup x=some NameKind.free:=JK hp.2;have hmem:=ww hfr;obtain⟨mo,hno,hlo⟩:=I.loc;have hvis:yg X.env.scope x:=by
   rcases S.clos _ hmem rfl with z | z
   .exact .inr (.inl z)
   .exact .inr (.inr z)
  obtain⟨u,ru,l⟩:=hlo j x v hM hU hvis;refine⟨u,ru,.inr ⟨?_,?_⟩⟩
  .exact E3 (env:=X.env) hfr
  .obtain⟨c,e,e'⟩:=I.clhas S hmem;refine⟨c,e,?_⟩;rcases l with⟨k,_⟩|⟨_,c',ec,z⟩
   .rcases S.clos _ hmem rfl with q | q
    .rw[k]at q;cases q
    .rw[k]at q;cases q
   .rw[e']at ec;cases ec;obtain⟨o,ho,hd⟩:=z;exact⟨o,hk _ _ ho,hd⟩
 .intro x c e;obtain⟨v,o,ho,hd⟩:=hcell x c e;exact⟨v,o,hk _ _ ho,hd⟩
 .intro x c e;exact I.freeC x c (I.clcell S e)
 .intro p hp;have hp:p∈X.pn++Aq:=by
   rcases oV.mp hp with z | z
   .exact z
   .cases z
  obtain⟨e,n,ne,nf,d⟩:=I.pin p hp;exact⟨hk _ _ e,n,hC _ _ e,stk p.1 ne nf,d⟩
 .show (pick ix U).length=N.length;unfold pick;rw[m6];simpa using hix.1
def mP.unblock (I:mP X Aq U H s)(hf:∀b∈fp,io X Aq H b)(J:mP (bx X sc N fp s H (X.pn++Aq)) [] τ H' s')(hs:Heap.SameBut s.heap.objs.size s'.heap h'):
  mP X Aq U H' { s' with heap:=h' }:=by
 have nC:∀b o,s.heap.get? b=some o->b≠s.heap.objs.size:=λb o e=>oO (nP e);have hfr:H' s.heap.objs.size=none:=J.free;have u:Un (pz X.stack) fp H H' s.heap s'.heap:=J.base;have ok:o7 X.prog X.w H' h':=λb ob e=>by
  refine(J.hok b ob e).stay (λc w' hc q=>(hs.2 c ?_).trans q) (λ_ q=>q) λ_ _ q=>q;rintro rfl;rcases hc with rfl | hc
  .rw[hfr]at e;cases e
  .rw[hfr]at hc;cases hc
 refine I.call' (ch:=fp) J.os ⟨λb o e n h1 h2=>(hs.2 b (nC b o e)).trans (u.keep b o e n h1 h2),λb o e n h1 h2=>?_,u.free,λb o e h2=>?_,u.tups,u.frzs,u.tbls⟩ ok J.bare λb hb=>?_
 .obtain⟨sl,q⟩:=u.slot b o e n h1 h2;exact⟨sl,(hs.2 b (nC b o e)).trans q⟩
 .obtain⟨o',q⟩:=u.there b o e h2;exact⟨o',(hs.2 b (nC b o e)).trans q⟩
 .obtain⟨_,f1,_,f3,f4,f5⟩:=hf b hb;exact⟨f3,f1,f4,f5⟩
end
def jD (X:Cx)(ifs:List Expr)(t:TT):Prop:=
 ∀(Aq:AA) (s:AE) (U:St) (H:Hp) (Q:Bool->Hp->Prop),mP X Aq U H s->t U H Q ->
  wpAny (model X.prog X.w) X.A (forIn ifs true λc r=>if r=true then do let ok <-isTrue c X.env (eval c X.env);pure (ForInStep.yield ok) else pure (ForInStep.yield r)) (TP X Aq U Q) X.xe s
def km:TT:=λ_ H Q=>Q true H
def wj:jD X [] km:=λ_ _ _ H _ I h=>wpAny_tests_nil ⟨H,I,h⟩
def xm (h:PT X c t):jD X [c] t:=λAq s U H Q I q=>wpAny_tests_one (h Aq s U H Q I q)
theorem ZgU (W:Nat->AE->Prop)
  (turn:∀n s,W n s->wpAny (model prog w) A (pyNext it) (λr s_1=>match r with
   | none=>R (.ok .next) s_1
   | some v=>wpAny (model prog w) A (letOwnedTupleGo tgt it v) (λ_ s1_'=>wpAny (model prog w) A (assign tgt env v) (λ_ s_2=>
     wpAny (model prog w) A (forIn ifs true λc r=>if r=true then do let ok <-isTrue c env (eval c env);pure (ForInStep.yield ok) else pure (ForInStep.yield r)) (λok s₃=>
      if ok=true then wpAny (model prog w) A (eval el env) (λx s₄=>
       wpAny (model prog w) A (call (.builtin "list.append") [acc,x]) (λ_ s₅=>∃m,m<n/\W m s₅) (λ_ _=>False) s₄) (λ_ _=>False) s₃
      else ∃m,m<n/\W m s₃) (λ_ _=>False) s_2) (λ_ _=>False) s1_') (λ_ _=>False) s_1) (λ_ _=>False) s)
  (n:Nat) (h:W n s):codeAny (model prog w) A (.compLoop (.ListComp el [⟨tgt,iter,ifs,0⟩] scp pos) 0 it acc env) R s:=by
 refine codeAny_loop rfl W (λn s hI=>?_) n h;show wpAny _ A ((compTurn (.ListComp el [⟨tgt,iter,ifs,0⟩] scp pos) 0 it acc env).onRaise (λx=>do noteFrame x env;theTreesLotGoes x)) _ _ s;refine wpAny_noted ?_;rw[compTurn_list];refine mO (wB (mO (qF (turn n s hI) (λr s1 q1=>?_) λ_ _ z=>z.elim)));cases r with
 | none=>exact mW q1
 | some v=>
  refine mO (qF q1 (λ_ s1' q1'=>?_) λ_ _ z=>z.elim);refine mO (qF q1' (λ_ s2 q2=>mO (qF q2 (λok s3 q3=>?_) λ_ _ z=>z.elim)) λ_ _ z=>z.elim);cases ok with
  | false=>exact mW ⟨rfl,q3⟩
  | true=>exact mO (mO (qF q3 (λx s4 q4=>mO (qF q4 (λ_ s5 q5=>mW (mW ⟨rfl,q5⟩)) λ_ _ z=>z.elim)) λ_ _ z=>z.elim))
def CA (ix:List (Option Nat))(wi:TI)(g:TG)(tt:TT)(te:TE):TE:=λU H Q=>wi U H λJ H1=>∀acc,H1 acc=none->∃W:Nat->Nat->St->Hp->Prop,(∃m,W 0 m (pick ix U) (upd H1 acc (.lst []))) /\
 ∀i m τ H2,W i m τ H2->(J.stop i H2/\Q (.ref acc) H2)\/(J.go i H2/\∃Nx:St->Hp->Prop,(∀τ' H',Nx τ' H'->∃m',m'<m/\W (i+1) m' τ' H') /\
  ∀x H3,J.yld i H2 x H3->g x τ H3 λτ2 H4=>tt τ2 H4 λb H5=>if b=true then te τ2 H5 λy H6=>∃ys,H6 acc=some (.lst ys)/\ys.length<sizeLine/\Nx τ2 (upd H6 acc (.lst (ys++[y]))) else Nx τ2 H5)
section
def HV {Q:VK}{Aq:AA}{s:AE}{U:St}{H:Hp}{it:AD}{fp:List AD}{tn:Nat->Heap->Prop}{J:It}{RR:Value->AD->Result->AE->Prop}
  (hc:X.calm=true) (S:gT X sc) (hix:ze N X.N sc ix=true)
  (hg:∀fp s_0 H_0 pn,PG (bx X sc N fp s_0 H_0 pn) tg g) (ht:∀fp s_0 H_0 pn,jD (bx X sc N fp s_0 H_0 pn) ifs tt) (he:∀fp s_0 H_0 pn,PE (bx X sc N fp s_0 H_0 pn) elt te)
  (I:mP X Aq U H s) (T:i8 X.prog X.w X.K tg J fp it tn) (st:tn 0 s.heap) (hf:∀b∈fp,io X Aq H b)
  (q:∀acc,H acc=none->∃W:Nat->Nat->St->Hp->Prop,(∃m,W 0 m (pick ix U) (upd H acc (.lst []))) /\
   ∀i m τ H2,W i m τ H2->(J.stop i H2/\Q (.ref acc) H2)\/(J.go i H2/\∃Nx:St->Hp->Prop,(∀τ' H',Nx τ' H'->∃m',m'<m/\W (i+1) m' τ' H') /\
    ∀x H3,J.yld i H2 x H3->g x τ H3 λτ2 H4=>tt τ2 H4 λb H5=>if b=true then te τ2 H5 λy H6=>∃ys,H6 acc=some (.lst ys)/\ys.length<sizeLine/\Nx τ2 (upd H6 acc (.lst (ys++[y]))) else Nx τ2 H5))
  (hR:∀(acc:AD) (s₃ s':AE) (τ:St) (H':Hp),mP X Aq U (upd H acc (.lst [])) s₃->(∀b∈fp,io X Aq (upd H acc (.lst [])) b)->mP (bx X sc N fp s₃ (upd H acc (.lst [])) (X.pn++Aq)) [] τ H' s'->Q (.ref acc) H' ->
   RR (.ref acc) s₃.heap.objs.size (.ok .next) s'):
  wpAny (model X.prog X.w) X.A (newList []) (λacc s₃=>wpAny (model X.prog X.w) X.A (newFunctionEnv sc X.env.globals (ig X.env.cells sc.names []) [] X.env.qual none .none (some X.env)) (λcenv s₄=>
   codeAny (model X.prog X.w) X.A (.compStart (.ListComp elt [⟨tg,iter,ifs,0⟩] sc pos) 0 (.ref it) acc { cenv with scope:=relabel sc X.env }) (RR acc cenv.locals) s₄) X.xe s₃) X.xe s:=by
 refine uP ?_;have hfr:=I.fresh;have I3:=I.lnew (its:=[]) (ys:=[]) (t':=s.toks) .nil (pE _);have fne:∀b∈fp,b<s.heap.objs.size:=λb hb=>by obtain⟨o,e,_⟩:=T.obj 0 _ st b hb;exact nP e
 have hf3:∀b∈fp,io X Aq (upd H s.heap.objs.size (.lst [])) b:=λb hb=>by obtain⟨f0,f⟩:=hf b hb;refine⟨?_,f⟩;rw[mT (oO (fne b hb))];exact f0
 have q3:=q _ hfr;have st3:tn 0 (s.heap.push { cls:=.type "list",data:=.seq ([]:AC).toArray }):=T.keep _ _ _ st λb _ o e=>nG _ e;generalize e3:({ s with heap:=s.heap.push { cls:=.type "list",data:=.seq ([]:AC).toArray },toks:=s.toks }:AE)=s3 at I3;have es3:s3.heap=s.heap.push { cls:=.type "list",data:=.seq ([]:AC).toArray }:=by rw[<-e3]
 rw[<-es3]at st3;have hf3':∀b∈fp,io X Aq (upd H s.heap.objs.size (.lst [])) b/\b<s3.heap.objs.size:=λb hb=>⟨hf3 b hb,by rw[es3,rO];exact wN (fne b hb)⟩;refine wpAny_newFunctionEnv S.nocell (by intro y hy;cases hy) (λh9 hns1 hsb1=>?_) S.kind;have hk:∀b o,s3.heap.get? b=some o->h9.get? b=some o:=λb o e=>hsb1.extBut b o (oO (nP e)) (nG _ e);have I4:=I3.block (N:=N) (ix:=ix) (tk:=s3.toks+([]:List (Str×Value)).length) S hix hf3' hk hns1;have st4:tn 0 h9:=T.keep _ _ _ st3 λb _ o e=>hk b o e;obtain⟨W,⟨m0,w0⟩,turn⟩:=q3;have statN:∀ {H':Hp},(∀b∈fp,H' b=none)->∀b∈fp,io (bx X sc N fp s3 (upd H s.heap.objs.size (.lst [])) (X.pn++Aq)) [] H' b:=λ{H'} hn b hb=>by
  obtain⟨⟨_,f1,f2,f3,f4,f5⟩,A1⟩:=hf3' b hb;refine⟨hn b hb,oO A1,λz=>?_,.inl hb,λx c e=>f4 x c (I3.clcell S e),λp hp=>?_⟩
  .rcases ot.mp (I3.stkSub b z) with z | z
   .exact f1 z
   .exact f2 z
  .refine f5 p ?_;rcases oV.mp hp with z | z
   .exact z
   .cases z
 have loop:∀s4:AE,s4={ s3 with heap:=h9,toks:=s3.toks+([]:List (Str×Value)).length } ->
   codeAny (model X.prog X.w) X.A (.compLoop (.ListComp elt [⟨tg,iter,ifs,0⟩] sc pos) 0 (.ref it) (.ref s.heap.objs.size) (compEnvC sc (ig X.env.cells sc.names []) s3.heap.objs.size X.env)) (RR (.ref s.heap.objs.size) s3.heap.objs.size) s4:=by
  rintro s4 rfl;refine ZgU (λn s'=>∃i τ H',mP (bx X sc N fp s3 (upd H s.heap.objs.size (.lst [])) (X.pn++Aq)) [] τ H' s'/\tn i s'.heap/\(∀b∈fp,H' b=none)/\W i n τ H') ?_ m0 ⟨0,_,_,I4,st4,λb hb=>(hf3 b hb).1,w0⟩;rintro n s5 ⟨i,τ,H5,I5,st5,fr5,w5⟩;rcases turn i n τ H5 w5 with⟨stop,qn⟩|⟨go,Nx,hN,step⟩
  .refine m8 (T.done (bx X sc N fp s3 (upd H s.heap.objs.size (.lst [])) (X.pn++Aq)) rfl rfl rfl hc i [] s5 τ H5 (λ_ _=>False) I5 (statN fr5) st5 stop) λr s6 zz=>?_;obtain⟨hr,I6⟩:=zz;subst hr;exact hR _ _ _ _ _ I3 hf3 I6 qn
  .refine m8 (T.item (bx X sc N fp s3 (upd H s.heap.objs.size (.lst [])) (X.pn++Aq)) rfl rfl rfl hc i [] s5 τ H5 (λ_ _=>False) I5 (statN fr5) st5 go) λr s6 zz=>?_;obtain⟨u,hr,h6⟩:=zz;subst hr;refine m8 h6 λ_ s7 zz=>?_;obtain⟨x,H7,I7,r7,y7,st7,fr7⟩:=zz;have I7':=I7.pinned (statN fr7) (T.obj _ _ st7);refine m8 (hg _ _ _ _ _ s7 τ H7 x u _ I7' r7 (step x H7 y7)) λ_ s8 zz=>?_;obtain⟨τ8,H8,I8,q8⟩:=zz;have again:∀ {s9:AE} {τ9:St} {H9:Hp},mP (bx X sc N fp s3 (upd H s.heap.objs.size (.lst [])) (X.pn++Aq)) ([]++zd fp s7.heap) τ9 H9 s9->Nx τ9 H9 ->
     ∃m,m<n/\∃i τ H',mP (bx X sc N fp s3 (upd H s.heap.objs.size (.lst [])) (X.pn++Aq)) [] τ H' s9/\tn i s9.heap/\(∀b∈fp,H' b=none)/\W i m τ H':=λ{s9 τ9 H9} I9 n9=>by
    obtain⟨m',hm,w9⟩:=hN τ9 H9 n9;refine⟨m',hm,i+1,τ9,H9,I9.unpinned,T.keep _ _ _ st7 λb hb o e=>(I9.pin (b,o) (tI _ (tI _ (BR hb e)))).1,λb hb=>?_,w9⟩;obtain⟨o,e,d⟩:=T.obj _ _ st7 b hb;exact(I9.pin (b,o) (tI _ (tI _ (BR hb e)))).2.1
   refine m8 (ht _ _ _ _ _ s8 τ8 H8 _ I8 q8) λok s9 zz=>?_;obtain⟨H9,I9,q9⟩:=zz;cases ok with
   | false=>exact again I9 q9
   | true=>
    rw[mS rfl]at q9 ⊢;refine m8 (he _ _ _ _ _ s9 τ8 H9 _ I9 q9) λyv s10 zz=>?_;obtain⟨y,H10,I10,r10,ys,ha,hz,q10⟩:=zz;refine m8 (uC _ s10 τ8 H10 (.ref s.heap.objs.size) [y] (.ref s.heap.objs.size) [yv] (λv H'=>v=.non/\Nx τ8 H') I10 rfl (.cons r10 .nil) ⟨_,ys,y,rfl,rfl,ha,hz,rfl,q10⟩) λ_ s11 zz=>?_;obtain⟨_,H11,I11,_,_,q11⟩:=zz;exact again I11 q11
 exact codeAny_compStart_list (loop _ rfl) (T.self _ 0 _ _ _ st4 (loop _ rfl))
def tG (hc:X.calm=true)(S:gT X sc)(hix:ze N X.N sc ix=true)(hi:PI X tg iter wi)
  (hg:∀fp s_0 H_0 pn,PG (bx X sc N fp s_0 H_0 pn) tg g) (ht:∀fp s_0 H_0 pn,jD (bx X sc N fp s_0 H_0 pn) ifs tt) (he:∀fp s_0 H_0 pn,PE (bx X sc N fp s_0 H_0 pn) elt te)
  (hs:∀x,foldedSetIterable iter X.env x=pure x:=by intro _;rfl):PE X (.ListComp elt [⟨tg,iter,ifs,0⟩] sc pos) (CA ix wi g tt te):=by
 intro Aq s U H Q I h;rw[eval_ListComp];refine wpAny_comprehension_free (use:=none) rfl hs (GH (I.capt S)) S.kind S.loc (m8 (hi Aq s U H _ I h) λv s1 h1=>m8 h1 λitv s2 h2=>?_);obtain⟨it,fp,tn,J,H2,e,I2,T,st2,f2,q⟩:=h2;subst e;refine HV (Q:=Q) (RR:=λacc C=>compPost (model X.prog X.w) X.A X.xe none (EP X Aq U Q) acc C) hc S hix hg ht he I2 T st2 f2 q ?_;intro acc s3 s' τ H' I3 hf3 J' qq;obtain⟨m,hn,_⟩:=J'.loc;exact⟨m,hn,λh' hs'=>⟨.ref acc,H',I3.unblock hf3 J' hs',rfl,qq⟩⟩
def Do (hsw:swapsWith (.ListComp elt [⟨tg,iter,ifs,0⟩] sc pos) (some (.Name x px)) spos.line X.env=pure true)
  (hN:X.N.Nodup) (hi':X.N[i]?=some x) (hx:X.env.scope.names.lookup x=some .local) (hc:X.calm=true) (S:gT X sc) (hix:ze N X.N sc ix=true) (hi:PI X tg iter wi)
  (hg:∀fp s_0 H_0 pn,PG (bx X sc N fp s_0 H_0 pn) tg g) (ht:∀fp s_0 H_0 pn,jD (bx X sc N fp s_0 H_0 pn) ifs tt) (he:∀fp s_0 H_0 pn,PE (bx X sc N fp s_0 H_0 pn) elt te)
  (hs:∀x,foldedSetIterable iter X.env x=pure x:=by intro _;rfl):PS X (.Assign [.Name x px] (.ListComp elt [⟨tg,iter,ifs,0⟩] sc pos) spos) (jN (CA ix wi g tt te) (sO i)):=by
 intro Aq s U H D I h;rw[exec_Assign_Name_used _ _ _ _ hsw];refine mO (wB (mO ?_));show wpAny _ X.A (do let _ <-comprehension (.ListComp elt [⟨tg,iter,ifs,0⟩] sc pos) sc X.env _ (newList []) false (eval iter X.env) (some (assign (.Name x px) X.env))) _ _ s;refine mO (qF (wpAny_comprehension_free (use:=some (assign (.Name x px) X.env)) (Q:=λ_ s'=>SP X Aq D .next s') rfl hs (GH (I.capt S)) S.kind S.loc
  (m8 (hi Aq s U H _ I h) λv s1 h1=>m8 h1 λitv s2 h2=>?_)) (λ_ s' hq=>mW (mW hq)) λ_ _ z=>z)
 obtain⟨it,fp,tn,J,H2,e,I2,T,st2,f2,q⟩:=h2;subst e;refine HV (Q:=λy H1=>sO i y U H1 D.nx) (RR:=λacc C=>compPost (model X.prog X.w) X.A X.xe (some (assign (.Name x px) X.env)) (λ_ s'=>SP X Aq D .next s') acc C) hc S hix hg ht he I2 T st2 f2 q ?_;intro acc s3 s' τ H' I3 hf3 J' qq;show wpAny _ X.A (assign (.Name x px) X.env (.ref acc)) _ _ _;have I5:mP X Aq U H' s':=I3.unblock hf3 J' (.refl ..);obtain⟨m,hn,_⟩:=J'.loc;have hn:s'.heap.Ns s3.heap.objs.size m:=hn;have hLC:s3.heap.objs.size≠X.env.locals:=Nat.ne_of_gt I3.lt;refine wpAny_assign_Name (G8 I5 hN hi' (.inl hx) (v:=.ref acc) rfl (λs6 I6 ⟨a,sb,ha⟩=>?_) (.inr hx));have ea:a≠s3.heap.objs.size:=by
  rcases ha with ha | ha
  .rw[ha];exact nX hLC
  .obtain⟨v,o,ho,_⟩:=I3.cell x a ha;exact oO (nP ho)
 refine⟨m,hn.sameBut sb (nX ea),λh' hs'=>?_⟩;have hfr:H' s3.heap.objs.size=none:=J'.free;refine⟨_,H',?_,qq⟩;have ok:o7 X.prog X.w H' h':=λb ob e=>by
  refine(I6.hok b ob e).stay (λc w' hc q=>(hs'.2 c ?_).trans q) (λ_ q=>q) λ_ _ q=>q;rintro rfl;rcases hc with rfl | hc
  .rw[hfr]at e;cases e
  .rw[hfr]at hc;cases hc
 have l3:X.s_0.heap.objs.size<=s3.heap.objs.size:=I3.sz;have cne:∀y c,X.env.cells.lookup y=some c->c≠s3.heap.objs.size:=λy c e z=>by obtain⟨v,o,ho,_⟩:=I3.cell y c e;exact JO (nP ho) (by rw[z];exact qC _)
 exact I6.turned (t':=s6.toks) (it:=s3.heap.objs.size) (λb o hb e=>(hs'.2 b hb).trans e) hfr hLC (.inr l3) cne λp hp z=>by have:=(I3.pin p hp).1;exact JO (nP this) (by rw[z];exact qC _)
end
noncomputable abbrev tx (l:mN):V:=.str ⟨l.toArray⟩
def yZ:tx a=tx b↔a=b:=by
 constructor
 .intro h;have h1:(⟨a.toArray⟩:Str)=⟨b.toArray⟩:=V.str.inj h;have h2:a.toArray=b.toArray:=JN Str.cps h1;simpa using h2
 .rintro rfl;rfl
def u4:decide (tx a=tx b)=decide (a=b):=by
 by_cases h:a=b
 .subst h;simp
 .rw[JJ h,JJ λz=>h (yZ.mp z)]
def su (l:mN):(⟨l.toArray⟩:Str).length=l.length:=by show l.toArray.size=l.length;simp
def FE (x y:V)(p:mN->mN->Prop):Prop:=match x,y with | .str a,.str b=>p a.cps.toList b.cps.toList | _,_=>False
def Zp5 (h:FE x y p):∃a b,x=tx a/\y=tx b/\p a b:=by cases x<;>first | exact False.elim h | (cases y<;>first | exact⟨_,_,rfl,rfl,h⟩ | exact False.elim h)
def rT (C:mN->mN->Prop)(g:mN->mN->V):R2:=λx y H Q=>FE x y λa b=>C a b/\Q (g a b) H
def oR {α:Type}(l:List α)(lo hi:Option Int):List α:=(l.drop (HT.sIx l.length 0 lo)).take (HT.sIx l.length l.length hi-HT.sIx l.length 0 lo)
def xz (l:List α)(lo hi:Option Int):(oR l lo hi).length<=l.length:=by
 unfold oR;rw[ou,pO]
 lia
def x6 (l:List α)(a b:Nat):oR l (some (a:Int)) (some (b:Int))=(l.drop a).take (b-a):=by
 unfold oR;rw[HT.sIx_nat,HT.sIx_nat];apply ul;intro i;simp only[uZ,tU];by_cases h1:i<min b l.length-min a l.length
 .rw[mS h1,mS ∅];congr 1;lia
 .rw[mR h1];by_cases h2:i<b-a
  .rw[mS h2,qN ∅]
  .rw[mR h2]
def vH (l:List α)(b:Nat):oR l none (some (b:Int))=l.take b:=by
 unfold oR;rw[HT.sIx_nat,HT.sIx_none];apply ul;intro i;simp only[uZ,tU,wp,Nat.sub_zero];by_cases h1:i<min b l.length
 .rw[mS h1,mS ∅]
 .rw[mR h1];by_cases h2:i<b
  .rw[mS h2,qN ∅]
  .rw[mR h2]
def z9 (l:List α)(a:Nat):oR l (some (a:Int)) none=l.drop a:=by
 unfold oR;rw[HT.sIx_nat,HT.sIx_none];apply ul;intro i;simp only[uZ,tU];by_cases h1:i<l.length-min a l.length
 .rw[mS h1];congr 1;lia
 .rw[mR h1,qN ∅]
noncomputable def Bc (n:Nat)(v:Option Int)(d:Int):Int:=match v with
 | none=>d
 | some i=>max 0 (min (if i<0 then i+(n:Int) else i) (n:Int))
def Fy (n d:Nat)(o:Option Int):Bc n o (d:Int)=((HT.sIx n d o:Nat):Int):=by
 cases o with
 | none=>rw[HT.sIx_none];rfl
 | some v=>
  have:=HT.clip_eq v n d;unfold Bc;dsimp only;rw[<-this];split<;>lia
def ZjA (lo hi:Option Int)(n:Nat):Builtin.Str.strSliceIndices lo hi 1 n=(List.range (HT.sIx n n hi-HT.sIx n 0 lo)).map λk=>HT.sIx n 0 lo+k:=by
 have g:Builtin.Str.strSliceIndices lo hi 1 n=sliceRange (Bc n lo ((0:Nat):Int)) (Bc n hi (n:Int)) 1:=by cases lo<;>cases hi<;>rfl
 rw[g,Fy,Fy];generalize HT.sIx n 0 lo=a;generalize HT.sIx n n hi=b;unfold sliceRange;have hc:(if (1:Int)>0 then (if (a:Int)<(b:Int) then ((b:Int)-a+1-1)/1 else 0) else (if (a:Int)>(b:Int) then ((a:Int)-b-1-1)/(-1) else 0)).toNat=b-a:=by simp only[show (1:Int)>0 by decide,if_true,Int.ediv_one];split<;>lia
 dsimp only;rw[hc];apply t7;intro k _
 lia
def Zlh (l:mN)(lo hi:Option Int):Txt.slice ⟨l.toArray⟩ lo hi=⟨(oR l lo hi).toArray⟩:=by
 have h1:=HT.sIx_le l.length 0 (pE _) lo;have h2:=HT.sIx_le l.length l.length (nD _) hi;unfold Txt.slice;rw[su,ZjA];have e:((List.range (HT.sIx l.length l.length hi-HT.sIx l.length 0 lo)).map λk=>HT.sIx l.length 0 lo+k).filterMap (λi=>l.toArray[i]?)=oR l lo hi:=by
  unfold oR;generalize HT.sIx l.length 0 lo=a at *;generalize HT.sIx l.length l.length hi=b at *;have hab:∀n,a+n<=l.length->((List.range n).map λk=>a+k).filterMap (λi=>l.toArray[i]?)=(l.drop a).take n:=by
   intro n;induction n with
   | zero=>intro _;simp
   | succ n ih=>
    intro hn;rw[uH,tD,List.filterMap_append,ih ∅,List.take_add_one];have:(l.drop a)[n]?=l[a+n]?:=tU;simp[this,om (show a+n<l.length by lia)]
  by_cases hle:a<=b
  .exact hab _ ∅
  .have:b-a=0:=by lia
   rw[this];simp
 split
 .rename_i hc
  simp only[beq_self_eq_true,sS,m6,rm]at hc;have hc':HT.sIx l.length l.length hi-HT.sIx l.length 0 lo=l.length:=by simpa using hc
  have:oR l lo hi=l:=by
   unfold oR;have ha:HT.sIx l.length 0 lo=0:=by lia
   rw[hc',ha,sG,sA (nD _)]
  rw[this]
 .show (⟨(List.filterMap (λi=>l.toArray[i]?) _).toArray⟩:Str)=_;rw[e]
section
def sC:oZ X (binaryOp .Add) (rT (λa b=>a.length+b.length<=sizeLine) λa b=>tx (a++b)):=by
 rintro Aq s U H x y v u Q I rx ry h;obtain⟨a,b,rfl,rfl,hz,q⟩:=Zp5 h;refine ZiS Aq s U H _ _ v u Q I rx ry ⟨_,_,rfl,rfl,by rw[su,su];exact hz,?_⟩;have e:((⟨a.toArray⟩:Str)++(⟨b.toArray⟩:Str))=⟨(a++b).toArray⟩:=by show (⟨a.toArray++b.toArray⟩:Str)=_;simp
 rw[e];exact q
def ZiQ:oZ X (compareOp .In) (λx y H Q=>∃c l,x=tx [c]/\y=tx l/\Q (.bl (decide (c∈l))) H):=by
 rintro Aq s U H x y v u Q I rx ry ⟨c,l,rfl,rfl,q⟩;refine Iu Aq s U H _ _ v u Q I rx ry ⟨_,_,rfl,rfl,?_⟩;have e:=StrLaws.found_one ⟨l.toArray⟩ c;have e':(!(Builtin.Str.occurrences ⟨l.toArray⟩ ⟨[c].toArray⟩ 0 (⟨l.toArray⟩:Str).length 1).isEmpty)=decide (c∈l):=by rw[show ([c].toArray)=#[c] from rfl,e]
 rw[e'];exact q
def Zfv:oZ X (compareOp .NotIn) (λx y H Q=>∃c l,x=tx [c]/\y=tx l/\Q (.bl (!decide (c∈l))) H):=by
 rintro Aq s U H x y v u Q I rx ry ⟨c,l,rfl,rfl,q⟩;refine HE Aq s U H _ _ v u Q I rx ry ⟨_,_,rfl,rfl,?_⟩;have e:=StrLaws.found_one ⟨l.toArray⟩ c;have e':(!(Builtin.Str.occurrences ⟨l.toArray⟩ ⟨[c].toArray⟩ 0 (⟨l.toArray⟩:Str).length 1).isEmpty)=decide (c∈l):=by rw[show ([c].toArray)=#[c] from rfl,e]
 rw[e'];exact q
def sR:wY X (λx y H Q=>∃l i c,x=tx l/\y=.int i/\l.length<=sizeLine/\qh l i=some c/\Q (tx [c]) H):=by rintro value slice Aq s U H x y v u Q I rx ry ⟨l,i,c,rfl,rfl,hz,h,q⟩ hs;exact ZpY value slice Aq s U H _ _ v u Q I rx ry ⟨_,i,c,rfl,rfl,by rw[su];exact hz,h,q⟩ hs
def pQ:BG X (λx lo hi H Q=>∃l,x=tx l/\l.length<=sizeLine/\Q (tx (oR l lo hi)) H):=by
 rintro Aq s U H x v vl vu lo hi sl Q I rx hs pl pu ⟨l,rfl,hz,q⟩;obtain⟨t,rfl⟩:=rx;refine⟨"str",_,F.slot_str_getitem.lookup,typeIs_str _ _ _,?_⟩;have part:∀ {v:Value} {o:Option Int},IsPart v o->∃p:Option (Int×Tok),v=partValue p/\p.map (·.1)=o:=λ{v o} h=>by
  cases h with
  | none=>exact⟨none,rfl,rfl⟩
  | int i t=>exact⟨some (i,t),rfl,rfl⟩
 obtain⟨a,rfl,ea⟩:=part pl;obtain⟨b,rfl,eb⟩:=part pu;refine wpAny_getItem_str_slice (l:=a) (u:=b) (st:=none) hs rfl ?_;have e:(if ((1:Int) == 1&&(Builtin.Str.strSliceIndices lo hi 1 (⟨l.toArray⟩:Str).length).length == (⟨l.toArray⟩:Str).length)=true then (⟨l.toArray⟩:Str) else ⟨((Builtin.Str.strSliceIndices lo hi 1 (⟨l.toArray⟩:Str).length).filterMap ((⟨l.toArray⟩:Str).cps[·]?)).toArray⟩)=⟨(oR l lo hi).toArray⟩:=Zlh l lo hi;unfold sliceMade slicePicked;rw[ea,eb];refine post_val_or_str ?_;refine⟨?_,λt' k=>?_⟩
 .show (if ((1:Int) == 1&&(Builtin.Str.strSliceIndices lo hi 1 (⟨l.toArray⟩:Str).length).length == (⟨l.toArray⟩:Str).length)=true then (⟨l.toArray⟩:Str) else ⟨((Builtin.Str.strSliceIndices lo hi 1 (⟨l.toArray⟩:Str).length).filterMap ((⟨l.toArray⟩:Str).cps[·]?)).toArray⟩).length<=sizeLine;rw[e,su];exact og (xz _ _ _) hz
 .refine⟨tx (oR l lo hi),H,I.tok _,⟨t',?_⟩,q⟩;exact JN (λz=>Value.str z t') e
def iS (sep:mN):mU->mN
 | []=>[]
 | [x]=>x
 | x::r=>x++sep++iS sep r
theorem Gv:∀ls:mU,iS [] ls=ls.flatten
 | []=>rfl
 | [x]=>by simp[iS]
 | x::y::r=>by show x++[]++iS [] (y::r)=_;rw[Gv (y::r)];simp
theorem FS (sep:mN):∀ls:mU,Str.join ⟨sep.toArray⟩ (ls.map λl=>(⟨l.toArray⟩:Str))=⟨(iS sep ls).toArray⟩
 | []=>rfl
 | [x]=>rfl
 | x::y::r=>by have ih:=FS sep (y::r);show (⟨x.toArray⟩:Str)++⟨sep.toArray⟩++Str.join ⟨sep.toArray⟩ ((y::r).map λl=>(⟨l.toArray⟩:Str))=_;rw[ih];show (⟨x.toArray++sep.toArray++(iS sep (y::r)).toArray⟩:Str)=⟨(x++sep++iS sep (y::r)).toArray⟩;simp
theorem Eu:∀ {ls:mU} {us:AC},fV (ls.map tx) us->StrsAre us (ls.map λl=>(⟨l.toArray⟩:Str))
 | [],us,r=>by
  rw[List.map_nil]at r;cases r;exact .nil
 | l::ls,us,r=>by
  rw[pH]at r;cases r with
  | cons r1 r2=>
   obtain⟨t,e⟩:=r1;subst e;exact .cons _ t (Eu r2)
def ZnU:wC X "str.join" (λx vs H Q=>∃sep a ls,x=tx sep/\vs=[.ref a]/\H a=some (.lst (ls.map tx))/\(ls.map List.length).sum+ls.length*sep.length<=16777216/\Q (tx (iS sep ls)) H):=by
 rintro Aq s U H x vs v us Q I rx rv ⟨sep,a,ls,rfl,rfl,ha,hz,q⟩;obtain⟨t,rfl⟩:=rx;obtain⟨u,rfl,ru⟩:=rv.one;cases ru;obtain⟨_,its,n,r,_,e⟩:=I.lstM ha;refine join_list (PySem.IsL.isList e) (Eu (~~~r)) ?_ λt' k=>?_
 .have e1:((ls.map λl=>(⟨l.toArray⟩:Str)).map (·.length)).sum=(ls.map List.length).sum:=by rw[ql];congr 1;all_goals (apply t7;intro l _;exact su l)
  rw[e1,m6,su];exact hz
 .refine⟨tx (iS sep ls),H,I.tok _,⟨t',?_⟩,q⟩;have e2:Txt.join ⟨sep.toArray⟩ (ls.map λl=>(⟨l.toArray⟩:Str))=⟨(iS sep ls).toArray⟩:=by show Builtin.Str.glued _ _=_;rw[StrLaws.glued_eq_join,FS]
  rw[e2]
end
def we (l:mN):It:=⟨λi _=>i<l.length,λi H x H'=>H'=H/\∃c,l[i]?=some c/\x=tx [c],λi _=>l.length<=i⟩
def Zjs {P:AG} {w:AI} {K:Q4} {tg:Expr} (l:mN) (t:Tok) (it:AD) (ty:String) (hty:ty="str_ascii_iterator"\/ty="str_iterator"):i8 P w K tg (we l) [it] it (λi h=>h.IsStrIter it ty ⟨l.toArray⟩ t i) where
 mem:=by simp
 obj:=λi h st b hb=>by
  have e:b=it:=by simpa using hb
  subst e;obtain⟨o,e,c,d⟩:=st;exact⟨o,e,λv z=>by rw[d]at z;cases z⟩
 keep:=λi h h' st k=>by obtain⟨o,e,r⟩:=st;exact⟨o,k it {} o e,r⟩
 item:=by
  intro X hP hw hK hc i Aq s U H E I hf st hg;subst hP hw hK;obtain⟨f0,f1,f2,f3,f4,f5⟩:=hf it {};have hg:i<l.length:=hg;have hx:(⟨l.toArray⟩:Str).cps[i]?=some l[i]:=by show l.toArray[i]?=some l[i];simp[hg]
  have fin:∀(h':Heap) (tk:Tok),h'.IsStrIter it ty ⟨l.toArray⟩ t (i+1)->Heap.SameBut it s.heap h' ->
    ∃u,some (Value.str ⟨#[l[i]]⟩ s.toks)=some u/\wpAny (model X.prog X.w) X.A (letOwnedTupleGo tg (.ref it) u) (λ_ s2=>∃x H',mP X Aq U H' s2/\fZ x u/\(we l).yld i H x H'/\s2.heap.IsStrIter it ty ⟨l.toArray⟩ t (i+1)/\∀b∈[it],H' b=none) E { s with heap:=h',toks:=tk }:=λh' tk st' sb=>by
   have I1:mP X Aq U H { s with heap:=h',toks:=tk }:=I.turned (t':=tk) (λb o hb e=>(sb.2 b hb).trans e) f0 f1 f3 f4 f5;obtain⟨o,e,c,d⟩:=id st';refine⟨_,rfl,zg (s:={ s with heap:=h',toks:=tk }) e c d ?_ ⟨tx [l[i]],H,I1,⟨_,rfl⟩,⟨rfl,l[i],by simp[hg],rfl⟩,st',λb hb=>(hf b hb).1⟩⟩;rcases hty with rfl | rfl<;>decide
  rcases hty with rfl | rfl
  .exact wpAny_pyNext_ascii_item st hx λh' st' sb=>fin h' _ st' sb
  .exact wpAny_pyNext_wide_item st hx λh' st' sb=>fin h' _ st' sb
 done:=by
  intro X hP hw hK hc i Aq s U H E I hf st hg;subst hP hw hK;obtain⟨f0,f1,f2,f3,f4,f5⟩:=hf it {};have hg:l.length<=i:=hg;have hx:(⟨l.toArray⟩:Str).cps[i]?=none:=by show l.toArray[i]?=none;simp[hg]
  rcases hty with rfl | rfl
  .exact wpAny_pyNext_ascii_end (I.ok.hd hc) st hx λh' eb=>⟨rfl,I.turned (t':=s.toks) (λb o hb e=>eb b o hb e) f0 f1 f3 f4 f5⟩
  .exact wpAny_pyNext_wide_end (I.ok.hd hc) st hx λh' eb=>⟨rfl,I.turned (t':=s.toks) (λb o hb e=>eb b o hb e) f0 f1 f3 f4 f5⟩
 self:=by
  intro A i s Q E st h;rcases hty with rfl | rfl
  .exact wpAny_pyIter_striter_ascii st h
  .exact wpAny_pyIter_striter_wide st h
section
def IM (tl:TE):TI:=λU H R=>tl U H λx H1=>∃l,x=tx l/\R (we l) H1
def vt (hl:PE X l tl):PI X tg l (IM tl):=by
 intro Aq s U H R I h;refine m8 (hl Aq s U H _ I h) λv s1 zz=>?_;obtain⟨x,H1,I1,r1,q1⟩:=zz;obtain⟨l,rfl,q⟩:=q1;obtain⟨t,rfl⟩:=r1;have fin:∀ty,(ty="str_ascii_iterator"\/ty="str_iterator")->Ev X Aq U tg R (.ref s1.heap.objs.size) { s1 with heap:=s1.heap.push { cls:=.type ty,data:=.fields #[.str ⟨l.toArray⟩ t,.int 0 0] } }:=λty hty=>by
  refine⟨s1.heap.objs.size,[s1.heap.objs.size],_,_,H1,rfl,I1.kept (t':=s1.toks) λb o e=>nG _ e,Zjs l t _ ty hty,⟨_,oP _ rfl,rfl,rfl⟩,λb hb=>?_,q⟩;have e:b=s1.heap.objs.size:=by simpa using hb
  subst e;exact I1.fpOk (nD _) (I1.hok.fresh (nD _))
 cases ha:(⟨l.toArray⟩:Str).cps.all (· < 128)
 .exact wpAny_pyIter_wide ha (fin _ (.inr rfl))
 .exact wpAny_pyIter_ascii ha (fin _ (.inl rfl))
end
def Zl7 {l:mN}{g:TG}{tb:TS}{D:ia}{U:St}{H:Hp}(Pv:Nat->St->Hp->Prop)(h0:Pv 0 U H)
  (hs:∀i c U H,l[i]?=some c->Pv i U H->g (tx [c]) U H λU2 H2=>tb { D with nx:=Pv (i+1),ct:=Pv (i+1),bk:=D.nx } U2 H2) (hd:∀U H,Pv l.length U H->D.nx U H):
  ∃W:Nat->Nat->St->Hp->Prop,(∃m,W 0 m U H)/\∀i m U H,W i m U H ->
   ((we l).stop i H/\D.nx U H)\/((we l).go i H/\∃N:St->Hp->Prop,(∀U' H',N U' H'->∃m',m'<m/\W (i+1) m' U' H')/\∀x H',(we l).yld i H x H'->g x U H' λU2 H2=>tb { D with nx:=N,ct:=N,bk:=D.nx } U2 H2):=by
 refine⟨λi m U H=>m=l.length-i/\i<=l.length/\Pv i U H,⟨l.length,{},pE _,h0⟩,?_⟩;rintro i m U H ⟨rfl,hi,p⟩;by_cases A1:i<l.length
 .refine .inr ⟨A1,Pv (i+1),λU' H' p'=>⟨l.length-(i+1),∅,rfl,A1,p'⟩,λx H' y=>?_⟩;obtain⟨e,c,hc,y⟩:=y;subst e y;exact hs i c U _ hc p
 .have e:i=l.length:=by lia
  subst e;exact .inl ⟨nD _,hd U H p⟩
inductive DT where
 | f (v:V)
 | l (xs:List DT)
 | t (xs:List DT)
section
variable (K:Q4)(H:Hp)
mutual
def fY:DT->V->Prop
 | .f w,v=>v=w/\pR w=true
 | .l ds,v=>∃a vs,v=.ref a/\oj K H a vs/\DatsOk ds vs
 | .t ds,v=>∃a vs,v=.ref a/\oW K H a vs/\DatsOk ds vs
def DatsOk:List DT->JR->Prop
 | [],vs=>vs=[]
 | d::ds,vs=>∃v r,vs=v::r/\fY d v/\DatsOk ds r
end
end
mutual
def oX:DT->DT->Bool
 | .f v,.f w=>t5 v w
 | .l xs,.l ys=>deqs xs ys
 | .t xs,.t ys=>deqs xs ys
 | .f _,.l _=>false
 | .f _,.t _=>false
 | .l _,.f _=>false
 | .t _,.f _=>false
 | .l _,.t _=>false
 | .t _,.l _=>false
def deqs:List DT->List DT->Bool
 | [],[]=>true
 | x::xs,y::ys=>oX x y&&deqs xs ys
 | [],_::_=>false
 | _::_,[]=>false
end
mutual
def sQ:DT->Nat
 | .f _=>0
 | .l xs=>deps xs+1
 | .t xs=>deps xs+1
def deps:List DT->Nat
 | []=>0
 | x::xs=>max (sQ x) (deps xs)
end
def CQ (h:pR v=true):t5 v v=true:=by cases v<;>first | rfl | (simp[t5];done) | exact JO (show false=true from h) nU
theorem DatsOk.length {K:Q4}{H:Hp}:∀ {ds:List DT} {vs:JR},DatsOk K H ds vs->vs.length=ds.length
 | [],vs,h=>by
  unfold DatsOk at h;subst h;rfl
 | d::ds,vs,h=>by unfold DatsOk at h;obtain⟨v,r,rfl,_,hr⟩:=h;rw[qK,qK,DatsOk.length hr]
def qY (xs ys:List DT)(j:Nat):Bool:=match xs[j]?,ys[j]? with
 | some x,some y=>oX x y
 | _,_=>false
theorem Ds:∀xs ys:List DT,deqs xs ys=((List.range (min xs.length ys.length)).all (qY xs ys)&&xs.length == ys.length)
 | [],[]=>by simp[deqs]
 | [],_::_=>by simp[deqs]
 | _::_,[]=>by simp[deqs]
 | x::xs,y::ys=>by
  have e:min (x::xs).length (y::ys).length=min xs.length ys.length+1:=by simp only[qK];lia
  have e2:∀j,qY (x::xs) (y::ys) (j+1)=qY xs ys j:=λj=>by simp[qY]
  have e3:qY (x::xs) (y::ys) 0=oX x y:=by simp[qY]
  rw[deqs,Ds xs ys,e,List.range_succ_eq_map,List.all_cons,e3,List.all_map];have e4:((λj=>qY (x::xs) (y::ys) j) ∘ Nat.succ)=qY xs ys:=by funext j;exact e2 j
  have e5:(qY (x::xs) (y::ys) ∘ Nat.succ)=qY xs ys:=e4;rw[e5,Bool.and_assoc];simp
mutual
theorem fY.uniq {K:Q4}{X:Cx}{Aq:AA}{U:St}{H:Hp}{s:AE}(I:mP X Aq U H s):∀(d e:DT) (v:V),fY X.K H d v->fY X.K H e v->oX d e=true
 | .f w,.f u,v,h1,h2=>by
  unfold fY at h1 h2;obtain⟨rfl,hf⟩:=h1;obtain⟨e,_⟩:=h2;subst e;unfold oX;exact CQ hf
 | .f w,.l ys,v,h1,h2=>by
  unfold fY at h1 h2;obtain⟨rfl,hf⟩:=h1;obtain⟨a,vs,rfl,_⟩:=h2;exact JO (show false=true from hf) nU
 | .f w,.t ys,v,h1,h2=>by
  unfold fY at h1 h2;obtain⟨rfl,hf⟩:=h1;obtain⟨a,vs,rfl,_⟩:=h2;exact JO (show false=true from hf) nU
 | .l xs,.f w,v,h1,h2=>by
  unfold fY at h1 h2;obtain⟨rfl,hf⟩:=h2;obtain⟨a,vs,rfl,_⟩:=h1;exact JO (show false=true from hf) nU
 | .t xs,.f w,v,h1,h2=>by
  unfold fY at h1 h2;obtain⟨rfl,hf⟩:=h2;obtain⟨a,vs,rfl,_⟩:=h1;exact JO (show false=true from hf) nU
 | .l xs,.l ys,v,h1,h2=>by
  unfold fY at h1 h2;obtain⟨a,vs,rfl,q1,r1⟩:=h1;obtain⟨b,ws,e,q2,r2⟩:=h2;cases e;have:=I.list_inj q1 q2;subst this;unfold oX;exact DatsOk.uniq (K:=K) I xs ys vs r1 r2
 | .t xs,.t ys,v,h1,h2=>by
  unfold fY at h1 h2;obtain⟨a,vs,rfl,q1,r1⟩:=h1;obtain⟨b,ws,e,q2,r2⟩:=h2;cases e;have:=I.tuple_inj q1 q2;subst this;unfold oX;exact DatsOk.uniq (K:=K) I xs ys vs r1 r2
 | .l xs,.t ys,v,h1,h2=>by
  unfold fY at h1 h2;obtain⟨a,vs,rfl,q1,r1⟩:=h1;obtain⟨b,ws,e,q2,r2⟩:=h2;cases e;obtain⟨_,_,⟨o,n,e1,c1,_⟩,_⟩:=I.list q1;obtain⟨_,_,⟨o',e2,c2,_⟩,_⟩:=I.tuple q2;rw[e1]at e2;cases e2;rw[c1]at c2;exact JO c2 {}
 | .t xs,.l ys,v,h1,h2=>by unfold fY at h1 h2;obtain⟨a,vs,rfl,q1,r1⟩:=h1;obtain⟨b,ws,e,q2,r2⟩:=h2;cases e;obtain⟨_,_,⟨o',e2,c2,_⟩,_⟩:=I.tuple q1;obtain⟨_,_,⟨o,n,e1,c1,_⟩,_⟩:=I.list q2;rw[e1]at e2;cases e2;rw[c1]at c2;exact JO c2 {}
theorem DatsOk.uniq {K:Q4}{X:Cx}{Aq:AA}{U:St}{H:Hp}{s:AE}(I:mP X Aq U H s):∀(xs ys:List DT) (vs:JR),DatsOk X.K H xs vs->DatsOk X.K H ys vs->deqs xs ys=true
 | [],[],vs,h1,h2=>by unfold deqs;rfl
 | [],y::ys,vs,h1,h2=>by
  unfold DatsOk at h1 h2;subst h1;obtain⟨_,_,e,_⟩:=h2;cases e
 | x::xs,[],vs,h1,h2=>by
  unfold DatsOk at h1 h2;subst h2;obtain⟨_,_,e,_⟩:=h1;cases e
 | x::xs,y::ys,vs,h1,h2=>by unfold DatsOk at h1 h2;obtain⟨v,r,rfl,a1,a2⟩:=h1;obtain⟨v',r',e,b1,b2⟩:=h2;cases e;unfold deqs;rw[fY.uniq (K:=K) I x y v a1 b1,DatsOk.uniq (K:=K) I xs ys r a2 b2];rfl
end
section
open SeqAt
def Cv (hf:pR w=true)(r:fZ w u)(hl:s.heap.IsList l items)(hu:A.units<cLine):EqAt A s u (.ref l) false/\EqAt A s (.ref l) u false/\RcAt A s u (.ref l) false/\RcAt A s (.ref l) u false/\RcNeAt A s u (.ref l) true/\RcNeAt A s (.ref l) u true:=by
 cases w with
 | non=>cases r;exact⟨.none_list hl hu,.list_none hl hu,.none_list hl hu,.list_none hl hu,.none_list hl hu,.list_none hl hu⟩
 | bl b=>cases r;exact⟨.bool_list b hl hu,.list_bool b hl hu,.bool_list b hl hu,.list_bool b hl hu,.bool_list b hl hu,.list_bool b hl hu⟩
 | int i=>obtain⟨t,rfl⟩:=r;exact⟨.int_list i t hl hu,.list_int i t hl hu,.int_list i t hl hu,.list_int i t hl hu,.int_list i t hl hu,.list_int i t hl hu⟩
 | str i=>obtain⟨t,rfl⟩:=r;exact⟨.str_list i t hl hu,.list_str i t hl hu,.str_list i t hl hu,.list_str i t hl hu,.str_list i t hl hu,.list_str i t hl hu⟩
 | _=>exact JO (show false=true from hf) nU
def Cm (hf:pR w=true)(r:fZ w u)(hl:s.heap.IsTuple l items)(hu:A.units<cLine):EqAt A s u (.ref l) false/\EqAt A s (.ref l) u false/\RcAt A s u (.ref l) false/\RcAt A s (.ref l) u false/\RcNeAt A s u (.ref l) true/\RcNeAt A s (.ref l) u true:=by
 cases w with
 | non=>cases r;exact⟨.none_tuple hl hu,.tuple_none hl hu,.none_tuple hl hu,.tuple_none hl hu,.none_tuple hl hu,.tuple_none hl hu⟩
 | bl b=>cases r;exact⟨.bool_tuple b hl hu,.tuple_bool b hl hu,.bool_tuple b hl hu,.tuple_bool b hl hu,.bool_tuple b hl hu,.tuple_bool b hl hu⟩
 | int i=>obtain⟨t,rfl⟩:=r;exact⟨.int_tuple i t hl hu,.tuple_int i t hl hu,.int_tuple i t hl hu,.tuple_int i t hl hu,.int_tuple i t hl hu,.tuple_int i t hl hu⟩
 | str i=>obtain⟨t,rfl⟩:=r;exact⟨.str_tuple i t hl hu,.tuple_str i t hl hu,.str_tuple i t hl hu,.tuple_str i t hl hu,.str_tuple i t hl hu,.tuple_str i t hl hu⟩
 | _=>exact JO (show false=true from hf) nU
def Gc {A:AH}{l b:AD}{ps qs:AC}{xs ys:List DT}(hl:s.heap.IsList l ps.toArray)(hb:s.heap.IsList b qs.toArray)(n1:ps.length=xs.length)(n2:qs.length=ys.length)(hu:A.units<cLine)
  (he:∀j (h1:j<ps.length) (h2:j<qs.length),EqAt A.in1 s ps[j] qs[j] (qY xs ys j)):RcAt A s (.ref l) (.ref b) (deqs xs ys)/\RcNeAt A s (.ref l) (.ref b) (!deqs xs ys):=by
 rw[Ds];by_cases hz:ps.length=qs.length
 .have hsz:ps.toArray.size=qs.toArray.size:=by rw[oH,oH];exact hz
  have e1:((List.range (min xs.length ys.length)).all (qY xs ys)&&xs.length == ys.length)=(List.range ps.toArray.size).all (qY xs ys):=by
   have:xs.length=ys.length:=by lia
   rw[oH,n1,<-this,Nat.min_self];simp
  rw[e1];exact⟨RcAt.lists hl hb hsz hu λj j1 j2=>by simpa using he j (~~~j1) (~~~j2),RcNeAt.lists hl hb hsz hu λj j1 j2=>by simpa using he j (~~~j1) (~~~j2)⟩
 .have e1:((List.range (min xs.length ys.length)).all (qY xs ys)&&xs.length == ys.length)=false:=by
   have:xs.length≠ys.length:=by lia
   simp[this]
  rw[e1];have hsz:(ps.toArray.size != qs.toArray.size)=true:=by rw[oH,oH];simpa using hz
  exact⟨RcAt.lists_lengths hl hb hsz hu,RcNeAt.lists_lengths hl hb hsz hu⟩
def Im {A:AH}{l b:AD}{ps qs:AC}{xs ys:List DT}(hl:s.heap.IsTuple l ps.toArray)(hb:s.heap.IsTuple b qs.toArray)(n1:ps.length=xs.length)(n2:qs.length=ys.length)(hu:A.units<cLine)
  (he:∀j (h1:j<ps.length) (h2:j<qs.length),EqAt A.in1 s ps[j] qs[j] (qY xs ys j)):RcAt A s (.ref l) (.ref b) (deqs xs ys)/\RcNeAt A s (.ref l) (.ref b) (!deqs xs ys):=by
 have e1:deqs xs ys=((List.range (min ps.toArray.size qs.toArray.size)).all (qY xs ys)&&ps.toArray.size == qs.toArray.size):=by rw[Ds,oH,oH,n1,n2]
 rw[e1];exact⟨RcAt.tuples hl hb hu λj j1 j2=>by simpa using he j (~~~j1) (~~~j2),RcNeAt.tuples hl hb hu λj j1 j2=>by simpa using he j (~~~j1) (~~~j2)⟩
mutual
theorem Zqj (I:mP X Aq U H s):∀(d e:DT) (A:AH) (x y:V) (u v:Value),fY X.K H d x->fY X.K H e y->fZ x u->fZ y v->A.units+sQ d<cLine->EqAt A s u v (oX d e)
 | .f w,.f w',A,x,y,u,v,h1,h2,ru,rv,hu=>by
  unfold fY at h1 h2;obtain⟨rfl,f1⟩:=h1;obtain⟨rfl,f2⟩:=h2;unfold oX;exact FY ru rv f1 f2
 | .f w,.l ys,A,x,y,u,v,h1,h2,ru,rv,hu=>by
  unfold fY at h1 h2;obtain⟨rfl,f1⟩:=h1;obtain⟨a,vs,rfl,q,_⟩:=h2;cases rv;obtain⟨its,_,p,_⟩:=I.list q;unfold oX;exact(Cv f1 ru p.isList (by unfold sQ at hu;lia)).1
 | .f w,.t ys,A,x,y,u,v,h1,h2,ru,rv,hu=>by
  unfold fY at h1 h2;obtain⟨rfl,f1⟩:=h1;obtain⟨a,vs,rfl,q,_⟩:=h2;cases rv;obtain⟨its,_,p,_⟩:=I.tuple q;unfold oX;exact(Cm f1 ru (show s.heap.IsTuple a its.toArray from p) (by unfold sQ at hu;lia)).1
 | .l xs,.f w,A,x,y,u,v,h1,h2,ru,rv,hu=>by
  unfold fY at h1 h2;obtain⟨rfl,f1⟩:=h2;obtain⟨a,vs,rfl,q,_⟩:=h1;cases ru;obtain⟨its,_,p,_⟩:=I.list q;unfold oX;exact(Cv f1 rv p.isList ∅).2.1
 | .t xs,.f w,A,x,y,u,v,h1,h2,ru,rv,hu=>by
  unfold fY at h1 h2;obtain⟨rfl,f1⟩:=h2;obtain⟨a,vs,rfl,q,_⟩:=h1;cases ru;obtain⟨its,_,p,_⟩:=I.tuple q;unfold oX;exact(Cm f1 rv (show s.heap.IsTuple a its.toArray from p) ∅).2.1
 | .l xs,.t ys,A,x,y,u,v,h1,h2,ru,rv,hu=>by
  unfold fY at h1 h2;obtain⟨a,vs,rfl,q,_⟩:=h1;obtain⟨b,ws,rfl,q',_⟩:=h2;cases ru;cases rv;obtain⟨its,_,p,_⟩:=I.list q;obtain⟨its',_,p',_⟩:=I.tuple q';unfold oX;exact EqAt.list_tuple p.isList (show s.heap.IsTuple b its'.toArray from p') ∅
 | .t xs,.l ys,A,x,y,u,v,h1,h2,ru,rv,hu=>by
  unfold fY at h1 h2;obtain⟨a,vs,rfl,q,_⟩:=h1;obtain⟨b,ws,rfl,q',_⟩:=h2;cases ru;cases rv;obtain⟨its,_,p,_⟩:=I.tuple q;obtain⟨its',_,p',_⟩:=I.list q';unfold oX;exact EqAt.tuple_list (show s.heap.IsTuple a its.toArray from p) p'.isList ∅
 | .l xs,.l ys,A,x,y,u,v,h1,h2,ru,rv,hu=>by
  by_cases hxy:x=y
  .subst hxy;rw[fY.uniq (K:=X.K) I (.l xs) (.l ys) x h1 h2];unfold fY at h1;obtain⟨a,vs,rfl,_⟩:=h1;cases ru;cases rv;exact EqAt.same _
  .unfold fY at h1 h2;obtain⟨a,vs,rfl,q,d1⟩:=h1;obtain⟨b,ws,rfl,q',d2⟩:=h2;cases ru;cases rv;obtain⟨its,r,p,_⟩:=I.list q;obtain⟨its',r',p',_⟩:=I.list q';unfold oX;unfold sQ at hu;refine EqAt.of_refs (λe=>hxy (by rw[e])) (Gc p.isList p'.isList (by rw[<-r.length,d1.length]) (by rw[<-r'.length,d2.length]) ∅ λj j1 j2=>?_).1;exact Zev I xs ys A.in1 vs ws its its' d1 d2 r r' (by show A.units+1+_<_;lia) j j1 j2
 | .t xs,.t ys,A,x,y,u,v,h1,h2,ru,rv,hu=>by
  by_cases hxy:x=y
  .subst hxy;rw[fY.uniq (K:=X.K) I (.t xs) (.t ys) x h1 h2];unfold fY at h1;obtain⟨a,vs,rfl,_⟩:=h1;cases ru;cases rv;exact EqAt.same _
  .unfold fY at h1 h2;obtain⟨a,vs,rfl,q,d1⟩:=h1;obtain⟨b,ws,rfl,q',d2⟩:=h2;cases ru;cases rv;obtain⟨its,r,p,_⟩:=I.tuple q;obtain⟨its',r',p',_⟩:=I.tuple q';unfold oX;unfold sQ at hu;refine EqAt.of_refs (λe=>hxy (by rw[e])) (Im (show s.heap.IsTuple a its.toArray from p) (show s.heap.IsTuple b its'.toArray from p') (by rw[<-r.length,d1.length]) (by rw[<-r'.length,d2.length]) ∅ λj j1 j2=>?_).1;exact Zev I xs ys A.in1 vs ws its its' d1 d2 r r' (by show A.units+1+_<_;lia) j j1 j2
theorem Zev (I:mP X Aq U H s):∀(xs ys:List DT) (A:AH) (vs ws:JR) (ps qs:AC),DatsOk X.K H xs vs->DatsOk X.K H ys ws->fV vs ps->fV ws qs->A.units+deps xs<cLine ->
  ∀(j:Nat) (h1:j<ps.length) (h2:j<qs.length),EqAt A s ps[j] qs[j] (qY xs ys j)
 | [],ys,A,vs,ws,ps,qs,d1,d2,r1,r2,hu,j,h1,h2=>by
  unfold DatsOk at d1;subst d1;cases r1;exact JO h1 (x8 _)
 | x::xs,[],A,vs,ws,ps,qs,d1,d2,r1,r2,hu,j,h1,h2=>by
  unfold DatsOk at d2;subst d2;cases r2;exact JO h2 (x8 _)
 | x::xs,y::ys,A,vs,ws,ps,qs,d1,d2,r1,r2,hu,j,h1,h2=>by
  unfold DatsOk at d1 d2;obtain⟨v,vr,rfl,a1,a2⟩:=d1;obtain⟨w,wr,rfl,b1,b2⟩:=d2;unfold deps at hu;cases r1 with
  | cons ru rus=>
   cases r2 with
   | cons rv rvs=>
    cases j with
    | zero=>
     have:=Zqj I x y A v w _ _ a1 b1 ru rv ∅;simpa [qY] using this
    | succ j=>
     have:=Zev I xs ys A vr wr _ _ a2 b2 rus rvs ∅ j (Nat.lt_of_succ_lt_succ h1) (Nat.lt_of_succ_lt_succ h2);simpa [qY] using this
end
def FV (I:mP X Aq U H s){d e:DT}{A:AH}{x y:V}{u v:Value}(h1:fY X.K H d x)(h2:fY X.K H e y)(ru:fZ x u)(rv:fZ y v)(hu:A.units+sQ d<cLine)(hn:¬(pR x=true/\pR y=true)):
  RcAt A s u v (oX d e)/\RcNeAt A s u v (!oX d e):=by
 cases d with
 | f w=>
  unfold fY at h1;obtain⟨rfl,f1⟩:=h1;cases e with
  | f w'=>
   unfold fY at h2;obtain⟨rfl,f2⟩:=h2;exact JO ⟨f1,f2⟩ hn
  | l ys=>
   unfold fY at h2;obtain⟨a,vs,rfl,q,_⟩:=h2;cases rv;obtain⟨its,_,p,_⟩:=I.list q;have z:=Cv (A:=A) f1 ru p.isList ∅;unfold oX;exact⟨z.2.2.1,z.2.2.2.2.1⟩
  | t ys=>
   unfold fY at h2;obtain⟨a,vs,rfl,q,_⟩:=h2;cases rv;obtain⟨its,_,p,_⟩:=I.tuple q;have z:=Cm (A:=A) f1 ru (show s.heap.IsTuple a its.toArray from p) ∅;unfold oX;exact⟨z.2.2.1,z.2.2.2.2.1⟩
 | l xs=>
  unfold fY at h1;obtain⟨a,vs,rfl,q,d1⟩:=h1;cases ru;obtain⟨its,r,p,_⟩:=I.list q;cases e with
  | f w=>
   unfold fY at h2;obtain⟨rfl,f1⟩:=h2;have z:=Cv (A:=A) f1 rv p.isList ∅;unfold oX;exact⟨z.2.2.2.1,z.2.2.2.2.2⟩
  | l ys=>
   unfold fY at h2;obtain⟨b,ws,rfl,q',d2⟩:=h2;cases rv;obtain⟨its',r',p',_⟩:=I.list q';unfold oX;unfold sQ at hu;exact Gc p.isList p'.isList (by rw[<-r.length,d1.length]) (by rw[<-r'.length,d2.length]) ∅ λj j1 j2=>Zev I xs ys A.in1 vs ws its its' d1 d2 r r' (by show A.units+1+_<_;lia) j j1 j2
  | t ys=>
   unfold fY at h2;obtain⟨b,ws,rfl,q',d2⟩:=h2;cases rv;obtain⟨its',r',p',_⟩:=I.tuple q';unfold oX;exact⟨RcAt.list_tuple p.isList (show s.heap.IsTuple b its'.toArray from p') ∅,RcNeAt.list_tuple p.isList (show s.heap.IsTuple b its'.toArray from p') ∅⟩
 | t xs=>
  unfold fY at h1;obtain⟨a,vs,rfl,q,d1⟩:=h1;cases ru;obtain⟨its,r,p,_⟩:=I.tuple q;cases e with
  | f w=>
   unfold fY at h2;obtain⟨rfl,f1⟩:=h2;have z:=Cm (A:=A) f1 rv (show s.heap.IsTuple a its.toArray from p) ∅;unfold oX;exact⟨z.2.2.2.1,z.2.2.2.2.2⟩
  | t ys=>
   unfold fY at h2;obtain⟨b,ws,rfl,q',d2⟩:=h2;cases rv;obtain⟨its',r',p',_⟩:=I.tuple q';unfold oX;unfold sQ at hu;exact Im (show s.heap.IsTuple a its.toArray from p) (show s.heap.IsTuple b its'.toArray from p') (by rw[<-r.length,d1.length]) (by rw[<-r'.length,d2.length]) ∅ λj j1 j2=>Zev I xs ys A.in1 vs ws its its' d1 d2 r r' (by show A.units+1+_<_;lia) j j1 j2
  | l ys=>
   unfold fY at h2;obtain⟨b,ws,rfl,q',d2⟩:=h2;cases rv;obtain⟨its',r',p',_⟩:=I.list q';unfold oX;exact⟨RcAt.tuple_list (show s.heap.IsTuple a its.toArray from p) p'.isList ∅,RcNeAt.tuple_list (show s.heap.IsTuple a its.toArray from p) p'.isList ∅⟩
end
def iz (K:Q4)(neg:Bool):R2:=λx y H Q=>(jP x y=true/\Q (.bl (if neg then !decide (x=y) else decide (x=y))) H) \/
 ∃d e,fY K H d x/\fY K H e y/\¬(pR x=true/\pR y=true)/\sQ d<=60/\Q (.bl (if neg then !oX d e else oX d e)) H
def Ie (hu:X.A.units+64<cLine):oZ X (compareOp .Eq) (iz X.K false):=by
 intro Aq s U H x y v u Q I rx ry h;rcases h with⟨h1,q⟩|⟨d,e,h1,h2,hn,hd,q⟩
 .exact Zrp Aq s U H x y v u Q I rx ry ⟨h1,q⟩
 .exact(FV I h1 h2 rx ry ∅ hn).1 _ _ _ _ ⟨.bl _,H,I,rfl,q⟩
def Zpl (hu:X.A.units+64<cLine):oZ X (compareOp .NotEq) (iz X.K true):=by
 intro Aq s U H x y v u Q I rx ry h;rcases h with⟨h1,q⟩|⟨d,e,h1,h2,hn,hd,q⟩
 .exact Zro Aq s U H x y v u Q I rx ry ⟨h1,q⟩
 .exact(FV I h1 h2 rx ry ∅ hn).2 _ _ _ _ ⟨.bl _,H,I,rfl,q⟩
def fY.same {K:Q4}{H H':Hp}(hl:∀a xs,oj K H a xs->oj K H' a xs)(ht:∀a xs,oW K H a xs->oW K H' a xs):∀ {d:DT} {v:V},fY K H d v->fY K H' d v:=by
 have both:∀d:DT,(∀v,fY K H d v->fY K H' d v):=by
  intro d;refine DT.rec (motive_1:=λd=>∀v,fY K H d v->fY K H' d v) (motive_2:=λds=>∀vs,DatsOk K H ds vs->DatsOk K H' ds vs) ?_ ?_ ?_ ?_ ?_ d
  .intro w v h;unfold fY at h ⊢;exact h
  .intro xs ih v h;unfold fY at h ⊢;obtain⟨a,vs,e,q,r⟩:=h;exact⟨a,vs,e,hl a vs q,ih vs r⟩
  .intro xs ih v h;unfold fY at h ⊢;obtain⟨a,vs,e,q,r⟩:=h;exact⟨a,vs,e,ht a vs q,ih vs r⟩
  .intro vs h;unfold DatsOk at h ⊢;exact h
  .intro x xs h1 h2 vs h;unfold DatsOk at h ⊢;obtain⟨v,r,e,a,b⟩:=h;exact⟨v,r,e,h1 v a,h2 r b⟩
 exact λ{d v} h=>both d v h
def fT.seqT {K:Q4}{H H':Hp}{a:AD}{xs:JR}(e:fT H H')(h:oW K H a xs):oW K H' a xs:=by
 rcases h with (h | ⟨o,h⟩) | h
 .exact .inl (.inl (e _ _ h))
 .exact .inl (.inr ⟨o,e _ _ h⟩)
 .exact .inr h
def fT.dat {K:Q4}{H H':Hp}(e:fT H H'){d:DT}{v:V}(h:fY K H d v):fY K H' d v:=h.same (λ_ _ q=>e.seq q) (λ_ _ q=>e.seqT q)
theorem EW {K:Q4}{H:Hp}:∀ {vs:JR},vs.all pR=true->DatsOk K H (vs.map DT.f) vs
 | [],_=>by unfold DatsOk;rfl
 | v::r,h=>by rw[List.all_cons,oJ]at h;rw[pH];unfold DatsOk;exact⟨v,r,rfl,by unfold fY;exact⟨rfl,h.1⟩,EW h.2⟩
def GZ (vs:JR):deps (vs.map DT.f)=0:=by
 induction vs with
 | nil=>rfl
 | cons v r ih=>rw[pH];unfold deps;rw[ih];rfl
def GI (a b:mN):t5 (tx a) (tx b)=decide (tx a=tx b):=by
 rw[u4];show ((⟨a.toArray⟩:Str) == ⟨b.toArray⟩)=_;by_cases h:a=b
 .subst h;simp
 .rw[JJ h];exact beq_eq_false_iff_ne.mpr λz=>h (yZ.mp (JN V.str z))
def jE {K:Q4}{H:Hp}{a:AD}{vs:JR}(h:oj K H a vs)(hf:vs.all pR=true):fY K H (.l (vs.map DT.f)) (.ref a):=by unfold fY;exact⟨a,vs,rfl,h,EW hf⟩
def datT {K:Q4}{H:Hp}{a:AD}{vs:JR}(h:oW K H a vs)(hf:vs.all pR=true):fY K H (.t (vs.map DT.f)) (.ref a):=by unfold fY;exact⟨a,vs,rfl,h,EW hf⟩
def datF {K:Q4}{H:Hp}{v:V}(hf:pR v=true):fY K H (.f v) v:=by unfold fY;exact⟨rfl,hf⟩
end L2
namespace L2
open PySem PySem.Spec PyProof.Rows
open PySem.W (Frag findIn specialIn typeIn mroIn clsIn InstAt Looks)
def vQ:AC:=[.type "ValueError",.type "Exception",.type "BaseException",.type "object"]
def Gj:Value->Bool
 | .ref _=>true
 | _=>false
noncomputable def iq (l:AC):Bool:=l.dropWhile Gj == vQ
theorem C7 {P:AC->Prop}(h0:P vQ)(h1:∀c r,P r->P (.ref c::r)):∀l:AC,iq l=true->P l
 | [],e=>by simp[iq,vQ]at e
 | v::r,e=>by
  cases hv:Gj v with
  | true=>
   cases v with
   | ref c=>
    refine h1 c r (C7 h0 h1 r ?_);unfold iq at e ⊢;rw[List.dropWhile_cons,mS hv]at e;exact e
   | _=>cases hv
  | false=>
   unfold iq at e;rw[List.dropWhile_cons,mR (by rw[hv];exact nU)]at e;rw[show (v::r)=vQ by simpa using e];exact h0
def ZjN (self:Value):refuseLoop self "__setattr__" vQ=pure ():=by
 first | rfl | kernel_rfl
def Zlu (self:Value){l:AC}(e:iq l=true):refuseLoop self "__setattr__" l=pure ():=
 C7 (P:=λl=>refuseLoop self "__setattr__" l=pure ()) (ZjN self) (λc r h=>by rw[refuseLoop_ref];exact h) l e
def yd (h:vQ.contains (.type n)=b){l:AC}(e:iq l=true):l.contains (.type n)=b:=
 C7 (P:=λl=>l.contains (.type n)=b) h (λc r h=>by rw[wP,h];rfl) l e
structure Xc (K:Frag)(C:AD):Prop where
 ga:findIn K (.ref C) "__getattribute__"=some (some (.builtin "BaseException.__getattribute__"))
 gr:findIn K (.ref C) "__getattr__"=some none
 sa:findIn K (.ref C) "__setattr__"=some (some (.builtin "object.__setattr__"))
 hd:hasDictIn K C=true
 mr:(clsIn K C).any (λcd=>iq cd.mro)=true
def Gx (e:iq l=true):l.isEmpty=false:=by
 cases l with
 | nil=>simp[iq,vQ]at e
 | cons _ _=>rfl
def Xc.base {K:Frag}{C:AD}(c:Xc K C){n:String}{b:Bool}(h:vQ.contains (.type n)=b):mroIn K C (.type n)=some b:=by obtain⟨cd,hc,hm⟩:=wW c.mr;unfold mroIn;rw[hc,uj,mR (by rw[Gx hm];exact nU),yd h hm]
noncomputable def xo (a C:AD)(d:Option AD):HO:=.ext λh=>∃(o:Obj) (t:AD),h.get? a=some o/\o.cls=.ref C/\o.dict=d/\o.data=.fields #[.ref t,.none,.none,.none,.bool false,.none]
def xv (d:AD)(fs:List (Str×V)):HO:=.ext λh=>fs.length<=1000/\∃mA,h.Ns1 d mA/\(∀f,gV (fs.lookup f) (mA f))/\PySem.Within mA (fs.map (·.1))
inductive rL (H:Hp) (e C:AD):List (Str×V)->Prop where
 | bare:H e=some (xo e C none)->rL H e C []
 | full {d:AD} {fs:List (Str×V)}:H e=some (xo e C (some d))->H d=some (xv d fs)->d≠e->rL H e C fs
def ZoF (h:H a=some o):upd H a o=H:=by
 funext b;unfold upd;by_cases hb:b=a
 .rw[mS hb,hb,h]
 .rw[mR hb]
def rL.same (x:rL H e C fs)(s:fT H H'):rL H' e C fs:=by
 cases x with
 | bare h=>exact .bare (s _ _ h)
 | full h1 h2 h3=>exact .full (s _ _ h1) (s _ _ h2) h3
section
def vS (I:mP X Aq U H s)(h:H e=some (xo e C d)):∃(o:Obj) (t:AD),s.heap.get? e=some o/\o.cls=.ref C/\o.dict=d/\o.data=.fields #[.ref t,.none,.none,.none,.bool false,.none]:=(I.hok e _ h).1
def EY (h1:h.get? e=some o)(h2:o.cls=.ref C)(h3:o.dict=d)(h4:o.data=.fields #[.ref t,.none,.none,.none,.bool false,.none]):gg P w H h e (xo e C d):=
 ⟨⟨o,t,h1,h2,h3,h4⟩,⟨o,h1⟩,λa b ⟨o,t,q1,q⟩ k=>⟨o,t,k o q1,q⟩⟩
def Eh (hz:fs.length<=1000)(h1:h.Ns1 d mA)(h2:∀f,gV (fs.lookup f) (mA f))(h3:PySem.Within mA (fs.map (·.1))):gg P w H h d (xv d fs):=by obtain⟨o,es,ep,ho,r⟩:=id h1;refine⟨⟨hz,mA,h1,h2,h3⟩,⟨o,ho⟩,λa b ⟨hz,m,⟨o,es,ep,q,r⟩,z⟩ k=>⟨hz,m,⟨o,es,ep,k o q,r⟩,z⟩⟩
def rL.inst (I:mP X Aq U H s)(x:rL H e C fs):∃(ox:Obj) (od:Option Obj),InstAt s.heap e ox C od/\∀name,∃r,(match od with | some o=>lookIn name o | none=>some none)=some r/\gV (fs.lookup name) r:=by
 cases x with
 | bare h=>
  obtain⟨o,t,h1,h2,h3,h4⟩:=vS I h;exact⟨o,none,⟨h1,h2,by unfold notCls;rw[h4],by rw[h3];trivial⟩,λname=>⟨none,rfl,by trivial⟩⟩
 | @full d _ h h' hne=>
  obtain⟨o,t,h1,h2,h3,h4⟩:=vS I h;obtain⟨⟨_,mA,hn,hr,_⟩,_⟩:=I.hok d _ h';obtain⟨od,hod,hl⟩:=Ee hn;exact⟨o,some od,⟨h1,h2,by unfold notCls;rw[h4],by rw[h3];exact hod⟩,λname=>⟨mA name,hl name,hr name⟩⟩
def GK:entryFor table "BaseException.__getattribute__"=some Builtin.«object.__getattribute__»:=F.entry_bexc_ga
def Ziz {K:Frag}{x:AD}{ox:Obj}{od:Option Obj}{name:Str}{expr:Bool}{u:Value}{prog:AG}{w:AI}{Q:oo}(KX:K.In s.heap)(I:InstAt s.heap x ox C od)(c:Xc K C)
  (hf:findObj K C od name=some (.value u)) (hh:handedIn u=true) (h:Q u { s with toks:=s.toks+1 }):wpAny (model prog w) A (getAttr (.ref x) name expr) Q E s:=by
 obtain⟨hp,g,d,t,os⟩:=s;have L0:=I.type (M:=model prog w);have L1:=xj (M:=model prog w) KX c.ga;have L2:=xj (M:=model prog w) KX c.gr;have L3:=looks_find (M:=model prog w) KX I hf;have L4:=looks_mroIn (M:=model prog w) KX (c.base (n:="BaseException") (b:=true) nofun);have hx2:(Value.builtin "BaseException.__getattribute__" == Value.builtin "object.__getattribute__")=false:=by decide +kernel
 have slot:=F.excAttr_ValueError.ga;unfold getAttr getAttrBy;refine mO (wpAny_mkText (qR (mO (L0.at (mO (L1.at ?_))))));dsimp only;rw[hx2,wu,mR nU];unfold getAttrByItsOwn hookBefore;refine mO ?_;show wpAny _ _ (if onTheHeap (Value.ref C)=true then typeLookup (.ref C) "__getattr__" else pure none) _ _ _;rw[mS (show onTheHeap (Value.ref C)=true from rfl)];refine L2.at (mO (uy (qR ?_)));unfold callGetattribute;rw[show (expr&&onTheHeap (Value.builtin "BaseException.__getattribute__"))=false from wu _,mR nU];unfold boundAndCalled;rw[slot.bind];refine mO (mW ?_);show wpAny _ _ (call (.builtin "BaseException.__getattribute__") [.ref x,.str name t]) _ _ _;refine uu (codeAny_call_builtin slot.plain GK ?_);refine @check_slot (model prog w) _ _ ⟨hp,g,d,t+1,os⟩ "BaseException.__getattribute__" "BaseException" "__getattribute__" (.ref x) [.str name t] [] _ nofun nofun (L0.andThen L4) (F.args_bexc_ga (.ref x) (.str name t)) ?_;refine mO (mW (mO (mW (mO (L0.at (mO (L3.at (mW ?_))))))));show wpAny _ _ (handedOut u) _ _ _;rw[PySem.W.handedOut_of hh];exact mW h
def xset (I:mP X Aq U H s)(x:rL H e C fs)(c:Xc X.K C)(n:ge X.K C f)(hz:fs.length<1000)(ry:fZ y u)
  (h:∀s' H',mP X Aq U H' s'->rL H' e C (gs f y fs)->(∀b o,H b=some o->b≠e->(∀d,H e=some (xo e C (some d))->b≠d)->H' b=some o) ->
   (∃d,H' e=some (xo e C (some d))/\(H e=some (xo e C (some d))\/H d=none))->Q () s'):wpAny (model X.prog X.w) A (setAttr (.ref e) f u) Q E s:=by
 obtain⟨ox,od,J,hr⟩:=x.inst I;obtain⟨cd,hc,hd'⟩:=wW c.hd;obtain⟨cd',hc2,hm⟩:=wW c.mr;rw[hc]at hc2;cases hc2;refine set_plain I.kIn J c.sa ?_;have SF:=PySem.F.store_object;have hne:=Gx hm;have KX:X.K.In ({ s with toks:=s.toks+1 }:AE).heap:=I.kIn;have J1:InstAt ({ s with toks:=s.toks+1 }:AE).heap e ox C od:=J;have L1:Looks (model X.prog X.w) s.heap (mroOf (.ref C)) cd.mro:=(looks_clsIn I.kIn hc).andThen .now;have sub:Looks (model X.prog X.w) s.heap (isInstance (.ref e) (.type "object")) true:=J.type.andThen (looks_mroIn I.kIn (c.base (n:="object") (b:=true) nofun));refine codeAny_call_builtin SF.slot.plain SF.entry (@check_slot (model X.prog X.w) _ _ { s with toks:=s.toks+1 } "object.__setattr__" "object" "__setattr__" (.ref e) [.str f s.toks,u] [] _ SF.kind SF.split sub (SF.args (.ref e) (.str f s.toks) u) ?_);rw[osa_eq,refuse_eq];refine mO (mO (Looks.here (s:={ s with toks:=s.toks+1 }) J.type (mO (Looks.here (s:={ s with toks:=s.toks+1 }) L1 ?_))));rw[Zlu _ hm];refine mW (mO (Looks.here (s:={ s with toks:=s.toks+1 }) J.type (mO (Looks.here (s:={ s with toks:=s.toks+1 }) (xj I.kIn n) (mO (mW ?_))))));dsimp only;refine mO (mW (mO (mO ?_)));have LC:=looks_clsIn (M:=model X.prog X.w) I.kIn hc;cases x with
 | bare hb=>
  obtain⟨o,t,h1,h2,h3,h4⟩:=vS I hb;obtain⟨oc,odi,oda,osl⟩:=o;dsimp only at h2 h3 h4;subst h2 h3 h4;refine wpAny_loadPart h1 (mO (Looks.here (s:={ s with toks:=s.toks+1 }) LC ?_));rw[hd'];refine mO (wpAny_alloc (mO (wpAny_update (nG _ h1) (mW ?_))));dsimp only;refine mO (mW (mO ?_));have A1:e<s.heap.objs.size:=nP h1;have hfr:=I.fresh;have hed:s.heap.objs.size≠e:=Nat.ne_of_gt A1;have ee:(s.heap.push emptyDict).get? s.heap.objs.size=some emptyDict:=oP s.heap rfl;have e2:((s.heap.push emptyDict).update e λo=>{ o with dict:=some s.heap.objs.size }).get? e=some ⟨.ref C,some s.heap.objs.size,.fields #[.ref t,.none,.none,.none,.bool false,.none],osl⟩:=u5 _ (nG _ h1) rfl;have e3:((s.heap.push emptyDict).update e λo=>{ o with dict:=some s.heap.objs.size }).get? s.heap.objs.size=some emptyDict:=by rw[uT _ _ (nX hed)];exact ee
  have ns:((s.heap.push emptyDict).update e λo=>{ o with dict:=some s.heap.objs.size }).Ns s.heap.objs.size (λ_=>none):=⟨emptyDict,#[],_,e3,rfl,(λe he=>JO he {}),λ_=>rfl⟩;have ns1:=Heap.Ns1.of_empty ns;have I1:=I.laid (a:=s.heap.objs.size) (o:=xv s.heap.objs.size []) (h':=s.heap.push emptyDict) (t':=s.toks+1) (λb u q=>nG _ q) (nD _)
   (Eh (fs:=[]) (pE _) (Heap.Ns1.of_empty (h:=s.heap.push emptyDict) ⟨emptyDict,#[],_,ee,rfl,(λe he=>JO he {}),λ_=>rfl⟩) (λ_=>by trivial) (λy hy=>JO rfl hy))
  have I2:=I1.write (x:=e) (e:=e) (o:=xo e C (some s.heap.objs.size)) (h':=(s.heap.push emptyDict).update e λo=>{ o with dict:=some s.heap.objs.size }) (t':=s.toks+1)
   (by rw[mT (nX hed),hb];exact trivial) (.inl rfl) (λb u hbe q=>by rw[uT _ _ (nX hbe)];exact q) ⟨_,e2⟩ (EY e2 rfl rfl rfl)
  refine wpAny_nsSet1 (s:={ s with heap:=(s.heap.push emptyDict).update e λo=>{ o with dict:=some s.heap.objs.size },toks:=s.toks+1 }) ns1 λh' hn2 hs2=>?_;have hw:PySem.Within (λx=>if x=f then some u else none) [f]:=λz hz=>by
   by_cases q:z=f
   .rw[q];exact pW
   .exact JO (mR q) hz
  obtain⟨oD,esD,epD,hoD,hdD,hcD⟩:=hn2.count hw;refine mO (wpAny_lookBehind hoD (by rw[hdD];exact pastItsLine_dict (og hcD (by rw[pZ,sizeLine_eq];decide))) ?_);refine mW (h _ _ (I2.write (x:=s.heap.objs.size) (e:=s.heap.objs.size) (o:=xv s.heap.objs.size [(f,y)]) (h':=h') (t':=s.toks+1+1) ?_ (.inl rfl) (λb u' hb' q=>(hs2.2 b hb').trans q) ⟨oD,hoD⟩ (Eh (by show 1<=1000;decide) hn2 ?_ hw)) ?_ ?_ ⟨_,(by rw[mT (nX hed),nu]),.inr hfr⟩)
  .rw[mT hed,nu];exact trivial
  .intro g;show gV (List.lookup g [(f,y)]) (if g=f then some u else none);by_cases q:g=f
   .rw[mS q,q];simp[uc];exact ry
   .have hbq:(g == f)=false:=by simpa using q
    rw[mR q];simp[uc,hbq];trivial
  .refine .full (d:=s.heap.objs.size) (by rw[mT (nX hed),nu]) ?_ hed;rw[nu];rfl
  .intro b o' hb' hbe _;have nb:b≠s.heap.objs.size:=on hb' hfr;rw[mT nb,mT hbe,mT nb];exact hb'
 | @full d _ hb hd2 hne2=>
  obtain⟨o,t,h1,h2,h3,h4⟩:=vS I hb;obtain⟨oc,odi,oda,osl⟩:=o;dsimp only at h2 h3 h4;subst h2 h3 h4;obtain⟨⟨hz',mA,hn,hr',hw⟩,_⟩:=I.hok d _ hd2;refine wpAny_loadPart h1 (mO (Looks.here (s:={ s with toks:=s.toks+1 }) LC ?_));rw[hd'];refine mW ?_;dsimp only;refine mO (mW (mO ?_));refine wpAny_nsSet1 (s:={ s with toks:=s.toks+1 }) hn λh' hn2 hs2=>?_;obtain⟨oD,esD,epD,hoD,hdD,hcD⟩:=hn2.count (PySem.Within.cons f u hw);refine mO (wpAny_lookBehind hoD (by rw[hdD];exact pastItsLine_dict (og hcD (by rw[qK,m6,sizeLine_eq];lia))) ?_);refine mW (h _ _ (I.write (x:=d) (e:=d) (o:=xv d (gs f y fs)) (h':=h') (t':=s.toks+1+1) (by rw[hd2];exact trivial) (.inl rfl) (λb u' hb' q=>(hs2.2 b hb').trans q) ⟨oD,hoD⟩ (Eh ?_ hn2 ?_ ?_)) ?_ ?_ ⟨d,(by rw[mT (nX hne2)];exact hb),.inl hb⟩)
  .have:=Dv f y fs;lia
  .intro g;show gV ((gs f y fs).lookup g) (if g=f then some u else mA g);rw[pY];by_cases q:g=f
   .rw[mS q,mS q];exact ry
   .rw[mR q,mR q];exact hr' g
  .intro g hg;by_cases q:g=f
   .rw[q];exact(yD f y fs).1
   .refine(yD f y fs).2 g (hw g λz=>hg ?_);show (if g=f then some u else mA g)=none;rw[mR q];exact z
  .exact .full (d:=d) (by rw[mT (nX hne2)];exact hb) nu hne2
  .intro b o' hb' hbe hbd;rw[mT (hbd d hb)];exact hb'
end
abbrev il (C t:AD):Obj:={ cls:=.ref C,data:=.fields #[.ref t,.none,.none,.none,.bool false,.none] }
abbrev iD (vs:AC):Obj:={ cls:=.type "tuple",data:=.seq vs.toArray }
structure Xm (K:Frag)(C:AD):Prop where
 c:Xc K C
 ob:∃(nm q:Str) (N:AD) (bs bm:AC) (Ay:Bool) (sn:AJ) (sub:AC) (ab:Bool) (col:Option Bool) (dd:Option AD) (k0 k1 k2 k3 k5:Option Value),
  K.lookup C=some (excClassObj nm q C N bs bm Ay sn sub ab col dd k0 k1 k2 k3 k5 "ValueError.__new__")
 kp:keepIn K (.ref C)=true
section
variable {prog:AG}{w:AI}{A:AH}{E:oo}{h:Heap}{g:Array GenState}{d:Drawn}{t:Nat}{os:OsState}{K:Frag}
variable {nm q:Str}{C N:AD}{bs bm:AC}{Ay:Bool}{sn:AJ}{sub:AC}{ab:Bool}{col:Option Bool}{dd:Option AD}{k0 k1 k2 k3 k5:Option Value}
def Ziy {M:Model} {gx:AC} {Q:Unit->AE->Prop} (hx:iq (.ref C::bm)=true) (hC:h.get? C=some (excClassObj nm q C N bs bm Ay sn sub ab col dd k0 k1 k2 k3 k5 "ValueError.__new__"))
  (hq:Q () ⟨h,g,d,t,os⟩):wpAny M A (checkBuiltinCall "ValueError.__new__" ⟨.ref C::gx,[]⟩) Q E ⟨h,g,d,t,os⟩:=by
 have Fn:=F.excBase_ValueError;have hcB:=yd (n:="ValueError") (b:=true) nofun hx;have hstar:=Fn.noStar;simp only[checkBuiltinCall,Fn.newKind,Fn.newSplit,Fn.newRow];repeat (first | refine ua hC ?_ | (refine yX hC ?_;rw[hcB]) | refine wpAny_staticBase_exc hC ?_ | refine wpAny_madeBy_exc hC ?_ | simp only[bne_self_eq_false,xY,if_false] | wp_step)
 exact hq
def xnew {R:Result->AE->Prop} {gx:AC} (hx:iq (.ref C::bm)=true) (hC:h.get? C=some (excClassObj nm q C N bs bm Ay sn sub ab col dd k0 k1 k2 k3 k5 "ValueError.__new__"))
  (hq:R (.ok (.ret (.ref (h.objs.size+1)))) ⟨(h.push (iD gx)).push (il C h.objs.size),g,d,t,os⟩) (hrest:gx.length<=sizeLine):
  codeAny (model prog w) A (.builtin "ValueError.__new__" ⟨.ref C::gx,[]⟩) R ⟨h,g,d,t,os⟩:=by
 have Fn:=F.excBase_ValueError;have hends:=Fn.ends;have hcB:=yd (n:="ValueError") (b:=true) nofun hx;have hcA:=yd (n:="AttributeError") (b:=false) nofun hx;have hcN:=yd (n:="NameError") (b:=false) nofun hx;refine codeAny_builtinAt Fn.entry ?_;unfold Builtin.«BaseException.__new__»;refine PySem.wpAt_bind ?_;show PySem.wpAt _ _ _ (stack >>= _) _ _ _;refine PySem.wpAt_bind (PySem.wpAt_stack λp below=>PySem.wpAt_of_wpAny ?_)
 wp_walk
 refine PySem.wpAt_of_wpAny ?_;rw[Fn.owner];repeat (first | with_reducible refine wpAny_madeHere_exc Fn.canon hC ?_ | with_reducible refine ua hC ?_ | (with_reducible refine yX hC ?_;first | rw[hcB] | rw[hcA] | rw[hcN]) | wp_step)
 show R _ _;rw[rO];exact hq
def ZqA {R:Result->AE->Prop} {gx:AC} {init:Value} (KX:K.In h) (hx:iq (.ref C::bm)=true) (hC:h.get? C=some (excClassObj nm q C N bs bm Ay sn sub ab col dd k0 k1 k2 k3 k5 "ValueError.__new__"))
  (hi:Looks (model prog w) h (typeLookup (.ref C) "__init__") (some init)) (hb:∀self,Looks (model prog w) h (bindSpecial init self) (init,[self])) (hrest:gx.length<=sizeLine)
  (hq:codeAny (model prog w) (A.under (.builtin "type.__call__" ⟨.ref C::gx,[]⟩)) (.call init ⟨.ref (h.objs.size+1)::gx,[]⟩) (PySem.W.InitBack (h.objs.size+1) R) ⟨(h.push (iD gx)).push (il C h.objs.size),g,d,t,os⟩):
  codeAny (model prog w) A (.call (.ref C) ⟨gx,[]⟩) R ⟨h,g,d,t,os⟩:=by
 have f1:=tc_lookup;have f2:=tc_bind (.ref C);have hT:(⟨h,g,d,t,os⟩:AE).TypeIs (.ref C) "type":=⟨_,hC,rfl⟩;have Fn:=F.excBase_ValueError;refine codeAny_of_tree ?_;show wpAny _ _ (callAny (.ref C) _) _ _ _;repeat (any_goals (first | assumption | with_reducible refine ua hC ?_ | wp_step))
 refine⟨rfl,?_⟩;refine codeAny_call_builtin_at (Code.quiet_builtin _ nofun) entry_typeCall (wpAny_check_type_call_sub hC ?_);repeat (first | with_reducible refine ua hC ?_ | with_reducible refine wpAny_madeBy_exc hC ?_ | wp_step)
 refine codeAny_call_builtin_code (Code.quiet_builtin _ Fn.quiet) (Ziy hx hC ?_);refine xnew hx hC ?_ hrest;show wpAny _ _ _ _ _ _;have k:∀b o,h.get? b=some o->((h.push (iD gx)).push (il C h.objs.size)).get? b=some o:=λb o e=>nG _ (nG _ e);have hC1:=k _ _ hC;have hget:((h.push (iD gx)).push (il C h.objs.size)).get? (h.objs.size+1)=some { cls:=.ref C,data:=.fields #[.ref h.objs.size,.none,.none,.none,.bool false,.none] }:=by heap_get
 have hcC:(Value.ref C::bm).contains (.ref C)=true:=by simp
 have i1:=hi.keeps k;have b1:=(hb (.ref (h.objs.size+1))).keeps k;have t1:Looks (model prog w) ((h.push (iD gx)).push (il C h.objs.size)) (typeOf (.ref (h.objs.size+1))) (.ref C):=(Looks.ld hget).andThen .now;unfold isInstance;repeat (first | with_reducible refine ua hget ?_ | (with_reducible refine yX hC1 ?_;rw[hcC]) | wp_step)
 refine yX hC1 ?_;rw[hcC];repeat (first | with_reducible refine ua hget ?_ | wp_step)
 show wpAny _ _ (typeLookup (.ref C) _) _ _ _;refine i1.at (qR (mO (b1.at ?_)));refine mO (uu ?_);refine codeAny_mono hq λr s' z=>?_;rcases r with e | (v | _ | _ | _)<;>first | exact z | exact z.elim | skip
 obtain⟨rfl,z⟩:=z;exact mW (mW z)
end
section
def mP.xmade (I:mP X Aq U H s):mP X Aq U (upd H (s.heap.objs.size+1) (xo (s.heap.objs.size+1) C none)) { s with heap:=(s.heap.push (iD us)).push (il C s.heap.objs.size) }:=by
 have I1:mP X Aq U H { s with heap:=s.heap.push (iD us) }:=I.kept (t':=s.toks) λb o e=>nG _ e;have e2:((s.heap.push (iD us)).push (il C s.heap.objs.size)).get? (s.heap.objs.size+1)=some (il C s.heap.objs.size):=by
  have:=oP (s.heap.push (iD us)) (o:=il C s.heap.objs.size) rfl
  rwa [rO]at this
 exact I1.laid (a:=s.heap.objs.size+1) (t':=s.toks) (λb u q=>nG _ q) (vj (rO _ _)) (EY e2 rfl rfl rfl)
def Zjj (I:mP X Aq U H s)(m:Xm X.K C)(hx:H e=some (xo e C d))(hz:us.length<=sizeLine)(A:AH)
    (h:∀s',mP X Aq U H s'->R (.ok (.ret .none)) s'):codeAny (model X.prog X.w) A (.call (.builtin "ValueError.__init__") ⟨.ref e::us,[]⟩) R s:=by
  have Fn:=F.excBase_ValueError;have c:=m.c;obtain⟨nm,qn,N,bs,bm,Ay,sn,sub,ab,col,dd,k0,k1,k2,k3,k5,lC⟩:=m.ob;have hC:=I.kIn _ _ lC;obtain⟨o,t,h1,h2,h3,h4⟩:=vS I hx;obtain⟨oc,od,oda,osl⟩:=o;dsimp only at h2 h3 h4;subst h2 h3 h4;have L:Looks (model X.prog X.w) s.heap (isInstance (.ref e) (.type "ValueError")) true:=((Looks.ld h1).andThen .now).andThen (looks_mroIn I.kIn (c.base (n:="ValueError") (b:=true) nofun));obtain⟨hp,g,dr,tk,os⟩:=s;refine codeAny_call_builtin Fn.init.plain Fn.initEntry ?_;have hshort:=Fn.noStar;simp only[checkBuiltinCall,Fn.initKind,Fn.initSplit,Fn.initRow];refine mO (L.at ?_);simp only[Bool.not_true,xY,if_false];have fin:wpAny (model X.prog X.w) A.in1 (Builtin.«BaseException.__init__» ⟨.ref e::us,[]⟩) (λfin s'=>match fin with | .done f=>R (.ok f) s' | .again c'=>c'.quiet=true/\codeAny (model X.prog X.w) A c' R s') (λe s'=>R (.error e) s') ⟨hp,g,dr,tk,os⟩:=by
    have A1:e<hp.objs.size:=nP h1
    wp_walk
    refine h _ ?_;have I1:mP X Aq U H { (⟨hp,g,dr,tk,os⟩:AE) with heap:=hp.push (iD us) }:=I.kept (t':=tk) λb o e=>nG _ e;have e2:=u5 (Obj.mapFields (·.setIfInBounds 0 (Value.ref hp.objs.size))) (nG (h:=hp) (iD us) h1) rfl;have I2:=I1.write (x:=e) (e:=e) (o:=xo e C od) (h':=(hp.push (iD us)).update e (Obj.mapFields (·.setIfInBounds 0 (Value.ref hp.objs.size)))) (t':=tk) (by rw[hx];exact trivial) (.inl rfl)
      (λb u hb q=>by rw[uT _ _ (nX hb)];exact q) ⟨_,e2⟩ (EY e2 rfl rfl rfl)
    rw[ZoF hx]at I2;exact I2
  repeat (first | with_reducible refine ua hC ?_ | (with_reducible refine wpAny_load hC ?_) | with_reducible refine ua h1 ?_ | wp_step)
  first
    | (refine wpAny_onRaise ?_
       rw[show ∀(a b:String) (n:Nat),Bind.check ⟨.positional,"*","ValueError",.self,[⟨"args",.varPos,false⟩]⟩ a b n (List.map (λx=>x.fst) ({ pos:=Value.ref e::us }:Args).kw)=pure () from λa b n=>check_star_args _ _ _ _ _ _];exact mW fin)
    | skip
end
structure Xi (K:Frag)(C:AD):Prop where
 c:Xc K C
 ha:findIn K (.ref C) "__class__"=some (some (.builtin "object.__class__"))
 hn:specialIn K (.builtin "object.__class__") "__get__"=some (some (.builtin "getset_descriptor.__get__"))
 htk:takesIn K (.builtin "object.__class__")=some true
section
variable {K:Frag}{x C:AD}{ox:Obj}{od:Option Obj}{prog:AG}{w:AI}{A:AH}{E:oo}{s:AE}
def ZoD (i:Xi K C)(KX:K.In s.heap)(I:InstAt s.heap x ox C od)(h:Q (some (.ref C)) { s with toks:=s.toks+1 }):wpAny (model prog w) A (getAttr? (.ref x) "__class__") Q E s:=by
 have c:=i.c;have hf:findObj K C od "__class__"=some (.bind (.builtin "getset_descriptor.__get__") (.builtin "object.__class__")):=by obtain⟨cd,hc,_⟩:=wW c.hd;unfold findObj;rw[hc,i.ha];simp only[uj,i.hn,i.htk]
 obtain⟨hp,g,d,t,os⟩:=s;have L0:=I.type (M:=model prog w);have L1:=xj (M:=model prog w) KX c.ga;have L2:=xj (M:=model prog w) KX c.gr;have L3:=looks_find (M:=model prog w) KX I hf;have L4:=looks_mroIn (M:=model prog w) KX (c.base (n:="BaseException") (b:=true) nofun);have hm:=c.base (n:="object") (b:=true) nofun;have hx2:(Value.builtin "BaseException.__getattribute__" == Value.builtin "object.__getattribute__")=false:=by decide +kernel
 have slot:=F.excAttr_ValueError.ga;unfold getAttr? getAttrBy?;refine mO (wpAny_mkText (mO (uy ?_)));unfold getAttrBy;refine qR (mO (L0.at (mO (L1.at ?_))));dsimp only;rw[hx2,wu,mR nU];unfold getAttrByItsOwn hookBefore;refine mO ?_;show wpAny _ _ (if onTheHeap (Value.ref C)=true then typeLookup (.ref C) "__getattr__" else pure none) _ _ _;rw[mS (show onTheHeap (Value.ref C)=true from rfl)];refine L2.at (mO (uy (qR ?_)));unfold callGetattribute;rw[show (false&&onTheHeap (Value.builtin "BaseException.__getattribute__"))=false from rfl,mR nU];unfold boundAndCalled;rw[slot.bind];refine mO (mW ?_);show wpAny _ _ (call (.builtin "BaseException.__getattribute__") [.ref x,.str "__class__" t]) _ _ _;refine uu (codeAny_call_builtin slot.plain GK ?_);refine @check_slot (model prog w) _ _ ⟨hp,g,d,t+1,os⟩ "BaseException.__getattribute__" "BaseException" "__getattribute__" (.ref x) [.str "__class__" t] [] _ nofun nofun (L0.andThen L4) (F.args_bexc_ga (.ref x) (.str "__class__" t)) ?_;refine mO (mW (mO (mW (mO (L0.at (mO (L3.at ?_)))))));show wpAny _ _ (holding [.builtin "object.__class__"] (call (.builtin "getset_descriptor.__get__") [.builtin "object.__class__",.ref x,.ref C]) >>= ret) _ _ _;refine mO (qR (uu (PySem.W.class_get (s:=⟨hp,g,d,t+1,os⟩) (ox:=ox) (od:=od) KX I hm (mW ?_))));exact PySem.W.handed_on rfl (mW h)
def Ii (i:Xi K C):PySem.W.KitX K (.ref x) (.ref C) (λh=>InstAt h x ox C od) where
 ty:=λ_ _ _ I=>I.type
 it:=λ_ _ KX _=>by
  obtain⟨cd,hc,_⟩:=wW i.c.hd;unfold clsIn at hc;split at hc
  .rename_i ho
   intro A' Q' E' s' k q;unfold isType loadHead;exact mO (wpAny_loadPart (k _ _ (KX _ _ ho)) (mW q))
  .cases hc
 ne:=λh tp dd its n sl KX htp=>by
  obtain⟨cd,hc,_⟩:=wW i.c.hd;refine tN.mpr λq=>?_;have e:C=tp:=Value.ref.inj (beq_iff_eq.mp q);subst e;unfold clsIn at hc;split at hc
  .rename_i ho
   have z:=(KX _ _ ho).symm.trans htp;cases z
  .cases hc
 ca:=λKX I k=>ZoD i KX I k
end
inductive sZ (K:Frag) (H:Hp):V->Value->Prop where
 | pl {x:V} {t:Value} (h:ie K H x t):sZ K H x t
 | seqL {a:AD} {xs:JR} (h:oj K H a xs):sZ K H (.ref a) (.type "list")
 | seqT {a:AD} {xs:JR} (h:oW K H a xs):sZ K H (.ref a) (.type "tuple")
 | exc {e C:AD} {fs:List (Str×V)} (x:rL H e C fs) (i:Xi K C):sZ K H (.ref e) (.ref C)
noncomputable def clsV:V->Option Value
 | .ref a=>some (.ref a)
 | .ty n=>some (.type n)
 | _=>none
def ZhO:rq X (.builtin "isinstance") (λxs H Q=>∃x c t k b,xs=[x,c]/\clsV c=some k/\sZ X.K H x t/\kitOne X.K t k=some b/\Q (.bl b) H):=by
 rintro Aq s U H xs us Q I r ⟨x,c,t,k,b,rfl,hk,ty,e,q⟩;obtain⟨u,v,rfl,ru,rv⟩:=r.two;have hv:v=k:=by
  cases c with
  | ref a=>cases hk;exact rv
  | ty n=>cases hk;exact rv
  | _=>cases hk
 subst hv;cases ty with
 | pl ty=>exact Zku I ru ty e λtk=>⟨.bl b,H,I.tok _,rfl,q⟩
 | seqL h=>
  cases ru;obtain⟨its,_,⟨o,n,ho,hc,_⟩,_⟩:=I.list h;exact sv yt I.kIn ⟨o,ho,hc⟩ e (λz=>nomatch z) λtk=>⟨.bl b,H,I.tok _,rfl,q⟩
 | seqT h=>
  cases ru;obtain⟨its,_,⟨o,ho,hc,_⟩,_⟩:=I.tuple h;exact sv kitx_tuple I.kIn ⟨o,ho,hc⟩ e (λz=>nomatch z) λtk=>⟨.bl b,H,I.tok _,rfl,q⟩
 | exc x i=>
  cases ru;obtain⟨ox,od,J,_⟩:=x.inst I;exact sv (Ii i) I.kIn J e (λz=>nomatch z) λtk=>⟨.bl b,H,I.tok _,rfl,q⟩
def HH (K:Frag)(ta tv:TE)(f:Str):TS:=λD U H=>tv U H λy H1=>ta U H1 λx H2=>∃e C fs,x=.ref e/\rL H2 e C fs/\Xc K C/\ge K C f/\fs.length<1000 /\
 ∀H',rL H' e C (gs f y fs)->(∀b o,H2 b=some o->b≠e->(∀d,H2 e=some (xo e C (some d))->b≠d)->H' b=some o)->(∃d,H' e=some (xo e C (some d))/\(H2 e=some (xo e C (some d))\/H2 d=none))->D.nx U H'
def Znb (K:Frag)(C:AD)(t:TA):TE:=λU H Q=>t U H λvs H1=>vs.length<=1000/\∀e,H1 e=none->Q (.ref e) (upd H1 e (xo e C none))
def Jg (C:AD)(sp:Sp)(E:XK)(t:TA):TE:=λU H Q=>t U H λvs H1=>vs.length<=1000/\∀e,H1 e=none->sp (.ref e::vs) (upd H1 e (xo e C none)) (λv H2=>v=.non/\Q (.ref e) H2) E
section
def Znz (ha:PE X o ta)(hv:PE X value tv)(hs:swapsWith value (some (.Attribute o f pos')) pos.line X.env=pure false):PS X (.Assign [.Attribute o f pos'] value pos) (HH X.K ta tv f):=by intro Aq s U H D I h;refine plainObj_wpAny_Assign_Attribute (m8 (hv Aq s U H _ I h) λu s1 ⟨y,H1,I1,ry,q⟩=>m8 (ha Aq s1 U H1 _ I1 q) λov s2 zz=>?_) hs;obtain⟨x,H2,I2,rx,a,C,fs,ex,xa,c,n,l,q2⟩:=zz;subst ex;obtain rfl:ov=Value.ref a:=rx;exact xset I2 xa c n l ry λs3 H3 I3 x3 k3 d3=>⟨U,H3,I3,q2 H3 x3 k3 d3⟩
def Xm.parts {K:Frag}{C:AD}(m:Xm K C):∃(nm q:Str) (N:AD) (bs bm:AC) (Ay:Bool) (sn:AJ) (sub:AC) (ab:Bool) (col:Option Bool) (dd:Option AD) (k0 k1 k2 k3 k5:Option Value),
  K.lookup C=some (excClassObj nm q C N bs bm Ay sn sub ab col dd k0 k1 k2 k3 k5 "ValueError.__new__")/\iq (.ref C::bm)=true:=by
 obtain⟨nm,qn,N,bs,bm,Ay,sn,sub,ab,col,dd,k0,k1,k2,k3,k5,lC⟩:=m.ob;refine⟨nm,qn,N,bs,bm,Ay,sn,sub,ab,col,dd,k0,k1,k2,k3,k5,lC,?_⟩;have hm:=m.c.mr;unfold clsIn at hm;rw[lC]at hm;exact hm
def ZjM (m:Xm X.K C) (hi:findIn X.K (.ref C) "__init__"=some (some (.ref fI))) (hfn:isFn X.K (.ref fI)=true)
  (F:f7 X.prog X.w X.K X.mg X.base CX k fI fd ps sp) (hr:gz (k+1) X.A) (hb:gR X.K fd ps []) (hxp:sW CX X E) (I:mP X Aq U H s) (r:fV vs us) (hz:vs.length<=1000)
  (h:∀e,H e=none->sp (.ref e::vs) (upd H e (xo e C none)) (λv H2=>v=.non/\Q (.ref e) H2) E):wpAny (model X.prog X.w) X.A (call (.ref C) us) (EP X Aq U Q) X.xe s:=by
 obtain⟨nm,qn,N,bs,bm,Ay,sn,sub,ab,col,dd,k0,k1,k2,k3,k5,lC,hx⟩:=m.parts;have I2:=mP.xmade (C:=C) (us:=us) I;have hq:=h (s.heap.objs.size+1) (I.hok.fresh (uk _));have hz':us.length<=sizeLine:=by rw[<-r.length];exact og hz (by rw[sizeLine_eq];decide)
 have KX:=I.kIn;have hC:=KX _ _ lC;have r2:fV (V.ref (s.heap.objs.size+1)::vs) (Value.ref (s.heap.objs.size+1)::us):=.cons rfl r;have hl:((Value.ref (s.heap.objs.size+1)::us)++[]).length=ps.length:=by have e:=r2.length;rw[F.len _ _ _ _ hq]at e;rw[va];exact e.symm
 have hb2:=hb { s with heap:=(s.heap.push (iD us)).push (il C s.heap.objs.size) } (Value.ref (s.heap.objs.size+1)::us) I2.kIn hl;rw[va]at hb2;obtain⟨hp,g,d,t,os⟩:=s;refine uu (ZqA (K:=X.K) KX hx hC (xj KX hi) (λself=>bind_fn KX self (beq_iff_eq.mp hfn)) hz' ?_);refine codeAny_mono (F.run _ X.stack _ _ ⟨Value.ref (hp.objs.size+1)::us,[]⟩ (Value.ref (hp.objs.size+1)::us) _ _ E (hr.make C us []) (I2.env0.make C us []) hb2 r2 hq) λr s' hq'=>?_;cases r with
 | error e=>exact hxp Aq U _ _ e s' I2 hq'
 | ok fl=>
  cases fl with
  | ret u=>
   obtain⟨v,H',I3,rv,ev,q3⟩:=I2.after hq';subst ev;exact⟨rv,⟨V.ref (hp.objs.size+1),H',I3,rfl,q3⟩⟩
  | next=>exact False.elim hq'
  | brk=>exact False.elim hq'
  | cont=>exact False.elim hq'
def ZlA (m:Xm X.K C) (hi:findIn X.K (.ref C) "__init__"=some (some (.ref fI))) (hfn:isFn X.K (.ref fI)=true)
  (F:f7 X.prog X.w X.K X.mg X.base CX k fI fd ps sp) (hr:gz (k+1) X.A) (hb:gR X.K fd ps []) (hxp:sW CX X E) (hg:Gl X x) (hm:X.mg x=some (.ref C)) (ha:PA X (e::es) t)
  (hdb:(x == ("__debug__":Str))=false:=by decide) (he:starEach (e::es) X.env=(false,eval e X.env)::starEach es X.env:=by rfl) (hpl:(backTo pos (starEach es X.env)).any (·.1)=false:=by rfl):
  PE X (.Call (.Name x p) (e::es) [] pos) (Jg C sp E t):=by
 intro Aq s U H Q I h;refine uz (vG I hg hm ?_ hdb);refine xR (h₀:=X.base) I.ok.mod.kin m.kp (m8 (ha pos Aq s U H _ I h) λus s1 ⟨vs,H1,I1,r,hz,q⟩=>⟨I1.kIn,?_⟩) he hpl;exact ZjM m hi hfn F hr hb hxp I1 r hz q
structure g6 (K:Frag)(C:AD)(f:Str)(v:Value):Prop where
 sp:specialIn K (.ref C) "__getattribute__"=some (some (.builtin "type.__getattribute__"))
 rd:readsIn K C (.type "type")=true
 fd:findCls K (.ref C) (.type "type") f=some (.val v)
 hn:handedIn v=true
def Gz (K:Frag)(t:TA):TE:=λU H Q=>t U H λvs H1=>∃e C d gx,vs=.ref e::gx/\H1 e=some (xo e C d)/\Xm K C/\gx.length<=1000/\Q .non H1
def ZlB (hg:Gl X x) (hm:X.mg x=some (.ref L)) (cr:g6 X.K L "__init__" (.builtin "ValueError.__init__")) (ha:PA X (e::es) t)
  (hdb:(x == ("__debug__":Str))=false:=by decide) (hst:starEach (e::es) X.env=(false,eval e X.env)::starEach es X.env:=by rfl) (hpl:(backTo pos (starEach es X.env)).any (·.1)=false:=by rfl)
  (ht:eval (.Call (.Attribute (.Name x np) "__init__" Aw) (e::es) [] pos) X.env=(do
   let ov <-eval (.Name x np) X.env
   standAt Aw.atName
   let (f,first) <-holding [ov] (getMethod ov "__init__" pl)
   callWith pos f first (backTo pos (starEach (e::es) X.env)) (backToKw pos (keywordEach [] X.env))):=by rfl):
  PE X (.Call (.Attribute (.Name x np) "__init__" Aw) (e::es) [] pos) (Gz X.K t):=by
 intro Aq s U H Q I h;refine methodCall_KW (pl:=pl) (vG I hg hm ?_ hdb) ht;refine method_cls I.kIn cr.sp (cls_value I.kIn cr.rd cr.fd cr.hn ?_);refine BQ (m8 (ha pos Aq _ U H _ (I.tok _) h) λus s1 zz=>?_) hst hpl;obtain⟨vs,H1,I1,r1,ev,C,d,gx,evs,hx,m,hz,q⟩:=zz;subst evs;cases r1 with
 | cons ru rr=>
  cases ru;refine uu (Zjj I1 m hx (by rw[<-rr.length];exact og hz (by rw[sizeLine_eq];decide)) _ λs' I3=>?_);exact⟨.non,H1,I3,rfl,q⟩
end
section
def mP.turnedN {t':Nat}{h':Heap}{fp:List AD}(I:mP X Aq U H s)(k:∀b o,b∉fp->s.heap.get? b=some o->h'.get? b=some o)(hf:∀b∈fp,io X Aq H b):mP X Aq U H { s with heap:=h',toks:=t' }:=by
 have nit:∀b u,H b=some u->b∉fp:=λb u e z=>by rw[(hf b z).1]at e;cases e
 refine I.step (g':=s.gens) (d':=s.drawn) (ch:=fp) (λb hb=>?_) (λb o _ _ hc e _=>k b o hc e) (λb o _ _ hc e _=>⟨o.slots,k b o hc e⟩) (λ_ _ _ _ n=>n)
  (λb o hc e=>⟨o,k b o hc e⟩) (λ_ _ e=>e) (λ_ _ _ e=>e) (λb ps e=>⟨#[],by rw[e];simp⟩) (λm hm=>?_) (λb u e=>?_) I.bare
 .obtain⟨_,f1,_,f3,f4,f5⟩:=hf b hb;exact⟨f3,f1,f4,f5⟩
 .obtain⟨o,es,ep,ho,r⟩:=hm;exact⟨o,es,ep,k _ o (λz=>(hf _ z).2.1 rfl) ho,r⟩
 .refine(I.hok b u e).stay (λc v hc q=>k c v ?_ q) (λ_ q=>q) λ_ _ q=>q;rcases hc with z | z
  .rw[z];exact nit b u e
  .exact nit c _ z
def mP.track (I:mP X Aq U H s)(hf:io X Aq H p)(hs:X.s_0.heap.objs.size<=p)(ok:gg X.prog X.w (upd H p o) s.heap p o):mP X Aq U (upd H p o) s:=by
 obtain⟨f0,f1,f2,f3,f4,f5⟩:=hf;have ne:∀b o',X.s_0.heap.get? b=some o'->b≠p:=λb o' e=>oO (qz (nP e) hs);have nh:∀b u,H b=some u->b≠p:=λb u e=>on e f0;refine⟨I.ok,I.os,I.bare,⟨I.base.keep,I.base.slot,λb o' e n hb=>?_,I.base.there,λb xs e=>?_,λb o' u e=>?_,λb ps e=>?_⟩,I.loc,I.cell,?_,λx c e=>?_,λq hq=>?_,λb u e=>?_,I.len⟩
 .rw[mT (ne b o' e)];exact I.base.free b o' e n hb
 .have:=I.base.tups b xs e;rw[mT (nh b _ this)];exact this
 .have:=I.base.frzs b o' u e;rw[mT (nh b _ this)];exact this
 .obtain⟨m,q⟩:=I.base.tbls b ps e;exact⟨m,by rw[mT (nh b _ q)];exact q⟩
 .rw[mT (nX f1)];exact I.free
 .rw[mT (f4 x c e)];exact I.freeC x c e
 .obtain⟨e,n,r⟩:=I.pin q hq;refine⟨e,?_,r⟩;rw[mT (f5 q hq)];exact n
 .by_cases hb:b=p
  .subst hb;rw[nu]at e;cases e;exact ok
  .rw[mT hb]at e;refine(I.hok b u e).stay (λ_ _ _ q=>q) (λc q=>?_) λc xs q=>?_
   .rw[mT (nh c _ q)];exact q
   .rw[mT (nh c _ q)];exact q
end
def Ite (K:Q4)(a:AD):It:=
 ⟨λi H=>∃xs x,oj K H a xs/\xs[i]?=some x,λi H x H'=>∃p v,H p=none/\x=.ref p/\H'=upd H p (.tup [.int i,v])/\∀xs,oj K H a xs->xs[i]?=some v,λi H=>∃xs,oj K H a xs/\xs.length<=i⟩
section
end
section
def q_I:rI C g (.int i) (.int j) H Q=(C i j/\Q (g i j) H):=rfl
def q_I0:u7 g (.int i) (.int j) H Q=Q (g i j) H:=rfl
def q_U:rU g (.int i) H Q=Q (g i) H:=rfl
def q_T:rT C g (tx a) (tx b) H Q=(C a b/\Q (g a b) H):=rfl
def mG:CS (some (some v)) p=p v:=rfl
def mC {v:V}{p:V->Prop}:(∃u,v=u/\p u)=p v:=
 propext ⟨λ⟨_,e,h⟩=>by cases e;exact h,λh=>⟨v,rfl,h⟩⟩
end
open PySem.W (Frag findIn specialIn typeIn mroIn clsIn subIn kitOne kitCls)
def HU (sc sco:Scope):Bool:=decide (sc.kind=.function)&&sc.names.all λy=>decide (y.2≠NameKind.cell)&&(decide (y.2≠NameKind.local) || decide (sc.names.lookup y.1=some NameKind.local)) &&
 (decide (y.2≠NameKind.free) || (decide (sco.names.lookup y.1=some NameKind.cell) || decide (sco.names.lookup y.1=some NameKind.free)))
def sw (h:HU sc X.env.scope=true):gT X sc:=by
 unfold HU at h;rw[oJ,sE]at h;obtain⟨h1,h2⟩:=h;refine⟨JK h1,λy hy=>?_,λy hy e=>?_,λy hy e=>?_⟩
 .have:=h2 y hy;simp only[oJ,Bool.or_eq_true,JQ]at this;exact this.1.1
 .have:=h2 y hy;simp only[oJ,Bool.or_eq_true,JQ]at this;rcases this.1.2 with z | z
  .exact JO e z
  .exact z
 .have:=h2 y hy;simp only[oJ,Bool.or_eq_true,JQ]at this;rcases this.2 with z | z | z
  .exact JO e z
  .exact .inl z
  .exact .inr z
section
variable {K:Frag}{H:Hp}{C D:AD}
structure iH (K:Frag)(C:AD)(mro:AC):Prop where
 cd:∃cd,clsIn K C=some cd/\cd.mro=mro
 ty:typeIn K (.ref C)=some (.type "type")
 ne:mro.isEmpty=false
def Gd (c:iH K C m1)(d:iH K D m2)(h:m1.contains (.ref D)=b)(hh:C=D->b=true):kitOne K (.ref C) (.ref D)=some b:=by
 obtain⟨cd,e1,e2⟩:=c.cd;obtain⟨cd',e3,e4⟩:=d.cd;unfold kitOne;split
 .rename_i z
  have z':Value.ref C=Value.ref D:=by simpa using z
  cases z';rw[hh rfl]
 .unfold PySem.W.kitCls;dsimp only;rw[e3,d.ty];simp only[Option.isSome_some,sS,beq_self_eq_true,if_true];unfold PySem.W.subIn mroIn;dsimp only;rw[e1,uj,e2,c.ne,h];rfl
def EU (K:Frag)(C:AD)(n:Nat)(fs:JR->List (Str×V)):Sp:=λvs H Q _=>∃e r,vs=.ref e::r/\r.length=n/\H e=some (xo e C none) /\
 ∀H',rL H' e C (fs r)->(∀b o,H b=some o->b≠e->H' b=some o)->Q .non H'
def pX (h:H a=none):fT H (upd H a o):=λb u hb=>by rw[mT (on hb h)];exact hb
end
def Mk0 (C:AD)(H:Hp)(Q:VK):Prop:=∀e,H e=none->Q (.ref e) (upd H e (xo e C none))
def zu (sp:Sp)(E:XK)(C:AD)(vs:JR)(H:Hp)(Q:VK):Prop:=∀e,H e=none->sp (.ref e::vs) (upd H e (xo e C none)) (λv H2=>v=.non/\Q (.ref e) H2) E
def gB (xs:JR)(H:Hp)(Q:VK):Prop:=∀p,H p=none->Q (.ref p) (upd H p (.lst xs))
def gQ (xs:JR)(H:Hp)(Q:VK):Prop:=∀p,H p=none->Q (.ref p) (upd H p (.tup xs))
section
variable {K:Frag}{C:AD}{sp:Sp}{E:XK}{t:TA}{U:St}{H:Hp}{Q:VK}{vs:JR}
def Zrj:Znb K C t U H Q=t U H (λvs H1=>vs.length<=1000/\Mk0 C H1 Q):=rfl
def Zri:Jg C sp E t U H Q=t U H (λvs H1=>vs.length<=1000/\zu sp E C vs H1 Q):=rfl
def Zrk:tLst t U H Q=t U H (λxs H1=>xs.length<=sizeLine/\gB xs H1 Q):=rfl
def Zrh:tTup t U H Q=t U H (λxs H1=>xs.length<=sizeLine/\gQ xs H1 Q):=rfl
def Gf:kE (.ref l) (.ref b) H Q=∃xs zs,H l=some (.lst xs)/\H b=some (.lst zs)/\xs.length+zs.length<=sizeLine/\gB (xs++zs) H Q:=
 propext ⟨λ⟨_,_,xs,zs,e1,e2,h⟩=>by cases e1;cases e2;exact⟨xs,zs,h⟩,λ⟨xs,zs,h⟩=>⟨l,b,xs,zs,rfl,rfl,h⟩⟩
def zu.of (hn:vs.length=n)(h:∀e H',fT H H'->H e=none->rL H' e C (fs vs)->Q (.ref e) H'):zu (EU K C n fs) E C vs H Q:=
 λe he=>⟨e,vs,rfl,hn,nu,λH' x k=>⟨rfl,h e H' (λb o hb=>k b o (by rw[mT (on hb he)];exact hb) (on hb he)) he x⟩⟩
def gB.of (h:∀p H',fT H H'->H p=none->H' p=some (.lst vs)->Q (.ref p) H'):gB vs H Q:=λp hp=>h p _ (pX hp) hp nu
def gQ.of (h:∀p H',fT H H'->H p=none->H' p=some (.tup vs)->Q (.ref p) H'):gQ vs H Q:=λp hp=>h p _ (pX hp) hp nu
def gB.at (h:∀p,H p=none->Q (.ref p) (upd H p (.lst vs))):gB vs H Q:=h
def gQ.at (h:∀p,H p=none->Q (.ref p) (upd H p (.tup vs))):gQ vs H Q:=h
def yo:bootBuiltins "str"=some (.type "str"):=by decide +kernel
def DA:bootBuiltins "int"=some (.type "int"):=by decide +kernel
def xb:bootBuiltins "bool"=some (.type "bool"):=by decide +kernel
def uh:bootBuiltins "list"=some (.type "list"):=by decide +kernel
def wb:bootBuiltins "tuple"=some (.type "tuple"):=by decide +kernel
def EV:bootBuiltins "set"=some (.type "set"):=by decide +kernel
def Zqr:bootBuiltins "zip"=some (.type "zip"):=by decide +kernel
def oz:bootBuiltins "len"=some (.builtin "len"):=by decide +kernel
def qb:bootBuiltins "isinstance"=some (.builtin "isinstance"):=by decide +kernel
def Zqu:bootBuiltins "all"=some (.builtin "all"):=by decide +kernel
def Zqt:bootBuiltins "min"=some (.builtin "min"):=by decide +kernel
def Co:bootBuiltins "sorted"=some (.builtin "sorted"):=by decide +kernel
def Zqs:bootBuiltins "sum"=some (.builtin "sum"):=by decide +kernel
end
def vF (K:Frag)(H:Hp)(d:DT)(x:V):Prop:=fY K H d x/\oX d d=true/\sQ d<=60
def ZjD (h:pR x=true):jP x x=true:=by cases x<;>first | rfl | cases h
def jR {K:Frag}{H:Hp}{Q:VK}{d:DT}{x:V}(o:vF K H d x)(q:Q (.bl true) H):iz K false x x H Q:=by
 obtain⟨h1,h2,h3⟩:=o;by_cases hf:pR x=true
 .exact .inl ⟨ZjD hf,by rw[JI rfl];exact q⟩
 .exact .inr ⟨d,d,h1,h1,λz=>hf z.1,h3,by rw[h2];exact q⟩
def vF.same {K:Frag}{H H':Hp}{d:DT}{x:V}(o:vF K H d x)(s:fT H H'):vF K H' d x:=⟨s.dat o.1,o.2⟩
def oj.mk {K:Frag}{H:Hp}{a:AD}{xs:JR}(h:H a=some (.lst xs)):oj K H a xs:=.inl (.inl h)
def oW.mk {K:Frag}{H:Hp}{a:AD}{xs:JR}(h:H a=some (.tup xs)):oW K H a xs:=.inl (.inl h)
def Zqp (h1:H l=some (.lst xs))(h2:H b=some (.lst zs))(hz:xs.length+zs.length<=sizeLine)
  (h:∀p H',fT H H'->H p=none->H' p=some (.lst (xs++zs))->Q (.ref p) H'):kE (.ref l) (.ref b) H Q:=⟨l,b,xs,zs,rfl,rfl,h1,h2,hz,λp hp=>h p _ (pX hp) hp nu⟩
def Zqy:¬(some (xo e C none)=some (xo e C (some d))):=by
 intro z;have z1:xo e C none=xo e C (some d):=Option.some.inj z;unfold xo at z1;injection z1 with z2;have hget:(⟨Array.replicate (e+1) (il C 0),{known:=0}⟩:Heap).get? e=some (il C 0):=by
  unfold Heap.get?;have:(Array.replicate (e+1) (il C 0))[e]?=some (il C 0):=by simp
  dsimp only;rw[this]
 have q:=congrFun z2 ⟨Array.replicate (e+1) (il C 0),{known:=0}⟩;have l:∃(o:Obj) (t:AD),(⟨Array.replicate (e+1) (il C 0),{known:=0}⟩:Heap).get? e=some o/\o.cls=.ref C/\o.dict=none/\o.data=.fields #[.ref t,.none,.none,.none,.bool false,.none]:=⟨_,0,hget,rfl,rfl,rfl⟩;have r:=q.mp l;obtain⟨o,t,h1,_,h3,_⟩:=r;rw[hget]at h1;cases h1;cases h3
section
variable {X:Cx}{K:Frag}
def qV (hK:X.K=K)(hu:X.A.units+64<cLine):oZ X (compareOp .Eq) (iz K false):=by subst hK;exact Ie hu
def uE (hK:X.K=K)(hu:X.A.units+64<cLine):oZ X (compareOp .NotEq) (iz K true):=by subst hK;exact Zpl hu
def uD (hK:X.K=K):wY X (lz K):=by subst hK;exact Zn5
def wM (hK:X.K=K):wY X (rIxT K):=by subst hK;exact ZpX
def Zli (hK:X.K=K):BG X (rSlL K):=by subst hK;exact Znf
def ZiR (hK:X.K=K):oZ X (compareOp .In) (Cn K false):=by subst hK;exact Zj6
def EC (hK:X.K=K):oZ X (compareOp .NotIn) (Cn K true):=by subst hK;exact Zgi
def oC (hK:X.K=K):rq X (.builtin "len") (λxs H Q=>∃x n,xs=[x]/\ko K x H n/\Q (.int n) H):=by subst hK;exact Zmo
def ZfU (hK:X.K=K):rq X (.type "list") (λxs H Q=>∃p ys,xs=[.ref p]/\(oj K H p ys\/oW K H p ys)/\∀l,H l=none->Q (.ref l) (upd H l (.lst ys))):=by subst hK;exact ZgV
def Hh (hK:X.K=K):rq X (.type "tuple") (λxs H Q=>∃p ys,xs=[.ref p]/\((oj K H p ys/\∀l,H l=none->Q (.ref l) (upd H l (.tup ys)))\/(oW K H p ys/\Q (.ref p) H))):=by subst hK;exact ZfS
def pD (hK:X.K=K)(he:PE X e ta)(hb:attributeBase e f X.env (eval e X.env)=eval e X.env):PE X (.Attribute e f pos) (lA K ta f):=by subst hK;exact Zph he hb
def rX (hK:X.K=K)(hl:PE X l tl):PI X tg l (C3 K tl):=by subst hK;exact ZnC hl
def ZnB (hK:X.K=K)(hl:PE X l tl):PI X tg l (mq K tl):=by subst hK;exact Zpd hl
end
def cxK {CX:tK}{P:AG}{w:AI}{K:Q4}{mg:AB}{base:Heap}{N:AJ}{qual:Str}{scope:Scope}{f:AD}{cd:Value}{A:AH}{outer:List Env}{s:AE}{H:Hp}{E:XK}:
  (ir CX P w K mg base N qual scope f cd A outer s H E).K=K:=rfl
def bxK:(bx X sc N fp s_0 H pn).K=X.K:=rfl
end L2
namespace L2
open PySem PySem.W
def DG (K:Frag)(x:Str)(s:Stmt)(f:AD)(e:AF):Prop:=nsIn K mainGlobals x=some (some (.ref f))/\rJ K x x s f e
def MG (K:Frag)(x q:Str)(s:Stmt)(f:AD)(e:AF):Prop:=rJ K x q s f e/\isFn K (.ref f)=true
structure XG (K:Frag)(x:Str)(C:AD)(L:AC):Prop where
 a:nsIn K mainGlobals x=some (some (.ref C))
 m:Xm K C
 i:Xi K C
 k:iH K C L
def xg_mk {K:Frag} {x:Str} {C:AD} {L:AC} {cd:ClassData} {nm qn:Str} {N:AD} {bs bm:AC} {Ay:Bool} {sn:AJ} {sub:AC} {ab:Bool} {col:Option Bool} {dd:Option AD} {k0 k1 k2 k3 k5:Option Value} (a:nsIn K mainGlobals x=some (some (.ref C))) (q:clsIn K C=some cd) (r:cd.mro=L) (ty:typeIn K (.ref C)=some (.type "type"))
  (ga:findIn K (.ref C) "__getattribute__"=some (some (.builtin "BaseException.__getattribute__"))) (gr:findIn K (.ref C) "__getattr__"=some none) (sa:findIn K (.ref C) "__setattr__"=some (some (.builtin "object.__setattr__"))) (hd:hasDictIn K C=true)
  (ob:K.lookup C=some (excClassObj nm qn C N bs bm Ay sn sub ab col dd k0 k1 k2 k3 k5 "ValueError.__new__")) (kp:keepIn K (.ref C)=true) (ha:findIn K (.ref C) "__class__"=some (some (.builtin "object.__class__")))
  (hn:specialIn K (.builtin "object.__class__") "__get__"=some (some (.builtin "getset_descriptor.__get__"))) (tk:takesIn K (.builtin "object.__class__")=some true) (x1:iq L=true) (x2:L.isEmpty=false):XG K x C L:=
 have c:Xc K C:=⟨ga,gr,sa,hd,by rw[q];show iq cd.mro=true;rw[r];exact x1⟩
 ⟨a,⟨c,⟨_,_,_,_,_,_,_,_,_,_,_,_,_,_,_,_,ob⟩,kp⟩,⟨c,ha,hn,tk⟩,⟨⟨_,q,r⟩,ty,x2⟩⟩
def dg_mk {K:Frag}{x:Str}{st:Stmt}{f:AD}{oc:Value}{od an:Option AD}{osl:Array (Option Value)}{kV doc pm Ar ct:Value}(a:nsIn K mainGlobals x=some (some (.ref f)))(l:K.lookup f=some ⟨oc,od,.func (fnOf x x (uF st) (tE st) (qQ st) .none kV doc pm an Ar ct),osl⟩)
  (c:codeIn K Ar x=true) (k:keepIn K (.ref f)=true):DG K x st f (fnOf x x (uF st) (tE st) (qQ st) .none kV doc pm an Ar ct):=⟨a,Hg l c k⟩
def mg_mk {K:Frag}{x q:Str}{st:Stmt}{f:AD}{oc:Value}{od an:Option AD}{osl:Array (Option Value)}{kV doc pm Ar ct:Value}(l:K.lookup f=some ⟨oc,od,.func (fnOf x q (uF st) (tE st) (qQ st) .none kV doc pm an Ar ct),osl⟩)
  (c:codeIn K Ar q=true) (k:keepIn K (.ref f)=true) (n:isFn K (.ref f)=true):MG K x q st f (fnOf x q (uF st) (tE st) (qQ st) .none kV doc pm an Ar ct):=⟨Hg l c k,n⟩
structure DF (K:Frag)(mg:AB)(x:Str)(st:Stmt)(f:AD)(d:AF)(ps:AJ):Prop where
 m:mg x=some (.ref f)
 u:rJ K x x st f d
 b:gR K d ps []
structure MF (K:Frag)(x q:Str)(st:Stmt)(f:AD)(d:AF)(ps:AJ):Prop where
 u:rJ K x q st f d
 b:gR K d ps []
section
def o8 (X:K.In h)(G:h.Ns mainGlobals mg)(D:DG K x st f d)(b:∀(kV doc pm:Value) (an:Option AD) (Ar ct:Value) (us:AC),us.length=ps.length->bindArgs (fnOf x x (uF st) (tE st) (qQ st) .none kV doc pm an Ar ct) ⟨us,[]⟩=pure (ps.zip us)):DF K mg x st f d ps:=⟨mg_of X G D.1,D.2,D.2.binds b⟩
def qi (D:MG K x q st f d)(b:∀(kV doc pm:Value) (an:Option AD) (Ar ct:Value) (us:AC),us.length=ps.length->bindArgs (fnOf x q (uF st) (tE st) (qQ st) .none kV doc pm an Ar ct) ⟨us,[]⟩=pure (ps.zip us)):MF K x q st f d ps:=⟨D.1,D.1.binds b⟩
end
section
def nW (F:f7 X.prog X.w X.K X.mg X.base CX k f fd ps sp)(hr:gz k X.A)(hg:Gl X x)(D:DF X.K X.mg x st f fd ps)(hx:sW CX X E)
  (ha:PA X (e::es) t) (hdb:(x == ("__debug__":Str))=false:=by decide) (he:starEach (e::es) X.env=(false,eval e X.env)::starEach es X.env:=by rfl) (hpl:(backTo pos (starEach es X.env)).any (·.1)=false:=by rfl):
  PE X (.Call (.Name x p) (e::es) [] pos) (Ba sp [] E t):=ZnE F hr hg D.m D.u.kp D.b .nil hx ha hdb he hpl
def hM (hr:gz n A)(h:k<=n:=by decide):gz k A:=hr.mono h
def nJ (hN:X.N.Nodup)(he:PE X e te)(hi:X.N[i]?=some x:=by rfl)(hx:xu X.env.scope x:=by exact Or.inl rfl)(hs:swapsWith e (some (.Name x pos')) pos.line X.env=pure false:=by rfl)(hf:X.fn x=true\/X.env.scope.names.lookup x=some .local:=by first | exact .inl rfl | exact .inr rfl | assumption):PS X (.Assign [.Name x pos'] e pos) (jN te (sO i)):=xF hN hi hx he hs hf
end
end L2
namespace L2
open PySem PySem.Spec PyProof.Rows
open PySem.W (Frag)
def f9 (J:It)(g:TG)(tb:TS)(D:ia)(U:St)(H:Hp):Prop:=∃W:Nat->Nat->St->Hp->Prop,(∃m,W 0 m U H)/\∀i m U H,W i m U H ->
 (J.stop i H/\D.nx U H)\/(J.go i H/\∃N:St->Hp->Prop,(∀U' H',N U' H'->∃m',m'<m/\W (i+1) m' U' H')/\∀x H',J.yld i H x H'->g x U H' λU2 H2=>tb { D with nx:=N,ct:=N,bk:=D.nx } U2 H2)
def Zrl:tFor wi g tb D U H=wi U H λJ H1=>f9 J g tb D U H1:=rfl
def f8 (J:It)(τ0:St)(g:TG)(tt:TT)(te:TE)(H1:Hp)(Q:VK):Prop:=∀acc,H1 acc=none->∃W:Nat->Nat->St->Hp->Prop,(∃m,W 0 m τ0 (upd H1 acc (.lst []))) /\
 ∀i m τ H2,W i m τ H2->(J.stop i H2/\Q (.ref acc) H2)\/(J.go i H2/\∃Nx:St->Hp->Prop,(∀τ' H',Nx τ' H'->∃m',m'<m/\W (i+1) m' τ' H') /\
  ∀x H3,J.yld i H2 x H3->g x τ H3 λτ2 H4=>tt τ2 H4 λb H5=>if b=true then te τ2 H5 λy H6=>∃ys,H6 acc=some (.lst ys)/\ys.length<sizeLine/\Nx τ2 (upd H6 acc (.lst (ys++[y]))) else Nx τ2 H5)
def Zo8:CA ix wi g tt te U H Q=wi U H λJ H1=>f8 J (pick ix U) g tt te H1 Q:=rfl
section
variable {g:TG}{tb:TS}{D:ia}{U:St}{H:Hp}{K:Frag}{a:AD}{xs:JR}
def f9.list (Pv:Nat->St->Hp->Prop)(h0:Pv 0 U H)(hl:∀i U H,i<=xs.length->Pv i U H->oj K H a xs)
  (hs:∀i x U H,xs[i]?=some x->Pv i U H->g x U H λU2 H2=>tb { D with nx:=Pv (i+1),ct:=Pv (i+1),bk:=D.nx } U2 H2) (hd:∀U H,Pv xs.length U H->D.nx U H):f9 (vy K a) g tb D U H:=
 Zl8 Pv h0 hl hs hd
def f9.range {lo:Int}{n:Nat}(Pv:Nat->St->Hp->Prop)(h0:Pv 0 U H)
  (hs:∀i U H,i<n->Pv i U H->g (.int (lo+i)) U H λU2 H2=>tb { D with nx:=Pv (i+1),ct:=Pv (i+1),bk:=D.nx } U2 H2) (hd:∀U H,Pv n U H->D.nx U H):
  f9 (uO lo n) g tb D U H:=ZkE Pv h0 hs hd
def f9.text (Pv:Nat->St->Hp->Prop)(h0:Pv 0 U H)
  (hs:∀i c U H,l[i]?=some c->Pv i U H->g (tx [c]) U H λU2 H2=>tb { D with nx:=Pv (i+1),ct:=Pv (i+1),bk:=D.nx } U2 H2) (hd:∀U H,Pv l.length U H->D.nx U H):
  f9 (we l) g tb D U H:=Zl7 Pv h0 hs hd
end
section
def f8.gen (v:Nat->V)(b:Nat->Bool)(f:Nat->V)(hz:n<=1000)(hgo:∀i H',i<n->fT H H'->J.go i H')(hst:∀H',fT H H'->J.stop n H')(hy:∀i H' x H3,i<n->fT H H'->J.yld i H' x H3->H3=H'/\x=v i)
  (ht:∀i H' Q',i<n->fT H H'->(∀H'',fT H' H''->Q' (b i) H'')->tt (τ0.set 0 (some (v i))) H' Q')
  (he:∀i H' Q',i<n->b i=true->fT H H'->(∀H'',fT H' H''->Q' (f i) H'')->te (τ0.set 0 (some (v i))) H' Q')
  (hQ:∀p H',fT H H'->H p=none->H' p=some (.lst (((List.range n).filter b).map f))->Q (.ref p) H'):f8 J τ0 (sO 0) tt te H Q:=by
 intro acc ha;refine⟨λi m τ H2=>i<=n/\m=n-i/\(∀w:Option V,τ.set 0 w=τ0.set 0 w)/\fT H H2/\H2 acc=some (.lst (((List.range i).filter b).map f)),⟨n,pE _,rfl,λ_=>rfl,pX ha,nu⟩,?_⟩;rintro i m τ H2 ⟨hi,rfl,hτ,hs,Au⟩;by_cases A1:i<n
 .refine .inr ⟨hgo i H2 A1 hs,λτ' H'=>(∀w:Option V,τ'.set 0 w=τ0.set 0 w)/\fT H H'/\H' acc=some (.lst (((List.range (i+1)).filter b).map f)),λτ' H' q=>⟨n-(i+1),∅,A1,rfl,q⟩,λx H3 y=>?_⟩;obtain⟨rfl,rfl⟩:=hy i H2 x H3 A1 hs y;show tt (τ.set 0 (some (v i))) _ _;rw[hτ];have hτ':∀w:Option V,(τ0.set 0 (some (v i))).set 0 w=τ0.set 0 w:=λw=>by rw[List.set_set]
  refine ht i _ _ A1 hs λH4 s4=>?_;cases hb:b i with
  | false=>
   rw[mR nU];refine⟨hτ',hs.trans s4,?_⟩;rw[s4 _ _ Au,uH,wL];simp[hb]
  | true=>
   rw[mS rfl];refine he i _ _ A1 hb (hs.trans s4) λH5 s5=>?_;refine⟨_,s5 _ _ (s4 _ _ Au),?_,hτ',?_,?_⟩
   .rw[m6];have:=tO b (List.range i);rw[rm]at this;exact Dg ∅
   .intro c o hc;have:c≠acc:=on hc ha;rw[mT this];exact s5 _ _ (s4 _ _ (hs _ _ hc))
   .rw[nu,uH,wL];simp[hb]
 .have e:i=n:=by lia
  subst e;exact .inl ⟨hst H2 hs,hQ acc H2 hs ha Au⟩
def f8.range {lo:Int}{n:Nat}(b:Nat->Bool)(f:Nat->V)(hz:n<=1000)
  (ht:∀(i:Nat) H' Q',i<n->fT H H'->(∀H'',fT H' H''->Q' (b i) H'')->tt (τ0.set 0 (some (.int (lo+i)))) H' Q')
  (he:∀(i:Nat) H' Q',i<n->b i=true->fT H H'->(∀H'',fT H' H''->Q' (f i) H'')->te (τ0.set 0 (some (.int (lo+i)))) H' Q')
  (hQ:∀p H',fT H H'->H p=none->H' p=some (.lst (((List.range n).filter b).map f))->Q (.ref p) H'):f8 (uO lo n) τ0 (sO 0) tt te H Q:=
 .gen (λi=>.int (lo+i)) b f hz (λi _ h _=>h) (λ_ _=>nD _) (λi H' x H3 _ _ y=>y) ht he hQ
def iN:((List.range n).filter λ_=>true).map f=(List.range n).map f:=by rw[wZ.mpr (λ_ _=>rfl)]
def f8.rangeA {lo:Int}{n:Nat}(f:Nat->V)(hz:n<=1000)
  (he:∀(i:Nat) H' Q',i<n->fT H H'->(∀H'',fT H' H''->Q' (f i) H'')->te (τ0.set 0 (some (.int (lo+i)))) H' Q')
  (hQ:∀p H',fT H H'->H p=none->H' p=some (.lst ((List.range n).map f))->Q (.ref p) H'):f8 (uO lo n) τ0 (sO 0) km te H Q:=
 .range (λ_=>true) f hz (λi H' Q' _ _ q=>q H' (fT.refl _)) (λi H' Q' hi _=>he i H' Q' hi) λp H' s n e=>hQ p H' s n (by rw[e,iN])
def f8.text (b:Nat->Bool)(f:Nat->V)(hz:l.length<=1000)
  (ht:∀i H' Q' (h:i<l.length),fT H H'->(∀H'',fT H' H''->Q' (b i) H'')->tt (τ0.set 0 (some (tx [l.getD i 0]))) H' Q')
  (he:∀i H' Q' (h:i<l.length),b i=true->fT H H'->(∀H'',fT H' H''->Q' (f i) H'')->te (τ0.set 0 (some (tx [l.getD i 0]))) H' Q')
  (hQ:∀p H',fT H H'->H p=none->H' p=some (.lst (((List.range l.length).filter b).map f))->Q (.ref p) H'):f8 (we l) τ0 (sO 0) tt te H Q:=
 .gen (λi=>tx [l.getD i 0]) b f hz (λi _ h _=>h) (λ_ _=>nD _) (λi H' x H3 _ _ y=>by obtain⟨e,c,hc,rfl⟩:=y;refine⟨e,?_⟩;rw[pM,hc];rfl) ht he hQ
end
theorem Dp:∀ {vs:JR},vs.all pR=true->deqs (vs.map DT.f) (vs.map DT.f)=true
 | [],_=>by unfold deqs;rfl
 | v::vs,h=>by rw[List.all_cons,oJ]at h;rw[pH];unfold deqs;rw[Dp h.2];unfold oX;rw[CQ h.1];rfl
def jQ {K:Frag}{H:Hp}{v:V}(h:pR v=true):vF K H (.f v) v:=⟨datF h,by unfold oX;exact CQ h,by unfold sQ;exact pE _⟩
def lM {K:Frag}{H:Hp}{a:AD}{vs:JR}(h:oj K H a vs)(hf:vs.all pR=true):vF K H (.l (vs.map DT.f)) (.ref a):=⟨jE h hf,by unfold oX;exact Dp hf,by unfold sQ;rw[GZ];decide⟩
def ownT {K:Frag}{H:Hp}{a:AD}{vs:JR}(h:oW K H a vs)(hf:vs.all pR=true):vF K H (.t (vs.map DT.f)) (.ref a):=⟨datT h hf,by unfold oX;exact Dp hf,by unfold sQ;rw[GZ];decide⟩
def ZqB {t:SetTable}{n:Nat}:(t.orStandIn n).led=t.led/\((t.orStandIn n).plain=true->t.plain=true):=by
 unfold SetTable.orStandIn;split
 .exact⟨rfl,id⟩
 .exact⟨rfl,λh=>by cases h⟩
def ZoH:(layNew t es h x).2.1.led=t.led/\((layNew t es h x).2.1.plain=true->t.plain=true):=by
 unfold layNew;split
 .rename_i slot wd _
  exact ZqB (t:=(t.put slot).1)
 .exact⟨rfl,λh=>by cases h⟩
def Zm9 {mask finger moves:Nat}{led plain:Bool}{hs:Array Int}{t':SetTable}{order:Array Nat}(e:SetTable.laid mask finger moves led plain hs=some (t',order)):t'.led=led/\t'.plain=plain:=by
 unfold SetTable.laid at e;cases hq:SetTable.layClean mask hs with
 | none=>rw[hq]at e;cases e
 | some ow=>
  rw[hq]at e;have e':=Option.some.inj e;obtain⟨z,_⟩:=Prod.mk.inj e';subst z;exact⟨rfl,rfl⟩
def Zlc:(relayAll t es n).2.1.led=t.led/\((relayAll t es n).2.1.plain=true->t.plain=true):=by
 unfold relayAll;split
 .rename_i t' order q
  obtain⟨h1,h2⟩:=Zm9 q;dsimp only;split
  .exact⟨h1,λh=>by rw[<-h2];exact h⟩
  .exact⟨rfl,λh=>by cases h⟩
 .exact⟨rfl,λh=>by cases h⟩
def gE (P:AG)(w:AI)(h:Heap)(a:AD)(ls:mU)(led:Bool):Prop:=
 ∃(o:Obj) (es:Array (Int×Value)) (ep:Nat) (t:SetTable) (ms:mU),h.get? a=some o/\o.ExactSet/\o.data=.set es ep t/\ElemsOf (pI P w) es.toList/\t.fits es.size=true /\
  t.led=led/\(t.plain=true->es.size=0)/\ms.Perm ls/\fV (ms.map tx) (es.toList.map (·.2))/\es.size<scanBound
def gE.keep (x:gE P w h a ls led)(k:∀o,h.get? a=some o->h'.get? a=some o):gE P w h' a ls led:=by obtain⟨o,es,ep,t,ms,h1,r⟩:=x;exact⟨o,es,ep,t,ms,k o h1,r⟩
def gE.typ {P:AG}{w:AI}{s:AE}{a:AD}{ls:mU}{led:Bool}(x:gE P w s.heap a ls led):s.TypeIs (.ref a) "set":=by obtain⟨o,es,ep,t,ms,h1,h2,_⟩:=x;exact⟨o,h1,h2.1⟩
noncomputable def gX (ls:mU)(l:mN):mU:=if l∈ls then ls else ls++[l]
def Zr1 (r:fZ v u)(hv:∃m,v=tx m):vp (Sum.inr (⟨l.toArray⟩:Str):nH) u=decide (v=tx l):=by
 obtain⟨m,rfl⟩:=hv;obtain⟨t,rfl⟩:=r;rw[u4];simp only[vp,Value.isStrOf];by_cases h:m=l
 .subst h;simp
 .have:¬(⟨m.toArray⟩:Str)=⟨l.toArray⟩:=λe=>h (yZ.mp (JN V.str e));rw[JJ h];simp[this]
theorem HF {l:mN}:∀ {ms:mU} {es:List (Int×Value)},fV (ms.map tx) (es.map (·.2))->((∃e∈es,vp (Sum.inr (⟨l.toArray⟩:Str):nH) e.2=true)↔l∈ms)
 | [],[],_=>by simp
 | [],_::_,r=>by cases r
 | _::_,[],r=>by cases r
 | m::ms,e::es,r=>by
  cases r with
  | cons r1 r2=>
   have ih:=HF (l:=l) r2;have q:=Zr1 (l:=l) r1 ⟨m,rfl⟩;rw[u4]at q;constructor
   .rintro⟨x,hx,hk⟩;rcases ot.mp hx with z | z
    .subst z;rw[q]at hk;exact ot.mpr (.inl (JK hk).symm)
    .exact ot.mpr (.inr (ih.mp ⟨x,z,hk⟩))
   .intro h;rcases ot.mp h with z | z
    .exact⟨e,pW,by rw[q];exact JI z.symm⟩
    .obtain⟨x,hx,hk⟩:=ih.mpr z;exact⟨x,pP _ hx,hk⟩
def Em (p:us'.Perm us):∀ {ms:mU},fV (ms.map tx) us->∃ms':mU,ms'.Perm ms/\fV (ms'.map tx) us':=by
 induction p with
 | nil=>intro ms r;exact⟨ms,.refl _,r⟩
 | cons x _ ih=>
  intro ms r;cases ms with
  | nil=>cases r
  | cons m ms=>
   cases r with
   | cons r1 r2=>
    obtain⟨ms',p',r'⟩:=ih r2;exact⟨m::ms',p'.cons _,.cons r1 r'⟩
 | swap x y l=>
  intro ms r
  match ms,r with
  | m1::m2::ms,.cons r1 (.cons r2 r3)=>exact⟨m2::m1::ms,.swap _ _ _,.cons r2 (.cons r1 r3)⟩
 | trans _ _ ih1 ih2=>
  intro ms r;obtain⟨m1,p1,r1⟩:=ih2 r;obtain⟨m2,p2,r2⟩:=ih1 r1;exact⟨m2,p2.trans p1,r2⟩
section
def Ib {g:Bool->Sem Unit}(hg:∀(b:Bool) (s_1:AE) (Q':Unit->AE->Prop),Q' () s_1->wpAny (model prog w) A (g b) Q' E s_1){a:AD}{o:Obj}{es:Array (Int×Value)}{ep:Nat}{t:SetTable}
  (ho:s.heap.get? a=some o) (hd:o.data=.set es ep t) {e1:Array (Int×Value)} {t2:SetTable} (hb:e1.size<scanBound) (hf:t2.fits e1.size=true) {wd:Bool} {R:Option Bool->AE->Prop}
  (h:∀h' e2 t3 ep',Heap.SameBut a s.heap h'->h'.get? a=some { o with data:=.set e2 ep' t3 }->e2.toList.Perm e1.toList->t3.fits e2.size=true->t3.led=t2.led->(t3.plain=true->t2.plain=true)->R (some true) { s with heap:=h' }):
  wpAny (model prog w) A (do
   storeSet a e1 t2
   if (!wd&&t2.tooFull)=true then do
    g (relayAll t2 e1 (SetTable.grown e1.size)).2.2;storeSet a (relayAll t2 e1 (SetTable.grown e1.size)).1 (relayAll t2 e1 (SetTable.grown e1.size)).2.1;pure (some true)
   else pure (some true)) R E s:=by
 have put:∀ {h:Heap} {ob:Obj} {xs ys:Array (Int×Value)} {n:Nat} {t t':SetTable},h.get? a=some ob->ob.data=.set xs n t->(h.update a (Obj.putSet ys t')).get? a=some { ob with data:=.set ys (n+1) t' }:=λ{h ob xs ys n t t'} h1 h2=>by
  have q:=u5 (Obj.putSet ys t') h1 (by rw[putSet_of ys t' h2];rfl)
  rwa [putSet_of ys t' h2]at q
 have hs1:=qD s.heap a (Obj.putSet e1 t2);have g1:=put (ys:=e1) (t':=t2) ho hd;refine mO (wpAny_storeSet_of ho hd ?_ (fits_of_scanBound hb));split
 .have p:=relayAll_perm t2 e1 (SetTable.grown e1.size);have f:=relayAll_fits t2 e1 (SetTable.grown e1.size);have tm:=Zlc (t:=t2) (es:=e1) (n:=SetTable.grown e1.size);have z:(relayAll t2 e1 (SetTable.grown e1.size)).1.size=e1.size:=by rw[<-pB,p.length_eq,pB]
  refine mO (hg _ _ _ (mO (wpAny_storeSet_of g1 rfl (mW ?_) (fits_of_scanBound (by rw[z];exact hb)))));exact h _ _ _ _ (hs1.trans (qD _ a _)) (put (ob:={ o with data:=.set e1 (ep+1) t2 }) g1 rfl) p f tm.1 tm.2
 .exact mW (h _ _ _ _ hs1 g1 (.refl _) hf rfl id)
def Zni (hS:gE prog w s.heap a ls led)(hn:ls.length+1<scanBound)
  (h:∀h' b,Heap.SameBut a s.heap h'->gE prog w h' a (gX ls l) led->Q b { s with heap:=h' }):
  wpAny (model prog w) A (setAddHashed a (.str ⟨l.toArray⟩ tk) (ja w (Sum.inr ⟨l.toArray⟩))) Q E s:=by
 obtain⟨o,es,ep,t,ms,ho,hex,hd,hel,hf,hled,hpl,hp,hv,hb⟩:=hS;have hkey:(pI prog w).is (Sum.inr (⟨l.toArray⟩:Str)) (.str ⟨l.toArray⟩ tk)=true:=by exact GG prog w _ _
 have hsc:(Value.str ⟨l.toArray⟩ tk).scannable=true:=rfl;have As:es.size=ls.length:=by have q:=hv.length;rw[m6,m6]at q;rw[<-pB,<-q,hp.length_eq]
 have mem:=HF (l:=l) hv;have hl:l∈ms↔l∈ls:=hp.mem_iff;unfold setAddHashed setAddHashedIn;refine qR (mO (yn ho hd hf ?_));dsimp only;rw[byScan_of hsc hb hel,mS rfl];unfold setAddByScan;refine mO (mO (rW (mO (wpAny_setScan_of (knd:=pI prog w) (k:=Sum.inr (⟨l.toArray⟩:Str)) hkey ho hd hf hel ?_))));cases hr:List.findIdx? (λe=>(pI prog w).is (Sum.inr (⟨l.toArray⟩:Str)) e.2) es.toList with
 | some j=>
  dsimp only;obtain⟨hj,hpj,_⟩:=List.findIdx?_eq_some_iff_getElem.mp hr;have hin:l∈ls:=hl.mp (mem.mp ⟨es.toList[j],t8 hj,hpj⟩);refine mW (mW ?_);have q:=h s.heap false (Heap.SameBut.refl a s.heap) (by unfold gX;rw[mS hin];exact⟨o,es,ep,t,ms,ho,hex,hd,hel,hf,hled,hpl,hp,hv,hb⟩)
  exact q
 | none=>
  dsimp only;have hnin:l∉ls:=λz=>by obtain⟨e,he,hk⟩:=mem.mpr (hl.mpr z);have q:=List.findIdx?_eq_none_iff.mp hr e he;rw[show (pI prog w).is (Sum.inr (⟨l.toArray⟩:Str)) e.2=true from hk]at q;cases q
  have lp:=layNew_perm t es (ja w (Sum.inr ⟨l.toArray⟩)) (.str ⟨l.toArray⟩ tk);have lf:=layNew_fits t es (ja w (Sum.inr ⟨l.toArray⟩)) (.str ⟨l.toArray⟩ tk);have lt:=ZoH (t:=t) (es:=es) (h:=ja w (Sum.inr ⟨l.toArray⟩)) (x:=.str ⟨l.toArray⟩ tk);show wpAny _ A (match layNew t es (ja w (Sum.inr ⟨l.toArray⟩)) (.str ⟨l.toArray⟩ tk) with | (es,t,wasDummy,gave)=>_) _ _ _;generalize hL:layNew t es (ja w (Sum.inr ⟨l.toArray⟩)) (.str ⟨l.toArray⟩ tk)=L at lp lf lt ⊢;obtain⟨e1,t1,wd,gave⟩:=L;dsimp only at lp lf lt ⊢;rw[ud]at lp;have sz1:e1.size=ls.length+1:=by rw[<-pB,lp.length_eq,nN,pB,As];rfl
  have gw:∀(b:Bool) (s_1:AE) (Q':Unit->AE->Prop),Q' () s_1->wpAny (model prog w) A (match b with | true=>rule "set.scan.the-table-gave-way" | false=>pure ()) Q' E s_1:=
   λb s_1 Q' hq=>by cases b<;>first | exact mW hq | exact rW hq
  refine mO (gw _ _ _ ?_);have fin:∀(t2:SetTable),t2.fits e1.size=true->t2.led=t1.led->t2.plain=false->∀h' e2 t3 ep',Heap.SameBut a s.heap h'->h'.get? a=some { o with data:=.set e2 ep' t3 }->e2.toList.Perm e1.toList->t3.fits e2.size=true->t3.led=t2.led->(t3.plain=true->t2.plain=true)->Q true { s with heap:=h' }:=by
   intro t2 f2 l2 p2 h' e2 t3 ep' sb hg pm f3 l3 p3;refine h h' true sb ?_;have pall:=pm.trans lp;obtain⟨ms',pm',hv'⟩:=Em (us:=(es.toList++[(ja w (Sum.inr ⟨l.toArray⟩),Value.str ⟨l.toArray⟩ tk)]).map (·.2)) (us':=e2.toList.map (·.2)) (pall.map _) (ms:=ms++[l]) (by rw[tD,tD];exact hv.append (.cons ⟨tk,rfl⟩ .nil))
   unfold gX;rw[mR hnin];refine⟨_,e2,ep',t3,ms',hg,hex,rfl,((hel.push (knd:=pI prog w) hkey hsc).perm pall),f3,l3.trans (l2.trans (lt.1.trans hled)),λz=>by rw[p2]at p3;exact JO (p3 z) nU,pm'.trans (hp.append_right [l]),hv',?_⟩;rw[<-pB,pm.length_eq,pB,sz1];exact hn
  split
  .refine mO ?_;rw[hashByValue_scannable 8 hsc];refine mW ?_;refine Ib gw ho hd (by rw[sz1];exact hn) ?_ λh' e2 t3 ep' q1 q2 q3 q4 q5 q6=>?_
   .exact SetTable.fits_plain_off lf
   .exact mW (fin _ (SetTable.fits_plain_off lf) rfl rfl h' e2 t3 ep' q1 q2 q3 q4 q5 q6)
  .rename_i hnp
   have hnp':t1.plain=false:=by simpa using hnp
   refine mO (mW ?_);rw[mS rfl];refine Ib gw ho hd (by rw[sz1];exact hn) lf λh' e2 t3 ep' q1 q2 q3 q4 q5 q6=>mW (fin _ lf rfl hnp' h' e2 t3 ep' q1 q2 q3 q4 q5 q6)
end
def dd (val:Nat->mN)(i:Nat):mU:=((List.range i).map val).foldl gX []
def D8:dd val (i+1)=gX (dd val i) (val i):=by unfold dd;rw[uH,tD,List.foldl_append];rfl
def Zms:(gX ls l).length<=ls.length+1:=by
 unfold gX;split
 .lia
 .simp
theorem JA {val:Nat->mN}:∀i,(dd val i).length<=i
 | 0=>nD _
 | i+1=>by
  rw[D8];have h1:=JA (val:=val) i;have h2:=Zms (ls:=dd val i) (l:=val i)
  lia
theorem xP {val:Nat->mN}:∀i,(dd val i).Nodup
 | 0=>by simp[dd]
 | i+1=>by
  rw[D8];unfold gX;split
  .exact xP i
  .rename_i h
   rw[ut];refine⟨xP i,{},?_⟩;intro a ha b hb e;have:b=val i:=by simpa using hb
   subst e this;exact h ha
section
variable {prog:AG}{w:AI}{A:AH}{R:Result->AE->Prop}{I:AD}{fp wr:List AD}{G:Array GenState->Array GenState->Prop}{n:Nat}{Pi:Nat->Value->Prop}{St:Nat->AE->Prop}
def Zlj (W:WalksS prog w A.in1 I fp wr G n Pi St)(S:AD)(hSf:S∉fp)(val:Nat->mN)(hval:∀i v,Pi i v->∃t,v=.str ⟨(val i).toArray⟩ t)(hb:n+1<scanBound){led:Bool}:
  ∀(k i:Nat) (s:AE),n-i=k->i<=n->St i s->gE prog w s.heap S (dd val i) led->(∀s',Moved (S::wr) G s s'->gE prog w s'.heap S (dd val n) led->R (.ok (.ret .none)) s') ->
   codeAny (model prog w) A (.builtin "set.update.loop" ⟨[.ref S,.ref I],[]⟩) R s:=by
 have nw:S∉wr:=λh=>hSf (W.sub _ h);have up:∀b∈wr,b∈S::wr:=λb hb=>pP _ hb;intro k;induction k with
 | zero=>
  intro i s hk hi st hS hR;have e:i=n:=by lia
  subst e;refine codeAny_builtin F.entry_set_update_loop ?_;rw[wA F.plain_set_update_loop _];show wpAny _ A.in1 (pyNext (.ref I) >>= λr=>_) _ _ s;refine mO (W.done s _ _ st λs' hm=>?_);exact mW (hR s' (hm.mono up) (hS.keep λo e=>hm.heap S o nw e))
 | succ k ih=>
  intro i s hk hi st hS hR;have A1:i<n:=by lia
  refine codeAny_builtin F.entry_set_update_loop ?_;rw[wA F.plain_set_update_loop _];show wpAny _ A.in1 (pyNext (.ref I) >>= λr=>_) _ _ s;refine mO (W.item i s _ _ A1 st λv s1 hP st1 hm=>?_);obtain⟨tk,rfl⟩:=hval i v hP;have hS1:gE prog w s1.heap S (dd val i) led:=hS.keep λo e=>hm.heap S o nw e;show wpAny _ A.in1 (holding [Value.str ⟨(val i).toArray⟩ tk] (setAdd S (.str ⟨(val i).toArray⟩ tk)) >>= λ_=>_) _ _ s1;refine mO (qR ?_);unfold setAdd;refine qR (mO (wpAny_pyHash_str ?_));refine Zni (s:={ s1 with toks:=s1.toks+1 }) (l:=val i) hS1 (by have:=JA (val:=val) i;lia) λh' b sb hS2=>?_;rw[<-D8]at hS2;refine mW ⟨plainId_quiet F.plain_set_update_loop _,ih (i+1) _ ∅ A1 (W.frame _ s1 _ _ st1 (uk _) λb hb o e=>(sb.2 b λz=>hSf (z▸hb)).trans e) hS2 λs2 hm2 hS3=>?_⟩;exact hR s2 (Moved.trans W.gtrans ((hm.mono up).then_heap (uk _) λb o hb e=>(sb.2 b λz=>hb (z▸pW)).trans e) hm2) hS3
end
def zy {i:Nat}{u:Value}:∀ {vs:JR} {us:AC} ,fV vs us->us[i]?=some u->∃v,vs[i]?=some v/\fZ v u:=by
 induction i with
 | zero=>
  intro vs us r e;cases r with
  | nil=>cases e
  | cons r1 _=>cases e;exact⟨_,rfl,r1⟩
 | succ i ih=>
  intro vs us r e;cases r with
  | nil=>cases e
  | cons _ r2=>exact ih r2 e
structure jo (prog:AG)(w:AI)(x:Value)(s:AE)(T:String)(n:Nat)(val:Nat->mN):Prop where
 ty:∀s1:AE,(∀b o,s.heap.get? b=some o->s1.heap.get? b=some o)->s1.TypeIs x T
 go:∀(A:AH) (s1:AE) (Q:oo) (E:oo),A.handled=none->(∀b o,s.heap.get? b=some o->s1.heap.get? b=some o) ->
  (∀(h2:Heap) (I:AD) (fp wr:List AD) (Pi:Nat->Value->Prop) (St:Nat->Heap->Prop),(∀A':AH,A'.handled=none->Walks prog w A' I fp wr n Pi St)->St 0 h2 ->
   (∀b∈fp,b<s.heap.objs.size\/s1.heap.objs.size<=b)->(∀b∈wr,s1.heap.objs.size<=b)->(∀b o,s1.heap.get? b=some o->h2.get? b=some o)->(∀i v,Pi i v->∃t,v=.str ⟨(val i).toArray⟩ t)->Q (.ref I) { s1 with heap:=h2 }) ->
  wpAny (model prog w) A (pyIter x) Q E s1
def Zg6 {prog:AG}{w:AI}{s:AE}{l:AD}{us:AC}{ls:mU}(hl:s.heap.IsList l us.toArray)(r:fV (ls.map tx) us):jo prog w (.ref l) s "list" ls.length (λi=>ls.getD i []) where
 ty:=λs1 k=>by obtain⟨o,ho,hc,_⟩:=hl;exact⟨o,k _ _ ho,hc⟩
 go:=λA s1 Q E hh k h=>by
  obtain⟨o,ho,hc,hr⟩:=id hl;have hl1:s1.heap.IsList l us.toArray:=⟨o,k _ _ ho,hc,hr⟩;have A1:=nP ho;have hlt1:=nP (k _ _ ho);have As:us.toArray.size=ls.length:=by rw[oH,<-r.length,m6]
  refine wpAny_pyIter_list hl1 ?_;have W:∀A':AH,A'.handled=none->Walks prog w A' s1.heap.objs.size [s1.heap.objs.size,l] [s1.heap.objs.size] ls.length (λi v=>us.toArray[i]?=some v) (λi h=>h.IsListIter s1.heap.objs.size l i/\h.IsList l us.toArray):=λA' hA=>by
   have q:=Walks.list (prog:=prog) (w:=w) hA s1.heap.objs.size l (oO hlt1) us.toArray
   rwa [As]at q
  refine h _ _ _ _ _ _ W ⟨⟨_,oP _ rfl,rfl,rfl⟩,hl1.push _⟩ (λb hb=>?_) (λb hb=>?_) (λb o e=>nG _ e) (λi v e=>?_)
  .rcases ot.mp hb with z | z
   .exact .inr (vj z.symm)
   .have z:b=l:=by simpa using z
    rw[z];exact .inl A1
  .have z:b=s1.heap.objs.size:=by simpa using hb
   exact vj z.symm
  .have e':us[i]?=some v:=by simpa using e
   obtain⟨v',hv',rv⟩:=zy r e';rw[pA]at hv';cases q:ls[i]? with
   | none=>rw[q]at hv';cases hv'
   | some m=>
    rw[q]at hv';cases hv';obtain⟨t,rfl⟩:=rv;exact⟨t,by rw[pM,q];rfl⟩
def Zg5 {prog:AG}{w:AI}{s:AE}{l:mN}{t:Tok}:jo prog w (.str ⟨l.toArray⟩ t) s "str" l.length (λi=>[l.getD i 0]) where
 ty:=λs1 _=>typeIs_str s1 _ _
 go:=λA s1 Q E hh k h=>by
  have As:(⟨l.toArray⟩:Str).cps.size=l.length:=by show l.toArray.size=_;simp
  have item:∀(i:Nat) (v:Value),(∃c u,(⟨l.toArray⟩:Str).cps[i]?=some c/\v=.str ⟨#[c]⟩ u)->∃t,v=.str ⟨[l.getD i 0].toArray⟩ t:=by
   rintro i v ⟨c,u,e,rfl⟩;have e':l[i]?=some c:=by simpa using e
   exact⟨u,by rw[pM,e'];rfl⟩
  refine wpAny_pyIter_str λo St W st=>?_;rw[As]at W;refine h _ _ _ _ _ _ W st (λb hb=>.inr ?_) (λb hb=>?_) (λb o e=>nG _ e) (λi v ⟨c,u,e,e2⟩=>item i v ⟨c,u,e,e2⟩)
  .have z:b=s1.heap.objs.size:=by simpa using hb
   exact vj z.symm
  .have z:b=s1.heap.objs.size:=by simpa using hb
   exact vj z.symm
section
abbrev vY (led:Bool):Obj:={ cls:=.type "set",dict:=none,data:=.set #[] 0 (.fresh 0 0 led) }
def Zjp (ho:h.get? a=some (vY led)):gE prog w h a [] led:=
 ⟨_,#[],0,_,[],ho,⟨rfl,rfl,rfl⟩,rfl,λe he=>by simp at he,rfl,rfl,λ_=>rfl,.refl _,.nil,by show 0<4096;decide⟩
def pU (w:AI):Bool:=w.params.followText "set-order"
def Zng (a:Value){Q₁:oo}(h:Q₁ (.ref s.heap.objs.size) { s with heap:=s.heap.push (vY (!pU w)) }):
  codeAny (model prog w) A (.call (.builtin "set.__new__") ⟨[.type "set",a],[]⟩) (wants Q₁ E) s:=by
 refine codeAny_of_tree ?_;show wpAny _ A.in1 (checkBuiltinCall "set.__new__" ⟨[.type "set",a],[]⟩ >>= λ_=>again (.builtin "set.__new__" ⟨[.type "set",a],[]⟩)) _ _ s;refine mO (wpAny_of_eq (F.newCall_set_1 a) (mW ⟨plainId_quiet F.plain_set_new _,codeAny_builtin F.entry_set_new ?_⟩));rw[wA F.plain_set_new _];unfold Builtin.«set.__new__» Builtin.Frozenset.newClass;have hsub:=sub_set_self;obtain⟨hp,g,d,tk,os⟩:=s;dsimp only
 wp_walk
 refine xW (mW ?_);dsimp only;simp only[newObj];exact mO (wpAny_alloc (mW (mW h)))
set_option maxHeartbeats 3200000 in
def Hy (hh:A.handled=none) (W:jo prog w x s T n val) (t1:isSubtype (.type T) (.type "set")=pure false) (t2:isSubtype (.type T) (.type "frozenset")=pure false)
  (t3:(Value.type T == Value.type "dict")=false) (hb:n+1<scanBound)
  (h:∀(h':Heap) (tk:Nat),gE prog w h' s.heap.objs.size (dd val n) (!pU w)->(∀b o,s.heap.get? b=some o->h'.get? b=some o)->s.toks<=tk->Q (.ref s.heap.objs.size) { s with heap:=h',toks:=tk }):
  wpAny (model prog w) A (call (.type "set") [x]) Q E s:=by
 obtain⟨c,tl,hmro⟩:=F.called_set.mro;have hmade:=F.called_set.made;have hsub:=F.called_set.sub;refine uu (codeAny_of_tree ?_);show wpAny _ _ (callAny (.type "set") _) _ _ _;refine mW ⟨Code.quiet_builtin _ nofun,codeAny_builtin F.entry_type_call ?_⟩;rw[Around.under_plain (weight_type_call_type "set" [x] []) rfl];have h1:=F.called_set.notType;have h2:=F.called_set.canCreate;have hct:=F.typeCall_set_1 x;repeat (any_goals (first | assumption | wp_step))
 refine codeAny_mono (Zng x (E:=E) (Q₁:=λob s_1=>ob=.ref s.heap.objs.size/\s_1={ s with heap:=s.heap.push (vY (!pU w)) }) ⟨rfl,rfl⟩) λr s_1 hr=>?_;cases r with
 | error e=>exact hr
 | ok fl=>
  cases fl with
  | ret ob=>
   obtain⟨rfl,rfl⟩:=hr;have hS:(s.heap.push (vY (!pU w))).get? s.heap.objs.size=some (vY (!pU w)):=oP _ rfl;have hT:Shared.TypeIs { s with heap:=s.heap.push (vY (!pU w)) } (.ref s.heap.objs.size) "set":=⟨_,hS,rfl⟩;have hli:=F.called_set.init.lookup;have hbi:=F.called_set.init.bind (.ref s.heap.objs.size);have keep1:∀b o,s.heap.get? b=some o->(s.heap.push (vY (!pU w))).get? b=some o:=λb o e=>nG _ e;repeat (any_goals (first | assumption | wp_step))
   refine codeAny_mono (codeAny_call_builtin (R:=wants (λr s_2=>r=.none/\∃h' tk,s_2={ s with heap:=h',toks:=tk }/\gE prog w h' s.heap.objs.size (dd val n) (!pU w)/\(∀b o,s.heap.get? b=some o->h'.get? b=some o)/\s.toks<=tk) E)
    F.called_set.init.plain F.entry_set_init (check_set_init_1 hT ?_)) λr9 s_2 hr9=>?_
   .have hTx:=W.ty { s with heap:=s.heap.push (vY (!pU w)) } keep1;unfold Builtin.«set.__init__» noKeywords Builtin.Frozenset.updateFrom;generalize hPI:pyIter=PI
    wp_walk
    subst hPI;refine W.go _ _ _ _ (by simp[hh]) keep1 λh2 I fp wr Pi St Wk st f1 f2 k2 hval=>?_;refine mO (wpAny_runValue ?_);have hSf:s.heap.objs.size∉fp:=λz=>by
     rcases f1 _ z with q | q
     .exact qC _ q
     .rw[rO]at q;exact JO q (Nat.not_succ_le_self _)
    refine Zlj ((Wk A.in1.in1.in1 (by simp[hh])).toS) s.heap.objs.size hSf val hval hb (n-0) 0 _ ∅ (pE _) st (Zjp (k2 _ _ hS)) λs' hm hS'=>?_;obtain⟨h',g',d',tk',os'⟩:=s';have eg:g'=s.gens:=hm.gens;have ed:d'=s.drawn:=hm.drawn;have eo:os'=s.os:=hm.os;have et:s.toks<=tk':=hm.toks;subst eg ed eo;refine mW ?_;refine mW ⟨rfl,h',tk',rfl,hS',λb o e=>?_,et⟩;have A1:=nP e;refine hm.heap b o (λz=>?_) (k2 b o (keep1 b o e));rcases ot.mp z with q | q
    .rw[q]at A1;exact qC _ A1
    .have q2:=f2 b q;rw[rO]at q2;exact JO (qz A1 (Nat.le_of_succ_le q2)) (qC _)
   .cases r9 with
    | error e=>exact hr9
    | ok fl2=>
     cases fl2 with
     | ret r=>
      obtain⟨rfl,h',tk,rfl,hS',hk',htk⟩:=hr9;repeat (any_goals (first | assumption | wp_step))
      exact h _ _ hS' hk' htk
     | _=>exact hr9.elim
  | _=>exact hr.elim
end
theorem xU {α:Type}:∀(xs:List α) (i:Nat) (h:i<xs.length),(xs[i]::xs.eraseIdx i).Perm xs
 | x::xs,0,_=>.refl _
 | x::xs,i+1,h=>by
  have hi:i<xs.length:=by simpa using h
  have ih:=xU xs i hi;show (xs[i]::x::xs.eraseIdx i).Perm (x::xs);exact(List.Perm.swap _ _ _).trans (ih.cons x)
section
def jj (hn:n≠0)(h:∀i d,i<n->Q i { s with drawn:=d }):wpAny M A (choose src n) Q E s:=λΓ p hΓ=>by unfold choose;rw[Sem.wp_choose];exact⟨hn,h _ _ (vA _ (Nat.pos_of_ne_zero hn))⟩
theorem IX {α:Type}:∀(n:Nat) (xs:List α) (s:AE) (Q:List α->AE->Prop),xs.length=n->(∀ys d,ys.Perm xs->Q ys { s with drawn:=d })->wpAny M A (drawOrder n xs) Q E s
 | 0,xs,s,Q,hl,h=>by
  have e:xs=[]:=wS hl;subst e;unfold drawOrder;exact mW (h [] s.drawn (.refl _))
 | n+1,[],s,Q,hl,h=>by cases hl
 | n+1,x::xs,s,Q,hl,h=>by
  unfold drawOrder;refine mO (jj {} λi d hi=>?_);have e:(x::xs)[i]?=some (x::xs)[i]:=om hi;rw[e];dsimp only;refine mO (IX n ((x::xs).eraseIdx i) _ _ ?_ λys d' p=>mW ?_)
  .rw[List.length_eraseIdx_of_lt hi,hl];rfl
  .refine h _ d' ((List.Perm.cons _ p).trans ?_);exact xU _ _ hi
end
def ZeK:entryFor table "set.__iter__"=some Builtin.«frozenset.__iter__»:=entryFor_alias (id':="frozenset.__iter__") (by kernel_rfl) rfl nofun (by kernel_rfl)
def wH:Slot "set_iterator" "__next__" "set_iterator.__next__":=
 .of (owner:="set_iterator") (n:="__next__") (by rw[typeLookup_type,builtinLookup_eq_fast];kernel_rfl) nofun nofun nofun
  (by first | exact .inl nofun | exact .inr nofun) (by rw[isSubtype_type];kernel_rfl)
def GC:entryFor table "set_iterator.__next__"=some Builtin.«set_iterator.__next__»:=entryFor_of_fast (by kernel_rfl)
def G4 (a:Value):argsOk "set_iterator.__next__" ⟨[a],[]⟩:=by unfold argsOk;kernel_rfl
section
def iG (h:Heap)(I S:AD)(first:Value)(i n ep:Nat):Prop:=∃o,h.get? I=some o/\o.cls=.type "set_iterator"/\o.data=.fields #[first,.int i 0,.ref S,.int n 0,.int ep 0]
def Zoi {t:SetTable}{n:Nat}(hf:t.fits n=true):(t.place.size != n || decide (t.fill>t.mask))=false:=by simp only[SetTable.fits,oJ,JP,JQ]at hf;simp[hf.1,Nat.not_lt.mpr hf.2]
def Zl1 (ho:s.heap.get? S=some o)(hex:o.ExactSet)(hd:o.data=.set es ep t)(hf:t.fits es.size=true)(hz:es.size<=sizeLine)
  (h0:(pU w=true\/(t.plain=true\/es.size<=1))->Q (.ref s.heap.objs.size) { s with heap:=s.heap.push { cls:=.type "set_iterator",data:=.fields #[.int 0 0,.int 0 0,.ref S,.int es.size 0,.int ep 0] } })
  (h1:∀(ps:mN) (d:Drawn),ps.Perm (List.range es.size)->Q (.ref (s.heap.objs.size+1)) { s with drawn:=d,heap:=(Heap.push s.heap { cls:=.type "tuple",data:=.seq (ps.map (λi=>Value.int ((i:Nat):Int) 0)).toArray }).push { cls:=.type "set_iterator",data:=.fields #[.ref s.heap.objs.size,.int 0 0,.ref S,.int es.size 0,.int ep 0] } }):wpAny (model prog w) A (pyIter (.ref S)) Q E s:=by
 have hT:s.TypeIs (.ref S) "set":=⟨o,ho,hex.1⟩;refine wpAny_pyIter_slot hT F.slot_set_iter (ve F.slot_set_iter hT ZeK ?_ (F.args_set_iter_1 _));unfold Builtin.«frozenset.__iter__» Builtin.Frozenset.sizeOf setDrawn setsByText
 wp_walk
 rw[hd];dsimp only;rw[Zoi hf];rw[mR nU];refine mW (mW (mW ?_));refine mO (mO (yn ho hd hf ?_));dsimp only;refine mO (mO (xW (mW (mW ?_))));show wpAny _ _ (if (!pU w&&(!t.plain&&decide (es.size>1)))=true then _ else _) _ _ _;split
 .refine mO (IX es.size (List.range es.size) _ _ {} λps d p=>?_);refine mO ?_;simp only[newTuple];refine uP ?_ (by show (List.map _ ps).toArray.size<=sizeLine;rw[oH,m6,p.length_eq,rm];exact hz);refine mO (wpAny_setEpoch_of (nG _ ho) hd hf (mO (uP (mW ⟨_,rfl,"set_iterator",_,⟨_,oP _ rfl,rfl⟩,wH.lookup,?_⟩))));have q:=h1 ps d p;rw[rO];exact q
 .rename_i hb
  refine mO (mW ?_);refine mO (wpAny_setEpoch_of ho hd hf (mO (uP (mW ⟨_,rfl,"set_iterator",_,⟨_,oP _ rfl,rfl⟩,wH.lookup,h0 ?_⟩))));cases h:pU w with
  | true=>exact .inl rfl
  | false=>
   refine .inr ?_;cases h':t.plain with
   | true=>exact .inl rfl
   | false=>
    rw[h,h']at hb;simp at hb;exact .inr hb
end
section
variable {prog:AG}{w:AI}{A:AH}{E:oo}{s:AE}{I S:AD}{o:Obj}{es:Array (Int×Value)}{ep i n:Nat}{t:SetTable}
def iG.typ (h:iG s.heap I S first i n ep):s.TypeIs (.ref I) "set_iterator":=let ⟨o,h1,h2,_⟩:=h;⟨o,h1,h2⟩
abbrev Zqq (I S:AD)(slot i ep:Nat):Sem PySem.Fin:=do
 match <-setNext S slot i ep with
 | some (x,next)=>do
  setField (.ref I) 0 (rawInt (next:Nat))
  setField (.ref I) 1 (rawInt ((i:Int)+1))
  ret x
 | none=>do
  setField (.ref I) 2 Value.none
  raiseNew (<-newExc (Value.type "StopIteration") [])
abbrev Zos (I S:AD)(first:Value)(i ep:Nat):Sem PySem.Fin:=do
 match <-seqItems? first with
 | some places=>match places[i]? with
  | some (.int place _)=>do
   let x <-setNextDrawn S place.toNat ep
   setField (.ref I) 1 (rawInt ((i:Int)+1))
   ret x
  | some _=>unsupported "internal:set_iterator"
  | none=>do
   setField (.ref I) 0 (rawInt 0)
   setField (.ref I) 2 Value.none
   raiseNew (<-newExc (Value.type "StopIteration") [])
 | _=>unsupported "internal:set_iterator"
abbrev Dq (prog:AG)(w:AI)(A:AH)(Q:Option Value->AE->Prop)(E:oo)(fin:PySem.Fin)(s':AE):Prop:=∃v,fin=Fin.done (Flow.ret v)/\Q (some v) s'
abbrev Da (prog:AG)(w:AI)(A:AH)(Q:Option Value->AE->Prop)(E:oo)(e:Value)(s':AE):Prop:=
 wpAny (model prog w) A (do let b <-isInstance e (Value.type "StopIteration");if b=true then pure none else throw e) Q E s'
def Bn (hi:iG s.heap I S (.int (slot:Nat) 0) i es.size ep)(ho:s.heap.get? S=some o)(hd:o.data=.set es ep t)(hf:t.fits es.size=true)
  (h:wpAny (model prog w) A.in1 (Zqq I S slot i ep) (Dq prog w A Q E) (Da prog w A Q E) s):wpAny (model prog w) A (pyNext (.ref I)) Q E s:=by
 obtain⟨oi,hoi,hci,hdi⟩:=id hi;unfold pyNext;refine mO (uy (wpAny_callSpecial?_slot (name:=Str.ofString "__next__") hi.typ wH (ve wH hi.typ GC ?_ (G4 _))));unfold Builtin.«set_iterator.__next__»
 wp_walk
 rw[hdi];dsimp only;refine mW ?_;dsimp only;refine mO (wpAny_setEntries_of ho hd hf ?_)
 (try dsimp only)
 rw[mR {}];refine qF h (λfin s' q=>?_) λe s' q=>q;obtain⟨v,rfl,q⟩:=q;exact⟨v,rfl,mW q⟩
def GU (hi:iG s.heap I S (.ref tp) i es.size ep)(ho:s.heap.get? S=some o)(hd:o.data=.set es ep t)(hf:t.fits es.size=true)
  (h:wpAny (model prog w) A.in1 (Zos I S (.ref tp) i ep) (Dq prog w A Q E) (Da prog w A Q E) s):wpAny (model prog w) A (pyNext (.ref I)) Q E s:=by
 obtain⟨oi,hoi,hci,hdi⟩:=id hi;unfold pyNext;refine mO (uy (wpAny_callSpecial?_slot (name:=Str.ofString "__next__") hi.typ wH (ve wH hi.typ GC ?_ (G4 _))));unfold Builtin.«set_iterator.__next__»
 wp_walk
 rw[hdi];dsimp only;refine mW ?_;dsimp only;refine mO (wpAny_setEntries_of ho hd hf ?_)
 (try dsimp only)
 rw[mR {}];refine qF h (λfin s' q=>?_) λe s' q=>q;obtain⟨v,rfl,q⟩:=q;exact⟨v,rfl,mW q⟩
def Dj (hh:A.handled=none)(hQ:∀h',(∀b o,s.heap.get? b=some o->h'.get? b=some o)->Q none { s with heap:=h' }):
  wpAny (model prog w) A.in1 (do raiseNew (<-newExc (Value.type "StopIteration") [])) (Dq prog w A Q E) (Da prog w A Q E) s:=by
 refine mO ?_;simp only[newExc,newTuple];refine mO (uP ?_ (by size_fits));refine mO (m:=firstArgMember _ _) (wpAny_of_eq (a:=Value.none) (by first | rfl | (simp only[firstArgMember];rfl)) ?_);refine uP ?_ (by size_fits);simp only[raiseNew];refine mO (wpAny_handled ?_);rw[show A.in1.handled=none from hh];refine mO (mW (wpAny_throw ?_));refine mO (wpAny_isInstance (T:="StopIteration") (b:=true) ⟨_,oP _ rfl,rfl⟩ isSubtype_stop ?_);exact mW (hQ _ λb o e=>nG _ (nG _ e))
def xH {h:Heap} {v:Value} {k:Nat} {oi:Obj} {vs:Array Value} (hoi:h.get? I=some oi) (hci:oi.cls=.type "set_iterator") (hdi:oi.data=.fields vs):
  ∃o',(h.update I (Obj.mapFields (·.setIfInBounds k v))).get? I=some o'/\o'.cls=.type "set_iterator"/\o'.data=.fields (vs.setIfInBounds k v):=
 ⟨_,u5 _ hoi (Obj.isFreed_of_fields (wD hdi _)),(Obj.cls_mapFields ..).trans hci,wD hdi _⟩
def Hz (ho:s.heap.get? S=some o)(hd:o.data=.set es ep t)(hf:t.fits es.size=true)(hb:pU w=true)
  (h:Q (((pickOrder (w.params.setOrder S ep) es)[i]?).map λe=>(e.2,slot)) s):wpAny (model prog w) A (setNext S slot i ep) Q E s:=by
 unfold setNext;refine mO (yn ho hd hf ?_);dsimp only;unfold setsByText;refine mO (mO (xW (mW ?_)));show wpAny _ _ (if pU w=true then _ else _) _ _ _;rw[hb,mS rfl,mR {}];unfold setWalk;refine mO (mO (yn ho hd hf ?_));dsimp only;unfold setsByText;refine mO (mO (xW (mW ?_)));show wpAny _ _ (if pU w=true then _ else _) _ _ _;rw[hb,mS rfl];exact mO (xW (mW (mW h)))
def IE (ho:s.heap.get? S=some o)(hd:o.data=.set es ep t)(hf:t.fits es.size=true)(hb:pU w=false)(hl:t.led=true)(h1:es.size<=1)
  (h:Q (match es[SetTable.below t.place slot]?,t.place[SetTable.below t.place slot]? with | some (_,x),some j=>some (x,j+1) | _,_=>none) s):wpAny (model prog w) A (setNext S slot i ep) Q E s:=by
 unfold setNext;refine mO (yn ho hd hf ?_);dsimp only;unfold setsByText;refine mO (mO (xW (mW ?_)));show wpAny _ _ (if pU w=true then _ else (if (!t.plain&&decide (es.size>1))=true then _ else _)) _ _ _;have hn:¬es.size>1:=by lia
 rw[hb,mR nU,JJ hn,wu,mR nU];show wpAny _ _ ((if (!t.led&&!es.isEmpty)=true then (do let _ <-(unsupported "set:maker-not-led":Sem Unit);pure ()) else pure ()) >>= λ_=>_) _ _ _;rw[hl,Bool.not_true,sJ,mR nU];exact mO (mW (mW h))
end
theorem HN {α:Type}{next:Nat->Nat}:∀(Az k:Nat) (left:List α) (out:Array α),left.length=Az->(pickOrder.go next Az k left out).toList.Perm (out.toList++left)
 | 0,k,left,out,h=>by
  have e:left=[]:=wS h;subst e;unfold pickOrder.go;simp
 | Az+1,k,left,out,h=>by
  have A1:next k % left.length<left.length:=vA _ ∅
  unfold pickOrder.go;rw[om A1];dsimp only;refine(HN Az (k+1) _ _ (by rw[List.length_eraseIdx_of_lt A1,h];rfl)).trans ?_;rw[ud,qW];exact(xU left _ A1).append_left _
def ED:(pickOrder next xs).toList.Perm xs.toList:=by unfold pickOrder;have:=HN (next:=next) xs.size 0 xs.toList #[] {};simpa using this
def Fq:Slot "set_iterator" "__iter__" "set_iterator.__iter__":=
 .of (owner:="set_iterator") (n:="__iter__") (by rw[typeLookup_type,builtinLookup_eq_fast];kernel_rfl) nofun nofun nofun (by first | exact .inl nofun | exact .inr nofun) (by rw[isSubtype_type];kernel_rfl)
def Zdn:entryFor table "set_iterator.__iter__"=some Builtin.«dict_keyiterator.__iter__»:=entryFor_alias (id':="dict_keyiterator.__iter__") (by kernel_rfl) rfl nofun (by kernel_rfl)
def ZdC (a:Value):argsOk "set_iterator.__iter__" ⟨[a],[]⟩:=by unfold argsOk;kernel_rfl
section
def Dh (hi:iG s.heap I S first i n ep)(h:Q (.ref I) s):wpAny (model prog w) A (pyIter (.ref I)) Q E s:=by refine wpAny_pyIter_slot hi.typ Fq (ve Fq hi.typ Zdn ?_ (ZdC _));show wpAny _ _ (ret (.ref I)) _ _ s;exact mW ⟨_,rfl,"set_iterator",_,hi.typ,wH.lookup,h⟩
def BA (sb:Heap.SameBut I h h')(hne:S≠I)(ho:h.get? S=some o):h'.get? S=some o:=(sb.2 S hne).trans ho
def Zjl (hh:A.handled=none)(hne:S≠I)(hd:o.data=.set es ep t)(hf:t.fits es.size=true)(hb:pU w=true):
  Walks prog w A I [I,S] [I] es.size (λi v=>(((pickOrder (w.params.setOrder S ep) es).toList).map (·.2))[i]?=some v) (λi h=>iG h I S (.int ((0:Nat):Int) 0) i es.size ep/\h.get? S=some o) where
 sub:=λb hb=>by simp at hb;simp[hb]
 frame:=λi h h' ⟨⟨oi,h1,r⟩,h2⟩ hk=>⟨⟨oi,hk I {} _ h1,r⟩,hk S {} _ h2⟩
 item:=λi s Q E hi ⟨st,ho⟩ hQ=>by
  have hl:(pickOrder (w.params.setOrder S ep) es).size=es.size:=by rw[<-pB,ED.length_eq,pB]
  have he:(pickOrder (w.params.setOrder S ep) es)[i]?=some (pickOrder (w.params.setOrder S ep) es)[i]:=by simp[hl,hi]
  refine Bn st ho hd hf (mO (Hz ho hd hf hb ?_));rw[he];dsimp only[Option.map_some];obtain⟨oi,g1,g2,g3⟩:=id st;refine mO (sH g1 g3 {} ?_);obtain⟨o1,k1,k2,k3⟩:=xH (v:=rawInt ((0:Nat):Int)) (k:=0) g1 g2 g3;refine mO (sH k1 k3 {} ?_);obtain⟨o2,m1,m2,m3⟩:=xH (v:=rawInt ((i:Int)+1)) (k:=1) k1 k2 k3;have sb:=(qD s.heap I (Obj.mapFields (·.setIfInBounds 0 (rawInt ((0:Nat):Int))))).trans (qD _ I (Obj.mapFields (·.setIfInBounds 1 (rawInt ((i:Int)+1)))));refine mW ⟨_,rfl,hQ _ _ s.toks ?_ ⟨⟨o2,m1,m2,?_⟩,BA sb hne ho⟩ λb o hb e=>(sb.2 b (~~~hb)).trans e⟩
  .rw[pA,sI,he];rfl
  .rw[m3];simp[rawInt]
 done:=λs Q E ⟨st,ho⟩ hQ=>by
  have hl:(pickOrder (w.params.setOrder S ep) es).size=es.size:=by rw[<-pB,ED.length_eq,pB]
  have he:(pickOrder (w.params.setOrder S ep) es)[es.size]?=none:=by simp[hl]
  refine Bn st ho hd hf (mO (Hz ho hd hf hb ?_));rw[he];dsimp only[Option.map_none];obtain⟨oi,g1,g2,g3⟩:=id st;refine mO (sH g1 g3 {} ?_);have sb:=qD s.heap I (Obj.mapFields (·.setIfInBounds 2 Value.none));exact Dj (A:=A) hh λh' k=>hQ h' s.toks λb o hb e=>k b o ((sb.2 b (~~~hb)).trans e)
 self:=λi s Q E ⟨st,_⟩ hQ=>Dh st hQ
def ym (t:SetTable)(i:Nat):Nat:=if i=0 then 0 else t.place.getD 0 0+1
def Zjg:SetTable.below xs 0=0:=by
 unfold SetTable.below;have all:∀Az hi,SetTable.below.go xs 0 Az 0 hi=0:=by
  intro Az;induction Az with
  | zero=>intro hi;unfold SetTable.below.go;rfl
  | succ f ih=>
   intro hi;unfold SetTable.below.go;split
   .rw[mR (x8 _)];exact ih _
   .rfl
 exact all _ _
def ZkZ:SetTable.below #[j] (j+1)=1:=by unfold SetTable.below;show SetTable.below.go #[j] (j+1) 1 0 1=1;unfold SetTable.below.go;simp[SetTable.below.go]
def Zpm (h:xs.size=1):∃j,xs=#[j]:=by
 obtain⟨l⟩:=xs
 match l,h with
 | [j],_=>exact⟨j,rfl⟩
def Zjm (hh:A.handled=none)(hne:S≠I)(hd:o.data=.set es ep t)(hf:t.fits es.size=true)(hb:pU w=false)(hl:t.led=true)(h1:es.size<=1):
  Walks prog w A I [I,S] [I] es.size (λi v=>(es.toList.map (·.2))[i]?=some v) (λi h=>iG h I S (.int ((ym t i:Nat):Int) 0) i es.size ep/\h.get? S=some o) where
 sub:=λb hb=>by simp at hb;simp[hb]
 frame:=λi h h' ⟨⟨oi,h1,r⟩,h2⟩ hk=>⟨⟨oi,hk I {} _ h1,r⟩,hk S {} _ h2⟩
 item:=λi s Q E hi ⟨st,ho⟩ hQ=>by
  have i0:i=0:=by lia
  subst i0;have ps:t.place.size=es.size:=by have:=hf;simp only[SetTable.fits,oJ,JP]at this;exact this.1
  have he:es[0]?=some es[0]:=by simp[hi]
  have hp:t.place[0]?=some (t.place.getD 0 0):=by
   have:0<t.place.size:=by lia
   simp[this]
  refine Bn st ho hd hf (mO (IE ho hd hf hb hl h1 ?_));rw[show ym t 0=0 from rfl,Zjg,he,hp];dsimp only;obtain⟨oi,g1,g2,g3⟩:=id st;refine mO (sH g1 g3 {} ?_);obtain⟨o1,k1,k2,k3⟩:=xH (v:=rawInt ((t.place.getD 0 0+1:Nat):Int)) (k:=0) g1 g2 g3;refine mO (sH k1 k3 {} ?_);obtain⟨o2,m1,m2,m3⟩:=xH (v:=rawInt (((0:Nat):Int)+1)) (k:=1) k1 k2 k3;have sb:=(qD s.heap I (Obj.mapFields (·.setIfInBounds 0 (rawInt ((t.place.getD 0 0+1:Nat):Int))))).trans (qD _ I (Obj.mapFields (·.setIfInBounds 1 (rawInt (((0:Nat):Int)+1)))));refine mW ⟨_,rfl,hQ _ _ s.toks ?_ ⟨⟨o2,m1,m2,?_⟩,BA sb hne ho⟩ λb o hb e=>(sb.2 b (~~~hb)).trans e⟩
  .rw[pA,sI,he];rfl
  .rw[m3];simp[rawInt,ym]
 done:=λs Q E ⟨st,ho⟩ hQ=>by
  have ps:t.place.size=es.size:=by have:=hf;simp only[SetTable.fits,oJ,JP]at this;exact this.1
  have hn:es[SetTable.below t.place (ym t es.size)]?=none:=by
   have hz:es.size=0\/es.size=1:=by lia
   rcases hz with z | z
   .simp[z]
   .have e1:∃j,t.place=#[j]:=by
     have:t.place.size=1:=by lia
     exact Zpm this
    obtain⟨j,ej⟩:=e1;have:ym t es.size=j+1:=by unfold ym;rw[mR ∅,ej];rfl
    rw[this,ej,ZkZ];simp[z]
  refine Bn st ho hd hf (mO (IE ho hd hf hb hl h1 ?_));rw[hn];dsimp only;obtain⟨oi,g1,g2,g3⟩:=id st;refine mO (sH g1 g3 {} ?_);have sb:=qD s.heap I (Obj.mapFields (·.setIfInBounds 2 Value.none));exact Dj (A:=A) hh λh' k=>hQ h' s.toks λb o hb e=>k b o ((sb.2 b (~~~hb)).trans e)
 self:=λi s Q E ⟨st,_⟩ hQ=>Dh st hQ
def ZiW (ho:s.heap.get? S=some o)(hd:o.data=.set es ep t)(hf:t.fits es.size=true)(he:es[p]?=some e)(h:Q e.2 s):wpAny (model prog w) A (setNextDrawn S p ep) Q E s:=by unfold setNextDrawn;refine mO (yn ho hd hf ?_);dsimp only;rw[mR {},he];exact mW h
def Zg4 {tp:AD}{ps:mN}(hh:A.handled=none)(hne:S≠I)(hnt:tp≠I)(hd:o.data=.set es ep t)(hf:t.fits es.size=true)(hp:ps.Perm (List.range es.size)):
  Walks prog w A I [I,S,tp] [I] es.size (λi v=>(ps.map λp=>(es.getD p (0,.none)).2)[i]?=some v) (λi h=>iG h I S (.ref tp) i es.size ep/\h.get? S=some o/\h.get? tp=some { cls:=.type "tuple",data:=.seq (ps.map (λi=>Value.int ((i:Nat):Int) 0)).toArray }) where
 sub:=λb hb=>by simp at hb;simp[hb]
 frame:=λi h h' ⟨⟨oi,h1,r⟩,h2,h3⟩ hk=>⟨⟨oi,hk I {} _ h1,r⟩,hk S {} _ h2,hk tp {} _ h3⟩
 item:=λi s Q E hi ⟨st,ho,ht⟩ hQ=>by
  have hl:ps.length=es.size:=by rw[hp.length_eq,rm]
  have hi':i<ps.length:=by lia
  have hpi:ps[i]?=some ps[i]:=om hi';have A1:ps[i]<es.size:=oU.mp (hp.mem_iff.mp (t8 hi'));have he:es[ps[i]]?=some es[ps[i]]:=by simp[A1]
  refine GU st ho hd hf (mO (tH ht rfl ?_));dsimp only;have hx:((ps.map (λi=>Value.int ((i:Nat):Int) 0)).toArray)[i]?=some (Value.int ((ps[i]:Nat):Int) 0):=by simp[hpi]
  rw[hx];dsimp only;refine mO (ZiW ho hd hf he ?_);obtain⟨oi,g1,g2,g3⟩:=id st;refine mO (sH g1 g3 {} ?_);obtain⟨o2,m1,m2,m3⟩:=xH (v:=rawInt ((i:Int)+1)) (k:=1) g1 g2 g3;have sb:=qD s.heap I (Obj.mapFields (·.setIfInBounds 1 (rawInt ((i:Int)+1))));refine mW ⟨_,rfl,hQ _ _ s.toks ?_ ⟨⟨o2,m1,m2,?_⟩,BA sb hne ho,BA sb hnt ht⟩ λb o hb e=>(sb.2 b (~~~hb)).trans e⟩
  .rw[pA,hpi];simp[A1]
  .rw[m3];simp[rawInt]
 done:=λs Q E ⟨st,ho,ht⟩ hQ=>by
  have hl:ps.length=es.size:=by rw[hp.length_eq,rm]
  refine GU st ho hd hf (mO (tH ht rfl ?_));dsimp only;have hx:((ps.map (λi=>Value.int ((i:Nat):Int) 0)).toArray)[es.size]?=none:=by simp[hl]
  rw[hx];dsimp only;obtain⟨oi,g1,g2,g3⟩:=id st;refine mO (sH g1 g3 {} ?_);obtain⟨o1,k1,k2,k3⟩:=xH (v:=rawInt 0) (k:=0) g1 g2 g3;refine mO (sH k1 k3 {} ?_);have sb:=(qD s.heap I (Obj.mapFields (·.setIfInBounds 0 (rawInt 0)))).trans (qD _ I (Obj.mapFields (·.setIfInBounds 2 Value.none)));exact Dj (A:=A) hh λh' k=>hQ h' s.toks λb o hb e=>k b o ((sb.2 b (~~~hb)).trans e)
 self:=λi s Q E ⟨st,_⟩ hQ=>Dh st hQ
end
def ZgI:typeLookup (.type "set") "__len__"=pure (some (.builtin "set.__len__")):=by rw[typeLookup_type,builtinLookup_eq_fast];kernel_rfl
section
def ZiE {es:Array (Int×Value)}{ps:mN}(hp:ps.Perm (List.range es.size)):(ps.map λp=>(es.getD p (0,.none)).2).Perm (es.toList.map (·.2)):=by
 have q:=hp.map (λp=>(es.getD p (0,.none)).2);refine q.trans (.of_eq ?_);apply uK
 .simp
 .intro n h1 h2;have hn:n<es.size:=by simpa using h2
  simp[hn]
def Zi6 (hS:gE prog w s.heap S ls (!pU w))
  (h:∀(h2:Heap) (d:Drawn) (I:AD) (fp:List AD) (vs:AC) (ms:mU) (St:Nat->Heap->Prop),(∀A':AH,A'.handled=none->Walks prog w A' I fp [I] ls.length (λi v=>vs[i]?=some v) St)->St 0 h2 ->
   (∀b∈fp,b=S\/s.heap.objs.size<=b)->s.heap.objs.size<=I->(∀b o,s.heap.get? b=some o->h2.get? b=some o)->ms.Perm ls->fV (ms.map tx) vs->Q (.ref I) { s with heap:=h2,drawn:=d }):
  wpAny (model prog w) A (pyIter (.ref S)) Q E s:=by
 obtain⟨o,es,ep,t,ms,ho,hex,hd,hel,hf,hled,hpl,hp,hv,hb⟩:=hS;have As:es.size=ls.length:=by have q:=hv.length;rw[m6,m6]at q;rw[<-pB,<-q,hp.length_eq]
 have A1:=nP ho;refine Zl1 ho hex hd hf (fits_of_scanBound hb) (λhc=>?_) λps d pp=>?_
 .have nI:S≠s.heap.objs.size:=oO A1;have st:(s.heap.push ({ cls:=.type "set_iterator",data:=.fields #[.int 0 0,.int 0 0,.ref S,.int es.size 0,.int ep 0] }:Obj)).get? s.heap.objs.size=some { cls:=.type "set_iterator",data:=.fields #[.int 0 0,.int 0 0,.ref S,.int es.size 0,.int ep 0] }:=oP _ rfl;have fp:∀b∈[s.heap.objs.size,S],b=S\/s.heap.objs.size<=b:=λb hb=>by
   rcases ot.mp hb with z | z
   .exact .inr (vj z.symm)
   .exact .inl (~~~z)
  cases hby:pU w with
  | true=>
   obtain⟨ms',p',r'⟩:=Em ((ED (next:=w.params.setOrder S ep) (xs:=es)).map (·.2)) hv;have W:∀A':AH,A'.handled=none->_:=λA' hA=>Zjl (prog:=prog) (w:=w) (A:=A') (I:=s.heap.objs.size) (S:=S) (o:=o) hA nI hd hf hby;rw[As]at W;exact h _ s.drawn _ _ _ ms' _ W ⟨⟨_,st,rfl,by rw[As];rfl⟩,nG _ ho⟩ fp (nD _) (λb o e=>nG _ e) (p'.trans hp) r'
  | false=>
   have h1:es.size<=1:=by
    rcases hc with z | z | z
    .rw[hby]at z;cases z
    .rw[hpl z];exact pE _
    .exact z
   have hl:t.led=true:=by rw[hled,hby];rfl
   have W:∀A':AH,A'.handled=none->_:=λA' hA=>Zjm (prog:=prog) (w:=w) (A:=A') (I:=s.heap.objs.size) (S:=S) (o:=o) hA nI hd hf hby hl h1;rw[As]at W;exact h _ s.drawn _ _ _ ms _ W ⟨⟨_,st,rfl,by rw[As];rfl⟩,nG _ ho⟩ fp (nD _) (λb o e=>nG _ e) hp hv
 .have nI:S≠s.heap.objs.size+1:=oO (wN A1);have nT:s.heap.objs.size≠s.heap.objs.size+1:=oO (Nat.lt_succ_self _);obtain⟨ms',p',r'⟩:=Em (ZiE pp) hv;have W:∀A':AH,A'.handled=none->_:=λA' hA=>Zg4 (prog:=prog) (w:=w) (A:=A') (I:=s.heap.objs.size+1) (S:=S) (o:=o) (tp:=s.heap.objs.size) hA nI nT hd hf pp;rw[As]at W;refine h _ d _ _ _ ms' _ W ⟨⟨{ cls:=.type "set_iterator",data:=.fields #[.ref s.heap.objs.size,.int 0 0,.ref S,.int es.size 0,.int ep 0] },?_,rfl,by rw[As];rfl⟩,nG _ (nG _ ho),nG _ (oP _ rfl)⟩ ?_ (uk _) (λb o e=>nG _ (nG _ e)) (p'.trans hp) r'
  .rw[<-rO];exact oP _ rfl
  .intro b hb;rcases ot.mp hb with z | z
   .exact .inr (by rw[z];exact uk _)
   .rcases ot.mp z with z | z
    .exact .inl z
    .have z:b=s.heap.objs.size:=by simpa using z
     exact .inr (vj z.symm)
def ZhM (hh:A.handled=none)(hS:gE prog w s.heap S ls (!pU w))(hn:ls.length<=sizeLine)
  (hQ:∀(s':AE) (vs:AC) (ms:mU),(∀b o,s.heap.get? b=some o->s'.heap.get? b=some o)->s'.gens=s.gens->s'.os=s.os->ms.Perm ls->fV (ms.map tx) vs->Q vs s'):wpAny (model prog w) A (collect (.ref S)) Q E s:=by
 unfold collect;refine mO (wpAny_runValue (codeAny_builtin F.entry_proto_collect ?_));rw[wA F.plain_proto_collect _];show wpAny _ A.in1 (newList [] >>= λl=>again (.builtin "list.__iadd__" ⟨[l,.ref S],[]⟩)) _ _ s;refine mO (uP (mW ⟨plainId_quiet F.plain_list_iadd _,codeAny_builtin F.entry_list_iadd ?_⟩));rw[wA F.plain_list_iadd _];generalize hH:s.heap.push { cls:=.type "list",data:=.seq ([]:AC).toArray }=H;have hHs:H.objs.size=s.heap.objs.size+1:=by rw[<-hH,rO]
 have hL:H.get? s.heap.objs.size=some { cls:=.type "list",data:=.seq ([]:AC).toArray }:=hH▸oP _ rfl;have k1:∀b o,s.heap.get? b=some o->H.get? b=some o:=λb o e=>hH▸nG _ e;have hS1:gE prog w H S ls (!pU w):=hS.keep λo e=>k1 S o e;have hT:Shared.TypeIs { s with heap:=H } (.ref S) "set":=hS1.typ (s:={ s with heap:=H });have nS:S≠s.heap.objs.size:=by obtain⟨o,_,_,_,_,ho,_⟩:=hS;exact oO (nP ho)
 show wpAny _ A.in1 (Builtin.List.listExtendWith (.ref s.heap.objs.size) (.ref S) (.ref s.heap.objs.size)) _ _ { s with heap:=H };unfold Builtin.List.listExtendWith;refine mO (wpAny_typeOf hT ?_);have h1:Builtin.List.listSameRef (.ref s.heap.objs.size) (.ref S)=false:=by simp[Builtin.List.listSameRef,nX nS]
 have h2:(Value.type "set" == Value.type "list")=false:=by decide
 have h3:(Value.type "set" == Value.type "tuple")=false:=by decide
 simp only[h1,h2,h3,Bool.or_false,xY,if_false];refine mO (Zi6 (s:={ s with heap:=H }) hS1 λh2' d I fp vs ms St W st hfp hI k2 hp hv=>?_);have hT2:Shared.TypeIs { s with heap:=h2',drawn:=d } (.ref S) "set":=(hS1.keep λo e=>k2 S o e).typ (s:={ s with heap:=h2',drawn:=d });refine mO (qR ?_);unfold Builtin.List.listLengthHint;refine mO (wpAny_specialOf hT2 ZgI ?_)
 wp_delta
 refine mO (wpAny_isInstance (T:="set") (v:=.ref S) (b:=true) hT2 (by rw[isSubtype_type];kernel_rfl) ?_);show wpAny _ A.in1 (typeOf (Value.ref S) >>= λr=>_) _ _ _;refine mO (wpAny_typeOf hT2 ?_);refine mW ?_;rw[mS ⋯];refine mO (rW ?_);have hL2:h2'.get? s.heap.objs.size=some { cls:=.type "list",data:=.seq ([]:AC).toArray }:=k2 _ _ hL;refine mO ?_;show wpAny _ A.in1 (updateSeq s.heap.objs.size (·.push .none) >>= λ_=>updateSeq s.heap.objs.size (·.pop)) _ _ _;refine mO (wpAny_updateSeq hL2 rfl ?_);have hL3:=u5 (Obj.mapSeq (·.push Value.none)) hL2 rfl;refine wpAny_updateSeq hL3 rfl ?_;have hL4:=u5 (Obj.mapSeq (·.pop)) hL3 rfl;have oth:∀b o,b≠s.heap.objs.size->h2'.get? b=some o->((h2'.update s.heap.objs.size (Obj.mapSeq (·.push Value.none))).update s.heap.objs.size (Obj.mapSeq (·.pop))).get? b=some o:=
  λb o hb e=>(uT _ _ (nX hb)).trans ((uT _ _ (nX hb)).trans e)
 have hle:s.heap.objs.size+1<=I:=by rw[<-hHs];exact hI
 have hSf:s.heap.objs.size∉fp:=λz=>by
  rcases hfp _ z with q | q
  .exact nS q.symm
  .have q':H.objs.size<=s.heap.objs.size:=q;rw[hHs]at q';exact JO q' (Nat.not_succ_le_self _)
 refine mW ⟨plainId_quiet F.plain_extend_loop _,codeAny_extend_loopS (W A.in1 hh).toS hn _ hSf _ ls.length 0 _ _ _ rfl (pE _) ((W A.in1 hh).frame 0 h2' _ st λb hb o e=>oth b o (λz=>hSf (z▸hb)) e) hL4 (ItemsOf.nil _) λs' acc' c' hm hS' Au=>?_⟩;show wpAny _ A (load s.heap.objs.size >>= λr=>_) _ _ s';refine mO (wpAny_load hS' ?_);have hvs:acc'.toList=vs:=by
  have hl:vs.length=ls.length:=by rw[<-hv.length,m6,hp.length_eq]
  apply ul;intro j;rw[sI];by_cases hj:j<ls.length
  .have hj':j<acc'.size:=by rw[Au.1];exact hj
   have e:acc'[j]?=some acc'[j]:=by simp[hj']
   rw[e,Au.2 j _ e]
  .rw[Array.getElem?_eq_none (by rw[Au.1];lia),qN ∅]
 have done:=hQ s' vs ms (λb o e=>by
  have A1:=nP e;refine hm.heap b o (λz=>?_) (oth b o (oO A1) (k2 b o (k1 b o e)));rcases ot.mp z with q | q
  .rw[q]at A1;exact qC _ A1
  .have q:b=I:=by simpa using q
   rw[q]at A1;exact JO A1 (Nat.not_lt.mpr (Nat.le_of_succ_le hle))) hm.gens hm.os hp hv
 rw[<-hvs]at done;exact mW done
end
noncomputable def rG (a b:mN):Bool:=!decide (b<a)
def qd (ls:mU):mU:=ls.mergeSort rG
def ux:rG a b=true↔a<=b:=by unfold rG;rw[Bool.not_eq_true',JL];exact List.not_lt
def sB (ls:mU):(qd ls).Perm ls:=List.mergeSort_perm _ _
def yk (ls:mU):(qd ls).Pairwise (λa b=>rG a b=true):=
 List.pairwise_mergeSort (le:=rG) (λa b c h1 h2=>ux.mpr (List.le_trans (ux.mp h1) (ux.mp h2))) (λa b=>Bool.or_eq_true_iff.mpr ((List.le_total a b).imp ux.mpr ux.mpr)) ls
def Db (p:ms.Perm ls)(h:ms.Pairwise (λa b=>rG a b=true)):ms=qd ls:=
 List.Perm.eq_of_pairwise (λa b _ _ h1 h2=>List.le_antisymm (ux.mp h1) (ux.mp h2)) h (yk ls) (p.trans (sB ls).symm)
def Zhc (p:ms.Perm ls):qd ms=qd ls:=Db ((sB ms).trans p) (yk ms)
theorem HR:∀ {us:AC} {ss:AJ},StrsAre us ss->fV ((ss.map λx=>x.cps.toList).map tx) us
 | _,_,.nil=>.nil
 | _,_,.cons x t h=>.cons ⟨t,rfl⟩ (HR h)
def Zfo:∀ {ss:AJ},sortedS ss=true->(ss.map λx=>x.cps.toList).Pairwise (λa b=>rG a b=true):=by
 have ris:∀(p:Str) (l:AJ),risingS p l=true->((p::l).map λx=>x.cps.toList).Pairwise (λa b=>rG a b=true):=by
  intro p l;induction l generalizing p with
  | nil=>intro _;simp
  | cons x r ih=>
   intro h;have h':(!ltCps x.cps.toList p.cps.toList&&risingS x r)=true:=h;rw[oJ,ltCps_eq]at h';have q:=ih x h'.2;rw[pH,tY];refine⟨λb hb=>?_,q⟩;have hx:rG p.cps.toList x.cps.toList=true:=h'.1;rw[pH]at hb q;rcases ot.mp hb with z | z
   .rw[z];exact hx
   .exact ux.mpr (List.le_trans (ux.mp hx) (ux.mp ((tY.mp q).1 b z)))
 intro ss h;cases ss with
 | nil=>simp
 | cons x r=>exact ris x r h
def Zjz {us:AC}{ls:mU}(r:fV (ls.map tx) us):StrsAre us (ls.map λl=>(⟨l.toArray⟩:Str)):=Eu r
def Zmp (ls:mU):(ls.map λl=>(⟨l.toArray⟩:Str)).map (λx=>x.cps.toList)=ls:=by
 rw[ql]
 conv=>rhs;rw[<-List.map_id ls]
 apply t7;intro l _;simp
section
end
structure rP (B:Heap)(l:List Env)(e:AD)(C:Value)(d:Option AD)(fl:Value)(h:Heap):Prop where
 st:B.StaysIn h
 ne:B.get? e=none
 fr:h.FunFrames B l
 tr:∃oe vs T oT ts,h.get? e=some oe/\oe.cls=C/\oe.dict=d/\oe.data=.fields vs/\vs[1]?=some (.ref T)/\B.get? T=none/\T≠e/\h.get? T=some oT/\oT.data=.fields ts/\ts[3]?=some fl
def Zmj (o:Obj)(f:Array Value->Array Value):(o.mapFields f).dict=o.dict:=by obtain⟨c,d,dt,sl⟩:=o;cases dt<;>rfl
section
variable {M:Model}{A:AH}{E:oo}{s:AE}{B:Heap}{env:Env}{outer:List Env}{L e:AD}{C:Value}{d:Option AD}{Q:Unit->AE->Prop}
def E9 (hfr:A.frames=some (env::outer))(hl:s.heap.FunFrames B (env::outer))(hf:env.frame=some L)(he:s.heap.get? e=some oe)(hkb:B.StaysIn s.heap)(hen:B.get? e=none)
  (hc:oe.cls=C) (hdd:oe.dict=d) (hd:oe.data=.fields vs) (hsz:1<vs.size) (h:∀h',rP B (env::outer) e C d (rawInt L) h'->s.heap.UpToSlots h'->Q () { s with heap:=h' }):
  wpAny M A (do let a <-frameOf env;let pl <-entryPlaceOf L hadNext;let b <-EntryCells.newEntry head a .none (rawInt L) .none pl;setField (.ref e) 1 b) Q E s:=by
 have hene:e∉(env::outer).filterMap (·.frame):=λhm=>by obtain⟨_,o,ho,hnf⟩:=hl.mem hm;rw[he]at ho;cases ho;exact hnf vs hd
 refine mO (wpAny_frameOf_fun hfr hl hf λh1 hs=>mO (wpAny_entryPlaceOf λpl hpl=>?_));unfold EntryCells.newEntry newFields;refine mO (uP ?_ (hpl.sizeOk5 _ _ _ _ _));have e1:h1.get? e=some oe:=(hs.2.1 e hene).trans he;have k1:B.StaysIn h1:=λb o hbo=>(hs.2.1 b λhm=>by rw[(hl.mem hm).1]at hbo;cases hbo).trans (hkb b o hbo);generalize eT:({ cls:=.type "traceback",dict:=none,data:=.fields ([head,.ref L,.none,rawInt L,.none]++(if pl.isEmpty then List.replicate 6 Value.none else pl)).toArray }:Obj)=oT;have e2:(h1.push oT).get? e=some oe:=nG _ e1;refine sH e2 hd hsz ?_;have nT:h1.objs.size≠e:=Nat.ne_of_gt (nP e1);have d3:=wD hd (·.setIfInBounds 1 (Value.ref h1.objs.size));have e3:=u5 (Obj.mapFields (·.setIfInBounds 1 (Value.ref h1.objs.size))) e2 (Obj.isFreed_of_fields d3);have t3:((h1.push oT).update e (Obj.mapFields (·.setIfInBounds 1 (Value.ref h1.objs.size)))).get? h1.objs.size=some oT:=by rw[uT _ _ (nX nT)];refine oP _ ?_;rw[<-eT];rfl
 have keep:∀b o,b≠e->h1.get? b=some o->((h1.push oT).update e (Obj.mapFields (·.setIfInBounds 1 (Value.ref h1.objs.size)))).get? b=some o:=λb o hb q=>by rw[uT _ _ (nX hb)];exact nG _ q
 have nrec:∀b o,s.heap.get? b=some o->(∀vs,o.data≠.fields vs)->b≠e:=λb o q n z=>by rw[z,he]at q;cases q;exact n vs hd
 have dT:oT.data=.fields ([head,.ref L,.none,rawInt L,.none]++(if pl.isEmpty then List.replicate 6 Value.none else pl)).toArray:=by rw[<-eT]
 refine h _ ⟨λb o q=>keep b o (λz=>by rw[z,hen]at q;cases q) (k1 b o q),hen,hl.of_keeps λb o q n=>?_,_,_,h1.objs.size,oT,_,e3,(Obj.cls_mapFields _ _).trans hc,(Zmj _ _).trans hdd,d3,?_,k1.fresh,nT,t3,dT,?_⟩ λb o q n=>?_
 .obtain⟨sl,q2⟩:=hs.2.2 b o q;exact⟨_,keep b _ (nrec b o q n) q2,rfl⟩
 .simp[hsz]
 .simp
 .obtain⟨sl,q2⟩:=hs.2.2 b o q;exact⟨sl,keep b _ (nrec b o q n) q2⟩
def ZiU (hfr:A.frames=some (env::outer))(hl:s.heap.FunFrames B (env::outer))(hf:env.frame=some L)(he:s.heap.get? e=some oe)(hkb:B.StaysIn s.heap)(hen:B.get? e=none)
  (hc:oe.cls=C) (hdd:oe.dict=d) (hd:oe.data=.fields vs) (h1:vs[1]?=some .none) (h:∀h',rP B (env::outer) e C d (rawInt L) h'->s.heap.UpToSlots h'->Q () { s with heap:=h' }):wpAny M A (noteFrame (.ref e) env) Q E s:=by
 unfold noteFrame;simp only[hf];refine mO (rQ he hd h1 ?_);rw[mR ⋯];exact E9 hfr hl hf he hkb hen hc hdd hd (zf.mp h1).1 h
def Ja (hfr:A.frames=some (env::outer))(hf:env.frame=some L)(x:rP B (env::outer) e C d .none s.heap)(h:∀h',rP B (env::outer) e C d (rawInt L) h'->s.heap.UpToSlots h'->Q () { s with heap:=h' }):
  wpAny M A (noteFrame (.ref e) env) Q E s:=by
 obtain⟨hkb,hen,hl,oe,vs,T,oT,ts,he,hc,hdd,hd,h1,hnT,hTe,hT,hdT,h3⟩:=x;unfold noteFrame;simp only[hf];refine mO (rQ he hd h1 ?_);rw[mS (show (Value.ref T != Value.none)=true from by simp)];refine mO (rQ hT hdT h3 ?_);rw[mR (show ¬((Value.none == rawInt L)=true) from by simp[rawInt])];refine mO (sH hT hdT (zf.mp h3).1 ?_);have oth:∀b,b≠T->(s.heap.update T (Obj.mapFields (·.setIfInBounds 3 Value.none))).get? b=s.heap.get? b:=λb hb=>uT _ _ (nX hb);have nrec:∀b o,s.heap.get? b=some o->(∀vs,o.data≠.fields vs)->b≠T:=λb o q n z=>by rw[z,hT]at q;cases q;exact n ts hdT
 refine E9 (s:={ s with heap:=s.heap.update T (Obj.mapFields (·.setIfInBounds 3 Value.none)) }) hfr (hl.of_keeps λb o q n=>⟨o,(oth b (nrec b o q n)).trans q,rfl⟩) hf ((oth e (nX hTe)).trans he)
  (λb o q=>(oth b λz=>by rw[z,hnT]at q;cases q).trans (hkb b o q)) hen hc hdd hd (zf.mp h1).1 λh' y u=>h h' y λb o q n=>u b o ((oth b (nrec b o q n)).trans q) n
def BN (x:rP B l e C d fl s.heap)(h:∀h',rP B l e C d .none h'->s.heap.UpToSlots h'->Q () { s with heap:=h' }):wpAny M A (setFlight (.ref e) none) Q E s:=by
 obtain⟨hkb,hen,hl,oe,vs,T,oT,ts,he,hc,hdd,hd,h1,hnT,hTe,hT,hdT,h3⟩:=x;have hz:3<ts.size:=(zf.mp h3).1;have oth:∀b,b≠T->(s.heap.update T (Obj.mapFields (·.setIfInBounds 3 ((none:Option AD).elim Value.none λf=>rawInt f)))).get? b=s.heap.get? b:=λb hb=>uT _ _ (nX hb);have nrec:∀b o,s.heap.get? b=some o->(∀vs,o.data≠.fields vs)->b≠T:=λb o q n z=>by rw[z,hT]at q;cases q;exact n ts hdT
 unfold setFlight;refine mO (rQ he hd h1 ?_);rw[mS (show (Value.ref T != Value.none)=true from by simp)];refine sH hT hdT hz (h _ ⟨λb o q=>(oth b λz=>by rw[z,hnT]at q;cases q).trans (hkb b o q),hen,hl.of_keeps λb o q n=>⟨o,(oth b (nrec b o q n)).trans q,rfl⟩,oe,vs,T,_,_,(oth e (nX hTe)).trans he,hc,hdd,hd,h1,hnT,hTe,
  u5 _ hT (Obj.isFreed_of_fields (wD hdT _)),wD hdT _,by simp[hz]⟩ λb o q n=>⟨o.slots,(oth b (nrec b o q n)).trans q⟩)
def rP.pop (x:rP B (env::outer) e C d fl h):rP B outer e C d fl h:=⟨x.st,x.ne,x.fr.2.2,x.tr⟩
def Zhr (hfr:A.frames=some (env::outer))(hl:s.heap.FunFrames B (env::outer))(hf:env.frame=some L)(he:s.heap.get? e=some oe)(hkb:B.StaysIn s.heap)(hen:B.get? e=none)
  (hc:oe.cls=C) (hdd:oe.dict=d) (hd:oe.data=.fields vs) (h1:vs[1]?=some .none) (h:∀h',rP B outer e C d .none h'->s.heap.UpToSlots h'->Q () { s with heap:=h' }):wpAny M A (leaving env (.ref e)) Q E s:=by
 unfold leaving;refine mO (ZiU hfr hl hf he hkb hen hc hdd hd h1 λh1 x1 u1=>BN (s:={ s with heap:=h1 }) x1 λh2 x2 u2=>h h2 x2.pop (u1.trans u2))
def Zi1 (hfr:A.frames=some (env::outer))(hf:env.frame=some L)(x:rP B (env::outer) e C d .none s.heap)(h:∀h',rP B outer e C d .none h'->s.heap.UpToSlots h'->Q () { s with heap:=h' }):wpAny M A (leaving env (.ref e)) Q E s:=by unfold leaving;refine mO (Ja hfr hf x λh1 x1 u1=>BN (s:={ s with heap:=h1 }) x1 λh2 x2 u2=>h h2 x2.pop (u1.trans u2))
end
open PySem.W (Frag findIn typeIn mroIn clsIn InstAt Looks)
noncomputable def xr (a C:AD)(d:Option AD):HO:=.ext λh=>∃(o:Obj) (vs:Array Value),h.get? a=some o/\o.cls=.ref C/\o.dict=d/\o.data=.fields vs
def IH (h1:h.get? e=some o)(h2:o.cls=.ref C)(h3:o.dict=d)(h4:o.data=.fields vs):gg P w H h e (xr e C d):=
 ⟨⟨o,vs,h1,h2,h3,h4⟩,⟨o,h1⟩,λg1 g2 ⟨o',vs',q1,q⟩ k=>⟨o',vs',k _ q1,q⟩⟩
inductive iU (H:Hp) (e C:AD):List (Str×V)->Prop where
 | un {fs:List (Str×V)}:rL H e C fs->iU H e C fs
 | bare:H e=some (xr e C none)->iU H e C []
 | full {d:AD} {fs:List (Str×V)}:H e=some (xr e C (some d))->H d=some (xv d fs)->d≠e->iU H e C fs
section
def ZjO (hh:A.handled=none)
  (h:wpAny M A x (λv s_1=>∃(e t:AD) (od:Option AD) (sl:Array (Option Value)) (C:AD) (nm q:Str) (N:AD) (bs bm:AC) (Ay:Bool) (sn:AJ) (sub:AC) (ab:Bool) (col:Option Bool) (dd:Option AD) (k0 k1 k2 k3 k5:Option Value) (newId:String),v=.ref e/\bm.contains (.type "BaseException")=true /\
   s_1.heap.get? C=some (excClassObj nm q C N bs bm Ay sn sub ab col dd k0 k1 k2 k3 k5 newId)/\s_1.heap.get? e=some { cls:=.ref C,dict:=od,data:=.fields #[.ref t,.none,.none,.none,.bool false,.none],slots:=sl }/\E (.ref e) s_1) E s):wpAny M A (raiseStmt env (some x) none) Q E s:=by
 unfold raiseStmt;refine mO (qF h (λv s_1 h9=>?_) λ_ _ x=>x);obtain⟨e,t,od,sl,C,nm,q,N,bs,bm,Ay,sn,sub,ab,col,dd,k0,k1,k2,k3,k5,newId,rfl,hbase,hC,he,hE⟩:=h9;have hcB:(Value.ref C::bm).contains (.type "BaseException")=true:=by rw[wP,hbase,Bool.or_true]
 obtain⟨hp,g,d,tk,os⟩:=s_1;repeat (first | with_reducible refine ua he ?_ | with_reducible refine ua hC ?_ | (with_reducible refine yX hC ?_;rw[hcB]) | wp_step)
 exact wpAny_raiseNew_none hh hE
end
def qO (P:AG)(w:AI):tK:=λouter H s E ev s'=>∃(e C:AD) (d:Option AD) (H':Hp) (h1 B:Heap),ev=.ref e/\s'.os=s.os/\AllBare s'.gens/\Un (pz outer) [] H H' s.heap h1/\o7 P w H' h1/\H' e=some (xr e C d) /\
 (∀b o,h1.get? b=some o->b≠e->((∃u,H' b=some u)\/((∃o',s.heap.get? b=some o')/\b∉pz outer))->B.get? b=some o)/\rP B outer e (.ref C) d .none s'.heap/\h1.UpToSlots s'.heap/\E (.ref C) (some e) H'
def jJ (X:Cx)(Ex:XK):Prop:=∀(Aq:AA) (U:St) (H:Hp) (s:AE) (e C:AD) (d:Option AD),mP X Aq U H s->H e=some (xo e C d)->Ex (.ref C) (some e) (upd H e (xr e C d))->X.xe (.ref e) s
def mP.raised (I:mP X Aq U H s)(h:H e=some (xo e C d)):mP X Aq U (upd H e (xr e C d)) s:=by obtain⟨o,t,h1,h2,h3,h4⟩:=vS I h;exact I.write (x:=e) (e:=e) (o:=xr e C d) (h':=s.heap) (t':=s.toks) (by rw[h];exact trivial) (.inl rfl) (λb u _ q=>q) ⟨o,h1⟩ (IH h1 h2 h3 h4)
def Zoc (e:(hideAll h as).get? b=some o):h.get? b=some o:=of_hideAll _ e
def ZkR {P:AG}{w:AI}{K:Frag}{mg:AB}{base:Heap}{N:AJ}{qual:Str}{scope:Scope}{f:AD}{cd:Value}{A:AH}{outer:List Env}{s0:AE}{H0:Hp}{E:XK}:
  jJ (ir (qO P w) P w K mg base N qual scope f cd A outer s0 H0 E) E:=by
 intro Aq U H s e C d I he hE;obtain⟨o,t,h1,h2,h3,h4⟩:=vS I he;have J:=I.raised he;generalize hX:ir (qO P w) P w K mg base N qual scope f cd A outer s0 H0 E=X at I J ⊢;have eA:X.A=A.deeper (envOfC qual scope s0.heap.objs.size f cd):=by rw[<-hX];rfl
 have eS:X.stack=envOfC qual scope s0.heap.objs.size f cd::outer:=by rw[<-hX];rfl
 have eF:X.fs=pz outer:=by rw[<-hX];rfl
 have e0:X.s_0=s0:=by rw[<-hX];rfl
 have eH:X.H_0=H0:=by rw[<-hX];rfl
 have eX:X.ex=[]:=by rw[<-hX];rfl
 have eL:X.env=envOfC qual scope s0.heap.objs.size f cd:=by rw[<-hX];rfl
 have ePr:X.prog=P:=by rw[<-hX];rfl
 have eW:X.w=w:=by rw[<-hX];rfl
 have hxe:∀ev s',wpAny (model P w) (A.deeper (envOfC qual scope s0.heap.objs.size f cd)) (leaving (envOfC qual scope s0.heap.objs.size f cd) ev) (λ_ s''=>qO P w outer H0 s0 E ev s'') (λe' s''=>qO P w outer H0 s0 E e' s'') s'->X.xe ev s':=by intro ev s' z;rw[<-hX];exact z
 refine hxe _ _ ?_;have hfr:(A.deeper (envOfC qual scope s0.heap.objs.size f cd)).frames=some (envOfC qual scope s0.heap.objs.size f cd::outer):=by rw[<-eA,<-eS];exact I.ok.frames
 have stk:s.heap.FunFrames X.base X.stack:=I.stack;have hin:∀env∈X.stack,∀a,env.frame=some a->a∈pz X.stack++[e]:=λenv henv a ha=>uW _ (List.mem_filterMap.mpr ⟨env,henv,ha⟩);have ff:=PySem.W.funFrames_hide (as:=pz X.stack++[e]) stk hin;rw[eS]at ff;have stays:(hideAll s.heap (pz (envOfC qual scope s0.heap.objs.size f cd::outer)++[e])).StaysIn s.heap:=λb o q=>Zoc q;refine Zhr (B:=hideAll s.heap (pz (envOfC qual scope s0.heap.objs.size f cd::outer)++[e])) (L:=s0.heap.objs.size) hfr ff rfl h1 stays (hideAll_none _ {}) h2 h3 h4 {} λh' fl up=>?_;have os:s.os=s0.os:=by rw[<-e0];exact I.os
 have un:Un (pz outer) [] H0 (upd H e (xr e C d)) s0.heap s.heap:=by
  have:=J.base
  rwa [eF,eX,eH,e0]at this
 have ok:o7 P w (upd H e (xr e C d)) s.heap:=by
  have:=J.hok
  rwa [ePr,eW]at this
 refine⟨e,C,d,upd H e (xr e C d),s.heap,_,rfl,os,I.bare,un,ok,nu,λb o hb hne hc=>?_,fl,up,hE⟩;refine hideAll_get _ hb λz=>?_;rcases oV.mp z with z | z
 .have z':b∈pz X.stack:=by rw[eS];exact z
  rcases hc with⟨u,hu⟩|⟨⟨o',ho'⟩,hn⟩
  .rw[J.stkFree b z']at hu;cases hu
  .rcases ot.mp (I.stkSub b z') with q | q
   .rw[q,eL]at ho';exact JO (nP ho') (qC _)
   .rw[eF]at q;exact hn q
 .exact hne (~~~z)
def Jt (K:Frag)(Ex:XK)(te:TE):TS:=λ_ U H=>te U H λv H1=>∃e C d,v=.ref e/\H1 e=some (xo e C d)/\Xm K C/\Ex (.ref C) (some e) (upd H1 e (xr e C d))
def Zly (hR:jJ X Ex)(hc:X.calm=true)(he:PE X e te):PS X (.Raise (some e) none pos) (Jt X.K Ex te):=by intro Aq s U H D I h;rw[arm_exec_Raise];show wpAny _ X.A (do standAt pos;raiseStmt X.env (some (do let v <-eval e X.env;standAt pos;pure v)) none) _ _ s;refine mO (wB ?_);refine ZjO (I.ok.hd hc) (mO (m8 (he Aq s U H _ I h) λv s1 ⟨x,H1,I1,r1,a,C,d,ex,hx,m,q⟩=>mO (wB (mW ?_))));subst ex;obtain rfl:v=Value.ref a:=r1;obtain⟨o,t,h1,h2,h3,h4⟩:=vS I1 hx;obtain⟨nm,q',N,bs,bm,Ay,sn,sub,ab,col,dd,k0,k1,k2,k3,k5,hl,hxm⟩:=m.parts;obtain⟨oc,odi,oda,osl⟩:=o;dsimp only at h2 h3 h4;subst h2 h3 h4;have hb:(Value.ref C::bm).contains (.type "BaseException")=true:=yd nofun hxm;rw[wP]at hb;refine⟨a,t,_,_,C,nm,q',N,bs,bm,Ay,sn,sub,ab,col,dd,k0,k1,k2,k3,k5,_,rfl,?_,I1.kIn _ _ hl,h1,hR Aq U H1 s1 a C _ I1 hx q⟩;have z:(Value.type "BaseException" == Value.ref C)=false:=rfl;rw[z,Bool.false_or]at hb;exact hb
section
variable {P:AG}{w:AI}{K:Frag}{mg:AB}{base:Heap}
def rJ.okX {x qual:Str}{st:Stmt}{f:AD}{fd:AF}{N ps:AJ}{k:Nat}{sp:Sp}(F:rJ K x qual st f fd)(S:fU N ps (qQ st))
  (hbody:∀(Ar:Value) (A:AH) (outer:List Env) (s:AE) (H:Hp) (vs:JR) (Q:VK) (E:XK),gz k (A.deeper (envOfC qual (qQ st) s.heap.objs.size f Ar))->sp vs H Q E ->
   ∃t,rn (ir (qO P w) P w K mg base N qual (qQ st) f Ar A outer s H E) (tE st) t/\t { nx:=λ_ H'=>Q .non H',rt:=Q } (start N vs) H)(len:∀vs H Q E,sp vs H Q E->vs.length=ps.length:=by walk_at "ln"):f7 P w K mg base (qO P w) (k+1) f fd ps sp:=by
 obtain⟨oc,od,kV,doc,pm,an,Ar,ct,osl,rfl,lk,hcd⟩:=F.ex;exact CO lk hcd S len λA outer s H vs Q E hr hsp=>hbody Ar A outer s H vs Q E hr hsp
end
abbrev TX:=St->Hp->VK->XK->Prop
def FZ (X:Cx)(e:Expr)(t:TX):Prop:=∀(Aq:AA) (s:AE) (U:St) (H:Hp) (Q:VK) (E:XK),mP X Aq U H s->t U H Q E ->
 wpAny (model X.prog X.w) X.A (eval e X.env) (EP X Aq U Q) (λev s'=>∃H2 s2,mP X Aq U H2 s2/\qO X.prog X.w X.stack H2 s2 E ev s') s
abbrev zt:=ia->(St->XK)->St->Hp->Prop
def XH (X:Cx)(Aq:AA)(Ex:St->XK)(ev:Value)(s':AE):Prop:=∃U' H2 s2,mP X Aq U' H2 s2/\qO X.prog X.w X.stack H2 s2 (Ex U') ev s'
def FK (X:Cx)(st:Stmt)(t:zt):Prop:=∀(Aq:AA) (s:AE) (U:St) (H:Hp) (D:ia) (Ex:St->XK),mP X Aq U H s->t D Ex U H->wpAny (model X.prog X.w) X.A (exec st X.env) (SP X Aq D) (XH X Aq Ex) s
def PSsx (X:Cx)(st:List Stmt)(t:zt):Prop:=∀(Aq:AA) (s:AE) (U:St) (H:Hp) (D:ia) (Ex:St->XK),mP X Aq U H s->t D Ex U H->wpAny (model X.prog X.w) X.A (execs st X.env) (SP X Aq D) (XH X Aq Ex) s
section
def Znu (F:f7 X.prog X.w X.K X.mg X.base (qO X.prog X.w) k f fd ps sp)(hr:gz k X.A)(hb:gR X.K fd ps ds)(hd:fV A0 ds)
  (I:mP X Aq U H s) (r:fV vs us) (h:sp (vs++A0) H Q E):wpAny (model X.prog X.w) X.A (call (.ref f) us) (EP X Aq U Q) (λev s'=>∃H2 s2,mP X Aq U H2 s2/\qO X.prog X.w X.stack H2 s2 E ev s') s:=by
 have r2:fV (vs++A0) (us++ds):=r.append hd;have hl:(us++ds).length=ps.length:=by rw[<-r2.length];exact F.len _ _ _ _ h
 refine uu (codeAny_mono (F.run X.A X.stack s H ⟨us,[]⟩ (us++ds) (vs++A0) Q E hr I.env0 (hb s us I.kIn hl) r2 h) λr s' hq=>?_);cases r with
 | error e=>exact⟨H,s,I,hq⟩
 | ok fl=>
  cases fl with
  | ret u=>exact I.after hq
  | next=>exact False.elim hq
  | brk=>exact False.elim hq
  | cont=>exact False.elim hq
def HB (sp:Sp)(A0:JR)(t:TA):TX:=λU H Q E=>t U H λvs H1=>sp (vs++A0) H1 Q E
def Zlz (F:f7 X.prog X.w X.K X.mg X.base (qO X.prog X.w) k f fd ps sp)(hr:gz k X.A)(hg:Gl X x)(hm:X.mg x=some (.ref f))(hk:keepIn X.K (.ref f)=true)(hb:gR X.K fd ps ds)(hd:fV A0 ds)
  (ha:PA X.nox (e::es) t) (hdb:(x == ("__debug__":Str))=false:=by decide) (he:starEach (e::es) X.env=(false,eval e X.env)::starEach es X.env:=by rfl) (hpl:(backTo pos (starEach es X.env)).any (·.1)=false:=by rfl):
  FZ X (.Call (.Name x p) (e::es) [] pos) (HB sp A0 t):=by
 intro Aq s U H Q E I h;refine uz (vG I hg hm ?_ hdb);refine xR (h₀:=X.base) I.ok.mod.kin hk (qF (ha pos Aq s U H _ (I.wish _) h) (λus s1 ⟨vs,H1,I1,r,q⟩=>⟨I1.kIn,?_⟩) λ_ _ z=>False.elim z) he hpl;exact Znu F hr hb hd I1.unwish r q
def GL (te:TX):zt:=λD Ex U H=>te U H (λ_ H1=>D.nx U H1) (Ex U)
def Zlw (he:FZ X e te)(hs:swapsWith e none pos.line X.env=pure false:=by rfl):FK X (.Expr e pos) (GL te):=by intro Aq s U H D Ex I h;exact wpAny_Expr_any (qF (he Aq s U H _ _ I h) (λv s1 ⟨y,H1,I1,r1,q1⟩=>⟨U,H1,I1,q1⟩) λev s' ⟨H2,s2,I2,q⟩=>⟨U,H2,s2,I2,q⟩) I.quiet hs
def Zlx {st:Stmt}{t:zt}(h1:FK X st t):PSsx X [st] t:=by
 intro Aq s U H D Ex I h;refine wpAny_execs_cons (m8 (h1 Aq s U H D Ex I h) λf s1 q=>?_);cases f with
 | next=>exact xC q
 | ret v=>exact q
 | brk=>exact q
 | cont=>exact q
end
section
variable {X:Cx}{Aq:AA}{U:St}{H H':Hp}{s s1:AE}{e C:AD}{d:Option AD}{h1 h5 B:Heap}
def Zjd (I:mP X Aq U H s)(os:s1.os=s.os)(bare:AllBare s1.gens)(un:Un (pz X.stack) [] H H' s.heap h1)(ok:o7 X.prog X.w H' h1)(he:H' e=some (xr e C d))
  (kept:∀b o,h1.get? b=some o->b≠e->((∃u,H' b=some u)\/((∃o',s.heap.get? b=some o')/\b∉pz X.stack))->B.get? b=some o) (fl:rP B X.stack e (.ref C) d .none h5) (up:h1.UpToSlots h5):
  mP X Aq U H' { s1 with heap:=h5 }:=by
 have ne:∀b o,s.heap.get? b=some o->H b=none->b≠e:=λb o q n z=>by have:=un.free b o q n {};rw[z,he]at this;cases this
 have keep:∀b o,s.heap.get? b=some o->H b=none->b∉pz X.stack->h5.get? b=some o:=λb o q n nf=>
  fl.st b o (kept b o (un.keep b o q n nf {}) (ne b o q n) (.inr ⟨⟨o,q⟩,nf⟩))
 have slot:∀b o,s.heap.get? b=some o->H b=none->b∈pz X.stack->∃sl,h5.get? b=some { o with slots:=sl }:=λb o q n hf=>by obtain⟨sl,q1⟩:=un.slot b o q n hf {};obtain⟨_,o',ho',hnf⟩:=I.stack.mem hf;rw[q]at ho';cases ho';obtain⟨sl2,q2⟩:=up b _ q1 hnf;exact⟨sl2,q2⟩
 have xB:∀c u,(∃v,H' c=some v)->h1.get? c=some u->c≠e->h5.get? c=some u:=λc u hv q n=>fl.st c u (kept c u q n (.inl hv));refine I.call' (s':={ s1 with heap:=h5 }) (ch:=[]) os ⟨λb o q n nf _=>keep b o q n nf,λb o q n hf _=>slot b o q n hf,λb o q n _=>un.free b o q n {},λb o q _=>?_,un.tups,un.frzs,un.tbls⟩ (λb ob hb=>?_) bare (λb hb=>by cases hb)
 .by_cases hbe:b=e
  .obtain⟨oe,vs,T,oT,ts,h1,_⟩:=fl.tr;exact⟨oe,by rw[hbe];exact h1⟩
  .cases hH:H b with
   | none=>
    by_cases hf:b∈pz X.stack
    .obtain⟨sl,q2⟩:=slot b o q hH hf;exact⟨_,q2⟩
    .exact⟨o,keep b o q hH hf⟩
   | some u=>
    obtain⟨o',q1⟩:=un.there b o q {};by_cases hf:b∈pz X.stack
    .rw[I.stkFree b hf]at hH;cases hH
    .exact⟨o',fl.st b o' (kept b o' q1 hbe (.inr ⟨⟨o,q⟩,hf⟩))⟩
 .by_cases hbe:b=e
  .subst hbe;rw[he]at hb;cases hb;obtain⟨oe,vs,T,oT,ts,g1,g2,g3,g4,_⟩:=fl.tr;exact IH g1 g2 g3 g4
  .refine(ok b ob hb).stay (λc u hc q=>xB c u ?_ q ?_) (λ_ q=>q) λ_ _ q=>q
   .rcases hc with z | z
    .exact⟨ob,z▸hb⟩
    .exact⟨_,z⟩
   .rintro rfl;rcases hc with z | z
    .exact hbe z.symm
    .rw[he]at z;cases z
end
noncomputable def sux (X:Cx)(e:AD):Cx:={ X with A:=X.A.mark (some (.ref e)),calm:=false,xe:=λ_ _=>False }
section
def mP.sux (I:mP X Aq U H s)(e:AD):mP (L2.sux X e) Aq U H s:=
 ⟨⟨I.ok.mod,I.ok.kind,I.ok.glob,I.ok.blt,I.ok.above,I.ok.inj,I.ok.has,I.ok.cab,(λz=>by cases z),I.ok.frames,I.ok.stk,I.ok.exf,I.ok.bs,I.ok.bsz,I.ok.noex,I.ok.exfs,I.ok.funs,I.ok.frf⟩,I.os,I.bare,I.base,I.loc,I.cell,I.free,I.freeC,I.pin,I.hok,I.len⟩
def mP.unsux (hh:X.calm=true->X.A.handled=none)(I:mP (L2.sux X e) Aq U H s):mP X Aq U H s:=
 ⟨⟨I.ok.mod,I.ok.kind,I.ok.glob,I.ok.blt,I.ok.above,I.ok.inj,I.ok.has,I.ok.cab,hh,I.ok.frames,I.ok.stk,I.ok.exf,I.ok.bs,I.ok.bsz,I.ok.noex,I.ok.exfs,I.ok.funs,I.ok.frf⟩,I.os,I.bare,I.base,I.loc,I.cell,I.free,I.freeC,I.pin,I.hok,I.len⟩
def mP.unbind (I:mP X Aq U H s)(hN:X.N.Nodup)(hi:X.N[i]?=some x)(hm:∀(i:Nat) (x:Str) (v:V),X.N[i]?=some x->U[i]?=some (some v)->yg X.env.scope x->∃u,fZ v u/\Look X.env s.heap m x u)
  (hn':h'.Ns X.env.locals (λy=>if y=x then v else m y)) (hs:Heap.SameBut X.env.locals s.heap h'):mP X Aq (U.set i none) H { s with heap:=h',toks:=t' }:=by
 obtain⟨m0,hn,_⟩:=id I.loc;obtain⟨oL,_,_,hoL,_⟩:=id hn;have ab:∀b o,X.s_0.heap.get? b=some o->b≠X.env.locals:=λb o e=>oO (qz (nP e) I.ok.above);refine⟨I.ok,I.os,I.bare,⟨λb o e n hb hx=>(hs.2 b (ab b o e)).trans (I.base.keep b o e n hb hx),λb o e n hb hx=>?_,I.base.free,λb o e hx=>?_,I.base.tups,I.base.frzs,I.base.tbls⟩,⟨_,hn',λj y v' e1 e2 e3=>?_⟩,λy c e=>?_,I.free,I.freeC,λp hp=>?_,λb ob e=>?_,~~~I.len⟩
 .obtain⟨sl,e1⟩:=I.base.slot b o e n hb hx;exact⟨sl,(hs.2 b (ab b o e)).trans e1⟩
 .obtain⟨o',e1⟩:=I.base.there b o e hx;exact⟨o',(hs.2 b (ab b o e)).trans e1⟩
 .have hj:j≠i:=by
   rintro rfl;by_cases hl:j<U.length
   .rw[List.getElem?_set_self hl]at e2;cases e2
   .rw[List.set_eq_of_length_le (Nat.le_of_not_lt hl),qN (Nat.le_of_not_lt hl)]at e2;cases e2
  rw[List.getElem?_set_ne (nX hj)]at e2;obtain⟨u',r',q⟩:=hm j y v' e1 e2 e3;refine⟨u',r',?_⟩;rcases q with⟨k,e⟩|⟨k,c,e,z⟩
  .refine .inl ⟨k,?_⟩;have:y≠x:=λe=>hj (DZ hN e1 (e▸hi));simp[this,e]
  .exact .inr ⟨k,c,e,z.sameBut hs (I.cne y c e)⟩
 .obtain⟨w',z⟩:=I.cell y c e;exact⟨w',z.sameBut hs (I.cne y c e)⟩
 .obtain⟨e,n,ne,nf,d⟩:=I.pin p hp;exact⟨(hs.2 p.1 ne).trans e,n,ne,nf,d⟩
 .refine(I.hok b ob e).stay (λc w' hc q=>(hs.2 c ?_).trans q) (λ_ q=>q) λ_ _ q=>q;rintro rfl;rcases hc with z | hc
  .rw[<-z,I.free]at e;cases e
  .rw[I.free]at hc;cases hc
end
abbrev TH:=Addr->AD->ia->St->Hp->Prop
def BS (X:Cx)(hs:List ExceptHandler)(th:TH):Prop:=∀(Aq:AA) (s:AE) (U:St) (H:Hp) (D:ia) (e C:AD) (d:Option AD) (B:Heap),(∀h5,rP B X.stack e (.ref C) d .none h5->s.heap.UpToSlots h5->mP X Aq U H { s with heap:=h5 })->H e=some (xr e C d)->rP B X.stack e (.ref C) d .none s.heap->th e C D U H ->
 wpAny (model X.prog X.w) X.A (handleBy (.ref e) X.env hs) (SP X Aq D) X.xe s
def C2 (i:Nat)(D:ia):ia:={ nx:=λU H=>D.nx (U.set i none) H,rt:=D.rt,bk:=λU H=>D.bk (U.set i none) H,ct:=λU H=>D.ct (U.set i none) H }
def Jz (K:Frag)(C0:AD)(i:Nat)(ts:TS)(tr:TH):TH:=λe C D U H=>∃b,exmOne K (.ref C) (.ref C0)=some b/\if b=true then ts (C2 i D) (U.set i (some (.ref e))) H else tr e C D U H
def jW:TH:=λ_ _ _ _ _=>False
def Zpe:BS X [] jW:=λ_ _ _ _ _ _ _ _ _ _ _ _ h=>h.elim
def Zkh (h1:h.get? e=some o)(h2:o.cls=.ref C):Looks M h (typeOf (.ref e)) (.ref C):=by
 intro A Q E s k q;have h1':=k _ _ h1;obtain⟨hp,g,d,tk,os⟩:=s;unfold typeOf;repeat (first | (with_reducible refine ua h1' ?_;rw[h2]) | wp_step)
 exact q
section
variable {X:Cx}{x n:Str}{np pos:Pos}{b8:Stmt}{suite:List Stmt}{gx:List ExceptHandler}{ts:TS}{tr:TH}{C0:AD}{i:Nat}
def Zrm (hc:X.calm=true->X.A.handled=none)(hg:Gl X x)(hm:X.mg x=some (.ref C0))(hN:X.N.Nodup)(hi:X.N[i]?=some n)(hl:X.env.scope.names.lookup n=some .local)(hs:∀e,rn (sux X e) (b8::suite) ts)(hr:BS X gx tr)
  (hdb:(x == ("__debug__":Str))=false:=by decide):BS X (.ExceptHandler (some (.Name x np)) (some n) (b8::suite) pos::gx) (Jz X.K C0 i ts tr):=by
 intro Aq s U H D e C d B cv he fl h;obtain⟨b,hb,h⟩:=h;have I:mP X Aq U H s:=cv s.heap fl (Heap.UpToSlots.refl _);have J:=I.sux e;refine wpAny_handleBy_cons (codeAny_handlers_test (vG (X:=sux X e) J hg hm ?_ hdb)) (by intro q;cases q);obtain⟨oe,vs,T,oT,tt,g1,g2,_⟩:=id fl.tr;refine(PySem.W.exm_one (M:=model X.prog X.w) I.kIn (Zkh g1 g2) hb).here ?_;have hp:(X.env.scope.kind == .class || (X.env.scope.kind == .module&&X.env.locals != X.env.globals))=false:=by rw[I.ok.kind];rfl
 cases b with
 | false=>exact hr Aq s U H D e C d B cv he fl h
 | true=>
  refine codeAny_handlers_suite_as (BN fl λh6 fl6 up6=>?_);have J6:=(cv h6 fl6 up6).sux e;refine A3 (X:=sux X e) (i:=i) J6 hN hi (.inl hl) (v:=.ref e) rfl (λs7 I7=>?_) (.inr hl);refine qF (hs e Aq s7 _ H (C2 i D) I7 h) (λf s8 q=>?_) λ_ _ z=>False.elim z;have goes:∀ {U8:St} {H8:Hp} {Q:Unit->AE->Prop} (I8:mP (sux X e) Aq U8 H8 s8),(∀s9,mP X Aq (U8.set i none) H8 s9->Q () s9)->wpAny (model X.prog X.w) X.A (do bindName X.env n .none;unbindBehindTheSuite X.env n pos) Q X.xe s8:=λ{U8 H8 Q} I8 k=>by have I9:=I8.unsux hc;obtain⟨m,hn,hm'⟩:=I9.loc;exact wpAny_nameGoes_keeps hl hn hp λh' v hn' sb=>k _ (I9.unbind hN hi hm' hn' sb)
  cases f with
  | next=>
   obtain⟨U8,H8,I8,q8⟩:=q;exact goes I8 λs9 I9=>⟨_,H8,I9,q8⟩
  | brk=>
   obtain⟨U8,H8,I8,q8⟩:=q;exact goes I8 λs9 I9=>⟨_,H8,I9,q8⟩
  | cont=>
   obtain⟨U8,H8,I8,q8⟩:=q;exact goes I8 λs9 I9=>⟨_,H8,I9,q8⟩
  | ret u=>
   obtain⟨v,U8,H8,I8,r8,q8⟩:=q;exact goes I8 λs9 I9=>⟨v,_,H8,I9,r8,q8⟩
def tTry (tb:zt)(th:TH):TS:=λD U H=>tb D (λU' cls oe H'=>∃e C,cls=.ref C/\oe=some e/\th e C D U' H') U H
def Zpb (hst:X.stack=X.env::X.outer)(hfr:X.env.frame=some X.env.locals)(hb:PSsx X body tb)(hh:BS X (h₀::hs) th):
  PS X (.Try body (h₀::hs) [] [] pos) (tTry tb th):=by
 intro Aq s U H D I h;refine wpAny_Try_except (qF (hb Aq s U H D _ I h) (λf s1 q=>?_) λev s1 q=>?_)
 .cases f with
  | next=>exact xC q
  | ret v=>exact q
  | brk=>exact q
  | cont=>exact q
 .obtain⟨U',H2,s2,I2,e,C,d,H',h1,B,rfl,os,bare,un,ok,he,kept,fl,up,e',C',ec,ee,hth⟩:=q;cases ec;cases ee;have fr:X.A.frames=some (X.env::X.outer):=by rw[<-hst];exact I.ok.frames
  rw[hst]at fl;refine Ja fr hfr fl λh4 fl4 up4=>BN (s:={ s1 with heap:=h4 }) fl4 λh5 fl5 up5=>?_;rw[<-hst]at fl5;exact hh Aq { s1 with heap:=h5 } U' H' D e C d B (λh6 fl6 up6=>Zjd (s1:=s1) I2 os bare un ok he kept fl6 (up.trans (up4.trans (up5.trans up6)))) he fl5 hth
end
open PySem.W (Frag findIn specialIn typeIn mroIn clsIn subIn kitOne kitCls InstAt Looks)
section
def Iw (I:mP X Aq U H s)(h:H e=some (xr e C d)):∃(o:Obj) (vs:Array Value),s.heap.get? e=some o/\o.cls=.ref C/\o.dict=d/\o.data=.fields vs:=(I.hok e _ h).1
def iU.inst (I:mP X Aq U H s)(x:iU H e C fs):∃(ox:Obj) (od:Option Obj),InstAt s.heap e ox C od/\∀name,∃r,(match od with | some o=>lookIn name o | none=>some none)=some r/\gV (fs.lookup name) r:=by
 cases x with
 | un h=>exact h.inst I
 | bare h=>
  obtain⟨o,vs,h1,h2,h3,h4⟩:=Iw I h;exact⟨o,none,⟨h1,h2,by unfold notCls;rw[h4],by rw[h3];trivial⟩,λname=>⟨none,rfl,by trivial⟩⟩
 | @full d _ h h' hne=>
  obtain⟨o,vs,h1,h2,h3,h4⟩:=Iw I h;obtain⟨⟨_,mA,hn,hr,_⟩,_⟩:=I.hok d _ h';obtain⟨od,hod,hl⟩:=Ee hn;exact⟨o,some od,⟨h1,h2,by unfold notCls;rw[h4],by rw[h3];exact hod⟩,λname=>⟨mA name,hl name,hr name⟩⟩
def Zqz (I:mP X Aq U H s)(x:iU H e C fs)(c:Xc X.K C)(n:ge X.K C f)(l:fs.lookup f=some v)(h:∀u s',mP X Aq U H s'->fZ v u->Q u s'):wpAny (model X.prog X.w) A (getAttr (.ref e) f b) Q E s:=by
 obtain⟨ox,od,J,hr⟩:=x.inst I;obtain⟨r,hl,ro⟩:=hr f;rw[l]at ro;obtain⟨u,rfl,ru⟩:=gV.some_of ro;refine Ziz I.kIn J c ?_ (IB ru) (h u _ (I.tok _) ru);cases od with
 | none=>cases hl
 | some o=>exact findObj_own c.hd n rfl hl
end
def Gb (K:Frag)(ta:TE)(f:Str):TE:=λU H Q=>ta U H λx H1=>∃e C fs v,x=.ref e/\iU H1 e C fs/\Xc K C/\ge K C f/\fs.lookup f=some v/\Q v H1
def IP {X:Cx}{K:Frag}{e:Expr}{f:Str}{pos:Pos}{ta:TE}(hK:X.K=K)(he:PE X e ta)(hb:attributeBase e f X.env (eval e X.env)=eval e X.env):PE X (.Attribute e f pos) (Gb K ta f):=by subst hK;intro Aq s U H Q I h;refine FO hb (m8 (he Aq s U H _ I h) λu s1 zz=>?_);obtain⟨x,H1,I1,rx,a,C,fs,v,ex,xa,c,n,l,q⟩:=zz;subst ex;obtain rfl:u=Value.ref a:=rx;exact Zqz I1 xa c n l λu' s2 I2 ru=>⟨v,H1,I2,ru,q⟩
inductive CB (K:Frag) (H:Hp):V->Value->Prop where
 | ty {x:V} {t:Value} (h:sZ K H x t):CB K H x t
 | exc {e C:AD} {fs:List (Str×V)} (x:iU H e C fs) (i:Xi K C):CB K H (.ref e) (.ref C)
def qg {X:Cx}{K:Frag}(hK:X.K=K):rq X (.builtin "isinstance") (λxs H Q=>∃x c t k b,xs=[x,c]/\clsV c=some k/\CB K H x t/\kitOne K t k=some b/\Q (.bl b) H):=by
 subst hK;rintro Aq s U H xs us Q I r ⟨x,c,t,k,b,rfl,hk,ty,e,q⟩;cases ty with
 | ty h=>exact ZhO Aq s U H _ us Q I r ⟨x,c,t,k,b,rfl,hk,h,e,q⟩
 | exc xa i=>
  obtain⟨u,v,rfl,ru,rv⟩:=r.two;have hv:v=k:=by
   cases c with
   | ref a=>cases hk;exact rv
   | ty n=>cases hk;exact rv
   | _=>cases hk
  subst hv;cases ru;obtain⟨ox,od,J,_⟩:=xa.inst I;exact sv (Ii i) I.kIn J e (λz=>nomatch z) λtk=>⟨.bl b,H,I.tok _,rfl,q⟩
def Zok {K:Frag} {C D:AD} {m1 m2:AC} {b:Bool} (c:iH K C m1) (d:iH K D m2) (hb:m2.contains (.type "BaseException")=true) (h:m1.contains (.ref D)=b):exmOne K (.ref C) (.ref D)=some b:=by
 obtain⟨cd,e1,e2⟩:=c.cd;obtain⟨cd',e3,e4⟩:=d.cd;have hs:PySem.W.subIn K (.ref D) (.type "BaseException")=some true:=by unfold PySem.W.subIn mroIn;dsimp only;rw[e3,uj,e4,d.ne,hb];rfl
 unfold exmOne;rw[mS (by rw[hs];rfl)];unfold PySem.W.kitCls;dsimp only;rw[e3,d.ty];simp only[Option.isSome_some,sS,beq_self_eq_true,if_true];unfold PySem.W.subIn mroIn;dsimp only;rw[e1,uj,e2,c.ne,h];rfl
open PySem.W (Frag)
theorem gg.there {P:AG}{w:AI}{H:Hp}{h:Heap}{a:AD}:∀ {o:HO},gg P w H h a o->∃u,h.get? a=some u
 | .lst _,x=>by obtain⟨_,_,_,_,e⟩:=x;exact⟨_,e⟩
 | .tup _,x=>by obtain⟨_,_,_,ob,e,_⟩:=x;exact⟨_,e⟩
 | .dK _,x=>by obtain⟨_,_,_,_,ob,_,_,e,_⟩:=x;exact⟨_,e⟩
 | .dT _,x=>by obtain⟨_,_,_,_,ob,_,_,e,_⟩:=x;exact⟨_,e⟩
 | .set _ _,x=>by obtain⟨ob,_,_,_,e,_⟩:=x;exact⟨_,e⟩
 | .ins _ _ _,x=>by obtain⟨_,_,_,e,_⟩:=x;exact⟨_,e⟩
 | .own _,x=>x
 | .xd _,x=>by obtain⟨_,⟨ob,_,_,e,_⟩,_⟩:=x;exact⟨_,e⟩
 | .met _ _,x=>⟨_,x⟩
 | .rng _ _,x=>by obtain⟨_,_,_,e⟩:=x;exact⟨_,e⟩
 | .frz _ _,x=>⟨_,x.1⟩
 | .tbl _,x=>⟨_,x⟩
 | .ext _,x=>x.2.1
def o7.none_of (ok:o7 P w H h)(n:h.get? a=none):H a=none:=by
 cases q:H a with
 | none=>rfl
 | some o=>
  obtain⟨u,hu⟩:=(ok a o q).there;rw[n]at hu;cases hu
def mP.laid2 (I:mP X Aq U H s)(os:s'.os=s.os)(hg:s'.gens=s.gens)(k:∀b u,s.heap.get? b=some u->s'.heap.get? b=some u)(nw:s.heap.get? a=none)
  (new:gg X.prog X.w (upd H a o) s'.heap a o):mP X Aq U (upd H a o) s':=by
 have hn:=I.hok.none_of nw;have ne:∀b u,s.heap.get? b=some u->b≠a:=λb u q z=>by rw[z,nw]at q;cases q
 have neH:∀b u,H b=some u->b≠a:=λb u q=>on q hn;refine I.call' (ch:=[]) os ⟨λb u q _ _ _=>k b u q,λb u q _ _ _=>⟨u.slots,k b u q⟩,λb u q n _=>by rw[mT (ne b u q)];exact n,λb u q _=>⟨u,k b u q⟩,λb xs q=>by rw[mT (neH b _ q)];exact q,λb u v q=>by rw[mT (neH b _ q)];exact q,λb ps q=>⟨#[],by rw[mT (neH b _ q),Array.append_empty];exact q⟩⟩
  (λb u q=>?_) (by rw[hg];exact I.bare) (λb hb=>by cases hb)
 by_cases hb:b=a
 .subst hb;rw[nu]at q;cases q;exact new
 .rw[mT hb]at q;exact(I.hok b u q).stay (λc w' _ q=>k c w' q) (λc q=>by rw[mT (neH c _ q)];exact q) λc xs q=>by rw[mT (neH c _ q)];exact q
section
noncomputable def fX (l:mN):mU:=l.map λc=>[c]
def Zhy (h:ItemsOf (SignAt ⟨l.toArray⟩) acc (⟨l.toArray⟩:Str).cps.size):fV ((fX l).map tx) acc.toList:=by
 obtain⟨h1,h2⟩:=h;have hl:(⟨l.toArray⟩:Str).cps.size=l.length:=by show l.toArray.size=_;simp
 rw[hl]at h1;have gen:∀(l:mN) (us:AC),us.length=l.length->(∀(j:Nat) (v:Value),us[j]?=some v->∃(c:Nat) (u:Tok),l[j]?=some c/\v=Value.str ⟨#[c]⟩ u)->fV ((fX l).map tx) us:=by
  intro l;induction l with
  | nil=>
   intro us hl _;have:us=[]:=wS hl;subst this;exact .nil
  | cons c l ih=>
   intro us hl h;cases us with
   | nil=>cases hl
   | cons u us=>
    obtain⟨c',t,e,rfl⟩:=h 0 u rfl;cases e;refine .cons ⟨t,rfl⟩ (ih us (~~~hl) λj v e=>h (j+1) v e)
 refine gen l acc.toList (by rw[pB,h1]) λj v e=>?_;rw[sI]at e;obtain⟨c,u,e1,e2⟩:=h2 j v e;exact⟨c,u,~~~e1,e2⟩
def El (hc:X.calm=true):rq X (.type "list") (λxs H Q=>∃l,xs=[tx l]/\l.length<=1000/\gB ((fX l).map tx) H Q):=by
 rintro Aq s U H xs us Q I r ⟨l,rfl,hz,q⟩;obtain⟨u,rfl,t,rfl⟩:=r.one;have hl:(⟨l.toArray⟩:Str).cps.size=l.length:=by show l.toArray.size=_;simp
 refine call_list_str (I.ok.hd hc) _ t (λh' tk acc c k e it=>?_) (by rw[hl];exact Nat.le_of_lt (Dg hz));refine⟨.ref s.heap.objs.size,_,I.laid (t':=tk) k (nD _) ?_,rfl,q _ I.fresh⟩;exact⟨by unfold fX;rw[m6,m6];exact Nat.le_of_lt (Dg hz),acc.toList,c,Zhy it,by rw[Array.toArray_toList];exact e⟩
def ZkV (hc:X.calm=true):rq X (.builtin "all") (λxs H Q=>∃(a:AD) (bs:List Bool),xs=[.ref a]/\H a=some (.lst (bs.map V.bl))/\Q (.bl (bs.all id)) H):=by
 rintro Aq s U H xs us Q I r ⟨a,bs,rfl,ha,q⟩;obtain⟨u,rfl,ru⟩:=r.one;cases ru;obtain⟨_,its,n,r',As,e⟩:=I.lstM ha;have hl:s.heap.IsList a its.toArray:=PySem.IsL.isList e;have hne:a≠s.heap.objs.size:=oO (nP e);refine call_all_walkS (wpAny_pyIter_list hl ?_);have hL:its.toArray.size=bs.length:=by rw[oH,<-r'.length,m6]
 have W:=(Walks.list (prog:=X.prog) (w:=X.w) (A:=X.A.in1) (~~~I.ok.hd hc) s.heap.objs.size a hne its.toArray).toS;refine⟨s.heap.objs.size,_,_,_,_,_,_,λi=>bs.getD i true,rfl,W,⟨⟨_,oP _ rfl,rfl,rfl⟩,hl.push _⟩,?_,λs' hm=>?_⟩
 .intro i v s Q E hv hQ;have e':its[i]?=some v:=by simpa using hv
  obtain⟨x,hx,rx⟩:=zy r' e';rw[pA]at hx;cases hb:bs[i]? with
  | none=>rw[hb]at hx;cases hx
  | some b=>
   rw[hb]at hx;cases hx;obtain rfl:v=Value.bool b:=rx;have:bs.getD i true=b:=by rw[pM,hb];rfl
   have hQ':Q (bs.getD i true) s:=hQ;rw[this]at hQ';exact u9 hQ'
 .have ea:(List.range its.toArray.size).all (λi=>bs.getD i true)=bs.all id:=by
   rw[hL];rw[qv,sE,sE];constructor
   .intro h b hb;obtain⟨i,hi,rfl⟩:=xJ hb;have:=h i (oU.mpr hi);rw[pM,om hi]at this;exact this
   .intro h i hi;have hi:=oU.mp hi;rw[pM,om hi];exact h _ (t8 hi)
  rw[ea];have I2:mP X Aq U H s':=I.call' (ch:=[]) hm.os (Un.kept λb o q=>hm.heap b o (λz=>?_) (nG _ q)) (I.hok.kept λb o q=>hm.heap b o (λz=>?_) (nG _ q)) (by rw[show s'.gens=s.gens from hm.gens];exact I.bare) (λb hb=>by cases hb)
  .exact⟨.bl _,H,I2,rfl,q⟩
  .have z:b=s.heap.objs.size:=by simpa using z
   rw[z]at q;exact JO (nP q) (qC _)
  .have z:b=s.heap.objs.size:=by simpa using z
   rw[z]at q;exact JO (nP q) (qC _)
noncomputable def jZ (P:AG)(w:AI)(a:AD)(ls:mU):HO:=.ext λh=>gE P w h a ls (!pU w)
def Zm8 (x:gE P w h a ls (!pU w)):gg P w H h a (jZ P w a ls):=by obtain⟨o,es,ep,t,ms,h1,r⟩:=id x;exact⟨x,⟨o,h1⟩,λg1 g2 y k=>y.keep k⟩
def qo (ls:mU):mU:=ls.foldl gX []
def zC:dd (λi=>ls.getD i []) ls.length=qo ls:=by
 unfold dd qo;congr 1;apply uK
 .simp
 .intro n h1 h2;simp[h2]
def C9 (hc:X.calm=true):rq X (.type "set") (λxs H Q=>∃ls:mU,ls.length<=1000/\((∃l,xs=[tx l]/\ls=fX l)\/∃a,xs=[.ref a]/\oj X.K H a (ls.map tx))/\∀p,H p=none->Q (.ref p) (upd H p (jZ X.prog X.w p (qo ls)))):=by
 rintro Aq s U H xs us Q I r ⟨ls,hz,hx,q⟩;have hb:ls.length+1<scanBound:=by show _<4096;lia
 have fin:∀(h':Heap) (tk:Nat),gE X.prog X.w h' s.heap.objs.size (qo ls) (!pU X.w)->(∀b o,s.heap.get? b=some o->h'.get? b=some o)->EP X Aq U Q (.ref s.heap.objs.size) { s with heap:=h',toks:=tk }:=λh' tk hS k=>
  ⟨.ref s.heap.objs.size,_,I.laid (t':=tk) k (nD _) (Zm8 hS),rfl,q _ I.fresh⟩
 rcases hx with⟨l,rfl,rfl⟩|⟨a,rfl,hq⟩
 .obtain⟨u,rfl,t,rfl⟩:=r.one;have hl:(fX l).length=l.length:=by unfold fX;rw[m6]
  have e0:dd (λi=>[l.getD i 0]) l.length=qo (fX l):=by
   unfold dd qo fX;congr 1;apply uK
   .simp
   .intro n h1 h2;have:n<l.length:=by simpa using h2
    simp[this]
  refine Hy (I.ok.hd hc) (Zg5 (prog:=X.prog) (w:=X.w) (s:=s) (l:=l) (t:=t)) F.sub_str_set F.sub_str_frozenset ⋯ (by rw[<-hl];exact hb) λh' tk hS k _=>?_;rw[e0]at hS;exact fin h' tk hS k
 .obtain⟨u,rfl,ru⟩:=r.one;cases ru;obtain⟨its,rv,p,_⟩:=I.list hq;refine Hy (I.ok.hd hc) (Zg6 (prog:=X.prog) (w:=X.w) (s:=s) p.isList rv) F.sub_list_set F.sub_list_frozenset ⋯ hb λh' tk hS k _=>?_;rw[zC]at hS;exact fin h' tk hS k
end
def qj (h:x=⟨l.toArray⟩):PE X (.Constant (.str x) j pos) (tC (tx l)):=by subst h;exact Zpg
def ZlE (hg:Gl X x) (hm:∃t,X.mg x=some (.str y t)) (hd:(x == ("__debug__":Str))=false:=by decide):PE X (.Name x pos) (tC (.str y)):=by obtain⟨t,h⟩:=hm;exact BE hg h ⟨t,rfl⟩ hd
def xh (hg:Gl X x) (hm:∃t,X.mg x=some (.int y t)) (hd:(x == ("__debug__":Str))=false:=by decide):PE X (.Name x pos) (tC (.int y)):=by obtain⟨t,h⟩:=hm;exact BE hg h ⟨t,rfl⟩ hd
section
variable {CX:tK}{P:AG}{w:AI}{K:Q4}{mg:AB}{base:Heap}{N:AJ}{qual:Str}{scope:Scope}{f:AD}{cd:Value}{A:AH}{outer:List Env}{s:AE}{H:Hp}{E:XK}{X:Cx}{e:AD}
def cxPr:(ir CX P w K mg base N qual scope f cd A outer s H E).prog=P:=rfl
def cxWo:(ir CX P w K mg base N qual scope f cd A outer s H E).w=w:=rfl
def suxK:(sux X e).K=X.K:=rfl
def ZqI:(sux X e).prog=X.prog:=rfl
def ZqH:(sux X e).w=X.w:=rfl
end
open PySem.W (Frag KeqHits)
theorem Ji {κ:Type}[DecidableEq κ]{A:AH}{s:AE}{kb:List (κ×Value)}(nd:(kb.map (·.1)).Nodup):∀(r:List (κ×Value)),(∀x∈r,x∈kb)->KeqHits A s kb r true
 | [],_=>.nil
 | (k,v)::r,hm=>by
  have h1:valueAt kb k=some v:=by
   unfold valueAt;have hin:=hm (k,v) pW;obtain⟨y,hy,e⟩:∃y,kb.find? (λkv=>kv.1=k)=some y/\y=(k,v):=by
    clear hm;induction kb with
    | nil=>cases hin
    | cons z kb ih=>
     rw[pH,tZ]at nd;rcases ot.mp hin with e | e
     .subst e;exact⟨_,{},rfl⟩
     .have hz:¬z.1=k:=λe'=>nd.1 (e'▸uR (f:=(·.1)) e);obtain⟨y,hy,e2⟩:=ih nd.2 e;exact⟨y,by rw[List.find?_cons_of_neg (~~~hz)];exact hy,e2⟩
   rw[hy,e];rfl
  exact .hit (e:=true) (b:=true) h1 (SeqAt.EqAt.same _) (Ji nd r λx hx=>hm x (pP _ hx))
def rEqS (K:Frag)(neg:Bool):R2:=λx y H Q=>iz K neg x y H Q\/∃(a:AD) (kvs:List (nH×V)),x=.ref a/\y=.ref a/\H a=some (.dK kvs)/\Q (.bl (!neg)) H
section
variable {X:Cx}{K:Frag}
def zM (hK:X.K=K)(hu:X.A.units+64<cLine):oZ X (compareOp .Eq) (rEqS K false):=by
 subst hK;intro Aq s U H x y v u Q I rx ry h;rcases h with h | ⟨a,kvs,rfl,rfl,e,q⟩
 .exact Ie hu Aq s U H x y v u Q I rx ry h
 .cases rx;cases ry;obtain⟨_,hm,vs,_,d⟩:=A4 I.hok e;have nd:(vs.map (·.1)).Nodup:=let ⟨_,_,_,_,_,_,_,_,n⟩:=d;n;exact keq_eq hm hm d d ∅ (λ_=>Ji nd vs λ_ hx=>hx) ⟨.bl true,H,I,by simp;rfl,q⟩
end
open PySem.W (Frag)
def B0 {P:AG}{w:AI}{K:Frag}{mg:AB}{base:Heap}{N:AJ}{qual:Str}{scope:Scope}{f:AD}{cd:Value}{A:AH}{outer:List Env}{s0:AE}{H0:Hp}{E:XK}:
  sW (qO P w) (ir (qO P w) P w K mg base N qual scope f cd A outer s0 H0 E) E:=by
 intro Aq U H s ev s' I hx;generalize hX:ir (qO P w) P w K mg base N qual scope f cd A outer s0 H0 E=X at I hx ⊢;have eA:X.A=A.deeper (envOfC qual scope s0.heap.objs.size f cd):=by rw[<-hX];rfl
 have eS:X.stack=envOfC qual scope s0.heap.objs.size f cd::outer:=by rw[<-hX];rfl
 have eF:X.fs=pz outer:=by rw[<-hX];rfl
 have e0:X.s_0=s0:=by rw[<-hX];rfl
 have eH:X.H_0=H0:=by rw[<-hX];rfl
 have eX:X.ex=[]:=by rw[<-hX];rfl
 have ePr:X.prog=P:=by rw[<-hX];rfl
 have eW:X.w=w:=by rw[<-hX];rfl
 have hxe:∀ev s',wpAny (model P w) (A.deeper (envOfC qual scope s0.heap.objs.size f cd)) (leaving (envOfC qual scope s0.heap.objs.size f cd) ev) (λ_ s''=>qO P w outer H0 s0 E ev s'') (λe' s''=>qO P w outer H0 s0 E e' s'') s'->X.xe ev s':=by intro ev s' z;rw[<-hX];exact z
 obtain⟨e,C,d,H',h1,B,rfl,hos,hbare,un,ok,he,kept,fl,up,hE⟩:=hx;refine hxe _ _ ?_;have hfr:(A.deeper (envOfC qual scope s0.heap.objs.size f cd)).frames=some (envOfC qual scope s0.heap.objs.size f cd::outer):=by rw[<-eA,<-eS];exact I.ok.frames
 have J:mP X Aq U H' { s' with heap:=h1 }:=I.call' (s':={ s' with heap:=h1 }) (ch:=[]) hos un (by rw[ePr,eW];exact ok) hbare (λb hb=>by cases hb);rw[eS]at fl;refine Zi1 hfr rfl fl λh' fl' up'=>?_;have os:s'.os=s0.os:=by rw[hos,<-e0];exact I.os
 have un':Un (pz outer) [] H0 H' s0.heap h1:=by
  have:=J.base
  rwa [eF,eX,eH,e0]at this
 refine⟨e,C,d,H',h1,B,rfl,os,hbare,un',ok,he,λb o hb hne hc=>?_,fl',up.trans up',hE⟩;rcases hc with hu | ⟨⟨o',ho'⟩,hn⟩
 .exact kept b o hb hne (.inl hu)
 .refine kept b o hb hne (.inr ⟨?_,λz=>?_⟩)
  .have:=I.base;rw[eF,eX,eH,e0]at this;exact this.there b o' ho' {}
  .rw[eS]at z;have z':b=s0.heap.objs.size\/b∈pz outer:=by have:=z;unfold pz at this;rw[List.filterMap_cons]at this;simpa [envOfC,pz] using this
   rcases z' with z' | z'
   .rw[z']at ho';exact JO (nP ho') (qC _)
   .exact hn z'
section
variable {prog:AG}{w:AI}{A:AH}{E:oo}{s:AE}
def Zf3 (hi:s.heap.IsTupleIter it t i)(ht:s.heap.IsTuple t its)(hx:its[i]?=some x)
  (q:∀h',h'.IsTupleIter it t (i+1)->Heap.SameBut it s.heap h'->Q x { s with heap:=h' }):wpAny (model prog w) A (Builtin.SmallTypes.nextOf (.ref it)) Q E s:=by
 obtain⟨o,ho,hc,hd⟩:=id hi;obtain⟨u,hu,_,_,hud⟩:=ht;unfold Builtin.SmallTypes.nextOf;refine mO (wpAny_callSpecial?_slot (name:=Str.ofString "__next__") hi.typeIs Cq (ve Cq hi.typeIs F.entry_tuple_iterator_next ?_ (F.args_tuple_iterator_next_1 _)));show wpAny _ _ (field (.ref it) 0 >>= _) _ _ s;refine mO (rQ ho hd (x:=.ref t) rfl ?_);show wpAny _ _ (if (Value.ref t == Value.none)=true then _ else _) _ _ s;rw[mR (show ¬((Value.ref t == Value.none)=true) from nU)];show wpAny _ _ (field (.ref it) 1 >>= _) _ _ s;refine mO (rQ ho hd (x:=.int i 0) rfl ?_);show wpAny _ _ (seqItems? (.ref t) >>= _) _ _ s;refine mO (tH hu hud ?_);simp only[rh,hx];refine mO (sH ho hd {} (mW ⟨x,rfl,mW (q _ ⟨_,u5 _ ho (Obj.isFreed_of_fields (wD hd _)),(Obj.cls_mapFields ..).trans hc,by rw[wD hd];simp[rawInt]⟩ (qD ..))⟩))
def Zg7 (hh:A.handled=none)(hi:s.heap.IsTupleIter it t i)(ht:s.heap.IsTuple t its)(hx:its[i]?=none)
  (q:∀h' e,Heap.ExtBut it s.heap h'->(∃o,h'.get? e=some o/\o.cls=.type "StopIteration")->E (.ref e) { s with heap:=h' }):wpAny (model prog w) A (Builtin.SmallTypes.nextOf (.ref it)) Q E s:=by
 obtain⟨o,ho,hc,hd⟩:=id hi;obtain⟨u,hu,_,_,hud⟩:=ht;unfold Builtin.SmallTypes.nextOf;refine mO (wpAny_callSpecial?_slot (name:=Str.ofString "__next__") hi.typeIs Cq (ve Cq hi.typeIs F.entry_tuple_iterator_next ?_ (F.args_tuple_iterator_next_1 _)));show wpAny _ _ (field (.ref it) 0 >>= _) _ _ s;refine mO (rQ ho hd (x:=.ref t) rfl ?_);show wpAny _ _ (if (Value.ref t == Value.none)=true then _ else _) _ _ s;rw[mR (show ¬((Value.ref t == Value.none)=true) from nU)];show wpAny _ _ (field (.ref it) 1 >>= _) _ _ s;refine mO (rQ ho hd (x:=.int i 0) rfl ?_);show wpAny _ _ (seqItems? (.ref t) >>= _) _ _ s;refine mO (tH hu hud ?_);simp only[rh,hx];refine mO (rW (mO (sH ho hd {} ?_)));show wpAny _ _ (newExc (.type "StopIteration") [] >>= _) _ _ _;refine mO ?_;simp only[newExc,newTuple];refine mO (uP (mO (m:=firstArgMember _ _) (wpAny_of_eq (a:=Value.none) (by first | rfl | (simp only[firstArgMember];rfl)) (uP ?_ (by size_fits)))) (by size_fits));simp only[raiseNew];refine mO (wpAny_handled ?_);rw[show A.in1.handled=none from hh];refine mO (mW (wpAny_throw ?_));exact q _ _ (((qD ..).extBut.push _).push _) ⟨_,oP _ rfl,rfl⟩
def Dx (hh:A.handled=none)(it t:AD)(ne:t≠it)(its:Array Value):Draws prog w A it [it,t] its.size (λi v=>its[i]?=some v) (λi h=>h.IsTupleIter it t i/\h.IsTuple t its) where
 live:=λ_ _ z=>let ⟨o,ho,_⟩:=z.1;⟨o,ho⟩
 frame:=λ_ _ _ z k=>⟨z.1.at λo e=>k it {} o e,let ⟨o,ho,r⟩:=z.2;⟨o,k t {} o ho,r⟩⟩
 item:=λi s Q E hi z q=>Zf3 z.1 z.2 (x:=its[i]) (by simp[hi]) λh' a b=>q _ h' s.toks (by simp[hi]) ⟨a,z.2.extBut b.extBut ne⟩ b
 done:=λs Q E z q=>Zg7 hh z.1 z.2 {} q
structure w8 (z TI TO i1 i2:AD)(f1 f2:List AD):Prop where
 a1:TI≠z
 a2:TO≠z
 a3:i1≠z
 a4:i2≠z
 a5:TI≠TO
 a6:TI≠i1
 a7:TI≠i2
 a8:TO≠i1
 a9:TO≠i2
 b1:z∉f1
 b2:z∉f2
 b3:TO∉f1
 b4:TO∉f2
 b5:i2∉f1
 b6:i1∉f2
variable {z TI TO i1 i2:AD}{f1 f2:List AD}{n i:Nat}{P1 P2:Nat->Value->Prop}{S1 S2:Nat->Heap->Prop}{a b:Value}
def Zjh {Q:oo}(D:w8 z TI TO i1 i2 f1 f2)(D1:Draws prog w A i1 f1 n P1 S1)(D2:Draws prog w A i2 f2 n P2 S2)(hn:i<n)
  (hz:IsZip s.heap z TI TO .none) (hI:IsPair s.heap TI (.ref i1) (.ref i2)) (hO:IsPair s.heap TO a b) (h1:S1 i s.heap) (h2:S2 i s.heap)
  (q:∀x y h' tk,P1 i x->P2 i y->IsZip h' z TI TO (rawInt s.heap.objs.size)->IsPair h' TO x y->S1 (i+1) h'->S2 (i+1) h'->IsPair h' s.heap.objs.size x y ->
   (∀c o,c≠z->c≠TO->c≠i1->c≠i2->s.heap.get? c=some o->h'.get? c=some o)->Q (.ref s.heap.objs.size) { s with heap:=h',toks:=tk }):
  wpAny (model prog w) A (Builtin.«zip.__next__» ⟨[.ref z],[]⟩) (λfin s'=>∃v,fin=.done (.ret v)/\Q v s') E s:=by
 show wpAny _ _ (field (.ref z) 2 >>= _) _ _ _;refine mO (rQ hz rfl (x:=.bool false) rfl ?_);show wpAny _ _ (field (.ref z) 3 >>= _) _ _ _;refine mO (rQ hz rfl (x:=.ref TI) rfl (mO (tH hI rfl ?_)));show wpAny _ _ (Builtin.SmallTypes.ownedTupleIsFree (.ref z) >>= _) _ _ _;refine mO ?_;unfold Builtin.SmallTypes.ownedTupleIsFree;refine mO (rQ hz rfl (x:=.none) rfl (mW ?_));simp only[if_true];refine mO (rW (mO (rQ hz rfl (x:=.ref TO) rfl (mO (yA hz {} λg1 z1 k1=>?_)))));replace z1:IsZip g1 z TI TO .ellipsis:=z1;replace k1:Heap.SameBut z s.heap g1:=k1;refine mO ?_;simp only[List.zipIdx_cons,List.zipIdx_nil,wI,List.forIn_nil];refine mO (mO (wpAny_onRaise ?_));show wpAny _ _ (Builtin.SmallTypes.nextOf (.ref i1) >>= _) _ _ _;have f1':∀c,c∈f1->c≠z:=λc hc e=>D.b1 (e▸hc);have f2':∀c,c∈f2->c≠z:=λc hc e=>D.b2 (e▸hc);refine mO (D1.item i _ _ _ hn (D1.frame _ _ _ h1 λc hc o e=>k1.extBut _ _ (f1' c hc) e) λx g2 tk1 px s1 k2=>mW ?_);replace k2:Heap.SameBut i1 g1 g2:=k2;have o2:IsPair g2 TO a b:=k2.extBut _ _ D.a8 (k1.extBut _ _ D.a2 hO);refine mO (tH o2 rfl (mO (wpAny_updateSeq_pair o2 λg3 o3 k3=>?_)));replace o3:IsPair g3 TO x b:=o3;replace k3:Heap.SameBut TO g2 g3:=k3;refine mO (wpAny_letGo (mW (mO (mO (wpAny_onRaise ?_)))));show wpAny _ _ (Builtin.SmallTypes.nextOf (.ref i2) >>= _) _ _ _;have e2:S2 i g3:=D2.frame _ _ _ h2 λc hc o e=>k3.extBut _ _ (λz=>D.b4 (z▸hc)) (k2.extBut _ _ (λz=>D.b6 (z▸hc)) (k1.extBut _ _ (f2' c hc) e));refine mO (D2.item i _ _ _ hn e2 λy g4 tk2 py s2 k4=>mW ?_);replace k4:Heap.SameBut i2 g3 g4:=k4;have o4:IsPair g4 TO x b:=k4.extBut _ _ D.a9 o3;refine mO (tH o4 rfl (mO (wpAny_updateSeq_pair o4 λg5 o5 k5=>?_)));replace o5:IsPair g5 TO x y:=o5;replace k5:Heap.SameBut TO g4 g5:=k5;refine mO (wpAny_letGo (mW (mW (mO (tH o5 rfl (mO (wpAny_newTuple ?_)))))));have sz:g5.objs.size=s.heap.objs.size:=by rw[k5.1,k4.1,k3.1,k2.1,k1.1]
 have z5:IsZip g5 z TI TO .ellipsis:=k5.extBut _ _ D.a2.symm (k4.extBut _ _ D.a4.symm (k3.extBut _ _ D.a2.symm (k2.extBut _ _ D.a3.symm z1)));have kk:∀c o,c≠z->c≠TO->c≠i1->c≠i2->s.heap.get? c=some o->g5.get? c=some o:=λc o c1 c2 c3 c4 e=>k5.extBut _ _ c2 (k4.extBut _ _ c4 (k3.extBut _ _ c2 (k2.extBut _ _ c3 (k1.extBut _ _ c1 e))));have t1:S1 (i+1) g5:=D1.frame _ _ _ s1 λc hc o e=>k5.extBut _ _ (λz=>D.b3 (z▸hc)) (k4.extBut _ _ (λz=>D.b5 (z▸hc)) (k3.extBut _ _ (λz=>D.b3 (z▸hc)) e));have t2:S2 (i+1) g5:=D2.frame _ _ _ s2 λc hc o e=>k5.extBut _ _ (λz=>D.b4 (z▸hc)) e;have zl:z<g5.objs.size:=nP z5;show wpAny _ _ (Builtin.SmallTypes.ownedTupleHandOut (.ref z) (.ref g5.objs.size) >>= _) _ _ _;refine mO ?_;unfold Builtin.SmallTypes.ownedTupleHandOut;have z6:IsZip (g5.push { cls:=.type "tuple",data:=.seq #[x,y] }) z TI TO .ellipsis:=nG _ z5;refine mO (yA z6 {} λg7 z7 k7=>?_);replace z7:IsZip g7 z TI TO (rawInt g5.objs.size):=z7;refine yA z7 {} λg8 z8 k8=>?_;replace z8:IsZip g8 z TI TO (rawInt g5.objs.size):=z8;have up:∀c o,c≠z->g5.get? c=some o->g8.get? c=some o:=λc o c1 e=>k8.extBut _ _ c1 (k7.extBut _ _ c1 (nG _ e));have p8:IsPair g8 g5.objs.size x y:=k8.extBut _ _ (Nat.ne_of_gt zl) (k7.extBut _ _ (Nat.ne_of_gt zl) (oP _ rfl));rw[sz]at z8 p8;refine mW ⟨_,rfl,?_⟩;show Q (.ref g5.objs.size) _;rw[sz];exact q x y g8 tk2 px py z8 (up _ _ D.a2 o5) (D1.frame _ _ _ t1 λc hc o e=>up c o (f1' c hc) e) (D2.frame _ _ _ t2 λc hc o e=>up c o (f2' c hc) e) p8 λc o c1 c2 c3 c4 e=>up c o c1 (kk c o c1 c2 c3 c4 e)
def Zk6 (D:w8 z TI TO i1 i2 f1 f2)(D1:Draws prog w A i1 f1 n P1 S1)
  (hz:IsZip s.heap z TI TO .none) (hI:IsPair s.heap TI (.ref i1) (.ref i2)) (h1:S1 n s.heap)
  (q:∀h' e,(∀c o,c≠z->c≠i1->s.heap.get? c=some o->h'.get? c=some o)->(∃o,h'.get? e=some o/\o.cls=.type "StopIteration")->E (.ref e) { s with heap:=h' }):
  wpAny (model prog w) A (Builtin.«zip.__next__» ⟨[.ref z],[]⟩) Q E s:=by
 show wpAny _ _ (field (.ref z) 2 >>= _) _ _ _;refine mO (rQ hz rfl (x:=.bool false) rfl ?_);show wpAny _ _ (field (.ref z) 3 >>= _) _ _ _;refine mO (rQ hz rfl (x:=.ref TI) rfl (mO (tH hI rfl ?_)));show wpAny _ _ (Builtin.SmallTypes.ownedTupleIsFree (.ref z) >>= _) _ _ _;refine mO ?_;unfold Builtin.SmallTypes.ownedTupleIsFree;refine mO (rQ hz rfl (x:=.none) rfl (mW ?_));simp only[if_true];refine mO (rW (mO (rQ hz rfl (x:=.ref TO) rfl (mO (yA hz {} λg1 z1 k1=>?_)))));replace z1:IsZip g1 z TI TO .ellipsis:=z1;replace k1:Heap.SameBut z s.heap g1:=k1;refine mO ?_;simp only[List.zipIdx_cons,List.zipIdx_nil,wI,List.forIn_nil];refine mO (mO (wpAny_onRaise ?_));show wpAny _ _ (Builtin.SmallTypes.nextOf (.ref i1) >>= _) _ _ _;refine mO (D1.done _ _ _ (D1.frame _ _ _ h1 λc hc o e=>k1.extBut _ _ (λz=>D.b1 (z▸hc)) e) λg2 e k2 he=>?_);obtain⟨o,ho,hc⟩:=he;have z2:IsZip g2 z TI TO .ellipsis:=k2 _ _ D.a3.symm z1;have ez:e≠z:=λx=>by subst x;rw[z2]at ho;cases ho;simp at hc
 refine yA z2 {} λg3 _ k3=>q g3 e (λc o c1 c3 x=>k3.extBut _ _ c1 (k2 _ _ c3 (k1.extBut _ _ c1 x))) ⟨o,k3.extBut _ _ ez ho,hc⟩
end
section
variable {prog:AG}{w:AI}{A:AH}{E:oo}{s:AE}{z TI TO i1 i2:AD}{f1 f2:List AD}{n i:Nat}{P1 P2:Nat->Value->Prop}{S1 S2:Nat->Heap->Prop}{a b:Value}
def ZfW (D:w8 z TI TO i1 i2 f1 f2)(D1:Draws prog w A.in1 i1 f1 n P1 S1)(D2:Draws prog w A.in1 i2 f2 n P2 S2)(hn:i<n)
  (hz:IsZip s.heap z TI TO .none) (hI:IsPair s.heap TI (.ref i1) (.ref i2)) (hO:IsPair s.heap TO a b) (h1:S1 i s.heap) (h2:S2 i s.heap)
  (q:∀x y h' tk,P1 i x->P2 i y->IsZip h' z TI TO (rawInt s.heap.objs.size)->IsPair h' TO x y->S1 (i+1) h'->S2 (i+1) h'->IsPair h' s.heap.objs.size x y ->
   (∀c o,c≠z->c≠TO->c≠i1->c≠i2->s.heap.get? c=some o->h'.get? c=some o)->Q (some (.ref s.heap.objs.size)) { s with heap:=h',toks:=tk }):
  wpAny (model prog w) A (pyNext (.ref z)) Q E s:=by
 have hT:s.TypeIs (.ref z) "zip":=⟨_,hz,rfl⟩;unfold pyNext;exact mO (uy (wpAny_callSpecial?_slot (name:=Str.ofString "__next__") hT F.slot_zip_next (ve F.slot_zip_next hT F.entry_zip_next
   (Zjh D D1 D2 hn hz hI hO h1 h2 λx y h' tk c1 c2 c3 c4 c5 c6 c7 c8=>mW (q x y h' tk c1 c2 c3 c4 c5 c6 c7 c8)) (F.args_zip_next_1 _))))
def Zg3 (D:w8 z TI TO i1 i2 f1 f2)(D1:Draws prog w A.in1 i1 f1 n P1 S1)
  (hz:IsZip s.heap z TI TO .none) (hI:IsPair s.heap TI (.ref i1) (.ref i2)) (h1:S1 n s.heap) (q:∀h',(∀c o,c≠z->c≠i1->s.heap.get? c=some o->h'.get? c=some o)->Q none { s with heap:=h' }):
  wpAny (model prog w) A (pyNext (.ref z)) Q E s:=by
 have hT:s.TypeIs (.ref z) "zip":=⟨_,hz,rfl⟩;unfold pyNext;refine mO (uy (wpAny_callSpecial?_slot (name:=Str.ofString "__next__") hT F.slot_zip_next (ve F.slot_zip_next hT F.entry_zip_next (Zk6 D D1 hz hI h1 λh' e k he=>?_) (F.args_zip_next_1 _))));obtain⟨o,ho,hc⟩:=he;exact mO (wpAny_isInstance (T:="StopIteration") (b:=true) ⟨o,ho,hc⟩ isSubtype_stop (mW (q _ k)))
end
abbrev BI (h:Heap)(l:AD):Heap:=h.push { cls:=.type "tuple_iterator",data:=.fields #[.ref l,.int 0 0] }
abbrev Cy (h:Heap)(l m:AD):Heap:=(BI h l).push { cls:=.type "tuple_iterator",data:=.fields #[.ref m,.int 0 0] }
abbrev BM (h:Heap)(l m:AD):Heap:=(Cy h l m).push { cls:=.type "tuple",data:=.seq #[.ref h.objs.size,.ref (BI h l).objs.size] }
abbrev B9 (h:Heap)(l m:AD):Heap:=(BM h l m).push { cls:=.type "tuple",data:=.seq #[.none,.none] }
abbrev xG (h:Heap)(l m:AD):Heap:=(B9 h l m).push { cls:=.type "zip",data:=.fields #[.none,.bool false,.bool false,.ref (Cy h l m).objs.size,.ref (BM h l m).objs.size] }
def ZiY (l m:AD)(xs ys:Array Value):Meets (Builtin.«zip.__new__» ⟨[.type "zip",.ref l,.ref m],[]⟩) (λ_ R s=>s.heap.IsTuple l xs/\s.heap.IsTuple m ys/\R (.ok (.ret (.ref (B9 s.heap l m).objs.size))) { s with heap:=xG s.heap l m }):=
 .of_wp λprog w A R s h=>by
  obtain⟨hp,g,d,tk,os⟩:=s;obtain⟨p1,p2,h⟩:=h;have hsub:=sub_zip;have L1:Heap.IsTuple (Shared.heap ⟨hp,g,d,tk,os⟩) l xs:=p1;have L2:Heap.IsTuple (Shared.heap ⟨hp.push { cls:=.type "tuple_iterator",data:=.fields #[.ref l,.int 0 0] },g,d,tk,os⟩) m ys:=Heap.IsTuple.push p2 _
  wp_walk using wpAny_pyIter_tuple L1,wpAny_pyIter_tuple L2
  exact⟨_,rfl,h⟩
def ZkU (p1:s.heap.IsTuple l xs)(p2:s.heap.IsTuple m ys)
  (q:∀h',IsZip h' (s.heap.objs.size+4) (s.heap.objs.size+2) (s.heap.objs.size+3) .none->IsPair h' (s.heap.objs.size+2) (.ref s.heap.objs.size) (.ref (s.heap.objs.size+1))->IsPair h' (s.heap.objs.size+3) .none .none ->
   h'.IsTupleIter s.heap.objs.size l 0->h'.IsTupleIter (s.heap.objs.size+1) m 0->(∀c o,s.heap.get? c=some o->h'.get? c=some o)->Q (.ref (s.heap.objs.size+4)) { s with heap:=h' }):
  wpAny (model prog w) A (call (.type "zip") [.ref l,.ref m]) Q E s:=by
 refine callType_new F.called_zip ⋯ (F.typeCall_zip_2 _ _) (F.newCall_zip_2 _ _) (λobj=>F.args_object_init_3 obj _ _) F.entry_zip_new (ZiY l m xs ys) ⟨p1,p2,?_⟩;have e1:(BI s.heap l).objs.size=s.heap.objs.size+1:=rO ..;have e2:(Cy s.heap l m).objs.size=s.heap.objs.size+2:=by rw[rO,e1]
 have e3:(BM s.heap l m).objs.size=s.heap.objs.size+3:=by rw[rO,e2]
 have e4:(B9 s.heap l m).objs.size=s.heap.objs.size+4:=by rw[rO,e3]
 have g5:(xG s.heap l m).get? (B9 s.heap l m).objs.size=some _:=oP _ rfl;have g4:(xG s.heap l m).get? (BM s.heap l m).objs.size=some _:=nG _ (oP _ rfl);have g3:(xG s.heap l m).get? (Cy s.heap l m).objs.size=some _:=nG _ (nG _ (oP _ rfl));have g2:(xG s.heap l m).get? (BI s.heap l).objs.size=some _:=nG _ (nG _ (nG _ (oP _ rfl)));have g1:(xG s.heap l m).get? s.heap.objs.size=some _:=nG _ (nG _ (nG _ (nG _ (oP _ rfl))));show _/\_;rw[e2,e3,e4]at g5;rw[e1,e2]at g3;rw[e3]at g4;rw[e1]at g2;rw[e4];exact⟨⟨_,g5,rfl⟩,q _ g5 g3 g4 ⟨_,g1,rfl,rfl⟩ ⟨_,g2,rfl,rfl⟩ λc o x=>nG _ (nG _ (nG _ (nG _ (nG _ x))))⟩
def yi (h1:x≠p)(h2:x≠q):x∉[p,q]:=by simp[h1,h2]
def He (a b z:Nat)(h1:a<z)(h2:b<z):w8 (z+4) (z+2) (z+3) z (z+1) [z,a] [z+1,b] where
 a1:=show (z+2:Nat)≠z+4 by lia
 a2:=show (z+3:Nat)≠z+4 by lia
 a3:=show (z:Nat)≠z+4 by lia
 a4:=show (z+1:Nat)≠z+4 by lia
 a5:=show (z+2:Nat)≠z+3 by lia
 a6:=show (z+2:Nat)≠z by lia
 a7:=show (z+2:Nat)≠z+1 by lia
 a8:=show (z+3:Nat)≠z by lia
 a9:=show (z+3:Nat)≠z+1 by lia
 b1:=yi ∅ ∅
 b2:=yi ∅ ∅
 b3:=yi ∅ ∅
 b4:=yi ∅ ∅
 b5:=yi ∅ ∅
 b6:=yi ∅ ∅
def mem5 (h:c∈[z+4,z+2,z+3,z,z+1]):z<=c/\c<=z+4:=by
 simp only[ot,u6,or_false]at h
 lia
def D5 (K:Q4)(a b:AD):It:=
  ⟨λi H=>∃xs ys x y,oW K H a xs/\oW K H b ys/\xs.length=ys.length/\xs[i]?=some x/\ys[i]?=some y,
   λi H v H'=>∃p x y,H p=none/\v=.ref p/\H'=upd H p (.tup [x,y])/\(∀xs,oW K H a xs->xs[i]?=some x)/\∀ys,oW K H b ys->ys[i]?=some y,
   λi H=>∃xs ys,oW K H a xs/\oW K H b ys/\xs.length=ys.length/\xs.length=i⟩
def Zla {P:AG}{w:AI}{K:Q4}{es:List Expr}{x1:Nat}{tp:Pos}(a b z:AD)(hz:a<z/\b<z):i8 P w K (.Tuple es x1 tp) (D5 K a b) [z+4,z+2,z+3,z,z+1] (z+4)
  (λi h=>IsZip h (z+4) (z+2) (z+3) .none/\IsPair h (z+2) (.ref z) (.ref (z+1))/\(∃u v,IsPair h (z+3) u v)/\h.IsTupleIter z a i/\h.IsTupleIter (z+1) b i) where
 mem:=by simp
 obj:=λi h st c hc=>by
  obtain⟨s1,s2,⟨u,v,s3⟩,⟨o4,s4,c4,d4⟩,⟨o5,s5,c5,d5⟩⟩:=st;simp only[ot,u6,or_false]at hc;rcases hc with e | e | e | e | e
  .exact⟨_,e▸s1,λv q=>by cases (show Data.fields _=Data.cell v from q)⟩
  .exact⟨_,e▸s2,λv q=>by cases (show Data.seq _ _=Data.cell v from q)⟩
  .exact⟨_,e▸s3,λv q=>by cases (show Data.seq _ _=Data.cell v from q)⟩
  .exact⟨o4,e▸s4,λv q=>by rw[d4]at q;cases q⟩
  .exact⟨o5,e▸s5,λv q=>by rw[d5]at q;cases q⟩
 keep:=λi h h' st k=>by obtain⟨s1,s2,⟨u,v,s3⟩,s4,s5⟩:=st;exact⟨k _ {} _ s1,k _ {} _ s2,⟨u,v,k _ {} _ s3⟩,s4.at λo q=>k _ {} o q,s5.at λo q=>k _ {} o q⟩
 item:=by
  intro X hP hw hK hc i Aq s U H E I hf st hg;subst hP hw hK;obtain⟨s1,s2,⟨u,v,s3⟩,s4,s5⟩:=st;obtain⟨xs,ys,x,y,ha,hb,hl,hx,hy⟩:=hg;obtain⟨is,ri,pi,_⟩:=I.tuple ha;obtain⟨js,rj,pj,_⟩:=I.tuple hb;have li:is.toArray.size=xs.length:=by rw[oH,ri.length]
  have lj:js.toArray.size=xs.length:=by rw[oH,hl,rj.length]
  have hh:X.A.in1.handled=none:=by simpa using I.ok.hd hc
  have D1:=Dx (prog:=X.prog) (w:=X.w) (A:=X.A.in1) hh z a (oO hz.1) is.toArray;have D2:=Dx (prog:=X.prog) (w:=X.w) (A:=X.A.in1) hh (z+1) b (oO (wN hz.2)) js.toArray;rw[li]at D1;rw[lj]at D2;have hi:i<xs.length:=(oM.mp hx).1;have ap:w8 (z+4) (z+2) (z+3) z (z+1) [z,a] [z+1,b]:=He a b z hz.1 hz.2;have sz:z+4<s.heap.objs.size:=nP s1;refine ZfW ap D1 D2 hi s1 s2 s3 ⟨s4,pi⟩ ⟨s5,pj⟩ λu1 u2 h' tk q1 q2 y1 y2 y3 y4 y5 y6=>?_;refine⟨_,rfl,?_⟩;refine wpAny_letOwnedTupleGo_zip (s:={ s with heap:=h',toks:=tk }) y1 λh2 o2 sb=>?_;obtain⟨x',hx',rx⟩:=zy ri (show is[i]?=some u1 by simpa using q1);obtain⟨y',hy',ry⟩:=zy rj (show js[i]?=some u2 by simpa using q2);obtain rfl:x=x':=Option.some.inj (hx.symm.trans hx');obtain rfl:y=y':=Option.some.inj (hy.symm.trans hy');have hfr:=I.fresh;replace sb:Heap.SameBut (z+4) h' h2:=sb;have k2:∀c o,c∉[z+4,z+2,z+3,z,z+1]->s.heap.get? c=some o->h2.get? c=some o:=λc o hc q=>by simp only[ot,u6,or_false,not_or]at hc;exact(sb.2 c hc.1).trans (y6 c o hc.1 hc.2.2.1 hc.2.2.2.1 hc.2.2.2.2 q)
  have I1:mP X Aq U H { s with heap:=h2,toks:=tk }:=I.turnedN (t':=tk) k2 hf;have t2:IsPair h2 s.heap.objs.size u1 u2:=(sb.2 _ (Nat.ne_of_gt sz)).trans y5;have fp:=I.fpOk (H':=H) (nD _) hfr;have up:∀c o,c≠z+4->h'.get? c=some o->h2.get? c=some o:=λc o n q=>(sb.2 c n).trans q;refine⟨.ref s.heap.objs.size,upd H s.heap.objs.size (.tup [x,y]),I1.track fp I.sz ?_,rfl,⟨_,x,y,hfr,rfl,rfl,λxs' h=>by rw[I.tuple_inj h ha];exact hx,λys' h=>by rw[I.tuple_inj h hb];exact hy⟩,⟨o2,?_,⟨u1,u2,up _ _ ap.a2 y2⟩,?_,?_⟩,λc hc=>?_⟩
  .exact⟨by show 2<=sizeLine;rw[sizeLine_eq];decide,[u1,u2],.cons rx (.cons ry .nil),⟨_,t2,rfl,_,rfl⟩⟩
  .exact up _ _ ap.a1 (y6 _ _ ap.a1 ap.a5 ap.a6 ap.a7 s2)
  .exact y3.1.at λo q=>up _ _ ap.a3 q
  .exact y4.1.at λo q=>up _ _ ap.a4 q
  .have hc':=hf c hc;have:c≠s.heap.objs.size:=oO (zT (mem5 hc).2 sz);rw[mT this];exact hc'.1
 done:=by
  intro X hP hw hK hc i Aq s U H E I hf st hg;subst hP hw hK;obtain⟨s1,s2,⟨u,v,s3⟩,s4,s5⟩:=st;obtain⟨xs,ys,ha,hb,hl,rfl⟩:=hg;obtain⟨is,ri,pi,_⟩:=I.tuple ha;have li:is.toArray.size=xs.length:=by rw[oH,ri.length]
  have hh:X.A.in1.handled=none:=by simpa using I.ok.hd hc
  have D1:=Dx (prog:=X.prog) (w:=X.w) (A:=X.A.in1) hh z a (oO hz.1) is.toArray;rw[li]at D1;have ap:w8 (z+4) (z+2) (z+3) z (z+1) [z,a] [z+1,b]:=He a b z hz.1 hz.2;refine Zg3 ap D1 s1 s2 ⟨s4,pi⟩ λh' k=>⟨rfl,I.turnedN (t':=s.toks) (λc o hc q=>k c o (λe=>hc (by simp[e])) (λe=>hc (by simp[e])) q) hf⟩
 self:=λ_ _ _ _ _ st h=>wpAny_pyIter_zip st.1 h
section
def lK (K:Q4)(ta:TA):TI:=λU H R=>ta U H λvs H1=>∃a b,vs=[.ref a,.ref b]/\(∃xs,oW K H1 a xs)/\(∃ys,oW K H1 b ys)/\R (D5 K a b) H1
def Zpc (hg:Gl X "zip") (hm:X.mg "zip"=none) (ha:PA X [l,m] ta) (hs:starEach [l,m] X.env=(false,eval l X.env)::starEach [m] X.env:=by rfl) (hpl:(backTo pos (starEach [m] X.env)).any (·.1)=false:=by rfl):
  PI X (.Tuple es x1 tp) (.Call (.Name "zip" p) [l,m] [] pos) (lK X.K ta):=by
 intro Aq s U H R I h;refine Call_ (uQ I hg hm Zqr (BL (m8 (ha pos Aq s U H _ I h) λus s1 zz=>?_) hs hpl));obtain⟨vs,H1,I1,r1,a,b,ev,⟨xs,hq⟩,⟨ys,hr⟩,q⟩:=zz;subst ev;obtain⟨u,v,rfl,ru,rv⟩:=r1.two;cases ru;cases rv;obtain⟨is,_,pi,_⟩:=I1.tuple hq;obtain⟨js,_,pj,_⟩:=I1.tuple hr;obtain⟨oa,hoa,_⟩:=id pi;obtain⟨ob,hob,_⟩:=id pj;refine ZkU pi pj λh' e1 e2 e3 e4 e5 k1=>?_;have I2:mP X Aq U H1 { s1 with heap:=h' }:=I1.kept (t':=s1.toks) k1;refine wpAny_pyIter_zip (s:={ s1 with heap:=h' }) e1 ?_;refine⟨s1.heap.objs.size+4,_,_,_,H1,rfl,I2,Zla a b s1.heap.objs.size ⟨nP hoa,nP hob⟩,⟨e1,e2,⟨_,_,e3⟩,e4,e5⟩,λc hc=>?_,q⟩;have hb':s1.heap.objs.size<=c:=(mem5 hc).1;exact I1.fpOk hb' (I1.hok.fresh hb')
def G9 {K:Q4} {l m:Expr} {ta:TA} {p pos:Pos} (hK:X.K=K) (hg:Gl X "zip") (hm:X.mg "zip"=none) (ha:PA X [l,m] ta) (hs:starEach [l,m] X.env=(false,eval l X.env)::starEach [m] X.env:=by rfl) (hpl:(backTo pos (starEach [m] X.env)).any (·.1)=false:=by rfl):
  PI X (.Tuple es x1 tp) (.Call (.Name "zip" p) [l,m] [] pos) (lK K ta):=by subst hK;exact Zpc hg hm ha hs hpl
end
section
variable {prog:AG}{w:AI}{A:AH}{E:oo}{s:AE}{l I S:AD}{ls:mU}{vs:AC}{R:Result->AE->Prop}{Q:oo}
def qJ (ls:mU)(i:Nat):Int:=((ls.getD i []).length:Nat)
def zb (ls:mU)(i n:Nat):Prop:=∀j,j<n->qJ ls i<=qJ ls j/\(j<i->qJ ls i<qJ ls j)
def Ir {i:Nat}{v:Value}(rv:fV (ls.map tx) vs)(e:vs[i]?=some v):∃m t,ls[i]?=some m/\v=.str ⟨m.toArray⟩ t:=by
 obtain⟨x,hx,rx⟩:=zy rv e;rw[pA]at hx;cases hm:ls[i]? with
 | none=>rw[hm]at hx;cases hx
 | some m=>
  rw[hm]at hx;cases hx;obtain⟨t,rfl⟩:=rx;exact⟨m,t,rfl,rfl⟩
def HD (rv:fV (ls.map tx) vs)(hz:∀m∈ls,m.length<=1000)(e:vs[i]?=some v)(h:∀t k,Q (.int (qJ ls i) t) { s with toks:=k }):
  wpAny (model prog w) A (call (.builtin "len") [v]) Q E s:=by
 obtain⟨m,t,hm,rfl⟩:=Ir rv e;have hn:=hz m (qA hm);have hl:(⟨m.toArray⟩:Str).length=m.length:=su m;refine len_str (by rw[hl];lia) ?_;rw[hl];have e1:qJ ls i=(m.length:Nat):=by unfold qJ;rw[pM,hm];rfl
 have h':=h (s.toks+1) (s.toks+1+1);rw[e1]at h';exact h'
def Zho (hh:A.handled=none)(rv:fV (ls.map tx) vs)(hz:∀m∈ls,m.length<=1000)(hl:s.heap.IsList l vs.toArray)(lI:l≠I)(lS:l≠S)(SI:S≠I)
  (hR:∀i v h' k,vs[i]?=some v->zb ls i vs.length->(∀b o,b≠I->b≠S->s.heap.get? b=some o->h'.get? b=some o)->R (.ok (.ret v)) { s with heap:=h',toks:=k }):
  ∀(r j i:Nat) (h:Heap) (tk:Nat) (vb:Value) (tb:Tok) (c:Nat),vs.length-(j+1)=r->j+1<=vs.length->(∀b o,b≠I->b≠S->s.heap.get? b=some o->h.get? b=some o) ->
   h.get? S=some (seqObj "list" #[vb,.int (qJ ls i) tb] c)->h.IsListIter I l (j+1)->vs[i]?=some vb->i<=j->zb ls i (j+1) ->
   codeAny (model prog w) A (.builtin "min.loop" ⟨[.ref I,.builtin "len",.ref S],[]⟩) R { s with heap:=h,toks:=tk }:=by
 have nm:(toString "min"++toString ".loop":String)="min.loop":=by decide
 have hh1:A.in1.handled=none:=by simpa using hh
 have hla:∀h:Heap,(∀b o,b≠I->b≠S->s.heap.get? b=some o->h.get? b=some o)->h.IsList l vs.toArray:=λh k=>hl.at λo e=>k l o lI lS e;intro r;induction r with
 | zero=>
  intro j i h tk vb tb c hr hj kp oS it hvb hij hb;refine codeAny_builtin PySem.F.entry_min_loop ?_;rw[wA wQ _];show wpAny _ A.in1 (seqItems? (.ref S) >>= _) _ _ _;refine mO (tH oS rfl ?_);show wpAny _ A.in1 (tryCatch (pyNext (.ref I)) _ >>= _) _ _ _;refine mO (wpAny_tryCatch (wpAny_pyNext_list_end hh1 it (hla h kp) (by simp;lia) λh' k'=>?_));show wpAny _ A.in1 (updateSeq S (λ_=>#[]) >>= _) _ _ _;refine mO (wpAny_updateSeq (k' S _ SI oS) rfl (mO (wpAny_letGo (mW ?_))));refine hR i vb _ _ hvb (λj' hj'=>hb j' ∅) λb o n1 n2 e=>?_;exact((qD h' S _).2 b n2).trans (k' b o n1 (kp b o n1 n2 e))
 | succ r ih=>
  intro j i h tk vb tb c hr hj kp oS it hvb hij hb;have A1:j+1<vs.length:=by lia
  refine codeAny_builtin PySem.F.entry_min_loop ?_;rw[wA wQ _];show wpAny _ A.in1 (seqItems? (.ref S) >>= _) _ _ _;refine mO (tH oS rfl ?_);show wpAny _ A.in1 (tryCatch (pyNext (.ref I)) _ >>= _) _ _ _;have hv:vs[j+1]?=some vs[j+1]:=om A1;generalize vs[j+1]=v at hv;refine mO (wpAny_tryCatch (wpAny_pyNext_list_item it (hla h kp) (x:=v) (~~~hv) λh' it' k'=>?_));show wpAny _ A.in1 (tryCatch (holding [v] (call (.builtin "len") [v])) _ >>= _) _ _ _;refine mO (wpAny_tryCatch (qR (HD rv hz hv λt2 tk2=>?_)));show wpAny _ A.in1 (tryCatch (holding [v,.int (qJ ls (j+1)) t2] (richCompare .Lt (.int (qJ ls (j+1)) t2) (.int (qJ ls i) tb) >>= _)) _ >>= _) _ _ _;refine mO (wpAny_tryCatch (qR (mO (CmpOf.ints_lt (prog:=prog) (w:=w) (A:=A.in1) (P:=λi v=>∃t,v=.int (qJ ls i) t) (qJ ls) (λi v h=>h) (j+1) i _ _ _ _ _ ⟨t2,rfl⟩ ⟨tb,rfl⟩ ?_))));refine mO (qR (u9 (mO (wpAny_letGo (mW ?_)))));have oS':h'.get? S=some (seqObj "list" #[vb,.int (qJ ls i) tb] c):=(k'.2 S SI).trans oS;have kp':∀b o,b≠I->b≠S->s.heap.get? b=some o->h'.get? b=some o:=λb o n1 n2 e=>(k'.2 b n1).trans (kp b o n1 n2 e);by_cases lt:qJ ls (j+1)<qJ ls i
  .simp only[lt,decide_true,if_true];refine mO (wpAny_updateSeq oS' rfl (mO (wpAny_letGo ?_)));rw[nm];have sb:=qD h' S (Obj.mapSeq λ_=>#[v,.int (qJ ls (j+1)) t2]);refine mW ⟨plainId_quiet wQ _,ih (j+1) (j+1) _ _ v t2 _ ∅ A1 (λb o n1 n2 e=>(sb.2 b n2).trans (kp' b o n1 n2 e)) (get?_update_seq oS' λ_=>#[v,.int (qJ ls (j+1)) t2]) (it'.at λo e=>(sb.2 I SI.symm).trans e) hv (nD _) λj' hj'=>?_⟩;by_cases e:j'=j+1
   .subst e;exact⟨Int.le_refl _,λz=>JO z (qC _)⟩
   .have:=(hb j' ∅).1;exact⟨∅,λ_=>by lia⟩
  .simp only[lt,decide_false,xY,if_false];refine mO (wpAny_letGo ?_);rw[nm];refine mW ⟨plainId_quiet wQ _,ih (j+1) i _ _ vb tb c ∅ A1 kp' oS' it' hvb ∅ λj' hj'=>?_⟩;by_cases e:j'=j+1
   .subst e;exact⟨∅,λz=>by lia⟩
   .exact hb j' ∅
def kJ (hh:A.handled=none)(rv:fV (ls.map tx) vs)(hz:∀m∈ls,m.length<=1000)(hl:s.heap.IsList l vs.toArray)(hne:0<vs.length)
  (hQ:∀i v h' k,vs[i]?=some v->zb ls i vs.length->(∀b o,s.heap.get? b=some o->h'.get? b=some o)->Q v { s with heap:=h',toks:=k }):
  wpAny (model prog w) A (call (.builtin "min") [.ref l] [(Str.ofString "key",.builtin "len")]) Q E s:=by
 have nm:(toString "min"++toString ".loop":String)="min.loop":=by decide
 have hh1:A.in1.handled=none:=by simpa using hh
 obtain⟨ol,hol,_⟩:=id hl;have ll:l<s.heap.objs.size:=nP hol;refine kmb_tree PySem.F.kind_min PySem.F.plain_min PySem.F.entry_min (kmb_min_key _ _) ?_;show wpAny _ A.in1 (Builtin.Builtins.bindParams "min" ["key","default"] 0 ⟨[],[(Str.ofString "key",.builtin "len")]⟩ >>= _) _ _ s;refine mO (wpAny_of_eq (show Builtin.Builtins.bindParams "min" ["key","default"] 0 ⟨[],[(Str.ofString "key",.builtin "len")]⟩=pure [some (.builtin "len"),none] from rfl) (mO (mW (mO (wpAny_pyIter_list hl (mO (wpAny_newList ?_ (pE _))))))));rw[nm];refine mW ⟨plainId_quiet wQ _,?_⟩;generalize gI:(s.heap.push { cls:=.type "list_iterator",data:=.fields #[.ref l,.int 0 0] })=h1;have z1:h1.objs.size=s.heap.objs.size+1:=by rw[<-gI];exact size_push' ..
 have k0:∀b o,s.heap.get? b=some o->(h1.push (seqObj "list" #[] 0)).get? b=some o:=λb o e=>nG _ (by rw[<-gI];exact nG _ e);have oI:(h1.push (seqObj "list" #[] 0)).IsListIter s.heap.objs.size l 0:=⟨_,nG _ (by rw[<-gI];exact oP _ rfl),rfl,rfl⟩;have oS:(h1.push (seqObj "list" #[] 0)).get? h1.objs.size=some (seqObj "list" #[] 0):=oP _ rfl;have SI:h1.objs.size≠s.heap.objs.size:=by lia
 refine codeAny_builtin PySem.F.entry_min_loop ?_;rw[wA wQ _];show wpAny _ A.in1 (seqItems? (.ref h1.objs.size) >>= _) _ _ _;refine mO (tH oS rfl ?_);show wpAny _ A.in1 (tryCatch (pyNext (.ref s.heap.objs.size)) _ >>= _) _ _ _;have hv:vs[0]?=some vs[0]:=om hne;generalize vs[0]=v at hv;refine mO (wpAny_tryCatch (wpAny_pyNext_list_item oI (hl.at λo e=>k0 l o e) (x:=v) (~~~hv) λh' it' k'=>?_));show wpAny _ A.in1 (tryCatch (holding [v] (call (.builtin "len") [v])) _ >>= _) _ _ _;refine mO (wpAny_tryCatch (qR (HD rv hz hv λt2 tk2=>?_)));have oS':h'.get? h1.objs.size=some (seqObj "list" #[] 0):=(k'.2 _ SI).trans oS;show wpAny _ A.in1 (updateSeq h1.objs.size (λ_=>#[v,.int (qJ ls 0) t2]) >>= _) _ _ _;refine mO (wpAny_updateSeq oS' rfl ?_);rw[nm];have sb:=qD h' h1.objs.size (Obj.mapSeq λ_=>#[v,.int (qJ ls 0) t2]);refine mW ⟨plainId_quiet wQ _,Zho hh rv hz hl (oO ll) (oO (by rw[z1];exact wN ll)) SI (λi v h'' k e b kp=>hQ i v h'' k e b λc o q=>kp c o (λz=>?_) (λz=>?_) q) _ 0 0 _ _ v t2 _ rfl hne (λb o n1 n2 e=>?_) (get?_update_seq oS' λ_=>#[v,.int (qJ ls 0) t2]) (it'.at λo e=>(sb.2 _ SI.symm).trans e) hv (nD _) λj' hj'=>?_⟩
 .rw[z]at q;exact JO (nP q) (qC _)
 .have y:=nP q;rw[z,z1]at y;exact JO y (Nat.not_lt.mpr (uk _))
 .exact(sb.2 b n2).trans ((k'.2 b n1).trans (k0 b o e))
 .have e:j'=0:=by lia
  subst e;exact⟨Int.le_refl _,λz=>JO z (qC _)⟩
end
section
def Znw:JR->Hp->VK->Prop:=λxs H Q=>∃a ls,xs=[.ref a]/\H a=some (.lst (ls.map tx))/\0<ls.length/\(∀m∈ls,m.length<=1000)/\∀i m,ls[i]?=some m->zb ls i ls.length->Q (tx m) H
def Zj1 (hc:X.calm=true) (hg:Gl X "min") (hm:X.mg "min"=none) (hg2:Gl X "len") (hm2:X.mg "len"=none) (ha:PA X [e] ta) (he:backTo pos (starEach [e] X.env)=(false,eval e X.env)::backTo pos (starEach [] X.env):=by rfl)
  (hpl:(backTo pos (starEach [e] X.env)).any (·.1)=false:=by rfl):PE X (.Call (.Name "min" p) [e] [⟨some "key",.Name "len" p2,kpos⟩] pos) (Ce Znw ta):=by
 intro Aq s U H Q I h;refine uz (uQ I hg hm Zqt ?_);refine PyProof.Rows.callWith_kw (m8 (ha pos Aq s U H _ I h) λus s1 zz=>?_) he hpl;obtain⟨vs,H1,I1,r1,q1⟩:=zz;show wpAny _ _ (evalAll ((do let v <-eval (.Name "len" p2) X.env;standAt pos;pure v)::[])) _ _ s1;refine wpAny_evalAll_cons (mO (uQ I1 hg2 hm2 oz (mO (wB (mW (wpAny_evalAll_nil ?_))))));obtain⟨a,ls,rfl,hH,h0,hz,q⟩:=q1;obtain⟨u,rfl,ru⟩:=r1.one;cases ru;obtain⟨_,its,n,r,As,eo⟩:=I1.lstM hH;have hn:its.length=ls.length:=by rw[<-r.length,m6]
 refine kJ (I1.ok.hd hc) r hz (PySem.IsL.isList eo) ∅ λi v h' k ev lb kp=>?_;obtain⟨m,t,em,rfl⟩:=Ir r ev;exact⟨tx m,H1,I1.kept (t':=k) kp,⟨t,rfl⟩,q i m em (by rw[<-hn];exact lb)⟩
def qZ (l m:mN):Bool:=decide (m.length<=l.length)&&decide (l.drop (l.length-m.length)=m)
def Zol (l m:mN):Txt.endswith ⟨l.toArray⟩ ⟨m.toArray⟩=qZ l m:=by
 unfold Txt.endswith qZ Builtin.Str.subAt;have e1:(⟨l.toArray⟩:Str).length=l.length:=su l;have e2:(⟨m.toArray⟩:Str).length=m.length:=su m;rw[e1,e2,wp];by_cases hm:m.length<=l.length
 .have e3:l.toArray.extract (l.length-m.length) (l.length-m.length+m.length)=(l.drop (l.length-m.length)).toArray:=by rw[Nat.sub_add_cancel hm];apply Array.ext';simp only[List.extract_toArray,List.extract_eq_take_drop];rw[sA (by rw[pO];lia)]
  show (decide (m.length<=l.length)&&(l.toArray.extract (l.length-m.length) (l.length-m.length+m.length) == m.toArray))=_;rw[e3];simp only[hm,decide_true,sS];rw[qv,JP,JH];exact⟨λz=>by simpa using JN Array.toList z,λz=>by rw[z]⟩
 .simp[hm]
def Zhm:wC X "str.endswith" (λx vs H Q=>∃l m,x=tx l/\vs=[tx m]/\Q (.bl (qZ l m)) H):=by rintro Aq s U H x vs v us Q I rx rv ⟨l,m,rfl,rfl,q⟩;obtain⟨t,rfl⟩:=rx;obtain⟨u,rfl,t',rfl⟩:=rv.one;refine SC.endswith ?_;rw[Zol];exact⟨.bl _,H,I,rfl,q⟩
noncomputable def gG (l:mN)(n:Int):mN:=(List.replicate n.toNat l).flatten
theorem Ix (a:Array Nat):∀(n:Nat) (acc:Array Nat),((List.replicate n a).foldl (·++·) acc).toList=acc.toList++(List.replicate n a.toList).flatten
 | 0,acc=>by simp
 | n+1,acc=>by rw[zQ,wO,Ix a n,zQ];simp
def ZpD (l:mN)(n:Int):Txt.mul ⟨l.toArray⟩ n=⟨(gG l n).toArray⟩:=by
 unfold Txt.mul gG;by_cases h1:n<1
 .rw[mS h1];have:n.toNat=0:=by lia
  rw[this];rfl
 .rw[mR h1];split
  .rename_i h
   rw[Bool.or_eq_true]at h;rcases h with h | h
   .have:n=1:=by simpa using h
    subst this;simp
   .have:l=[]:=by have:=beq_iff_eq.mp h;rw[su]at this;exact xE.mp this
    subst this;simp
  .congr 1;apply Array.ext';rw[Ix];simp
def zO:oZ X (binaryOp .Mult) (λx y H Q=>∃l n,x=tx l/\y=.int n/\0<=n/\n<=1000/\l.length<=1000/\Q (tx (gG l n)) H):=by
 rintro Aq s U H x y v u Q I rx ry ⟨l,n,rfl,rfl,h0,h1,h2,q⟩;obtain⟨t,rfl⟩:=rx;obtain⟨t',rfl⟩:=ry;have e1:(⟨l.toArray⟩:Str).length=l.length:=su l;refine SB.mul ⟨?_,λa b=>?_,λa b=>?_⟩ λt2 k=>?_
 .simp only[Bool.or_eq_false_iff,JL];lia
 .rw[e1];have e3:(1000:Int)<=(2 ^ 63-1)/n:=by
   rw[Int.le_ediv_iff_mul_le ∅]
   lia
  lia
 .rw[e1];have:l.length*n.toNat<=1000*1000:=uB h2 ∅;unfold Builtin.Str.tooLong;simp only[JL];rw[sizeLine_eq]
  lia
 .rw[ZpD];exact⟨tx _,H,I.tok _,⟨_,rfl⟩,q⟩
theorem JD:∀ {ns:List String} {its:AC},fV (ns.map V.ty) its->its=ns.map Value.type
 | [],_,.nil=>rfl
 | _::_,_,.cons a b=>by cases (show _=Value.type _ from a);rw[JD b,pH]
def Ht {K:Q4}(hK:X.K=K):rq X (.builtin "isinstance") (λxs H Q=>∃(x:V) (p:AD) (ns:List String) (t:Value) (b:Bool),xs=[x,.ref p]/\H p=some (.tup (ns.map V.ty))/\sZ K H x t/\kitAny K t (ns.map Value.type)=some b/\(∀C,t≠.ref C)/\Q (.bl b) H):=by
 subst hK;rintro Aq s U H xs us Q I r ⟨x,p,ns,t,b,rfl,hp,ty,e,nr,q⟩;obtain⟨u,v,rfl,ru,rv⟩:=r.two;cases rv;obtain⟨_,its,r2,o,ho,hc,n,hd⟩:=I.hok p _ hp;have ei:=JD r2;subst ei;have fin:∀ {Hx:Heap->Prop},PySem.W.KitX X.K u t Hx->Hx s.heap->u≠.builtin "__main__.__loader__#opaque"->wpAny (model X.prog X.w) X.A (call (.builtin "isinstance") [u,.ref p]) (EP X Aq U Q) X.xe s:=λZ hx ne=>by obtain⟨oc,od,odt,osl⟩:=o;cases hc;cases hd;exact PySem.W.kia_tup Z I.kIn hx ho e ne λtk=>⟨.bl b,H,I.tok _,rfl,q⟩
 cases ty with
 | pl ty=>
  cases ty with
  | non=>cases (show u=Value.none from ru);exact fin kitx_none True.intro (λz=>nomatch z)
  | bl y=>cases (show u=Value.bool y from ru);exact fin kitx_bool True.intro (λz=>nomatch z)
  | int i=>obtain⟨t,z⟩:=(show ∃t,u=Value.int i t from ru);cases z;exact fin kitx_int True.intro (λz=>nomatch z)
  | str y=>obtain⟨t,z⟩:=(show ∃t,u=Value.str y t from ru);cases z;exact fin kitx_str True.intro (λz=>nomatch z)
  | flt y=>obtain⟨t,z⟩:=(show ∃t,u=Value.float y t from ru);cases z;exact fin kitx_float True.intro (λz=>nomatch z)
  | @lst a xs ea=>
   cases (show u=Value.ref a from ru);obtain⟨_,_,n,_,h1⟩:=(show gg X.prog X.w H s.heap a (.lst xs) from I.hok a _ ea);exact fin yt ⟨_,h1,rfl⟩ (λz=>nomatch z)
  | @frz a ob xs ea=>
   cases (show u=Value.ref a from ru);obtain⟨_,_,_,n,_,h1⟩:=(show gg X.prog X.w H s.heap a (.frz ob (.lst xs)) from I.hok a _ ea);exact fin yt ⟨_,h1,rfl⟩ (λz=>nomatch z)
  | @tup a xs ea=>
   cases (show u=Value.ref a from ru);obtain⟨_,_,_,o',h1,h2,_⟩:=(show gg X.prog X.w H s.heap a (.tup xs) from I.hok a _ ea);exact fin kitx_tuple ⟨o',h1,h2⟩ (λz=>nomatch z)
  | @dK a kvs ea=>
   cases (show u=Value.ref a from ru);obtain⟨_,_,vs,_,ob,es,ep,h1,h2,_⟩:=(show gg X.prog X.w H s.heap a (.dK kvs) from I.hok a _ ea);exact fin kitx_dict ⟨ob,h1,h2.1⟩ (λz=>nomatch z)
  | @dT a kvs ea=>
   cases (show u=Value.ref a from ru);obtain⟨_,_,xs,_,ob,es,ep,h1,h2,_⟩:=(show gg X.prog X.w H s.heap a (.dT kvs) from I.hok a _ ea);exact fin kitx_dict ⟨ob,h1,h2.1⟩ (λz=>nomatch z)
  | ins _ _ _ _ _ _=>exact JO rfl (nr _)
 | seqL h=>
  cases ru;obtain⟨_,_,⟨o',n',h1,h2,_⟩,_⟩:=I.list h;exact fin yt ⟨o',h1,h2⟩ (λz=>nomatch z)
 | seqT h=>
  cases ru;obtain⟨_,_,⟨o',h1,h2,_⟩,_⟩:=I.tuple h;exact fin kitx_tuple ⟨o',h1,h2⟩ (λz=>nomatch z)
 | exc _ _=>exact JO rfl (nr _)
end
open PySem.W (Frag)
def vC {X:Cx} {K:Frag} {T id:String} {name:Str} {o e:Expr} {es:List Expr} {to:TE} {t:TA} {Aw Ax:Pos} {r:V->JR->Hp->VK->Prop} (hK:X.K=K) (pa:PlainAttrs T) (slot:Slot T name id) (hty:typeOf (.builtin id)=pure (.type "method_descriptor")) (hm:CP X id r) (ho:PE X o to) (ha:PA X (e::es) t)
  (hbase:attributeBase o name X.env (eval o X.env)=eval o X.env:=by rfl)
  (hfew:((backTo Ax (starEach (e::es) X.env)).all (λx=>!x.1)&&(backToKw Ax (keywordEach [] X.env)).all (λx=>x.1.isSome)&&decide ((e::es).length+([]:List Keyword).length+(if ([]:List Keyword).isEmpty then 0 else 1)<30))=true:=by rfl)
  (hline:(Aw.endLine == Ax.line)=true:=by rfl) (hs:starEach (e::es) X.env=(false,eval e X.env)::starEach es X.env:=by rfl) (hplain:(backTo Ax (starEach es X.env)).any (·.1)=false:=by rfl):PE X (.Call (.Attribute o name Aw) (e::es) [] Ax) (Du K T r to t):=by
 subst hK;exact sV pa slot hty hm ho ha hbase hfew hline hs hplain
def f9.zip {g:TG}{tb:TS}{D:ia}{U:St}{H:Hp}{K:Frag}{a b:AD}{xs ys:JR}(he:xs.length=ys.length)(Pv:Nat->St->Hp->Prop)(h0:Pv 0 U H)(hl:∀i U H,i<=xs.length->Pv i U H->oW K H a xs/\oW K H b ys)
  (hs:∀i x y p U H,xs[i]?=some x->ys[i]?=some y->Pv i U H->H p=none->g (.ref p) U (upd H p (.tup [x,y])) λU2 H2=>tb { D with nx:=Pv (i+1),ct:=Pv (i+1),bk:=D.nx } U2 H2) (hd:∀U H,Pv xs.length U H->D.nx U H):
  f9 (D5 K a b) g tb D U H:=by
 refine⟨λi m U H=>m=xs.length-i/\i<=xs.length/\Pv i U H,⟨xs.length,{},pE _,h0⟩,?_⟩;rintro i m U H ⟨rfl,hi,p⟩;obtain⟨q1,q2⟩:=hl i U H hi p;by_cases A1:i<xs.length
 .have ly:i<ys.length:=by lia
  refine .inr ⟨⟨xs,ys,xs[i],ys[i],q1,q2,he,by simp[A1],by simp[ly]⟩,Pv (i+1),λU' H' p'=>⟨xs.length-(i+1),∅,rfl,A1,p'⟩,λx H' y=>?_⟩;obtain⟨pt,u,v,hn,rfl,rfl,hu,hv⟩:=y;exact hs i u v pt U H (hu xs q1) (hv ys q2) p hn
 .have e:i=xs.length:=by lia
  subst e;exact .inl ⟨⟨xs,ys,q1,q2,he,rfl⟩,hd U H p⟩
def qM (w:mN)(e z:Nat):mN:=(w.drop (e-z)).take z
def iR (ls:mU)(w:mN)(e:Nat):Option (mN×Int):=(List.range (e+1)).findSome? λz=>if qM w e z∈ls then some (qM w e z,((e-z:Nat):Int)) else none
def rS (ls:mU)(w:mN):Option (mN×Int):=(List.range (w.length+1)).findSome? (iR ls w)
theorem C4 {α:Type}{f:Nat->Option α}{r:α}:∀ {n e:Nat},e<n->(∀e',e'<e->f e'=none)->f e=some r->(List.range n).findSome? f=some r
 | 0,_,h,_,_=>JO h (x8 _)
 | n+1,e,h,hn,hr=>by
  rw[uH,List.findSome?_append];by_cases he:e<n
  .rw[C4 he hn hr];rfl
  .have e':e=n:=by lia
   subst e';have z:(List.range e).findSome? f=none:=Bh.mpr λx hx=>hn x (oU.mp hx);rw[z];simp[hr]
def IV (h:∀e,e<n->f e=none):(List.range n).findSome? f=none:=Bh.mpr λx hx=>h x (oU.mp hx)
def Jq (he:e<=w.length)(hn:∀e',e'<e->iR ls w e'=none)(hr:iR ls w e=some r):rS ls w=some r:=C4 (Nat.lt_succ_of_le he) hn hr
def ZgM (hn:∀e,e<w.length+1->iR ls w e=none):rS ls w=none:=IV hn
def GD (hz:z<=e)(hn:∀z',z'<z->qM w e z'∉ls)(hr:qM w e z∈ls):iR ls w e=some (qM w e z,((e-z:Nat):Int)):=
 C4 (Nat.lt_succ_of_le hz) (λz' h=>mR (hn z' h)) (mS hr)
def Fe (hn:∀z,z<e+1->qM w e z∉ls):iR ls w e=none:=IV λz h=>mR (hn z h)
def Es (he:e<=w.length):qZ (w.take e) m=true↔m.length<=e/\qM w e m.length=m:=by
 unfold qZ qM;have hl:(w.take e).length=e:=by rw[ou];lia
 rw[oJ,JH,JH,hl];constructor
 .rintro⟨h1,h2⟩;refine⟨h1,?_⟩;rw[vK]at h2;have:e-(e-m.length)=m.length:=by lia
  rw[this]at h2;exact h2
 .rintro⟨h1,h2⟩;refine⟨h1,?_⟩;rw[vK];have:e-(e-m.length)=m.length:=by lia
  rw[this];exact h2
def Fg (he:e<=w.length)(hz:z<=e):(qM w e z).length=z:=by
 unfold qM;rw[ou,pO]
 lia
def ZhA (he:e<=w.length)(hm:(ls.filter (qZ (w.take e)))[i]?=some m)(hb:zb (ls.filter (qZ (w.take e))) i (ls.filter (qZ (w.take e))).length):iR ls w e=some (m,((e:Int)-(m.length:Nat))):=by
 have mm:=qr.mp (qA hm);obtain⟨h1,h2⟩:=(Es he).mp mm.2;have e2:((e-m.length:Nat):Int)=(e:Int)-(m.length:Nat):=by lia
 have:=GD (ls:=ls) (w:=w) (e:=e) (z:=m.length) h1 (λz hz hin=>?_) (by rw[h2];exact mm.1)
 .rw[h2,e2]at this;exact this
 .have hl:=Fg he (Nat.le_of_lt (qz hz h1));have hf:qM w e z∈ls.filter (qZ (w.take e)):=qr.mpr ⟨hin,(Es he).mpr ⟨by rw[hl];lia,by rw[hl]⟩⟩;obtain⟨j,hj,ej⟩:=xJ hf;have hj':=(hb j hj).1;unfold qJ at hj';rw[pM,hm,pM,om hj,Option.getD_some,Option.getD_some,ej,hl]at hj'
  lia
def Zhz (he:e<=w.length)(hf:ls.filter (qZ (w.take e))=[]):iR ls w e=none:=
 Fe λz hz hin=>by have hl:=Fg he (Nat.le_of_lt_succ hz);have:qM w e z∈ls.filter (qZ (w.take e)):=qr.mpr ⟨hin,(Es he).mpr ⟨by rw[hl];lia,by rw[hl]⟩⟩;rw[hf]at this;cases this
def Ans (H:Hp)(v:V):Option (mN×Int)->Prop
 | none=>v=.non
 | some (m,k)=>∃p,v=.ref p/\H p=some (.tup [tx m,.int k])
def Fu:TS:=λ_ _ _=>False
def xN {X:Cx}{st:Stmt}:PS X st Fu:=λ_ _ _ _ _ _ h=>h.elim
section
def Et (hg:Gl X x) (hm:X.mg x=some (.ref L)) (cr:g6 X.K L "__init__" (.ref f)) (F:f7 X.prog X.w X.K X.mg X.base CX k f fd ps sp) (hr:gz k X.A) (hk:keepIn X.K (.ref f)=true) (hb:gR X.K fd ps ds) (hd:fV A0 ds) (hx:sW CX X E)
  (ha:PA X (e::es) t) (hdb:(x == ("__debug__":Str))=false:=by decide) (hst:starEach (e::es) X.env=(false,eval e X.env)::starEach es X.env:=by rfl) (hpl:(backTo pos (starEach es X.env)).any (·.1)=false:=by rfl)
  (ht:eval (.Call (.Attribute (.Name x np) "__init__" Aw) (e::es) [] pos) X.env=(do
   let ov <-eval (.Name x np) X.env
   standAt Aw.atName
   let (f,first) <-holding [ov] (getMethod ov "__init__" pl)
   callWith pos f first (backTo pos (starEach (e::es) X.env)) (backToKw pos (keywordEach [] X.env))):=by rfl):PE X (.Call (.Attribute (.Name x np) "__init__" Aw) (e::es) [] pos) (Ba sp A0 E t):=by
 intro Aq s U H Q I h;refine methodCall_KW (pl:=pl) (vG I hg hm ?_ hdb) ht;refine method_cls I.kIn cr.sp (cls_value I.kIn cr.rd cr.fd cr.hn ?_);refine xR (first:=[]) (h₀:=X.base) I.ok.mod.kin hk (m8 (ha pos Aq _ U H _ (I.tok _) h) λus s1 ⟨vs,H1,I1,r,q⟩=>⟨I1.kIn,?_⟩) hst hpl;exact Cd F hr hb hd hx I1 r q
end
def gS (c:TT)(tb:TS)(D:ia)(U:St)(H:Hp):Prop:=Dc c tb D U H
def Znx:Dc c tb D U H=gS c tb D U H:=rfl
def gS.by (Pv:St->Hp->Prop)(μ:St->Hp->Nat)(h0:Pv U H)
  (hs:∀U H,Pv U H->∃b:Bool,(∀Q:Bool->Hp->Prop,(∀H1,fT H H1->Q b H1)->c U H Q)/\∀H1,fT H H1->if b=true then tb { D with nx:=λU' H'=>Pv U' H'/\μ U' H'<μ U H,ct:=λU' H'=>Pv U' H'/\μ U' H'<μ U H,bk:=D.nx } U H1 else D.nx U H1):gS c tb D U H:=by
 refine⟨λm U H=>m=μ U H/\Pv U H,⟨_,rfl,h0⟩,?_⟩;rintro m U H ⟨rfl,p⟩;obtain⟨b,hc,hb⟩:=hs U H p;refine hc _ λH1 s1=>?_;have q:=hb H1 s1;cases b with
 | true=>exact⟨_,λU' H' ⟨p',l⟩=>⟨_,l,rfl,p'⟩,q⟩
 | false=>exact q
def oQ (l:mN)(i:Nat):Nat:=l.getD (i % l.length) 0
def gC (l:mN)(n:Nat):mN:=(gG l ((n:Int)/(l.length:Nat)+2)).take (l.length+n-1)
def gf (l:mN)(n:Nat):mU:=qd (qo ((List.range (l.length+1-n)).map λi=>(l.drop i).take n))
def zN (l:mN)(n:Nat):mU:=(List.range l.length).map λi=>(List.range n).map λj=>oQ l (i+j)
def re (l:mN)(n:Nat):mU:=qd (qo (zN l n))
def uN (l:mN)(s:Nat):Bool:=decide (gG (l.take s) ((l.length:Int)/(s:Nat))=l)
def pT (l:mN):Nat:=((List.range l.length).find? λs=>decide (1<=s)&&uN l s).getD l.length
def iE (l:mN):mN:=l.take (pT l)
def Cc (l:mN)(i:Nat):oQ l (i+l.length)=oQ l i:=by unfold oQ;rw[Nat.add_mod_right]
def Io (l:mN)(i:Nat):oQ l (i % l.length)=oQ l i:=by unfold oQ;rw[Nat.mod_mod]
def yC (h:i<l.length):l[i]?=some (oQ l i):=by unfold oQ;rw[Nat.mod_eq_of_lt h,pM,om h];rfl
def xO (l:mN)(n:Nat):((List.replicate n l).flatten).length=n*l.length:=by simp
theorem BP {l:mN}:∀ {n k:Nat},k<n*l.length->((List.replicate n l).flatten)[k]?=some (oQ l k)
 | 0,k,h=>by lia
 | n+1,k,h=>by
  rw[zQ,uY];by_cases hk:k<l.length
  .rw[qT hk];exact yC hk
  .have hk':l.length<=k:=by lia
   rw[sd hk',BP (by rw[Nat.succ_mul]at h;lia)];have e:=Cc l (k-l.length);rw[Nat.sub_add_cancel hk']at e;rw[e]
def Zop {g:mN}{f:Nat->Nat}{i n:Nat}(hg:∀k,k<g.length->g[k]?=some (f k))(h:i+n<=g.length):(g.drop i).take n=(List.range n).map λj=>f (i+j):=by
 apply ul;intro k;by_cases hk:k<n
 .rw[A5 hk,tU,hg (i+k) ∅,pA,List.getElem?_range hk];rfl
 .rw[qN (by simp;lia),qN (by simp;lia)]
def ZkJ (hs:1<=s):s+n<=(n/s+2)*s:=by
 have:=Nat.div_add_mod n s;have:=vA n hs;rw[Nat.add_mul,Nat.mul_comm (n/s) s]
 lia
def Ey (l:mN)(n:Nat)(s:Nat):gG l ((n:Int)/(s:Nat)+2)=(List.replicate (n/s+2) l).flatten:=by
 unfold gG;have:((n:Int)/(s:Nat)+2).toNat=n/s+2:=by have e:(n:Int)/(s:Nat)=((n/s:Nat):Int):=(Int.natCast_ediv n s).symm;rw[e];exact rh (n/s+2)
 rw[this]
def EF {n:Nat}(h1:1<=l.length):l.length+n<=(gG l ((n:Int)/(l.length:Nat)+2)).length:=by rw[Ey,xO];exact ZkJ h1
def Hc {n:Nat}(h:k<(gG l ((n:Int)/(l.length:Nat)+2)).length):(gG l ((n:Int)/(l.length:Nat)+2))[k]?=some (oQ l k):=by rw[Ey]at h ⊢;rw[xO]at h;exact BP h
def wF (h1:1<=l.length):(gC l n).length=l.length+n-1:=by
 unfold gC;have:=EF (n:=n) h1;rw[ou]
 lia
def EQ (h1:1<=l.length)(h:k<(gC l n).length):(gC l n)[k]?=some (oQ l k):=by have h':=h;rw[wF h1]at h';unfold gC;rw[A5 h'];have:=EF (n:=n) h1;exact Hc ∅
def ZiA (h1:1<=l.length):gf (gC l n) n=re l n:=by
 unfold gf re zN;have e:(gC l n).length+1-n=l.length:=by rw[wF h1];lia
 rw[e];congr 2;apply t7;intro i hi;have hi:=oU.mp hi;exact Zop (λk hk=>EQ h1 hk) (by rw[wF h1];lia)
theorem Fz {x:mN}:∀(ls acc:mU),x∈ls.foldl gX acc↔x∈acc\/x∈ls
 | [],acc=>by simp
 | y::ls,acc=>by
  rw[wO,Fz ls];have h:x∈gX acc y↔x∈acc\/x=y:=by
   unfold gX;split
   .rename_i h
    constructor
    .exact .inl
    .rintro (q | q)
     .exact q
     .rw[q];exact h
   .rw[oV,oN]
  rw[h,ot,or_assoc]
def BX:x∈qo ls↔x∈ls:=by unfold qo;rw[Fz];simp
def Zkc (ls:mU):(qo ls).Nodup:=by rw[<-zC];exact xP _
def Zgr:x∈zN l n↔∃i,i<l.length/\x=(List.range n).map λj=>oQ l (i+j):=by
 unfold zN;rw[pK];constructor
 .rintro⟨i,hi,rfl⟩;exact⟨i,oU.mp hi,rfl⟩
 .rintro⟨i,hi,rfl⟩;exact⟨i,oU.mpr hi,rfl⟩
def Znv (hs:1<=s)(hn:s<=l.length):uN l s=true↔s∣l.length/\∀k,oQ l k=oQ (l.take s) k:=by
 have ht:(l.take s).length=s:=by rw[ou];lia
 have hq:((l.length:Int)/(s:Nat)).toNat=l.length/s:=by have e:(l.length:Int)/(s:Nat)=((l.length/s:Nat):Int):=(Int.natCast_ediv _ _).symm;rw[e];exact rh _
 unfold uN gG;rw[JH,hq];constructor
 .intro e;have hl:=JN List.length e;rw[xO,ht]at hl;have hd:s∣l.length:=⟨l.length/s,by rw[Nat.mul_comm];exact hl.symm⟩;refine⟨hd,λk=>?_⟩;have hm:k % l.length<l.length:=vA _ ∅;have a1:=BP (l:=l.take s) (n:=l.length/s) (k:=k % l.length) (by rw[ht,hl];exact hm);rw[e,yC hm,Io]at a1;have a2:oQ (l.take s) (k % l.length)=oQ (l.take s) k:=by unfold oQ;rw[ht,Nat.mod_mod_of_dvd _ hd]
  rw[<-a2];exact Option.some.inj a1
 .rintro⟨⟨c,hc⟩,h⟩;have hdiv:l.length/s=c:=by rw[hc];exact Nat.mul_div_cancel_left c hs
  have As:((List.replicate (l.length/s) (l.take s)).flatten).length=l.length:=by rw[xO,ht,hdiv,Nat.mul_comm];exact hc.symm
  apply ul;intro i;by_cases hi:i<l.length
  .rw[BP (by rw[xO]at As;rw[As];exact hi),yC hi,h i]
  .rw[qN (by rw[As];lia),qN ∅]
def F9 (hs:1<=s)(hn:s<=l.length):uN l s=true↔s∣l.length/\∀k,oQ l (k+s)=oQ l k:=by
 have ht:(l.take s).length=s:=by rw[ou];lia
 rw[Znv hs hn];constructor
 .rintro⟨hd,h⟩;refine⟨hd,λk=>?_⟩;have:=Cc (l.take s) k;rw[ht]at this;rw[h,h,this]
 .rintro⟨hd,h⟩;refine⟨hd,λk=>?_⟩;have hmul:∀c k,oQ l (k+s*c)=oQ l k:=by
   intro c;induction c with
   | zero=>intro k;rfl
   | succ c ih=>
    intro k;rw[Nat.mul_succ,<-vd,h,ih]
  have e1:=hmul (k/s) (k % s);rw[Nat.mod_add_div]at e1;have hk:k % s<s:=vA _ hs;have e2:oQ (l.take s) k=oQ l (k % s):=by have a1:=yC (l:=l.take s) (i:=k % s) (by rw[ht];exact hk);rw[A5 hk,yC ∅]at a1;have a2:=Io (l.take s) k;rw[ht]at a2;rw[<-a2];exact(Option.some.inj a1).symm
  rw[e1,e2]
def Zls (h1:1<=l.length):uN l l.length=true:=(F9 h1 (nD _)).mpr ⟨Nat.dvd_refl _,Cc l⟩
def zj (h1:1<=l.length):1<=pT l/\pT l<=l.length/\uN l (pT l)=true/\∀s,1<=s->s<pT l->uN l s=false:=by
 unfold pT;cases e:(List.range l.length).find? λs=>decide (1<=s)&&uN l s with
 | none=>
  refine⟨h1,nD _,Zls h1,λs a b=>?_⟩;have:=List.find?_eq_none.mp e s (oU.mpr b);simpa [a] using this
 | some r=>
  have hr:=List.find?_some e;have hm:=oU.mp (List.mem_of_find?_eq_some e);rw[oJ,JH]at hr;refine⟨hr.1,Nat.le_of_lt hm,hr.2,λs a b=>?_⟩;have b':s<r:=b;have A1:=List.find?_range_eq_some.mp e;have:=A1.2.2 s b';simpa [a] using this
def DP (h1:1<=l.length):(iE l).length=pT l:=by
 unfold iE;rw[ou];have:=(zj h1).2.1
 lia
def Zlq (hy:y∈iE l):y∈l:=qf hy
open PySem.W (Frag)
def oq (l w:mN)(i:Nat):Prop:=i+w.length<=l.length/\(l.drop i).take w.length=w
def mZ (w l:mN):Prop:=∃i,oq l w i
def zA (l w:mN)(i:Nat):StrLaws.At ⟨l.toArray⟩ ⟨w.toArray⟩ (⟨l.toArray⟩:Str).length i↔oq l w i:=by
 have e1:(⟨l.toArray⟩:Str).length=l.length:=su l;have e2:(⟨w.toArray⟩:Str).length=w.length:=su w;unfold StrLaws.At oq Builtin.Str.subAt;rw[e1,e2];refine and_congr_right λh=>?_;have e3:l.toArray.extract i (i+w.length)=((l.drop i).take w.length).toArray:=by
  apply Array.ext';simp only[List.extract_toArray,List.extract_eq_take_drop];have:i+w.length-i=w.length:=by lia
  rw[this]
 show (l.toArray.extract i (i+w.length) == w.toArray)=true↔_;rw[e3,JP];exact⟨λz=>by simpa using JN Array.toList z,λz=>by rw[z]⟩
def oq.nil (l:mN):oq l [] 0:=⟨{},{}⟩
def mZ.nil (l:mN):mZ [] l:=⟨0,oq.nil l⟩
def mZ.len (h:mZ w l):w.length<=l.length:=by obtain⟨i,h,_⟩:=h;lia
def mZ.mem (h:mZ w l){c:Nat}(hc:c∈w):c∈l:=by obtain⟨i,_,h⟩:=h;rw[<-h]at hc;exact qE (qf hc)
def mZ.refl (l:mN):mZ l l:=⟨0,{},{}⟩
def oq.trans (h1:oq v u i)(h2:oq w v j):oq w u (j+i):=by
 obtain⟨a1,b1⟩:=h1;obtain⟨a2,b2⟩:=h2;refine⟨∅,?_⟩;have e:(w.drop (j+i)).take u.length=((((w.drop j).take v.length).drop i).take u.length):=by
  rw[vK,ui,tz];congr 1
  lia
 rw[e,b2,b1]
def mZ.trans (h1:mZ u v)(h2:mZ v w):mZ u w:=by obtain⟨i,h1⟩:=h1;obtain⟨j,h2⟩:=h2;exact⟨_,h1.trans h2⟩
def A9 (w:mN):mZ w.tail w:=by
 cases w with
 | nil=>exact mZ.nil _
 | cons c w=>exact⟨1,by simp;lia,{}⟩
def Bg (w:mN):mZ w.dropLast w:=⟨0,{},by rw[sG,rZ,xq]⟩
def Zn8 (h:mZ v w)(hl:v.length<w.length):mZ v w.dropLast\/mZ v w.tail:=by
 obtain⟨i,h1,h2⟩:=h;cases i with
 | zero=>
  refine .inl ⟨0,by rw[rZ];lia,?_⟩;rw[sG]at h2 ⊢;rw[xq,tz];have:min v.length (w.length-1)=v.length:=by lia
  rw[this];exact h2
 | succ i=>
  refine .inr ⟨i,by rw[v0];lia,?_⟩;rw[List.drop_tail];exact h2
def HA (h:mZ v w)(hl:w.length<=v.length):v=w:=by
 obtain⟨i,h1,h2⟩:=h;have hi:i=0:=by lia
 subst hi;rw[sG,sA hl]at h2;exact h2.symm
def sU (hn:n<=l.length+1):x∈gf l n↔x.length=n/\mZ x l:=by
 unfold gf;rw[(sB _).mem_iff,BX,pK];constructor
 .rintro⟨i,hi,rfl⟩;have hi:=oU.mp hi;have hl:((l.drop i).take n).length=n:=by rw[ou,pO];lia
  exact⟨hl,i,∅,by rw[hl]⟩
 .rintro⟨rfl,i,h1,h2⟩;exact⟨i,oU.mpr ∅,h2⟩
def Jy (l:mN)(n:Nat):(gf l n).length<=l.length+1:=by
 unfold gf;rw[(sB _).length_eq];have:∀(ls acc:mU),(ls.foldl gX acc).length<=acc.length+ls.length:=by
  intro ls;induction ls with
  | nil=>intro acc;simp
  | cons x ls ih=>
   intro acc;rw[wO];refine og (ih _) ?_;unfold gX;split<;>simp<;>lia
 have h:=this ((List.range (l.length+1-n)).map λi=>(l.drop i).take n) [];rw[m6,rm]at h;unfold qo;simp only[List.length_nil]at h
 lia
def sL (sh st:mU)(h:mN)(c:Nat):Bool:=decide ((h++[c]).tail∈sh)&&!decide (h++[c]∈st)
def tM (sh st:mU)(m h:mN):mU:=(m.filter (sL sh st h)).map λc=>h++[c]
def rC (sh st:mU)(m:mN):mU:=sh.flatMap (tM sh st m)
def zP (l m:mN)(i:Nat):mU:=(List.range i).flatMap λk=>rC (gf l k) (gf l (k+1)) m
noncomputable def nR (l m:mN):mU:=zP l m (l.length+1)
def DV (sh st:mU)(m h:mN):(tM sh st m h).length<=m.length:=by unfold tM;rw[m6];exact tO _ _
theorem zF {α β:Type}{f:α->List β}{b:Nat}(h:∀x,(f x).length<=b):∀l:List α,(l.flatMap f).length<=l.length*b
 | []=>by simp
 | x::l=>by
  rw[List.flatMap_cons,nN,qK,Nat.succ_mul];have:=h x;have:=zF h l
  lia
def BU (sh st:mU)(m:mN):(rC sh st m).length<=sh.length*m.length:=zF (DV sh st m) sh
def x4 {sh st:mU}{m w:mN}:w∈rC sh st m↔∃h c,h∈sh/\c∈m/\w=h++[c]/\w.tail∈sh/\w∉st:=by
 unfold rC tM sL;simp only[wT,pK,qr,oJ,Bool.not_eq_true',JH,JL];constructor
 .rintro⟨h,hh,c,⟨hc,h1,h2⟩,rfl⟩;exact⟨h,c,hh,hc,rfl,h1,h2⟩
 .rintro⟨h,c,hh,hc,rfl,h1,h2⟩;exact⟨h,hh,c,⟨hc,h1,h2⟩,rfl⟩
structure iP (l w:mN):Prop where
 ne:w≠[]
 init:mZ w.dropLast l
 tail:mZ w.tail l
 no:¬mZ w l
def qG:w∈nR l m↔iP l w/\∃c∈m,w.getLast?=some c:=by
 unfold nR zP;rw[wT];constructor
 .rintro⟨k,hk,hw⟩;have hk:=oU.mp hk;obtain⟨h,c,h1,hc,rfl,h3,h4⟩:=x4.mp hw;rw[sU ∅]at h1 h3;refine⟨⟨{},~~~h1.2,h3.2,λz=>h4 ((sU ∅).mpr ⟨by simp[h1.1],z⟩)⟩,c,hc,{}⟩
 .rintro⟨⟨ne,hi,ht,hn⟩,c,hc,hl⟩;have e:w.dropLast++[c]=w:=by rw[vk ne]at hl;have h:=yy ne;rw[Option.some.inj hl]at h;exact h
  have As:w.dropLast.length=w.length-1:=rZ;have h1:1<=w.length:=tj.mpr ne;refine⟨w.length-1,oU.mpr (by have:=hi.len;lia),x4.mpr ⟨w.dropLast,c,?_,hc,e.symm,?_,?_⟩⟩
  .rw[sU (by have:=hi.len;lia)];exact⟨As,hi⟩
  .rw[sU (by have:=hi.len;lia)];exact⟨v0,ht⟩
  .rw[sU (by have:=hi.len;lia)];exact λz=>hn z.2
def ZfC:∀(n:Nat) (w:mN),w.length=n->(∀c∈w,c∈m)->¬mZ w l->∃v,v∈nR l m/\mZ v w:=by
 intro n;induction n with
 | zero=>
  intro w hw _ hn;have:w=[]:=xE.mp hw;rw[this]at hn;exact JO (mZ.nil l) hn
 | succ n ih=>
  intro w hw hm hn;have ne:w≠[]:=λe=>by rw[e]at hw;simp at hw
  by_cases hi:mZ w.dropLast l
  .by_cases ht:mZ w.tail l
   .refine⟨w,qG.mpr ⟨⟨ne,hi,ht,hn⟩,w.getLast ne,hm _ (List.getLast_mem ne),vk ne⟩,mZ.refl w⟩
   .obtain⟨v,h1,h2⟩:=ih w.tail (by rw[v0];lia) (λc hc=>hm c (List.mem_of_mem_tail hc)) ht;exact⟨v,h1,h2.trans (A9 w)⟩
  .obtain⟨v,h1,h2⟩:=ih w.dropLast (by rw[rZ];lia) (λc hc=>hm c (qf (by rw[<-xq];exact hc))) hi;exact⟨v,h1,h2.trans (Bg w)⟩
def Zkl (hm:∀c∈w,c∈m):mZ w l↔∀v∈nR l m,¬mZ v w:=by
 constructor
 .intro h v hv hw;exact(qG.mp hv).1.no (hw.trans h)
 .intro h;by_cases hi:mZ w l
  .exact hi
  .obtain⟨v,h1,h2⟩:=ZfC (m:=m) _ w rfl hm hi;exact JO h2 (h v h1)
def Zja (h:rS ls w=none):∀v∈ls,¬mZ v w:=by
 rintro v hv ⟨i,h1,h2⟩;have:=Bh.mp h (i+v.length) (oU.mpr ∅);have:=Bh.mp this v.length (oU.mpr ∅);have e:qM w (i+v.length) v.length=v:=by
  unfold qM;have:i+v.length-v.length=i:=by lia
  rw[this];exact h2
 rw[e,mS hv]at this;cases this
def jn (h:H e=none)(s:fT H H2):fT H (upd H2 e o'):=λb u hb=>by
 have:b≠e:=λz=>by rw[z,h]at hb;cases hb
 rw[mT this];exact s _ _ hb
section
end
section
variable {tt:TT}{te:TE}{Q:VK}{τ0:St}{H:Hp}{K:Frag}{a:AD}{xs:JR}
def f8.dataF (b:Nat->Bool)(D:Hp->V->Nat->Prop)(mono:∀H H' y i,(∀c us,H c=some (.tup us)->H' c=some (.tup us))->D H y i->D H' y i)(hz:xs.length<=100000)(hx:oj K H a xs)
  (ht:∀i H' Q' (h:i<xs.length),fT H H'->(∀H'',fT H' H''->Q' (b i) H'')->tt (τ0.set 0 (some (xs.getD i .non))) H' Q')
  (he:∀i H' Q' (h:i<xs.length),b i=true->fT H H'->(∀y H'',fT H' H''->D H'' y i->Q' y H'')->te (τ0.set 0 (some (xs.getD i .non))) H' Q')
  (hQ:∀p ys H',fT H H'->H p=none->H' p=some (.lst ys)->ys.length=((List.range xs.length).filter b).length->(∀(k:Nat) (y:V),ys[k]?=some y->∃i,((List.range xs.length).filter b)[k]?=some i/\D H' y i)->Q (.ref p) H'):f8 (vy K a) τ0 (sO 0) tt te H Q:=by
 intro acc ha;refine⟨λi m τ H2=>i<=xs.length/\m=xs.length-i/\(∀w:Option V,τ.set 0 w=τ0.set 0 w)/\fT H H2/\∃ys,H2 acc=some (.lst ys)/\ys.length=((List.range i).filter b).length/\∀(k:Nat) (y:V),ys[k]?=some y->∃j,((List.range i).filter b)[k]?=some j/\D H2 y j,
  ⟨xs.length,pE _,rfl,λ_=>rfl,pX ha,[],nu,rfl,λi y h=>by simp at h⟩,?_⟩
 rintro i m τ H2 ⟨hi,rfl,hτ,hs,ys,Au,As,hall⟩;by_cases A1:i<xs.length
 .refine .inr ⟨⟨xs,xs[i],hs.seq hx,by simp[A1]⟩,λτ' H'=>(∀w:Option V,τ'.set 0 w=τ0.set 0 w)/\fT H H'/\∃ys,H' acc=some (.lst ys)/\ys.length=((List.range (i+1)).filter b).length/\∀(k:Nat) (y:V),ys[k]?=some y->∃j,((List.range (i+1)).filter b)[k]?=some j/\D H' y j,λτ' H' q=>⟨xs.length-(i+1),∅,A1,rfl,q⟩,λx H3 y=>?_⟩;obtain⟨rfl,y⟩:=y;have ex:x=xs.getD i .non:=by rw[pM,y xs (hs.seq hx)];rfl
  subst ex;show tt (τ.set 0 (some (xs.getD i .non))) _ _;rw[hτ];have hτ':∀w:Option V,(τ0.set 0 (some (xs.getD i .non))).set 0 w=τ0.set 0 w:=λw=>by rw[List.set_set]
  refine ht i _ _ A1 hs λH4 s4=>?_;cases hb:b i with
  | false=>
   rw[mR nU];have ef:(List.range (i+1)).filter b=(List.range i).filter b:=by rw[uH,wL];simp[hb]
   refine⟨hτ',hs.trans s4,ys,s4 _ _ Au,by rw[ef];exact As,λk y hy=>?_⟩;obtain⟨j,h1,h2⟩:=hall k y hy;exact⟨j,by rw[ef];exact h1,mono _ _ _ _ (λc us e=>s4 _ _ e) h2⟩
  | true=>
   rw[mS rfl];have ef:(List.range (i+1)).filter b=(List.range i).filter b++[i]:=by rw[uH,wL];simp[hb]
   have fl:=tO b (List.range i);rw[rm]at fl;refine he i _ _ A1 hb (hs.trans s4) λy H5 s5 hD=>⟨ys,s5 _ _ (s4 _ _ Au),by rw[As,sizeLine_eq];lia,hτ',jn ha ((hs.trans s4).trans s5),ys++[y],nu,by rw[ef,nN,nN,As];rfl,λk z hz'=>?_⟩;have ne:∀c us,H5 c=some (.tup us)->upd H5 acc (.lst (ys++[y])) c=some (.tup us):=λc us h=>by rw[mT (λe=>by rw[e,s5 _ _ (s4 _ _ Au)]at h;cases h)];exact h
   rw[ef];by_cases hk:k<ys.length
   .rw[qT hk]at hz';obtain⟨j,h1,h2⟩:=hall k z hz';exact⟨j,by rw[qT (by rw[<-As];exact hk)];exact h1,mono _ _ _ _ ne (mono _ _ _ _ (λc us e=>s5 _ _ (s4 _ _ e)) h2)⟩
   .rw[sd ∅]at hz';have hk':k-ys.length=0:=by
     rcases Nat.eq_zero_or_pos (k-ys.length) with h | h
     .exact h
     .rw[qN (by simp;lia)]at hz';cases hz'
    rw[hk']at hz';cases hz';exact⟨i,by rw[sd (by rw[<-As];lia),<-As,hk'];rfl,mono _ _ _ _ ne hD⟩
 .have e:i=xs.length:=by lia
  subst e;exact .inl ⟨⟨xs,hs.seq hx,nD _⟩,hQ acc ys H2 hs ha Au As hall⟩
end
section
variable {tt:TT}{te:TE}{Q:VK}{τ0:St}{H:Hp}{K:Frag}{a:AD}{xs:JR}
def f8.listM (b:Nat->Bool)(f:Nat->V)(hz:xs.length<=100000)(hx:oj K H a xs)
  (ht:∀i H' Q' (h:i<xs.length),fT H H'->(∀H'',fT H' H''->Q' (b i) H'')->tt (τ0.set 0 (some (xs.getD i .non))) H' Q')
  (he:∀i H' Q' (h:i<xs.length),b i=true->fT H H'->(∀H'',fT H' H''->Q' (f i) H'')->te (τ0.set 0 (some (xs.getD i .non))) H' Q')
  (hQ:∀p H',fT H H'->H p=none->H' p=some (.lst (((List.range xs.length).filter b).map f))->Q (.ref p) H'):f8 (vy K a) τ0 (sO 0) tt te H Q:=
 .dataF b (λ_ y i=>y=f i) (λ_ _ _ _ _ h=>h) hz hx ht (λi H' Q' h hb s q=>he i H' Q' h hb s λH'' s2=>q _ H'' s2 rfl) λp ys H' s n e el al=>hQ p H' s n (by rw[e];congr 2;refine uK (by rw[m6];exact el) λk h1 h2=>?_;obtain⟨j,hj,e⟩:=al k _ (om h1);rw[e,List.getElem_map,(oM.mp hj).2])
def f8.tupsM (P:Nat->JR->Prop)(hz:xs.length<=100000)(hx:oj K H a xs)
  (he:∀i H' Q' (h:i<xs.length),fT H H'->(∀p vs H'',fT H' H''->H'' p=some (.tup vs)->P i vs->Q' (.ref p) H'')->te (τ0.set 0 (some (xs.getD i .non))) H' Q')
  (hQ:∀p ys H',fT H H'->H p=none->H' p=some (.lst ys)->ys.length=xs.length->(∀i y,ys[i]?=some y->∃t vs,y=.ref t/\H' t=some (.tup vs)/\P i vs)->Q (.ref p) H'):f8 (vy K a) τ0 (sO 0) km te H Q:=
 .dataF (λ_=>true) (λH y i=>∃t vs,y=.ref t/\H t=some (.tup vs)/\P i vs) (λ_ _ _ _ k ⟨t,vs,e,h,p⟩=>⟨t,vs,e,k _ _ h,p⟩) hz hx (λi H' Q' _ _ q=>q H' (fT.refl _)) (λi H' Q' h _ s q=>he i H' Q' h s λp vs H'' s2 e hp=>q _ H'' s2 ⟨p,vs,rfl,e,hp⟩) λp ys H' s n e el al=>by have fa:(List.range xs.length).filter (λ_=>true)=List.range xs.length:=wZ.mpr λ_ _=>rfl;rw[fa]at el al;rw[rm]at el;refine hQ p ys H' s n e el λi y hy=>?_;obtain⟨j,hj,h⟩:=al i y hy;rw[List.getElem?_range (by have:=(oM.mp hy).1;lia)]at hj;cases hj;exact h
end
section
end
def EN:XK:=λ_ _ _=>False
def yf:sW (qO X.prog X.w) X EN:=by intro _ _ _ _ _ _ _ h;obtain⟨_,_,_,_,_,_,_,_,_,_,_,_,_,_,_,z⟩:=h;exact z.elim
section
end
open PySem.W (Frag)
noncomputable def hG (w l:mN):Bool:=(List.range (l.length+1)).any λi=>decide (i+w.length<=l.length)&&decide ((l.drop i).take w.length=w)
def tP:hG w l=true↔mZ w l:=by
 unfold hG mZ oq;rw[vv];constructor
 .rintro⟨i,_,h⟩;rw[oJ,JQ,JQ]at h;exact⟨i,h⟩
 .rintro⟨i,h1,h2⟩;refine⟨i,oU.mpr ∅,?_⟩;rw[oJ,JQ,JQ];exact⟨h1,h2⟩
def FU:hG w l=false↔¬mZ w l:=by rw[<-tP,Bool.not_eq_true]
def Fh (w l:mN):(!(Builtin.Str.occurrences ⟨l.toArray⟩ ⟨w.toArray⟩ 0 (⟨l.toArray⟩:Str).length 1).isEmpty)=hG w l:=by rw[qv,StrLaws.found_iff,tP];exact⟨λ⟨i,h⟩=>⟨i,(zA l w i).mp h⟩,λ⟨i,h⟩=>⟨i,(zA l w i).mpr h⟩⟩
section
def GQ:oZ X (compareOp .In) (λx y H Q=>∃w l,x=tx w/\y=tx l/\Q (.bl (hG w l)) H):=by rintro Aq s U H x y v u Q I rx ry ⟨w,l,rfl,rfl,q⟩;refine Iu Aq s U H _ _ v u Q I rx ry ⟨_,_,rfl,rfl,?_⟩;rw[Fh];exact q
def Hi:oZ X (compareOp .NotIn) (λx y H Q=>∃w l,x=tx w/\y=tx l/\Q (.bl (!hG w l)) H):=by rintro Aq s U H x y v u Q I rx ry ⟨w,l,rfl,rfl,q⟩;refine HE Aq s U H _ _ v u Q I rx ry ⟨_,_,rfl,rfl,?_⟩;rw[Fh];exact q
def jA:∀k,k<26->Unicode.upperOf (97+k)=[65+k]:=by decide +kernel
theorem GT {α β:Type}(g:α->β):∀l:List α,(l.map λx=>[g x]).flatten=l.map g
 | []=>rfl
 | x::l=>by rw[pH,uY,GT g l];rfl
def Zk9 {l:mN}(h:∀c∈l,97<=c/\c<=122):Txt.upper ⟨l.toArray⟩=⟨(l.map (· - 32)).toArray⟩:=by
 unfold Txt.upper placed;have e:(l.toArray.mapIdx λi c=>(Unicode.upperOf c).toArray)=(l.map λc=>#[c-32]).toArray:=by
  apply Array.ext';rw[Array.toList_mapIdx];apply uK {};intro i h1 h2;have hi:i<l.length:=by simpa using h2
  obtain⟨b1,b2⟩:=h l[i] (t8 hi);have:=jA (l[i]-97) ∅;have e1:97+(l[i]-97)=l[i]:=by lia
  have e2:65+(l[i]-97)=l[i]-32:=by lia
  rw[e1,e2]at this;simp[this]
 show (⟨(l.toArray.mapIdx λi c=>(Unicode.upperOf c).toArray).flatten⟩:Str)=_;rw[e];congr 1;apply Array.ext';rw[Array.toList_flatten];have:((l.map λc=>#[c-32]).toArray.toList.map Array.toList)=l.map λc=>[c-32]:=by simp
 simp only[ql];rw[show (l.map (Array.toList ∘ λc=>#[c-32]))=l.map λc=>[c-32] from rfl,GT]
def Zkd:wC X "str.upper" (λx vs H Q=>∃l,x=tx l/\vs=[]/\l.length<=1000/\(∀c∈l,97<=c/\c<=122)/\Q (tx (l.map (· - 32))) H):=by
 rintro Aq s U H x vs v us Q I rx rv ⟨l,rfl,rfl,hz,hc,q⟩;obtain⟨t,rfl⟩:=rx;cases rv;have hfit:(⟨l.toArray⟩:Str).length<=5592405:=by rw[su];lia
 refine PyProof.Rows.SCL.upper hfit λhle=>?_;rw[Zk9 hc];exact⟨tx (l.map (· - 32)),H,I.tok _,⟨s.toks,rfl⟩,q⟩
end
def gU (a b:mN):Prop:=a.length<b.length\/(a.length=b.length/\a<b)
theorem Dk:∀ {a b:mN} {x y:mN},a.length=b.length->a<b->a++x<b++y
 | [],[],_,_,_,h=>by cases h
 | [],_::_,_,_,e,_=>by simp at e
 | _::_,[],_,_,e,_=>by simp at e
 | c::a,d::b,x,y,e,h=>by
  rw[wJ,wJ];cases h with
  | rel h=>exact List.Lex.rel h
  | cons h=>exact List.Lex.cons (Dk (~~~e) h)
theorem CY:∀(a:mN) {c d:Nat},c<d->a++[c]<a++[d]
 | [],_,_,h=>List.Lex.rel h
 | _::a,_,_,h=>List.Lex.cons (CY a h)
theorem BF:∀(a b:mN),a<b\/a=b\/b<a
 | [],[]=>.inr (.inl rfl)
 | [],_::_=>.inl .nil
 | _::_,[]=>.inr (.inr .nil)
 | c::a,d::b=>by
  rcases Nat.lt_trichotomy c d with h | h | h
  .exact .inl (List.Lex.rel h)
  .subst h;rcases BF a b with h | h | h
   .exact .inl (List.Lex.cons h)
   .exact .inr (.inl (by rw[h]))
   .exact .inr (.inr (List.Lex.cons h))
  .exact .inr (.inr (List.Lex.rel h))
def Hv (l:mN)(n:Nat):(gf l n).Pairwise (· < ·):=by
 have h1:(gf l n).Pairwise (λa b=>rG a b=true):=yk _;have h2:(gf l n).Nodup:=(sB _).nodup_iff.mpr (by rw[<-zC];exact xP _);refine(h1.and h2).imp ?_;rintro a b ⟨x,y⟩;have x':¬b<a:=by simpa [rG] using x
 rcases BF a b with z | z | z
 .exact z
 .exact JO z y
 .exact JO z x'
def tJ (hm:m.Pairwise (· < ·)):(nR l m).Pairwise gU:=by
 unfold nR zP;have len:∀k w,k<=l.length->w∈rC (gf l k) (gf l (k+1)) m->w.length=k+1:=λk w hk hw=>by obtain⟨h,c,h1,_,rfl,_⟩:=x4.mp hw;rw[sU ∅]at h1;rw[nN,h1.1];rfl
 rw[List.pairwise_flatMap];refine⟨λk hk=>?_,?_⟩
 .have hk:=oU.mp hk;unfold rC;rw[List.pairwise_flatMap];refine⟨λh hh=>?_,?_⟩
  .unfold tM;rw[uG];exact(hm.filter _).imp λ{c d} hcd=>.inr ⟨{},CY h hcd⟩
  .refine Cs ?_ (Hv l k);intro a b ha hb hab x hx y hy;have la:=((sU (l:=l) ∅).mp ha).1;have lb:=((sU (l:=l) ∅).mp hb).1;unfold tM at hx hy;obtain⟨c,_,rfl⟩:=pK.mp hx;obtain⟨d,_,rfl⟩:=pK.mp hy;exact .inr ⟨by simp[la,lb],Dk (by rw[la,lb]) hab⟩
 .refine Cs ?_ List.pairwise_lt_range;intro i j hi hj hij x hx y hy;have hi:=oU.mp hi;have hj:=oU.mp hj;exact .inl (by rw[len i x ∅ hx,len j y ∅ hy];lia)
def yI:¬gU a a:=λh=>h.elim (λh=>qC _ h) λh=>List.lt_irrefl _ h.2
def Zi2 (hm:m.Pairwise (· < ·)):(nR l m).Nodup:=by unfold List.Nodup;exact(tJ hm).imp λ{a b} h e=>by subst e;exact yI h
theorem ER {α:Type}[DecidableEq α]:∀(l m:List α),l.Nodup->(∀x∈l,x∈m)->l.length<=m.length
 | [],m,_,_=>pE _
 | x::l,m,nd,h=>by
  have hx:=h x pW;have nd':=tZ.mp nd;have:=ER l (m.erase x) nd'.2 λy hy=>(List.mem_erase_of_ne (λe=>by rw[e]at hy;exact nd'.1 hy)).mpr (h y (pP _ hy));rw[List.length_erase_of_mem hx]at this;have pos:0<m.length:=Br hx;rw[qK]
  lia
def Zjc (hu:oq l u i)(hv:oq l v j)(e:i+u.length=j+v.length)(hl:v.length<=u.length):v=u.drop (u.length-v.length):=by
 obtain⟨a1,a2⟩:=hu;obtain⟨b1,b2⟩:=hv;have hj:j=i+(u.length-v.length):=by lia
 rw[<-a2,ou,pO,rM ∅,vK,ui,<-hj];rw[show u.length-(u.length-v.length)=v.length by lia];exact b2.symm
def Zme (h:mZ u l)(k:Nat):mZ (u.drop k) l:=by
 obtain⟨i,h1,h2⟩:=h;by_cases hk:k<=u.length
 .refine⟨i+k,by rw[pO];lia,?_⟩;rw[pO];have:(l.drop (i+k)).take (u.length-k)=((l.drop i).take u.length).drop k:=by rw[vK,ui]
  rw[this,h2]
 .rw[vW ∅];exact mZ.nil l
def FI (h:w.getLast?=some c):w=w.dropLast++[c]:=by
 have ne:w≠[]:=λe=>by rw[e]at h;cases h
 rw[vk ne]at h;have h2:=yy ne;rw[Option.some.inj h]at h2;exact h2.symm
def HC (hw:iP l w)(hv:iP l v)(cw:w.getLast?=some c)(cv:v.getLast?=some c)(iw:oq l w.dropLast i)(jv:oq l v.dropLast j)(e:i+w.dropLast.length=j+v.dropLast.length)(hl:v.length<=w.length):v=w:=by
 have ew:=FI cw;have ev:=FI cv;have lw:w.dropLast.length=w.length-1:=rZ;have lv:v.dropLast.length=v.length-1:=rZ;have w1:1<=w.length:=tj.mpr hw.ne;have v1:1<=v.length:=tj.mpr hv.ne;have s:=Zjc iw jv e ∅;rw[show w.dropLast.length-v.dropLast.length=w.length-v.length by lia]at s;have h2:(w.dropLast++[c]).drop (w.length-v.length)=w.dropLast.drop (w.length-v.length)++[c]:=zV ∅;have vs:v=w.drop (w.length-v.length):=by have h3:v.dropLast++[c]=w.dropLast.drop (w.length-v.length)++[c]:=JN (·++[c]) s;rw[<-h2,<-ew,<-ev]at h3;exact h3
 by_cases eq:v.length=w.length
 .rw[vs,eq,Nat.sub_self];rfl
 .exfalso;apply hv.no;have:v=w.tail.drop (w.length-v.length-1):=by rw[<-List.drop_one,ui,show 1+(w.length-v.length-1)=w.length-v.length by lia];exact vs
  rw[this];exact Zme hw.tail _
noncomputable def iF (l w:mN):Nat:=((List.range (l.length+1)).find? λe=>(List.range (l.length+1)).any λi=>decide (i+w.dropLast.length=e)&&decide (i+w.dropLast.length<=l.length)&&decide ((l.drop i).take w.dropLast.length=w.dropLast)).getD 0
def EZ (h:mZ w.dropLast l):∃i,oq l w.dropLast i/\iF l w=i+w.dropLast.length:=by
 unfold iF;cases f:(List.range (l.length+1)).find? λe=>(List.range (l.length+1)).any λi=>decide (i+w.dropLast.length=e)&&decide (i+w.dropLast.length<=l.length)&&decide ((l.drop i).take w.dropLast.length=w.dropLast) with
 | none=>
  obtain⟨i,h1,h2⟩:=h;have:=List.find?_eq_none.mp f (i+w.dropLast.length) (oU.mpr ∅);exfalso;apply this;rw[vv];exact⟨i,oU.mpr ∅,by rw[JI rfl,JI h1,JI h2];rfl⟩
 | some e=>
  have:=List.find?_some f;rw[vv]at this;obtain⟨i,_,hi⟩:=this;simp only[oJ,JH]at hi;exact⟨i,⟨hi.1.2,hi.2⟩,hi.1.1.symm⟩
theorem Cz {α β:Type}{f:α->β}:∀ {l:List α},l.Nodup->(∀x∈l,∀y∈l,f x=f y->x=y)->(l.map f).Nodup
 | [],_,_=>by simp
 | x::l,nd,h=>by have nd':=tZ.mp nd;rw[pH,tZ];refine⟨λz=>?_,Cz nd'.2 λa ha b hb=>h a (pP _ ha) b (pP _ hb)⟩;obtain⟨y,hy,e⟩:=pK.mp z;have:=h y (pP _ hy) x pW e;rw[this]at hy;exact nd'.1 hy
def Zi3 (hm:m.Pairwise (· < ·)):(nR l m).length<=m.length*(l.length+1):=by
 have nd:=Zi2 (l:=l) hm;have inj:∀x∈nR l m,∀y∈nR l m,(x.getLast?,iF l x)=(y.getLast?,iF l y)->x=y:=by
  intro x hx y hy e;obtain⟨mx,c,hc,cx⟩:=qG.mp hx;obtain⟨my,d,hd,cy⟩:=qG.mp hy;have e1:x.getLast?=y.getLast?:=JN Prod.fst e;have e2:iF l x=iF l y:=JN Prod.snd e;obtain⟨i,hi,ei⟩:=EZ mx.init;obtain⟨j,hj,ej⟩:=EZ my.init;have cy':y.getLast?=some c:=by rw[<-e1];exact cx
  rcases Nat.le_total y.length x.length with h | h
  .exact(HC mx my cx cy' hi hj ∅ h).symm
  .exact HC my mx cy' cx hj hi ∅ h
 have nd2:=Cz (f:=λw:mN=>(w.getLast?,iF l w)) nd inj;have h:=ER _ (m.flatMap λc=>(List.range (l.length+1)).map λe=>(some c,e)) nd2 λp hp=>by obtain⟨w,hw,rfl⟩:=pK.mp hp;obtain⟨mw,c,hc,cw⟩:=qG.mp hw;obtain⟨i,hi,ei⟩:=EZ mw.init;rw[wT];refine⟨c,hc,pK.mpr ⟨iF l w,oU.mpr (by have:=hi.1;lia),by rw[cw]⟩⟩
 rw[m6]at h;have e:(m.flatMap λc=>(List.range (l.length+1)).map λe=>(some c,e)).length=m.length*(l.length+1):=by
  rw[List.length_flatMap];have:(m.map λc=>((List.range (l.length+1)).map λe=>(some c,e)).length)=List.replicate m.length (l.length+1):=by apply uK {};intro i h1 h2;simp
  rw[this,List.sum_replicate_nat]
 rw[e]at h;exact h
noncomputable def tX:Bool->Keyed->Array Keyed->Nat->Nat->Nat->StateT SortSt Sem (Option Nat):=sortPriv% PySem.Builtin.gallop
noncomputable def kj (bey:Nat->StateT SortSt Sem (Option Bool)) (n h:Nat):StateT SortSt Sem (Option Nat):=do
  let mut la:=0
  let mut o:=1
  let mut lo:=0
  let mut hi:=0
  let some rt <-bey h | return none
  if rt then
   let mx:=n-h
   for _ in [0:n] do
    if o>=mx then break
    let some mo <-bey (h+o) | return none
    if !mo then break
    la:=o
    o:=2*o+1
   lo:=h+la+1
   hi:=h+min o mx
  else
   let mx:=h+1
   for _ in [0:n] do
    if o>=mx then break
    let some fo <-bey (h-o) | return none
    if fo then break
    la:=o
    o:=2*o+1
   lo:=h+1-min o mx
   hi:=h-la
  for _ in [0:n] do
   if lo>=hi then break
   let m:=lo+(hi-lo)/2
   let some mo <-bey m | return none
   if mo then lo:=m+1 else hi:=m
  return some hi
noncomputable def mI (lf:Bool) (ky:Keyed) (ar:Array Keyed) (bs:Nat) (i:Nat):StateT SortSt Sem (Option Bool):=do
 let x <-elem' ar (bs+i)
 if lf then lt' x ky else return (<-lt' ky x).map (!·)
def Zqe (lf:Bool)(ky:Keyed)(ar:Array Keyed)(bs n h:Nat):tX lf ky ar bs n h=kj (mI lf ky ar bs) n h:=rfl
noncomputable def lG (bey:Nat->StateT SortSt Sem (Option Bool)) (n l0 h0:Nat):StateT SortSt Sem (Option Nat):=do
  let mut lo:=l0
  let mut hi:=h0
  for _ in [0:n] do
   if lo>=hi then break
   let m:=lo+(hi-lo)/2
   let some mo <-bey m | return none
   if mo then lo:=m+1 else hi:=m
  return some hi
section
variable {M:Model}{A:AH}{E:oo}{s:AE}{bey:Nat->StateT SortSt Sem (Option Bool)}{B:Nat->Bool}{n h:Nat}{st:SortSt}{Q:Option Nat->SortSt->Prop}
noncomputable def iY (B:Nat->Bool) (n lo hi:Nat):Prop:=(∀i,i<lo->B i=true)/\∀i,hi<=i->i<n->B i=false
def Zoe {lo hi:Nat}(hb:∀i (Q:Option Bool->SortSt->Prop),i<n->Q (some (B i)) st->wpS M A E s (bey i) Q st)(mono:∀i j,i<=j->j<n->B j=true->B i=true)(h1:lo<=hi)(h2:hi<=n)(hp:iY B n lo hi)
  (q:∀k,k<=n->iY B n k k->Q (some k) st):wpS M A E s (lG bey n lo hi) Q st:=by
 unfold lG;refine m7 (qP (rF (I:=λi c st'=>st'=st/\∃lo hi,c=(none,lo,hi)/\lo<=hi/\hi<=n/\hi-lo<=n-i/\iY B n lo hi) (Q:=λc st'=>st'=st/\∃k,c=(none,k,k)/\k<=n/\iY B n k k) ?step ?fin ⟨rfl,lo,hi,rfl,h1,h2,∅,hp⟩) ?post)
 case step=>
  rintro i c st' _ hi' ⟨rfl,lo,hi,rfl,h1,h2,h3,hp⟩;dsimp only;by_cases hl:lo>=hi
  .have e:lo=hi:=by lia
   subst e;rw[mS hl];exact nA ⟨rfl,lo,rfl,h2,hp⟩
  .rw[mR hl];have hm1:lo<=lo+(hi-lo)/2:=by lia
   have hm2:lo+(hi-lo)/2<hi:=by lia
   generalize lo+(hi-lo)/2=m at hm1 hm2;refine m7 (hb m _ ∅ ?_);cases hB:B m with
   | true=>exact nA ⟨rfl,m+1,hi,rfl,∅,h2,∅,λi hi=>mono i m ∅ ∅ hB,hp.2⟩
   | false=>
    refine nA ⟨rfl,lo,m,rfl,∅,∅,∅,hp.1,λi hi hn=>?_⟩;cases hx:B i with
    | false=>rfl
    | true=>rw[mono m i hi hn hx]at hB;cases hB
 case fin=>
  rintro c st' ⟨rfl,lo,hi,rfl,h1,h2,h3,hp⟩;have e:lo=hi:=by lia
  subst e;exact⟨rfl,lo,rfl,h2,hp⟩
 case post=>
  rintro c st' ⟨rfl,k,rfl,hk,hp⟩;exact nA (q k hk hp)
def Zof (hh:h<n)
  (hb:∀i (Q:Option Bool->SortSt->Prop),i<n->Q (some (B i)) st->wpS M A E s (bey i) Q st) (mono:∀i j,i<=j->j<n->B j=true->B i=true)
  (q:∀k,k<=n->iY B n k k->Q (some k) st):wpS M A E s (kj bey n h) Q st:=by
 have anti:∀ {i j},B i=false->i<=j->j<n->B j=false:=λ{i j} h1 h2 h3=>by
  cases hx:B j with
  | false=>rfl
  | true=>rw[mono i j h2 h3 hx]at h1;cases h1
 have jp:∀lo hi,lo<=hi->hi<=n->iY B n lo hi->wpS M A E s (lG bey n lo hi) Q st:=λlo hi a b c=>Zoe hb mono a b c q;unfold kj;refine m7 (hb h _ hh ?_);cases hB:B h with
 | true=>
  dsimp only;rw[mS rfl];refine m7 (qP (rF (I:=λi c st'=>st'=st/\∃la o,c=(none,la,o)/\i<o/\la<o/\h+la<n/\B (h+la)=true) (Q:=λc st'=>st'=st/\∃la o,c=(none,la,o)/\la<o/\h+la<n/\B (h+la)=true/\(n-h<=o\/B (h+o)=false)) ?step ?fin ⟨rfl,0,1,rfl,∅,∅,∅,hB⟩) ?post)
  case step=>
   rintro i c st' _ hi' ⟨rfl,la,o,rfl,h1,h2,h3,h4⟩;dsimp only;by_cases hl:o>=n-h
   .rw[mS hl];exact nA ⟨rfl,la,o,rfl,h2,h3,h4,.inl hl⟩
   .rw[mR hl];refine m7 (hb (h+o) _ ∅ ?_);cases hx:B (h+o) with
    | false=>exact nA ⟨rfl,la,o,rfl,h2,h3,h4,.inr hx⟩
    | true=>exact nA ⟨rfl,o,2*o+1,rfl,∅,∅,∅,hx⟩
  case fin=>
   rintro c st' ⟨rfl,la,o,rfl,h1,h2,h3,h4⟩;exact⟨rfl,la,o,rfl,h2,h3,h4,.inl ∅⟩
  case post=>
   rintro c st' ⟨rfl,la,o,rfl,h2,h3,h4,h5⟩;refine jp (h+la+1) (h+min o (n-h)) ∅ ∅ ⟨λi hi=>mono i (h+la) ∅ h3 h4,λi hi hn=>?_⟩;rcases h5 with h5 | h5
   .lia
   .exact anti h5 ∅ hn
 | false=>
  dsimp only;rw[mR nU];refine m7 (qP (rF (I:=λi c st'=>st'=st/\∃la o,c=(none,la,o)/\i<o/\la<o/\la<=h/\B (h-la)=false) (Q:=λc st'=>st'=st/\∃la o,c=(none,la,o)/\la<o/\la<=h/\B (h-la)=false/\(h+1<=o\/(o<=h/\B (h-o)=true))) ?step2 ?fin2 ⟨rfl,0,1,rfl,∅,∅,∅,hB⟩) ?post2)
  case step2=>
   rintro i c st' _ hi' ⟨rfl,la,o,rfl,h1,h2,h3,h4⟩;dsimp only;by_cases hl:o>=h+1
   .rw[mS hl];exact nA ⟨rfl,la,o,rfl,h2,h3,h4,.inl hl⟩
   .rw[mR hl];refine m7 (hb (h-o) _ ∅ ?_);cases hx:B (h-o) with
    | true=>exact nA ⟨rfl,la,o,rfl,h2,h3,h4,.inr ⟨∅,hx⟩⟩
    | false=>exact nA ⟨rfl,o,2*o+1,rfl,∅,∅,∅,hx⟩
  case fin2=>
   rintro c st' ⟨rfl,la,o,rfl,h1,h2,h3,h4⟩;exact⟨rfl,la,o,rfl,h2,h3,h4,.inl ∅⟩
  case post2=>
   rintro c st' ⟨rfl,la,o,rfl,h2,h3,h4,h5⟩;refine jp (h+1-min o (h+1)) (h-la) ∅ ∅ ⟨λi hi=>?_,λi hi hn=>anti h4 hi hn⟩;rcases h5 with h5 | ⟨h5,h6⟩
   .lia
   .exact mono i (h-o) ∅ ∅ h6
end
structure rV (D:Keyed->Prop)(L:Keyed->Keyed->Bool):Prop where
 asym:∀x y,D x->D y->L x y=true->L y x=false
 tr:∀x y z,D x->D y->D z->L y x=false->L z y=false->L z x=false
abbrev Le (L:Keyed->Keyed->Bool)(x y:Keyed):Prop:=L y x=false
structure MS (D:Keyed->Prop)(L:Keyed->Keyed->Bool)(T:List Keyed)(o x y:List Keyed):Prop where
 perm:(o++(x++y)).Perm T
 so:o.Pairwise (Le L)
 ox:∀u∈o,∀v∈x,Le L u v
 oy:∀u∈o,∀v∈y,Le L u v
 sx:x.Pairwise (Le L)
 sy:y.Pairwise (Le L)
section
def MS.movX (h:MS D L T o (p++x) y)(hp:∀u∈p,∀v∈y,Le L u v):MS D L T (o++p) x y:=by
 obtain⟨h1,h2,h3,h4,h5,h6⟩:=h;rw[uI]at h5;refine⟨by simpa [qW] using h1,uI.mpr ⟨h2,h5.1,λu hu v hv=>h3 u hu v (by simp[hv])⟩,?_,?_,h5.2.1,h6⟩
 .intro u hu v hv;rcases oV.mp hu with hu | hu
  .exact h3 u hu v (by simp[hv])
  .exact h5.2.2 u hu v hv
 .intro u hu v hv;rcases oV.mp hu with hu | hu
  .exact h4 u hu v hv
  .exact hp u hu v hv
def MS.swap (h:MS D L T o x y):MS D L T o y x:=
 ⟨(List.Perm.append_left o List.perm_append_comm).trans h.perm,h.so,h.oy,h.ox,h.sy,h.sx⟩
def MS.movY (h:MS D L T o x (p++y))(hp:∀u∈p,∀v∈x,Le L u v):MS D L T (o++p) x y:=(h.swap.movX hp).swap
def MS.fin (h:MS D L T o x []):(o++x).Perm T/\(o++x).Pairwise (Le L):=
 ⟨~~~h.perm,uI.mpr ⟨h.so,h.sx,h.ox⟩⟩
def MS.all (h:MS D L T o x y)(hxy:∀u∈x,∀v∈y,Le L u v):(o++x++y).Perm T/\(o++x++y).Pairwise (Le L):=by have:=(MS.movX (x:=[]) (~~~h) hxy).swap.fin;simpa using this
end
noncomputable def D4:Array Keyed->Array Keyed->StateT SortSt Sem (Array Keyed):=sortPriv% PySem.Builtin.mergeLo
abbrev o6 (st:SortSt)(g:Nat):SortSt:=SortSt.mk' (kindOf st) (arrOf st) (pendingOf st) g (failedOf st)
noncomputable def jB (g:Nat):StateT SortSt Sem Unit:=modify λs=>o6 s g
noncomputable def mLoB (p q:Array Keyed):StateT SortSt Sem (Array Keyed):=do
 rule "list.sort.merge-lo"
 let tt:=p.size+q.size
 let dn (o:Array Keyed) (i j:Nat):=o++p.extract i p.size++q.extract j q.size
 let lp (o:Array Keyed) (i j:Nat):=o++q.extract j q.size++p.extract i p.size
 let mut o:Array Keyed:=#[<-elem' q 0]
 let mut i:=0
 let mut j:=1
 if j == q.size then return dn o i j
 if i+1 == p.size then return lp o i j
 let mut mg:=gallopOf (<-get)
 for _ in [0:tt] do
  let mut ca:=0
  let mut cb:=0
  for _ in [0:tt] do
   let some wn <-lt' (<-elem' q j) (<-elem' p i) | return dn o i j
   if wn then
    o:=o.push (<-elem' q j);j:=j+1;cb:=cb+1;ca:=0
    if j == q.size then return dn o i j
    if cb>=mg then break
   else
    o:=o.push (<-elem' p i);i:=i+1;ca:=ca+1;cb:=0
    if i+1 == p.size then return lp o i j
    if ca>=mg then break
  rule "list.sort.gallop"
  mg:=mg+1
  for _ in [0:tt] do
   if mg>1 then mg:=mg-1
   jB mg
   let some k <-tX false (<-elem' q j) p i (p.size-i) 0 | return dn o i j
   ca:=k
   if k>0 then
    o:=o++p.extract i (i+k);i:=i+k
    if i+1 == p.size then return lp o i j
    if i == p.size then return dn o i j
   o:=o.push (<-elem' q j);j:=j+1
   if j == q.size then return dn o i j
   let some k <-tX true (<-elem' p i) q j (q.size-j) 0 | return dn o i j
   cb:=k
   if k>0 then
    o:=o++q.extract j (j+k);j:=j+k
    if j == q.size then return dn o i j
   o:=o.push (<-elem' p i);i:=i+1
   if i+1 == p.size then return lp o i j
   if ca<7&&cb<7 then break
  mg:=mg+1
  jB mg
 unsupported "internal:list.sort.merge-bound"
def ZpF (p q:Array Keyed):D4 p q=mLoB p q:=rfl
section
noncomputable def gN (M:Model) (A:AH) (E:oo) (s:AE) (D:Keyed->Prop) (L:Keyed->Keyed->Bool) (kd:SortKind):Prop:=
 ∀(st:SortSt) (x y:Keyed) (Q:Option Bool->SortSt->Prop),kindOf st=kd->D x->D y->Q (some (L x y)) st->wpS M A E s (lt' x y) Q st
def qH {ar:Array Keyed}{i:Nat}{x:Keyed}{Q:Keyed->SortSt->Prop}{st:SortSt}(h:ar[i]?=some x)(q:Q x st):wpS M A E s (elem' ar i) Q st:=by rw[elem'_eq,h];exact nA q
def xT (hC:rV D L)(hP:gN M A E s D L kd){lf:Bool}{ky:Keyed}{ar:Array Keyed}{bs n h:Nat}{st:SortSt}{Q:Option Nat->SortSt->Prop}(hk:kindOf st=kd)
  (hn:bs+n<=ar.size) (hh:h<n) (hy:D ky) (hd:∀u∈ar.toList,D u) (hs:((ar.toList.drop bs).take n).Pairwise (Le L))
  (q:∀k,k<=n->(∀u∈((ar.toList.drop bs).take n).take k,if lf then L u ky=true else Le L u ky)->(∀u∈((ar.toList.drop bs).take n).drop k,if lf then Le L ky u else L ky u=true)->Q (some k) st):
  wpS M A E s (tX lf ky ar bs n h) Q st:=by
 rw[Zqe];obtain⟨xs,hxs⟩:∃xs,xs=(ar.toList.drop bs).take n:=⟨_,rfl⟩;rw[<-hxs]at hs q;have As:xs.length=n:=by rw[hxs,ou,pO,pB];lia
 have hat:∀i (hi:i<xs.length),ar[bs+i]?=some xs[i]:=by intro i hi;have:xs[i]?=some xs[i]:=om hi;rw[<-this,hxs,uZ,mS ∅,tU,sI]
 have hdx:∀u∈xs,D u:=λu hu=>hd u (qE (qf (hxs▸hu)));refine Zof (B:=λi=>if hi:i<xs.length then (if lf then L xs[i] ky else !L ky xs[i]) else false) hh ?_ ?_ ?_
 .intro i Q hi hq;have hi':i<xs.length:=by lia
  rw[dif_pos hi']at hq;refine m7 (qH (hat i hi') ?_);have hD:=hdx _ (t8 hi');cases lf with
  | true=>exact hP st _ _ _ hk hD hy hq
  | false=>exact m7 (hP st _ _ _ hk hy hD (nA hq))
 .intro i j hij hj;have hj':j<xs.length:=by lia
  have hi':i<xs.length:=by lia
  rw[dif_pos hj',dif_pos hi'];by_cases e:i=j
  .subst e;exact id
  .have hle:Le L xs[i] xs[j]:=yJ.mp hs i j hi' hj' ∅;have hDi:=hdx _ (t8 hi');have hDj:=hdx _ (t8 hj');cases lf with
   | true=>
    rw[mS rfl,mS rfl];intro h1;cases h2:L xs[i] ky with
    | true=>rfl
    | false=>rw[hC.tr ky _ _ hy hDi hDj h2 hle]at h1;cases h1
   | false=>
    rw[mR nU,mR nU];intro h1;rw[Bool.not_eq_true']at h1 ⊢;exact hC.tr _ _ ky hDi hDj hy hle h1
 .intro k hk' hp;refine q k hk' (λu hu=>?_) (λu hu=>?_)
  .obtain⟨i,hi,rfl⟩:=xJ hu;rw[ou]at hi;have:=hp.1 i ∅;dsimp only at this;rw[dif_pos ∅]at this;rw[List.getElem_take];cases lf with
   | true=>exact this
   | false=>simpa using this
  .obtain⟨i,hi,rfl⟩:=xJ hu;rw[pO]at hi;have:=hp.2 (k+i) ∅ ∅;dsimp only at this;rw[dif_pos ∅]at this;rw[List.getElem_drop];cases lf with
   | true=>exact this
   | false=>simpa using this
end
abbrev yx:=Option (Array Keyed)×Array Keyed×Nat×Nat×Nat×Nat×Nat
noncomputable def wv (p q o:Array Keyed) (i j:Nat):Array Keyed:=o++p.extract i p.size++q.extract j q.size
noncomputable def zH (p q o:Array Keyed) (i j:Nat):Array Keyed:=o++q.extract j q.size++p.extract i p.size
noncomputable def Cj (p q o:Array Keyed) (i j mg ca cb:Nat):StateT SortSt Sem (ForInStep yx):=do
 let e <-elem' p i
 if (i+1+1 == p.size)=true then pure (ForInStep.done (some (zH p q (o.push e) (i+1) j),o.push e,i+1,j,mg,ca,cb))
 else if (decide (ca<7)&&decide (cb<7))=true then pure (ForInStep.done (none,o.push e,i+1,j,mg,ca,cb))
 else pure (ForInStep.yield (none,o.push e,i+1,j,mg,ca,cb))
noncomputable def zY (p q o:Array Keyed) (i j mg ca cb:Nat):StateT SortSt Sem (ForInStep yx):=do
 let e <-elem' q j
 if (j+1 == q.size)=true then pure (ForInStep.done (some (wv p q (o.push e) i (j+1)),o.push e,i,j+1,mg,ca,cb))
 else do
  let some k <-tX true (<-elem' p i) q (j+1) (q.size-(j+1)) 0 | pure (ForInStep.done (some (wv p q (o.push e) i (j+1)),o.push e,i,j+1,mg,ca,cb))
  if k>0 then
   if (j+1+k == q.size)=true then pure (ForInStep.done (some (wv p q (o.push e++q.extract (j+1) (j+1+k)) i (j+1+k)),o.push e++q.extract (j+1) (j+1+k),i,j+1+k,mg,ca,k))
   else Cj p q (o.push e++q.extract (j+1) (j+1+k)) i (j+1+k) mg ca k
  else Cj p q (o.push e) i (j+1) mg ca k
noncomputable def yY (p q o:Array Keyed) (i j mg ca cb:Nat):StateT SortSt Sem (ForInStep yx):=do
 jB mg
 let some k <-tX false (<-elem' q j) p i (p.size-i) 0 | pure (ForInStep.done (some (wv p q o i j),o,i,j,mg,ca,cb))
 if k>0 then
  if (i+k+1 == p.size)=true then pure (ForInStep.done (some (zH p q (o++p.extract i (i+k)) (i+k) j),o++p.extract i (i+k),i+k,j,mg,k,cb))
  else if (i+k == p.size)=true then pure (ForInStep.done (some (wv p q (o++p.extract i (i+k)) (i+k) j),o++p.extract i (i+k),i+k,j,mg,k,cb))
  else zY p q (o++p.extract i (i+k)) (i+k) j mg k cb
 else zY p q o i j mg k cb
section
variable {M:Model}{A:AH}{E:oo}{s:AE}{D:Keyed->Prop}{L:Keyed->Keyed->Bool}{kd:SortKind}{p q:Array Keyed}{T:List Keyed}{st:SortSt}
structure uJ (D:Keyed->Prop)(L:Keyed->Keyed->Bool)(p q:Array Keyed)(T:List Keyed)(o:Array Keyed)(i j:Nat):Prop where
 ms:MS D L T o.toList (p.toList.drop i) (q.toList.drop j)
 li:i+1<p.size
 lj:j<q.size
noncomputable def ii (L:Keyed->Keyed->Bool) (T:List Keyed) (z:Array Keyed):Prop:=z.toList.Perm T/\z.toList.Pairwise (Le L)
def vZ (h:p[i]?=some e):p.toList.drop i=e::p.toList.drop (i+1):=by obtain⟨hi,rfl⟩:=zf.mp h;rw[<-Array.getElem_toList];exact Bz (~~~hi)
def at? (h:i<p.size):∃e,p[i]?=some e/\e∈p.toList:=⟨p[i],getElem?_pos p i h,{}⟩
def Zmg (p q o:Array Keyed)(i j:Nat):(wv p q o i j).toList=o.toList++p.toList.drop i++q.toList.drop j:=by unfold wv;rw[tW,tW,tT,tT,List.extract,List.extract,sA {},sA {}]
def ZlU (p q o:Array Keyed)(i j:Nat):(zH p q o i j).toList=o.toList++q.toList.drop j++p.toList.drop i:=by unfold zH;rw[tW,tW,tT,tT,List.extract,List.extract,sA {},sA {}]
def FN (p:Array Keyed)(i k:Nat):(p.extract i (i+k)).toList=(p.toList.drop i).take k:=by simp[tT,List.extract]
def Gp (l:List Keyed)(i k:Nat):l.drop i=(l.drop i).take k++l.drop (i+k):=by rw[<-ui,si]
structure ya (D:Keyed->Prop)(L:Keyed->Keyed->Bool)(p q:Array Keyed):Prop where
 dp:∀u∈p.toList,D u
 dq:∀u∈q.toList,D u
 sp:p.toList.Pairwise (Le L)
 sq:q.toList.Pairwise (Le L)
 last:∀u∈q.toList,∀v∈p.toList.drop (p.size-1),L u v=true
def ya.fin_lp (hH:ya D L p q)(hC:rV D L)(h:MS D L T o.toList (p.toList.drop i) (q.toList.drop j))(e:i+1=p.size):ii L T (zH p q o i j):=by
 unfold ii;rw[ZlU];refine h.swap.all λu hu v hv=>?_;have hu:=qE hu;have e':i=p.size-1:=by lia
 subst e';exact hC.asym _ _ (hH.dq u hu) (hH.dp v (qE hv)) (hH.last u hu v hv)
def Ck (h:MS D L T o.toList (p.toList.drop i) (q.toList.drop j))(e:j=q.size):ii L T (wv p q o i j):=by unfold ii;rw[Zmg];have e2:q.toList.drop j=[]:=vW (by simp;lia);rw[e2]at h ⊢;simpa using h.fin
noncomputable def zr (D:Keyed->Prop) (L:Keyed->Keyed->Bool) (p q:Array Keyed) (T:List Keyed) (w:Nat) (c:yx):Prop:=
 ∃r o i j mg ca cb,c=(r,o,i,j,mg,ca,cb)/\((∃z,r=some z/\ii L T z)\/(r=none/\uJ D L p q T o i j/\w<=i+j))
noncomputable def yz (D:Keyed->Prop) (L:Keyed->Keyed->Bool) (p q:Array Keyed) (T:List Keyed) (w:Nat) (c:yx):Prop:=
 ∃o i j mg ca cb,c=(none,o,i,j,mg,ca,cb)/\uJ D L p q T o i j/\w<=i+j
noncomputable def CI (D:Keyed->Prop) (L:Keyed->Keyed->Bool) (p q:Array Keyed) (T:List Keyed) (w:Nat) (st:SortSt) (r:ForInStep yx) (st':SortSt):Prop:=
 (∃g,st'=o6 st g)/\match r with | .done c=>zr D L p q T w c | .yield c=>yz D L p q T w c
def FQ (hH:ya D L p q)(hC:rV D L)(hi:i+1<p.size)(hj:j<q.size)(hw:w<=i+1+j)(h:MS D L T o.toList (p.toList.drop i) (q.toList.drop j))
  (hle:∀u∈(p.toList.drop i).take 1,∀v∈q.toList.drop j,Le L u v):wpS M A E s (Cj p q o i j mg ca cb) (CI D L p q T w st) (o6 st g):=by
 obtain⟨e,he,hm⟩:=at? (p:=p) (i:=i) ∅;have hd:=vZ he;have h2:MS D L T (o.push e).toList (p.toList.drop (i+1)) (q.toList.drop j):=by rw[ud];rw[hd]at h hle;exact MS.movX (p:=[e]) h (λu hu v hv=>hle u (~~~hu) v hv)
 unfold Cj;refine m7 (qH he ?_);by_cases c1:i+1+1=p.size
 .rw[mS (~~~c1)];exact nA ⟨⟨g,rfl⟩,_,_,_,_,_,_,_,rfl,.inl ⟨_,rfl,hH.fin_lp hC h2 c1⟩⟩
 .rw[mR (~~~c1)];have hI:uJ D L p q T (o.push e) (i+1) j:=⟨h2,∅,hj⟩;split
  .exact nA ⟨⟨g,rfl⟩,_,_,_,_,_,_,_,rfl,.inr ⟨rfl,hI,hw⟩⟩
  .exact nA ⟨⟨g,rfl⟩,_,_,_,_,_,_,rfl,hI,hw⟩
def Fr (hH:ya D L p q)(hC:rV D L)(hP:gN M A E s D L kd)(hk:kindOf st=kd)(hi:i+1<p.size)(hj:j<q.size)(hw:w<=i+1+j)(h:MS D L T o.toList (p.toList.drop i) (q.toList.drop j))
  (hle:∀u∈(q.toList.drop j).take 1,∀v∈p.toList.drop i,Le L u v):wpS M A E s (zY p q o i j mg ca cb) (CI D L p q T w st) (o6 st g):=by
 obtain⟨e,he,hm⟩:=at? (p:=q) (i:=j) hj;obtain⟨x,hx,hxm⟩:=at? (p:=p) (i:=i) ∅;have hd:=vZ he;have h2:MS D L T (o.push e).toList (p.toList.drop i) (q.toList.drop (j+1)):=by rw[ud];rw[hd]at h hle;exact MS.movY (p:=[e]) h (λu hu v hv=>hle u (~~~hu) v hv)
 unfold zY;refine m7 (qH he ?_);by_cases c1:j+1=q.size
 .rw[mS (~~~c1)];exact nA ⟨⟨g,rfl⟩,_,_,_,_,_,_,_,rfl,.inl ⟨_,rfl,Ck h2 c1⟩⟩
 .rw[mR (~~~c1)];refine m7 (qH hx ?_);have et:(q.toList.drop (j+1)).take (q.size-(j+1))=q.toList.drop (j+1):=sA {};refine m7 (xT hC hP (by exact hk) ∅ ∅ (hH.dp x hxm) hH.dq (by rw[et];exact h2.sy) ?_);rw[et];intro k hkn ha hb;replace ha:∀u∈(q.toList.drop (j+1)).take k,L u x=true:=ha;replace hb:∀u∈(q.toList.drop (j+1)).drop k,Le L x u:=hb;dsimp only;have hpd:=vZ hx;have hsx:=h2.sx;rw[hpd,tY]at hsx;have xle:∀v∈p.toList.drop i,Le L x v:=by
   intro v hv;rw[hpd]at hv;rcases ot.mp hv with rfl | hv
   .cases hx:L v v with
    | false=>exact hx
    | true=>exact hC.asym v v (hH.dp v hxm) (hH.dp v hxm) hx
   .exact hsx.1 v hv
  have h3:MS D L T (o.push e++q.extract (j+1) (j+1+k)).toList (p.toList.drop i) (q.toList.drop (j+1+k)):=by rw[tW,FN];rw[Gp q.toList (j+1) k]at h2;refine h2.movY λu hu v hv=>?_;have hDu:=hH.dq u (qE (qf hu));exact hC.tr u x v hDu (hH.dp x hxm) (hH.dp v (qE hv)) (hC.asym u x hDu (hH.dp x hxm) (ha u hu)) (xle v hv)
  have hle2:∀u∈(p.toList.drop i).take 1,∀v∈q.toList.drop (j+1+k),Le L u v:=by
   intro u hu v hv;rw[hpd]at hu;have:u=x:=by simpa using hu
   subst this;exact hb v (by rwa [ui])
  by_cases hk0:k>0
  .rw[mS hk0];by_cases c2:j+1+k=q.size
   .rw[mS (~~~c2)];exact nA ⟨⟨g,rfl⟩,_,_,_,_,_,_,_,rfl,.inl ⟨_,rfl,Ck h3 c2⟩⟩
   .rw[mR (~~~c2)];exact FQ hH hC hi ∅ ∅ h3 hle2
  .rw[mR hk0];have:k=0:=by lia
   subst this;exact FQ hH hC hi ∅ ∅ h2 hle2
def ZpK (hH:ya D L p q)(hC:rV D L)(hP:gN M A E s D L kd)(hk:kindOf st=kd)(hw:w<=i+1+j)(hI:uJ D L p q T o i j):
  wpS M A E s (yY p q o i j mg ca cb) (CI D L p q T w st) (o6 st g):=by
 obtain⟨h,hi,hj⟩:=hI;obtain⟨x,hx,hxm⟩:=at? (p:=q) (i:=j) hj;have hqd:=vZ hx;have hsy:=h.sy;rw[hqd,tY]at hsy;have xle:∀v∈q.toList.drop j,Le L x v:=by
  intro v hv;rw[hqd]at hv;rcases ot.mp hv with rfl | hv
  .cases hx:L v v with
   | false=>exact hx
   | true=>exact hC.asym v v (hH.dq v hxm) (hH.dq v hxm) hx
  .exact hsy.1 v hv
 unfold yY;refine m7 (sT ?_);refine m7 (qH hx ?_);have et:(p.toList.drop i).take (p.size-i)=p.toList.drop i:=sA {};refine m7 (xT hC hP (by exact hk) ∅ ∅ (hH.dq x hxm) hH.dp (by rw[et];exact h.sx) ?_);rw[et];intro k hkn ha hb;replace ha:∀u∈(p.toList.drop i).take k,Le L u x:=ha;replace hb:∀u∈(p.toList.drop i).drop k,L x u=true:=hb;dsimp only;have h3:MS D L T (o++p.extract i (i+k)).toList (p.toList.drop (i+k)) (q.toList.drop j):=by rw[tW,FN];rw[Gp p.toList i k]at h;refine h.movX λu hu v hv=>?_;exact hC.tr u x v (hH.dp u (qE (qf hu))) (hH.dq x hxm) (hH.dq v (qE hv)) (ha u hu) (xle v hv)
 have hle2:∀u∈(q.toList.drop j).take 1,∀v∈p.toList.drop (i+k),Le L u v:=by
  intro u hu v hv;rw[hqd]at hu;have:u=x:=by simpa using hu
  subst this;have hv':v∈(p.toList.drop i).drop k:=by rwa [ui]
  exact hC.asym u v (hH.dq u hxm) (hH.dp v (qE hv)) (hb v hv')
 have hlast:i+k≠p.size:=by
  intro e;obtain⟨y,hy,hym⟩:=at? (p:=p) (i:=p.size-1) ∅;have hyd:=vZ hy;have h5:=hH.last x hxm y (by rw[hyd];simp);have hy2:y∈(p.toList.drop i).take k:=by
   rw[sA (by simp;lia)];have:y∈p.toList.drop (p.size-1):=by rw[hyd];simp
   rw[show p.size-1=i+(p.size-1-i) by lia,<-ui]at this;exact qE this
  have h6:=ha y hy2;rw[show L x y=false from h6]at h5;cases h5
 by_cases hk0:k>0
 .rw[mS hk0];by_cases c2:i+k+1=p.size
  .rw[mS (~~~c2)];exact nA ⟨⟨_,rfl⟩,_,_,_,_,_,_,_,rfl,.inl ⟨_,rfl,hH.fin_lp hC h3 c2⟩⟩
  .rw[mR (~~~c2),mR (~~~hlast)];exact Fr hH hC hP hk ∅ hj ∅ h3 hle2
 .rw[mR hk0];have:k=0:=by lia
  subst this;exact Fr hH hC hP hk hi hj hw h hle2
def xD {β γ:Type}{r:Std.Legacy.Range}{i:β}{F:Nat->β->StateT SortSt Sem (ForInStep β)}{G:β->StateT SortSt Sem γ}{M:Model}{A:AH}{E:oo}{s:AE}{Q:γ->SortSt->Prop}{st:SortSt}(h:let F':=F;let G':=G;wpS M A E s (forIn r i F' >>= G') Q st):wpS M A E s (forIn r i F >>= G) Q st:=h
def ZpE (hH:ya D L p q)(hC:rV D L)(hP:gN M A E s D L kd)(hk:kindOf st=kd)(hp:0<p.size)(hq:0<q.size)
  (h0:∀u∈q.toList.take 1,∀v∈p.toList,Le L u v) (hQ:∀z g,ii L (p.toList++q.toList) z->Q z (o6 st g)):wpS M A E s (D4 p q) Q st:=by
 rw[ZpF];unfold mLoB;obtain⟨e,he,hm⟩:=at? (p:=q) (i:=0) hq;have hd:q.toList=e::q.toList.drop 1:=by simpa using vZ he
 have h1:MS D L (p.toList++q.toList) (#[e]:Array Keyed).toList (p.toList.drop 0) (q.toList.drop 1):=by have:MS D L (p.toList++q.toList) [] p.toList ([e]++q.toList.drop 1):=⟨by rw[hd];simp,List.Pairwise.nil,{},{},hH.sp,by have:=hH.sq;rw[hd]at this;exact this⟩;refine this.movY λu hu v hv=>h0 u ?_ v hv;rw[hd];simpa using hu
 refine m7 (wpS_lift (rW ⟨rfl,?_⟩));refine m7 (qH he ?_);by_cases c1:1=q.size
 .rw[mS (~~~c1)];exact nA (hQ _ _ (Ck h1 c1))
 rw[mR (~~~c1)];by_cases c2:0+1=p.size
 .rw[mS (~~~c2)];exact nA (hQ _ _ (hH.fin_lp hC h1 c2))
 rw[mR (~~~c2)];refine m7 (wpS_get ?_);have hI:uJ D L p q (p.toList++q.toList) #[e] 0 1:=⟨h1,∅,∅⟩;generalize p.toList++q.toList=T at hI hQ;refine xD ?_;intro F1 G1;refine m7 (qP (rF (I:=λx c st'=>∃g,st'=o6 st g/\∃o i j mg,c=(none,o,i,j,mg)/\uJ D L p q T o i j/\x<=i+j)
  (Q:=λc st'=>∃g,st'=o6 st g/\∃z o i j mg,c=(some z,o,i,j,mg)/\ii L T z) ?step ?fin ⟨gallopOf st,rfl,_,_,_,_,rfl,hI,∅⟩) ?post)
 case post=>
  rintro c st' ⟨g,rfl,z,o,i,j,mg,rfl,hz⟩;exact nA (hQ z g hz)
 case fin=>
  rintro c st' ⟨g,rfl,o,i,j,mg,rfl,hI,hx⟩;have:=hI.li;have:=hI.lj
  lia
 case step=>
  rintro x c st' _ hx ⟨g,rfl,o,i,j,mg,rfl,hI,hxi⟩;dsimp only[F1];refine xD ?_;intro F2 G2;refine m7 (qP (rF (I:=λy c st'=>st'=o6 st g/\∃o i j ca cb,c=(none,o,i,j,ca,cb)/\uJ D L p q T o i j/\y+x<=i+j)
   (Q:=λc st'=>st'=o6 st g/\∃r o i j ca cb,c=(r,o,i,j,ca,cb)/\((∃z,r=some z/\ii L T z)\/(r=none/\uJ D L p q T o i j/\x+1<=i+j))) ?s1 ?f1 ⟨rfl,_,_,_,_,_,rfl,hI,∅⟩) ?p1)
  case f1=>
   rintro c st' ⟨rfl,o,i,j,ca,cb,rfl,hI,hx⟩;have:=hI.li;have:=hI.lj
   lia
  case s1=>
   rintro y c st' _ hy ⟨rfl,o,i,j,ca,cb,rfl,hI,hxi⟩;obtain⟨h,hi,hj⟩:=hI;obtain⟨u,hu,hum⟩:=at? (p:=q) (i:=j) hj;obtain⟨v,hv,hvm⟩:=at? (p:=p) (i:=i) ∅;have hDu:=hH.dq u hum;have hDv:=hH.dp v hvm;have hqd:=vZ hu;have hpd:=vZ hv;have hsx:=h.sx;have hsy:=h.sy;rw[hpd,tY]at hsx;rw[hqd,tY]at hsy;dsimp only[F2];refine m7 (qH hu (m7 (qH hv (m7 (hP _ _ _ _ hk hDu hDv ?_)))));dsimp only;cases hL:L u v with
   | true=>
    rw[mS rfl];refine m7 (qH hu ?_);have h2:MS D L T (o.push u).toList (p.toList.drop i) (q.toList.drop (j+1)):=by
     rw[ud];rw[hqd]at h;refine MS.movY (p:=[u]) h λa ha b hb=>?_;have ha:a=u:=by simpa using ha
     subst ha;have hav:Le L a v:=hC.asym _ _ hDu hDv hL;rw[hpd]at hb;rcases ot.mp hb with rfl | hb
     .exact hav
     .exact hC.tr a v b hDu hDv (hH.dp b (qE hb)) hav (hsx.1 b hb)
    by_cases c3:j+1=q.size
    .rw[mS (~~~c3)];exact nA ⟨rfl,_,_,_,_,_,_,rfl,.inl ⟨_,rfl,Ck h2 c3⟩⟩
    .rw[mR (~~~c3)];have hI:uJ D L p q T (o.push u) i (j+1):=⟨h2,hi,∅⟩;split
     .exact nA ⟨rfl,_,_,_,_,_,_,rfl,.inr ⟨rfl,hI,∅⟩⟩
     .exact nA ⟨rfl,_,_,_,_,_,rfl,hI,∅⟩
   | false=>
    rw[mR nU];refine m7 (qH hv ?_);have h2:MS D L T (o.push v).toList (p.toList.drop (i+1)) (q.toList.drop j):=by
     rw[ud];rw[hpd]at h;refine MS.movX (p:=[v]) h λa ha b hb=>?_;have ha:a=v:=by simpa using ha
     subst ha;rw[hqd]at hb;rcases ot.mp hb with rfl | hb
     .exact hL
     .exact hC.tr a u b hDv hDu (hH.dq b (qE hb)) hL (hsy.1 b hb)
    by_cases c3:i+1+1=p.size
    .rw[mS (~~~c3)];exact nA ⟨rfl,_,_,_,_,_,_,rfl,.inl ⟨_,rfl,hH.fin_lp hC h2 c3⟩⟩
    .rw[mR (~~~c3)];have hI:uJ D L p q T (o.push v) (i+1) j:=⟨h2,∅,hj⟩;split
     .exact nA ⟨rfl,_,_,_,_,_,_,rfl,.inr ⟨rfl,hI,∅⟩⟩
     .exact nA ⟨rfl,_,_,_,_,_,rfl,hI,∅⟩
  case p1=>
   rintro c st' ⟨rfl,r,o,i,j,ca,cb,rfl,⟨z,rfl,hz⟩|⟨rfl,hI,hw⟩⟩
   .exact nA ⟨g,rfl,z,o,i,j,mg,rfl,hz⟩
   .dsimp only[G2];refine m7 (wpS_lift (rW ⟨rfl,?_⟩));refine xD ?_;intro F3 G3;refine m7 (qP (rF (I:=λy c st'=>(∃g,st'=o6 st g)/\yz D L p q T (y+(x+1)) c)
     (Q:=λc st'=>(∃g,st'=o6 st g)/\zr D L p q T (x+1) c) ?s2 ?f2 ⟨⟨g,rfl⟩,_,_,_,_,_,_,rfl,hI,∅⟩) ?p2)
    case f2=>
     rintro c st' ⟨_,o,i,j,mg,ca,cb,rfl,hI,hx⟩;have:=hI.li;have:=hI.lj
     lia
    case p2=>
     rintro c st' ⟨⟨g,rfl⟩,r,o,i,j,mg,ca,cb,rfl,⟨z,rfl,hz⟩|⟨rfl,hI,hw⟩⟩
     .exact nA ⟨g,rfl,z,o,i,j,mg,rfl,hz⟩
     .exact m7 (sT (nA ⟨_,rfl,_,_,_,_,rfl,hI,hw⟩))
    case s2=>
     rintro y c st' _ hy ⟨⟨g,rfl⟩,o,i,j,mg,ca,cb,rfl,hI,hw⟩;have key:∀mg,wpS M A E s (yY p q o i j mg ca cb) (λr st'=>match r with | .done c'=>(∃g,st'=o6 st g)/\zr D L p q T (x+1) c' | .yield c'=>(∃g,st'=o6 st g)/\yz D L p q T (y+1+(x+1)) c') (o6 st g):=by
      intro mg;refine qP (ZpK (w:=y+1+(x+1)) hH hC hP hk ∅ hI) ?_;rintro r st' ⟨hg,hr⟩;cases r with
      | done c=>
       obtain⟨r,o,i,j,mg,ca,cb,rfl,h | ⟨rfl,hI,hw⟩⟩:=hr
       .exact⟨hg,r,o,i,j,mg,ca,cb,rfl,.inl h⟩
       .exact⟨hg,none,o,i,j,mg,ca,cb,rfl,.inr ⟨rfl,hI,∅⟩⟩
      | yield c=>exact⟨hg,hr⟩
     have key2:wpS M A E s (if mg>1 then yY p q o i j (mg-1) ca cb else yY p q o i j mg ca cb) (λr st'=>match r with | .done c'=>(∃g,st'=o6 st g)/\zr D L p q T (x+1) c' | .yield c'=>(∃g,st'=o6 st g)/\yz D L p q T (y+1+(x+1)) c') (o6 st g):=by
      split
      .exact key _
      .exact key _
     refine qP (Q:=λr st'=>match r with | .done c'=>(∃g,st'=o6 st g)/\zr D L p q T (x+1) c' | .yield c'=>(∃g,st'=o6 st g)/\yz D L p q T (y+1+(x+1)) c') ?_ (λr st' hr=>by cases r<;>exact hr);by_cases hmg:mg>1
     .dsimp only[F3];rw[mS hmg];exact key (mg-1)
     .dsimp only[F3];rw[mR hmg];exact key mg
end
noncomputable def Ek:Array Keyed->Array Keyed->StateT SortSt Sem (Array Keyed):=sortPriv% PySem.Builtin.mergeHi
noncomputable def mHiB (p q:Array Keyed):StateT SortSt Sem (Array Keyed):=do
 rule "list.sort.merge-hi"
 let tt:=p.size+q.size
 let dn (o:Array Keyed) (i j:Nat):=p.extract 0 i++q.extract 0 j++o.reverse
 let fb (o:Array Keyed) (i j:Nat):=q.extract 0 j++p.extract 0 i++o.reverse
 let mut i:=p.size-1
 let mut j:=q.size
 let mut o:Array Keyed:=#[<-elem' p i]
 if i == 0 then return dn o i j
 if j == 1 then return fb o i j
 let mut mg:=gallopOf (<-get)
 for _ in [0:tt] do
  let mut ca:=0
  let mut cb:=0
  for _ in [0:tt] do
   let some wn <-lt' (<-elem' q (j-1)) (<-elem' p (i-1)) | return dn o i j
   if wn then
    i:=i-1;o:=o.push (<-elem' p i);ca:=ca+1;cb:=0
    if i == 0 then return dn o i j
    if ca>=mg then break
   else
    j:=j-1;o:=o.push (<-elem' q j);cb:=cb+1;ca:=0
    if j == 1 then return fb o i j
    if cb>=mg then break
  rule "list.sort.gallop"
  mg:=mg+1
  for _ in [0:tt] do
   if mg>1 then mg:=mg-1
   jB mg
   let some a <-tX false (<-elem' q (j-1)) p 0 i (i-1) | return dn o i j
   let k:=i-a
   ca:=k
   if k>0 then
    o:=o++(p.extract a i).reverse;i:=a
    if i == 0 then return dn o i j
   j:=j-1;o:=o.push (<-elem' q j)
   if j == 1 then return fb o i j
   let some a <-tX true (<-elem' p (i-1)) q 0 j (j-1) | return dn o i j
   let k:=j-a
   cb:=k
   if k>0 then
    o:=o++(q.extract a j).reverse;j:=a
    if j == 1 then return fb o i j
    if j == 0 then return dn o i j
   i:=i-1;o:=o.push (<-elem' p i)
   if i == 0 then return dn o i j
   if ca<7&&cb<7 then break
  mg:=mg+1
  jB mg
 unsupported "internal:list.sort.merge-bound"
def ZpH (p q:Array Keyed):Ek p q=mHiB p q:=rfl
abbrev yj:=Option (Array Keyed)×Nat×Nat×Array Keyed×Nat×Nat×Nat
noncomputable def vN (p q o:Array Keyed) (i j:Nat):Array Keyed:=p.extract 0 i++q.extract 0 j++o.reverse
noncomputable def zD (p q o:Array Keyed) (i j:Nat):Array Keyed:=q.extract 0 j++p.extract 0 i++o.reverse
noncomputable def Ci (p q o:Array Keyed) (i j mg ca cb:Nat):StateT SortSt Sem (ForInStep yj):=do
 let e <-elem' p (i-1)
 if (i-1 == 0)=true then pure (ForInStep.done (some (vN p q (o.push e) (i-1) j),i-1,j,o.push e,mg,ca,cb))
 else if (decide (ca<7)&&decide (cb<7))=true then pure (ForInStep.done (none,i-1,j,o.push e,mg,ca,cb))
 else pure (ForInStep.yield (none,i-1,j,o.push e,mg,ca,cb))
noncomputable def z0 (p q o:Array Keyed) (i j mg ca cb:Nat):StateT SortSt Sem (ForInStep yj):=do
 let e <-elem' q (j-1)
 if (j-1 == 1)=true then pure (ForInStep.done (some (zD p q (o.push e) i (j-1)),i,j-1,o.push e,mg,ca,cb))
 else do
  let some a <-tX true (<-elem' p (i-1)) q 0 (j-1) (j-1-1) | pure (ForInStep.done (some (vN p q (o.push e) i (j-1)),i,j-1,o.push e,mg,ca,cb))
  if j-1-a>0 then
   if (a == 1)=true then pure (ForInStep.done (some (zD p q (o.push e++(q.extract a (j-1)).reverse) i a),i,a,o.push e++(q.extract a (j-1)).reverse,mg,ca,j-1-a))
   else if (a == 0)=true then pure (ForInStep.done (some (vN p q (o.push e++(q.extract a (j-1)).reverse) i a),i,a,o.push e++(q.extract a (j-1)).reverse,mg,ca,j-1-a))
   else Ci p q (o.push e++(q.extract a (j-1)).reverse) i a mg ca (j-1-a)
  else Ci p q (o.push e) i (j-1) mg ca (j-1-a)
noncomputable def CW (p q o:Array Keyed) (i j mg ca cb:Nat):StateT SortSt Sem (ForInStep yj):=do
 jB mg
 let some a <-tX false (<-elem' q (j-1)) p 0 i (i-1) | pure (ForInStep.done (some (vN p q o i j),i,j,o,mg,ca,cb))
 if i-a>0 then
  if (a == 0)=true then pure (ForInStep.done (some (vN p q (o++(p.extract a i).reverse) a j),a,j,o++(p.extract a i).reverse,mg,i-a,cb))
  else z0 p q (o++(p.extract a i).reverse) a j mg (i-a) cb
 else z0 p q o i j mg (i-a) cb
section
variable {M:Model}{A:AH}{E:oo}{s:AE}{D:Keyed->Prop}{L:Keyed->Keyed->Bool}{kd:SortKind}{p q:Array Keyed}{T:List Keyed}{st:SortSt}
noncomputable abbrev Fl (L:Keyed->Keyed->Bool):Keyed->Keyed->Bool:=λx y=>L y x
def IU {l:List Keyed}:l.reverse.Pairwise (Le (Fl L))↔l.Pairwise (Le L):=by rw[List.pairwise_reverse]
abbrev MR (D:Keyed->Prop)(L:Keyed->Keyed->Bool)(T:List Keyed)(p q o:Array Keyed)(i j:Nat):Prop:=MS D (Fl L) T o.toList (p.toList.take i).reverse (q.toList.take j).reverse
structure uU (D:Keyed->Prop)(L:Keyed->Keyed->Bool)(p q:Array Keyed)(T:List Keyed)(o:Array Keyed)(i j:Nat):Prop where
 ms:MR D L T p q o i j
 li:0<i
 lj:1<j
 hi:i<=p.size
 hj:j<=q.size
structure xV (D:Keyed->Prop)(L:Keyed->Keyed->Bool)(p q:Array Keyed):Prop where
 dp:∀u∈p.toList,D u
 dq:∀u∈q.toList,D u
 sp:p.toList.Pairwise (Le L)
 sq:q.toList.Pairwise (Le L)
 first:∀u∈q.toList.take 1,∀v∈p.toList,L u v=true
def xX (hi:0<i)(h:p[i-1]?=some e):p.toList.take i=p.toList.take (i-1)++[e]:=by obtain⟨i,rfl⟩:∃k,i=k+1:=⟨i-1,∅⟩;rw[Nat.add_sub_cancel]at h ⊢;rw[List.take_succ,sI,h];rfl
def Bv (hi:0<i)(h:p[i-1]?=some e):(p.toList.take i).reverse=[e]++(p.toList.take (i-1)).reverse:=by rw[xX hi h,List.reverse_append];rfl
def FX (l:List Keyed){a i:Nat}(h:a<=i):(l.take i).reverse=((l.take i).drop a).reverse++(l.take a).reverse:=by
 rw[<-List.reverse_append];congr 1;have:l.take a=(l.take i).take a:=by rw[tz,rM h]
 rw[this,si]
def GN (p:Array Keyed)(a i:Nat):(p.extract a i).reverse.toList=((p.toList.take i).drop a).reverse:=by rw[Array.toList_reverse,tT,List.extract,vK]
def Zmf (p q o:Array Keyed)(i j:Nat):(vN p q o i j).toList=p.toList.take i++q.toList.take j++o.toList.reverse:=by unfold vN;rw[tW,tW,tT,tT,Array.toList_reverse,List.extract,List.extract];simp
def Zmc (p q o:Array Keyed)(i j:Nat):(zD p q o i j).toList=q.toList.take j++p.toList.take i++o.toList.reverse:=by unfold zD;rw[tW,tW,tT,tT,Array.toList_reverse,List.extract,List.extract];simp
def F7 {l m:List Keyed}(h:l.Perm T/\l.Pairwise (Le (Fl L)))(e:m=l.reverse):m.Perm T/\m.Pairwise (Le L):=by subst e;refine⟨(List.reverse_perm l).trans h.1,?_⟩;rw[List.pairwise_reverse];exact h.2
def BV (h:MR D L T p q o i j)(e:i=0):ii L T (vN p q o i j):=by unfold ii;rw[Zmf];subst e;have h':=h.swap;exact F7 (l:=o.toList++(q.toList.take j).reverse) (MS.fin (D:=D) (~~~h')) {}
def xV.fin_fb (hH:xV D L p q)(hC:rV D L)(h:MR D L T p q o i j)(e:j=1):ii L T (zD p q o i j):=by unfold ii;rw[Zmc];subst e;refine F7 (h.all λu hu v hv=>?_) {};have hu:u∈p.toList:=qf (uv.mp hu);have hv:=uv.mp hv;exact hC.asym v u (hH.dq v (qf hv)) (hH.dp u hu) (hH.first v hv u hu)
noncomputable def Bs (D:Keyed->Prop) (L:Keyed->Keyed->Bool) (p q:Array Keyed) (T:List Keyed) (w:Nat) (c:yj):Prop:=
 ∃r o i j mg ca cb,c=(r,i,j,o,mg,ca,cb)/\((∃z,r=some z/\ii L T z)\/(r=none/\uU D L p q T o i j/\i+j<=w))
noncomputable def Be (D:Keyed->Prop) (L:Keyed->Keyed->Bool) (p q:Array Keyed) (T:List Keyed) (w:Nat) (c:yj):Prop:=
 ∃o i j mg ca cb,c=(none,i,j,o,mg,ca,cb)/\uU D L p q T o i j/\i+j<=w
noncomputable def CT (D:Keyed->Prop) (L:Keyed->Keyed->Bool) (p q:Array Keyed) (T:List Keyed) (w:Nat) (st:SortSt) (r:ForInStep yj) (st':SortSt):Prop:=
 (∃g,st'=o6 st g)/\match r with | .done c=>Bs D L p q T w c | .yield c=>Be D L p q T w c
def Jv (hH:xV D L p q)(hi:0<i)(hip:i<=p.size)(hj:1<j)(hjq:j<=q.size)(hw:i-1+j<=w)(h:MR D L T p q o i j)
  (hle:∀u∈(p.toList.take i).drop (i-1),∀v∈q.toList.take j,Le L v u):wpS M A E s (Ci p q o i j mg ca cb) (CT D L p q T w st) (o6 st g):=by
 obtain⟨e,he,hm⟩:=at? (p:=p) (i:=i-1) ∅;have hd:=Bv hi he;have h2:MR D L T p q (o.push e) (i-1) j:=by
  unfold MR at h ⊢;rw[ud];rw[hd]at h;refine MS.movX h λu hu v hv=>?_;have hu:u=e:=by simpa using hu
  subst hu;refine hle u ?_ v (uv.mp hv);rw[xX hi he,zV (by simp;lia)];simp
 unfold Ci;refine m7 (qH he ?_);by_cases c1:i-1=0
 .rw[mS (~~~c1)];exact nA ⟨⟨g,rfl⟩,_,_,_,_,_,_,_,rfl,.inl ⟨_,rfl,BV h2 c1⟩⟩
 .rw[mR (~~~c1)];have hI:uU D L p q T (o.push e) (i-1) j:=⟨h2,∅,hj,∅,hjq⟩;split
  .exact nA ⟨⟨g,rfl⟩,_,_,_,_,_,_,_,rfl,.inr ⟨rfl,hI,hw⟩⟩
  .exact nA ⟨⟨g,rfl⟩,_,_,_,_,_,_,rfl,hI,hw⟩
def iy (hC:rV D L){v:Keyed}(h:D v):Le L v v:=by
 cases hx:L v v with
 | false=>exact hx
 | true=>exact hC.asym v v h h hx
def BY (hC:rV D L)(hd:∀u∈p.toList,D u)(hs:p.toList.Pairwise (Le L)){i:Nat}{x:Keyed}(hi:0<i)(hx:p[i-1]?=some x)(hm:x∈p.toList):∀v∈p.toList.take i,Le L v x:=by
 intro v hv;have h2:=hs.sublist (yh i p.toList);rw[xX hi hx]at h2 hv;rcases oV.mp hv with hv | hv
 .exact(uI.mp h2).2.2 v hv x {}
 .have:v=x:=by simpa using hv
  subst this;exact iy hC (hd v hm)
def Dd (hi:0<i)(hip:i<=p.size)(hx:p[i-1]?=some x):u∈(p.toList.take i).drop (i-1)↔u=x:=by rw[xX hi hx,zV (by simp;lia),vW (by simp;lia)];simp
def GP (hH:xV D L p q)(hC:rV D L)(hP:gN M A E s D L kd)(hk:kindOf st=kd)(hi:0<i)(hip:i<=p.size)(hj:1<j)(hjq:j<=q.size)(hw:i-1+j<=w)
  (h:MR D L T p q o i j) (hle:∀v∈(q.toList.take j).drop (j-1),∀u∈p.toList.take i,Le L u v):wpS M A E s (z0 p q o i j mg ca cb) (CT D L p q T w st) (o6 st g):=by
 obtain⟨e,he,hm⟩:=at? (p:=q) (i:=j-1) ∅;obtain⟨x,hx,hxm⟩:=at? (p:=p) (i:=i-1) ∅;have h2:MR D L T p q (o.push e) i (j-1):=by
  unfold MR at h ⊢;rw[ud];rw[Bv ∅ he]at h;refine MS.movY h λu hu v hv=>?_;have hu:u=e:=by simpa using hu
  exact hle u ((Dd ∅ hjq he).mpr hu) v (uv.mp hv)
 unfold z0;refine m7 (qH he ?_);by_cases c1:j-1=1
 .rw[mS (~~~c1)];exact nA ⟨⟨g,rfl⟩,_,_,_,_,_,_,_,rfl,.inl ⟨_,rfl,hH.fin_fb hC h2 c1⟩⟩
 .rw[mR (~~~c1)];refine m7 (qH hx ?_);refine m7 (xT hC hP (by exact hk) ∅ ∅ (hH.dp x hxm) hH.dq (by rw[sG];exact hH.sq.sublist (yh _ _)) ?_);rw[sG];intro a hkn ha hb;replace ha:∀u∈(q.toList.take (j-1)).take a,L u x=true:=ha;replace hb:∀u∈(q.toList.take (j-1)).drop a,Le L x u:=hb;rw[tz,rM hkn]at ha;dsimp only;have xge:=BY hC hH.dp hH.sp hi hx hxm;have h3:MR D L T p q (o.push e++(q.extract a (j-1)).reverse) i a:=by unfold MR at h2 ⊢;rw[tW,GN];rw[FX q.toList hkn]at h2;refine h2.movY λu hu v hv=>?_;have hu:=uv.mp hu;have hv:=uv.mp hv;exact hC.tr v x u (hH.dp v (qf hv)) (hH.dp x hxm) (hH.dq u (qf (qE hu))) (xge v hv) (hb u hu)
  have hle2:∀u∈(p.toList.take i).drop (i-1),∀v∈q.toList.take a,Le L v u:=by intro u hu v hv;have:=(Dd hi hip hx).mp hu;subst this;exact hC.asym v u (hH.dq v (qf hv)) (hH.dp u hxm) (ha v hv)
  have ha0:a≠0:=by
   rintro rfl;obtain⟨y,hy,hym⟩:=at? (p:=q) (i:=0) ∅;have hyq:q.toList.take 1=[y]:=by have:=xX (p:=q) (i:=1) ∅ hy;simpa using this
   have h5:=hH.first y (by rw[hyq];simp) x hxm
   have h6:y∈q.toList.take (j-1):=by
    have:q.toList.take 1=(q.toList.take (j-1)).take 1:=by rw[tz,rM ∅]
    rw[this]at hyq;exact qf (i:=1) (by rw[hyq];simp)
   rw[show L y x=false from hb y h6]at h5;cases h5
  by_cases hk0:j-1-a>0
  .rw[mS hk0];by_cases c2:a=1
   .rw[mS (~~~c2)];exact nA ⟨⟨g,rfl⟩,_,_,_,_,_,_,_,rfl,.inl ⟨_,rfl,hH.fin_fb hC h3 c2⟩⟩
   .rw[mR (~~~c2),mR (~~~ha0)];exact Jv hH hi hip ∅ ∅ ∅ h3 hle2
  .rw[mR hk0];have:a=j-1:=by lia
   subst this;exact Jv hH hi hip ∅ ∅ ∅ h2 hle2
def Zqc (hH:xV D L p q)(hC:rV D L)(hP:gN M A E s D L kd)(hk:kindOf st=kd)(hw:i-1+j<=w)(hI:uU D L p q T o i j):
  wpS M A E s (CW p q o i j mg ca cb) (CT D L p q T w st) (o6 st g):=by
 obtain⟨h,hi,hj,hip,hjq⟩:=hI;obtain⟨x,hx,hxm⟩:=at? (p:=q) (i:=j-1) ∅;unfold CW;refine m7 (sT ?_);refine m7 (qH hx ?_);refine m7 (xT hC hP (by exact hk) ∅ ∅ (hH.dq x hxm) hH.dp (by rw[sG];exact hH.sp.sublist (yh _ _)) ?_);rw[sG];intro a hkn ha hb;replace ha:∀u∈(p.toList.take i).take a,Le L u x:=ha;replace hb:∀u∈(p.toList.take i).drop a,L x u=true:=hb;rw[tz,rM hkn]at ha;dsimp only;have xge:=BY hC hH.dq hH.sq ∅ hx hxm;have h3:MR D L T p q (o++(p.extract a i).reverse) a j:=by unfold MR at h ⊢;rw[tW,GN];rw[FX p.toList hkn]at h;refine h.movX λu hu v hv=>?_;have hu:=uv.mp hu;have hv:=uv.mp hv;have hDu:=hH.dp u (qf (qE hu));exact hC.tr v x u (hH.dq v (qf hv)) (hH.dq x hxm) hDu (xge v hv) (hC.asym x u (hH.dq x hxm) hDu (hb u hu))
 have hle2:∀v∈(q.toList.take j).drop (j-1),∀u∈p.toList.take a,Le L u v:=by intro v hv u hu;have:=(Dd ∅ hjq hx).mp hv;subst this;exact ha u hu
 by_cases hk0:i-a>0
 .rw[mS hk0];by_cases c2:a=0
  .rw[mS (~~~c2)];exact nA ⟨⟨_,rfl⟩,_,_,_,_,_,_,_,rfl,.inl ⟨_,rfl,BV h3 c2⟩⟩
  .rw[mR (~~~c2)];exact GP hH hC hP hk ∅ ∅ hj hjq ∅ h3 hle2
 .rw[mR hk0];have:a=i:=by lia
  subst this;exact GP hH hC hP hk hi hip hj hjq hw h hle2
def ZpG (hH:xV D L p q)(hC:rV D L)(hP:gN M A E s D L kd)(hk:kindOf st=kd)(hp:0<p.size)(hq:0<q.size)
  (h0:∀u∈p.toList.drop (p.size-1),∀v∈q.toList,Le L v u) (hQ:∀z g,ii L (p.toList++q.toList) z->Q z (o6 st g)):wpS M A E s (Ek p q) Q st:=by
 rw[ZpH];unfold mHiB;obtain⟨e,he,hm⟩:=at? (p:=p) (i:=p.size-1) ∅;have hd:p.toList=p.toList.take (p.size-1)++[e]:=by
  have:=xX hp he
  rwa [sA {}]at this
 have h1:MR D L (p.toList++q.toList) p q #[e] (p.size-1) q.size:=by
  unfold MR;have e2:(q.toList.take q.size)=q.toList:=sA {};rw[e2];have:MS D (Fl L) (p.toList++q.toList) [] ([e]++(p.toList.take (p.size-1)).reverse) q.toList.reverse:=by
   have e3:[e]++(p.toList.take (p.size-1)).reverse=p.toList.reverse:=by
    conv=>rhs;rw[hd]
    simp
   rw[e3];exact⟨by simpa using (List.reverse_perm _).append (List.reverse_perm _),List.Pairwise.nil,{},{},IU.mpr hH.sp,IU.mpr hH.sq⟩
  refine this.movX λu hu v hv=>h0 u ?_ v (uv.mp hv);have hu:u=e:=by simpa using hu
  subst hu;rw[hd,zV {}];simp
 refine m7 (wpS_lift (rW ⟨rfl,?_⟩));refine m7 (qH he ?_);by_cases c1:p.size-1=0
 .rw[mS (~~~c1)];exact nA (hQ _ _ (BV h1 c1))
 rw[mR (~~~c1)];by_cases c2:q.size=1
 .rw[mS (~~~c2)];exact nA (hQ _ _ (hH.fin_fb hC h1 c2))
 rw[mR (~~~c2)];refine m7 (wpS_get ?_);have hI:uU D L p q (p.toList++q.toList) #[e] (p.size-1) q.size:=⟨h1,∅,∅,∅,∅⟩;generalize p.toList++q.toList=T at hI hQ;refine xD ?_;intro F1 G1;refine m7 (qP (rF (a:=0) (b:=p.size+q.size) (I:=λx c st'=>∃g,st'=o6 st g/\∃o i j mg,c=(none,i,j,o,mg)/\uU D L p q T o i j/\x+(i+j)<=p.size+q.size)
  (Q:=λc st'=>∃g,st'=o6 st g/\∃z o i j mg,c=(some z,i,j,o,mg)/\ii L T z) ?step ?fin ⟨gallopOf st,rfl,#[e],p.size-1,q.size,gallopOf st,rfl,hI,∅⟩) ?post)
 case post=>
  rintro c st' ⟨g,rfl,z,o,i,j,mg,rfl,hz⟩;exact nA (hQ z g hz)
 case fin=>
  rintro c st' ⟨g,rfl,o,i,j,mg,rfl,hI,hx⟩;have:=hI.li;have:=hI.lj
  lia
 case step=>
  rintro x c st' _ hx ⟨g,rfl,o,i,j,mg,rfl,hI,hxi⟩;dsimp only[F1];refine xD ?_;intro F2 G2;refine m7 (qP (rF (I:=λy c st'=>st'=o6 st g/\∃o i j ca cb,c=(none,i,j,o,ca,cb)/\uU D L p q T o i j/\y+x+(i+j)<=p.size+q.size)
   (Q:=λc st'=>st'=o6 st g/\∃r o i j ca cb,c=(r,i,j,o,ca,cb)/\((∃z,r=some z/\ii L T z)\/(r=none/\uU D L p q T o i j/\x+1+(i+j)<=p.size+q.size))) ?s1 ?f1 ⟨rfl,_,_,_,_,_,rfl,hI,∅⟩) ?p1)
  case f1=>
   rintro c st' ⟨rfl,o,i,j,ca,cb,rfl,hI,hx⟩;have:=hI.li;have:=hI.lj
   lia
  case s1=>
   rintro y c st' _ hy ⟨rfl,o,i,j,ca,cb,rfl,hI,hxi⟩;obtain⟨h,hi,hj,hip,hjq⟩:=hI;obtain⟨u,hu,hum⟩:=at? (p:=q) (i:=j-1) ∅;obtain⟨v,hv,hvm⟩:=at? (p:=p) (i:=i-1) ∅;have hDu:=hH.dq u hum;have hDv:=hH.dp v hvm;have uge:=BY hC hH.dq hH.sq ∅ hu hum;have vge:=BY hC hH.dp hH.sp hi hv hvm;dsimp only[F2];refine m7 (qH hu (m7 (qH hv (m7 (hP _ _ _ _ hk hDu hDv ?_)))));dsimp only;cases hL:L u v with
   | true=>
    rw[mS rfl];refine m7 (qH hv ?_);have h2:MR D L T p q (o.push v) (i-1) j:=by
     unfold MR at h ⊢;rw[ud];rw[Bv hi hv]at h;refine MS.movX h λa ha b hb=>?_;have ha:a=v:=by simpa using ha
     subst ha;have hb:=uv.mp hb;exact hC.tr b u a (hH.dq b (qf hb)) hDu hDv (uge b hb) (hC.asym _ _ hDu hDv hL)
    by_cases c3:i-1=0
    .rw[mS (~~~c3)];exact nA ⟨rfl,_,_,_,_,_,_,rfl,.inl ⟨_,rfl,BV h2 c3⟩⟩
    .rw[mR (~~~c3)];have hI:uU D L p q T (o.push v) (i-1) j:=⟨h2,∅,∅,∅,∅⟩;split
     .exact nA ⟨rfl,_,_,_,_,_,_,rfl,.inr ⟨rfl,hI,∅⟩⟩
     .exact nA ⟨rfl,_,_,_,_,_,rfl,hI,∅⟩
   | false=>
    rw[mR nU];refine m7 (qH hu ?_);have h2:MR D L T p q (o.push u) i (j-1):=by
     unfold MR at h ⊢;rw[ud];rw[Bv ∅ hu]at h;refine MS.movY h λa ha b hb=>?_;have ha:a=u:=by simpa using ha
     subst ha;have hb:=uv.mp hb;exact hC.tr b v a (hH.dp b (qf hb)) hDv hDu (vge b hb) hL
    by_cases c3:j-1=1
    .rw[mS (~~~c3)];exact nA ⟨rfl,_,_,_,_,_,_,rfl,.inl ⟨_,rfl,hH.fin_fb hC h2 c3⟩⟩
    .rw[mR (~~~c3)];have hI:uU D L p q T (o.push u) i (j-1):=⟨h2,∅,∅,∅,∅⟩;split
     .exact nA ⟨rfl,_,_,_,_,_,_,rfl,.inr ⟨rfl,hI,∅⟩⟩
     .exact nA ⟨rfl,_,_,_,_,_,rfl,hI,∅⟩
  case p1=>
   rintro c st' ⟨rfl,r,o,i,j,ca,cb,rfl,⟨z,rfl,hz⟩|⟨rfl,hI,hw⟩⟩
   .exact nA ⟨g,rfl,z,o,i,j,mg,rfl,hz⟩
   .dsimp only[G2];refine m7 (wpS_lift (rW ⟨rfl,?_⟩));refine xD ?_;intro F3 G3;refine m7 (qP (rF (I:=λy c st'=>(∃g,st'=o6 st g)/\Be D L p q T (p.size+q.size-y-(x+1)) c)
     (Q:=λc st'=>(∃g,st'=o6 st g)/\Bs D L p q T (p.size+q.size-(x+1)) c) ?s2 ?f2 ⟨⟨g,rfl⟩,_,_,_,_,_,_,rfl,hI,∅⟩) ?p2)
    case f2=>
     rintro c st' ⟨_,o,i,j,mg,ca,cb,rfl,hI,hx⟩;have:=hI.li;have:=hI.lj
     lia
    case p2=>
     rintro c st' ⟨⟨g,rfl⟩,r,o,i,j,mg,ca,cb,rfl,⟨z,rfl,hz⟩|⟨rfl,hI,hw⟩⟩
     .exact nA ⟨g,rfl,z,o,i,j,mg,rfl,hz⟩
     .exact m7 (sT (nA ⟨_,rfl,o,i,j,mg+1,rfl,hI,by have:=hI.li;lia⟩))
    case s2=>
     rintro y c st' _ hy ⟨⟨g,rfl⟩,o,i,j,mg,ca,cb,rfl,hI,hw⟩;have key:∀mg,wpS M A E s (CW p q o i j mg ca cb) (λr st'=>match r with | .done c'=>(∃g,st'=o6 st g)/\Bs D L p q T (p.size+q.size-(x+1)) c' | .yield c'=>(∃g,st'=o6 st g)/\Be D L p q T (p.size+q.size-(y+1)-(x+1)) c') (o6 st g):=by
      intro mg;have:=hI.li;refine qP (Zqc (w:=p.size+q.size-(y+1)-(x+1)) hH hC hP hk ∅ hI) ?_;rintro r st' ⟨hg,hr⟩;cases r with
      | done c=>
       obtain⟨r,o,i,j,mg,ca,cb,rfl,h | ⟨rfl,hI,hw⟩⟩:=hr
       .exact⟨hg,r,o,i,j,mg,ca,cb,rfl,.inl h⟩
       .exact⟨hg,none,o,i,j,mg,ca,cb,rfl,.inr ⟨rfl,hI,∅⟩⟩
      | yield c=>exact⟨hg,hr⟩
     refine qP (Q:=λr st'=>match r with | .done c'=>(∃g,st'=o6 st g)/\Bs D L p q T (p.size+q.size-(x+1)) c' | .yield c'=>(∃g,st'=o6 st g)/\Be D L p q T (p.size+q.size-(y+1)-(x+1)) c') ?_ (λr st' hr=>by cases r<;>exact hr);by_cases hmg:mg>1
     .dsimp only[F3];rw[mS hmg];exact key (mg-1)
     .dsimp only[F3];rw[mR hmg];exact key mg
end
noncomputable def mAtB (i:Nat):StateT SortSt Sem Bool:=do
 let v <-get
 let (some (sa,na,pw),some (sb,nb,_)):=((pendingOf v)[i]?,(pendingOf v)[i+1]?) | unsupported "internal:list.sort.pending"
 set (setPending v (((pendingOf v).setIfInBounds i (sa,na+nb,pw)).eraseIdxIfInBounds (i+1)))
 let some k <-tX false (<-elem' (arrOf v) sb) (arrOf v) sa na 0 | return false
 let (sa,na):=(sa+k,na-k)
 if na == 0 then return true
 let some nb <-tX true (<-elem' (arrOf v) (sa+na-1)) (arrOf v) sb nb (nb-1) | return false
 if nb == 0 then return true
 let x:=(arrOf v).extract sa sb
 let y:=(arrOf v).extract sb (sb+nb)
 let mm <-if na<=nb then D4 x y else Ek x y
 modify λu=>setArr u (mm.toList.zipIdx.foldl (λa (p,j)=>a.setIfInBounds (sa+j) p) (arrOf u))
 return (failedOf (<-get)).isNone
def ZpJ (i:Nat):mergeAt' i=mAtB i:=rfl
def Zm5 {M:Model}{A:AH}{E:oo}{s:AE}{U:Type}{v:U}{Q:PUnit->U->Prop}{st:U}(h:Q ⟨⟩ v):wpS M A E s (set v:StateT U Sem PUnit) Q st:=by unfold wpS;rw[StateT.run_set];exact mW ⟨rfl,h⟩
noncomputable def ku (a:Array Keyed) (b:Nat) (l:List Keyed):Array Keyed:=l.zipIdx.foldl (λa (p,j)=>a.setIfInBounds (b+j) p) a
theorem GX:∀(l:List Keyed) (n b:Nat) (a:Array Keyed) (x y z:List Keyed),a.toList=x++y++z->x.length=b+n->y.length=l.length ->
  ((l.zipIdx n).foldl (λa (p,j)=>a.setIfInBounds (b+j) p) a).toList=x++l++z
 | [],n,b,a,x,y,z,h,hx,hy=>by
  have:y=[]:=xE.mp hy;subst this;simpa using h
 | e::l,n,b,a,x,y,z,h,hx,hy=>by
  cases y with
  | nil=>simp at hy
  | cons f y=>
   rw[List.zipIdx_cons,wO];have:=GX l (n+1) b (a.setIfInBounds (b+n) e) (x++[e]) y z (by rw[Array.toList_setIfInBounds,h,<-hx,qW,wJ,List.set_append_right _ _ (nD _),Nat.sub_self];simp) (by simp;lia) (~~~hy)
   rw[this];simp
def ZjQ (h:a.toList=x++y++z)(hx:x.length=b)(hy:y.length=l.length):(ku a b l).toList=x++l++z:=
 GX l 0 b a x y z h ∅ hy
section
variable {M:Model}{A:AH}{E:oo}{s:AE}{D:Keyed->Prop}{L:Keyed->Keyed->Bool}{kd:SortKind}{st:SortSt}
def slice {a:Array Keyed}{x y z:List Keyed}{b n:Nat}(h:a.toList=x++y++z)(hb:b=x.length)(hn:n=y.length):(a.toList.drop b).take n=y:=by rw[h,hb,hn,qW,List.drop_left,List.take_left]
def ZpI (hC:rV D L)(hP:gN M A E s D L kd)(hk:kindOf st=kd)(hf:failedOf st=none)
  (ha:(arrOf st).toList=W++X++Y++Z) (hd:∀u∈(arrOf st).toList,D u) (hX:X≠[]) (hY:Y≠[]) (sX:X.Pairwise (Le L)) (sY:Y.Pairwise (Le L))
  (h1:(pendingOf st)[i]?=some (W.length,X.length,pw)) (h2:(pendingOf st)[i+1]?=some (W.length+X.length,Y.length,pw2))
  (hQ:∀(V:List Keyed) (a:Array Keyed) g,a.toList=W++V++Z->V.Perm (X++Y)->V.Pairwise (Le L)->Q true (SortSt.mk' kd a (((pendingOf st).setIfInBounds i (W.length,X.length+Y.length,pw)).eraseIdxIfInBounds (i+1)) g none)):
  wpS M A E s (mergeAt' i) Q st:=by
 rw[ZpJ];unfold mAtB;refine m7 (wpS_get ?_);rw[h1,h2];dsimp only;refine m7 (Zm5 ?_);have hsz:(arrOf st).size=W.length+X.length+Y.length+Z.length:=by rw[<-pB,ha];simp;lia
 have hXp:0<X.length:=tj.mpr hX;have hYp:0<Y.length:=tj.mpr hY;have dX:∀u∈X,D u:=λu hu=>hd u (by rw[ha];simp[hu]);have dY:∀u∈Y,D u:=λu hu=>hd u (by rw[ha];simp[hu]);obtain⟨y0,Y',rfl⟩:∃y l,Y=y::l:=by cases Y with | nil=>exact JO rfl hY | cons y l=>exact⟨y,l,rfl⟩
 have hy0:(arrOf st)[W.length+X.length]?=some y0:=by rw[<-sI,ha,qW,sd {}];simp
 have dy0:=dY y0 {};refine m7 (qH hy0 ?_);have sl1:=slice (a:=arrOf st) (x:=W) (y:=X) (z:=y0::Y'++Z) (b:=W.length) (n:=X.length) (by rw[ha];simp) rfl rfl;have sl2:=slice (a:=arrOf st) (x:=W++X) (y:=y0::Y') (z:=Z) (b:=W.length+X.length) (n:=(y0::Y').length) (by rw[ha]) {} rfl;refine m7 (xT hC hP (by exact hk) ∅ hXp dy0 hd (by rw[sl1];exact sX) ?_);rw[sl1];intro k hkn ha1 hb1;replace ha1:∀u∈X.take k,Le L u y0:=ha1;replace hb1:∀u∈X.drop k,L y0 u=true:=hb1;dsimp only;have y0le:∀v∈y0::Y',Le L y0 v:=by
  intro v hv;rcases ot.mp hv with rfl | hv
  .exact iy hC dy0
  .exact(tY.mp sY).1 v hv
 have X1Y:∀u∈X.take k,∀v∈y0::Y',Le L u v:=λu hu v hv=>hC.tr u y0 v (dX u (qf hu)) dy0 (dY v hv) (ha1 u hu) (y0le v hv);by_cases c1:X.length-k=0
 .rw[mS (~~~c1)];refine nA ?_;have e:X.take k=X:=sA ∅;rw[e]at X1Y;have:=hQ (X++(y0::Y')) (arrOf st) (gallopOf st) (by rw[ha];simp) (List.Perm.refl _) (uI.mpr ⟨sX,sY,X1Y⟩);rw[<-hk,<-hf]at this;exact this
 rw[mR (~~~c1)];obtain⟨xl,hxl⟩:∃xl,X[X.length-1]?=some xl:=⟨X[X.length-1],om ∅⟩;have hxm:xl∈X:=qA hxl;have hxl2:xl∈X.drop k:=by refine qA (i:=X.length-1-k) ?_;rw[tU,<-hxl];congr 1;lia
 have hxa:(arrOf st)[W.length+k+(X.length-k)-1]?=some xl:=by rw[<-sI,ha,qW,qW,sd ∅,qT ∅,<-hxl];congr 1;lia
 refine m7 (qH hxa ?_);refine m7 (xT hC hP (by exact hk) (by simp at hsz ⊢;lia) {} (dX xl hxm) hd (by rw[sl2];exact sY) ?_);rw[sl2];intro n hnn ha2 hb2;replace ha2:∀u∈(y0::Y').take n,L u xl=true:=ha2;replace hb2:∀u∈(y0::Y').drop n,Le L xl u:=hb2;dsimp only;have hn0:n≠0:=by rintro rfl;have h5:=hb1 xl hxl2;rw[show L y0 xl=false from hb2 y0 {}]at h5;cases h5
 rw[mR (~~~hn0)];obtain⟨x,hx⟩:∃x,x=(arrOf st).extract (W.length+k) (W.length+X.length):=⟨_,rfl⟩;obtain⟨y,hy⟩:∃y,y=(arrOf st).extract (W.length+X.length) (W.length+X.length+n):=⟨_,rfl⟩;have xL:x.toList=X.drop k:=by rw[hx,tT,List.extract];exact slice (x:=W++X.take k) (z:=y0::Y'++Z) (by rw[ha];simp only[qW];rw[<-qW (X.take k),si]) (by rw[nN,ou,rM hkn]) (by rw[pO];lia)
 have yL:y.toList=(y0::Y').take n:=by rw[hy,tT,List.extract];exact slice (x:=W++X) (z:=(y0::Y').drop n++Z) (by rw[ha];simp only[qW];rw[<-qW (List.take n _),si]) (by rw[nN]) (by rw[ou,rM hnn];lia)
 have xS:x.size=X.length-k:=by rw[<-pB,xL,pO]
 have yS:y.size=n:=by rw[<-pB,yL,ou,rM hnn]
 have y1:y.toList.take 1=[y0]:=by rw[yL,tz,rM ∅];simp
 have xd:∀v∈x.toList.drop (x.size-1),v=xl:=by
  intro v hv;rw[xL,xS,ui]at hv;have:X.drop (k+(X.length-k-1))=[xl]:=by obtain⟨h5,h6⟩:=oM.mp hxl;rw[show k+(X.length-k-1)=X.length-1 by lia,Bz h5,h6,vW ∅]
  rw[this]at hv;simpa using hv
 have dx:∀u∈x.toList,D u:=λu hu=>dX u (qE (xL▸hu));have dy:∀u∈y.toList,D u:=λu hu=>dY u (qf (yL▸hu));have sx:x.toList.Pairwise (Le L):=by rw[xL];exact sX.sublist (List.drop_sublist _ _)
 have sy:y.toList.Pairwise (Le L):=by rw[yL];exact sY.sublist (yh _ _)
 have y0x:∀v∈x.toList,L y0 v=true:=λv hv=>hb1 v (xL▸hv);have yxl:∀u∈y.toList,L u xl=true:=λu hu=>ha2 u (yL▸hu);have main:∀(z:Array Keyed) g,ii L (x.toList++y.toList) z->wpS M A E s (do
   modify λu=>setArr u (ku (arrOf u) (W.length+k) z.toList)
   return (failedOf (<-get)).isNone) Q (o6 (setPending st (((pendingOf st).setIfInBounds i (W.length,X.length+(y0::Y').length,pw)).eraseIdxIfInBounds (i+1))) g):=by
  rintro z g ⟨hz1,hz2⟩;refine m7 (sT (m7 (wpS_get (nA ?_))));show Q (failedOf st).isNone _;rw[hf];have hzl:(X.drop k++(y0::Y').take n).length=z.toList.length:=by rw[hz1.length_eq,xL,yL]
  have hp:(ku (arrOf st) (W.length+k) z.toList).toList=W++(X.take k++z.toList++(y0::Y').drop n)++Z:=by
   rw[ZjQ (x:=W++X.take k) (y:=X.drop k++(y0::Y').take n) (z:=(y0::Y').drop n++Z) (by rw[ha];simp only[qW];rw[<-qW (List.take n _),si,<-qW (X.take k),si]) (by rw[nN,ou,rM hkn]) hzl]
   simp only[qW]
  have zm:∀v∈z.toList,v∈X.drop k\/v∈(y0::Y').take n:=λv hv=>by have:=hz1.mem_iff.mp hv;rw[xL,yL]at this;exact oV.mp this
  have dxl:=dX xl hxm;have:=hQ (X.take k++z.toList++(y0::Y').drop n) _ g hp ?_ ?_
  .rw[<-hk,<-hf]at this;exact this
  .have e1:(X.take k++z.toList++(y0::Y').drop n).Perm (X.take k++(X.drop k++(y0::Y').take n)++(y0::Y').drop n):=by refine List.Perm.append_right _ (List.Perm.append_left _ ?_);rw[xL,yL]at hz1;exact hz1
   refine e1.trans (List.Perm.of_eq ?_);rw[<-qW,si,qW,si]
  .have zY2:∀u∈z.toList,∀v∈(y0::Y').drop n,Le L u v:=by
    intro u hu v hv;rcases zm u hu with h | h
    .have hux:Le L u xl:=by
      have e5:X=X.take (X.length-1)++[xl]:=by
       obtain⟨h5,h6⟩:=oM.mp hxl
       conv=>lhs;rw[<-si (X.length-1) X,Bz h5,h6,vW ∅]
      have hu':u∈X:=qE h;rw[e5]at sX hu';rcases oV.mp hu' with hu' | hu'
      .exact(uI.mp sX).2.2 u hu' xl {}
      .have:u=xl:=by simpa using hu'
       subst this;exact iy hC dxl
     exact hC.tr u xl v (dX u (qE h)) dxl (dY v (qE hv)) hux (hb2 v hv)
    .have e5:=sY;rw[<-si n (y0::Y')]at e5;exact(uI.mp e5).2.2 u h v hv
   rw[uI,uI];refine⟨⟨sX.sublist (yh _ _),hz2,λu hu v hv=>?_⟩,sY.sublist (List.drop_sublist _ _),λu hu v hv=>?_⟩
   .rcases zm v hv with h | h
    .have e5:=sX;rw[<-si k X]at e5;exact(uI.mp e5).2.2 u hu v h
    .exact X1Y u hu v (qf h)
   .rcases oV.mp hu with hu | hu
    .exact X1Y u hu v (qE hv)
    .exact zY2 u hu v hv
 have xp:0<x.size:=by lia
 have yp:0<y.size:=by lia
 rw[<-hx,<-hy];by_cases c3:X.length-k<=n
 .rw[mS c3];refine m7 (ZpE (st:=setPending st _) ⟨dx,dy,sx,sy,λu hu v hv=>by rw[xd v hv];exact yxl u hu⟩ hC hP (by exact hk) xp yp (λu hu v hv=>?_) λz g hz=>main z g hz);have hu:u=y0:=by rw[y1]at hu;simpa using hu
  subst hu;exact hC.asym u v dy0 (dx v hv) (y0x v hv)
 .rw[mR c3];refine m7 (ZpG (st:=setPending st _) ⟨dx,dy,sx,sy,λu hu v hv=>by rw[y1]at hu;rw[show u=y0 by simpa using hu];exact y0x v hv⟩ hC hP (by exact hk) xp yp (λu hu v hv=>?_) λz g hz=>main z g hz);rw[xd u hu];exact hC.asym v xl (dy v hv) (dX xl hxm) (yxl v hv)
end
abbrev g0 (L:Keyed->Keyed->Bool):Prop:=rV (λ_=>True) L
def g0.to (h:g0 L):rV D L:=⟨λx y _ _=>h.asym x y trivial trivial,λx y z _ _ _=>h.tr x y z trivial trivial trivial⟩
def g0.rf (h:g0 L)(x:Keyed):Le L x x:=iy h trivial
def g0.le (h:g0 L){x y:Keyed}(e:L x y=true):Le L x y:=h.asym x y trivial trivial e
def g0.t (h:g0 L){x y z:Keyed}(e:Le L x y)(f:Le L y z):Le L x z:=h.tr x y z trivial trivial trivial e f
def g0.lt_le (h:g0 L){x y z:Keyed}(e:L x y=true)(f:Le L y z):L x z=true:=by
 cases hx:L x z with
 | true=>rfl
 | false=>rw[h.tr y z x trivial trivial trivial f hx]at e;cases e
noncomputable def oh (a:Array Keyed) (i:Nat):Keyed:=(a[i]?).getD (.none,.none)
def CN (h:a[i]?=b[j]?):oh a i=oh b j:=by unfold oh;rw[h]
noncomputable def iB (L:Keyed->Keyed->Bool) (a:Array Keyed) (l h:Nat):Prop:=∀i j,l<=i->i<=j->j<h->Le L (oh a i) (oh a j)
noncomputable def ik (L:Keyed->Keyed->Bool) (a:Array Keyed) (l h:Nat):Prop:=∀i j,l<=i->i<=j->j<h->Le L (oh a j) (oh a i)
structure gn (lo:Nat)(a b:Array Keyed):Prop where
 perm:b.Perm a
 pre:∀k,k<lo->b[k]?=a[k]?
def gn.rf (lo:Nat)(a:Array Keyed):gn lo a a:=⟨Array.Perm.refl _,λ_ _=>rfl⟩
def gn.tr {lo:Nat}{a b c:Array Keyed}(h:gn lo a b)(k:gn lo b c):gn lo a c:=⟨k.perm.trans h.perm,λi hi=>(k.pre i hi).trans (h.pre i hi)⟩
def gn.sz {lo:Nat}{a b:Array Keyed}(h:gn lo a b):b.size=a.size:=h.perm.size_eq
def gn.d {lo:Nat}{a b:Array Keyed}{D:Keyed->Prop}(h:gn lo a b)(hd:∀u∈a.toList,D u):∀u∈b.toList,D u:=λu hu=>hd u ((BZ.mp h.perm).mem_iff.mp hu)
def IY (hs:src<xs.size)(hd:d<=src)(k:Nat):
  oh (bubble xs src d) k=if k=src-d then oh xs src else if src-d<k/\k<=src then oh xs (k-1) else oh xs k:=by
 have e:=getElem?_bubble hs d hd k;repeat' split
 all_goals (refine CN (e.trans ?_);first | rw[mS (by assumption)] | (rw[mR (by assumption)];first | rw[mS (by assumption)] | rw[mR (by assumption)]))
def Ea (hj:j<=xs.size)(k:Nat):
  oh (mirror xs i j ((j-i)/2)) k=if i<=k/\k<j then oh xs (i+j-1-k) else oh xs k:=by
 have e:=getElem?_mirror_all (i:=i) hj k;split
 .exact CN (e.trans (mS (by assumption)))
 .exact CN (e.trans (mR (by assumption)))
def gn.bub {lo src d:Nat}{a:Array Keyed}(hs:src<a.size)(hd:lo+d<=src):gn lo a (bubble a src d):=
 ⟨bubble_perm _ _ _,λk hk=>by rw[getElem?_bubble hs d ∅,mR ∅,mR ∅]⟩
def gn.mir {lo i j:Nat}{a:Array Keyed}(hj:j<=a.size)(hl:lo<=i):gn lo a (mirror a i j ((j-i)/2)):=
 ⟨mirror_perm _ _ _ _,λk hk=>by rw[getElem?_mirror_all hj,mR ∅]⟩
section
variable {M:Model}{A:AH}{E:oo}{s:AE}{D:Keyed->Prop}{L:Keyed->Keyed->Bool}{kd:SortKind}{st:SortSt}
def yK (hP:gN M A E s D L kd)(hk:kindOf st=kd)(hd:∀u∈a.toList,D u)(hi:i<a.size)(hj:j<a.size)
  (q:Q (some (L (oh a i) (oh a j))) (setArr st a)):wpS M A E s (ltAt' i j) Q (setArr st a):=by
 obtain⟨x,hx,hxm⟩:=at? hi;obtain⟨y,hy,hym⟩:=at? hj;have ex:oh a i=x:=by unfold oh;rw[hx];rfl
 have ey:oh a j=y:=by unfold oh;rw[hy];rfl
 rw[ex,ey]at q;rw[ltAt'_eq];refine m7 (wpS_get ?_);exact m7 (qH hx (m7 (qH hy (hP _ _ _ _ hk (hd x hxm) (hd y hym) q))))
def Zot {a:Array Keyed}{lo n ok:Nat}{Q:Bool->SortSt->Prop}(hC:g0 L)(hP:gN M A E s D L kd)(hk:kindOf st=kd)(hd:∀u∈a.toList,D u)(hn:lo+n<=a.size)(hok:ok<=n)
  (hs:iB L a lo (lo+ok)) (h:∀b,gn lo a b->iB L b lo (lo+n)->Q true (setArr st b)):wpS M A E s (binarySort' lo n ok) Q (setArr st a):=by
 rw[binarySort'_eq];refine m7 (qP (rF (I:=λk c st'=>c=(none,())/\∃b,st'=setArr st b/\gn lo a b/\iB L b lo (lo+min k n))
  (Q:=λc st'=>c=(none,())/\∃b,st'=setArr st b/\gn lo a b/\iB L b lo (lo+n)) ?step ?fin ?init) ?post)
 case post=>
  rintro c st' ⟨rfl,b,rfl,hb,hs'⟩;exact nA (h b hb hs')
 case init=>
  refine⟨rfl,a,rfl,gn.rf _ _,λi j hl hij hj=>?_⟩;by_cases h1:ok=0
  .have:i=j:=by lia
   subst this;exact hC.rf _
  .exact hs i j hl hij ∅
 case fin=>
  rintro c st' ⟨hc,b,hst,hb,hs'⟩;refine⟨hc,b,hst,hb,?_⟩
  rwa [show min (max (max ok 1) n) n=n by lia]at hs'
 case step=>
  rintro k c st' hak hkn ⟨rfl,b,rfl,hb,hs'⟩;rw[show min k n=k by lia]at hs';have hsz:=hb.sz;have hdb:=hb.d hd;refine m7 (qP (rF (I:=λx c st''=>st''=setArr st b/\∃l r,c=(none,l,r)/\l<=r/\r<=k/\r-l<=k-x /\
    (∀i,lo<=i->i<lo+l->Le L (oh b i) (oh b (lo+k)))/\(∀i,lo+r<=i->i<lo+k->L (oh b (lo+k)) (oh b i)=true))
   (Q:=λc st''=>st''=setArr st b/\∃l r,c=(none,l,r)/\l<=k /\
    (∀i,lo<=i->i<lo+l->Le L (oh b i) (oh b (lo+k)))/\(∀i,lo+l<=i->i<lo+k->L (oh b (lo+k)) (oh b i)=true)) ?istep ?ifin ?iinit) ?ipost)
  case iinit=>exact⟨rfl,0,k,rfl,∅,∅,∅,λi h1 hi=>by lia,λi h1 h2=>by lia⟩
  case ifin=>
   rintro c st'' ⟨rfl,l,r,rfl,hlr,hrk,hm,hlo,hhi⟩;have:l=r:=by lia
   subst this;exact⟨rfl,l,l,rfl,hrk,hlo,hhi⟩
  case istep=>
   rintro x c st'' _ hxk ⟨rfl,l,r,rfl,hlr,hrk,hm,hlo,hhi⟩;dsimp only;by_cases hge:l>=r
   .rw[mS hge];have:l=r:=by lia
    subst this;exact nA ⟨rfl,l,l,rfl,hrk,hlo,hhi⟩
   .rw[mR hge];refine m7 (yK hP hk hdb ∅ ∅ ?_);cases hless:L (oh b (lo+k)) (oh b (lo+(l+r)/2)) with
    | true=>exact nA ⟨rfl,l,(l+r)/2,rfl,∅,∅,∅,hlo,λi h1 h2=>hC.lt_le hless (hs' _ _ ∅ h1 h2)⟩
    | false=>exact nA ⟨rfl,(l+r)/2+1,r,rfl,∅,∅,∅,λi h0 h1=>hC.t (hs' i (lo+(l+r)/2) h0 ∅ ∅) hless,hhi⟩
  case ipost=>
   rintro c st'' ⟨rfl,l,r,rfl,hlk,hlo,hhi⟩;show wpS _ _ _ _ (do moveDown' (lo+k) (lo+l);pure (ForInStep.yield (none,()))) _ _;rw[moveDown'_eq];have hks:lo+k<b.size:=by lia
   refine m7 (sT (nA ⟨rfl,bubble b (lo+k) (lo+k-(lo+l)),rfl,hb.tr (gn.bub hks ∅),?_⟩));rw[show min (k+1) n=k+1 by lia];intro i j hl hij hj;rw[IY hks ∅,IY hks ∅,show lo+k-(lo+k-(lo+l))=lo+l by lia];repeat' split
   all_goals first
    | (exfalso;lia)
    | exact hC.rf _
    | exact hlo _ ∅ ∅
    | exact hC.le (hhi _ ∅ ∅)
    | exact hs' _ _ ∅ ∅ ∅
end
noncomputable def ji (lo a nr:Nat):StateT SortSt Sem AscSt:=
 forIn [a:nr] ((none,a):AscSt) λ_ c=>do
  let x <-ltAt' (lo+c.snd) (lo+c.snd-1)
  match x with
  | some sm=>if sm=true then pure (ForInStep.done (none,c.snd)) else pure (ForInStep.yield (none,c.snd+1))
  | _=>pure (ForInStep.done (some none,c.snd))
noncomputable def iX (lo n nr:Nat):StateT SortSt Sem (Option Nat):=do
 reverseSlice' lo (lo+n)
 let c <-ji lo n nr
 match c.fst with
 | some r=>pure r
 | none=>pure (some c.snd)
noncomputable def jV (lo n nr:Nat):StateT SortSt Sem DescSt:=
 forIn [n:nr] ((none,n,0):DescSt) λ_ c=>do
  let x <-ltAt' (lo+c.snd.fst) (lo+c.snd.fst-1)
  match x with
  | some sm=>
   if sm=true then
    if c.snd.snd>0 then do
     reverseSlice' (lo+c.snd.fst-(c.snd.snd+1)) (lo+c.snd.fst)
     pure (ForInStep.yield (none,c.snd.fst+1,0))
    else pure (ForInStep.yield (none,c.snd.fst+1,0))
   else do
    let y <-ltAt' (lo+c.snd.fst-1) (lo+c.snd.fst)
    match y with
    | some lg=>
     if lg=true then pure (ForInStep.done (none,c.snd.fst,c.snd.snd))
     else pure (ForInStep.yield (none,c.snd.fst+1,c.snd.snd+1))
    | _=>pure (ForInStep.done (some none,c.snd.fst,c.snd.snd))
  | _=>pure (ForInStep.done (some none,c.snd.fst,c.snd.snd))
section
variable {M:Model}{A:AH}{E:oo}{s:AE}{D:Keyed->Prop}{L:Keyed->Keyed->Bool}{kd:SortKind}{st:SortSt}
noncomputable def xM (L:Keyed->Keyed->Bool) (x y:Keyed):Prop:=Le L x y/\Le L y x
def zJ (q:Q () (setArr st (mirror a i j ((j-i)/2)))):wpS M A E s (reverseSlice' i j) Q (setArr st a):=by rw[reverseSlice'_eq];exact sT q
def Hq {a:Array Keyed}{lo n0 nr:Nat}{Q:AscSt->SortSt->Prop}(hC:g0 L)(hP:gN M A E s D L kd)(hk:kindOf st=kd)(hd:∀u∈a.toList,D u)(hn:lo+nr<=a.size)(h1:1<=n0)(hnn:n0<=nr)
  (hs:iB L a lo (lo+n0)) (h:∀n,n0<=n->n<=nr->iB L a lo (lo+n)->(n=nr\/L (oh a (lo+n)) (oh a (lo+n-1))=true)->Q (none,n) (setArr st a)):wpS M A E s (ji lo n0 nr) Q (setArr st a):=by
 unfold ji;refine rF (I:=λx c st'=>st'=setArr st a/\c=(none,x)/\iB L a lo (lo+x)) ?step ?fin ⟨rfl,rfl,hs⟩
 case fin=>
  rintro c st' ⟨rfl,rfl,hs'⟩;rw[show max n0 nr=nr by lia]at hs' ⊢;exact h nr hnn (nD _) hs' (.inl rfl)
 case step=>
  rintro x c st' hax hxn ⟨rfl,rfl,hs'⟩;dsimp only;refine m7 (yK hP hk hd ∅ ∅ ?_);cases hl:L (oh a (lo+x)) (oh a (lo+x-1)) with
  | true=>exact nA (h x hax ∅ hs' (.inr hl))
  | false=>
   refine nA ⟨rfl,rfl,λi j hli hij hj=>?_⟩;by_cases hjx:j<lo+x
   .exact hs' i j hli hij hjx
   .have hj':j=lo+x:=by lia
    subst hj';by_cases hi':i=lo+x
    .subst hi';exact hC.rf _
    .exact hC.t (hs' i (lo+x-1) hli ∅ ∅) hl
def Bo {a:Array Keyed}{lo n nr:Nat}{Q:Option Nat->SortSt->Prop}(hC:g0 L)(hP:gN M A E s D L kd)(hk:kindOf st=kd)(hd:∀u∈a.toList,D u)(hn:lo+nr<=a.size)(h1:1<=n)(hnn:n<=nr)
  (hs:ik L a lo (lo+n)) (h:∀b m,gn lo a b->1<=m->m<=nr->iB L b lo (lo+m)->Q (some m) (setArr st b)):wpS M A E s (iX lo n nr) Q (setArr st a):=by
 unfold iX;refine m7 (zJ ?_);have hK:gn lo a (mirror a lo (lo+n) ((lo+n-lo)/2)):=gn.mir ∅ (nD _);refine m7 (Hq hC hP hk (hK.d hd) (by rw[hK.sz];exact hn) h1 hnn ?_ λm hm1 hm2 hsm _=>nA (h _ m hK ∅ hm2 hsm));intro i j hli hij hj;rw[Ea ∅,Ea ∅,mS ∅,mS ∅];exact hs _ _ ∅ ∅ ∅
def B5 (hC:g0 L)(hj:j<=a.size)(he:∀k,i<=k->k<j->xM L (oh a k) (oh a (j-1)))(k:Nat):xM L (oh (mirror a i j ((j-i)/2)) k) (oh a k):=by
 rw[Ea hj];split
 .have e1:=he (i+j-1-k) ∅ ∅;have e2:=he k ∅ ∅;exact⟨hC.t e1.1 e2.2,hC.t e2.1 e1.2⟩
 .exact⟨hC.rf _,hC.rf _⟩
def ik.eqv (hC:g0 L)(hs:ik L a l h)(he:∀k,xM L (oh b k) (oh a k)):ik L b l h:=
 λi j h1 h2 h3=>hC.t (he j).1 (hC.t (hs i j h1 h2 h3) (he i).2)
def ik.more (hC:g0 L)(hs:ik L a l x)(hle:l<x->Le L (oh a x) (oh a (x-1))):ik L a l (x+1):=by
 intro i j hli hij hj;by_cases hjx:j<x
 .exact hs i j hli hij hjx
 .have hj':j=x:=by lia
  subst hj';by_cases hi':i=j
  .subst hi';exact hC.rf _
  .exact hC.t (hle ∅) (hs i (j-1) hli ∅ ∅)
def Hd {a:Array Keyed}{lo n nr:Nat}{Q:DescSt->SortSt->Prop}(hC:g0 L)(hP:gN M A E s D L kd)(hk:kindOf st=kd)(hd:∀u∈a.toList,D u)(hn:lo+nr<=a.size)(h1:1<=n)(hnn:n<=nr)
  (hs:ik L a lo (lo+n))
  (h:∀b m nq,gn lo a b->n<=m->m<=nr->ik L b lo (lo+m)->nq+1<=m->(∀i,lo+m-(nq+1)<=i->i<lo+m->xM L (oh b i) (oh b (lo+m-1)))->Q (none,m,nq) (setArr st b)):
  wpS M A E s (jV lo n nr) Q (setArr st a):=by
 unfold jV;refine rF (I:=λx c st'=>∃b nq,st'=setArr st b/\c=(none,x,nq)/\gn lo a b/\ik L b lo (lo+x)/\nq+1<=x /\
   (∀i,lo+x-(nq+1)<=i->i<lo+x->xM L (oh b i) (oh b (lo+x-1)))) ?step ?fin ⟨a,0,rfl,rfl,gn.rf _ _,hs,∅,λi h1 h2=>by rw[show i=lo+n-1 by lia];exact⟨hC.rf _,hC.rf _⟩⟩
 case fin=>
  rintro c st' ⟨b,nq,rfl,rfl,hK,hs',hq,he⟩;rw[show max n nr=nr by lia]at hs' hq he ⊢;exact h b nr nq hK hnn (nD _) hs' hq he
 case step=>
  rintro x c st' hax hxn ⟨b,nq,rfl,rfl,hK,hs',hq,he⟩;have hbs:=hK.sz;have hdb:=hK.d hd;dsimp only;refine m7 (yK hP hk hdb ∅ ∅ ?_);cases hl:L (oh b (lo+x)) (oh b (lo+x-1)) with
  | true=>
   have hmore:ik L b lo (lo+x+1):=hs'.more hC λ_=>hC.le hl;dsimp only;by_cases hq0:nq>0
   .rw[mS rfl,mS hq0];refine m7 (zJ (nA ⟨_,0,rfl,rfl,hK.tr (gn.mir ∅ ∅),hmore.eqv hC (B5 hC ∅ he),∅,λi h1 h2=>?_⟩));rw[show i=lo+(x+1)-1 by lia];exact⟨hC.rf _,hC.rf _⟩
   .rw[mS rfl,mR hq0];refine nA ⟨b,0,rfl,rfl,hK,hmore,∅,λi h1 h2=>?_⟩;rw[show i=lo+(x+1)-1 by lia];exact⟨hC.rf _,hC.rf _⟩
  | false=>
   dsimp only;rw[mR nU];refine m7 (yK hP hk hdb ∅ ∅ ?_);cases hg:L (oh b (lo+x-1)) (oh b (lo+x)) with
   | true=>exact nA (h b x nq hK hax ∅ hs' hq he)
   | false=>
    refine nA ⟨b,nq+1,rfl,rfl,hK,hs'.more hC λ_=>hg,∅,λi h1 h2=>?_⟩;rw[show lo+(x+1)-1=lo+x by lia];by_cases hix:i=lo+x
    .subst hix;exact⟨hC.rf _,hC.rf _⟩
    .have e:=he i ∅ ∅;exact⟨hC.t e.1 hl,hC.t hg e.2⟩
def Zor {a:Array Keyed}{lo nr:Nat}{Q:Option Nat->SortSt->Prop}(hC:g0 L)(hP:gN M A E s D L kd)(hk:kindOf st=kd)(hd:∀u∈a.toList,D u)(hn:lo+nr<=a.size)(h1:1<=nr)
  (h:∀b m,gn lo a b->1<=m->m<=nr->iB L b lo (lo+m)->Q (some m) (setArr st b)):wpS M A E s (countRun' lo nr) Q (setArr st a):=by
 rw[countRun'_eq];refine m7 (qP (Hq (Q:=λc st'=>∃n,c=(none,n)/\st'=setArr st a/\1<=n/\n<=nr/\iB L a lo (lo+n)/\(n=nr\/L (oh a (lo+n)) (oh a (lo+n-1))=true)) hC hP hk hd hn (nD 1) h1 (λi j hl hij hj=>by have:i=j:=∅;subst this;exact hC.rf _) λn a1 a2 a3 a4=>⟨n,rfl,rfl,a1,a2,a3,a4⟩) ?_);rintro c st' ⟨n,rfl,rfl,hn1,hn2,hsn,hor⟩;dsimp only;by_cases hnn:n=nr
 .rw[mS (~~~hnn)];exact nA (h a n (gn.rf _ _) hn1 hn2 hsn)
 .rw[mR (~~~hnn)];have A1:=hor.resolve_left hnn;by_cases hgt:n>1
  .rw[mS hgt];refine m7 (yK hP hk hd ∅ ∅ ?_);cases hrose:L (oh a lo) (oh a (lo+n-1)) with
   | true=>
    dsimp only;rw[mS rfl];exact nA (h a n (gn.rf _ _) hn1 hn2 hsn)
   | false=>
    dsimp only;rw[mR nU];have hall:∀k,lo<=k->k<lo+n->xM L (oh a k) (oh a (lo+n-1)):=by intro k hk1 hk2;have a1:=hsn lo k ∅ hk1 hk2;have a2:=hsn k (lo+n-1) hk1 ∅ ∅;exact⟨a2,hC.t hrose a1⟩
    have hsd:ik L a lo (lo+(n+1)):=by refine ik.more hC (λi j h1 h2 h3=>?_) λ_=>hC.le A1;replace h3:j<lo+n:=h3;exact hC.t (hall j ∅ h3).1 (hall i h1 ∅).2
    have hK:gn lo a (mirror a lo (lo+n) ((lo+n-lo)/2)):=gn.mir ∅ (nD _);refine m7 (zJ ?_);obtain⟨b,hb,hKb,hsb⟩:∃b,b=mirror a lo (lo+n) ((lo+n-lo)/2)/\gn lo a b/\ik L b lo (lo+(n+1)):=⟨_,rfl,hK,hsd.eqv hC (B5 hC ∅ hall)⟩;rw[<-hb];have hbs:=gn.sz hKb;refine m7 (wpS_lift (rW ⟨rfl,?_⟩));refine m7 (Hd hC hP hk (gn.d hKb hd) ∅ ∅ ∅ hsb λc m nq hK hm1 hm2 hs' hq he=>?_);have hcs:=hK.sz;have hdc:=hK.d (gn.d hKb hd);dsimp only;by_cases hq0:nq>0
    .rw[mS hq0];have hK2:gn lo c (mirror c (lo+m-(nq+1)) (lo+m) ((lo+m-(lo+m-(nq+1)))/2)):=gn.mir ∅ ∅;refine m7 (zJ ?_);refine Eq.mp ?_ (Bo (Q:=Q) hC hP hk (hK2.d hdc) (by rw[hK2.sz];lia) ∅ hm2 (hs'.eqv hC (B5 hC ∅ he)) λd k hc=>h d k (gn.tr hKb (hK.tr (hK2.tr hc))));refine JN (λm=>wpS _ _ _ _ m _ _) ?_;unfold iX ji;refine JN _ (funext λ_=>JN _ (funext λc=>?_));obtain⟨r3,n3⟩:=c;cases r3<;>rfl
    .rw[mR hq0];refine Eq.mp ?_ (Bo (Q:=Q) hC hP hk hdc ∅ ∅ hm2 hs' λd k hc=>h d k (gn.tr hKb (hK.tr hc)));refine JN (λm=>wpS _ _ _ _ m _ _) ?_;unfold iX ji;refine JN _ (funext λ_=>JN _ (funext λc=>?_));obtain⟨r3,n3⟩:=c;cases r3<;>rfl
  .rw[mR hgt];obtain⟨b,hb,hKb,hsb⟩:∃b,b=a/\gn lo a b/\ik L b lo (lo+(n+1)):=⟨_,rfl,gn.rf _ _,ik.more hC (λi j h1 h2 h3=>by replace h3:j<lo+n:=h3;rw[show i=j by lia];exact hC.rf _) λ_=>hC.le A1⟩
   rw[<-hb];have hbs:=gn.sz hKb;refine m7 (wpS_lift (rW ⟨rfl,?_⟩));refine m7 (Hd hC hP hk (gn.d hKb hd) ∅ ∅ ∅ hsb λc m nq hK hm1 hm2 hs' hq he=>?_);have hcs:=hK.sz;have hdc:=hK.d (gn.d hKb hd);dsimp only;by_cases hq0:nq>0
   .rw[mS hq0];have hK2:gn lo c (mirror c (lo+m-(nq+1)) (lo+m) ((lo+m-(lo+m-(nq+1)))/2)):=gn.mir ∅ ∅;refine m7 (zJ ?_);refine Eq.mp ?_ (Bo (Q:=Q) hC hP hk (hK2.d hdc) (by rw[hK2.sz];lia) ∅ hm2 (hs'.eqv hC (B5 hC ∅ he)) λd k hc=>h d k (gn.tr hKb (hK.tr (hK2.tr hc))));refine JN (λm=>wpS _ _ _ _ m _ _) ?_;unfold iX ji;refine JN _ (funext λ_=>JN _ (funext λc=>?_));obtain⟨r3,n3⟩:=c;cases r3<;>rfl
   .rw[mR hq0];refine Eq.mp ?_ (Bo (Q:=Q) hC hP hk hdc ∅ ∅ hm2 hs' λd k hc=>h d k (gn.tr hKb (hK.tr hc)));refine JN (λm=>wpS _ _ _ _ m _ _) ?_;unfold iX ji;refine JN _ (funext λ_=>JN _ (funext λc=>?_));obtain⟨r3,n3⟩:=c;cases r3<;>rfl
end
noncomputable def Pd (L:Keyed->Keyed->Bool):Nat->List (Nat×Nat×Nat)->List (List Keyed)->Prop
 | _,[],[]=>True
 | o,t::ps,r::rs=>t.1=o/\t.2.1=r.length/\r≠[]/\r.Pairwise (Le L)/\Pd L (o+r.length) ps rs
 | _,_,_=>False
section
variable {M:Model}{A:AH}{E:oo}{s:AE}{D:Keyed->Prop}{L:Keyed->Keyed->Bool}{kd:SortKind}{st:SortSt}
theorem Pd.len:∀ {ps:List (Nat×Nat×Nat)} {rs:List (List Keyed)} {o:Nat},Pd L o ps rs->ps.length=rs.length
 | [],[],_,_=>rfl
 | t::ps,r::rs,o,h=>by have:=Pd.len h.2.2.2.2;simp[this]
 | [],_::_,_,h=>h.elim
 | _::_,[],_,h=>h.elim
theorem Pd.le:∀ {ps:List (Nat×Nat×Nat)} {rs:List (List Keyed)} {o:Nat},Pd L o ps rs->ps.length<=rs.flatten.length
 | [],[],_,_=>by simp
 | t::ps,r::rs,o,h=>by
  have h1:=Pd.le h.2.2.2.2;have h2:=tj.mpr h.2.2.1;rw[uY,nN,qK];lia
 | [],_::_,_,h=>h.elim
 | _::_,[],_,h=>h.elim
theorem Pd.app:∀ {ps:List (Nat×Nat×Nat)} {rs:List (List Keyed)} {o:Nat} {t:Nat×Nat×Nat} {r:List Keyed},Pd L o ps rs->t.1=o+rs.flatten.length->t.2.1=r.length->r≠[]->r.Pairwise (Le L)->Pd L o (ps++[t]) (rs++[r])
 | [],[],o,t,r,_,h1,h2,h3,h4=>⟨~~~h1,h2,h3,h4,trivial⟩
 | t::ps,r::rs,o,t',r',h,h1,h2,h3,h4=>⟨h.1,h.2.1,h.2.2.1,h.2.2.2.1,Pd.app h.2.2.2.2 (by rw[h1,uY,nN];lia) h2 h3 h4⟩
 | [],_::_,_,_,_,h,_,_,_,_=>h.elim
 | _::_,[],_,_,_,h,_,_,_,_=>h.elim
theorem Pd.pow:∀ {ps qs:List (Nat×Nat×Nat)} {rs:List (List Keyed)} {o:Nat},Pd L o ps rs->ps.map (λt=>(t.1,t.2.1))=qs.map (λt=>(t.1,t.2.1))->Pd L o qs rs
 | [],qs,[],_,_,e=>by
  have:qs=[]:=by simpa using e.symm
  subst this;trivial
 | t::ps,qs,r::rs,o,h,e=>by
  cases qs with
  | nil=>simp at e
  | cons u qs=>
   simp only[pH,List.cons.injEq,Prod.mk.injEq]at e;exact⟨e.1.1▸h.1,e.1.2▸h.2.1,h.2.2.1,h.2.2.2.1,Pd.pow h.2.2.2.2 e.2⟩
 | [],_,_::_,_,h,_=>h.elim
 | _::_,_,[],_,h,_=>h.elim
theorem Pd.pick:∀ {ps:List (Nat×Nat×Nat)} {rs:List (List Keyed)} {o i:Nat},Pd L o ps rs->i+1<ps.length ->
  ∃ra X Y rb pw pw2,rs=ra++X::Y::rb/\ps[i]?=some (o+ra.flatten.length,X.length,pw)/\ps[i+1]?=some (o+ra.flatten.length+X.length,Y.length,pw2)/\X≠[]/\Y≠[]/\X.Pairwise (Le L)/\Y.Pairwise (Le L) /\
   ∀V:List Keyed,V.length=X.length+Y.length->V.Pairwise (Le L)->Pd L o ((ps.set i (o+ra.flatten.length,X.length+Y.length,pw)).eraseIdx (i+1)) (ra++V::rb)
 | t::u::ps,r::r2::rs,o,0,h,_=>by
  obtain⟨a1,a2,a3,a4,b1,b2,b3,b4,b5⟩:=h;obtain⟨t1,t2,t3⟩:=t;obtain⟨u1,u2,u3⟩:=u;dsimp only at a1 a2 b1 b2;subst a1 a2 b1 b2;refine⟨[],r,r2,rs,t3,u3,rfl,{},{},a3,b3,a4,b4,λV hV hs=>?_⟩;refine⟨{},~~~hV.symm,?_,hs,?_⟩
  .intro e;rw[e]at hV;have:=tj.mpr a3;simp at hV;lia
  .rw[hV,<-vd];exact b5
 | t::ps,r::rs,o,i+1,h,hi=>by
  obtain⟨a1,a2,a3,a4,a5⟩:=h;obtain⟨ra,X,Y,rb,pw,pw2,h1,h2,h3,h4,h5,h6,h7,h8⟩:=Pd.pick a5 (i:=i) (~~~hi);refine⟨r::ra,X,Y,rb,pw,pw2,by rw[h1];rfl,?_,?_,h4,h5,h6,h7,λV hV hs=>?_⟩
  .rw[List.getElem?_cons_succ,h2,uY,nN,vd]
  .rw[List.getElem?_cons_succ,h3,uY,nN,vd o]
  .have:=h8 V hV hs;rw[List.set_cons_succ,List.eraseIdx_cons_succ,uY,nN,<-vd];exact⟨a1,a2,a3,a4,this⟩
 | [_],[_],_,0,_,h=>by simp at h
 | [],_,_,_,_,h=>by simp at h
 | _::_,[],_,_,h,_=>h.elim
 | _::_::_,[_],_,0,h,_=>h.2.2.2.2.elim
 | [_],_::_::_,_,0,h,_=>h.2.2.2.2.elim
structure SI (L:Keyed->Keyed->Bool)(kd:SortKind)(a0:List Keyed)(n:Nat)(Z:List Keyed)(st:SortSt):Prop where
 kind:kindOf st=kd
 fail:failedOf st=none
 perm:(arrOf st).toList.Perm a0
 runs:∃rs:List (List Keyed),(arrOf st).toList=rs.flatten++Z/\rs.flatten.length=n/\Pd L 0 (pendingOf st).toList rs
def SI.merge (hC:g0 L)(hP:gN M A E s D L kd)(hd:∀u∈a0,D u)(h:SI L kd a0 n Z st)(hi:i+1<(pendingOf st).size)
  (q:∀st',SI L kd a0 n Z st'->(pendingOf st').size+1=(pendingOf st).size->Q true st'):wpS M A E s (mergeAt' i) Q st:=by
 obtain⟨h1,h2,h3,rs,h4,h5,h6⟩:=h;obtain⟨ra,X,Y,rb,pw,pw2,rfl,p1,p2,p3,p4,p5,p6,p7⟩:=h6.pick (i:=i) (~~~hi);rw[wp]at p1 p2;have ha:(arrOf st).toList=ra.flatten++X++Y++(rb.flatten++Z):=by rw[h4];simp
 refine ZpI hC.to hP h1 h2 ha (λu hu=>hd u (h3.mem_iff.mp hu)) p3 p4 p5 p6 (by rw[<-sI];exact p1) (by rw[<-sI];exact p2) λV a g hV hp hs=>?_;have hl:=hp.length_eq;rw[nN]at hl;refine q _ ⟨rfl,rfl,?_,ra++V::rb,?_,?_,?_⟩ ?_
 .show a.toList.Perm a0;refine List.Perm.trans ?_ h3;rw[hV,ha];have:=(List.Perm.append_left ra.flatten hp).append_right (rb.flatten++Z);simpa using this
 .show a.toList=_;rw[hV];simp
 .rw[<-h5];simp[hl];lia
 .show Pd L 0 (Array.eraseIdxIfInBounds _ _).toList _;have:=p7 V hl hs;rw[wp]at this;rw[Array.toList_eraseIdxIfInBounds,Array.toList_setIfInBounds];exact this
 .show (Array.eraseIdxIfInBounds _ _).size+1=_;rw[<-pB,Array.toList_eraseIdxIfInBounds,Array.toList_setIfInBounds,List.length_eraseIdx_of_lt (~~~hi),List.length_set,pB]
  lia
end
def gn.pref {lo:Nat}{a b:Array Keyed}{F Z:List Keyed}(h:gn lo a b)(ha:a.toList=F++Z)(hF:F.length=lo):b.toList=F++b.toList.drop lo:=by
 have e:b.toList.take lo=F:=by
  refine ul λi=>?_;rw[uZ];by_cases hi:i<lo
  .rw[mS hi,sI,h.pre i hi,<-sI,ha,qT ∅]
  .rw[mR hi,qN ∅]
 conv=>lhs;rw[<-si lo b.toList,e]
def iB.pw {L:Keyed->Keyed->Bool}{b:Array Keyed}{lo m:Nat}(h:iB L b lo (lo+m)):((b.toList.drop lo).take m).Pairwise (Le L):=by
 rw[yJ];intro i j hi hj hij;rw[ou,pO,pB]at hi hj;have e:∀k (hk:k<((b.toList.drop lo).take m).length),oh b (lo+k)=((b.toList.drop lo).take m)[k]:=by intro k hk;rw[ou,pO,pB]at hk;unfold oh;rw[getElem?_pos b (lo+k) ∅];simp
 rw[<-e i (by simp;lia),<-e j (by simp;lia)];exact h _ _ ∅ ∅ ∅
section
variable {M:Model}{A:AH}{E:oo}{s:AE}{D:Keyed->Prop}{L:Keyed->Keyed->Bool}{kd:SortKind}{st:SortSt}
def SI.push {a0 R Z:List Keyed}{lo n p:Nat}(h:SI L kd a0 lo (R++Z) st)(h1:R.length=n)(h2:R≠[])(h3:R.Pairwise (Le L)):SI L kd a0 (lo+n) Z (setPending st ((pendingOf st).push (lo,n,p))):=by
 obtain⟨a1,a2,a3,rs,a4,a5,a6⟩:=h;refine⟨a1,a2,a3,rs++[R],?_,?_,?_⟩
 .show (arrOf st).toList=_;rw[a4];simp
 .simp[a5,h1]
 .show Pd L 0 ((pendingOf st).push (lo,n,p)).toList _;rw[ud];exact a6.app (by simp[a5]) h1.symm h2 h3
def ZiX (g:α->β)(f:α->α)(h:∀x,g (f x)=g x)(l:List α)(k:Nat):(l.modify k f).map g=l.map g:=by
 refine ul λi=>?_;rw[pA,pA,List.getElem?_modify];cases l[i]? with
 | none=>rfl
 | some x=>by_cases e:k=i<;>simp[e,h]
def SI.pow {a0 Z:List Keyed}{lo k w:Nat}(h:SI L kd a0 lo Z st):SI L kd a0 lo Z (setPending st ((pendingOf st).modify k λx=>(x.1,x.2.1,w))):=by obtain⟨a1,a2,a3,rs,a4,a5,a6⟩:=h;refine⟨a1,a2,a3,rs,a4,a5,?_⟩;show Pd L 0 ((pendingOf st).modify k _).toList _;rw[Array.toList_modify];exact a6.pow (ZiX (λt=>(t.1,t.2.1)) (λx=>(x.1,x.2.1,w)) (λ_=>rfl) _ _).symm
def Gm (hC:g0 L)(hP:gN M A E s D L kd)(hd:∀u∈a0,D u)(hk:kindOf st=kd)(hf:failedOf st=none)(hpe:pendingOf st=#[])(ha:(arrOf st).toList=a0)
  (q:∀st',(arrOf st').toList.Perm a0->(arrOf st').toList.Pairwise (Le L)->failedOf st'=none->Q () st'):wpS M A E s sortRuns' Q st:=by
 rw[sortRuns'_eq];refine m7 (wpS_get ?_);dsimp only;obtain⟨N,hN⟩:∃N,N=(arrOf st).size:=⟨_,rfl⟩;have hN':a0.length=N:=by rw[hN,<-ha,pB]
 rw[<-hN];have hSI:SI L kd a0 0 a0 st:=⟨hk,hf,by rw[ha],[],~~~ha,rfl,by rw[hpe];trivial⟩;refine m7 (qP (rF (a:=0) (b:=N) (I:=λx c st'=>∃lo Z,c=(none,lo)/\SI L kd a0 lo Z st'/\x<=lo/\lo<=N)
  (Q:=λc st'=>∃Z,c=(none,N)/\SI L kd a0 N Z st') ?step ?fin ⟨0,a0,rfl,hSI,∅,∅⟩) ?post)
 case fin=>
  rintro c st' ⟨lo,Z,rfl,hS,hx,hl⟩;have:lo=N:=by lia
  subst this;exact⟨Z,rfl,hS⟩
 case post=>
  rintro c st' ⟨Z,rfl,hS⟩;have hZ:∀st',SI L kd a0 N Z st'->Z=[]:=by intro st' hS;obtain⟨h1,h2,h3,rs,h4,h5,h6⟩:=hS;have:=h3.length_eq;rw[h4,nN,h5,hN']at this;exact xE.mp ∅
  dsimp only;refine m7 (qP (rF (a:=0) (b:=N) (I:=λx c st'=>c=(none,())/\SI L kd a0 N Z st'/\(pendingOf st').size+x<=N)
   (Q:=λc st'=>c=(none,())/\SI L kd a0 N Z st'/\(pendingOf st').size<=1) ?s2 ?f2 ⟨rfl,hS,?_⟩) ?p2)
  case f2=>
   rintro c st' ⟨rfl,hS,hx⟩;exact⟨rfl,hS,∅⟩
  case p2=>
   rintro c st' ⟨rfl,hS,hx⟩;obtain⟨h1,h2,h3,rs,h4,h5,h6⟩:=hS;have:=hZ st' ⟨h1,h2,h3,rs,h4,h5,h6⟩;subst this;refine nA (q st' h3 ?_ h2);have hl:=h6.len;rw[pB]at hl;rw[h4,va];cases rs with
   | nil=>exact List.Pairwise.nil
   | cons r rs=>
    cases rs with
    | nil=>
     cases hps:(pendingOf st').toList with
     | nil=>rw[hps]at h6;exact h6.elim
     | cons t ps=>rw[hps]at h6;simpa using h6.2.2.2.1
    | cons r2 rs=>simp at hl;lia
  case s2=>
   rintro x c st' _ hx ⟨rfl,hS,hpx⟩;refine m7 (wpS_get ?_);by_cases hp1:(pendingOf st').size<=1
   .rw[mS hp1];exact nA ⟨rfl,hS,hp1⟩
   .rw[mR hp1];refine m7 (hS.merge hC hP hd ?_ λst2 hS2 hp2=>?_)
    .have hle:∀(c:Prop) [Decidable c] (k:Nat),(if c then k-1 else k)<=k:=λc _ k=>by split<;>lia
     exact zT (Nat.succ_le_succ (hle _ _)) ∅
    .exact nA ⟨rfl,hS2,∅⟩
  .obtain⟨h1,h2,h3,rs,h4,h5,h6⟩:=hS;have:=h6.le;rw[pB]at this
   lia
 case step=>
  rintro x c st' _ hx ⟨lo,Z,rfl,hS,hxl,hl⟩;dsimp only;by_cases hlo:lo>=N
  .rw[mS hlo];have:lo=N:=by lia
   subst this;exact nA ⟨Z,rfl,hS⟩
  rw[mR hlo];obtain⟨h1,h2,h3,rs,h4,h5,h6⟩:=hS;have hsz:(arrOf st').size=N:=by rw[<-pB,h3.length_eq,hN']
  have hda:∀u∈(arrOf st').toList,D u:=λu hu=>hd u (h3.mem_iff.mp hu);refine m7 (Eq.mp (JN (λv=>wpS M A E s (countRun' lo (N-lo)) _ v) (show setArr st' (arrOf st')=st' from rfl)) (Zor hC hP h1 hda ∅ ∅ λb m hK hm1 hm2 hsm=>?_));dsimp only;have hbz:=hK.sz;by_cases hmr:m<minRun' N N 0
  .rw[mS hmr];obtain⟨n,hn⟩:∃n,n=min (N-lo) (minRun' N N 0):=⟨_,rfl⟩;rw[<-hn];refine m7 (wpS_lift (rW ⟨rfl,?_⟩));refine m7 (Zot hC hP h1 (hK.d hda) ∅ ∅ hsm λb2 hK2 hs2=>?_);rw[mR {}];have hKb:=hK.tr hK2;have hn1:1<=n:=by lia
   have hn2:n<=N-lo:=by lia
   have hbz2:=gn.sz hKb;have hb1:=gn.pref hKb h4 h5;obtain⟨R,hR⟩:∃R,R=(List.drop lo (Array.toList b2)).take n:=⟨_,rfl⟩;obtain⟨Z2,hZ2⟩:∃Z2,Z2=(List.drop lo (Array.toList b2)).drop n:=⟨_,rfl⟩;have hRZ:(List.drop lo (Array.toList b2))=R++Z2:=by rw[hR,hZ2,si]
   have hRl:R.length=n:=by rw[hR,ou,pO,pB];lia
   have hRn:R≠[]:=by intro e;rw[e]at hRl;simp at hRl;lia
   have hRs:R.Pairwise (Le L):=by rw[hR];exact iB.pw hs2
   have hS:SI L kd a0 lo (R++Z2) (setArr st' b2):=⟨h1,h2,(BZ.mp (gn.perm hKb)).trans h3,rs,by rw[<-hRZ];exact hb1,h5,h6⟩;refine m7 (wpS_get ?_);cases hb:(pendingOf (setArr st' b2)).back? with
   | none=>
    dsimp only;exact m7 (sT (nA ⟨lo+n,Z2,rfl,hS.push hRl hRn hRs,∅,∅⟩))
   | some t=>
    obtain⟨s1,n1,p1⟩:=t;dsimp only;refine m7 (qP (rF (a:=0) (b:=N) (I:=λy c st2=>c=(none,())/\SI L kd a0 lo (R++Z2) st2) (Q:=λc st2=>c=(none,())/\SI L kd a0 lo (R++Z2) st2) ?_ (λ_ _ h=>h) ⟨rfl,hS⟩) ?_)
    .rintro y c st2 _ _ ⟨hc,hS2⟩;subst hc;refine m7 (wpS_get ?_);by_cases hp:(pendingOf st2).size>1
     .rw[mS hp];obtain⟨t,ht⟩:∃t,(pendingOf st2)[(pendingOf st2).size-2]?=some t:=⟨_,getElem?_pos _ _ ∅⟩;obtain⟨t1,t2,t3⟩:=t;rw[ht];dsimp only;split
      .exact nA ⟨rfl,hS2⟩
      .exact m7 (hS2.merge hC hP hd ∅ λst3 hS3 _=>nA ⟨rfl,hS3⟩)
     .rw[mR hp];exact nA ⟨rfl,hS2⟩
    .rintro c st2 ⟨hc,hS2⟩;subst hc;exact m7 (sT (m7 (sT (nA ⟨lo+n,Z2,rfl,hS2.pow.push hRl hRn hRs,∅,∅⟩))))
  .rw[mR hmr];have hKb:=hK;have hbz2:=gn.sz hKb;have hb1:=gn.pref hKb h4 h5;obtain⟨R,hR⟩:∃R,R=(List.drop lo (Array.toList b)).take m:=⟨_,rfl⟩;obtain⟨Z2,hZ2⟩:∃Z2,Z2=(List.drop lo (Array.toList b)).drop m:=⟨_,rfl⟩;have hRZ:(List.drop lo (Array.toList b))=R++Z2:=by rw[hR,hZ2,si]
   have hRl:R.length=m:=by rw[hR,ou,pO,pB];lia
   have hRn:R≠[]:=by intro e;rw[e]at hRl;simp at hRl;lia
   have hRs:R.Pairwise (Le L):=by rw[hR];exact iB.pw hsm
   have hS:SI L kd a0 lo (R++Z2) (setArr st' b):=⟨h1,h2,(BZ.mp (gn.perm hKb)).trans h3,rs,by rw[<-hRZ];exact hb1,h5,h6⟩;refine m7 (wpS_get ?_);cases hb:(pendingOf (setArr st' b)).back? with
   | none=>
    dsimp only;exact m7 (sT (nA ⟨lo+m,Z2,rfl,hS.push hRl hRn hRs,∅,∅⟩))
   | some t=>
    obtain⟨s1,n1,p1⟩:=t;dsimp only;refine m7 (qP (rF (a:=0) (b:=N) (I:=λy c st2=>c=(none,())/\SI L kd a0 lo (R++Z2) st2) (Q:=λc st2=>c=(none,())/\SI L kd a0 lo (R++Z2) st2) ?_ (λ_ _ h=>h) ⟨rfl,hS⟩) ?_)
    .rintro y c st2 _ _ ⟨hc,hS2⟩;subst hc;refine m7 (wpS_get ?_);by_cases hp:(pendingOf st2).size>1
     .rw[mS hp];obtain⟨t,ht⟩:∃t,(pendingOf st2)[(pendingOf st2).size-2]?=some t:=⟨_,getElem?_pos _ _ ∅⟩;obtain⟨t1,t2,t3⟩:=t;rw[ht];dsimp only;split
      .exact nA ⟨rfl,hS2⟩
      .exact m7 (hS2.merge hC hP hd ∅ λst3 hS3 _=>nA ⟨rfl,hS3⟩)
     .rw[mR hp];exact nA ⟨rfl,hS2⟩
    .rintro c st2 ⟨hc,hS2⟩;subst hc;exact m7 (sT (m7 (sT (nA ⟨lo+m,Z2,rfl,hS2.pow.push hRl hRn hRs,∅,∅⟩))))
end
noncomputable def jH (κ:KeyKind) (p:Keyed):κ.α:=(κ.keyOf p.1).getD κ.dflt
noncomputable def By (κ:KeyKind) (x y:Keyed):Bool:=κ.blt (jH κ x) (jH κ y)
def ZnY (κ:KeyKind):g0 (By κ):=
 ⟨λx y _ _ h=>KeyOrd.klt_asymm (O:=κ.toKeyOrd) h,λx y z _ _ _ h1 h2=>KeyOrd.kle_trans (O:=κ.toKeyOrd) h1 h2⟩
section
def ZlT (hO:κ.OneLt):gN (model prog w) A E s (λp=>∃a,κ.keyOf p.1=some a) (By κ) oneType':=by
 rintro st ⟨x,p⟩ ⟨y,r⟩ Q hk ⟨a,ha⟩ ⟨b,hb⟩ q;have e:By κ (x,p) (y,r)=κ.blt a b:=by unfold By jH;rw[ha,hb];rfl
 rw[e]at q;rw[lt'_eq];refine m7 (wpS_get ?_);rw[hk,keyLt'_oneType];exact m7 (wpS_lift (uy (hO prog w A _ s x y a b ha hb ⟨rfl,nA q⟩)))
def Zlg {a0:Array Keyed}{st:SortSt}{Q:Unit->SortSt->Prop}(hO:κ.OneLt)(h0:KeysOf κ a0)(hk:kindOf st=oneType')(hf:failedOf st=none)(hp:pendingOf st=#[])(ha:arrOf st=a0)
  (q:∀st',(arrOf st').Perm a0->failedOf st'=none->SortedToK κ (arrOf st') a0.size->Q () st'):wpS (model prog w) A E s sortRuns' Q st:=by
 refine Gm (a0:=a0.toList) (ZnY κ) (ZlT hO) h0 hk hf hp (by rw[ha]) λst' p1 p2 p3=>q st' (BZ.mpr p1) p3 ?_;have hsz:(arrOf st').size=a0.size:=by rw[<-pB,p1.length_eq,pB]
 intro i j hij hj;have hK:∀k (hk:k<(arrOf st').size),KK κ (arrOf st') k=jH κ ((arrOf st').toList[k]'(~~~hk)):=by intro k hk;unfold KK jH;rw[getElem?_pos _ k hk];rfl
 rw[hK i ∅,hK j ∅];by_cases e:i=j
 .subst e;exact KeyOrd.kle_refl _
 .exact yJ.mp p2 i j (by simp;lia) (by simp;lia) ∅
end
section
def Zlf (hO:κ.OneLt) {a:AD} {vs:AC} {n:Nat} {P:Fin->AE->Prop} (ho:s.heap.get? a=some (seqObj "list" vs.toArray n))
  (h0:KeysOf κ (pairsOf vs)) (hkk:∀x y r,vs=x::y::r->keyKind' (x::y::r).toArray=pure oneType') (hN:vs.length<=sizeLine)
  (h:∀v:SortSt,(arrOf v).Perm (pairsOf vs)->SortedToK κ (arrOf v) (pairsOf vs).size->P (.done (.ret .none)) { s with heap:=sortedHeap s.heap a vs ((arrOf v).map (·.2)) }):
  wpAny (model prog w) A (Builtin.«list.sort» ⟨[.ref a],[]⟩) P E s:=by
 by_cases h64:vs.length<64
 .exact list_sort_treeK hO ho h0 hkk h64 h
 obtain⟨x,y,r,hv⟩:∃x y r,vs=x::y::r:=by
  match vs,h64 with
  | x::y::r,_=>exact⟨x,y,r,rfl⟩
  | [x],h=>simp at h
  | [],h=>simp at h
 have h2:¬vs.toArray.size<2:=by rw[oH];lia
 have A1:a<s.heap.objs.size:=nP ho;have up:=get?_update_seq ho (λ_=>#[]);generalize hep:(if (#[]:Array Value).size == vs.toArray.size then n else n+1)=ep at up;have up3:(((s.heap.update a (Obj.mapSeq λ_=>#[])).push (seqObj "tuple" vs.toArray 0)).push (seqObj "list" #[] 0)).get? a=some (seqObj "list" #[] ep):=by
  rw[Heap.get?_push_ne,Heap.get?_push_ne]
  .exact up
  .rw[Heap.size_update];exact oO A1
  .rw[size_push',Heap.size_update];exact oO (wN A1)
 rw[list_sort_plain];refine mO (listItems_at ho rfl (mO (listUpdate_at ho rfl (mO (seqEpoch_at up rfl (mO (wpAny_newTuple (mO (wpAny_newList (qR ?_)))))) ) (hsz:=by rw[oH];exact hN))));dsimp only;rw[mR h2,mR h2];have hk1:keyKind' vs.toArray=pure oneType':=by rw[hv];exact hkk x y r hv
 rw[hk1];refine mO (mW (mO (qF (Zlg hO h0 (st:=SortSt.mk' oneType' (pairsOf vs) #[] 7 none) (Q:=λ_ v=>(arrOf v).Perm (pairsOf vs)/\failedOf v=none/\SortedToK κ (arrOf v) (pairsOf vs).size) rfl rfl rfl rfl λv p1 p2 p3=>⟨p1,p2,p3⟩) ?_ λ_ _ e=>e)));rintro⟨⟨⟩,v⟩ s2 ⟨rfl,p1,p2,p3⟩;dsimp only;refine mO (seqEpoch_at up3 rfl (mO (listUpdate_at up3 rfl ?_ (hsz2:=?_))))
 .rw[p2,bne_self_eq_false];exact mW (h v p1 p3)
 .rw[Array.size_map,p1.size_eq,pairsOf_size];lia
end
section
def HZ {vs:AC}{ms:mU}{Q:oo}(hv:fV (ms.map tx) vs)(h64:ms.length<=sizeLine)
  (h:∀(h':Heap) (us:AC) (e:Nat),(∀b o,s.heap.get? b=some o->h'.get? b=some o)->h'.get? s.heap.objs.size=some { cls:=.type "list",data:=.seq us.toArray e }->fV ((qd ms).map tx) us->Q (.ref s.heap.objs.size) { s with heap:=h' }):
  wpAny (model prog w) A (do let l <-newList vs;let _ <-holding [l] (call (.builtin "list.sort") [l] []);ret l) (λfin s'=>∃v,fin=Fin.done (Flow.ret v)/\Q v s') E s:=by
 have hS:=Zjz hv;have As:vs.length<=sizeLine:=by rw[<-hv.length,m6];exact h64
 refine mO (wpAny_newList ?_ ?_)
 .have hoL:(s.heap.push (seqObj "list" vs.toArray 0)).get? s.heap.objs.size=some (seqObj "list" vs.toArray 0):=oP _ rfl;refine mO (qR (ve slot_list_sort ⟨_,hoL,rfl⟩ entry_list_sort (Zlf strKind_oneLt hoL hS.keysOf (λv_1 v_2 gx e=>keyKind_strs (by rw[<-e];exact hS)) As λst' a1 a2=>⟨_,rfl,?_⟩) (args_list_sort _)));obtain⟨ss',b1,b2,b3⟩:=sorted_out_str hS a1 a2;obtain⟨e,he⟩:=sortedHeap_at (out:=(arrOf st').map (·.2)) hoL;refine mW ⟨_,rfl,h _ ((arrOf st').map (·.2)).toList e (λb o q=>?_) ?_ ?_⟩
  .have A1:=nP q;have hlt':b<(s.heap.push (seqObj "list" vs.toArray 0)).objs.size:=by rw[rO];exact wN A1
   exact(sortedHeap_old (oO A1) hlt').trans (nG _ q)
  .have q:((arrOf st').map (·.2)).toList.toArray=(arrOf st').map (·.2):=Array.toArray_toList;rw[q];exact he
  .have p1:(ss'.map λx=>x.cps.toList).Perm ms:=by
    have:=b2.map (λx:Str=>x.cps.toList)
    rwa [Zmp]at this
   have e1:=Db p1 (Zfo b3);rw[<-e1];exact HR b1
 .exact As
def Zha (hh:A.handled=none)(hS:gE prog w s.heap S ls (!pU w))(h64:ls.length<=sizeLine)
  (h:∀(s':AE) (a:AD) (us:AC) (e:Nat),s.heap.get? a=none->(∀b o,s.heap.get? b=some o->s'.heap.get? b=some o)->s'.gens=s.gens->s'.os=s.os->s'.heap.get? a=some { cls:=.type "list",data:=.seq us.toArray e }->fV ((qd ls).map tx) us->Q (.ref a) s'):
  wpAny (model prog w) A (call (.builtin "sorted") [.ref S]) Q E s:=by
 refine Calls.call_function_entry kind_sorted plain_sorted entry_sorted (args_sorted1 _) ?_;unfold Builtin.«sorted»;refine mO (m:=checkCount "sorted" 1 1 _) (mW ?_);refine mO (ZhM (by first | exact hh | simpa using hh) hS h64 λs' vs ms k1 hg ho hp hv=>?_);have hl:ms.length<=sizeLine:=by rw[hp.length_eq];exact h64
 refine HZ hv hl λh' us e k2 he r=>?_;rw[Zhc hp]at r;exact h _ _ us e (by
  cases q:s.heap.get? s'.heap.objs.size with
  | none=>rfl
  | some o=>exact JO (nP (k1 _ _ q)) (qC _)) (λb o q=>k2 b o (k1 b o q)) hg ho he r
end
section
def ZfT (hc:X.calm=true):rq X (.builtin "sorted") (λxs H Q=>∃a ls,xs=[.ref a]/\H a=some (.lst (ls.map tx))/\ls.length<=sizeLine/\gB ((qd ls).map tx) H Q):=by
 rintro Aq s U H xs us Q I r ⟨a,ls,rfl,ha,h64,q⟩;obtain⟨u,rfl,ru⟩:=r.one;cases ru;obtain⟨_,its,n,r2,As,eo⟩:=I.lstM ha;have hl:(qd ls).length<=sizeLine:=by rw[(sB ls).length_eq];exact h64
 have li:its.length=ls.length:=by rw[<-r2.length,m6]
 refine Calls.call_function_entry kind_sorted plain_sorted entry_sorted (args_sorted1 _) ?_;unfold Builtin.«sorted»;refine mO (m:=checkCount "sorted" 1 1 _) (mW ?_);refine mO (collect_list (PySem.IsL.isList eo) ?_ (by rw[li];exact h64));have sb:=qD (s.heap.push (seqObj "list" #[] 0)) s.heap.objs.size (Obj.mapSeq (·++its.toArray));have k1:∀b o,s.heap.get? b=some o->((s.heap.push (seqObj "list" #[] 0)).update s.heap.objs.size (Obj.mapSeq (·++its.toArray))).get? b=some o:=λb o e=>(sb.2 b (oO (nP e))).trans (nG _ e);refine HZ (s:={ s with heap:=(s.heap.push (seqObj "list" #[] 0)).update s.heap.objs.size (Obj.mapSeq (·++its.toArray)) }) r2 h64 λh' us e k2 he rr=>?_;generalize ((s.heap.push (seqObj "list" #[] 0)).update s.heap.objs.size (Obj.mapSeq (·++its.toArray)))=g at k1 k2 he ⊢;have nw:s.heap.get? g.objs.size=none:=by
  cases z:s.heap.get? g.objs.size with
  | none=>rfl
  | some o=>exact JO (nP (k1 _ _ z)) (qC _)
 exact⟨.ref g.objs.size,_,I.laid2 (s':={ s with heap:=h' }) (o:=.lst ((qd ls).map tx)) rfl rfl (λb o z=>k2 b o (k1 b o z)) nw ⟨by rw[m6];exact hl,us,e,rr,he⟩,rfl,q _ (I.hok.none_of nw)⟩
end
def ZgB (b:Bool)(x y:Value):keyLt' (tuples' b) x y=(do
  let xs <-Builtin.List.listItems x
  let ys <-Builtin.List.listItems y
  for ((p,r),i) in (xs.toList.zip ys.toList).zipIdx do
   if !(<-eqBool p r) then return <-oneLt' (b&&i == 0) p r
  return xs.size<ys.size):=rfl
noncomputable def gA (h:Heap):Value->Int×mN
 | .ref a=>match h.get? a with
  | some o=>match o.data with
   | .seq xs _=>match xs.toList with
    | [.int n _,.str w _]=>(n,w.cps.toList)
    | _=>(0,[])
   | _=>(0,[])
  | none=>(0,[])
 | _=>(0,[])
noncomputable def rN (a b:Int×mN):Bool:=decide (a.1<b.1) || (a.1 == b.1&&decide (a.2<b.2))
noncomputable def xg (h:Heap) (x y:Keyed):Bool:=rN (gA h x.1) (gA h y.1)
def DO:rN a b=true↔a.1<b.1\/(a.1=b.1/\a.2<b.2):=by unfold rN;simp
def Fw:rN b a=false↔a.1<b.1\/(a.1=b.1/\¬b.2<a.2):=by
 rw[<-Bool.not_eq_true,DO];constructor
 .intro h;by_cases e:a.1=b.1
  .exact .inr ⟨e,λk=>h (.inr ⟨e.symm,k⟩)⟩
  .exact .inl (by
    have:¬b.1<a.1:=λk=>h (.inl k)
    lia)
 .rintro (h | ⟨h,k⟩) (l | ⟨l,m⟩)
  .lia
  .lia
  .lia
  .exact k m
def ZnW (h:Heap):g0 (xg h):=by
 refine⟨λx y _ _ e=>?_,λx y z _ _ _ e f=>?_⟩
 .unfold xg at e ⊢;rw[DO]at e;rw[Fw];rcases e with e | ⟨e,f⟩
  .exact .inl e
  .exact .inr ⟨e,List.lt_asymm f⟩
 .unfold xg at e f ⊢;rw[Fw]at e f ⊢;rcases e with e | ⟨e,e2⟩<;>rcases f with f | ⟨f,f2⟩
  .exact .inl ∅
  .exact .inl ∅
  .exact .inl ∅
  .exact .inr ⟨∅,List.not_lt.mpr (List.le_trans (List.not_lt.mp e2) (List.not_lt.mp f2))⟩
noncomputable def sK (h:Heap) (v:Value) (n:Int) (c:mN):Prop:=∃a t w u e,v=.ref a/\h.get? a=some (seqObj "tuple" #[.int n t,.str w u] e)/\w.cps.toList=c
def sK.key (k:sK h v n c):gA h v=(n,c):=by obtain⟨a,t,w,u,e,rfl,ho,rfl⟩:=k;unfold gA;dsimp only;rw[ho]
section
def ZiT (h:Q (decide (a.cps.toList<b.cps.toList)) s):wpAny (model prog w) A (oneLt' false (.str a t) (.str b u)) Q E s:=by rw[oneLt'_eq];simp only[xY,if_false];refine mO (wpAny_richCompare_same (typeIs_str s a t) (typeIs_str s b u) slot_str_lt (call_str_lt ⟨(λz=>nomatch z),?_⟩));exact u9 h
def ZlS:gN (model prog w) A E s (λp=>∃n c,sK s.heap p.1 n c) (xg s.heap) (tuples' true):=by
 rintro st ⟨x,p⟩ ⟨y,r⟩ Q hk ⟨n,c,hx⟩ ⟨m,d,hy⟩ q;have e:xg s.heap (x,p) (y,r)=rN (n,c) (m,d):=by unfold xg;rw[hx.key,hy.key]
 rw[e]at q;obtain⟨a,t,v,u,ep,rfl,ho,rfl⟩:=hx;obtain⟨b,t2,v2,u2,ep2,rfl,ho2,rfl⟩:=hy;rw[lt'_eq];refine m7 (wpS_get ?_);rw[hk,ZgB];refine m7 (wpS_lift (uy (mO (listItems_at ho rfl (mO (listItems_at ho2 rfl ?_))))));show wpAny _ _ (forIn [((Value.int n t,Value.int m t2),0),((Value.str v u,Value.str v2 u2),1)] _ _ >>= _) _ _ _;rw[wI];refine mO (mO (mO (wpAny_eqBool_int ?_)));by_cases hnm:n=m
 .subst hnm;rw[mR {}];refine mW ?_;dsimp only;rw[wI];refine mO (mO (eqBool_str ?_));by_cases hv:v=v2
  .subst hv;rw[mR {}];refine mW ?_;dsimp only;rw[List.forIn_nil];refine mW ?_;dsimp only;refine mW ⟨rfl,nA ?_⟩;have:rN (n,v.cps.toList) (n,v.cps.toList)=false:=by unfold rN;simp[List.lt_irrefl]
   rw[this]at q;simpa using q
  .rw[mS (~~~hv)];refine mO (ZiT (mW (mW ?_)));dsimp only;refine mW ⟨rfl,nA ?_⟩;have:rN (n,v.cps.toList) (n,v2.cps.toList)=decide (v.cps.toList<v2.cps.toList):=by unfold rN;simp
   rw[this]at q;exact q
 .rw[mS (~~~hnm)];refine mO (oneLt_int (mW (mW ?_)));dsimp only;refine mW ⟨rfl,nA ?_⟩;have:rN (n,v.cps.toList) (m,v2.cps.toList)=decide (n<m):=by unfold rN;simp[hnm]
  rw[this]at q;exact q
end
structure Lin {α:Type}(lt:α->α->Bool):Prop where
 asym:∀a b,lt a b=true->lt b a=false
 trans:∀a b c,lt a b=true->lt b c=true->lt a c=true
 tri:∀a b,lt a b=false->lt b a=false->a=b
section
end
section
theorem GF:∀ {vs:AC} {Q:List (Option Value)->AE->Prop},(∀v∈vs,∃n c,sK s.heap v n c) ->
  (∀us:AC,us.length=vs.length->(∀u∈us,∃n t,u=.int n t)->Q (us.map some) s)->wpAny (model prog w) A (vs.mapM firstOfTuple') Q E s
 | [],Q,_,q=>by rw[List.mapM_nil];exact mW (q [] rfl {})
 | v::vs,Q,h,q=>by
  obtain⟨n,c,a,t,x,u,e,rfl,ho,rfl⟩:=h v {};rw[List.mapM_cons];refine mO ?_;show wpAny _ _ (do
   if (<-typeOf (.ref a)) != .type "tuple" then return none
   return (<-Builtin.List.listItems (.ref a))[0]?) _ _ _
  refine mO (wpAny_typeOf_ref ho ?_);rw[mR (show ¬((Value.type "tuple" != Value.type "tuple")=true) by decide)];refine mO (listItems_at ho rfl (mW ?_));refine mO (GF (λv hv=>h v (by simp[hv])) λus hl hu=>mW ?_);refine q (.int n t::us) (by simp[hl]) λu hu'=>?_;rcases ot.mp hu' with rfl | hu'
  .exact⟨n,t,rfl⟩
  .exact hu u hu'
def Zhw (hv:∀v∈vs,∃n c,sK s.heap v n c)(hne:vs≠[])(q:Q (tuples' true) s):wpAny (model prog w) A (keyKind' vs.toArray) Q E s:=by
 rw[keyKind'_eq,List.mapM_toArray,map_eq_pure_bind,bind_assoc];refine mO (GF hv λus hl hu=>?_);rw[pure_bind,mS {}];refine mO (rW ?_);have hI:IntsAre us (us.map numOf):=intsAre_map us hu;have e1:((us.map some).toArray.filterMap id)=us.toArray:=by simp
 rw[e1,oneTypeOnly'_eq,List.mapM_toArray,mapM_typeOf_ints hI];cases us with
 | nil=>
  cases vs with
  | nil=>exact JO rfl hne
  | cons v vs=>simp at hl
 | cons u us=>
  simp only[map_pure,pure_bind];have h0:(List.map (λ_=>Value.type "int") (u::us)).toArray[0]?=some (Value.type "int"):=by simp
  have hall:((List.map (λ_=>Value.type "int") (u::us)).toArray.all λz=>z == Value.type "int")=true:=by rw[List.all_toArray,List.all_map,sE];exact λ_ _=>rfl
  rw[h0];simp only[hall,if_true,pure_bind];exact mW q
end
section
end
section
end
section
noncomputable def Zoz:HO->Prop
 | .tup _=>False
 | .tbl _=>False
 | .own _=>False
 | _=>True
def mP.shift (I:mP X Aq U H s)(ha:H a=some u)(hu:Zoz u)(hf:∀o v,X.H_0 a≠some (.frz o v))(new:gg X.prog X.w (upd H a u') s.heap a u'):mP X Aq U (upd H a u') s:=by
 have nn:∀b,H b=none->b≠a:=λb n z=>by rw[z,ha]at n;cases n
 refine⟨I.ok,I.os,I.bare,⟨I.base.keep,I.base.slot,λb o e n hx=>?_,I.base.there,λb xs e=>?_,λb o v e=>?_,λb ps e=>?_⟩,I.loc,I.cell,?_,λx c e=>?_,λp hp=>?_,λb ob e=>?_,I.len⟩
 .have:=I.base.free b o e n hx;rw[mT (nn b this)];exact this
 .have:=I.base.tups b xs e;have ne:b≠a:=λz=>by rw[z,ha]at this;cases this;exact hu
  rw[mT ne];exact this
 .have ne:b≠a:=λz=>hf o v (by rw[<-z];exact e);rw[mT ne];exact I.base.frzs b o v e
 .obtain⟨m,q⟩:=I.base.tbls b ps e;have ne:b≠a:=λz=>by rw[z,ha]at q;cases q;exact hu
  exact⟨m,by rw[mT ne];exact q⟩
 .rw[mT (nn _ I.free)];exact I.free
 .rw[mT (nn _ (I.freeC x c e))];exact I.freeC x c e
 .obtain⟨e,n,r⟩:=I.pin p hp;exact⟨e,by rw[mT (nn _ n)];exact n,r⟩
 .by_cases hb:b=a
  .subst hb;rw[nu]at e;cases e;exact new
  .rw[mT hb]at e;refine(I.hok b ob e).stay (λ_ _ _ q=>q) (λc q=>?_) λc xs q=>?_
   .have ne:c≠a:=λz=>by rw[z,ha]at q;cases q;exact hu
    rw[mT ne];exact q
   .have ne:c≠a:=λz=>by rw[z,ha]at q;cases q;exact hu
    rw[mT ne];exact q
def mP.notFrz (I:mP X Aq U H s)(ha:H a=some u)(hu:∀o v,u≠.frz o v):∀o v,X.H_0 a≠some (.frz o v):=λo v e=>by have:=I.base.frzs a o v e;rw[ha]at this;exact hu o v (Option.some.inj this)
def mP.freezeD (I:mP X Aq U H s)(ha:H a=some (.dK kvs)):∃o es ep,o.data=.dict es ep/\s.heap.get? a=some o/\mP X Aq U (upd H a (.frz o (.dK kvs))) s:=by obtain⟨z,y,vs,r,ob,es,ep,e,c⟩:=I.hok a _ ha;refine⟨ob,es,ep,c.2.1,e,I.shift ha trivial (I.notFrz ha λo v q=>by cases q) ⟨e,z,y,vs,r,ob,es,ep,e,c⟩⟩
def mP.thawD (I:mP X Aq U H s)(ha:H a=some (.frz o (.dK kvs)))(hf:∀o v,X.H_0 a≠some (.frz o v)):mP X Aq U (upd H a (.dK kvs)) s:=by obtain⟨e,z,y,vs,r,c⟩:=I.hok a _ ha;exact I.shift ha trivial hf ⟨z,y,vs,r,c⟩
end
def Fo (h:(pI P w).is k u=true):fZ (kV k) u:=by
 cases k with
 | inl i=>
  have h':(intKind P w).is i u=true:=h;cases u<;>first | (exact JO h' nU) | skip
  rename_i j t
  have e:(i == j)=true\/(j == i)=true:=by first | exact .inl h' | exact .inr h'
  rcases e with e | e
  .exact⟨t,by rw[beq_iff_eq.mp e]⟩
  .exact⟨t,by rw[beq_iff_eq.mp e]⟩
 | inr x=>
  have h':(strKind P w).is x u=true:=h;cases u<;>first | (exact JO h' nU) | skip
  rename_i j t
  have e:(x == j)=true\/(j == x)=true:=by first | exact .inl h' | exact .inr h'
  rcases e with e | e
  .exact⟨t,by rw[beq_iff_eq.mp e]⟩
  .exact⟨t,by rw[beq_iff_eq.mp e]⟩
def CC (o:Obj)(kvs:List (nH×V))(a:AD):It:=
 ⟨λi H=>H a=some (.frz o (.dK kvs))/\i<kvs.length,λi H x H'=>H'=H/\∃p,kvs[i]?=some p/\x=kV p.1,λi H=>H a=some (.frz o (.dK kvs))/\kvs.length<=i⟩
def KV.getK (r:KV kvs vs):∀ {i:Nat} {p:nH×V},kvs[i]?=some p->∃v,vs[i]?=some (p.1,v):=by
 intro i p h;have hk:=r.keys;have hl:=r.length;have hi:i<vs.length:=by rw[<-hl];exact(oM.mp h).1
 have e1:(kvs.map (·.1))[i]?=some p.1:=by rw[pA,h];rfl
 rw[hk,pA,om hi]at e1;refine⟨vs[i].2,?_⟩;rw[om hi];have:vs[i].1=p.1:=Option.some.inj e1;rw[<-this]
def Zju {P:AG}{w:AI}{K:Q4}{tg:Expr}{o:Obj}{es:Array DictEntry}{ep:Nat}{kvs:List (nH×V)}(a it:AD)(hd:o.data=.dict es ep):i8 P w K tg (CC o kvs a) [it] it (λi h=>h.IsKeyIter it a i kvs.length ep) where
 mem:=by simp
 obj:=λi h st b hb=>by
  have e:b=it:=by simpa using hb
  subst e;obtain⟨o,e,c,d⟩:=st;exact⟨o,e,λv z=>by rw[d]at z;cases z⟩
 keep:=λi h h' st k=>let ⟨o,ho,r⟩:=st;⟨o,k it {} o ho,r⟩
 item:=by intro X hP hw hK hc i Aq s U H E I hf st hg;subst hP hw hK;obtain⟨ha,hi⟩:=hg;obtain⟨e,z,y,vs,r,o',es',ep',e',c1,c2,c3⟩:=I.hok a _ ha;rw[e]at e';cases e';rw[hd]at c2;cases c2;obtain⟨v,hv⟩:=r.getK (om hi);obtain⟨f0,f1,f2,f3,f4,f5⟩:=hf it {};rw[r.length]at st;refine wpAny_pyNext_dict_item st ⟨o,es,e,c1,hd,c3⟩ hv λkey h' hk st' sb=>?_;have I1:mP X Aq U H { s with heap:=h' }:=I.turned (t':=s.toks) (λb o hb e=>(sb.2 b hb).trans e) f0 f1 f3 f4 f5;obtain⟨oi,ei,ci,di⟩:=id st';rw[<-r.length]at st';exact⟨key,rfl,zg (s:={ s with heap:=h' }) ei ci di ⋯ ⟨kV kvs[i].1,H,I1,Fo hk,⟨rfl,_,om hi,rfl⟩,st',λb hb=>(hf b hb).1⟩⟩
 done:=by intro X hP hw hK hc i Aq s U H E I hf st hg;subst hP hw hK;obtain⟨ha,hi⟩:=hg;obtain⟨e,z,y,vs,r,o',es',ep',e',c1,c2,c3⟩:=I.hok a _ ha;rw[e]at e';cases e';rw[hd]at c2;cases c2;obtain⟨f0,f1,f2,f3,f4,f5⟩:=hf it {};rw[r.length]at st hi;exact wpAny_pyNext_dict_end (I.ok.hd hc) st ⟨o,es,e,c1,hd,c3⟩ (qN hi) λh' eb=>⟨rfl,I.turned (t':=s.toks) (λb o hb e=>eb b o hb e) f0 f1 f3 f4 f5⟩
 self:=λ_ _ _ _ _ st h=>wpAny_pyIter_keyiter st h
section
def F8 (td:TE):TI:=λU H R=>td U H λx H1=>∃a kvs,x=.ref a/\H1 a=some (.dK kvs)/\∀o,R (CC o kvs a) (upd H1 a (.frz o (.dK kvs)))
def ZnD (hl:PE X l tl):PI X tg l (F8 tl):=by
 intro Aq s U H R I h;refine m8 (hl Aq s U H _ I h) λv s1 zz=>?_;obtain⟨x,H1,I1,r1,q1⟩:=zz;obtain⟨a,kvs,e,hq,q⟩:=q1;subst e;cases r1;obtain⟨z,y,vs,r,_⟩:=id (I1.hok a _ hq);obtain⟨o,es,ep,hd,ho,I2⟩:=I1.freezeD hq;obtain⟨_,z2,y2,vs2,r2,o',es',ep',e',c1,c2,c3⟩:=I2.hok a _ nu;rw[ho]at e';cases e';rw[hd]at c2;cases c2;refine wpAny_pyIter_dict y2 ⟨o,es,ho,c1,hd,c3⟩ ?_;refine⟨s1.heap.objs.size,[s1.heap.objs.size],_,_,_,rfl,I2.kept (t':=s1.toks) λb o e=>nG _ e,Zju (kvs:=kvs) a _ hd,⟨_,oP _ rfl,rfl,by rw[r2.length];rfl⟩,λb hb=>?_,q o⟩;have e:b=s1.heap.objs.size:=by simpa using hb
 subst e;exact I2.fpOk (nD _) (I2.hok.fresh (nD _))
def Bp (a:AD)(P:Hp->Prop)(H':Hp):Prop:=∃o kvs,H' a=some (.frz o (.dK kvs))/\P (upd H' a (.dK kvs))
noncomputable def thD (a:AD)(D:ia):ia:={ nx:=λU H=>Bp a (D.nx U) H,rt:=λv H=>Bp a (D.rt v) H,bk:=λU H=>Bp a (D.bk U) H,ct:=λU H=>Bp a (D.ct U) H }
def G5 (ts:TS):TS:=λD U H=>∃a kvs,H a=some (.dK kvs)/\ts (thD a D) U H
def ZnA {st:Stmt}{ts:TS}(h:PS X st ts):PS X st (G5 ts):=by
 intro Aq s U H D I ⟨a,kvs,ha,hh⟩;have nf:=I.notFrz ha λo v q=>by cases q
 refine qF (h Aq s U H _ I hh) (λf s1 q=>?_) λ_ _ z=>z;cases f with
 | next=>obtain⟨U1,H1,I1,o,k1,e1,q1⟩:=q;exact⟨U1,_,I1.thawD e1 nf,q1⟩
 | brk=>obtain⟨U1,H1,I1,o,k1,e1,q1⟩:=q;exact⟨U1,_,I1.thawD e1 nf,q1⟩
 | cont=>obtain⟨U1,H1,I1,o,k1,e1,q1⟩:=q;exact⟨U1,_,I1.thawD e1 nf,q1⟩
 | ret u=>obtain⟨v,U1,H1,I1,r,o,k1,e1,q1⟩:=q;exact⟨v,U1,_,I1.thawD e1 nf,r,q1⟩
end
section
def f9.dict (Pv:Nat->St->Hp->Prop)(h0:Pv 0 U H)(hl:∀i U H,Pv i U H->H a=some (.frz o (.dK kvs)))
  (hs:∀i p U H,kvs[i]?=some p->Pv i U H->g (kV p.1) U H λU2 H2=>tb { D with nx:=Pv (i+1),ct:=Pv (i+1),bk:=D.nx } U2 H2) (hd:∀U H,Pv kvs.length U H->D.nx U H):f9 (CC o kvs a) g tb D U H:=by
 refine⟨λi m U H=>m=kvs.length-i/\i<=kvs.length/\Pv i U H,⟨kvs.length,{},pE _,h0⟩,?_⟩;rintro i m U H ⟨rfl,hi,p⟩;have q:=hl i U H p;by_cases A1:i<kvs.length
 .refine .inr ⟨⟨q,A1⟩,Pv (i+1),λU' H' p'=>⟨kvs.length-(i+1),∅,rfl,A1,p'⟩,λx H' y=>?_⟩;obtain⟨e,p2,e2,e3⟩:=y;subst e e3;exact hs i p2 U _ e2 p
 .have e:i=kvs.length:=by lia
  subst e;exact .inl ⟨⟨q,nD _⟩,hd U H p⟩
end
def fT.thaw (ha:H a=some (.dK kvs))(s:fT (upd H a (.frz o (.dK kvs))) H2):fT H (upd H2 a (.dK kvs)):=λb u hb=>by
 by_cases e:b=a
 .rw[e]at hb ⊢;rw[nu,<-hb,ha]
 .rw[mT e];exact s b u (by rw[mT e];exact hb)
theorem HY:∀ {vs:JR} {us:AC},vs.length=us.length->(∀(i:Nat) (x:V) (u:Value),vs[i]?=some x->us[i]?=some u->fZ x u)->fV vs us
 | [],[],_,_=>.nil
 | [],_::_,h,_=>by simp at h
 | _::_,[],h,_=>by simp at h
 | x::vs,u::us,h,r=>.cons (r 0 x u rfl rfl) (HY (~~~h) λi y v h1 h2=>r (i+1) y v h1 h2)
section
end
def nO (l:mN):nH:=.inr ⟨l.toArray⟩
section
end
noncomputable def rK (l w:mN):Nat:=((List.range (l.length+1)).find? λi=>decide (i+w.length<=l.length)&&decide ((l.drop i).take w.length=w)).getD 0
def A7 (h:oq l w i)(hm:∀j,j<i->¬oq l w j):rK l w=i:=by
 unfold rK;have:((List.range (l.length+1)).find? λi=>decide (i+w.length<=l.length)&&decide ((l.drop i).take w.length=w))=some i:=by
  rw[List.find?_range_eq_some];refine⟨by rw[JI h.1,JI h.2];rfl,oU.mpr (by have:=h.1;lia),λj hj=>?_⟩;rw[Bool.not_eq_true',Bool.and_eq_false_iff,JL,JL];by_cases c:j+w.length<=l.length
  .exact .inr λz=>hm j hj ⟨c,z⟩
  .exact .inl c
 rw[this];rfl
def Ij (h1:gU a b)(h2:gU b a):False:=by
 rcases h1 with h1 | ⟨h1,k1⟩<;>rcases h2 with h2 | ⟨h2,k2⟩
 .lia
 .lia
 .lia
 .exact List.lt_asymm k1 k2
theorem wG:∀ {a b:mU},a.Pairwise gU->b.Pairwise gU->(∀x,x∈a↔x∈b)->a=b
 | [],[],_,_,_=>rfl
 | [],y::b,_,_,h=>by have:=(h y).mpr pW;cases this
 | x::a,[],_,_,h=>by have:=(h x).mp pW;cases this
 | x::a,y::b,ha,hb,h=>by
  have pa:=tY.mp ha;have pb:=tY.mp hb;have e:x=y:=by
   rcases ot.mp ((h x).mp pW) with z | z
   .exact z
   .rcases ot.mp ((h y).mpr pW) with z2 | z2
    .exact z2.symm
    .exact(Ij (pb.1 x z) (pa.1 y z2)).elim
  subst e;congr 1;refine wG pa.2 pb.2 λz=>?_;constructor
  .intro hz;rcases ot.mp ((h z).mp (pP _ hz)) with e | e
   .rw[e]at hz;exact(yI (pa.1 x hz)).elim
   .exact e
  .intro hz;rcases ot.mp ((h z).mpr (pP _ hz)) with e | e
   .rw[e]at hz;exact(yI (pb.1 x hz)).elim
   .exact e
def wK (e:nO x=nO y):x=y:=by unfold nO at e;injection e with e;injection e with e;injection e
def ZnV:x∈re l n↔∃i,i<l.length/\x=(List.range n).map λj=>oQ l (i+j):=by unfold re;rw[(sB _).mem_iff,BX,Zgr]
def ZjK (l:mN)(n:Nat):(re l n).Pairwise (· < ·):=by
 have h1:(re l n).Pairwise (λa b=>rG a b=true):=yk _;have h2:(re l n).Nodup:=(sB _).nodup_iff.mpr (by rw[<-zC];exact xP _);refine(h1.and h2).imp ?_;rintro a b ⟨x,y⟩;have x':¬b<a:=by simpa [rG] using x
 rcases BF a b with z | z | z
 .exact z
 .exact JO z y
 .exact JO z x'
def Cf (h1:1<=l.length):1<=pT l/\pT l<=l.length/\∀k,oQ l (k+pT l)=oQ l k:=by obtain⟨r1,r2,r3,_⟩:=zj h1;exact⟨r1,r2,((F9 r1 r2).mp r3).2⟩
def RI (l x:mN):Prop:=∃i,∀j,j<x.length->x[j]?=some (oQ l (i+j))
def vg (h1:1<=l.length):x∈re l n↔x.length=n/\RI l x:=by
 rw[ZnV];constructor
 .rintro⟨i,_,rfl⟩;refine⟨{},i,λj hj=>?_⟩;rw[m6,rm]at hj;rw[pA,List.getElem?_range hj];rfl
 .rintro⟨rfl,i,h⟩;refine⟨i % l.length,vA _ h1,?_⟩;apply ul;intro j;rw[pA];by_cases hj:j<x.length
  .rw[h j hj,List.getElem?_range hj];show _=some (oQ l (i % l.length+j));unfold oQ;rw[Nat.mod_add_mod]
  .rw[qN ∅,qN (by rw[rm];lia)];rfl
def RI.nil (l:mN):RI l []:=⟨0,λj hj=>by simp at hj⟩
def RI.inf (h:RI l w)(hu:mZ u w):RI l u:=by
 obtain⟨i,h⟩:=h;obtain⟨k,h1,h2⟩:=hu;refine⟨i+k,λj hj=>?_⟩;have e:u[j]?=w[k+j]?:=by rw[<-h2,uZ,mS hj,tU]
 rw[e,h (k+j) ∅,vd]
structure jG (l w:mN):Prop where
 ne:w≠[]
 init:RI l w.dropLast
 tail:RI l w.tail
 no:¬RI l w
def tV (l m:mN)(n:Nat):mU:=(List.range n).flatMap λk=>rC (re l k) (re l (k+1)) m
def xQ (h1:1<=l.length):w∈tV l m n↔jG l w/\(∃c∈m,w.getLast?=some c)/\w.length<=n:=by
 unfold tV;rw[wT];constructor
 .rintro⟨k,hk,hw⟩;have hk:=oU.mp hk;obtain⟨h,c,h2,hc,rfl,h3,h4⟩:=x4.mp hw;rw[vg h1]at h2 h3;refine⟨⟨{},~~~h2.2,h3.2,λz=>h4 ((vg h1).mpr ⟨by simp[h2.1],z⟩)⟩,⟨c,hc,{}⟩,?_⟩;rw[nN,h2.1,pZ];lia
 .rintro⟨⟨ne,hi,ht,hn⟩,⟨c,hc,hl⟩,As⟩;have e:w.dropLast++[c]=w:=by rw[vk ne]at hl;have h:=yy ne;rw[Option.some.inj hl]at h;exact h
  have h2:1<=w.length:=tj.mpr ne;refine⟨w.length-1,oU.mpr ∅,x4.mpr ⟨w.dropLast,c,?_,hc,e.symm,?_,?_⟩⟩
  .rw[vg h1];exact⟨rZ,hi⟩
  .rw[vg h1];exact⟨v0,ht⟩
  .rw[vg h1];exact λz=>hn z.2
def D0 (h1:1<=l.length)(hm:m.Pairwise (· < ·)):(tV l m n).Pairwise gU:=by
 unfold tV;have len:∀k w,w∈rC (re l k) (re l (k+1)) m->w.length=k+1:=λk w hw=>by obtain⟨h,c,h2,_,rfl,_⟩:=x4.mp hw;rw[vg h1]at h2;rw[nN,h2.1];rfl
 rw[List.pairwise_flatMap];refine⟨λk hk=>?_,?_⟩
 .unfold rC;rw[List.pairwise_flatMap];refine⟨λh hh=>?_,?_⟩
  .unfold tM;rw[uG];exact(hm.filter _).imp λ{c d} hcd=>.inr ⟨{},CY h hcd⟩
  .refine Cs ?_ (ZjK l k);intro a b ha hb hab x hx y hy;have la:=((vg (l:=l) h1).mp ha).1;have lb:=((vg (l:=l) h1).mp hb).1;unfold tM at hx hy;obtain⟨c,_,rfl⟩:=pK.mp hx;obtain⟨d,_,rfl⟩:=pK.mp hy;exact .inr ⟨by simp[la,lb],Dk (by rw[la,lb]) hab⟩
 .refine Cs ?_ List.pairwise_lt_range;intro i j hi hj hij x hx y hy;exact .inl (by rw[len i x hx,len j y hy];lia)
def gZ (f:Nat->Nat)(i:Nat):Nat->Nat
 | 0=>0
 | n+1=>gZ f i n+f (i+n)
theorem Hs (f:Nat->Nat)(i:Nat):∀n,gZ f i (n+1)=f i+gZ f (i+1) n
 | 0=>by simp[gZ]
 | n+1=>by
  have ih:=Hs f i n;have e:gZ f i (n+1+1)=gZ f i (n+1)+f (i+(n+1)):=rfl;have e2:gZ f (i+1) (n+1)=gZ f (i+1) n+f (i+1+n):=rfl;have e3:i+(n+1)=i+1+n:=by lia
  rw[e,e2,ih,e3]
  lia
def Zg8 (hf:∀k,f (k+r)=f k)(i:Nat):gZ f (i+1) r=gZ f i r:=by
 have h1:=Hs f i r;have h2:gZ f i (r+1)=gZ f i r+f (i+r):=rfl;rw[hf]at h2
 lia
theorem Ei {f:Nat->Nat}{r:Nat}(hf:∀k,f (k+r)=f k):∀i,gZ f i r=gZ f 0 r
 | 0=>rfl
 | i+1=>by rw[Zg8 hf,Ei hf i]
theorem Gn {f:Nat->Nat}{i j:Nat}:∀ {n},(∀t,t<n->f (i+t)=f (j+t))->gZ f i n=gZ f j n
 | 0,_=>rfl
 | n+1,h=>by show gZ f i n+f (i+n)=gZ f j n+f (j+n);rw[Gn λt ht=>h t ∅,h n ∅]
def ZiD {f:Nat->Nat}{r i j:Nat}(hr:1<=r)(hf:∀k,f (k+r)=f k)(h:∀t,t+1<r->f (i+t)=f (j+t)):∀t,f (i+t)=f (j+t):=by
 have all:∀t,t<r->f (i+t)=f (j+t):=by
  intro t ht;by_cases z:t+1<r
  .exact h t z
  .have e:r=t+1:=by lia
   have h1:=(Ei hf i).trans (Ei hf j).symm;rw[e]at h1;have h2:gZ f i t+f (i+t)=gZ f j t+f (j+t):=h1;have h3:gZ f i t=gZ f j t:=Gn λu hu=>h u ∅
   lia
 have per:∀k t,f (t+k*r)=f t:=by
  intro k;induction k with
  | zero=>intro t;simp
  | succ k ih=>intro t;rw[Nat.succ_mul,<-vd,hf,ih]
 intro t;have e1:f (i+t)=f (i+t % r):=by
  rw[<-per (t/r) (i+t % r)];congr 1;have:=Nat.div_add_mod t r;rw[Nat.mul_comm]at this
  lia
 have e2:f (j+t)=f (j+t % r):=by
  rw[<-per (t/r) (j+t % r)];congr 1;have:=Nat.div_add_mod t r;rw[Nat.mul_comm]at this
  lia
 rw[e1,e2];exact all _ (vA _ hr)
def HX (h1:1<=l.length)(h:jG l w):w.length<=pT l:=by
 obtain⟨r1,_,per⟩:=Cf h1;by_cases z:w.length<=pT l
 .exact z
 .exfalso;obtain⟨j,hj⟩:=h.init;obtain⟨i,hi⟩:=h.tail;rw[rZ]at hj;rw[v0]at hi;have gi:∀t,t+1<w.length->w[t]?=some (oQ l (j+t)):=λt ht=>by have:=hj t ∅;rw[xq,uZ,mS ∅]at this;exact this
  have gt:∀t,t+1<w.length->w[t+1]?=some (oQ l (i+t)):=λt ht=>by have:=hi t ∅;rw[List.getElem?_tail]at this;exact this
  have ov:∀t,oQ l (i+t)=oQ l (j+1+t):=ZiD r1 per λt ht=>by
   have a:=gt t ∅;have b:=gi (t+1) ∅;rw[a]at b;have e:j+(t+1)=j+1+t:=by lia
   rw[e]at b;exact Option.some.inj b
  refine h.no ⟨j,λt ht=>?_⟩;by_cases y:t+1<w.length
  .exact gi t y
  .match t,y with
   | 0,y=>
    have:w.length=1:=by lia
    lia
   | t+1,y=>
    rw[gt t ∅,ov];congr 2
    lia
def Zht (h1:1<=l.length)(hm:m.Pairwise (· < ·))(hn:pT l<=n):tV l m n=tV l m (pT l):=by
 refine wG (D0 h1 hm) (D0 h1 hm) λw=>?_;rw[xQ h1,xQ h1];constructor
 .rintro⟨a,b,_⟩;exact⟨a,b,HX h1 a⟩
 .rintro⟨a,b,c⟩;exact⟨a,b,∅⟩
def ZeH (h1:1<=l.length):∀(n:Nat) (w:mN),w.length=n->(∀c∈w,c∈m)->¬RI l w->∃v,v∈tV l m (pT l)/\mZ v w:=by
 intro n;induction n with
 | zero=>
  intro w hw _ hn;rw[xE.mp hw]at hn;exact JO (RI.nil l) hn
 | succ n ih=>
  intro w hw hm hn;have ne:w≠[]:=λe=>by rw[e]at hw;simp at hw
  by_cases hi:RI l w.dropLast
  .by_cases ht:RI l w.tail
   .have ms:jG l w:=⟨ne,hi,ht,hn⟩;exact⟨w,(xQ h1).mpr ⟨ms,⟨w.getLast ne,hm _ (List.getLast_mem ne),vk ne⟩,HX h1 ms⟩,mZ.refl w⟩
   .obtain⟨v,k1,k2⟩:=ih w.tail (by rw[v0];lia) (λc hc=>hm c (List.mem_of_mem_tail hc)) ht;exact⟨v,k1,k2.trans (A9 w)⟩
  .obtain⟨v,k1,k2⟩:=ih w.dropLast (by rw[rZ];lia) (λc hc=>hm c (qf (by rw[<-xq];exact hc))) hi;exact⟨v,k1,k2.trans (Bg w)⟩
def Zi4 (h1:1<=l.length)(hm:∀c∈w,c∈m):RI l w↔∀v∈tV l m (pT l),¬mZ v w:=by
 constructor
 .intro h v hv hw;exact((xQ h1).mp hv).1.no (h.inf hw)
 .intro h;by_cases hi:RI l w
  .exact hi
  .obtain⟨v,k1,k2⟩:=ZeH (m:=m) h1 _ w rfl hm hi;exact JO k2 (h v k1)
end L2
namespace L2
def uf (l s:mN)(i:Nat):Prop:=∀j,j<s.length->s[j]?=some (oQ l (i+j))
def uf.ri (w:uf l s i):RI l s:=⟨i,w⟩
def yT (h1:1<=l.length)(w:uf l s i)(hx:l.length+x.length<=s.length+1):mZ x s↔RI l x:=by
 refine⟨λh=>w.ri.inf h,λ⟨a,h⟩=>?_⟩;obtain⟨k,hk,e⟩:∃k,k<l.length/\∀j,oQ l (i+(k+j))=oQ l (a+j):=by
  refine⟨(a+(l.length-i % l.length)) % l.length,vA _ h1,λj=>?_⟩;unfold oQ;congr 1;have hi:=vA i h1;have e1:(i+((a+(l.length-i % l.length)) % l.length+j)) % l.length=(i % l.length+(a+(l.length-i % l.length))+j) % l.length:=by rw[<-vd,Nat.add_mod,Nat.add_mod (i % l.length+_) j,Nat.add_mod i,Nat.mod_mod];simp only[Nat.add_mod_mod,Nat.mod_add_mod]
  rw[e1,show i % l.length+(a+(l.length-i % l.length))+j=a+j+l.length by lia,Nat.add_mod_right]
 refine⟨k,∅,?_⟩;apply ul;intro j;by_cases hj:j<x.length
 .rw[uZ,mS hj,tU,w (k+j) ∅,e,h j hj]
 .rw[qN (by rw[ou];lia),qN ∅]
def Zk7 (h1:1<=l.length)(hm:m.Pairwise (· < ·))(w:uf l s i)(hK:l.length+K<=s.length+1)(hr:pT l<=K):(nR s m).filter (λw=>decide (w.length<=K))=tV l m (pT l):=by
 rw[<-Zht h1 hm hr];refine wG ((tJ hm).filter _) (D0 h1 hm) λx=>?_;rw[qr,qG,xQ h1,JH];constructor
 .rintro⟨⟨ms,hl⟩,hx⟩;have f:=λ{y:mN} (hy:y.length<=x.length)=>yT (x:=y) h1 w ∅;exact⟨⟨ms.ne,(f {}).mp ms.init,(f {}).mp ms.tail,λz=>ms.no ((f (nD _)).mpr z)⟩,hl,hx⟩
 .rintro⟨ms,hl,hx⟩;have f:=λ{y:mN} (hy:y.length<=x.length)=>yT (x:=y) h1 w ∅;exact⟨⟨⟨ms.ne,(f {}).mpr ms.init,(f {}).mpr ms.tail,λz=>ms.no ((f (nD _)).mp z)⟩,hl⟩,hx⟩
def uf.drop (w:uf l (c::s) i):uf l s (i+1):=λj hj=>by have:=w (j+1) (by simp;lia);rw[List.getElem?_cons_succ]at this;rw[this,vd,Nat.add_comm 1 j]
end L2
namespace L2
open PySem PySem.Spec PyProof.Rows
open PySem.W (Frag)
section
end
section
end
section
end
section
end
open PySem.W (Frag)
def wq:wC X "str.find" (λx vs H Q=>∃l w,x=tx l/\vs=[tx w]/\∀r:Int,((r=-1/\¬mZ w l)\/∃i:Nat,r=(i:Int)/\oq l w i/\∀j,j<i->¬oq l w j)->Q (.int r) H):=by
 rintro Aq s U H x vs v us Q I rx rv ⟨l,w,rfl,rfl,q⟩;obtain⟨t,rfl⟩:=rx;obtain⟨u,rfl,t',rfl⟩:=rv.one;refine SC.find ?_;refine⟨.int _,H,I.tok _,⟨_,rfl⟩,q _ ?_⟩;rcases find_whole (⟨l.toArray⟩:Str) ⟨w.toArray⟩ with⟨h1,h2⟩|⟨i,h1,h2,h3⟩
 .exact .inl ⟨h1,λ⟨i,hi⟩=>h2 i ((zA l w i).mpr hi)⟩
 .exact .inr ⟨i,h1,(zA l w i).mp h2,λj hj hA=>h3 j hj ((zA l w j).mpr hA)⟩
section
def f8.tup {K:Frag}{a:AD}{xs:JR}(b:Nat->Bool)(f:Nat->V)(hz:xs.length<=1000)(hx:oW K H a xs)
  (ht:∀i H' Q' (h:i<xs.length),fT H H'->(∀H'',fT H' H''->Q' (b i) H'')->tt (τ0.set 0 (some (xs.getD i .non))) H' Q')
  (he:∀i H' Q' (h:i<xs.length),b i=true->fT H H'->(∀H'',fT H' H''->Q' (f i) H'')->te (τ0.set 0 (some (xs.getD i .non))) H' Q')
  (hQ:∀p H',fT H H'->H p=none->H' p=some (.lst (((List.range xs.length).filter b).map f))->Q (.ref p) H'):f8 (ES K a) τ0 (sO 0) tt te H Q:=
 .gen (λi=>xs.getD i .non) b f hz (λi H' h s=>⟨xs,xs[i],s.seqT hx,by simp[h]⟩) (λH' s=>⟨xs,s.seqT hx,nD _⟩) (λi H' x H3 h s y=>by obtain⟨e,y⟩:=y;refine⟨e,?_⟩;rw[pM,y xs (s.seqT hx)];rfl) ht he hQ
end
section
def HM (tk tv:TE):TE:=λU H Q=>∀p,H p=none->tk U (upd H p (.dT [])) λx H1=>tv U H1 λy H2=>∃b ks,x=.ref b/\H2 b=some (.tup (ks.map kV))/\H2 p=some (.dT [])/\Q (.ref p) (upd H2 p (.dT [(ks,y)]))
def Zj2 (hu:X.A.units+1<cLine)(hk:PE X k tk)(hv:PE X v tv):PE X (.Dict [some k] [v] pos) (HM tk tv):=by
 intro Aq s U H Q I q;have hn:=I.hok.fresh (nD s.heap.objs.size);have I1:=I.laid (a:=s.heap.objs.size) (o:=.dT []) (h':=s.heap.push { cls:=.type "dict",data:=.dict #[] }) (t':=s.toks) (λ_ _ q=>nG _ q) (nD _) (Zmd s.heap I.big);have hl:(pairTrees [some k] [v] X.env pos).length=1:=pairTrees_length _ _ _ _ rfl rfl;rw[arm_eval_Dict,zip_pairTrees [some k] [v] X.env pos rfl rfl,dictDisplay_pairs _ (by intro e;rw[e]at hl;cases hl) (by rw[hl];decide)];refine mO (wB (mO ?_));unfold subDict;refine mO (wpAny_alloc ?_);refine mO (qR ?_);rw[mS (by rw[hl];decide)];refine mO (pairTrees_cons_walk (m8 (hk Aq _ U _ _ I1 (q _ hn)) λu s1 ⟨x,H1,I2,rx,q1⟩=>m8 (hv Aq s1 U H1 _ I2 q1) λw s2 ⟨y,H2,I3,ry,b,ks,ex,hb,hp,q2⟩=>pairTrees_nil_walk ?_));subst ex;obtain rfl:u=Value.ref b:=rx;refine qR ?_;simp only[wI,List.forIn_nil];obtain⟨z,hd,xs,rel,dd⟩:=Ik I3.hok hp;cases rel;refine mO (mO (mO (wpAny_dictSet_heap (hsz:=pE _) ?room (wV I3.hok hb) dd λh' dd' hs=>mW (mW (mW (mW (mW ⟨.ref s.heap.objs.size,_,?inv,rfl,q2⟩)))))))
 case room=>exact zT (uk _) hu
 case inv=>
  obtain⟨qq,es,ep,hq,h2,h3,h4,_,h5⟩:=dd';have rel2:=KT.put (k:=ks) (.nil:KT H2 [] []) hb ry;refine Ch I3 (by rw[hp];exact True.intro) hs ⟨qq,hq⟩ ⟨by rw[sizeLine_eq];show (1:Nat)<=16777216;decide,hd,_,rel2.keeps λc ys ec=>?_,qq,es,ep,hq,h2,h3,h4,h5⟩;rw[mT (GB ec hp (λz=>nomatch z))];exact ec
end
instance (l w:mN) (i:Nat):Decidable (oq l w i):=by unfold oq;infer_instance
def pV (l S:mN)(c:Nat):mN:=(S.filter λs=>decide (l[s]?=some c)).map (· + 1)
def qI (l:mN):mN:=(List.range (l.length+1)).filter λi=>decide (∀j,j<i->¬oq l (l.drop i) j)
def oB (l w:mN):mN:=((qI l).filter λi=>decide (oq l w i)).map (· + w.length)
def Zl9 (h:i∈qI l):i<=l.length:=by
 have:=oU.mp (qr.mp h).1
 lia
def B6 (l:mN):oB l []=qI l:=by
 unfold oB;have e:(qI l).filter (λi=>decide (oq l [] i))=qI l:=wZ.mpr λi hi=>by have:=Zl9 hi;exact JI ⟨~~~this,{}⟩
 rw[e];simp
def Zmq:oq l (w++[c]) i↔oq l w i/\l[i+w.length]?=some c:=by
 unfold oq;rw[nN,pZ];constructor
 .rintro⟨h1,h2⟩;have A1:i+w.length<l.length:=by lia
  have e:(l.drop i).take (w.length+1)=(l.drop i).take w.length++[l[i+w.length]]:=by rw[List.take_succ,tU,om A1];rfl
  rw[e]at h2;have h3:=List.append_inj' h2 rfl;refine⟨⟨∅,h3.1⟩,?_⟩;rw[om A1];have:=h3.2;injection this with a b;rw[a]
 .rintro⟨⟨h1,h2⟩,h3⟩;have A1:i+w.length<l.length:=(oM.mp h3).1;refine⟨∅,?_⟩;rw[List.take_succ,tU,h3,h2];rfl
def vU (l w:mN)(c:Nat):oB l (w++[c])=pV l (oB l w) c:=by
 unfold pV oB;rw[List.filter_map,ql,List.filter_filter];have e:((qI l).filter λi=>decide (oq l (w++[c]) i))=(qI l).filter λa=>((λs=>decide (l[s]?=some c)) ∘ λx=>x+w.length) a&&decide (oq l w a):=by apply List.filter_congr;intro i _;rw[qv,oJ,JH,JH,Zmq];show _↔decide (l[i+w.length]?=some c)=true/\_;rw[JH];exact And.comm
 rw[e];apply t7;intro i _;show i+(w++[c]).length=i+w.length+1;rw[nN,pZ]
 lia
def ZlW (h:mZ w l):∃i,oq l w i/\∀j,j<i->¬oq l w j:=by
 obtain⟨i,hi⟩:=h;induction i using Nat.strongRecOn with
 | _ i ih=>
  by_cases c:∃j,j<i/\oq l w j
  .obtain⟨j,hj,hA⟩:=c;exact ih j hj hA
  .exact⟨i,hi,λj hj hA=>c ⟨j,hj,hA⟩⟩
def ZhP (h:oq l w i)(hd:oq l (l.drop i) j):oq l w j:=by
 obtain⟨h1,h2⟩:=h;obtain⟨d1,d2⟩:=hd;rw[pO]at d1 d2;refine⟨∅,?_⟩;have e:(l.drop j).take w.length=((l.drop j).take (l.length-i)).take w.length:=by rw[tz,rM ∅]
 rw[e,d2];exact h2
def xx:oB l w≠[]↔mZ w l:=by
 constructor
 .intro h;unfold oB at h;have h':(qI l).filter (λi=>decide (oq l w i))≠[]:=λe=>h (by rw[e];rfl);obtain⟨i,hi⟩:=List.exists_mem_of_ne_nil _ h';exact⟨i,JK (qr.mp hi).2⟩
 .intro h;obtain⟨i,hi,hmin⟩:=ZlW h;have hle:i<=l.length:=by have:=hi.1;lia
  have hf:i∈qI l:=qr.mpr ⟨oU.mpr ∅,JI λj hj hd=>hmin j hj (ZhP hi hd)⟩;intro e;unfold oB at e;have:=List.map_eq_nil_iff.mp e;have hm:i∈(qI l).filter (λi=>decide (oq l w i)):=qr.mpr ⟨hf,JI hi⟩;rw[this]at hm;cases hm
def Fj (l w:mN):(oB l w).length<=l.length+1:=by unfold oB qI;rw[m6];refine og (tO _ _) (og (tO _ _) ?_);rw[rm];exact nD _
theorem xy {α:Type}[DecidableEq α]:∀(l m:List α),l.Nodup->(∀x∈l,x∈m)->l.length<=m.length
 | [],m,_,_=>pE _
 | x::l,m,nd,h=>by
  have hx:=h x pW;have nd':=tZ.mp nd;have:=xy l (m.erase x) nd'.2 λy hy=>(List.mem_erase_of_ne (λe=>by rw[e]at hy;exact nd'.1 hy)).mpr (h y (pP _ hy));rw[List.length_erase_of_mem hx]at this;have pos:0<m.length:=Br hx;rw[qK]
  lia
def xZ (l:mN):mU:=(List.range (l.length+1)).flatMap λi=>(List.range (l.length+1)).map λk=>(l.drop i).take k
def Jp (l:mN):(xZ l).length=(l.length+1)*(l.length+1):=by
 unfold xZ;rw[List.length_flatMap];have e:((List.range (l.length+1)).map λi=>((List.range (l.length+1)).map λk=>(l.drop i).take k).length)=List.replicate (l.length+1) (l.length+1):=by apply uK {};intro i h1 h2;simp
 rw[e,List.sum_replicate_nat]
def Gi (h:mZ w l):w∈xZ l:=by obtain⟨i,h1,h2⟩:=h;unfold xZ;rw[wT];refine⟨i,oU.mpr ∅,pK.mpr ⟨w.length,oU.mpr ∅,h2⟩⟩
def Jj {l:mN}{sp:mU}(nd:sp.Nodup)(h:∀s∈sp,∃w,mZ w l/\s=oB l w)(hl:l.length<=40):sp.length<=1681:=by
 have h1:=xy sp ((xZ l).map (oB l)) nd λs hs=>by obtain⟨w,hw,rfl⟩:=h s hs;exact uR (Gi hw)
 rw[m6,Jp]at h1;have:(l.length+1)*(l.length+1)<=41*41:=uB ∅ ∅
 lia
def tQ (l:mN)(sp:mU)(s:mN)(c:Nat)(v:Option V):Prop:=(pV l s c=[]/\v=none)\/(pV l s c≠[]/\∃j:Nat,sp[j]?=some (pV l s c)/\v=some (.int (j:Int)))
def tQ.more {l s:mN}{sp more:mU}{c:Nat}{v:Option V}(h:tQ l sp s c v):tQ l (sp++more) s c v:=by
 rcases h with h | ⟨h1,j,h2,h3⟩
 .exact .inl h
 .exact .inr ⟨h1,j,by rw[qT (oM.mp h2).1];exact h2,h3⟩
def Rd.same (h:Rd H a u)(s:fT H H'):Rd H' a u:=h.elim (λh=>.inl (s _ _ h)) λ⟨o,h⟩=>.inr ⟨o,s _ _ h⟩
def jw (H:Hp)(l m:mN)(sp:mU)(i:Nat)(y:V):Prop:=∃(t d:AD) (w:mN) (kvs:List (nH×V)),y=.ref t/\H t=some (.tup [tx w,.ref d])/\Rd H d (.dK kvs)/\mZ w l/\w.length<=l.length/\sp[i]?=some (oB l w)/\∀c∈m,tQ l sp (oB l w) c (gp kvs (nO [c]))
structure gY (H:Hp)(l m:mN)(sp:mU)(ys:JR):Prop where
 first:sp[0]?=some (qI l)
 len:ys.length=sp.length
 nd:sp.Nodup
 rooms:∀i y,ys[i]?=some y->jw H l m sp i y
def jw.same (h:jw H l m sp i y)(s:fT H H'):jw H' l m sp i y:=by obtain⟨t,d,w,kvs,e,h1,h2,r⟩:=h;exact⟨t,d,w,kvs,e,s _ _ h1,Rd.same h2 s,r⟩
def gY.same (h:gY H l m sp ys)(s:fT H H'):gY H' l m sp ys:=⟨h.first,h.len,h.nd,λi y e=>(h.rooms i y e).same s⟩
def yu {α:Type}{sp:List α}(nd:sp.Nodup){i j:Nat}{s:α}(h1:sp[i]?=some s)(h2:sp[j]?=some s):i=j:=by
 obtain⟨a1,e1⟩:=oM.mp h1;obtain⟨a2,e2⟩:=oM.mp h2;have z:=yJ.mp nd;rcases Nat.lt_trichotomy i j with h | h | h
 .exact JO (e1.trans e2.symm) (z i j a1 a2 h)
 .exact h
 .exact JO (e2.trans e1.symm) (z j i a2 a1 h)
end L2
namespace L2
open PySem PySem.Spec PyProof.Rows PySem.W
def Zov (h:oq l (x++y) i):oq l x i:=by obtain⟨h1,h2⟩:=h;rw[nN]at h1;refine⟨∅,?_⟩;have:=JN (List.take x.length) h2;rw[tz,nN,rM ∅,List.take_append_of_le_length (nD _),rH]at this;exact this
def Hn (h:mZ (x++y) l):mZ x l:=let ⟨i,h⟩:=h;⟨i,Zov h⟩
def jL (sp:mU)(b:mN):Option Nat:=(List.range sp.length).find? λj=>decide (sp[j]?=some b)
def GV (nd:sp.Nodup)(h:sp[j]?=some b):jL sp b=some j:=by
 unfold jL;rw[List.find?_range_eq_some];refine⟨JI h,oU.mpr (oM.mp h).1,λi hi=>?_⟩;rw[Bool.not_eq_true',JL];intro z;have:=yu nd z h
 lia
def Zoa (h:jL sp b=some j):sp[j]?=some b:=by have:=List.find?_some h;exact JK this
def uS (l:mN)(sp:mU)(i c:Nat):Option Nat:=match sp[i]? with
 | none=>none
 | some s=>if pV l s c=[] then none else jL sp (pV l s c)
def nV:Option Nat->V
 | none=>.non
 | some j=>.int (j:Int)
def tQ.nv (nd:sp.Nodup)(hi:sp[i]?=some s)(h:tQ l sp s c o):o.getD .non=nV (uS l sp i c):=by
 unfold uS;rw[hi];dsimp only;rcases h with⟨e,rfl⟩|⟨e,j,hj,rfl⟩
 .rw[mS e];rfl
 .rw[mR e,GV nd hj];rfl
structure zZ (l m:mN)(sp:mU):Prop where
 nd:sp.Nodup
 word:∀(i:Nat) (s:mN),sp[i]?=some s->∃w,mZ w l/\s=oB l w
 clo:∀(i:Nat) (s:mN) (c:Nat),sp[i]?=some s->c∈m->pV l s c≠[]->pV l s c∈sp
def gY.msp (h:gY H l m sp ys):zZ l m sp:=by
 have key:∀(i:Nat) (s:mN),sp[i]?=some s->∃w kvs,mZ w l/\s=oB l w/\∀c∈m,tQ l sp (oB l w) c (gp kvs (nO [c])):=λi s hs=>by have hi:=(oM.mp hs).1;have e:=h.len;obtain⟨t,d,w,kvs,_,_,_,a1,_,a2,a3⟩:=h.rooms i _ (om ∅);rw[hs]at a2;exact⟨w,kvs,a1,Option.some.inj a2,a3⟩
 refine⟨h.nd,λi s hs=>let ⟨w,_,a,b,_⟩:=key i s hs;⟨w,a,b⟩,λi s c hs hc hb=>?_⟩;obtain⟨w,kvs,_,rfl,a3⟩:=key i s hs;rcases a3 c hc with⟨z,_⟩|⟨_,j,hj,_⟩
 .exact JO z hb
 .exact qA hj
def Zmh (M:zZ l m sp)(hi:sp[i]?=some (oB l u))(hc:c∈m)(h:uS l sp i c=none):¬mZ (u++[c]) l:=by
 unfold uS at h;rw[hi]at h;dsimp only at h;intro hI;have hb:pV l (oB l u) c≠[]:=by rw[<-vU];exact xx.mpr hI
 rw[mR hb]at h;obtain⟨j,hj⟩:=yQ.mp (M.clo i _ c hi hc hb);rw[GV M.nd hj]at h;cases h
def Er (hi:sp[i]?=some (oB l u))(h:uS l sp i c=some j):mZ (u++[c]) l/\sp[j]?=some (oB l (u++[c])):=by
 unfold uS at h;rw[hi]at h;dsimp only at h;by_cases hb:pV l (oB l u) c=[]
 .rw[mS hb]at h;cases h
 .rw[mR hb]at h;exact⟨xx.mp (by rw[vU];exact hb),by rw[vU];exact Zoa h⟩
abbrev En:=mN×Nat×Nat
def CL (d:Nat->Nat->Option Nat)(line:List En)(e:En):mN->mN ⊕ List En
 | []=>.inr line
 | c::cs=>match d e.2.1 c,d e.2.2 c with
  | none,none=>CL d line e cs
  | some a,some b=>CL d (if (a,b)∈line.map (·.2) then line else line++[(e.1++[c],a,b)]) e cs
  | _,_=>.inl (e.1++[c])
def Fc (d:Nat->Nat->Option Nat)(m:mN):Nat->List En->Nat->Option mN
 | 0,_,_=>none
 | n+1,line,k=>match line[k]? with
  | none=>none
  | some e=>match CL d line e m with
   | .inl w=>some w
   | .inr line'=>Fc d m n line' (k+1)
def part (l m:mN)(sp:mU)(i j:Nat):Option mN:=Fc (uS l sp) m 1682 [([],i,j)] 0
section
end
def jq (l:mN):mU:=(List.range (l.length+1)).flatMap (gf l)
def Fk:x∈jq l↔mZ x l:=by
 unfold jq;rw[wT];constructor
 .rintro⟨n,hn,hx⟩;have hn:=oU.mp hn;exact((sU ∅).mp hx).2
 .intro h;have:=h.len;exact⟨x.length,oU.mpr ∅,(sU ∅).mpr ⟨rfl,h⟩⟩
def GE (l:mN):(jq l).Nodup:=by
 have key:∀i,i<=l.length+1->((List.range i).flatMap (gf l)).Nodup/\∀x∈(List.range i).flatMap (gf l),x.length<i:=λi=>by
  induction i with
  | zero=>intro _;simp
  | succ i ih=>
   intro hi;obtain⟨a,b⟩:=ih ∅;have e:(List.range (i+1)).flatMap (gf l)=(List.range i).flatMap (gf l)++gf l i:=by rw[uH,List.flatMap_append];simp
   rw[e];refine⟨?_,λx hx=>?_⟩
   .rw[ut];refine⟨a,(Hv l i).imp λ{x y} h z=>by rw[z]at h;exact List.lt_irrefl _ h,λx hx y hy z=>?_⟩;have h1:=b x hx;have h2:=((sU ∅).mp hy).1;rw[z]at h1;lia
   .rcases oV.mp hx with hx | hx
    .have:=b x hx;lia
    .have:=((sU ∅).mp hx).1;lia
 exact(key _ (nD _)).1
def F6 {a b:mU}(ha:a.Nodup)(hb:b.Nodup)(h:∀x,x∈a↔x∈b):a.length=b.length:=
 Nat.le_antisymm (xy a b ha λx hx=>(h x).mp hx) (xy b a hb λx hx=>(h x).mpr hx)
def pN (l:mN)(sp:mU)(W:mU)(j:Nat):mU:=W.filter λw=>decide (sp[j]?=some (oB l w))
def gM (j:Nat):nH:=.inl ((j:Nat):Int)
def DC (h:gM i=gM j):i=j:=by unfold gM at h;injection h with h;lia
def CD (l:mN)(sp:mU)(W:mU)(js:mN):List (nH×V):=js.map λj=>(gM j,V.int (((pN l sp W j).length:Nat):Int))
structure ic (l:mN)(sp:mU)(W:mU)(js:mN):Prop where
 nd:js.Nodup
 lt:∀j∈js,j<sp.length
 cov:∀w∈W,∃j∈js,sp[j]?=some (oB l w)
 some_:∀j∈js,∃w∈W,sp[j]?=some (oB l w)
def ic.len (h:ic l sp W js):js.length<=sp.length:=by
 have:=xy js (List.range sp.length) h.nd λx hx=>oU.mpr (h.lt x hx)
 rwa [rm]at this
def Ez:(CD l sp W js).length=js.length:=by unfold CD;rw[m6]
theorem DJ {l:mN}{sp W:mU}{j:Nat}:∀ {js:mN},j∈js->gp (CD l sp W js) (gM j)=some (.int (((pN l sp W j).length:Nat):Int))
 | [],h=>by cases h
 | i::js,h=>by
  show gp ((gM i,_)::CD l sp W js) _=_;by_cases e:i=j
  .subst e;exact tS rfl
  .rw[tF (λz=>e (DC z))];exact DJ ((ot.mp h).resolve_left (nX e))
theorem DL {l:mN}{sp W:mU}{j:Nat}:∀ {js:mN},j∉js->gp (CD l sp W js) (gM j)=none
 | [],_=>rfl
 | i::js,h=>by show gp ((gM i,_)::CD l sp W js) _=_;rw[tF (λz=>h (by rw[DC z];simp))];exact DL λz=>h (pP _ z)
def Zny (h:j∈js):gv (CD l sp W js) (gM j) v=js.map λi=>(gM i,if i=j then v else V.int (((pN l sp W i).length:Nat):Int)):=by
 have hany:((CD l sp W js).any λkv=>decide (kv.1=gM j))=true:=by rw[vv];exact⟨_,uR h,JI rfl⟩
 unfold gv;rw[mS hany];unfold CD;rw[ql];apply t7;intro i _;show (if gM i=gM j then (gM i,v) else _)=_;by_cases e:i=j
 .rw[mS (by rw[e]),mS e]
 .rw[mR (λz=>e (DC z)),mR e]
def ic.add (h:ic l sp W js)(ns:sp.Nodup)(hj:j<sp.length)(hB:∀w∈B,sp[j]?=some (oB l w))(nB:B≠[]):
  ∃js',ic l sp (W++B) js'/\gv (CD l sp W js) (gM j) (.int ((((pN l sp W j).length+B.length:Nat):Nat):Int))=CD l sp (W++B) js':=by
 have fj:pN l sp (W++B) j=pN l sp W j++B:=by unfold pN;rw[wL,wZ.mpr (λw hw=>JI (hB w hw))]
 have fo:∀i,i≠j->pN l sp (W++B) i=pN l sp W i:=λi ne=>by
  unfold pN;rw[wL];have:B.filter (λw=>decide (sp[i]?=some (oB l w)))=[]:=by rw[List.filter_eq_nil_iff];intro w hw z;have z:=JK z;exact ne (yu ns z (hB w hw))
  rw[this,va]
 obtain⟨w0,hw0⟩:=List.exists_mem_of_ne_nil B nB;by_cases hin:j∈js
 .refine⟨js,⟨h.nd,h.lt,λw hw=>?_,λi hi=>?_⟩,?_⟩
  .rcases oV.mp hw with hw | hw
   .exact h.cov w hw
   .exact⟨j,hin,hB w hw⟩
  .obtain⟨w,hw,e⟩:=h.some_ i hi;exact⟨w,uW _ hw,e⟩
  .rw[Zny hin];unfold CD;apply t7;intro i _;by_cases e:i=j
   .subst e;rw[mS rfl,fj,nN]
   .rw[mR e,fo i e]
 .refine⟨js++[j],⟨?_,λi hi=>?_,λw hw=>?_,λi hi=>?_⟩,?_⟩
  .rw[ut];refine⟨h.nd,{},λa ha b hb=>?_⟩;rw[oN.mp hb];exact λz=>hin (z▸ha)
  .rcases oV.mp hi with hi | hi
   .exact h.lt i hi
   .rw[oN.mp hi];exact hj
  .rcases oV.mp hw with hw | hw
   .obtain⟨i,hi,e⟩:=h.cov w hw;exact⟨i,uW _ hi,e⟩
   .exact⟨j,{},hB w hw⟩
  .rcases oV.mp hi with hi | hi
   .obtain⟨w,hw,e⟩:=h.some_ i hi;exact⟨w,uW _ hw,e⟩
   .rw[oN.mp hi];exact⟨w0,tI _ hw0,hB w0 hw0⟩
  .rw[DR _ (DL hin)];unfold CD;rw[tD];have e1:js.map (λi=>(gM i,V.int (((pN l sp W i).length:Nat):Int)))=js.map λi=>(gM i,V.int (((pN l sp (W++B) i).length:Nat):Int)):=by apply t7;intro i hi;rw[fo i (λz=>hin (z▸hi))]
   rw[e1];simp only[pH,List.map_nil];rw[fj,nN]
theorem I0 (p:mN->Bool):∀(W:mU),W.length=(W.filter p).length+(W.filter λw=>!p w).length
 | []=>rfl
 | w::W=>by
  have ih:=I0 p W;rw[List.filter_cons,List.filter_cons,qK];cases h:p w with
  | true=>simp;lia
  | false=>simp;lia
theorem ic.sum {l:mN}{sp:mU}(ns:sp.Nodup):∀(js:mN) (W:mU),js.Nodup->(∀w∈W,∃j∈js,sp[j]?=some (oB l w))->(js.map λj=>(((pN l sp W j).length:Nat):Int)).sum=((W.length:Nat):Int)
 | [],W,_,h=>by
  cases W with
  | nil=>rfl
  | cons w W=>obtain⟨j,hj,_⟩:=h w pW;cases hj
 | j::js,W,nd,h=>by
  have nd':=tZ.mp nd;have part:=I0 (λw=>decide (sp[j]?=some (oB l w)));have ih:=ic.sum (l:=l) ns js (W.filter λw=>!decide (sp[j]?=some (oB l w))) nd'.2 λw hw=>by
   obtain⟨hw1,hw2⟩:=qr.mp hw;obtain⟨i,hi,e⟩:=h w hw1;rcases ot.mp hi with rfl | hi
   .rw[JI e]at hw2;cases hw2
   .exact⟨i,hi,e⟩
  rw[pH,List.sum_cons];have e2:(js.map λi=>(((pN l sp W i).length:Nat):Int))=js.map λi=>(((pN l sp (W.filter λw=>!decide (sp[j]?=some (oB l w))) i).length:Nat):Int):=by
   apply t7;intro i hi;congr 2;unfold pN;rw[List.filter_filter];apply List.filter_congr;intro w _;by_cases c:sp[i]?=some (oB l w)
   .have:¬sp[j]?=some (oB l w):=λz=>nd'.1 (by rw[<-yu ns c z];exact hi);rw[JI c,JJ this];rfl
   .rw[JJ c];rfl
  rw[e2,ih];have:=part W;unfold pN
  lia
def iT (l:mN)(k:Nat)(W:mU):Prop:=W.Nodup/\∀x,x∈W↔x.length=k/\mZ x l
def ij (l m:mN)(sp W0:mU)(js0:mN)(i q:Nat)(W:mU):Prop:=W.Nodup/\∀x,x∈W↔mZ x l/\∃y c,x=y++[c]/\y∈W0/\c∈m/\∃j,sp[j]?=some (oB l y)/\(j∈js0.take i\/(js0[i]?=some j/\c∈m.take q))
def ij.start (l m:mN)(sp W0:mU)(js0:mN):ij l m sp W0 js0 0 0 []:=by refine⟨{},λx=>⟨λh=>(by simp at h),?_⟩⟩;rintro⟨_,y,c,_,_,_,j,_,h | ⟨_,h⟩⟩<;>simp at h
def GJ (h:a++[c]=b++[d]):a=b/\c=d:=by have:=List.append_inj' h rfl;exact⟨this.1,by have:=this.2;injection this⟩
def D6 {α:Type}{l:List α}{i:Nat}{x:α}(h:l[i]?=some x):l.take (i+1)=l.take i++[x]:=by rw[List.take_succ,h];rfl
section
variable {l m:mN}{sp W0 W:mU}{js0:mN}{i q j c:Nat}
def ij.skip (M:zZ l m sp)(h:ij l m sp W0 js0 i q W)(hj:js0[i]?=some j)(hc:m[q]?=some c)(hd:uS l sp j c=none):ij l m sp W0 js0 i (q+1) W:=by
 refine⟨h.1,λx=>?_⟩;rw[h.2,D6 hc];constructor
 .rintro⟨a,y,d,e,b1,b2,k,b3,b4⟩;refine⟨a,y,d,e,b1,b2,k,b3,b4.imp id λ⟨z1,z2⟩=>⟨z1,uW _ z2⟩⟩
 .rintro⟨a,y,d,e,b1,b2,k,b3,b4⟩;refine⟨a,y,d,e,b1,b2,k,b3,?_⟩;rcases b4 with b4 | ⟨z1,z2⟩
  .exact .inl b4
  .rcases oV.mp z2 with z2 | z2
   .exact .inr ⟨z1,z2⟩
   .rw[hj]at z1;cases z1;rw[oN.mp z2]at e b2;rw[e]at a;exact JO a (Zmh M b3 b2 hd)
def Jb (nd:l.Nodup)(h:l[i]?=some x):x∉l.take i:=by
 intro hx;obtain⟨k,hk,e⟩:=List.mem_iff_getElem.mp hx;obtain⟨hi,e2⟩:=oM.mp h;rw[ou]at hk;rw[List.getElem_take]at e;have hk':k<i:=by lia
 exact(yJ.mp nd) k i ∅ hi hk' (e.trans e2.symm)
def ij.more (M:zZ l m sp)(nm:m.Nodup)(nj:js0.Nodup)(n0:W0.Nodup)(h:ij l m sp W0 js0 i q W)(hj:js0[i]?=some j)(hc:m[q]?=some c){j2:Nat}(hd:uS l sp j c=some j2):
  ij l m sp W0 js0 i (q+1) (W++(pN l sp W0 j).map λy=>y++[c]):=by
 have cm:=qA hc;have inB:∀x,x∈(pN l sp W0 j).map (λy=>y++[c])↔∃y,y∈W0/\sp[j]?=some (oB l y)/\x=y++[c]:=λx=>by
  rw[pK];constructor
  .rintro⟨y,hy,rfl⟩;have:=qr.mp hy;exact⟨y,this.1,JK this.2,rfl⟩
  .rintro⟨y,h1,h2,rfl⟩;exact⟨y,qr.mpr ⟨h1,JI h2⟩,rfl⟩
 refine⟨?_,λx=>?_⟩
 .rw[ut];refine⟨h.1,Cz (n0.filter _) λx _ y _ e=>(GJ e).1,λx hx y hy e=>?_⟩;obtain⟨y0,b1,b2,rfl⟩:=(inB y).mp hy;rw[e]at hx;obtain⟨_,y1,d,e1,a1,a2,k,a3,a4⟩:=(h.2 _).mp hx;obtain⟨e2,e3⟩:=GJ e1;subst e2 e3;have ek:k=j:=yu M.nd a3 b2;subst ek;rcases a4 with a4 | ⟨_,a4⟩
  .exact Jb nj hj a4
  .exact Jb nm hc a4
 .rw[oV,h.2,inB,D6 hc];constructor
  .rintro (⟨a,y,d,e,b1,b2,k,b3,b4⟩|⟨y,b1,b2,rfl⟩)
   .exact⟨a,y,d,e,b1,b2,k,b3,b4.imp id λ⟨z1,z2⟩=>⟨z1,uW _ z2⟩⟩
   .exact⟨(Er b2 hd).1,y,c,rfl,b1,cm,j,b2,.inr ⟨hj,{}⟩⟩
  .rintro⟨a,y,d,e,b1,b2,k,b3,b4⟩;rcases b4 with b4 | ⟨z1,z2⟩
   .exact .inl ⟨a,y,d,e,b1,b2,k,b3,.inl b4⟩
   .rcases oV.mp z2 with z2 | z2
    .exact .inl ⟨a,y,d,e,b1,b2,k,b3,.inr ⟨z1,z2⟩⟩
    .rw[hj]at z1;cases z1;rw[oN.mp z2]at e;exact .inr ⟨y,b1,b3,e⟩
def ij.next (h:ij l m sp W0 js0 i m.length W)(hj:js0[i]?=some j):ij l m sp W0 js0 (i+1) 0 W:=by
 refine⟨h.1,λx=>?_⟩;rw[h.2,D6 hj,rH];constructor
 .rintro⟨a,y,d,e,b1,b2,k,b3,b4⟩;refine⟨a,y,d,e,b1,b2,k,b3,.inl ?_⟩;rcases b4 with b4 | ⟨z1,_⟩
  .exact uW _ b4
  .rw[hj]at z1;cases z1;simp
 .rintro⟨a,y,d,e,b1,b2,k,b3,b4⟩;refine⟨a,y,d,e,b1,b2,k,b3,?_⟩;rcases b4 with b4 | ⟨_,z⟩
  .rcases oV.mp b4 with z | z
   .exact .inl z
   .rw[oN.mp z];exact .inr ⟨hj,b2⟩
  .simp at z
def ij.all (hlm:∀x∈l,x∈m)(C:ic l sp W0 js0)(A:iT l k W0)(h:ij l m sp W0 js0 js0.length 0 W):iT l (k+1) W:=by
 refine⟨h.1,λx=>?_⟩;rw[h.2];constructor
 .rintro⟨a,y,d,rfl,b1,_⟩;refine⟨?_,a⟩;rw[nN,pZ,((A.2 y).mp b1).1]
 .rintro⟨h1,h2⟩;obtain⟨y,c,rfl⟩:∃y c,x=y++[c]:=by
   have hne:x≠[]:=λz=>by rw[z]at h1;simp at h1
   exact⟨x.dropLast,x.getLast hne,(yy hne).symm⟩
  have hy:y∈W0:=(A.2 y).mpr ⟨~~~h1,Hn h2⟩;obtain⟨j,hj,e⟩:=C.cov y hy;exact⟨h2,y,c,rfl,hy,hlm c (h2.mem {}),j,e,.inl (by rw[rH];exact hj)⟩
end
def ic.zero (h0:sp[0]?=some (qI l)):ic l sp [[]] [0]:=by
 have hl:=(oM.mp h0).1;have e:sp[0]?=some (oB l []):=by rw[B6];exact h0
 exact⟨{},λj hj=>by rw[oN.mp hj];exact hl,λw hw=>⟨0,{},by rw[oN.mp hw];exact e⟩,λj hj=>⟨[],{},by rw[oN.mp hj];exact e⟩⟩
def iT.zero (l:mN):iT l 0 [[]]:=by
 refine⟨{},λx=>?_⟩;rw[oN];constructor
 .rintro rfl;exact⟨rfl,mZ.nil l⟩
 .rintro⟨h,_⟩;exact wS h
def ZoB (h0:sp[0]?=some (qI l)):CD l sp [[]] [0]=[(gM 0,.int 1)]:=by
 have e:sp[0]?=some (oB l []):=by rw[B6];exact h0
 unfold CD pN;simp[e]
def iI (l:mN)(k:Nat)(T:mU):Prop:=T.Nodup/\∀x,x∈T↔x.length<k/\mZ x l
def iI.zero (l:mN):iI l 0 []:=⟨{},λx=>by simp⟩
def iI.step (h:iI l k T)(A:iT l k W):iI l (k+1) (T++W):=by
 refine⟨?_,λx=>?_⟩
 .rw[ut];refine⟨h.1,A.1,λx hx y hy z=>?_⟩;have h1:=((h.2 x).mp hx).1;have h2:=((A.2 y).mp hy).1;rw[z]at h1;lia
 .rw[oV,h.2,A.2];constructor
  .rintro (⟨a,b⟩|⟨a,b⟩)
   .exact⟨∅,b⟩
   .exact⟨∅,b⟩
  .rintro⟨a,b⟩;by_cases c:x.length<k
   .exact .inl ⟨c,b⟩
   .exact .inr ⟨∅,b⟩
def iI.end_ (h:iI l k T)(A:iT l k []):T.length=(jq l).length:=by
 refine F6 h.1 (GE l) λx=>?_;rw[h.2,Fk];constructor
 .exact λz=>z.2
 .intro z;refine⟨?_,z⟩;by_cases c:x.length<k
  .exact c
  .exfalso;have:x.take k∈([]:mU):=(A.2 _).mpr ⟨by rw[ou];lia,by have e:=si k x;rw[<-e]at z;exact Hn z⟩
   cases this
theorem HQ (ns:List Int):∀j,j<=ns.length->preSum (λi=>ns.getD i 0) j=(ns.take j).sum
 | 0,_=>by simp[preSum]
 | j+1,h=>by
  have e:ns.take (j+1)=ns.take j++[ns[j]]:=by rw[List.take_succ,om ∅];rfl
  rw[preSum,HQ ns j ∅,e,List.sum_append,pM,om ∅];simp
def IC (td:TE):TE:=λU H Q=>td U H λx H1=>∃(a:AD) (kvs:List (nH×V)) (ns:List Int),x=.ref a/\H1 a=some (.dK kvs)/\kvs.map (·.2)=ns.map V.int/\Q (.int ns.sum) H1
section
def Zgh (hc:X.calm=true) (hg:Gl X "sum") (hm:X.mg "sum"=none) (ho:PE X o td) (hbase:attributeBase o "values" X.env (eval o X.env)=eval o X.env:=by rfl) (hline:(ap.endLine == cp.line)=true:=by rfl)
  (hs:starEach [.Call (.Attribute o "values" ap) [] [] cp] X.env=[(false,eval (.Call (.Attribute o "values" ap) [] [] cp) X.env)]:=by rfl):
  PE X (.Call (.Name "sum" p) [.Call (.Attribute o "values" ap) [] [] cp] [] pos) (IC td):=by
 intro Aq s U H Q I h;refine uz (uQ I hg hm Zqs ?_);refine BQ ?_ hs rfl;rw[hs];show wpAny _ _ (spliced ((false,eval (.Call (.Attribute o "values" ap) [] [] cp) X.env)::backTo pos (starEach [] X.env))) _ _ s;refine vJ ?_;refine wpAny_Call_method (T:="dict") (id:="dict.values") hbase rfl hline PySem.F.plainAttrs_dict PySem.F.slot_dict_values PySem.F.type_dict_values (m8 (ho Aq s U H _ I h) λu s1 zz=>?_);obtain⟨x,H1,I1,rx,a,kvs,ns,ex,ha,hv,q⟩:=zz;subst ex;obtain rfl:u=Value.ref a:=rx;obtain⟨hz,hd,vs,r,dd⟩:=A4 I1.hok ha;obtain⟨ob,es,ep,e1,e2,e3,e4⟩:=id dd;refine⟨dd.typeIs,λb z=>?_,?_⟩
 .cases z;exact⟨ob,e1,e2.2.1⟩
 refine method_meetsIn PySem.F.slot_dict_values PySem.F.entry_dict_values rfl (PySem.evalArgs_none ⟨rfl,dd.typeIs,PySem.F.args_dict_values_1 _,_,meets_dict_values _ a hd,⟨vs,dd⟩,yr ?_⟩);generalize hg2:s1.heap.push { cls:=.type "dict_values",data:=.fields #[.ref a] }=g2;have k2:∀b o,s1.heap.get? b=some o->g2.get? b=some o:=λb o e=>by rw[<-hg2];exact nG _ e
 have vw:g2.IsValuesView s1.heap.objs.size a:=⟨_,by rw[<-hg2];exact oP _ rfl,rfl,rfl⟩;have da:g2.DictAt (pI X.prog X.w) a vs ep:=⟨ob,es,k2 _ _ e1,e2,e3,e4⟩;have K:=kdl_values (prog:=X.prog) (w:=X.w) (knd:=pI X.prog X.w) (r:=s1.heap.objs.size) (d:=a) (kvs:=vs) (ep:=ep);have hh:X.A.in1.handled=none:=by simpa using I1.ok.hd hc
 have hl:vs.length=ns.length:=by
  have h1:=r.length;have h2:=JN List.length hv;rw[m6,m6]at h2
  lia
 have hval:∀(i:Nat) (v:Value),(∃k,vs[i]?=some (k,v))->∃t:Tok,v=Value.int (ns.getD i 0) t:=by
  rintro i v ⟨k,hk⟩;have hi:=(oM.mp hk).1;have:∀(kvs:List (nH×V)) (vs:List (nH×Value)),KV kvs vs->∀(i:Nat) (k:nH) (v:Value),vs[i]?=some (k,v)->∃x,kvs[i]?=some (k,x)/\fZ x v:=λkvs vs r=>by
   induction r with
   | nil=>intro i k v z;simp at z
   | cons hd _ ih=>
    intro i k v z;cases i with
    | zero=>
     rename_i p0 q0 _ _ _
     have z:q0=(k,v):=by simpa using z
     subst z;exact⟨p0.2,by show some p0=some (k,p0.2);rw[show k=p0.1 from hd.1.symm],hd.2⟩
    | succ i=>
     obtain⟨x,hx,rx⟩:=ih i k v (~~~z);exact⟨x,~~~hx,rx⟩
  obtain⟨x,hx,rx⟩:=this kvs vs r i k v hk;have ex:(kvs.map (·.2))[i]?=some x:=by rw[pA,hx];rfl
  rw[hv,pA,om ∅]at ex;have ex:V.int ns[i]=x:=Option.some.inj ex;subst ex;obtain⟨t,rfl⟩:=rx;exact⟨t,by rw[pM,om ∅];rfl⟩
 refine call_sum_walkAnyS ?_;obtain⟨oI,St,hit,W,st⟩:=K.iter X.A.in1 { s1 with heap:=g2 } hh ⟨vw,da⟩;have A1:=K.there _ (show g2.IsValuesView s1.heap.objs.size a/\g2.DictAt (pI X.prog X.w) a vs ep from⟨vw,da⟩);refine hit _ _ ⟨g2.objs.size,_,_,_,vs.length,_,_,λi=>ns.getD i 0,rfl,W.toS,st,λb hb=>?_,hval,λs' t' hm=>?_⟩
 .show b<(g2.push oI).objs.size;rw[size_push'];rcases ot.mp hb with e | hb
  .rw[e];exact Nat.lt_succ_self _
  .rw[oN.mp hb];exact wN A1.2
 .have hk:∀b o,s1.heap.get? b=some o->s'.heap.get? b=some o:=λb o e=>
   hm.heap b o (λhI=>JO (nP (k2 _ _ e)) (by rw[oN.mp hI];exact qC _)) (nG _ (k2 _ _ e))
  rw[Moved.eq_with hm,hl,HQ ns _ (nD _),rH];exact⟨.int ns.sum,H1,I1.kept (t':=s'.toks) hk,⟨t',rfl⟩,q⟩
end
end L2
namespace L2
open PySem PySem.Spec PyProof.Rows
def ItzL (K:Q4)(a b:AD):It:=
  ⟨λi H=>∃xs ys x y,oj K H a xs/\oj K H b ys/\xs.length=ys.length/\xs[i]?=some x/\ys[i]?=some y,
   λi H v H'=>∃p x y,H p=none/\v=.ref p/\H'=upd H p (.tup [x,y])/\(∀xs,oj K H a xs->xs[i]?=some x)/\∀ys,oj K H b ys->ys[i]?=some y,
   λi H=>∃xs ys,oj K H a xs/\oj K H b ys/\xs.length=ys.length/\xs.length=i⟩
section
end
end L2
namespace L2
open PySem PySem.Spec PyProof.Rows PySem.W
noncomputable def Itv (o:Obj)(kvs:List (nH×V))(a:AD):It:=
 ⟨λi H=>H a=some (.frz o (.dK kvs))/\i<kvs.length,λi H x H'=>H'=H/\∃p,kvs[i]?=some p/\x=p.2,λi H=>H a=some (.frz o (.dK kvs))/\kvs.length<=i⟩
def Iti (o:Obj)(kvs:List (nH×V))(a:AD):It:=
 ⟨λi H=>H a=some (.frz o (.dK kvs))/\i<kvs.length,λi H x H'=>∃t p,H t=none/\x=.ref t/\H'=upd H t (.tup [kV p.1,p.2])/\kvs[i]?=some p,λi H=>H a=some (.frz o (.dK kvs))/\kvs.length<=i⟩
section
end
section
end
section
end
end L2
namespace L2
open PySem PySem.Spec PyProof.Rows
structure Di (l w:mN)(E S:Nat):Prop where
 le:E<=w.length
 ahead:∀e,e<E->mZ (w.take e) l
 lt:S<E
 no:¬mZ ((w.drop S).take (E-S)) l
 aft:∀s,S<s->s<=E->mZ ((w.drop s).take (E-s)) l
def FJ {w:mN}{s e:Nat}(h:e<=w.length):mZ ((w.drop s).take (e-s)) (w.take e):=by
 by_cases z:s<=e
 .refine⟨s,?_,?_⟩
  .rw[ou,pO,ou];lia
  .have e1:((w.drop s).take (e-s)).length=e-s:=by rw[ou,pO];lia
   rw[e1,vK,tz,Nat.min_self]
 .have:e-s=0:=by lia
  rw[this,List.take_zero];exact mZ.nil _
def Di.first (h:Di l w E S)(hm:∀c∈w,c∈m):rS (nR l m) w=some ((w.drop S).take (E-S),((S:Nat):Int)):=by
 have le:=h.le;have lt:=h.lt;have cutE:∀e z,z<=e->qM w e z=(w.drop (e-z)).take (e-(e-z)):=λe z hz=>by unfold qM;rw[show e-(e-z)=z by lia]
 have r:=Jq (ls:=nR l m) (w:=w) (e:=E) (r:=(qM w E (E-S),((E-(E-S):Nat):Int))) le (λe' he=>Fe λz hz hin=>?_) (GD ∅ (λz' hz' hin=>?_) ?_)
 .rw[r,cutE E (E-S) ∅,show E-(E-S)=S by lia]
 .rw[cutE e' z ∅]at hin;exact(qG.mp hin).1.no ((FJ ∅).trans (h.ahead e' he))
 .rw[cutE E z' ∅]at hin;exact(qG.mp hin).1.no (h.aft (E-z') ∅ ∅)
 .rw[cutE E (E-S) ∅,show E-(E-S)=S by lia];have xl:((w.drop S).take (E-S)).length=E-S:=by rw[ou,pO];lia
  have ne:(w.drop S).take (E-S)≠[]:=λz=>by rw[z]at xl;simp at xl;lia
  refine qG.mpr ⟨⟨ne,?_,?_,h.no⟩,((w.drop S).take (E-S)).getLast ne,hm _ (qE (qf (List.getLast_mem ne))),vk ne⟩
  .have e:((w.drop S).take (E-S)).dropLast=(w.drop S).take (E-1-S):=by
    rw[xq,xl,tz];congr 1
    lia
   rw[e];exact(FJ ∅).trans (h.ahead (E-1) ∅)
  .have e:((w.drop S).take (E-S)).tail=(w.drop (S+1)).take (E-(S+1)):=by rw[<-List.drop_one,vK,ui,show E-S-1=E-(S+1) by lia]
   rw[e];exact h.aft (S+1) ∅ ∅
def qX (s L:mN):Prop:=(∃c,L=s++[c])\/∃c,L=c::s
def qX.len (h:qX s L):L.length=s.length+1:=by rcases h with⟨c,rfl⟩|⟨c,rfl⟩<;>simp
def qX.inf (h:qX s L):mZ s L:=by
 rcases h with⟨c,rfl⟩|⟨c,rfl⟩
 .have:=Bg (s++[c]);rwa [zL]at this
 .exact A9 (c::s)
def qp (s L w:mN):Prop:=mZ w L/\¬mZ w s
def qp.ne (h:qp s L w):w≠[]:=λe=>h.2 (e▸mZ.nil s)
def yH (l:mN)(k:Nat):mZ (l.take k) l:=⟨0,by rw[ou];lia,by rw[sG,List.take_eq_take_iff,ou];lia⟩
def CV (l:mN)(k:Nat):mZ (l.drop k) l:=by
 by_cases h:k<=l.length
 .exact⟨k,by rw[pO];lia,by rw[rH]⟩
 .rw[vW ∅];exact mZ.nil l
def B4 (h:qX s L)(f:qp s L w):((∃c,L=s++[c])/\w=L.drop (L.length-w.length))\/((∃c,L=c::s)/\w=L.take w.length):=by
 obtain⟨⟨i,h1,h2⟩,hn⟩:=f;rcases h with⟨c,rfl⟩|⟨c,rfl⟩
 .refine .inl ⟨⟨c,rfl⟩,?_⟩;rw[nN,pZ]at h1 ⊢;have hi:i+w.length=s.length+1:=by
   by_cases z:i+w.length<=s.length
   .refine JO ⟨i,z,?_⟩ hn;rw[zV ∅,List.take_append_of_le_length (by rw[pO];lia)]at h2;exact h2
   .lia
  have e:s.length+1-w.length=i:=by lia
  rw[e];rw[sA (by rw[pO,nN,pZ];lia)]at h2;exact h2.symm
 .refine .inr ⟨⟨c,rfl⟩,?_⟩;cases i with
  | zero=>rw[sG]at h2;exact h2.symm
  | succ i=>
   refine JO ⟨i,?_,?_⟩ hn
   .rw[qK]at h1;lia
   .rw[List.drop_succ_cons]at h2;exact h2
def Jm (h:qX s L):qp s L w↔(∃k,1<=k/\k<=L.length/\(w=L.take k\/w=L.drop (L.length-k)))/\¬mZ w s:=by
 constructor
 .intro f;have h1:1<=w.length:=tj.mpr f.ne;refine⟨⟨w.length,h1,f.1.len,?_⟩,f.2⟩;rcases B4 h f with⟨_,e⟩|⟨_,e⟩
  .exact .inr e
  .exact .inl e
 .rintro⟨⟨k,_,_,rfl | rfl⟩,hn⟩
  .exact⟨yH _ _,hn⟩
  .exact⟨CV _ _,hn⟩
def JF (h:qX s L)(fu:qp s L u)(fv:qp s L v)(hl:u.length<=v.length):mZ u v:=by
 have l1:=fu.1.len;have l2:=fv.1.len;rcases B4 h fu with⟨⟨c,e⟩,eu⟩|⟨⟨c,e⟩,eu⟩
 .rcases B4 h fv with⟨_,ev⟩|⟨⟨d,e2⟩,ev⟩
  .have:u=v.drop (v.length-u.length):=by
    have:v.drop (v.length-u.length)=L.drop (L.length-u.length):=by
     conv=>lhs;rw[ev]
     rw[ui,pO];congr 1
     lia
    rw[this];exact eu
   rw[this];exact CV _ _
  .
   have hv:v.length=L.length:=by
    by_cases z:v.length=L.length
    .exact z
    .exfalso;refine fv.2 ?_;have:v=s.take v.length:=by
      conv=>lhs;rw[ev,e]
      rw[List.take_append_of_le_length];have:=h.len;lia
     rw[this];exact yH _ _
   have:v=L:=by rw[ev,hv,rH]
   rw[this];exact fu.1
 .rcases B4 h fv with⟨⟨d,e2⟩,ev⟩|⟨_,ev⟩
  .have hv:v.length=L.length:=by
    by_cases z:v.length=L.length
    .exact z
    .exfalso;refine fv.2 ?_;have:v=s.drop (s.length-v.length):=by
      have h3:=h.len
      conv=>lhs;rw[ev,e]
      have e4:(c::s).length-v.length=(s.length-v.length)+1:=by rw[qK];lia
      rw[e4,List.drop_succ_cons]
     rw[this];exact CV _ _
   have:v=L:=by rw[ev,hv,Nat.sub_self,sG]
   rw[this];exact fu.1
  .have:u=v.take u.length:=by
    have:v.take u.length=L.take u.length:=by
     conv=>lhs;rw[ev]
     rw[tz];congr 1
     lia
    rw[this];exact eu
   rw[this];exact yH _ _
def Zog (h:qX s L)(fu:qp s L u)(fv:qp s L v)(hl:u.length=v.length):u=v:=HA (JF h fu fv ∅) ∅
def DS (h:qX s L)(f0:qp s L w0)(hm:∀w,qp s L w->¬gU w w0)(w:mN):iP s w/\mZ w L↔w=w0:=by
 have sh:∀w,qp s L w->w0.length<=w.length:=λw f=>by
  by_cases z:w.length<w0.length
  .exact JO (.inl z) (hm w f)
  .lia
 have ne:=f0.ne;have l1:1<=w0.length:=tj.mpr ne;constructor
 .rintro⟨ms,hi⟩;have fw:qp s L w:=⟨hi,ms.no⟩;have hc:=JF h f0 fw (sh w fw);by_cases z:w0.length<w.length
  .rcases Zn8 hc z with k | k
   .exact JO (k.trans ms.init) f0.2
   .exact JO (k.trans ms.tail) f0.2
  .exact(HA hc ∅).symm
 .rintro rfl;have small:∀u,mZ u L->u.length<w.length->mZ u s:=λu hu hl=>by
   by_cases z:mZ u s
   .exact z
   .have:=sh u ⟨hu,z⟩;lia
  exact⟨⟨ne,small _ ((Bg w).trans f0.1) (by rw[rZ];lia),small _ ((A9 w).trans f0.1) (by rw[v0];lia),f0.2⟩,f0.1⟩
noncomputable def iZ (s w:mN)[Decidable (mZ w.dropLast s)]:mN:=if mZ w.dropLast s then w.tail else w.dropLast
instance (w l:mN):Decidable (mZ w l):=decidable_of_iff (∃i,i<l.length+1/\i+w.length<=l.length/\(l.drop i).take w.length=w) ⟨λ⟨i,_,h⟩=>⟨i,h⟩,λ⟨i,h⟩=>⟨i,by have:=h.1;lia,h⟩⟩
def Opn (s L m w:mN):Prop:=∃sh c,qp s L sh/\c∈m/\(w=sh++[c]\/w=c::sh)/\iP L w
def ZnH (h:qX s L)(hm:∀x∈L,x∈m):Opn s L m w↔w∈nR L m/\w∉nR s m:=by
 constructor
 .rintro⟨sh,c,f,hc,e,ms⟩;refine⟨qG.mpr ⟨ms,?_⟩,λhw=>?_⟩
  .rcases e with rfl | rfl
   .exact⟨c,hc,{}⟩
   .refine⟨sh.getLast f.ne,hm _ (f.1.mem (List.getLast_mem _)),?_⟩;rw[vk {},List.getLast_cons f.ne]
  .have k:=(qG.mp hw).1;rcases e with rfl | rfl
   .exact f.2 (by have:=k.init;rwa [zL]at this)
   .exact f.2 k.tail
 .rintro⟨hw,hn⟩;obtain⟨ms,c,hc,hl⟩:=qG.mp hw;have ns:¬mZ w s:=λz=>ms.no (z.trans h.inf);have hn':¬(mZ w.dropLast s/\mZ w.tail s):=λ⟨a,b⟩=>hn (qG.mpr ⟨⟨ms.ne,a,b,ns⟩,c,hc,hl⟩);by_cases z:mZ w.dropLast s
  .have z2:¬mZ w.tail s:=λk=>hn' ⟨z,k⟩;have f:qp s L w.tail:=⟨ms.tail,z2⟩
   match w,ms,f with
   | d::r,ms,f=>
    have f:qp s L r:=f;refine⟨r,d,f,?_,.inr rfl,ms⟩
    match r,f.ne with
    | e::r,_=>exact hm _ (ms.init.mem {})
  .refine⟨w.dropLast,c,⟨ms.init,z⟩,hc,.inl ?_,ms⟩;rw[vk ms.ne]at hl;have h2:=yy ms.ne;rw[Option.some.inj hl]at h2;exact h2.symm
def Zpk (h:qX s L)(f:qp s L sh)(e:w=sh++[c]\/w=c::sh)(ms:iP L w):iZ s w=sh:=by
 unfold iZ;rcases e with rfl | rfl
 .rw[zL,mR f.2]
 .by_cases z:mZ (c::sh).dropLast s
  .rw[mS z];rfl
  .rw[mR z];exact Zog h ⟨ms.init,z⟩ f (by rw[rZ];simp)
def Ia (h:qX s L)(f0:qp s L w0)(hmn:∀w,qp s L w->¬gU w w0)(hw:w∈nR s m):w∈nR L m↔w≠w0:=by
 obtain⟨ms,hc⟩:=qG.mp hw;constructor
 .rintro k rfl;exact(qG.mp k).1.no ((DS h f0 hmn w).mpr rfl).2
 .intro k;have ni:¬mZ w L:=λz=>k ((DS h f0 hmn w).mp ⟨ms,z⟩);exact qG.mpr ⟨⟨ms.ne,ms.init.trans h.inf,ms.tail.trans h.inf,ni⟩,hc⟩
def Zoj (h:qX s L)(hm:∀x∈L,x∈m)(f0:qp s L w0)(hmn:∀w,qp s L w->¬gU w w0):w0∈nR s m:=by have k:=(DS h f0 hmn w0).mpr rfl;exact qG.mpr ⟨k.1,w0.getLast k.1.ne,hm _ (k.2.mem (List.getLast_mem _)),vk _⟩
def iJ (s L m:mN):mU:=(nR L m).filter λw=>decide (w∉nR s m)
def jI (s L m:mN):mU:=(nR s m).filter λw=>decide (w∉nR L m)
def Dl:w∈iJ s L m↔w∈nR L m/\w∉nR s m:=by unfold iJ;simp
def D3:w∈jI s L m↔w∈nR s m/\w∉nR L m:=by unfold jI;simp
def Zmb (h:qX s L)(hm:∀x∈L,x∈m)(hr:m.Pairwise (· < ·))(f0:qp s L w0)(hmn:∀w,qp s L w->¬gU w w0):jI s L m=[w0]:=by
 refine wG ((tJ hr).filter _) {} λw=>?_;rw[D3,oN];constructor
 .rintro⟨a,b⟩;by_cases z:w=w0
  .exact z
  .exact JO ((Ia h f0 hmn a).mpr z) b
 .rintro rfl;have k:=Zoj h hm f0 hmn;exact⟨k,λz=>(Ia h f0 hmn k).mp z rfl⟩
def Ef {ws ws':mU}(pm:ws'.Perm ws)(pw:ws'.Pairwise λa b=>¬gU b a)(nd:ws.Nodup):ws'.Pairwise gU:=by
 refine(pw.and (pm.nodup_iff.mpr nd)).imp ?_;rintro a b ⟨h1,h2⟩;rcases Nat.lt_trichotomy a.length b.length with z | z | z
 .exact .inl z
 .rcases BF a b with k | k | k
  .exact .inr ⟨z,k⟩
  .exact JO k h2
  .exact JO (.inr ⟨z.symm,k⟩) h1
 .exact JO (.inl z) h1
def z4 {ws:mU}(h:ws.Pairwise gU):ws.Nodup:=h.imp λhab e=>by rw[e]at hab;exact yI hab
def Zn4 {old new came gone ws':mU}(ho:old.Pairwise gU)(hn:new.Pairwise gU)(hc:∀w,w∈came↔w∈new/\w∉old)(nc:came.Nodup)(hg:∀w,w∈gone↔w∈old/\w∉new)(pm:ws'.Perm (old.filter (λw=>decide (w∉gone))++came))(pw:ws'.Pairwise λa b=>¬gU b a):ws'=new:=by
 have nd:(old.filter (λw=>decide (w∉gone))++came).Nodup:=by rw[ut];refine⟨(z4 ho).filter _,nc,λa ha b hb e=>?_⟩;subst e;exact((hc a).mp hb).2 (qr.mp ha).1
 refine wG (Ef pm pw nd) hn λw=>?_;rw[pm.mem_iff,oV,qr,hc,JH,hg];constructor
 .rintro (⟨a,b⟩|⟨a,b⟩)
  .by_cases z:w∈new
   .exact z
   .exact JO ⟨a,z⟩ b
  .exact a
 .intro a;by_cases z:w∈old
  .exact .inl ⟨z,λk=>k.2 a⟩
  .exact .inr ⟨a,z⟩
def ZlY (hm:m.Pairwise (· < ·)):nR [] m=fX m:=by
 unfold fX;refine wG (tJ hm) ?_ λw=>?_
 .rw[uG];exact hm.imp λh=>.inr ⟨rfl,List.Lex.rel h⟩
 .rw[qG,pK];constructor
  .rintro⟨ms,c,hc,hl⟩;have h:=ms.init.len;rw[rZ,List.length_nil]at h;have h1:1<=w.length:=tj.mpr ms.ne
   match w,h,h1,hl with
   | [d],_,_,hl=>exact⟨c,hc,~~~hl.symm⟩
  .rintro⟨c,hc,rfl⟩;exact⟨⟨{},mZ.nil _,mZ.nil _,λz=>by have:=z.len;simp at this⟩,c,hc,rfl⟩
section
end
section
end
theorem yR {α β:Type}(f:α->β):∀(l:List α) (j:Nat),(l.eraseIdx j).map f=(l.map f).eraseIdx j
 | [],j=>rfl
 | x::l,0=>rfl
 | x::l,j+1=>by show f x::(l.eraseIdx j).map f=f x::(l.map f).eraseIdx j;rw[yR f l j]
section
end
end L2
namespace L2
open PySem PySem.Spec PyProof.Rows PySem.Builtin.Str
def tOr2 (t1 t2:TE):TE:=λU H Q=>t1 U H Q\/t2 U H Q
def uX (h1:PE X e t1)(h2:PE X e t2):PE X e (tOr2 t1 t2):=λAq s U H Q I h=>h.elim (h1 Aq s U H Q I) (h2 Aq s U H Q I)
section
end
end L2
namespace L2
open PySem PySem.Spec PyProof.Rows
structure PAz (X:Cx)(es:List Expr)(t:TA):Prop where
 h:PA X es t
section
end
theorem ZiK (a g:AD):Builtin.«list.sort» ⟨[.ref a],[(Str.ofString "key",.ref g)]⟩=(do
  let its <-Builtin.List.listItems (.ref a)
  Builtin.List.listUpdate (.ref a) λ_=>#[]
  let be <-seqEpoch a
  let hd <-newTuple its.toList
  let ks <-newList []
  holding [hd,ks] do
   rule "list.sort.key"
   for x in its do
    match <-(call (.ref g) [x]).attempt with
    | .ok k=>Builtin.List.listUpdate ks (·.push k)
    | .error e=>
     rule "list.sort.key-raised"
     let md <-Builtin.List.listItems ks
     Builtin.List.listUpdate ks λ_=>#[]
     letGo md.toList.reverse [e]
     Builtin.List.listUpdate (.ref a) λ_=>its
     throw e
   let kys <-Builtin.List.listItems ks
   let kind <-if its.size<2 then pure general' else keyKind' kys
   let ((),v) <-(if its.size<2 then pure () else sortRuns').run (SortSt.mk' kind (kys.zip its) #[] 7 none)
   Builtin.List.listUpdate ks λ_=>#[]
   letGo ((arrOf v).map (·.1)).toList (failedOf v).toList
   let tch:=(<-seqEpoch a) != be
   Builtin.List.listUpdate (.ref a) λ_=>(arrOf v).map (·.2)
   if let some e:=failedOf v then rule "list.sort.comparison-raised";throw e
   if tch then rule "list.sort.modified";raiseError "ValueError" "list modified during sort"
   ret .none):=rfl
noncomputable def Kp (h g:Heap):Prop:=∀b o,h.get? b=some o->g.get? b=some o
noncomputable def iL (M:Model) (A:AH) (g:AD) (vs:AC) (kf:Value->Int×mN) (s:AE):Prop:=
 ∀(E:oo) (s':AE) (v:Value) (Q:oo),v∈vs->Kp s.heap s'.heap->s'.gens=s.gens->s'.os=s.os ->
  (∀(s2:AE) (k:Value),Kp s'.heap s2.heap->s2.gens=s'.gens->s2.os=s'.os->sK s2.heap k (kf v).1 (kf v).2->Q k s2)->wpAny M A (call (.ref g) [v]) Q E s'
def sK.kp (k:sK h v n c)(q:Kp h g):sK g v n c:=by obtain⟨a,t,w,u,e,h1,h2,h3⟩:=k;exact⟨a,t,w,u,e,h1,q _ _ h2,h3⟩
def sK.up {h:Heap} {v:Value} {n:Int} {c:mN} {K:AD} {xs:Array Value} {m:Nat} {f:Obj->Obj} (k:sK h v n c) (hK:h.get? K=some (seqObj "list" xs m)):sK (h.update K f) v n c:=by
 obtain⟨a,t,w,u,e,h1,h2,h3⟩:=k;refine⟨a,t,w,u,e,h1,?_,h3⟩;rw[(qD h K f).2 a ?_]
 .exact h2
 .rintro rfl;rw[h2]at hK;have:=JN Obj.cls (Option.some.inj hK);exact JO (show Value.type "tuple"=Value.type "list" from this) ⋯
noncomputable def i5 (h:Heap) (kf:Value->Int×mN) (ks vs:AC):Prop:=ks.length=vs.length/\∀(i:Nat) (k v:Value),ks[i]?=some k->vs[i]?=some v->sK h k (kf v).1 (kf v).2
section
theorem Gy {g K a:AD}{vs:AC}{kf:Value->Int×mN}{oa:Obj}{Q:PUnit->AE->Prop}{er:Value->Sem (ForInStep PUnit)}(hc:iL (model prog w) A g vs kf s)(hK0:s.heap.get? K=none)(ha0:a≠K)(hN:vs.length<=sizeLine)
  (q:∀(s2:AE) ks n,Kp s.heap s2.heap->s2.gens=s.gens->s2.os=s.os->s2.heap.get? K=some (seqObj "list" ks.toArray n)->i5 s2.heap kf ks vs->s2.heap.get? a=some oa->Q ⟨⟩ s2):
  ∀(l dn ks:AC) (s':AE) (n:Nat),vs=dn++l->Kp s.heap s'.heap->s'.gens=s.gens->s'.os=s.os->s'.heap.get? K=some (seqObj "list" ks.toArray n)->i5 s'.heap kf ks dn->s'.heap.get? a=some oa ->
   wpAny (model prog w) A (forIn l PUnit.unit λx _=>do
    match <-(call (.ref g) [x]).attempt with
    | .ok k=>do
     Builtin.List.listUpdate (.ref K) (·.push k)
     pure (ForInStep.yield PUnit.unit)
    | .error e=>er e) Q E s'
 | [],dn,ks,s',n,hv,h1,h2,h3,h4,h5,h6=>by
  rw[va]at hv;subst hv;rw[List.forIn_nil];exact mW (q s' ks n h1 h2 h3 h4 h5 h6)
 | x::l,dn,ks,s',n,hv,h1,h2,h3,h4,h5,h6=>by
  rw[wI];refine mO (mO (uy (hc _ s' x _ (by rw[hv];simp) h1 h2 h3 λs2 k k1 k2 k3 k4=>?_)));have As:ks.length<vs.length:=by rw[h5.1,hv];simp
  have hK2:=k1 _ _ h4;refine mO (listUpdate_at hK2 rfl (mW ?_) (hsz:=by rw[oH];lia) (hsz2:=by rw[Array.size_push,oH];lia));dsimp only;have sb:=qD s2.heap K (Obj.mapSeq λz=>z.push k);refine Gy hc hK0 ha0 hN q l (dn++[x]) (ks++[k]) _ _ (by rw[hv];simp) ?_ (k2.trans h2) (k3.trans h3) (by have:=get?_update_seq hK2 (λz=>z.push k);rw[List.push_toArray]at this;exact this) ?_ ?_
  .intro b o hb;refine(sb.2 b ?_).trans (k1 b o (h1 b o hb));rintro rfl;rw[hK0]at hb;cases hb
  .refine⟨by simp[h5.1],λi k' v' e1 e2=>?_⟩;by_cases hi:i<ks.length
   .rw[qT hi]at e1;rw[qT (by rw[<-h5.1];exact hi)]at e2;exact((h5.2 i k' v' e1 e2).kp k1).up hK2
   .have hi2:i=ks.length:=by have:=(oM.mp e1).1;simp at this;lia
    subst hi2;rw[sd (nD _),Nat.sub_self]at e1;rw[h5.1,sd (nD _),Nat.sub_self]at e2;cases e1;cases e2;exact k4.up hK2
  .exact(sb.2 a ha0).trans (k1 a oa h6)
end
section
def EJ (hk:i5 h kf ks vs){p:Keyed}(hp:p∈ks.zip vs):gA h p.1=kf p.2/\∃n c,sK h p.1 n c:=by
 obtain⟨i,hi,rfl⟩:=xJ hp;rw[List.length_zip]at hi;have h1:i<ks.length:=by lia
 have h2:i<vs.length:=by lia
 have:=hk.2 i ks[i] vs[i] (om h1) (om h2);rw[List.getElem_zip];exact⟨this.key,_,_,this⟩
def ZiJ (hc:iL (model prog w) A g vs kf s0)(hb:Kp s0.heap s.heap)(hg:s.gens=s0.gens)(hos:s.os=s0.os)(ha0:s0.heap.get? a=none)
  (ho:s.heap.get? a=some (seqObj "list" vs.toArray n)) (hN:vs.length<=sizeLine)
  (h:∀(s':AE) (us:AC) (e:Nat),Kp s0.heap s'.heap->s'.gens=s0.gens->s'.os=s0.os->s'.heap.get? a=some (seqObj "list" us.toArray e)->us.Perm vs->us.Pairwise (λx y=>rN (kf y) (kf x)=false)->P (.done (.ret .none)) s'):
  wpAny (model prog w) A (Builtin.«list.sort» ⟨[.ref a],[(Str.ofString "key",.ref g)]⟩) P E s:=by
 have A1:a<s.heap.objs.size:=nP ho;have up:=get?_update_seq ho (λ_=>#[]);generalize hep:(if (#[]:Array Value).size == vs.toArray.size then n else n+1)=ep at up;obtain⟨h1,hh1⟩:∃h1,h1=s.heap.update a (Obj.mapSeq λ_=>#[]):=⟨_,rfl⟩;have k1:Kp s0.heap h1:=by
  intro b o q;rw[hh1,(qD s.heap a _).2 b ?_]
  .exact hb b o q
  .rintro rfl;rw[ha0]at q;cases q
 rw[<-hh1]at up;obtain⟨K,hK⟩:∃K,K=(h1.push (seqObj "tuple" vs.toArray 0)).objs.size:=⟨_,rfl⟩;obtain⟨h3,hh3⟩:∃h3,h3=(h1.push (seqObj "tuple" vs.toArray 0)).push (seqObj "list" #[] 0):=⟨_,rfl⟩;have k3:Kp h1 h3:=λb o q=>by rw[hh3];exact nG _ (nG _ q)
 have oK:h3.get? K=some (seqObj "list" #[] 0):=by rw[hh3,hK];exact oP _ rfl
 have nK:s0.heap.get? K=none:=by
  cases z:s0.heap.get? K with
  | none=>rfl
  | some o=>
   have:=nP (k1 _ _ z);rw[hK,size_push']at this;exact JO this (Nat.not_lt.mpr (uk _))
 have aK:a≠K:=by rintro rfl;have h8:=nP up;rw[hK,size_push']at h8;exact JO h8 (Nat.not_lt.mpr (uk _))
 subst hK;rw[ZiK];refine mO (listItems_at ho rfl (mO (listUpdate_at ho rfl ?_ (hsz:=by rw[oH];exact hN))));rw[<-hh1];refine mO (seqEpoch_at up rfl (mO (wpAny_newTuple (mO (wpAny_newList (qR ?_))))));refine mO (rW ?_);rw[List.forIn_toArray];show wpAny _ _ _ _ _ { s with heap:=(h1.push (seqObj "tuple" vs.toArray 0)).push (seqObj "list" #[] 0) };rw[<-hh3];refine mO (Gy hc nK aK hN ?_ vs [] [] { s with heap:=h3 } 0 rfl (λb o q=>k3 b o (k1 b o q)) hg hos oK ⟨rfl,λi k v e _=>by simp at e⟩ (k3 a _ up));intro s2 ks m j1 j2 j3 j4 j5 j6;dsimp only;refine mO (listItems_at j4 rfl ?_);have fin:∀v:SortSt,failedOf v=none->((arrOf v).map (·.2)).toList.Perm vs->((arrOf v).map (·.2)).toList.Pairwise (λx y=>rN (kf y) (kf x)=false) ->
   wpAny (model prog w) A (do
    Builtin.List.listUpdate (.ref (h1.push (seqObj "tuple" vs.toArray 0)).objs.size) λ_=>#[]
    letGo ((arrOf v).map (·.1)).toList (failedOf v).toList
    let tch:=(<-seqEpoch a) != ep
    Builtin.List.listUpdate (.ref a) λ_=>(arrOf v).map (·.2)
    if let some e:=failedOf v then rule "list.sort.comparison-raised";throw e
    if tch then rule "list.sort.modified";raiseError "ValueError" "list modified during sort"
    ret .none) P E s2:=by
  intro v f1 f2 f3;have hl:=j5.1;refine mO (listUpdate_at j4 rfl (mO (wpAny_letGo ?_)) (hsz:=by rw[oH];lia));have sb:=qD s2.heap (h1.push (seqObj "tuple" vs.toArray 0)).objs.size (Obj.mapSeq λ_=>#[]);have a1:(s2.heap.update (h1.push (seqObj "tuple" vs.toArray 0)).objs.size (Obj.mapSeq λ_=>#[])).get? a=some (seqObj "list" #[] ep):=(sb.2 a aK).trans j6;refine mO (seqEpoch_at a1 rfl (mO (listUpdate_at a1 rfl ?_ (hsz2:=by
   have:=f2.length_eq;rw[pB]at this
   lia))))
  rw[f1,bne_self_eq_false];obtain⟨out,hout⟩:∃out,out=(arrOf v).map (·.2):=⟨_,rfl⟩;rw[<-hout]at f2 f3 ⊢;have a2:=get?_update_seq a1 (λ_=>out);generalize (if out.size == (#[]:Array Value).size then ep else ep+1)=e5 at a2;have e3:out.toList.toArray=out:=Array.toArray_toList;refine mW (h _ out.toList e5 ?_ j2 j3 (by rw[e3];exact a2) f2 f3);intro b o q;refine((qD _ a _).2 b ?_).trans ((sb.2 b ?_).trans (j1 b o q))
  .rintro rfl;rw[ha0]at q;cases q
  .rintro rfl;rw[nK]at q;cases q
 have zs:(ks.toArray.zip vs.toArray)=(ks.zip vs).toArray:=by simp
 have zm:((ks.zip vs).map (·.2))=vs:=List.map_snd_zip (by rw[j5.1];exact nD _);by_cases h2:vs.toArray.size<2
 .rw[mS h2,mS h2];refine mO (mW ?_);rw[StateT.run_pure];refine mO (mW ?_);refine fin (SortSt.mk' general' (ks.toArray.zip vs.toArray) #[] 7 none) rfl ?_ ?_
  .show ((ks.toArray.zip vs.toArray).map (·.2)).toList.Perm vs;rw[zs,Array.toList_map,zm]
  .show ((ks.toArray.zip vs.toArray).map (·.2)).toList.Pairwise _;rw[zs,Array.toList_map,zm]
   match vs,h2 with
   | [],_=>exact List.Pairwise.nil
   | [x],_=>exact List.pairwise_singleton _ _
   | _::_::_,h2=>simp at h2;lia
 .rw[mR h2,mR h2];have hne:ks≠[]:=by intro e;have:=j5.1;rw[e]at this;rw[oH,<-this]at h2;simp at h2
  refine mO (Zhw (λv hv=>?_) hne ?_)
  .obtain⟨i,hi,rfl⟩:=xJ hv;have h2:i<vs.length:=by rw[<-j5.1];exact hi
   exact⟨_,_,j5.2 i ks[i] vs[i] (om hi) (om h2)⟩
  .refine mO (qF (Gm (a0:=ks.zip vs) (st:=SortSt.mk' (tuples' true) (ks.toArray.zip vs.toArray) #[] 7 none) (Q:=λ_ v=>(arrOf v).toList.Perm (ks.zip vs)/\(arrOf v).toList.Pairwise (Le (xg s2.heap))/\failedOf v=none)
    (ZnW _) ZlS (λu hu=>(EJ j5 hu).2) rfl rfl rfl (by show (ks.toArray.zip vs.toArray).toList=_;rw[zs]) λv p1 p2 p3=>⟨p1,p2,p3⟩) ?_ λ_ _ e=>e)
   rintro⟨⟨⟩,v⟩ s3 ⟨rfl,p1,p2,p3⟩;refine fin v p3 ?_ ?_
   .rw[Array.toList_map];have:=p1.map (λp:Keyed=>p.2);rw[zm]at this;exact this
   .rw[Array.toList_map,uG];refine p2.imp_of_mem λ{x y} hx hy e=>?_;have e1:=(EJ j5 (p1.mem_iff.mp hx)).1;have e2:=(EJ j5 (p1.mem_iff.mp hy)).1;have e':rN (gA s3.heap y.1) (gA s3.heap x.1)=false:=e;rw[e1,e2]at e';exact e'
end
noncomputable def Dw:Value->Int×mN
 | .str x _=>((x.length:Nat),x.cps.toList)
 | _=>(0,[])
abbrev zB (x:Str)(p1 p2 p3 p4 p5:Pos)(k:Nat):Expr:=.Tuple [.Call (.Name "len" p1) [.Name x p2] [] p3,.Name x p4] k p5
structure jU (scope:Scope)(x:Str):Prop where
 kind:scope.kind=.function
 co:scope.isCoroutine=false
 gen:scope.isGenerator=false
 loc:scope.names.lookup x=some .local
 glb:scope.names.lookup ("len":Str)=some .globalImplicit
 nodbg:(x == ("__debug__":Str))=false
section
def ZkY (f:Str->Option NameKind){x:Str}{v:Value}(h:f x=some .local):bindL f [(x,v)] (λ_=>none) x=some v:=by unfold bindL bindL;rw[mS h,mS rfl]
def Zn0 
  (ho:s.heap.get? g=some o) (hod:o.data=.func (kla_fn name qual params (zB x p1 p2 p3 p4 p5 k) scope [] pm cv ctv)) (hcd:s.heap.CodeRec cv qual) (S:jU scope x)
  (hb:∀(s:AE) (u:Value),BindsTo s (kla_fn name qual params (zB x p1 p2 p3 p4 p5 k) scope [] pm cv ctv) ⟨[u],[]⟩ [(x,u)]) (hroom:A.depth<recursionLimit) (hlim:s.heap.NoLimit)
  (hg:s.heap.Ns mainGlobals mg) (hgl:mg "len"=none) (hbn:s.heap.Ns builtinsNs mb) (hbb:mb "len"=bootBuiltins "len") (hv:∀v∈vs,∃y t,v=.str y t/\y.length<=sizeLine):iL (model prog w) A g vs Dw s:=by
 intro E s' v Q hvm hk hgen hos q;obtain⟨y,t,rfl,hy⟩:=hv v hvm;have hs:sizeLine=16777216:=sizeLine_eq;refine uu (PySem.W.kla_callFunE hroom (hk _ _ ho) hod S.co S.gen rfl (let ⟨c,oc,ws,tq,e1,e2,r⟩:=hcd;⟨c,oc,ws,tq,e1,hk _ _ e2,r⟩) (hb _ _ _ _ _ _ ?_));refine wpAny_newFunctionEnv_cells S.kind (λz hz=>.inl (by rw[oN.mp hz];exact S.loc)) λenv he s1 X=>?_;refine⟨(hlim.keeps hk).keeps X.toInCall.keep,PySem.W.kla_codeExpr ?_⟩;subst he;obtain⟨h1,tk1,e1⟩:=X.toInCall.same;have kp1:Kp s'.heap s1.heap:=X.toInCall.keep;have lnm:∀(pp:Pos) (B:AH) (E2:oo) (s2:AE) (Q2:oo),Kp s1.heap s2.heap->Q2 (.str y t) s2->wpAny (model prog w) B (eval (.Name x pp) (newEnv scope s'.heap.objs.size mainGlobals (cellsFrom (s'.heap.objs.size+1) scope.names []) (qual++".<locals>.") (some g) cv none builtinsNs)) Q2 E2 s2:=λpp B E2 s2 Q2 k2 q2=>
  wpAny_Name (wpAny_loadName_local S.kind S.loc (X.toInCall.ns.keeps k2) (by exact ZkY _ S.loc) q2) S.nodbg
 refine wpAny_Tuple_spliced ?_;show wpAny _ _ (spliced ((false,eval (.Call (.Name "len" p1) [.Name x p2] [] p3) _)::backTo p5 (starEach [.Name x p4] _))) _ _ s1;refine vJ ?_;refine uz (Calls.Name_function_global S.kind S.glb (Calls.loadGlobal_builtin (v:=.builtin "len") (show s1.heap.Ns mainGlobals mg from(hg.keeps hk).keeps kp1) hgl (show s1.heap.Ns builtinsNs mb from(hbn.keeps hk).keeps kp1) (hbb.trans rfl) ?_) ⋯);refine BQ ?_ rfl rfl;show wpAny _ _ (spliced ((false,eval (.Name x p2) _)::backTo p3 (starEach [] _))) _ _ s1;refine vJ (lnm p2 _ _ _ _ (λ_ _ e=>e) (yr ?_));refine len_str ∅ ?_;show wpAny _ _ (spliced ((false,eval (.Name x p4) _)::backTo p5 (starEach [] _))) _ _ _;refine vJ (lnm p4 _ _ _ _ (λ_ _ e=>e) (yr ?_));refine⟨by rw[hs];show 2<=16777216;decide,?_⟩;rw[e1];refine q _ _ (λb o e=>nG _ (by have:=kp1 b o e;rw[e1]at this;exact this)) rfl rfl ⟨_,_,_,_,_,rfl,oP _ rfl,rfl⟩
end
def ZeC (a v:Value):argsOk "sorted" ⟨[a],[(Str.ofString "key",v)]⟩:=by unfold argsOk;kernel_rfl
def Zds (a v:Value):argsOk "list.sort" ⟨[a],[(Str.ofString "key",v)]⟩:=by unfold argsOk;kernel_rfl
section
def Zhb (eo:s.heap.get? a=some (seqObj "list" its.toArray n)) (hc:iL (model prog w) A.in1.in1 g its kf s) (hN:its.length<=sizeLine)
  (h:∀(s':AE) (r:AD) (us:AC) (e:Nat),s.heap.get? r=none->Kp s.heap s'.heap->s'.gens=s.gens->s'.os=s.os->s'.heap.get? r=some (seqObj "list" us.toArray e)->us.Perm its->us.Pairwise (λx y=>rN (kf y) (kf x)=false)->Q (.ref r) s'):
  wpAny (model prog w) A (call (.builtin "sorted") [.ref a] [(Str.ofString "key",.ref g)]) Q E s:=by
 refine call_function_entry_kw kind_sorted plain_sorted entry_sorted (ZeC _ _) ?_;unfold Builtin.«sorted»;refine mO (m:=checkCount "sorted" 1 1 _) (mW ?_);refine mO (collect_list (PySem.IsL.isList eo) ?_ hN);have sb:=qD (s.heap.push (seqObj "list" #[] 0)) s.heap.objs.size (Obj.mapSeq (·++its.toArray));have k1:Kp s.heap ((s.heap.push (seqObj "list" #[] 0)).update s.heap.objs.size (Obj.mapSeq (·++its.toArray))):=λb o e=>(sb.2 b (oO (nP e))).trans (nG _ e);generalize ((s.heap.push (seqObj "list" #[] 0)).update s.heap.objs.size (Obj.mapSeq (·++its.toArray)))=g1 at k1 ⊢;have nw:s.heap.get? g1.objs.size=none:=by
  cases z:s.heap.get? g1.objs.size with
  | none=>rfl
  | some o=>exact JO (nP (k1 _ _ z)) (qC _)
 refine mO (wpAny_newList ?_ hN);have hoL:(g1.push (seqObj "list" its.toArray 0)).get? g1.objs.size=some (seqObj "list" its.toArray 0):=oP _ rfl;refine mO (qR (wpAny_call_entry_kw slot_list_sort ⟨_,hoL,rfl⟩ entry_list_sort (ZiJ (s0:=s) hc (λb o e=>nG _ (k1 b o e)) rfl rfl nw hoL hN λs' us e k2 e1 e2 e3 e4 e5=>⟨_,rfl,?_⟩) (Zds _ _)));exact mW ⟨_,rfl,h s' _ us e nw k2 e1 e2 e3 e4 e5⟩
end
end L2
namespace L2
open PySem PySem.Spec PyProof.Rows PySem.W
noncomputable def uq:HO->Bool
 | .tbl _=>true
 | _=>false
def gu (H H':Hp):Prop:=∀b o,H b=some o->uq o=false->H' b=some o
def gu.refl (H:Hp):gu H H:=λ_ _ e _=>e
def gu.trans (a:gu H H1)(b:gu H1 H2):gu H H2:=λc o e n=>b c o (a c o e n) n
def fT.l (s:fT H H'):gu H H':=λb o e _=>s b o e
def vh (c:AD)(q:Str):HO:=.ext λh=>h.CodeRec (.ref c) q
def Zmn (x:h.CodeRec (.ref c) q):gg P w H h c (vh c q):=by obtain⟨c',o,vs,t,e,e1,r⟩:=id x;cases e;refine⟨x,⟨o,e1⟩,λh1 h2 x1 k=>?_⟩;obtain⟨c',o,vs,t,e,e1,r⟩:=x1;cases e;exact⟨c,o,vs,t,rfl,k _ e1,r⟩
def gL (H:Hp)(P:AD)(pos:Pos)(q:Str):Prop:=∃ps,H P=some (.tbl ps)/\TriplesOk ps.toList/\(codeAmong pos ps.toList=none\/∃c,codeAmong pos ps.toList=some (.ref c)/\H c=some (vh c q))
def gL.same (t:gL H P pos q)(s:fT H H'):gL H' P pos q:=by obtain⟨ps,e,tr,h⟩:=t;exact⟨ps,s _ _ e,tr,h.imp id λ⟨c,e1,e2⟩=>⟨c,e1,s _ _ e2⟩⟩
def mK (h:H P=some (.tbl #[])):gL H P pos q:=⟨#[],h,trivial,.inl rfl⟩
def ZeA {pos pos':Pos}{c:Value}(hne:pos'.line≠pos.line\/pos'.col≠pos.col)(l:AC)(h:TriplesOk l):codeAmong pos' (l++[rawInt pos.line,rawInt pos.col,c])=codeAmong pos' l:=by
 fun_induction TriplesOk l with
 | case1=>
  simp only[List.nil_append,codeAmong,rawInt];rw[mR];intro z;simp only[oJ,JP]at z;rcases hne with n | n
  .exact n (by have:=z.1;lia)
  .exact n (by have:=z.2;lia)
 | case2 a t b u x gx ih=>
  simp only[wJ,codeAmong];rw[ih h]
 | case3 l h1 h2=>exact h.elim
def iW (pos:Pos)(H H':Hp):Prop:=gu H H'/\∀(P':AD) (pos':Pos) (q':Str),(pos'.line≠pos.line\/pos'.col≠pos.col)->gL H P' pos' q'->gL H' P' pos' q'
def iW.then (s:iW pos H H1)(t:fT H1 H2):iW pos H H2:=⟨s.1.trans t.l,λP' p' q' n T=>(s.2 P' p' q' n T).same t⟩
structure ip (base:Heap)(mg:AB)(c P:AD):Prop where
 hd:CodeHd base c P
 bm:base.BuiltinsAt mg P
section
def mP.table (I:mP X Aq U H s)(hP:H P=some (.tbl ps))(hx:Heap.ExtBut P s.heap h')(hc:s.heap.objs.size<=c')(hr:h'.CodeRec (.ref c') q)(ht:h'.get? P=some (tabObj (ps++more))):
  mP X Aq U (upd (upd H P (.tbl (ps++more))) c' (vh c' q)) { s with heap:=h',toks:=t' }:=by
 have fc:H c'=none:=I.hok.fresh hc;have nPc:P≠c':=on hP fc;have nt:∀ {b u},H b=some u->(∀ps,u≠.tbl ps)->b≠P:=λe n z=>by rw[z,hP]at e;exact n _ (Option.some.inj e).symm
 have nc:∀ {b u},H b=some u->b≠c':=λe=>on e fc;have hz:∀ {b o},s.heap.get? b=some o->b≠c':=λe z=>JO (nP e) (by rw[z];exact Nat.not_lt.mpr hc);have nn:∀ {b},H b=none->b≠P:=λe z=>by rw[z,hP]at e;cases e
 refine I.call' (s':={ s with heap:=h',toks:=t' }) (ch:=[]) rfl ⟨λb o e n _ _=>hx b o (nn n) e,λb o e n _ _=>⟨o.slots,hx b o (nn n) e⟩,λb o e n _=>?_,λb o e _=>?_,λb xs e=>?_,λb o u e=>?_,λb qs e=>?_⟩ (λb u e=>?_) I.bare (λb z=>by cases z)
 .rw[mT (hz e),mT (nn n)];exact n
 .by_cases z:b=P
  .exact⟨_,by rw[z];exact ht⟩
  .exact⟨o,hx b o z e⟩
 .rw[mT (nc e),mT (nt e λ_ z=>by cases z)];exact e
 .rw[mT (nc e),mT (nt e λ_ z=>by cases z)];exact e
 .by_cases z:b=P
  .subst z;rw[hP]at e;cases e;exact⟨more,by rw[mT nPc,nu]⟩
  .exact⟨#[],by rw[mT (nc e),mT z,e];simp⟩
 .by_cases z1:b=c'
  .subst z1;rw[nu]at e;cases e;exact Zmn hr
  .rw[mT z1]at e;by_cases z2:b=P
   .subst z2;rw[nu]at e;cases e;exact ht
   .rw[mT z2]at e;refine(I.hok b u e).stay (λd v hd k=>?_) (λd k=>?_) λd xs k=>?_
    .refine hx d v ?_ k;rcases hd with rfl | hd
     .exact z2
     .exact nt hd λ_ z=>by cases z
    .rw[mT (nc k),mT (nt k λ_ z=>by cases z)];exact k
    .rw[mT (nc k),mT (nt k λ_ z=>by cases z)];exact k
def Zkj (I:mP X Aq U H s)(L:ip X.base X.mg c P)(hcode:X.env.code=.ref c)(hcl:closureFor scope X.env=pure clos)(hdef:defaultsOf params X.env=([],[]))
  (hq:X.env.qual++"<lambda>"=q) (T:gL H P pos q)
  (h:∀(H1:Hp) (h':Heap) (tk:Nat) (c':AD) (ctv:Value),iW pos H H1->gL H1 P pos q->(∀b,H1 b=none->H b=none)->mP X Aq U H1 { s with heap:=h',toks:=tk }->h'.CodeRec (.ref c') q->H1 c'=some (vh c' q)->Q (.ref h'.objs.size) { s with heap:=h'.push (kla_obj "<lambda>" q params body scope clos ((X.mg "__name__").getD .none) c' ctv),toks:=tk }):
  wpAny (model X.prog X.w) X.A (eval (.Lambda params body scope pos) X.env) Q E s:=by
 obtain⟨ps,hP,tr,hc⟩:=T;have gP:s.heap.get? P=some (tabObj ps):=I.hok P _ hP;have C:CodeHd s.heap c P:=L.hd.keeps I.bk;have hg:s.heap.Ns mainGlobals X.mg:=I.mod.glob.keeps I.bk;have hgP:mainGlobals≠P:=λz=>by obtain⟨o,es,ep,e,hd,_⟩:=hg;rw[z,gP]at e;cases e;cases hd
 have hbm:s.heap.BuiltinsAt X.mg P:=let ⟨bm,o,a1,a2,a3,a4,a5,r⟩:=L.bm;⟨bm,o,a1,a2,a3,a4,I.bk _ _ a5,r⟩;refine kla_eval hdef ?_;rw[hq];rcases hc with hn | ⟨c',hf,hc'⟩
 .refine kla_makeFunction hcl I.ok.glob hg hcode C gP tr hn hgP hbm λc' ctv h' tk hx hge A1 hrec htab=>?_;have fc:H c'=none:=I.hok.fresh hge;have J:=I.table (t':=tk) hP hx hge hrec htab;have nPc:P≠c':=on hP fc;have el:(ps++#[rawInt pos.line,rawInt pos.col,Value.ref c']).toList=ps.toList++[rawInt pos.line,rawInt pos.col,.ref c']:=by simp
  refine h _ _ _ c' ctv ⟨λb o e n=>?_,λP' pos' q' hne T'=>?_⟩ ⟨_,by rw[mT nPc,nu],by rw[el];exact TriplesOk_snoc _ _ _ _ tr,.inr ⟨c',by rw[el];exact codeAmong_snoc _ tr hn,nu⟩⟩ (λb e=>?_) J hrec nu
  .rw[mT (on e fc),mT (λz=>by rw[z,hP]at e;cases e;cases n)];exact e
  .obtain⟨ps',e1,t1,h1⟩:=T';have keep:∀d,H d=some (vh d q')->upd (upd H P (.tbl (ps++#[rawInt pos.line,rawInt pos.col,Value.ref c']))) c' (vh c' q) d=some (vh d q'):=λd e=>by rw[mT (on e fc),mT (λz=>by rw[z,hP]at e;cases e)];exact e
   by_cases z:P'=P
   .subst z;rw[hP]at e1;cases e1;refine⟨_,by rw[mT nPc,nu],by rw[el];exact TriplesOk_snoc _ _ _ _ tr,?_⟩;rw[el,ZeA hne _ tr];exact h1.imp id λ⟨d,f1,f2⟩=>⟨d,f1,keep d f2⟩
   .exact⟨ps',by rw[mT (on e1 fc),mT z];exact e1,t1,h1.imp id λ⟨d,f1,f2⟩=>⟨d,f1,keep d f2⟩⟩
  .by_cases z1:b=c'
   .rw[z1];exact fc
   .rw[mT z1]at e;by_cases z2:b=P
    .rw[z2,nu]at e;cases e
    .rw[mT z2]at e;exact e
 .refine kla_makeFunctionHit hcl I.ok.glob hg hcode C gP tr hf hbm λctv h' tk hk hsz=>?_;have hrec:s.heap.CodeRec (.ref c') q:=(I.hok c' _ hc').1;exact h H _ _ c' ctv ⟨gu.refl _,λ_ _ _ _ T=>T⟩ ⟨ps,hP,tr,.inr ⟨c',hf,hc'⟩⟩ (λb e=>e) (I.kept (t':=tk) hk) (hrec.keeps hk) hc'
def Zkk (I:mP X Aq U H s)(L:ip X.base X.mg c P)(hcode:X.env.code=.ref c)(hcl:closureFor scope X.env=pure [])(hdef:defaultsOf params X.env=([],[]))
  (hq:X.env.qual++"<lambda>"=q) (T:gL H P pos q)
  (h:∀(g:AD) (H1:Hp) (s1:AE) (cv ctv pm:Value),iW pos H H1->gL H1 P pos q->(∀b,H1 b=none->H b=none)->mP X Aq U H1 s1->s1.heap.get? g=some { cls:=.type "function",data:=.func (kla_fn "<lambda>" q params body scope [] pm cv ctv) }->s1.heap.CodeRec cv q->Q (.ref g) s1):
  wpAny (model X.prog X.w) X.A (eval (.Lambda params body scope pos) X.env) Q E s:=
 Zkj I L hcode hcl hdef hq T λH1 h' tk c' ctv st t1 fr J hrec _=>h _ H1 _ (.ref c') ctv _ st t1 fr (J.kept (t':=tk) λb o e=>nG _ e) (oP _ rfl) (hrec.push _)
end
def Zjf:bootBuiltins "sorted"=some (.builtin "sorted"):=rfl
noncomputable def sP:Value->mN
 | .str x _=>x.cps.toList
 | _=>[]
theorem E8:∀ {ws:mU} {us:AC},fV (ws.map tx) us->ws=us.map sP/\(∀v∈us,∃y t,v=.str y t/\y.length=(sP v).length)
 | [],_,.nil=>⟨rfl,λv hv=>by cases hv⟩
 | w::ws,_,.cons ⟨t,e⟩ r=>by
  obtain⟨h1,h2⟩:=E8 (ws:=ws) r;subst e;refine⟨by rw[pH,<-h1];simp[sP],λv hv=>?_⟩;rcases ot.mp hv with rfl | hv
  .exact⟨_,t,rfl,by simp[sP,Str.length]⟩
  .exact h2 v hv
theorem Fd:∀(us:AC),(∀v∈us,∃y t,v=.str y t)->fV ((us.map sP).map tx) us
 | [],_=>.nil
 | v::us,h=>by obtain⟨y,t,rfl⟩:=h v pW;exact .cons ⟨t,by simp[sP]⟩ (Fd us λu hu=>h u (pP _ hu))
def IR (P:AD)(lpos:Pos)(q:Str)(ta:TA):TE:=λU H Q=>ta U H λvs H1=>∃(a:AD) (ws:mU),vs=[.ref a]/\H1 a=some (.lst (ws.map tx))/\(∀w∈ws,w.length<=sizeLine)/\gL H1 P lpos q /\
 ∀(ws':mU) (r:AD) (H2:Hp),ws'.Perm ws->ws'.Pairwise (λa b=>¬gU b a)->iW lpos H1 H2->gL H2 P lpos q->H1 r=none->H2 r=some (.lst (ws'.map tx))->Q (.ref r) H2
def ZnX:rN ((b.length:Nat),b) ((a.length:Nat),a)=false↔¬gU b a:=by
 rw[tN,Ne,DO];unfold gU;dsimp only;have e1:((b.length:Int)<(a.length:Int))↔b.length<a.length:=by lia
 have e2:((b.length:Int)=(a.length:Int))↔b.length=a.length:=by lia
 rw[e1,e2]
section
def ZlC (hr:gz k X.A) (L:ip X.base X.mg c P) (hcode:X.env.code=.ref c) (hg:Gl X "sorted") (hm:X.mg "sorted"=none) (As:X.mg "len"=none) (ha:PA X [e] ta) (hcl:closureFor scope X.env=pure []) (hdef:defaultsOf params X.env=([],[])) (hq:X.env.qual++"<lambda>"=q)
  (S:jU scope x) (hb:∀(s:AE) (u pm cv ctv:Value),BindsTo s (kla_fn "<lambda>" q params (zB x p1 p2 p3 p4 p5 kk) scope [] pm cv ctv) ⟨[u],[]⟩ [(x,u)])
  (he:backTo pos (starEach [e] X.env)=(false,eval e X.env)::backTo pos (starEach [] X.env):=by rfl) (hpl:(backTo pos (starEach [e] X.env)).any (·.1)=false:=by rfl):
  PE X (.Call (.Name "sorted" p) [e] [⟨some "key",.Lambda params (zB x p1 p2 p3 p4 p5 kk) scope lpos,kpos⟩] pos) (IR P lpos q ta):=by
 intro Aq s U H Q I h;refine uz (uQ I hg hm Zjf ?_);refine PyProof.Rows.callWith_kw (m8 (ha pos Aq s U H _ I h) λus s1 zz=>?_) he hpl;obtain⟨vs,H1,I1,r1,q1⟩:=zz;obtain⟨a,ws,rfl,hH,hw,T,q⟩:=q1;show wpAny _ _ (evalAll ((do let v <-eval (.Lambda params (zB x p1 p2 p3 p4 p5 kk) scope lpos) X.env;standAt pos;pure v)::[])) _ _ s1;refine wpAny_evalAll_cons (mO (Zkk I1 L hcode hcl hdef hq T λg H2 s2 cv ctv pm sl T2 fr I2 ho hcd=>mO (wB (mW (wpAny_evalAll_nil ?_)))));obtain⟨u,rfl,ru⟩:=r1.one;cases ru;have hH2:=sl.1 _ _ hH rfl;obtain⟨hz,its,n,r,hlen',eo⟩:=I2.lstM hH2;obtain⟨ew,hs⟩:=E8 r;have hN:its.length<=sizeLine:=by rw[<-r.length];exact hz
 obtain⟨mb,b1,b2⟩:=I2.mod.blt;have key:=Zn0 (prog:=X.prog) (w:=X.w) (A:=X.A.in1.in1) (vs:=its) ho rfl hcd S (λs u=>hb s u pm cv ctv) (show X.A.depth<recursionLimit by have:=hr.dp;lia) (I2.mod.nolimit.keeps I2.bk) (I2.mod.glob.keeps I2.bk) As (b1.keeps I2.bk) (b2 _ ⋯) (λv hv=>by obtain⟨y,t,e1,e2⟩:=hs v hv;exact⟨y,t,e1,by rw[e2];exact hw _ (by rw[ew];exact uR hv)⟩)
 refine Zhb eo key hN λs' r' us e nr kp g1 o1 er pm2 pw=>?_;have hs2:∀v∈us,∃y t,v=.str y t/\y.length=(sP v).length:=λv hv=>hs v (pm2.mem_iff.mp hv);have rv:fV ((us.map sP).map tx) us:=Fd us λv hv=>let ⟨y,t,e,_⟩:=hs2 v hv;⟨y,t,e⟩;have hl2:us.length=its.length:=pm2.length_eq;have fr':H1 r'=none:=fr _ (I2.hok.none_of nr);have J:=I2.laid2 (s':=s') (a:=r') (o:=.lst ((us.map sP).map tx)) o1 g1 kp nr ⟨by rw[m6,m6];lia,us,e,rv,er⟩;have hr2:=I2.hok.none_of nr;refine⟨.ref r',_,J,rfl,q (us.map sP) r' _ (by rw[ew];exact pm2.map _) ?_ (sl.then (pX hr2)) (T2.same (pX hr2)) fr' nu⟩;rw[uG];refine pw.imp_of_mem λ{y z} hy hz e=>?_;rw[<-ZnX];obtain⟨y1,t1,e1,e2⟩:=hs2 y hy;obtain⟨z1,t2,e3,e4⟩:=hs2 z hz;subst e1 e3;have f1:Dw (.str y1 t1)=((((sP (.str y1 t1)).length:Nat):Int),sP (.str y1 t1)):=by rw[<-e2];rfl
 have f2:Dw (.str z1 t2)=((((sP (.str z1 t2)).length:Nat):Int),sP (.str z1 t2)):=by rw[<-e4];rfl
 rw[f1,f2]at e;exact e
end
def Iy (o:Obj):Bool:=match o.cls,o.data with
 | .none,.fields _=>true
 | _,_=>false
def BJ (K:Frag):Bool:=K.all λp=>!Iy p.2
def Zgo {K:Frag}(h:BJ K=true){b:AD}{o:Obj}(e:K.lookup b=some o):Iy o=false:=by
 unfold BJ at h;rw[sE]at h;have:∀(l:AA),l.lookup b=some o->(b,o)∈l:=λl=>by
  induction l with
  | nil=>intro e;cases e
  | cons q r ih=>
   intro e;obtain⟨b',o'⟩:=q;rw[uc]at e;by_cases z:b=b'
   .subst z;simp at e;subst e;exact pW
   .have z':(b == b')=false:=by simpa using z
    rw[z']at e;exact pP _ (ih e)
 have:=h _ (this K e);simpa using this
structure jd (mg:AB)(h:Heap)(n:Str)(c P:AD):Prop where
 fn:∃a o fd,mg n=some (.ref a)/\h.get? a=some o/\o.data=.func fd/\fd.code=.ref c
 code:h.IsCode c P #[]
 tab:h.TableAt c P #[]
def jd.codeEq (t:jd mg h n c P)(e1:mg n=some (.ref a))(e2:h.get? a=some o)(e3:o.data=.func fd):fd.code=.ref c:=by obtain⟨a',o',fd',f1,f2,f3,f4⟩:=t.fn;rw[e1]at f1;cases f1;rw[e2]at f2;cases f2;rw[e3]at f3;cases f3;exact f4
def Zki {P:AG}{w:AI}{K:Q4}{mg mb:AB}{CX:tK}{k:Nat}{fa a:AD}{fd:AF}{x:Str}{sp:Sp}{s_1:AE}{vs:AC}{ns:List Int}{nms:AJ}{tb:Str->AD×AD}
  (KX:K.In s_1.heap) (hns:s_1.heap.Ns mainGlobals mg) (hb:s_1.heap.Ns builtinsNs mb) (hbb:∀x:Str,x≠"__name__"->mb x=bootBuiltins x) (hlim:s_1.heap.NoLimit) (hg:s_1.gens=#[])
  (ha:s_1.heap.get? a=some { cls:=.type "list",data:=.seq vs.toArray }) (hi:IntsAre vs ns) (hl:ns.length<=sizeLine) (hr:gz k callerA)
  (hT:∀n∈nms,jd mg s_1.heap n (tb n).1 (tb n).2) (hKt:BJ K=true) (hbm:∃bm ob,mg "__builtins__"=some (.ref bm)/\bm≠builtinsNs/\s_1.heap.get? bm=some ob/\ob.cls=.type "module"/\ob.dict=some builtinsNs/\ob.data=.plain)
  (F:∀base:Heap,K.In base->base.Ns mainGlobals mg->(∀n∈nms,ip base mg (tb n).1 (tb n).2)->f7 P w K mg base CX k fa fd [x] sp) (hbind:∀(s:AE) (u:Value),BindsTo s fd ⟨[u],[]⟩ [(x,u)])
  (hsp:∀H:Hp,(∀n∈nms,H (tb n).2=some (.tbl #[]))->oj K H a (ns.map V.int)->sp [.ref a] H (λv _=>v=.bl true) λ_ _ _=>False)
  (hCX:∀H e s',CX [] H s_1 (λ_ _ _=>False) e s'->False):
  codeAny (model P w) callerA (.call (.ref fa) ⟨[.ref a],[]⟩) (λr s'=>r=.ok (.ret (.bool true))/\OldK s_1.heap s'.heap/\s'.os=s_1.os/\AllBare s'.gens) s_1:=by
 have rv:=HK hi;have lenV:=hi.length;have hta:∀n∈nms,s_1.heap.get? (tb n).2=some (tabObj #[]):=λn hn=>(hT n hn).tab.2;have aP:∀n∈nms,(tb n).2≠a:=λn hn z=>by have e:=hta n hn;rw[z,ha]at e;have:=JN Obj.cls (Option.some.inj e);exact JO (show Value.type "list"=Value.none from this) {}
 let isP:AD->Prop:=λb=>∃n∈nms,(tb n).2=b
 have core:∀H:Hp,oj K H a (ns.map V.int)->o7 P w H s_1.heap->(∀b,H b≠none->(b=a/\∃o xs,H b=some (.frz o (.lst xs)))\/(isP b/\H b=some (.tbl #[])))->(∀b,isP b->H b=some (.tbl #[]))->(H a≠none->K.lookup a=none) ->
   codeAny (model P w) callerA (.call (.ref fa) ⟨[.ref a],[]⟩) (λr s'=>r=.ok (.ret (.bool true))/\OldK s_1.heap s'.heap/\s'.os=s_1.os/\AllBare s'.gens) s_1:=by
  intro H hS hok hA hPt hK;have base_of:∀ {b:AD} {o:Obj},s_1.heap.get? b=some o->H b=none->(iQ s_1.heap H).get? b=some o:=λe n=>Zl4 e n;have noT:∀ {b:AD} {o:Obj},s_1.heap.get? b=some o->o≠tabObj #[]->o.cls≠.type "list"->H b=none:=λ{b o} e n1 n2=>by
   cases q:H b with
   | none=>rfl
   | some u=>
    rcases hA b (by rw[q];simp) with⟨e',_⟩|⟨⟨n,hn,e'⟩,_⟩
    .subst e';rw[ha]at e;cases e;exact JO rfl n2
    .subst e';rw[hta n hn]at e;cases e;exact JO rfl n1
  have noA:∀ {b:AD} {o:Obj} {es:Array DictEntry} {ep:Nat},s_1.heap.get? b=some o->o.data=.dict es ep->H b=none:=λ{b o es ep} e d=>by
   cases q:H b with
   | none=>rfl
   | some u=>
    rcases hA b (by rw[q];simp) with⟨e',_⟩|⟨⟨n,hn,e'⟩,_⟩
    .subst e';rw[ha]at e;cases e;have d':Data.seq vs.toArray _=Data.dict es ep:=d;cases d'
    .subst e';rw[hta n hn]at e;cases e;cases d
  have nsK:∀ {b:AD} {m:AB},s_1.heap.Ns b m->(iQ s_1.heap H).Ns b m:=λ{b m} ⟨o,es,ep,e,d,r⟩=>⟨o,es,ep,base_of e (noA e d),d,r⟩;have hKb:K.In (iQ s_1.heap H):=λb o e=>base_of (KX b o e) (by
   cases q:H b with
   | none=>rfl
   | some u=>
    rcases hA b (by rw[q];simp) with⟨e',_⟩|⟨⟨n,hn,e'⟩,_⟩
    .subst e';rw[hK (by rw[q];simp)]at e;cases e
    .subst e';have e1:=KX _ _ e;rw[hta n hn]at e1;have e2:=Zgo hKt e;rw[<-Option.some.inj e1]at e2;cases e2)
  have hM:Mod K mg (iQ s_1.heap H):=⟨hKb,nsK hns,⟨mb,nsK hb,hbb⟩,let ⟨mc,h1,h2⟩:=hlim;⟨mc,nsK h1,h2⟩⟩;have e0:jk P w K mg (iQ s_1.heap H) callerA [] s_1 H:=⟨rfl,hM,λb o e=>ZnS e,vj (ZkA _ _),trivial,λb hb=>JO (show b∈([]:List AD) from hb) {},hok,.of_eq hg⟩;have hL:∀n∈nms,ip (iQ s_1.heap H) mg (tb n).1 (tb n).2:=λn hn=>by
   obtain⟨bm,ob,b1,b2,b3,b4,b5,b6⟩:=hbm;obtain⟨oc,vc,file,tf,flags,tg,inF,text,tt,c1,c2,c3,r⟩:=CodeHd.of (hT n hn).code (hT n hn).tab;refine⟨⟨oc,vc,file,tf,flags,tg,inF,text,tt,base_of c1 (noT c1 (λz=>by rw[z]at c2;cases c2) (λz=>by rw[c2]at z;exact JO z ⋯)),c2,c3,r⟩,bm,ob,b1,b2,λz=>?_,λz=>?_,base_of b3 (noT b3 (λz=>by rw[z]at b4;cases b4) (λz=>by rw[b4]at z;exact JO z ⋯)),b4,b5,b6⟩
   .obtain⟨o,es,ep,e,d,_⟩:=hns;rw[<-z,b3]at e;cases e;rw[b6]at d;cases d
   .rw[z,hta n hn]at b3;cases b3;cases b4
  refine codeAny_mono ((F _ hKb (nsK hns) hL).run callerA [] s_1 H ⟨[.ref a],[]⟩ [.ref a] [.ref a] _ _ hr e0 (hbind s_1 (.ref a)) (.cons rfl .nil) (hsp H (λn hn=>hPt _ ⟨n,hn,rfl⟩) hS)) λr s' h=>?_;cases r with
  | error e=>exact(hCX H e s' h).elim
  | ok fl=>
   cases fl with
   | next=>exact False.elim h
   | brk=>exact False.elim h
   | cont=>exact False.elim h
   | ret u=>
    obtain⟨v,H',os,bare,un,hok',r',q⟩:=h;have q':v=.bl true:=q;subst q';obtain rfl:u=Value.bool true:=r';refine⟨rfl,⟨λb o e=>?_,λb o e=>un.there b o e {}⟩,os,bare⟩;cases q:H b with
    | none=>exact .inl (un.keep b o e q (by intro z;exact JO (show b∈([]:List AD) from z) {}) {})
    | some u=>
     rcases hA b (by rw[q];simp) with⟨_,ob,xs,z⟩|⟨⟨n,hn,e'⟩,z⟩
     .have z2:=un.frzs b ob _ z;obtain⟨e1,_⟩:=hok b _ z;obtain⟨e2,_⟩:=hok' b _ z2;rw[e]at e1;cases e1;exact .inl e2
     .obtain⟨more,z2⟩:=un.tbls b _ z;have e1:s_1.heap.get? b=some (tabObj #[]):=hok b _ z;have e2:s'.heap.get? b=some (tabObj (#[]++more)):=hok' b _ z2;rw[e]at e1;cases e1;exact .inr (.inl ⟨by rw[<-e'];exact(hT n hn).tab.isCodeTable,rfl,#[],more,rfl,e2⟩)
 cases hk:K.lookup a with
 | some o=>
  have e:=KX a o hk;rw[ha]at e;cases e
  haveI:DecidablePred isP:=λ_=>Classical.propDecidable _
  refine core (λb=>if isP b then some (.tbl #[]) else none) (.inr ⟨_,vs.toArray,_,hk,rfl,rfl,rfl,by rw[oH,lenV];exact hl,~~~rv⟩) (λb u z=>?_) (λb z=>?_) (λb hb=>mS hb) λz=>?_
  .by_cases hb:isP b
   .have z':=(mS hb).symm.trans z;cases z';obtain⟨n,hn,rfl⟩:=hb;exact hta n hn
   .have z':=(mR hb).symm.trans z;cases z'
  .by_cases hb:isP b
   .exact .inr ⟨hb,mS hb⟩
   .exact JO (mR hb) z
  .have:¬isP a:=λ⟨n,hn,e⟩=>aP n hn e;exact JO (mR this) z
 | none=>
  haveI:DecidablePred isP:=λ_=>Classical.propDecidable _
  refine core (λb=>if b=a then some (.frz { cls:=.type "list",data:=.seq vs.toArray } (.lst (ns.map V.int))) else if isP b then some (.tbl #[]) else none) (.inl (.inr ⟨{ cls:=.type "list",data:=.seq vs.toArray },mS rfl⟩)) (λb u z=>?_) (λb z=>?_) (λb hb=>?_) λ_=>hk
  .by_cases hb:b=a
   .have z':=(mS hb).symm.trans z;cases z';subst hb;exact⟨ha,by rw[m6];exact hl,vs,_,rv,ha⟩
   .have z':=(mR hb).symm.trans z;by_cases hp:isP b
    .have z2:=(mS hp).symm.trans z';cases z2;obtain⟨n,hn,rfl⟩:=hp;exact hta n hn
    .have z2:=(mR hp).symm.trans z';cases z2
  .by_cases hb:b=a
   .exact .inl ⟨hb,_,_,mS hb⟩
   .by_cases hp:isP b
    .exact .inr ⟨hp,by rw[mR hb,mS hp]⟩
    .exact JO (by rw[mR hb,mR hp]) z
  .have nb:b≠a:=by obtain⟨n,hn,rfl⟩:=hb;exact aP n hn
   rw[mR nb,mS hb]
def mJ {l:PySem.W.OpenLaw}{n k:Nat}{q:AG}{loose:AJ}{XP:(AB)->Heap->Prop}{YP:AI->Heap->Prop}{d:DefRec}{K:Params->Q4}{CX:tK}{sp:Q4->(Str->AD×AD)->Sp}{x:Str}(nms:AJ)
  (hn:l.most=some n) (hn2:n<=sizeLine) (hdf:d.params.defaults=[]) (hr:gz k callerA)
  (hY:∀(w:AI) (h:Heap),YP w h->(K w.params).In h) (hKt:∀P:Params,BJ (K P)=true) (hnm:(nms.all λn=>(recsOf q).any λe=>e.name == n)=true)
  (F:∀(w:AI) (mg:AB) (fa:AD) (h:Heap) (tb:Str->AD×AD),(K w.params).In h->h.Ns mainGlobals mg->mg d.name=some (.ref fa)->(∀n∈nms,jd mg h n (tb n).1 (tb n).2) ->
   ∃fd:AF,(∀(s:AE) (u:Value),BindsTo s fd ⟨[u],[]⟩ [(x,u)]) /\
    ∀base:Heap,(K w.params).In base->base.Ns mainGlobals mg->(∀n∈nms,ip base mg (tb n).1 (tb n).2)->f7 l.prog w (K w.params) mg base CX k fa fd [x] (sp (K w.params) tb))
  (hsp:∀(K:Q4) (tb:Str->AD×AD) (H:Hp) (a:AD) (ns:List Int),ns.length<=n->(∀n∈nms,H (tb n).2=some (.tbl #[]))->oj K H a (ns.map V.int)->sp K tb [.ref a] H (λv _=>v=.bl true) λ_ _ _=>False)
  (hCX:∀(H:Hp) (s:AE) (e:Value) (s':AE),CX [] H s (λ_ _ _=>False) e s'->False):
  PySem.W.WalkO q loose XP YP l.row.toRowW d [] (λf vs=>PySem.call f vs):=by
 refine Att.attach_call hn hdf λw s_0 s_1 mg mb fa o pm cd doc a vs ns G Y ho hd hcd hmg hobj hints As hg=>?_;have KX:=hY w _ Y;have ex:∀n:Str,∃cp:AD×AD,n∈nms->jd mg s_1.heap n cp.1 cp.2:=λn=>by
  by_cases h:n∈nms
  .rw[sE]at hnm;have:=hnm n h;rw[vv]at this;obtain⟨e,he,en⟩:=this;have en:e.name=n:=by simpa using en
   obtain⟨a',o',fd',c,P,h1,h2,h3,h4,h5,h6⟩:=G.T.tab e he;exact⟨(c,P),λ_=>⟨⟨a',o',fd',by rw[<-en];exact h1,h2,h3,h4⟩,h5,h6⟩⟩
  .exact⟨(0,0),λz=>JO z h⟩
 obtain⟨tb,htb⟩:=Classical.skolem.mp ex;obtain⟨fd,hb,hF⟩:=F w mg fa _ tb KX G.T.g hmg htb;exact Zki KX G.T.g G.T.b G.T.builtins G.T.nolimit hg hobj hints (og As hn2) hr htb (hKt _) G.T.bmain hF hb (λH hP hS=>hsp (K w.params) tb H a ns As hP hS) λH e s'=>hCX H s_1 e s'
section
variable {P:AG}{w:AI}{K:Q4}{mg:AB}{base:Heap}
def rJ.okC {x qual:Str}{st:Stmt}{f:AD}{fd:AF}{N ps:AJ}{k:Nat}{sp:Sp}{c:Value}(F:rJ K x qual st f fd)(hc:fd.code=c)(S:fU N ps (qQ st))
  (body:∀(A:AH) (outer:List Env) (s:AE) (H:Hp) (vs:JR) (Q:VK) (E:XK),gz k (A.deeper (envOfC qual (qQ st) s.heap.objs.size f c))->sp vs H Q E ->
   ∃t,rn (ir nQ P w K mg base N qual (qQ st) f c A outer s H E).nox (tE st) t/\t { nx:=λ_ H'=>Q .non H',rt:=Q } (start N vs) H)(len:∀vs H Q E,sp vs H Q E->vs.length=ps.length:=by walk_at "ln"):f7 P w K mg base nQ (k+1) f fd ps sp:=by
 obtain⟨⟨oc,od,kV,doc,pm,an,Ar,ct,osl,rfl,l,cc⟩,_⟩:=F;obtain rfl:Ar=c:=hc;refine CO l cc S len λA outer s H vs Q E hr hsp=>?_;obtain⟨t,h,q⟩:=body A outer s H vs Q E hr hsp;exact⟨t,h.nox,q⟩
def rJ.at {x qual:Str}{st:Stmt}{f:AD}{fd:AF}{h:Heap}(F:rJ K x qual st f fd)(KX:K.In h):∃o,h.get? f=some o/\o.data=.func fd:=by obtain⟨⟨oc,od,kV,doc,pm,an,Ar,ct,osl,rfl,l,cc⟩,_⟩:=F;exact⟨_,KX _ _ l,rfl⟩
end
end L2
namespace L2
open PySem PySem.Spec PyProof.Rows
def pC (S:List AD)(H H':Hp):Prop:=∀b o,H b=some o->b∉S->uq o=false->H' b=some o
def gu.chg (s:gu H H'):pC S H H':=λb o e _ t=>s b o e t
def fT.chg (s:fT H H'):pC S H H':=λb o e _ _=>s b o e
def pC.trans (a:pC S H H1)(b:pC S H1 H2):pC S H H2:=λc o e n t=>b c o (a c o e n t) n t
def pC.upd (h:a∈S):pC S H (upd H a o):=λb u e n _=>by rw[mT (show b≠a from λz=>n (by rw[z];exact h))];exact e
def pC.mono (h:pC S H H')(k:∀b∈S,b∈S'):pC S' H H':=λb o e n t=>h b o e (λz=>n (k b z)) t
def pC.l (h:pC [] H H'):gu H H':=λb o e t=>h b o e {} t
def Nw (H:Hp)(r:AD):Prop:=∀o,H r=some o->uq o=true
def Nw.of (h:H r=none):Nw H r:=λo e=>by rw[h]at e;cases e
def Nw.ne (n:Nw H r)(h:H b=some o)(t:uq o=false):b≠r:=λz=>by rw[z]at h;rw[n o h]at t;cases t
def Nw.l (n:Nw H1 r)(s:gu H H1):Nw H r:=λo e=>by
 cases t:uq o with
 | true=>rfl
 | false=>rw[<-t];exact n o (s r o e t)
def Nw.same (n:Nw H1 r)(s:fT H H1):Nw H r:=n.l s.l
def Nw.chg (n:Nw H1 r)(c:pC S H H1)(hS:∀b∈S,∃o,H1 b=some o/\uq o=false):Nw H r:=λo e=>by
 by_cases z:r∈S
 .obtain⟨u,hu,tu⟩:=hS r z;exact JO rfl (n.ne hu tu)
 .cases t:uq o with
  | true=>rfl
  | false=>rw[<-t];exact n o (c r o e z t)
def BD:HO->Bool
 | .ext _=>true
 | _=>false
def gL.upd (T:gL H P pos q)(h:H a=some o)(t:uq o=false)(x:BD o=false):gL (L2.upd H a o') P pos q:=by
 obtain⟨ps,e,tr,hc⟩:=T;refine⟨ps,?_,tr,hc.imp id ?_⟩
 .rw[mT (λz=>by rw[z,h]at e;cases e;cases t)];exact e
 .rintro⟨c,e1,e2⟩;refine⟨c,e1,?_⟩;rw[mT (λz=>by rw[z,h]at e2;unfold vh at e2;cases e2;cases x)];exact e2
def oj.lL {K:Q4}{H H':Hp}{a:AD}{xs:JR}(h:oj K H a xs)(s:gu H H'):oj K H' a xs:=by
 rcases h with h | h
 .rcases h with h | ⟨o,h⟩
  .exact .inl (.inl (s _ _ h rfl))
  .exact .inl (.inr ⟨o,s _ _ h rfl⟩)
 .exact .inr h
def RowA (H:Hp)(y:V)(r:mN×JR):Prop:=∃a b,y=.ref a/\H a=some (.tup [tx r.1,.ref b])/\H b=some (.tup r.2)
def ib (H:Hp)(ys:JR)(rs:List (mN×JR)):Prop:=ys.length=rs.length/\∀(i:Nat) (y:V),ys[i]?=some y->∃r,rs[i]?=some r/\RowA H y r
def ib.chg (h:ib H ys rs)(c:pC S H H')(hS:∀b∈S,∀us,H b≠some (.tup us)):ib H' ys rs:=by refine⟨h.1,λi y hy=>?_⟩;obtain⟨r,hr,a,b,e,h1,h2⟩:=h.2 i y hy;exact⟨r,hr,a,b,e,c _ _ h1 (λz=>hS _ z _ h1) rfl,c _ _ h2 (λz=>hS _ z _ h2) rfl⟩
def ib.l (h:ib H ys rs)(s:gu H H'):ib H' ys rs:=h.chg (S:=[]) s.chg {}
def vz (rs:mN)(s L m:mN):List (mN×JR):=(iJ s L m).map λw=>(w,[tx rs,tx (iZ s w),.int (rK L (iZ s w):Nat)])
def vL (rs:mN)(s L m:mN):List (mN×JR):=(jI s L m).map λw=>(w,[tx rs,.int (rK L w:Nat)])
noncomputable def PUT:mN:=[112,117,116]
noncomputable def DROP:mN:=[100,114,111,112]
def Cr (d:Bool×Nat):JR:=[tx (if d.1 then PUT else DROP),tx [d.2]]
def g9 (H:Hp)(ts:JR)(ds:List (Bool×Nat)):Prop:=ts.length=ds.length/\∀(i:Nat) (y:V),ts[i]?=some y->∃d,ds[i]?=some d/\∃t,y=.ref t/\H t=some (.tup (Cr d))
def g9.chg (h:g9 H ts ds)(c:pC S H H')(hS:∀b∈S,∀us,H b≠some (.tup us)):g9 H' ts ds:=by refine⟨h.1,λi y hy=>?_⟩;obtain⟨d,hd,t,e,ht⟩:=h.2 i y hy;exact⟨d,hd,t,e,c _ _ ht (λz=>hS _ z _ ht) rfl⟩
def g9.snoc (h:g9 H ts ds)(ht:H t=some (.tup (Cr d))):g9 H (ts++[.ref t]) (ds++[d]):=by
 refine⟨by rw[nN,nN,h.1];rfl,λi y hy=>?_⟩;by_cases z:i<ts.length
 .rw[qT z]at hy;obtain⟨d',hd,r⟩:=h.2 i y hy;exact⟨d',by rw[qT (by rw[<-h.1];exact z)];exact hd,r⟩
 .rw[sd ∅]at hy;have e:i-ts.length=0:=by
   rcases Nat.eq_zero_or_pos (i-ts.length) with q | q
   .exact q
   .rw[qN (by simp;lia)]at hy;cases hy
  rw[e]at hy;cases hy;refine⟨d,?_,t,rfl,ht⟩;rw[sd (by rw[<-h.1];lia),<-h.1,e];rfl
inductive uo (m:mN):List (Bool×Nat)->mN->Prop
 | nil:uo m [] []
 | put {ds:List (Bool×Nat)} {l:mN} {c:Nat} (h:uo m ds l) (hc:c∈m) (hl:l.length<40):uo m (ds++[(true,c)]) (l++[c])
 | drop {ds:List (Bool×Nat)} {l:mN} {c:Nat} (h:uo m ds (c::l)):uo m (ds++[(false,c)]) l
def uo.len (h:uo m ds l):l.length<=40:=by
 induction h with
 | nil=>simp
 | put h hc hl ih=>simp;lia
 | drop h ih=>simp at ih;lia
def uo.mem (h:uo m ds l):∀x∈l,x∈m:=by
 induction h with
 | nil=>intro x hx;cases hx
 | put h hc hl ih=>
  intro x hx;rcases oV.mp hx with hx | hx
  .exact ih x hx
  .rw[oN.mp hx];exact hc
 | drop h ih=>exact λx hx=>ih x (pP _ hx)
def sF (l m:mN)(la da:AD):List (Str×V):=[("own_text",tx l),("own_kinds",tx m),("own_lacking",.ref la),("own_deeds",.ref da)]
def f_tk:¬(("own_text":Str)="own_kinds"):=by decide +kernel
def kD:¬(("own_text":Str)="own_lacking"):=by decide +kernel
def f_td:¬(("own_text":Str)="own_deeds"):=by decide +kernel
def j9:¬(("own_kinds":Str)="own_lacking"):=by decide +kernel
def f_kd:¬(("own_kinds":Str)="own_deeds"):=by decide +kernel
def f_ld:¬(("own_lacking":Str)="own_deeds"):=by decide +kernel
def E7:gs f v ((f,x)::r)=(f,v)::r:=by unfold gs;rw[mS rfl]
def wg (h:¬g=f):gs f v ((g,x)::r)=(g,x)::gs f v r:=by
 conv=>lhs;unfold gs
 rw[mR h]
def Zns:gs "own_text" (tx l') (sF l m la da)=sF l' m la da:=E7
def Znt:gs "own_lacking" (.ref la') (sF l m la da)=sF l m la' da:=by unfold sF;rw[wg kD,wg j9,E7]
def Ha:gs "own_deeds" (.ref da) (gs "own_lacking" (.ref la) (gs "own_kinds" (tx m) (gs "own_text" (tx l) [])))=sF l m la da:=by have e2:∀(f:Str) (v:V),gs f v []=[(f,v)]:=λ_ _=>rfl;rw[e2,wg f_tk,e2,wg kD,wg j9,e2,wg f_td,wg f_kd,wg f_ld,e2];rfl
def yN:sF l m la da=gs "own_deeds" (.ref da) (gs "own_lacking" (.ref la) (gs "own_kinds" (tx m) (gs "own_text" (tx l) []))):=Ha.symm
def uw:(sF l m la da).lookup ("own_text":Str)=some (tx l):=by rw[yN,pY,mR f_td,pY,mR kD,pY,mR f_tk,pY,mS rfl]
def BC:(sF l m la da).lookup ("own_kinds":Str)=some (tx m):=by rw[yN,pY,mR f_kd,pY,mR j9,pY,mS rfl]
def G7:(sF l m la da).lookup ("own_lacking":Str)=some (.ref la):=by rw[yN,pY,mR f_ld,pY,mS rfl]
def FH:(sF l m la da).lookup ("own_deeds":Str)=some (.ref da):=by rw[yN,pY,mS rfl]
def Zrf {l m:mN} {la da:AD} {x:Str} (h1:¬x="own_text") (h2:¬x="own_kinds") (h3:¬x="own_lacking") (h4:¬x="own_deeds"):(sF l m la da).lookup x=none:=by rw[yN,pY,mR h4,pY,mR h3,pY,mR h2,pY,mR h1];rfl
noncomputable def LETx:mN:=[97,98,99,100,101,102,103,104,105,106,107,108,109,110,111,112,113,114,115,116,117,118,119,120,121,122]
def iskx (l:mN):Bool:=decide (1<=l.length)&&decide (l.length<=4)&&(l.all λc=>LETx.contains c)&&decide (fX l=qd (qo (fX l)))
def vI (C:AD)(H:Hp)(p la da:AD)(l m:mN):Prop:=∃dx,H p=some (.ins C dx (sF l m la da))
structure iK (m:mN):Prop where
 k:iskx m=true
 m1:1<=m.length
 m4:m.length<=4
 rise:m.Pairwise (· < ·)
structure gj (C:AD)(H:Hp)(p la da:AD)(l m:mN)(ds:List (Bool×Nat)):Prop where
 fld:vI C H p la da l m
 lack:H la=some (.lst ((nR l m).map tx))
 deed:∃ts,H da=some (.lst ts)/\g9 H ts ds
 run:uo m ds l
 ok:iK m
 ne:la≠da
def gj.chg (h:gj C H p la da l m ds)(c:pC S H H')(hS:∀b∈S,∀us,H b≠some (.tup us))(n1:p∉S)(n2:la∉S)(n3:da∉S):gj C H' p la da l m ds:=by obtain⟨⟨dx,f⟩,k,⟨ts,d1,d2⟩,r,o,n⟩:=h;exact⟨⟨dx,c _ _ f n1 rfl⟩,c _ _ k n2 rfl,⟨ts,c _ _ d1 n3 rfl,d2.chg c hS⟩,r,o,n⟩
def gj.l {C:AD}{H H':Hp}{p la da:AD}{l m:mN}{ds:List (Bool×Nat)}(h:gj C H p la da l m ds)(s:gu H H'):gj C H' p la da l m ds:=h.chg (S:=[]) s.chg {} {} {} {}
def gj.same {C:AD}{H H':Hp}{p la da:AD}{l m:mN}{ds:List (Bool×Nat)}(h:gj C H p la da l m ds)(s:fT H H'):gj C H' p la da l m ds:=h.l s.l
structure jC (H H2:Hp)(t c g la:AD)(rc rg:List (mN×JR)):Prop where
 tup:H2 t=some (.tup [.ref c,.ref g])
 came:∃ys,H2 c=some (.lst ys)/\ib H2 ys rc
 went:∃zs,H2 g=some (.lst zs)/\ib H2 zs rg
 nc:Nw H c
 ng:Nw H g
 nl:Nw H la
 ncg:c≠g
 ncl:c≠la
 ngl:g≠la
section
end
open PySem.W (Frag)
section
end
end L2
namespace L2
open PySem PySem.Spec PyProof.Rows PySem.W
section
end
end L2
namespace L2
open PySem PySem.Spec PyProof.Rows
section
end
section
end
section
def DD (hc:X.calm=true):rq X (.builtin "sorted") (λxs H Q=>∃a ls,xs=[.ref a]/\H a=some (jZ X.prog X.w a ls)/\ls.length<=sizeLine/\gB ((qd ls).map tx) H Q):=by
 rintro Aq s U H xs us Q I r ⟨a,ls,rfl,ha,h64,q⟩;obtain⟨u,rfl,ru⟩:=r.one;cases ru;have hS:gE X.prog X.w s.heap a ls (!pU X.w):=(I.hok a _ ha).1;refine Zha (I.ok.hd hc) hS h64 λs' b us e nw k hg ho hb rv=>?_;have hl:(qd ls).length<=sizeLine:=by rw[(sB ls).length_eq];exact h64
 exact⟨.ref b,_,I.laid2 (o:=.lst ((qd ls).map tx)) ho hg k nw ⟨by rw[m6];exact hl,us,e,rv,hb⟩,rfl,q b (I.hok.none_of nw)⟩
def Zje (hc:X.calm=true):rq X (.type "list") (λxs H Q=>∃a kvs,xs=[.ref a]/\Rd H a (.dK kvs)/\gB (kvs.map λp=>kV p.1) H Q):=by
 rintro Aq s U H xs us Q I r ⟨a,kvs,rfl,ha,q⟩;obtain⟨u,rfl,ru⟩:=r.one;cases ru;obtain⟨z,y,vs,rr,o,es,ep,eo⟩:=ha.ok I.hok;have hm:s.heap.DictAt (pI X.prog X.w) a vs ep:=⟨o,es,eo⟩;have hl:vs.length<=sizeLine:=by rw[<-rr.length];exact z
 refine PySem.W.kdl_call (PySem.W.kdl_dict y) (I.ok.hd hc) hm hl λh' tk acc' c' hk hS Au=>?_;have hv:fV (kvs.map λp=>kV p.1) acc'.toList:=by
  have e1:(kvs.map λp=>kV p.1)=(vs.map λp=>kV p.1):=by
   have e2:(kvs.map λp=>kV p.1)=(kvs.map (·.1)).map kV:=by rw[ql];rfl
   have e3:(vs.map λp=>kV p.1)=(vs.map (·.1)).map kV:=by rw[ql];rfl
   rw[e2,e3,rr.keys]
  rw[e1];refine HY (by rw[m6];exact(Array.length_toList.trans Au.1).symm) λi x u h1 h2=>?_;rw[sI]at h2;obtain⟨k,v,e,hk⟩:=Au.2 i u h2;rw[pA,e]at h1;cases h1;exact Fo hk
 exact⟨.ref s.heap.objs.size,_,I.laid (t':=tk) (o:=.lst (kvs.map λp=>kV p.1)) hk (nD _) ⟨by rw[m6];exact z,acc'.toList,c',hv,by rw[Array.toArray_toList];exact hS⟩,rfl,q _ I.fresh⟩
end
section
end
section
end
section
end
noncomputable def uA (t:TS):TS:=t
def nL {X:Cx}{st:List Stmt}{t:TS}(h:rn X st t):rn X st (uA t):=h
def qy (h:t D U H):uA t D U H:=h
section
end
section
end
section
end
end L2
namespace PySem
section
variable {prog:AG}{w:AI}{K:Type}[DecidableEq K]{knd:HeapKind prog w K}{A:AH}{E:oo}{s:AE}
end
end PySem
namespace L2
open PySem PySem.Spec PyProof.Rows
section
end
end L2
namespace L2
open PySem PySem.Spec PyProof.Rows PySem.W
section
end
section
end
end L2
namespace PySem
noncomputable def kY (h:Heap) (d:AD) (es:Array DictEntry) (ep:Nat):Prop:=∃o,h.get? d=some o/\o.ExactDict/\o.data=.dict es ep
section
def kY.at (x:kY h d es ep)(e:∀o,h.get? d=some o->h'.get? d=some o):kY h' d es ep:=let ⟨o,ho,r⟩:=x;⟨o,e _ ho,r⟩
end
end PySem
namespace L2
open PySem PySem.Spec PyProof.Rows PySem.W
def KT.at (r:KT H kvs xs):∀(i:Nat) (x:List nH×V) (u:List nH×AD×Value),kvs[i]?=some x->xs[i]?=some u->fZ x.2 u.2.2:=by
 induction r with
 | nil=>intro i x u h;simp at h
 | cons hd _ ih=>
  intro i x u h1 h2;cases i with
  | zero=>
   have e1:=Option.some.inj h1;have e2:=Option.some.inj h2;rw[<-e1,<-e2];exact hd.2.2
  | succ i=>exact ih i x u (~~~h1) (~~~h2)
section
end
end L2
namespace L2
open PySem PySem.Spec PyProof.Rows
section
end
section
end
end L2
set_option maxHeartbeats 400000000
namespace Pk93
open PySem L2
noncomputable def nY (i:Nat):Stmt:=PySem.Challenge.pw_lackword_k93_whole_a_place_or_a_missing.main.body.getD i (.Pass ⟨0,0,0,0⟩)
abbrev kQ:Stmt:=nY 14
abbrev ke:Stmt:=nY 15
abbrev k9:Stmt:=nY 16
abbrev lX:Stmt:=nY 17
abbrev j8:Stmt:=nY 18
abbrev lE:Stmt:=nY 19
abbrev lV:Stmt:=nY 20
abbrev lD:Stmt:=nY 22
abbrev lW:Stmt:=nY 23
abbrev kS:Stmt:=nY 24
abbrev mD:Stmt:=nY 26
abbrev kn:Stmt:=nY 30
abbrev kI:Stmt:=nY 31
abbrev mv:Stmt:=nY 32
abbrev kx:Stmt:=nY 34
abbrev Ed:Stmt:=nY 36
abbrev lT:Stmt:=nY 38
abbrev kL:Stmt:=nY 39
abbrev kh:Stmt:=nY 40
abbrev kH:Stmt:=nY 46
abbrev j0:Stmt:=nY 47
abbrev lO:Stmt:=nY 48
abbrev kT:Stmt:=nY 51
abbrev lN:Stmt:=nY 52
abbrev mt:Stmt:=nY 53
abbrev kC:Stmt:=nY 54
abbrev kG:Stmt:=nY 55
abbrev kR:Stmt:=nY 56
abbrev kN:Stmt:=nY 57
abbrev Dy:Stmt:=nY 58
abbrev me:Stmt:=nY 59
abbrev lQ:Stmt:=nY 60
abbrev kM:Stmt:=nY 61
abbrev lJ:Stmt:=nY 62
abbrev mB:Stmt:=nY 63
abbrev EH:Stmt:=nY 64
abbrev DM:Stmt:=gb (nY 3) 0
abbrev kg:Stmt:=gb (nY 27) 0
abbrev ki:Stmt:=gb (nY 27) 2
abbrev lx:Stmt:=gb (nY 27) 3
abbrev mj:Stmt:=gb (nY 27) 4
abbrev mf:Stmt:=gb (nY 27) 6
abbrev lP:Stmt:=gb (nY 27) 7
abbrev lB:Stmt:=gb (nY 27) 8
abbrev ml:Stmt:=gb (nY 28) 0
abbrev ma:Stmt:=gb (nY 41) 0
abbrev lY:Stmt:=gb (nY 41) 2
abbrev kU:Stmt:=gb (nY 41) 3
abbrev j7:Stmt:=gb (nY 41) 4
abbrev kc:Stmt:=gb (nY 41) 5
abbrev jY:Stmt:=gb (nY 41) 8
abbrev kz:Stmt:=gb (nY 41) 9
abbrev kO:Stmt:=gb (nY 44) 0
abbrev kX:Stmt:=gb (nY 44) 1
abbrev kW:Stmt:=gb (nY 44) 2
abbrev lR:Stmt:=gb (nY 44) 3
abbrev kK:Stmt:=gb (nY 49) 0
abbrev ka:Stmt:=gb (nY 49) 1
abbrev kA:Stmt:=gb (nY 49) 3
abbrev kB:Stmt:=gb (nY 49) 4
abbrev lZ:Stmt:=gb (nY 49) 6
abbrev jX:Stmt:=gb (nY 49) 7
abbrev kZ:Stmt:=gb (nY 49) 8
set_option genInjectivity false
structure Ad where
 (c_K6 c_LO c_LI c_L8 c_LW c_LH c_L9 c_LX ak bA bc bh bi bf bB bj bn bo bC bD bE bF bG bH bp bI bJ bK bq bL bM bN bO bP bQ f_LD f_LF f_LK f_LA f_K3 f_LC f_KT f_LV f_LE f_LU f_LY f_L0 f_LL f_LQ f_LB f_ask f_KS f_KP f_LG f_LZ f_LP f_LT f_L1 f_L6 f_L3 f_LR f_LM f_L4 f_L5 f_due f_L7 f_MA f_LN f_LJ f_L2 f_law t_LE k_LE:AD)
 (ay ck cn cq cu cz cA cB cC cD cE cF cG cH cI cJ cK cL cM cN cO cP cQ cR cS cT cU d_LD d_LF d_LK d_LA d_K3 d_LC d_KT d_LV d_LE d_LU d_LY d_L0 d_LL d_LQ d_LB d_ask d_KS d_KP d_LG d_LZ d_LP d_LT d_L1 d_L6 d_L3 d_LR d_LM d_L4 d_L5 d_due d_L7 d_MA d_LN d_LJ d_L2 d_law:AF)
structure Txt (K:Q4)(mg:AB)(a:Ad):Prop where
 dP:DF K mg "has_only" kQ a.f_LD a.d_LD ["text","letters"]
 dZ:DF K mg "is_kinds" ke a.f_LF a.d_LF ["thing"]
 dQ:DF K mg "is_word" k9 a.f_LK a.d_LK ["thing","kinds","most"]
 dR:DF K mg "is_letter" lX a.f_LA a.d_LA ["thing","kinds"]
 dc:DF K mg "need_kinds" j8 a.f_K3 a.d_K3 ["thing"]
 df:DF K mg "need_word" lE a.f_LC a.d_LC ["thing","kinds","most"]
 dw:DF K mg "need_letter" lV a.f_KT a.d_KT ["thing","kinds"]
 eU:DF K mg "places" lD a.f_LV a.d_LV ["text","word"]
 dj:DF K mg "in_order" lW a.f_LE a.d_LE ["words"]
 eV:DF K mg "pieces" kS a.f_LU a.d_LU ["text","length"]
 ft:DF K mg "lacking_among" mD a.f_LY a.d_LY ["shorter","standing","kinds"]
 fz:DF K mg "lacks" kn a.f_L0 a.d_L0 ["text","word"]
 eG:DF K mg "lacking" kI a.f_LL a.d_LL ["text","kinds"]
 eY:DF K mg "inside" mv a.f_LQ a.d_LQ ["words","word"]
 dS:DF K mg "is_within" kx a.f_LB a.d_LB ["thing","least","most"]
 fq:DF K mg "ask" Ed a.f_ask a.d_ask ["band","word"]
 dF:DF K mg "first_spots" lT a.f_KS a.d_KS ["text"]
 dB:DF K mg "spots_behind" kL a.f_KP a.d_KP ["text","spots","letter"]
 d0:DF K mg "rooms_of" kh a.f_LG a.d_LG ["text","kinds"]
 fk:DF K mg "fresh_words" kH a.f_LZ a.d_LZ ["lesser","longer"]
 eI:DF K mg "filled" j0 a.f_LP a.d_LP ["lesser","longer","reason"]
 eJ:DF K mg "opened" lO a.f_LT a.d_LT ["lesser","longer","kinds","reason"]
 eC:DF K mg "_law_cell" kT a.f_L1 a.d_L1 ["_law_script","_law_k"]
 fm:DF K mg "_law_mixed" lN a.f_L6 a.d_L6 ["_law_cell_here","_law_k"]
 dL:DF K mg "_law_same" mt a.f_L3 a.d_L3 ["_law_found","_law_due_here"]
 eZ:DF K mg "_law_kinds" kC a.f_LR a.d_LR ["_law_cell_here"]
 dJ:DF K mg "_law_letters" kG a.f_LM a.d_LM ["_law_cell_here","_law_kinds_here","_law_size","_law_digits"]
 fA:DF K mg "_law_text" kR a.f_L4 a.d_L4 ["_law_script","_law_at","_law_kinds_here"]
 fB:DF K mg "_law_word" kN a.f_L5 a.d_L5 ["_law_cell_here","_law_text_here","_law_kinds_here"]
 fJ:DF K mg "_law_due" Dy a.f_due a.d_due ["_law_text_here","_law_word_here"]
 fC:DF K mg "_law_moved" me a.f_L7 a.d_L7 ["_law_text_here","_law_kinds_here","_law_cell_here"]
 fG:DF K mg "_law_bad" lQ a.f_MA a.d_MA ["_law_kinds_here","_law_most","_law_number"]
 eK:DF K mg "_law_refused" kM a.f_LN a.d_LN ["_law_band","_law_thing"]
 eM:DF K mg "_law_in_ring" lJ a.f_LJ a.d_LJ ["_law_text_here","_law_kinds_here","_law_words"]
 fE:DF K mg "_law_machine" mB a.f_L2 a.d_L2 ["_law_machine_here","_law_text_here","_law_rows"]
 fK:DF K mg "law" EH a.f_law a.d_law ["_law_script"]
 m_K6:mg "LackError"=some (.ref a.c_K6)
 x_K6:Xm K a.c_K6
 xi_K6:Xi K a.c_K6
 k_K6:iH K a.c_K6 [.ref a.c_K6,.type "ValueError",.type "Exception",.type "BaseException",.type "object"]
 i_K6:findIn K (.ref a.c_K6) "__init__"=some (some (.builtin "ValueError.__init__"))
 r_K6:g6 K a.c_K6 "__init__" (.builtin "ValueError.__init__")
 m_LO:mg "NoWord"=some (.ref a.c_LO)
 br:Xm K a.c_LO
 cV:Xi K a.c_LO
 cW:iH K a.c_LO [.ref a.c_LO,.ref a.c_K6,.type "ValueError",.type "Exception",.type "BaseException",.type "object"]
 i_LO:findIn K (.ref a.c_LO) "__init__"=some (some (.ref a.ak))
 cY:isFn K (.ref a.ak)=true
 az:ge K a.c_LO "word"
 fi_LO:rJ K "__init__" "NoWord.__init__" DM a.ak a.ay
 b_LO:gR K a.ay ["self","word"] []
 m_LI:mg "NoKinds"=some (.ref a.c_LI)
 x_LI:Xm K a.c_LI
 xi_LI:Xi K a.c_LI
 k_LI:iH K a.c_LI [.ref a.c_LI,.ref a.c_K6,.type "ValueError",.type "Exception",.type "BaseException",.type "object"]
 i_LI:findIn K (.ref a.c_LI) "__init__"=some (some (.builtin "ValueError.__init__"))
 cX:mg "Band"=some (.ref a.c_L8)
 bR:g6 K a.c_L8 "__init__" (.ref a.bA)
 cl_L8:rE K a.c_L8
 m_LW:mg "Plain"=some (.ref a.c_LW)
 cr_LW:g6 K a.c_LW "__init__" (.ref a.bn)
 aQ:rE K a.c_LW
 bt:Mk K a.c_LW a.bn
 aW:gF K a.c_LW "text" a.bc
 aD:gF K a.c_LW "words" a.bi
 am:gF K a.c_LW "laid_out" a.bh
 aH:gF K a.c_LW "reach" a.bB
 av:gF K a.c_LW "lacking" a.bj
 aA:gF K a.c_LW "place_of" a.bf
 aw:ge K a.c_LW "own_text"
 ao:ge K a.c_LW "own_kinds"
 aN:ge K a.c_LW "own_lacking"
 aT:ge K a.c_LW "own_deeds"
 aU:ge K a.c_LW "own_rooms"
 ty_LW:∀ {H:Hp} {x dx:AD} {fs:List (Str×V)},H x=some (.ins a.c_LW dx fs)->ie K H (.ref x) (.ref a.c_LW)
 m_LH:mg "Machine"=some (.ref a.c_LH)
 cr_LH:g6 K a.c_LH "__init__" (.ref a.bo)
 aM:rE K a.c_LH
 bS:Mk K a.c_LH a.bo
 bT:gF K a.c_LH "need_room" a.bC
 bg:gF K a.c_LH "led" a.bD
 bU:gF K a.c_LH "way" a.bE
 bu:gF K a.c_LH "room_of" a.bF
 bV:gF K a.c_LH "ways" a.bG
 bW:gF K a.c_LH "counts_behind" a.bH
 aR:ge K a.c_LH "own_text"
 ae:ge K a.c_LH "own_kinds"
 aJ:ge K a.c_LH "own_lacking"
 aO:ge K a.c_LH "own_deeds"
 ah:ge K a.c_LH "own_rooms"
 ty_LH:∀ {H:Hp} {x dx:AD} {fs:List (Str×V)},H x=some (.ins a.c_LH dx fs)->ie K H (.ref x) (.ref a.c_LH)
 m_L9:mg "Ring"=some (.ref a.c_L9)
 cr_L9:g6 K a.c_L9 "__init__" (.ref a.bp)
 aI:rE K a.c_L9
 bX:Mk K a.c_L9 a.bp
 aZ:gF K a.c_L9 "text" a.bc
 aF:gF K a.c_L9 "words" a.bi
 bv:gF K a.c_L9 "laid_out" a.bI
 bY:gF K a.c_L9 "reach" a.bK
 bZ:gF K a.c_L9 "root" a.bJ
 aG:gF K a.c_L9 "lacking" a.bj
 aE:gF K a.c_L9 "place_of" a.bf
 ac:ge K a.c_L9 "own_text"
 ax:ge K a.c_L9 "own_kinds"
 aS:ge K a.c_L9 "own_lacking"
 aX:ge K a.c_L9 "own_deeds"
 aY:ge K a.c_L9 "own_rooms"
 ty_L9:∀ {H:Hp} {x dx:AD} {fs:List (Str×V)},H x=some (.ins a.c_L9 dx fs)->ie K H (.ref x) (.ref a.c_L9)
 m_LX:mg "Strip"=some (.ref a.c_LX)
 cr_LX:g6 K a.c_LX "__init__" (.ref a.bq)
 ag:rE K a.c_LX
 b7:Mk K a.c_LX a.bq
 aL:gF K a.c_LX "text" a.bc
 aB:gF K a.c_LX "laid_out" a.bh
 aC:gF K a.c_LX "place_of" a.bf
 bw:gF K a.c_LX "lacking" a.bL
 ce:gF K a.c_LX "put" a.bM
 cf:gF K a.c_LX "drop" a.bN
 cg:gF K a.c_LX "grow" a.bO
 cj:gF K a.c_LX "shrink" a.bP
 bz:gF K a.c_LX "change" a.bQ
 aa:ge K a.c_LX "own_text"
 ad:ge K a.c_LX "own_kinds"
 af:ge K a.c_LX "own_lacking"
 aq:ge K a.c_LX "own_deeds"
 aV:ge K a.c_LX "own_rooms"
 ty_LX:∀ {H:Hp} {x dx:AD} {fs:List (Str×V)},H x=some (.ins a.c_LX dx fs)->ie K H (.ref x) (.ref a.c_LX)
 dh:MF K "__init__" "Band.__init__" kg a.bA a.ck ["self","text","kinds"]
 e9:MF K "text" "Band.text" ki a.bc a.cn ["self"]
 dk:MF K "laid_out" "Band.laid_out" lx a.bh a.cq ["self","length"]
 dD:MF K "words" "Band.words" mj a.bi a.cu ["self","length"]
 dv:MF K "place_of" "Band.place_of" mf a.bf a.cz ["self","word"]
 eN:MF K "reach" "Band.reach" lP a.bB a.cA ["self"]
 dC:MF K "lacking" "Band.lacking" lB a.bj a.cB ["self"]
 dW:MF K "__init__" "Plain.__init__" ml a.bn a.cC ["self","text","kinds"]
 d7:MF K "__init__" "Machine.__init__" ma a.bo a.cD ["self","text","kinds"]
 dE:MF K "need_room" "Machine.need_room" lY a.bC a.cE ["self","room"]
 dG:MF K "led" "Machine.led" kU a.bD a.cF ["self","room","letter"]
 eD:MF K "way" "Machine.way" j7 a.bE a.cG ["self","room","letter"]
 dz:MF K "room_of" "Machine.room_of" kc a.bF a.cH ["self","word"]
 d8:MF K "ways" "Machine.ways" jY a.bG a.cI ["self"]
 de:MF K "counts_behind" "Machine.counts_behind" kz a.bH a.cJ ["self","counts"]
 fg:MF K "__init__" "Ring.__init__" kO a.bp a.cK ["self","text","kinds"]
 dH:MF K "laid_out" "Ring.laid_out" kX a.bI a.cL ["self","length"]
 fh:MF K "root" "Ring.root" kW a.bJ a.cM ["self"]
 eO:MF K "reach" "Ring.reach" lR a.bK a.cN ["self"]
 eP:MF K "__init__" "Strip.__init__" kK a.bq a.cO ["self","kinds"]
 dI:MF K "lacking" "Strip.lacking" ka a.bL a.cP ["self"]
 fi:MF K "put" "Strip.put" kA a.bM a.cQ ["self","letter"]
 eQ:MF K "drop" "Strip.drop" kB a.bN a.cR ["self"]
 eR:MF K "grow" "Strip.grow" lZ a.bO a.cS ["self","longer"]
 eB:MF K "shrink" "Strip.shrink" jX a.bP a.cT ["self","lesser"]
 dM:MF K "change" "Strip.change" kZ a.bQ a.cU ["self","text","came","went"]
 nd:[a.c_K6,a.c_LO,a.c_LI].Nodup
 db:mg "len"=none
 dA:mg "range"=none
 cZ:mg "isinstance"=none
 fP:mg "all"=none
 fQ:mg "min"=none
 dN:mg "list"=none
 dO:mg "tuple"=none
 fL:mg "set"=none
 dU:mg "sorted"=none
 fF:mg "str"=none
 fM:mg "int"=none
 eE:mg "bool"=none
 fS:mg "sum"=none
 ba:mg "ValueError"=none
 fO:mg "zip"=none
 c_KH:∃t,mg "SMALL_LETTERS"=some (.str (Str.ofString "abcdefghijklmnopqrstuvwxyz") t)
 c_KX:∃t,mg "MOST_KINDS"=some (.int 4 t)
 c_KF:∃t,mg "MOST_IN_STRIP"=some (.int 40 t)
 c_KW:∃t,mg "MOST_ASKED"=some (.int 60 t)
 c_KK:∃t,mg "MOST_IN_RING"=some (.int 20 t)
 bl:∀(s:AE) (u:Value),BindsTo s a.d_law ⟨[u],[]⟩ [("_law_script",u)]
structure TL (K:Q4)(mg:AB)(base:Heap)(a:Ad)(tb:Str->AD×AD):Prop extends Txt K mg a where
 L_in_order:ip base mg a.k_LE a.t_LE
 cd_LE:a.d_LE.code=.ref a.k_LE
 e_LE:a.t_LE=(tb "in_order").2
def lenA {P:AC->Prop}(h:∀a,P [a]):∀us:AC,us.length=1->P us:=by
 intro us ee;cases us with
 | nil=>cases ee
 | cons a us=>
  cases us with
  | nil=>exact h a
  | cons _ _=>cases ee
local macro_rules | `(tactic| walk_at "b1") => `(tactic| (intro _ _ _ _ _ _; refine lenA ?_; intros; rfl))
def lenB {P:AC->Prop}(h:∀a b,P [a,b]):∀us:AC,us.length=2->P us:=by
 intro us ee;cases us with
 | nil=>cases ee
 | cons a us=>
  cases us with
  | nil=>cases ee
  | cons b us=>
   cases us with
   | nil=>exact h a b
   | cons _ _=>cases ee
local macro_rules | `(tactic| walk_at "b2") => `(tactic| (intro _ _ _ _ _ _; refine lenB ?_; intros; rfl))
def lenC {P:AC->Prop}(h:∀a b c,P [a,b,c]):∀us:AC,us.length=3->P us:=by
 intro us ee;cases us with
 | nil=>cases ee
 | cons a us=>
  cases us with
  | nil=>cases ee
  | cons b us=>
   cases us with
   | nil=>cases ee
   | cons c us=>
    cases us with
    | nil=>exact h a b c
    | cons _ _=>cases ee
local macro_rules | `(tactic| walk_at "b3") => `(tactic| (intro _ _ _ _ _ _; refine lenC ?_; intros; rfl))
def lenD {P:AC->Prop}(h:∀a b c d,P [a,b,c,d]):∀us:AC,us.length=4->P us:=by
 intro us ee;cases us with
 | nil=>cases ee
 | cons a us=>
  cases us with
  | nil=>cases ee
  | cons b us=>
   cases us with
   | nil=>cases ee
   | cons c us=>
    cases us with
    | nil=>cases ee
    | cons d us=>
     cases us with
     | nil=>exact h a b c d
     | cons _ _=>cases ee
local macro_rules | `(tactic| walk_at "b4") => `(tactic| (intro _ _ _ _ _ _; refine lenD ?_; intros; rfl))
theorem txt_mk (X:K.In h)(G:h.Ns mainGlobals mg){c_K6 c_LO ak c_LI bA bc bh bi bf bB bj bn bo bC bD bE bF bG bH bp bI bJ bK bq bL bM bN bO bP bQ c_L8 c_LW c_LH c_L9 c_LX f_LD f_LF f_LK f_LA f_K3 f_LC f_KT f_LV f_LE f_LU f_LY f_L0 f_LL f_LQ f_LB f_ask f_KS f_KP f_LG f_LZ f_LP f_LT f_L1 f_L6 f_L3 f_LR f_LM f_L4 f_L5 f_due f_L7 f_MA f_LN f_LJ f_L2 f_law t_LE k_LE:AD}{ay ck cn cq cu cz cA cB cC cD cE cF cG cH cI cJ cK cL cM cN cO cP cQ cR cS cT cU d_LD d_LF d_LK d_LA d_K3 d_LC d_KT d_LV d_LE d_LU d_LY d_L0 d_LL d_LQ d_LB d_ask d_KS d_KP d_LG d_LZ d_LP d_LT d_L1 d_L6 d_L3 d_LR d_LM d_L4 d_L5 d_due d_L7 d_MA d_LN d_LJ d_L2 d_law:AF}{tk_KH tk_KX tk_KF tk_KW tk_KK:Tok}
  (An:XG K "LackError" c_K6 [.ref c_K6,.type "ValueError",.type "Exception",.type "BaseException",.type "object"])
  (i_K6:findIn K (.ref c_K6) "__init__"=some (some (.builtin "ValueError.__init__")))
  (rs_K6:specialIn K (.ref c_K6) "__getattribute__"=some (some (.builtin "type.__getattribute__")))
  (rr_K6:readsIn K c_K6 (.type "type")=true)
  (rf_K6:findCls K (.ref c_K6) (.type "type") "__init__"=some (.val (.builtin "ValueError.__init__")))
  (Ap:XG K "NoWord" c_LO [.ref c_LO,.ref c_K6,.type "ValueError",.type "Exception",.type "BaseException",.type "object"])
  (i_LO:findIn K (.ref c_LO) "__init__"=some (some (.ref ak)))
  (AS:MG K "__init__" "NoWord.__init__" DM ak ay)
  (az:findIn K (.ref c_LO) "word"=some none)
  (Ao:XG K "NoKinds" c_LI [.ref c_LI,.ref c_K6,.type "ValueError",.type "Exception",.type "BaseException",.type "object"])
  (i_LI:findIn K (.ref c_LI) "__init__"=some (some (.builtin "ValueError.__init__")))
  (ow_hn:specialIn K (.builtin "object.__class__") "__get__"=some (some (.builtin "getset_descriptor.__get__")))
  (ow_tk:takesIn K (.builtin "object.__class__")=some true)
  (a_L8:nsIn K mainGlobals "Band"=some (some (.ref c_L8)))
  (pg_L8:plainGet K c_L8 Str.empty=true)
  (hd_L8:hasDictIn K c_L8=true)
  (po_L8:plainOver K c_L8=true)
  (sa_L8:findIn K (.ref c_L8) "__setattr__"=some (some (.builtin "object.__setattr__")))
  (rs_L8:specialIn K (.ref c_L8) "__getattribute__"=some (some (.builtin "type.__getattribute__")))
  (rr_L8:readsIn K c_L8 (.type "type")=true)
  (rf_L8:findCls K (.ref c_L8) (.type "type") "__init__"=some (.val (.ref bA)))
  (a_LW:nsIn K mainGlobals "Plain"=some (some (.ref c_LW)))
  (pg_LW:plainGet K c_LW Str.empty=true)
  (hd_LW:hasDictIn K c_LW=true)
  (po_LW:plainOver K c_LW=true)
  (sa_LW:findIn K (.ref c_LW) "__setattr__"=some (some (.builtin "object.__setattr__")))
  (rs_LW:specialIn K (.ref c_LW) "__getattribute__"=some (some (.builtin "type.__getattribute__")))
  (rr_LW:readsIn K c_LW (.type "type")=true)
  (rf_LW:findCls K (.ref c_LW) (.type "type") "__init__"=some (.val (.ref bn)))
  (bt:makesIn K c_LW=true)
  (in_LW:findIn K (.ref c_LW) "__init__"=some (some (.ref bn)))
  (kc_LW:keepIn K (.ref c_LW)=true)
  (ha_LW:findIn K (.ref c_LW) "__class__"=some (some (.builtin "object.__class__")))
  (mo_LW:mroIn K c_LW (.type "object")=some true)
  (aW:findIn K (.ref c_LW) "text"=some (some (.ref bc)))
  (aD:findIn K (.ref c_LW) "words"=some (some (.ref bi)))
  (am:findIn K (.ref c_LW) "laid_out"=some (some (.ref bh)))
  (aH:findIn K (.ref c_LW) "reach"=some (some (.ref bB)))
  (av:findIn K (.ref c_LW) "lacking"=some (some (.ref bj)))
  (aA:findIn K (.ref c_LW) "place_of"=some (some (.ref bf)))
  (aw:findIn K (.ref c_LW) "own_text"=some none)
  (ao:findIn K (.ref c_LW) "own_kinds"=some none)
  (aN:findIn K (.ref c_LW) "own_lacking"=some none)
  (aT:findIn K (.ref c_LW) "own_deeds"=some none)
  (aU:findIn K (.ref c_LW) "own_rooms"=some none)
  (a_LH:nsIn K mainGlobals "Machine"=some (some (.ref c_LH)))
  (pg_LH:plainGet K c_LH Str.empty=true)
  (hd_LH:hasDictIn K c_LH=true)
  (po_LH:plainOver K c_LH=true)
  (sa_LH:findIn K (.ref c_LH) "__setattr__"=some (some (.builtin "object.__setattr__")))
  (rs_LH:specialIn K (.ref c_LH) "__getattribute__"=some (some (.builtin "type.__getattribute__")))
  (rr_LH:readsIn K c_LH (.type "type")=true)
  (rf_LH:findCls K (.ref c_LH) (.type "type") "__init__"=some (.val (.ref bo)))
  (bS:makesIn K c_LH=true)
  (in_LH:findIn K (.ref c_LH) "__init__"=some (some (.ref bo)))
  (kc_LH:keepIn K (.ref c_LH)=true)
  (ha_LH:findIn K (.ref c_LH) "__class__"=some (some (.builtin "object.__class__")))
  (mo_LH:mroIn K c_LH (.type "object")=some true)
  (bT:findIn K (.ref c_LH) "need_room"=some (some (.ref bC)))
  (bg:findIn K (.ref c_LH) "led"=some (some (.ref bD)))
  (bU:findIn K (.ref c_LH) "way"=some (some (.ref bE)))
  (bu:findIn K (.ref c_LH) "room_of"=some (some (.ref bF)))
  (bV:findIn K (.ref c_LH) "ways"=some (some (.ref bG)))
  (bW:findIn K (.ref c_LH) "counts_behind"=some (some (.ref bH)))
  (aR:findIn K (.ref c_LH) "own_text"=some none)
  (ae:findIn K (.ref c_LH) "own_kinds"=some none)
  (aJ:findIn K (.ref c_LH) "own_lacking"=some none)
  (aO:findIn K (.ref c_LH) "own_deeds"=some none)
  (ah:findIn K (.ref c_LH) "own_rooms"=some none)
  (a_L9:nsIn K mainGlobals "Ring"=some (some (.ref c_L9)))
  (pg_L9:plainGet K c_L9 Str.empty=true)
  (hd_L9:hasDictIn K c_L9=true)
  (po_L9:plainOver K c_L9=true)
  (sa_L9:findIn K (.ref c_L9) "__setattr__"=some (some (.builtin "object.__setattr__")))
  (rs_L9:specialIn K (.ref c_L9) "__getattribute__"=some (some (.builtin "type.__getattribute__")))
  (rr_L9:readsIn K c_L9 (.type "type")=true)
  (rf_L9:findCls K (.ref c_L9) (.type "type") "__init__"=some (.val (.ref bp)))
  (bX:makesIn K c_L9=true)
  (in_L9:findIn K (.ref c_L9) "__init__"=some (some (.ref bp)))
  (kc_L9:keepIn K (.ref c_L9)=true)
  (ha_L9:findIn K (.ref c_L9) "__class__"=some (some (.builtin "object.__class__")))
  (mo_L9:mroIn K c_L9 (.type "object")=some true)
  (aZ:findIn K (.ref c_L9) "text"=some (some (.ref bc)))
  (aF:findIn K (.ref c_L9) "words"=some (some (.ref bi)))
  (bv:findIn K (.ref c_L9) "laid_out"=some (some (.ref bI)))
  (bY:findIn K (.ref c_L9) "reach"=some (some (.ref bK)))
  (bZ:findIn K (.ref c_L9) "root"=some (some (.ref bJ)))
  (aG:findIn K (.ref c_L9) "lacking"=some (some (.ref bj)))
  (aE:findIn K (.ref c_L9) "place_of"=some (some (.ref bf)))
  (ac:findIn K (.ref c_L9) "own_text"=some none)
  (ax:findIn K (.ref c_L9) "own_kinds"=some none)
  (aS:findIn K (.ref c_L9) "own_lacking"=some none)
  (aX:findIn K (.ref c_L9) "own_deeds"=some none)
  (aY:findIn K (.ref c_L9) "own_rooms"=some none)
  (a_LX:nsIn K mainGlobals "Strip"=some (some (.ref c_LX)))
  (pg_LX:plainGet K c_LX Str.empty=true)
  (hd_LX:hasDictIn K c_LX=true)
  (po_LX:plainOver K c_LX=true)
  (sa_LX:findIn K (.ref c_LX) "__setattr__"=some (some (.builtin "object.__setattr__")))
  (rs_LX:specialIn K (.ref c_LX) "__getattribute__"=some (some (.builtin "type.__getattribute__")))
  (rr_LX:readsIn K c_LX (.type "type")=true)
  (rf_LX:findCls K (.ref c_LX) (.type "type") "__init__"=some (.val (.ref bq)))
  (b7:makesIn K c_LX=true)
  (in_LX:findIn K (.ref c_LX) "__init__"=some (some (.ref bq)))
  (kc_LX:keepIn K (.ref c_LX)=true)
  (ha_LX:findIn K (.ref c_LX) "__class__"=some (some (.builtin "object.__class__")))
  (mo_LX:mroIn K c_LX (.type "object")=some true)
  (aL:findIn K (.ref c_LX) "text"=some (some (.ref bc)))
  (aB:findIn K (.ref c_LX) "laid_out"=some (some (.ref bh)))
  (aC:findIn K (.ref c_LX) "place_of"=some (some (.ref bf)))
  (bw:findIn K (.ref c_LX) "lacking"=some (some (.ref bL)))
  (ce:findIn K (.ref c_LX) "put"=some (some (.ref bM)))
  (cf:findIn K (.ref c_LX) "drop"=some (some (.ref bN)))
  (cg:findIn K (.ref c_LX) "grow"=some (some (.ref bO)))
  (cj:findIn K (.ref c_LX) "shrink"=some (some (.ref bP)))
  (bz:findIn K (.ref c_LX) "change"=some (some (.ref bQ)))
  (aa:findIn K (.ref c_LX) "own_text"=some none)
  (ad:findIn K (.ref c_LX) "own_kinds"=some none)
  (af:findIn K (.ref c_LX) "own_lacking"=some none)
  (aq:findIn K (.ref c_LX) "own_deeds"=some none)
  (aV:findIn K (.ref c_LX) "own_rooms"=some none)
  (AK:MG K "__init__" "Band.__init__" kg bA ck)
  (AQ:MG K "text" "Band.text" ki bc cn)
  (AM:MG K "laid_out" "Band.laid_out" lx bh cq)
  (AR:MG K "words" "Band.words" mj bi cu)
  (AN:MG K "place_of" "Band.place_of" mf bf cz)
  (AO:MG K "reach" "Band.reach" lP bB cA)
  (AL:MG K "lacking" "Band.lacking" lB bj cB)
  (Aa:MG K "__init__" "Plain.__init__" ml bn cC)
  (AU:MG K "__init__" "Machine.__init__" ma bo cD)
  (AW:MG K "need_room" "Machine.need_room" lY bC cE)
  (AV:MG K "led" "Machine.led" kU bD cF)
  (AY:MG K "way" "Machine.way" j7 bE cG)
  (AX:MG K "room_of" "Machine.room_of" kc bF cH)
  (AZ:MG K "ways" "Machine.ways" jY bG cI)
  (AT:MG K "counts_behind" "Machine.counts_behind" kz bH cJ)
  (Ab:MG K "__init__" "Ring.__init__" kO bp cK)
  (Ac:MG K "laid_out" "Ring.laid_out" kX bI cL)
  (Af:MG K "root" "Ring.root" kW bJ cM)
  (Ae:MG K "reach" "Ring.reach" lR bK cN)
  (Aj:MG K "__init__" "Strip.__init__" kK bq cO)
  (Ak:MG K "lacking" "Strip.lacking" ka bL cP)
  (Al:MG K "put" "Strip.put" kA bM cQ)
  (Ah:MG K "drop" "Strip.drop" kB bN cR)
  (Ai:MG K "grow" "Strip.grow" lZ bO cS)
  (Am:MG K "shrink" "Strip.shrink" jX bP cT)
  (Ag:MG K "change" "Strip.change" kZ bQ cU)
  (nd:[c_K6,c_LO,c_LI].Nodup)
  (dP:DG K "has_only" kQ f_LD d_LD)
  (dZ:DG K "is_kinds" ke f_LF d_LF)
  (dQ:DG K "is_word" k9 f_LK d_LK)
  (dR:DG K "is_letter" lX f_LA d_LA)
  (dc:DG K "need_kinds" j8 f_K3 d_K3)
  (df:DG K "need_word" lE f_LC d_LC)
  (dw:DG K "need_letter" lV f_KT d_KT)
  (eU:DG K "places" lD f_LV d_LV)
  (dj:DG K "in_order" lW f_LE d_LE)
  (eV:DG K "pieces" kS f_LU d_LU)
  (ft:DG K "lacking_among" mD f_LY d_LY)
  (fz:DG K "lacks" kn f_L0 d_L0)
  (eG:DG K "lacking" kI f_LL d_LL)
  (eY:DG K "inside" mv f_LQ d_LQ)
  (dS:DG K "is_within" kx f_LB d_LB)
  (fq:DG K "ask" Ed f_ask d_ask)
  (dF:DG K "first_spots" lT f_KS d_KS)
  (dB:DG K "spots_behind" kL f_KP d_KP)
  (d0:DG K "rooms_of" kh f_LG d_LG)
  (fk:DG K "fresh_words" kH f_LZ d_LZ)
  (eI:DG K "filled" j0 f_LP d_LP)
  (eJ:DG K "opened" lO f_LT d_LT)
  (eC:DG K "_law_cell" kT f_L1 d_L1)
  (fm:DG K "_law_mixed" lN f_L6 d_L6)
  (dL:DG K "_law_same" mt f_L3 d_L3)
  (eZ:DG K "_law_kinds" kC f_LR d_LR)
  (dJ:DG K "_law_letters" kG f_LM d_LM)
  (fA:DG K "_law_text" kR f_L4 d_L4)
  (fB:DG K "_law_word" kN f_L5 d_L5)
  (fJ:DG K "_law_due" Dy f_due d_due)
  (fC:DG K "_law_moved" me f_L7 d_L7)
  (fG:DG K "_law_bad" lQ f_MA d_MA)
  (eK:DG K "_law_refused" kM f_LN d_LN)
  (eM:DG K "_law_in_ring" lJ f_LJ d_LJ)
  (fE:DG K "_law_machine" mB f_L2 d_L2)
  (fK:DG K "law" EH f_law d_law)
  (db:nsIn K mainGlobals "len"=some none)
  (dA:nsIn K mainGlobals "range"=some none)
  (cZ:nsIn K mainGlobals "isinstance"=some none)
  (fP:nsIn K mainGlobals "all"=some none)
  (fQ:nsIn K mainGlobals "min"=some none)
  (dN:nsIn K mainGlobals "list"=some none)
  (dO:nsIn K mainGlobals "tuple"=some none)
  (fL:nsIn K mainGlobals "set"=some none)
  (dU:nsIn K mainGlobals "sorted"=some none)
  (fF:nsIn K mainGlobals "str"=some none)
  (fM:nsIn K mainGlobals "int"=some none)
  (eE:nsIn K mainGlobals "bool"=some none)
  (fS:nsIn K mainGlobals "sum"=some none)
  (ba:nsIn K mainGlobals "ValueError"=some none)
  (fO:nsIn K mainGlobals "zip"=some none)
  (c_KH:nsIn K mainGlobals "SMALL_LETTERS"=some (some (.str (Str.ofString "abcdefghijklmnopqrstuvwxyz") tk_KH)))
  (c_KX:nsIn K mainGlobals "MOST_KINDS"=some (some (.int 4 tk_KX)))
  (c_KF:nsIn K mainGlobals "MOST_IN_STRIP"=some (some (.int 40 tk_KF)))
  (c_KW:nsIn K mainGlobals "MOST_ASKED"=some (some (.int 60 tk_KW)))
  (c_KK:nsIn K mainGlobals "MOST_IN_RING"=some (some (.int 20 tk_KK))):∃a,Txt K mg a/\a.t_LE=t_LE/\a.k_LE=k_LE:=by
 obtain⟨_,_,_,_,_,_,_,_,_,rfl,_⟩:=id fK.2.ex;refine⟨{ c_K6,ak,ay,c_LO,c_LI,c_L8,c_LW,c_LH,c_L9,c_LX,bA,ck,bc,cn,bh,cq,bi,cu,bf,cz,bB,cA,bj,cB,bn,cC,bo,cD,bC,cE,bD,cF,bE,cG,bF,cH,bG,cI,bH,cJ,bp,cK,bI,cL,bJ,cM,bK,cN,bq,cO,bL,cP,bM,cQ,bN,cR,bO,cS,bP,cT,bQ,cU,f_LD,d_LD,f_LF,d_LF,f_LK,d_LK,f_LA,d_LA,f_K3,d_K3,f_LC,d_LC,f_KT,d_KT,f_LV,d_LV,f_LE,d_LE,f_LU,d_LU,f_LY,d_LY,f_L0,d_L0,f_LL,d_LL,f_LQ,d_LQ,f_LB,d_LB,f_ask,d_ask,f_KS,d_KS,f_KP,d_KP,f_LG,d_LG,f_LZ,d_LZ,f_LP,d_LP,f_LT,d_LT,f_L1,d_L1,f_L6,d_L6,f_L3,d_L3,f_LR,d_LR,f_LM,d_LM,f_L4,d_L4,f_L5,d_L5,f_due,d_due,f_L7,d_L7,f_MA,d_MA,f_LN,d_LN,f_LJ,d_LJ,f_L2,d_L2,f_law,t_LE,k_LE,d_law:=_ },{ dP:=o8 X G dP (by walk_at "b2"),dZ:=o8 X G dZ (by walk_at "b1"),dQ:=o8 X G dQ (by walk_at "b3"),dR:=o8 X G dR (by walk_at "b2"),dc:=o8 X G dc (by walk_at "b1"),df:=o8 X G df (by walk_at "b3"),dw:=o8 X G dw (by walk_at "b2"),eU:=o8 X G eU (by walk_at "b2"),dj:=o8 X G dj (by walk_at "b1"),eV:=o8 X G eV (by walk_at "b2"),ft:=o8 X G ft (by walk_at "b3"),fz:=o8 X G fz (by walk_at "b2"),eG:=o8 X G eG (by walk_at "b2"),eY:=o8 X G eY (by walk_at "b2"),dS:=o8 X G dS (by walk_at "b3"),fq:=o8 X G fq (by walk_at "b2"),dF:=o8 X G dF (by walk_at "b1"),dB:=o8 X G dB (by walk_at "b3"),d0:=o8 X G d0 (by walk_at "b2"),fk:=o8 X G fk (by walk_at "b2"),eI:=o8 X G eI (by walk_at "b3"),eJ:=o8 X G eJ (by walk_at "b4"),eC:=o8 X G eC (by walk_at "b2"),fm:=o8 X G fm (by walk_at "b2"),dL:=o8 X G dL (by walk_at "b2"),eZ:=o8 X G eZ (by walk_at "b1"),dJ:=o8 X G dJ (by walk_at "b4"),fA:=o8 X G fA (by walk_at "b3"),fB:=o8 X G fB (by walk_at "b3"),fJ:=o8 X G fJ (by walk_at "b2"),fC:=o8 X G fC (by walk_at "b3"),fG:=o8 X G fG (by walk_at "b3"),eK:=o8 X G eK (by walk_at "b2"),eM:=o8 X G eM (by walk_at "b3"),fE:=o8 X G fE (by walk_at "b3"),fK:=o8 X G fK (by walk_at "b1"),m_K6:=tw X G An.a,x_K6:=An.m,xi_K6:=An.i,k_K6:=An.k,i_K6,r_K6:=⟨rs_K6,rr_K6,rf_K6,rfl⟩,m_LO:=tw X G Ap.a,br:=Ap.m,cV:=Ap.i,cW:=Ap.k,i_LO,cY:=AS.2,az,fi_LO:=AS.1,b_LO:=AS.1.binds (by walk_at "b2"),m_LI:=tw X G Ao.a,x_LI:=Ao.m,xi_LI:=Ao.i,k_LI:=Ao.k,i_LI,cX:=tw X G a_L8,bR:=⟨rs_L8,rr_L8,rf_L8,rfl⟩,cl_L8:=⟨pg_L8,hd_L8,po_L8,sa_L8⟩,m_LW:=tw X G a_LW,cr_LW:=⟨rs_LW,rr_LW,rf_LW,rfl⟩,aQ:=⟨pg_LW,hd_LW,po_LW,sa_LW⟩,bt:=⟨bt,in_LW,Aa.2,kc_LW⟩,aW:=⟨aW,AQ.2,AQ.1.kp⟩,aD:=⟨aD,AR.2,AR.1.kp⟩,am:=⟨am,AM.2,AM.1.kp⟩,aH:=⟨aH,AO.2,AO.1.kp⟩,av:=⟨av,AL.2,AL.1.kp⟩,aA:=⟨aA,AN.2,AN.1.kp⟩,aw,ao,aN,aT,aU,ty_LW:=λe=>.ins e ⟨pg_LW,hd_LW,po_LW,sa_LW⟩ ha_LW ow_hn ow_tk mo_LW,m_LH:=tw X G a_LH,cr_LH:=⟨rs_LH,rr_LH,rf_LH,rfl⟩,aM:=⟨pg_LH,hd_LH,po_LH,sa_LH⟩,bS:=⟨bS,in_LH,AU.2,kc_LH⟩,bT:=⟨bT,AW.2,AW.1.kp⟩,bg:=⟨bg,AV.2,AV.1.kp⟩,bU:=⟨bU,AY.2,AY.1.kp⟩,bu:=⟨bu,AX.2,AX.1.kp⟩,bV:=⟨bV,AZ.2,AZ.1.kp⟩,bW:=⟨bW,AT.2,AT.1.kp⟩,aR,ae,aJ,aO,ah,ty_LH:=λe=>.ins e ⟨pg_LH,hd_LH,po_LH,sa_LH⟩ ha_LH ow_hn ow_tk mo_LH,m_L9:=tw X G a_L9,cr_L9:=⟨rs_L9,rr_L9,rf_L9,rfl⟩,aI:=⟨pg_L9,hd_L9,po_L9,sa_L9⟩,bX:=⟨bX,in_L9,Ab.2,kc_L9⟩,aZ:=⟨aZ,AQ.2,AQ.1.kp⟩,aF:=⟨aF,AR.2,AR.1.kp⟩,bv:=⟨bv,Ac.2,Ac.1.kp⟩,bY:=⟨bY,Ae.2,Ae.1.kp⟩,bZ:=⟨bZ,Af.2,Af.1.kp⟩,aG:=⟨aG,AL.2,AL.1.kp⟩,aE:=⟨aE,AN.2,AN.1.kp⟩,ac,ax,aS,aX,aY,ty_L9:=λe=>.ins e ⟨pg_L9,hd_L9,po_L9,sa_L9⟩ ha_L9 ow_hn ow_tk mo_L9,m_LX:=tw X G a_LX,cr_LX:=⟨rs_LX,rr_LX,rf_LX,rfl⟩,ag:=⟨pg_LX,hd_LX,po_LX,sa_LX⟩,b7:=⟨b7,in_LX,Aj.2,kc_LX⟩,aL:=⟨aL,AQ.2,AQ.1.kp⟩,aB:=⟨aB,AM.2,AM.1.kp⟩,aC:=⟨aC,AN.2,AN.1.kp⟩,bw:=⟨bw,Ak.2,Ak.1.kp⟩,ce:=⟨ce,Al.2,Al.1.kp⟩,cf:=⟨cf,Ah.2,Ah.1.kp⟩,cg:=⟨cg,Ai.2,Ai.1.kp⟩,cj:=⟨cj,Am.2,Am.1.kp⟩,bz:=⟨bz,Ag.2,Ag.1.kp⟩,aa,ad,af,aq,aV,ty_LX:=λe=>.ins e ⟨pg_LX,hd_LX,po_LX,sa_LX⟩ ha_LX ow_hn ow_tk mo_LX,dh:=qi AK (by walk_at "b3"),e9:=qi AQ (by walk_at "b1"),dk:=qi AM (by walk_at "b2"),dD:=qi AR (by walk_at "b2"),dv:=qi AN (by walk_at "b2"),eN:=qi AO (by walk_at "b1"),dC:=qi AL (by walk_at "b1"),dW:=qi Aa (by walk_at "b3"),d7:=qi AU (by walk_at "b3"),dE:=qi AW (by walk_at "b2"),dG:=qi AV (by walk_at "b3"),eD:=qi AY (by walk_at "b3"),dz:=qi AX (by walk_at "b2"),d8:=qi AZ (by walk_at "b1"),de:=qi AT (by walk_at "b2"),fg:=qi Ab (by walk_at "b3"),dH:=qi Ac (by walk_at "b2"),fh:=qi Af (by walk_at "b1"),eO:=qi Ae (by walk_at "b1"),eP:=qi Aj (by walk_at "b2"),dI:=qi Ak (by walk_at "b1"),fi:=qi Al (by walk_at "b2"),eQ:=qi Ah (by walk_at "b1"),eR:=qi Ai (by walk_at "b2"),eB:=qi Am (by walk_at "b2"),dM:=qi Ag (by walk_at "b4"),nd,db:=sD X G db,dA:=sD X G dA,cZ:=sD X G cZ,fP:=sD X G fP,fQ:=sD X G fQ,dN:=sD X G dN,dO:=sD X G dO,fL:=sD X G fL,dU:=sD X G dU,fF:=sD X G fF,fM:=sD X G fM,eE:=sD X G eE,fS:=sD X G fS,ba:=sD X G ba,fO:=sD X G fO,c_KH:=⟨_,tw X G c_KH⟩,c_KX:=⟨_,tw X G c_KX⟩,c_KF:=⟨_,tw X G c_KF⟩,c_KW:=⟨_,tw X G c_KW⟩,c_KK:=⟨_,tw X G c_KK⟩,bl:=λs u=>.of_eq rfl },rfl,rfl⟩
end Pk93
namespace Pk93
open PySem L2
def Zo7 {v:V}{p:V->Prop}:(∃u,some (some v)=some (some u)/\p u)=p v:=
 propext ⟨λ⟨_,e,h⟩=>by cases e;exact h,λh=>⟨v,rfl,h⟩⟩
def rT_i (h:C a b/\Q (g a b) H):rT C g (tx a) (tx b) H Q:=h
noncomputable def lpos:Pos:=⟨59,29,59,59⟩
noncomputable def lq:Str:="in_order.<locals>.<lambda>"
def rB:mN:=[97,98,99,100,101,102,103,104,105,106,107,108,109,110,111,112,113,114,115,116,117,118,119,120,121,122]
def rD (l:mN):Bool:=decide (1<=l.length)&&decide (l.length<=4)&&(l.all λc=>rB.contains c)&&decide (fX l=qd (qo (fX l)))
noncomputable def qU (l m:mN)(most:Int):Bool:=decide ((l.length:Int)<=most)&&l.all λc=>m.contains c
def vm:mN->mN->Bool
 | _,[]=>true
 | last,c::r=>decide (c∈rB)&&decide (last < [c])&&vm [c] r
def xA (l:mN):Bool:=decide (1<=l.length)&&decide (l.length<=4)&&vm [] l
def Bq {a b:Nat}:([a] < [b])↔a<b:=by
 constructor
 .intro h;cases h with
  | rel h=>exact h
  | cons h=>cases h
 .exact λh=>List.Lex.rel h
theorem HG:∀(l:mN) (d:Nat),vm [d] l=true↔(∀c∈l,c∈rB)/\(d::l).Pairwise (· < ·)
 | [],d=>by simp[vm]
 | c::r,d=>by
  rw[vm,oJ,oJ,JH,JH,Bq,HG r c];simp only[tY,ot,forall_eq_or_imp];constructor
  .rintro⟨⟨h1,h2⟩,h3,h4,h5⟩;exact⟨⟨h1,h3⟩,⟨h2,λx hx=>Nat.lt_trans h2 (h4 x hx)⟩,h4,h5⟩
  .rintro⟨⟨h1,h3⟩,⟨h2,_⟩,h4,h5⟩;exact⟨⟨h1,h2⟩,h3,h4,h5⟩
def yB (l:mN):vm [] l=true↔(∀c∈l,c∈rB)/\l.Pairwise (· < ·):=by
 cases l with
 | nil=>simp[vm]
 | cons c r=>
  rw[vm,oJ,oJ,JH,JH,HG r c];simp only[ot,forall_eq_or_imp];constructor
  .rintro⟨⟨h1,_⟩,h3,h4⟩;exact⟨⟨h1,h3⟩,h4⟩
  .rintro⟨⟨h1,h3⟩,h4⟩;exact⟨⟨h1,{}⟩,h3,h4⟩
theorem IN:∀(ls acc:mU),(acc++ls).Nodup->ls.foldl gX acc=acc++ls
 | [],acc,_=>by simp
 | x::ls,acc,h=>by
  have hx:¬x∈acc:=by rw[ut]at h;exact λhm=>h.2.2 x hm x pW rfl
  rw[wO,gX,mR hx,IN ls (acc++[x]) (~~~h)];simp
def Zhd (h:l.Pairwise (· < ·)):(fX l).Nodup:=by unfold fX List.Nodup;rw[uG];exact h.imp λhab e=>by injection e with e;lia
def ZkN (ls:mU):(qo ls).Nodup:=by rw[<-zC];exact xP _
def ZiI (l:mN):fX l=qd (qo (fX l))↔l.Pairwise (· < ·):=by
 constructor
 .intro e;have h1:(fX l).Pairwise (λa b=>rG a b=true):=by rw[e];exact yk _
  have h2:(fX l).Nodup:=by rw[e];exact(sB _).nodup_iff.mpr (ZkN _)
  unfold fX at h1;unfold fX List.Nodup at h2;rw[uG]at h1 h2;refine(h1.and h2).imp ?_;rintro a b ⟨x,y⟩;have y':a≠b:=λe=>y (by rw[e]);have x':¬([b] < [a]):=by simpa [rG] using x
  rw[Bq]at x'
  lia
 .intro h;have e:qo (fX l)=fX l:=by unfold qo;rw[IN _ _ (~~~Zhd h)];simp
  rw[e];refine Db (List.Perm.refl _) ?_;unfold fX;rw[uG];refine h.imp λ{a b} hab=>?_;have:¬([b] < [a]):=by rw[Bq];lia
  simpa [rG] using this
def Cl (l:mN):rD l=xA l:=by
 have h1:(l.all λc=>rB.contains c)=decide (∀c∈l,c∈rB):=by rw[qv,sE,JH];simp
 have h2:decide (fX l=qd (qo (fX l)))=decide (l.Pairwise (· < ·)):=by rw[qv,JH,JH,ZiI]
 have h3:vm [] l=(decide (∀c∈l,c∈rB)&&decide (l.Pairwise (· < ·))):=by rw[qv,oJ,JH,JH,yB]
 unfold rD xA;rw[h1,h2,h3,Bool.and_assoc]
def jx (l m:mN):((List.range l.length).map (λi=>decide (l.getD i 0∈m))).all id=l.all λc=>m.contains c:=by
 rw[qv,sE,sE];constructor
 .intro h c hc;obtain⟨i,hi,rfl⟩:=List.mem_iff_getElem.mp hc;have:=h _ (uR (oU.mpr hi));simpa [pM,om hi] using this
 .intro h b hb;obtain⟨i,hi,rfl⟩:=pK.mp hb;have hi:=oU.mp hi;have:=h _ (t8 hi);simpa [pM,om hi] using this
noncomputable def cell (ns:List Int)(k:Int):Int:=ns.getD k.toNat 0
def Zox {ns:List Int}{k:Int}(h0:0<=k)(h1:k<ns.length):qh (ns.map V.int) k=some (.int (cell ns k)):=by
 have hk:k.toNat<ns.length:=by lia
 unfold qh sg cell;rw[m6,mS h0,mS h1,uj,pA,pM,om hk];rfl
def o9 (h:l.length<=1000):ko K (tx l) H l.length:=by
 have e:(⟨l.toArray⟩:Str).length=l.length:=by simp[Str.length]
 have:l.length<=sizeLine:=og h (by rw[sizeLine_eq];decide);exact⟨by rw[e];exact this,e.symm⟩
def cm (h:0<m)(h2:m<=2 ^ 64):jO (x % m) y:=.inl ⟨by have:=vx x (show m≠0 by lia);lia,by have:=vO x h;lia⟩
def tL:kitOne K t t=some true:=by unfold kitOne;simp
def BB (h0:0<=i)(h1:i<xs.length):∃v,qh xs i=some v/\v∈xs:=by
 have hi:i.toNat<xs.length:=by lia
 refine⟨xs[i.toNat],?_,t8 hi⟩;unfold qh sg;rw[mS h0,mS h1,uj,om hi]
def vB (xs:mU):(xs.map tx).all pR=true:=by rw[sE];intro v hv;obtain⟨x,_,rfl⟩:=pK.mp hv;rfl
def gh (s:fT H H2)(h:H e=none):fT H (upd H2 e o'):=λb u hb=>by
 have:b≠e:=λz=>by rw[z,h]at hb;cases hb
 rw[mT this];exact s _ _ hb
theorem F5:∀ {ls:mU},(∀m∈ls,m.length=1)->ls.flatten.length=ls.length
 | [],_=>rfl
 | m::ls,h=>by
  rw[uY,nN,F5 λx hx=>h x (pP _ hx),h m pW,qK]
  lia
def zo (p:α->Bool)(d:α)(ls:List α):((List.range ls.length).filter λi=>p (ls.getD i d)).map (λi=>ls.getD i d)=ls.filter p:=by
 have e:(List.range ls.length).map (λi=>ls.getD i d)=ls:=by
  apply uK
  .simp
  .intro i h1 h2;simp[h2]
 have h:=List.filter_map (p:=p) (f:=λi=>ls.getD i d) (l:=List.range ls.length);rw[e]at h;rw[h];rfl
def vM {ls:mU}{k:Nat}(h:k<ls.length):(ls.map tx).getD k V.non=tx (ls.getD k []):=by rw[pM,pA,pM,om h];rfl
def Dn {x:mN}{ls:mU}:BO (tx x) (ls.map tx)=decide (x∈ls):=by
 unfold BO;rw[qv,vv,JH];constructor
 .rintro⟨y,hy,e⟩;obtain⟨l,hl,rfl⟩:=pK.mp hy;rw[GI,JH,yZ]at e;rw[<-e];exact hl
 .intro h;exact⟨tx x,uR h,by rw[GI];exact JI rfl⟩
theorem Ep:∀(xs ys:mU),deqs ((xs.map tx).map DT.f) ((ys.map tx).map DT.f)=decide (xs=ys)
 | [],[]=>by unfold deqs;rfl
 | [],y::ys=>by simp only[pH,List.map_nil];unfold deqs;rfl
 | x::xs,[]=>by simp only[pH,List.map_nil];unfold deqs;rfl
 | x::xs,y::ys=>by
  simp only[pH];unfold deqs;rw[Ep xs ys];have e:oX (DT.f (tx x)) (DT.f (tx y))=decide (x=y):=by unfold oX;rw[<-u4];show ((⟨x.toArray⟩:Str) == ⟨y.toArray⟩)=_;rw[qv,JP,JH];exact⟨λh=>by unfold tx;rw[h],λh=>by unfold tx at h;injection h⟩
  rw[e,qv,oJ,JH,JH,JH,List.cons.injEq]
def ZpB {K:Q4}{H:Hp}{Q:VK}{a b:AD}{xs:mU}(h1:oj K H a (xs.map tx))(h2:oj K H b (xs.map tx))(q:Q (.bl false) H):iz K true (.ref a) (.ref b) H Q:=
 .inr ⟨_,_,jE h1 (vB _),jE h2 (vB _),λz=>nU z.1,(lM h1 (vB _)).2.2,by unfold oX;rw[Ep,JI rfl];exact q⟩
def ZkS {ns:List Int}{lo hi:Option Int}{v:V}(h:v∈jf (ns.map V.int) lo hi):∃c,v=.int c:=by have h2:v∈ns.map V.int:=qE (qf h);obtain⟨c,_,rfl⟩:=pK.mp h2;exact⟨c,rfl⟩
def Zml:(jf xs lo hi).length<=xs.length:=by
 unfold jf;rw[ou,pO]
 lia
def Zqi {K:Q4}{H:Hp}{Q:VK}{a b:AD}{xs ys:mU}(h1:oj K H a (xs.map tx))(h2:oj K H b (ys.map tx))(q:Q (.bl (decide (xs=ys))) H):iz K false (.ref a) (.ref b) H Q:=
 .inr ⟨_,_,jE h1 (vB _),jE h2 (vB _),λz=>nU z.1,(lM h1 (vB _)).2.2,by unfold oX;rw[Ep];exact q⟩
def ZnZ:V.str (Str.ofString "abcdefghijklmnopqrstuvwxyz")=tx rB:=JN V.str nofun
def Zom (l:mN):(qo (fX l)).length<=l.length:=by
 have:∀(ls acc:mU),(ls.foldl gX acc).length<=acc.length+ls.length:=by
  intro ls;induction ls with
  | nil=>intro acc;simp
  | cons x ls ih=>
   intro acc;rw[wO];refine og (ih _) ?_;unfold gX;split<;>simp<;>lia
 have h:=this (fX l) [];unfold qo;unfold fX at h ⊢;simpa using h
def i3 (l:mN):(fX l).length=l.length:=by unfold fX;rw[m6]
def lh:kitOne K (.type "int") (.type "str")=some false:=by rfl
def Hm:kitOne K (.type "int") (.type "bool")=some false:=by rfl
def je (l m:mN):List (Str×V):=gs "own_kinds" (tx m) (gs "own_text" (tx l) [])
def kt:¬(("own_text":Str)="own_kinds"):=by decide +kernel
def wc:(je l m).lookup ("own_text":Str)=some (tx l):=by unfold je;rw[pY,mR kt,pY,mS rfl]
def DY:(je l m).lookup ("own_kinds":Str)=some (tx m):=by unfold je;rw[pY,mS rfl]
def tR {l m:mN} {x:Str} (h1:¬x="own_text") (h2:¬x="own_kinds"):(je l m).lookup x=none:=by unfold je;rw[pY,mR h2,pY,mR h1];rfl
def gD (C:AD)(H:Hp)(p:AD)(l m:mN):Prop:=∃dx,H p=some (.ins C dx (je l m))
def gD.same (r:gD C H p l m)(s:fT H H'):gD C H' p l m:=let ⟨dx,h⟩:=r;⟨dx,s _ _ h⟩
structure gy (l m:mN):Prop where
 k:rD m=true
 m1:1<=m.length
 m4:m.length<=4
 l40:l.length<=40
 mem:∀x∈l,x∈m
def C1 (ls:mU):(qo ls).length<=ls.length:=by
 have:∀(ls acc:mU),(ls.foldl gX acc).length<=acc.length+ls.length:=by
  intro ls;induction ls with
  | nil=>intro acc;simp
  | cons x ls ih=>
   intro acc;rw[wO];refine og (ih _) ?_;unfold gX;split<;>simp<;>lia
 simpa [qo] using this ls []
def Jk (h:gy l m):qU l m 40=true:=by have h2:=h.l40;unfold qU;rw[oJ,JH,sE];exact⟨∅,λx hx=>by simpa using h.mem x hx⟩
def Zjq (h:1<=l.length):decide (tx l=tx [])=false:=by rw[u4,JL];intro e;rw[e]at h;simp at h
def Zp1 (h1:1<=m.length)(h4:m.length<=4)(hm:∀c∈m,c∈rB)(hp:m.Pairwise (· < ·)):rD m=true:=by rw[Cl];unfold xA;rw[(yB m).mpr ⟨hm,hp⟩];simp[h1,h4]
def B7 (l:mN){i:Int}(h:0<=i):oR l none (some i)=l.take i.toNat:=by obtain⟨k,rfl⟩:∃k:Nat,i=(k:Int):=⟨i.toNat,∅⟩;rw[vH,rh]
def Zoq (l:mN){i:Int}(h:0<=i):oR l (some i) none=l.drop i.toNat:=by obtain⟨k,rfl⟩:∃k:Nat,i=(k:Int):=⟨i.toNat,∅⟩;rw[z9,rh]
def mH {p q:Prop}[Decidable True](h:p):if True then p else q:=by rw[mS True.intro];exact h
def ZoE (Pv:St->Prop)(μ:St->Nat)(h0:Pv U)
  (hs:∀U,Pv U->∃b:Bool,(∀Q:Bool->Hp->Prop,Q b H->c U H Q)/\if b=true then tb { D with nx:=λU' H'=>(H'=H/\Pv U')/\μ U'<μ U,ct:=λU' H'=>(H'=H/\Pv U')/\μ U'<μ U,bk:=D.nx } U H else D.nx U H):gS c tb D U H:=by
 refine⟨λm U H'=>m=μ U/\H'=H/\Pv U,⟨_,rfl,rfl,h0⟩,?_⟩;rintro m U _ ⟨rfl,rfl,p⟩;obtain⟨b,hc,hb⟩:=hs U p;refine hc _ ?_;cases b with
 | true=>exact⟨_,λU' H' ⟨p',l⟩=>⟨_,l,rfl,p'⟩,hb⟩
 | false=>exact hb
def A2 (l:mN)(n:Int):(gG l n).length=n.toNat*l.length:=by unfold gG;simp
def Zlt (h:x∈gG l n):x∈l:=by unfold gG at h;obtain⟨y,hy,hx⟩:=List.mem_flatten.mp h;rw[(List.mem_replicate.mp hy).2]at hx;exact hx
def IL {n:Nat}(hs:1<=s):(n:Int)/(s:Nat)<=(n:Int):=by
 have e:(n:Int)/(s:Nat)=((n/s:Nat):Int):=(Int.natCast_ediv _ _).symm;have:=Nat.div_le_self n s;rw[e]
 lia
def Iv {n:Nat}:0<=(n:Int)/(s:Nat):=by have e:(n:Int)/(s:Nat)=((n/s:Nat):Int):=(Int.natCast_ediv _ _).symm;rw[e];exact Int.natCast_nonneg _
def fill {f m:mN}{n:Nat}{e:Int}(hn:0<n)(hf:f.length=n)(hm:∀x∈f,x∈m)(he:1<=e):(oR (gG (oR f none (some e)) (n:Nat)) none (some ((n:Nat):Int))).length=n/\∀x∈oR (gG (oR f none (some e)) (n:Nat)) none (some ((n:Nat):Int)),x∈m:=by
 rw[vH,B7 f ∅];have ht:1<=(f.take e.toNat).length:=by rw[ou];lia
 have hl:n<=(gG (f.take e.toNat) (n:Nat)).length:=by rw[A2,rh];exact Nat.le_mul_of_pos_right n ht
 refine⟨by rw[ou];lia,λx hx=>?_⟩;exact hm x (qf (Zlt (qf hx)))
def put1 {f m:mN}{n c:Nat}{i:Int}(hf:f.length=n)(hm:∀x∈f,x∈m)(hc:c∈m)(h0:0<=i)(h1:i<(n:Nat)):(oR f none (some i)++[c]++oR f (some (i+1)) none).length=n/\∀x∈oR f none (some i)++[c]++oR f (some (i+1)) none,x∈m:=by
 rw[B7 f h0,Zoq f ∅];refine⟨by rw[nN,nN,ou,pO,pZ];lia,λx hx=>?_⟩;rcases oV.mp hx with hx | hx
 .rcases oV.mp hx with hx | hx
  .exact hm x (qf hx)
  .rw[oN.mp hx];exact hc
 .exact hm x (qE hx)
def Zr0 (h:Q (.bl false) H):iz K true (tx x) (tx x) H Q:=.inl ⟨rfl,by rw[mS rfl,JI rfl];exact h⟩
def JB (h:Q (.bl true) H):iz K false (tx x) (tx x) H Q:=.inl ⟨rfl,by rw[mR nU,JI rfl];exact h⟩
def ne_int (h:Q (.bl false) H):iz K true (.int x) (.int x) H Q:=.inl ⟨rfl,by rw[mS rfl,JI rfl];exact h⟩
def eq_int (h:Q (.bl true) H):iz K false (.int x) (.int x) H Q:=.inl ⟨rfl,by rw[mR nU,JI rfl];exact h⟩
def DH (w:mN):oR w none (some (-1))=w.dropLast:=by
 unfold oR;have e1:HT.sIx w.length w.length (some (-1))=w.length-1:=by
  unfold HT.sIx;simp only[];rw[mS ⋯]
  lia
 have e2:HT.sIx w.length 0 none=0:=rfl;rw[e1,e2,sG,xq];rfl
def za (w:mN):oR w (some 1) none=w.tail:=by have:=z9 w 1;rw[List.drop_one]at this;exact this
theorem yR {α β:Type}(f:α->β):∀(l:List α) (k:Nat),(l.map f).eraseIdx k=(l.eraseIdx k).map f
 | [],k=>by simp
 | x::l,0=>by simp
 | x::l,k+1=>by simp[yR f l k]
theorem Hj:∀ {ls:mU},(∀m∈ls,m.length=1)->ls=fX ls.flatten
 | [],_=>rfl
 | m::ls,h=>by
  have h1:=h m pW
  match m,h1 with
  | [c],_=>
   have ih:=Hj (ls:=ls) λx hx=>h x (pP _ hx);rw[uY];show [c]::ls=[c]::fX ls.flatten;rw[<-ih]
def Zi7 (nd:F.Nodup)(sub:∀c∈F,c∈rB)(h1:1<=F.length)(h4:F.length<=4):rD (qd (fX F)).flatten=true/\(qd (fX F)).flatten.length=F.length:=by
 have pm:=sB (fX F);have one:∀m∈qd (fX F),m.length=1:=λm hm=>by obtain⟨c,_,rfl⟩:=pK.mp (pm.mem_iff.mp hm);rfl
 have e:=Hj one;have hl:(qd (fX F)).flatten.length=F.length:=by rw[F5 one,pm.length_eq];unfold fX;rw[m6]
 have so:=yk (fX F);have nd2:(qd (fX F)).Nodup:=pm.nodup_iff.mpr (by unfold fX List.Nodup;rw[uG];exact nd.imp λhab z=>hab (by injection z))
 have mem:∀c∈(qd (fX F)).flatten,c∈rB:=λc hc=>by obtain⟨x,hx,hcx⟩:=List.mem_flatten.mp hc;obtain⟨d,hd,rfl⟩:=pK.mp (pm.mem_iff.mp hx);rw[oN.mp hcx];exact sub d hd
 generalize (qd (fX F)).flatten=S at e hl mem;rw[e]at so nd2;unfold fX at so nd2;unfold List.Nodup at nd2;rw[uG]at so nd2;refine⟨Zp1 ∅ ∅ mem ((so.and nd2).imp ?_),hl⟩;rintro a b ⟨x,y⟩;have y':a≠b:=λz=>y (by rw[z]);have x':¬([b] < [a]):=by simpa [rG] using x
 rw[Bq]at x'
 lia
def Il (hm:m.length<=4)(hl:l.length<=40)(hi:i<=41):(zP l m i).length<=6724:=by
 have h1:∀k,(rC (gf l k) (gf l (k+1)) m).length<=164:=λk=>og (BU _ _ _) (og (uB (Jy l k) hm) ∅);have h2:=zF (f:=λk=>rC (gf l k) (gf l (k+1)) m) h1 (List.range i);rw[rm]at h2;have:i*164<=41*164:=Nat.mul_le_mul_right _ hi;unfold zP
 lia
def zX (hl:l.length<=40)(h:w∈nR l m):w.length<=41:=by
 have:=(qG.mp h).1.init.len;rw[rZ]at this
 lia
def wR {α:Type}{l:List α}{i:Nat}{x:α}(h:l[i]?=some x):l.take (i+1)=l.take i++[x]:=by rw[List.take_succ,h];rfl
theorem xU:∀(l:mN) (k:Nat) (h:k<l.length),(l[k]::l.eraseIdx k).Perm l
 | x::l,0,h=>by simp
 | x::l,k+1,h=>by simp only[List.getElem_cons_succ,List.eraseIdx_cons_succ];exact(List.Perm.swap _ _ _).trans ((xU l k (~~~h)).cons x)
def Jl (h:x∈oR l lo hi):x∈l:=qE (qf h)
def zk (f:Str):JR->List (Str×V):=λr=>gs f (r.getD 0 .non) []
def ET:(zk f vs).lookup f=some (vs.getD 0 .non):=by unfold zk;rw[pY,mS rfl]
def iO (K:Q4)(H:Hp)(v:V):Prop:=(∃d,vF K H d v)\/∃(a:AD) (kvs:List (nH×V)),v=.ref a/\H a=some (.dK kvs)
def vV (K:Q4)(H:Hp)(v:V):Prop:=∃T b,sZ K H v (.type T)/\kitOne K (.type T) (.type "str")=some false/\kitOne K (.type T) (.type "bool")=some b/\iO K H v
def jz (K:Q4)(H:Hp)(v:V)(m:mN)(most:Int):Prop:=(∃l:mN,v=tx l/\l.length<=1000/\qU l m most=false)\/vV K H v
def Bb (a:Ad)(E:XK)(H:Hp)(v:V):Prop:=∀e H2,fT H H2->iU H2 e a.c_LO (zk "word" [v])->E (.ref a.c_LO) (some e) H2
structure ur (m:mN):Prop where
 k:rD m=true
 m1:1<=m.length
 m4:m.length<=4
def ur.lets (h:ur m):∀c∈m,97<=c/\c<=122:=by
 have h1:=h.k;rw[Cl]at h1;unfold xA at h1;rw[oJ]at h1;intro c hc;have:=((yB m).mp h1.2).1 c hc;have h:∀c∈rB,97<=c/\c<=122:=by decide
 exact h c this
def Zp0 (h:rD l=true):1<=l.length/\l.length<=4/\l.Pairwise (· < ·):=by rw[Cl]at h;unfold xA at h;rw[oJ,oJ,JQ,JQ]at h;exact⟨h.1.1,h.1.2,((yB l).mp h.2).2⟩
def x0 (h:c∈l)(hc:c∉m):qU l m most=false:=by unfold qU;rw[Bool.and_eq_false_iff];right;rw[List.all_eq_false];exact⟨c,h,~~~hc⟩
def Zl2 (h:most<l.length):qU l m most=false:=by
 unfold qU;rw[Bool.and_eq_false_iff];left;rw[JL]
 lia
def Hb (h:(l.length:Int)<=most)(hm:∀x∈l,x∈m):qU l m most=true:=by unfold qU;rw[oJ,JH,sE];exact⟨h,λx hx=>by simpa using hm x hx⟩
def Ga (h:H e=none):fT H (upd (upd H e o) e o'):=λb u hb=>by
 have:b≠e:=λz=>by rw[z,h]at hb;cases hb
 rw[mT this,mT this];exact hb
def ZjP (x:rL H e C fs):∃d,H e=some (xo e C d)/\iU (upd H e (xr e C d)) e C fs:=by
 cases x with
 | bare h=>exact⟨none,h,.bare nu⟩
 | @full d _ h1 h2 h3=>exact⟨some d,h1,.full nu (by rw[mT h3];exact h2) h3⟩
def sZ.same (h:sZ K H v t)(s:fT H H'):sZ K H' v t:=by
 cases h with
 | pl h=>
  refine .pl ?_;cases h with
  | non=>exact .non
  | bl x=>exact .bl x
  | int i=>exact .int i
  | str x=>exact .str x
  | flt x=>exact .flt x
  | lst e=>exact .lst (s _ _ e)
  | frz e=>exact .frz (s _ _ e)
  | tup e=>exact .tup (s _ _ e)
  | dK e=>exact .dK (s _ _ e)
  | dT e=>exact .dT (s _ _ e)
  | ins e cl ha hn htk hm=>exact .ins (s _ _ e) cl ha hn htk hm
 | seqL h=>exact .seqL (s.seq h)
 | seqT h=>exact .seqT (s.seqT h)
 | exc x i=>exact .exc (x.same s) i
def ZpS:kitOne K (.type "bool") (.type "str")=some false:=by rfl
def ZpN:kitOne K (.type "NoneType") (.type "str")=some false:=by rfl
def ZpO:kitOne K (.type "list") (.type "str")=some false:=by rfl
def Zn2:kitOne K (.type "tuple") (.type "str")=some false:=by rfl
def ZpQ:kitOne K (.type "dict") (.type "str")=some false:=by rfl
def kq:kitOne K (.type "NoneType") (.type "bool")=some false:=by rfl
def ZpP:kitOne K (.type "list") (.type "bool")=some false:=by rfl
def Zn3:kitOne K (.type "tuple") (.type "bool")=some false:=by rfl
def ZpR:kitOne K (.type "dict") (.type "bool")=some false:=by rfl
def ZpM:kitOne K (.type "str") (.type "bool")=some false:=by rfl
def Ff:vV K H (.int i):=⟨"int",false,.pl (.int _),lh,Hm,.inl ⟨_,jQ rfl⟩⟩
def Zpj:vV K H (.bl i):=⟨"bool",true,.pl (.bl _),ZpS,tL,.inl ⟨_,jQ rfl⟩⟩
def ZnG:vV K H .non:=⟨"NoneType",false,.pl .non,ZpN,kq,.inl ⟨_,jQ rfl⟩⟩
def GA (h:H a=some (.lst xs))(hf:xs.all pR=true):vV K H (.ref a):=⟨"list",false,.seqL (.mk h),ZpO,ZpP,.inl ⟨_,lM (.mk h) hf⟩⟩
def ZnF (h:H a=some (.tup xs))(hf:xs.all pR=true):vV K H (.ref a):=⟨"tuple",false,.seqT (.mk h),Zn2,Zn3,.inl ⟨_,ownT (.mk h) hf⟩⟩
def Jf (h:H a=some (.dK kvs)):vV K H (.ref a):=⟨"dict",false,.pl (.dK h),ZpQ,ZpR,.inr ⟨_,_,rfl,h⟩⟩
def zw (l x:mN):Bool:=!hG x l&&(hG x.tail l&&hG x.dropLast l)
theorem jr:∀(l m:mN),l.Nodup->(∀x∈l,x∈m)->l.length<=m.length
 | [],m,_,_=>pE _
 | x::l,m,nd,h=>by
  have hx:=h x pW;have nd':=tZ.mp nd;have:=jr l (m.erase x) nd'.2 λy hy=>(List.mem_erase_of_ne (λe=>by rw[e]at hy;exact nd'.1 hy)).mpr (h y (pP _ hy));rw[List.length_erase_of_mem hx]at this;have pos:0<m.length:=Br hx;rw[qK]
  lia
def Zpy {m A:mN}(nd:A.Nodup)(h:m.length<A.length):∃c gx,((List.range A.length).filter λi=>!decide (A.getD i 0∈m)).map (λi=>tx [A.getD i 0])=tx [c]::gx/\c∉m/\c∈A:=by
 have e:((List.range A.length).filter λi=>!decide (A.getD i 0∈m)).map (λi=>tx [A.getD i 0])=(A.filter λc=>!decide (c∈m)).map λc=>tx [c]:=by rw[<-zo (λc=>!decide (c∈m)) 0 A,ql];rfl
 rw[e];cases z:A.filter λc=>!decide (c∈m) with
 | nil=>
  have:=jr A m nd λx hx=>by have:=List.filter_eq_nil_iff.mp z x hx;simpa using this
  lia
 | cons c r=>
  have hc:c∈A.filter λc=>!decide (c∈m):=by rw[z];exact pW
  obtain⟨h1,h2⟩:=qr.mp hc;exact⟨c,_,rfl,~~~h2,h1⟩
def Zma (h:1<=m.length):∃c,qh m 0=some c/\c∈m:=BB (Int.le_refl _) ∅
def rep1 (c:Nat)(n:Int):gG [c] n=List.replicate n.toNat c:=by
 unfold gG;generalize n.toNat=k;induction k with
 | zero=>rfl
 | succ k ih=>rw[zQ,uY,ih,zQ];rfl
def ur.out (h:ur m){c:Nat}(hc:¬(97<=c/\c<=122)):c∉m:=λz=>hc (h.lets c z)
def jy:qh (x::xs) 0=some x:=by unfold qh sg;rw[mS (Int.le_refl _),mS (by rw[qK];lia)];rfl
def gc (l w:mN):mN:=(List.range (l.length+1-w.length)).filter λi=>decide ((l.drop i).take w.length=w)
def Ft:Option Nat->V
 | none=>.non
 | some i=>.int i
def ZiC {G:Prop}{T C:Hp->Prop}(h1:(∀H7,C H7->T H7)->G)(h2:∀H7,C H7->T H7):G:=h1 h2
def ZjS (h:kvs.map (·.1)=ls.map nO):(gv kvs (nO x) v).map (·.1)=(gX ls x).map nO:=by
 have inj:∀y,nO y=nO x↔y=x:=λy=>⟨λe=>by unfold nO at e;injection e with e;injection e with e;injection e,λe=>by rw[e]⟩;have hany:(kvs.any λkv=>decide (kv.1=nO x))=decide (x∈ls):=by
  have e1:(kvs.any λkv=>decide (kv.1=nO x))=(kvs.map (·.1)).any λk=>decide (k=nO x):=by rw[List.any_map];rfl
  rw[e1,h,List.any_map,qv,vv,JH];constructor
  .rintro⟨y,hy,e⟩;have e:nO y=nO x:=by simpa using e
   rw[<-(inj y).mp e];exact hy
  .intro hx;exact⟨x,hx,{}⟩
 unfold gv gX;rw[hany];by_cases hx:x∈ls
 .rw[mS (JI hx),mS hx,ql,<-h];apply t7;intro kv _;show (if kv.1=nO x then (kv.1,v) else kv).1=kv.1;split<;>rfl
 .rw[mR (~~~hx),mR hx,tD,h,tD];rfl
def RowF (H:Hp)(l w:mN)(y:V):Prop:=∃t:AD,y=.ref t/\H t=some (.tup [tx w,.int (rK l w.dropLast:Nat),.int (rK l w.tail:Nat)])
def i9 (H:Hp)(l:mN)(ws:mU)(ys:JR):Prop:=ys.length=ws.length/\∀(i:Nat) (y:V),ys[i]?=some y->∃w,ws[i]?=some w/\RowF H l w y
def i9.same (r:i9 H l ws ys)(s:fT H H'):i9 H' l ws ys:=
 ⟨r.1,λi y h=>let ⟨w,hw,t,e,h1⟩:=r.2 i y h;⟨w,hw,t,e,s _ _ h1⟩⟩
def JG (H:Hp)(x y:V):Prop:=(x=y/\((∃l,x=tx l)\/∃i,x=.int i))\/∃(px py:AD) (vs:JR),x=.ref px/\y=.ref py/\H px=some (.tup vs)/\H py=some (.tup vs)/\vs.length<=1000/\∀v∈vs,(∃l,v=tx l)\/∃i,v=.int i
def B1 (h:rD m=true):m.Pairwise (· < ·):=by rw[Cl]at h;unfold xA at h;rw[oJ]at h;exact((yB m).mp h.2).2
def ye (l m:mN):Bool:=qU l m 1&&decide ((l.length:Int)=1)
def iO.same (se:iO K H v)(s:fT H H'):iO K H' v:=by
 rcases se with⟨d,o⟩|⟨b,kvs,rfl,hb⟩
 .exact .inl ⟨d,o.same s⟩
 .exact .inr ⟨b,kvs,rfl,s _ _ hb⟩
def ur.kinds (h:ur m):iK m:=⟨h.k,h.m1,h.m4,B1 h.k⟩
def Gw (h:c∈m):ye [c] m=true:=by unfold ye;rw[Hb (by show ((1:Nat):Int)<=1;decide) (λx hx=>by rw[oN.mp hx];exact h)];rfl
def FM (ne:x≠[]):zw l x=true↔iP l x:=by
 unfold zw;rw[oJ,oJ,Bool.not_eq_true',FU,tP,tP];constructor
 .rintro⟨a,b,c⟩;exact⟨ne,c,b,a⟩
 .rintro⟨_,c,b,a⟩;exact⟨a,b,c⟩
def rA (L:mN)(i:Nat):mU:=(List.range i).flatMap λk=>[L.take (k+1),L.drop (L.length-(k+1))]
def IJ (L:mN)(i:Nat):rA L (i+1)=rA L i++[L.take (i+1),L.drop (L.length-(i+1))]:=by unfold rA;rw[uH,List.flatMap_append,List.flatMap_singleton]
theorem Cu (L:mN):∀i,(rA L i).length=2*i
 | 0=>rfl
 | i+1=>by rw[IJ,nN,Cu L i];simp;lia
def Fp:w∈rA L i↔∃k,1<=k/\k<=i/\(w=L.take k\/w=L.drop (L.length-k)):=by
 unfold rA;rw[wT];constructor
 .rintro⟨k,hk,h⟩;have hk:=oU.mp hk;simp only[ot,u6,or_false]at h;exact⟨k+1,∅,∅,h⟩
 .rintro⟨k,h1,h2,h⟩;refine⟨k-1,oU.mpr ∅,?_⟩;have e:k-1+1=k:=by lia
  rw[e];simpa using h
def HS (h:ib H zs rs){i:Nat}(hi:i<zs.length):∃t u,zs.getD i .non=.ref t/\H t=some (.tup [tx ((rs.map (·.1)).getD i []),u]):=by obtain⟨r,hr,t,b,e,h1,_⟩:=h.2 i zs[i] (om hi);refine⟨t,.ref b,by rw[pM,om hi];exact e,?_⟩;rw[h1,pM,pA,hr];rfl
def Jh {rs:List (mN×JR)}{n:Nat}(h:n=rs.length):((List.range n).filter λ_=>true).map (λi=>tx ((rs.map (·.1)).getD i []))=(rs.map (·.1)).map tx:=by
 subst h;rw[wZ.mpr (λ_ _=>rfl)];apply uK {};intro i h1 h2;have hi:i<rs.length:=by simpa using h2
 simp[pM,om hi]
def Zhu {kvs:List (nH×V)}{k:nH}{v:V}(h:gp kvs k=some v):k∈kvs.map (·.1):=by
 unfold gp at h;obtain⟨p,hp,_⟩:=Bm.mp h;have e:p.1=k:=by simpa using List.find?_some hp
 rw[<-e];exact uR (List.mem_of_find?_eq_some hp)
def Zl0 (l:List (nH×V))(v:V)(h:k∈l.map (·.1)):(gv l k v).map (·.1)=l.map (·.1):=by
 unfold gv;have ha:(l.any λkv=>decide (kv.1=k))=true:=by obtain⟨p,hp,e⟩:=pK.mp h;exact vv.mpr ⟨p,hp,JI e⟩
 rw[mS ha,ql];refine t7 λp _=>?_;show (if p.1=k then (p.1,v) else p).1=p.1;split<;>rfl
structure DI (H:Hp)(s L rs:mN)(S:mN->Prop)(kvs:List (nH×V))(ws:mU):Prop where
 keys:kvs.map (·.1)=ws.map nO
 nd:ws.Nodup
 mem:∀w,w∈ws↔iP L w/\S w
 val:∀w∈ws,∃b,gp kvs (nO w)=some (.ref b)/\H b=some (.tup [tx rs,tx (iZ s w),.int (rK L (iZ s w):Nat)])
def DI.grow (h:DI H s L rs S kvs ws)(sm:∀b us,H b=some (.tup us)->H' b=some (.tup us))(hS:∀w,iP L w->(S w↔S' w)):DI H' s L rs S' kvs ws:=
 ⟨h.keys,h.nd,λw=>(h.mem w).trans ⟨λ⟨a,b⟩=>⟨a,(hS w a).mp b⟩,λ⟨a,b⟩=>⟨a,(hS w a).mpr b⟩⟩,λw hw=>let ⟨b,h1,h2⟩:=h.val w hw;⟨b,h1,sm _ _ h2⟩⟩
def DI.put (h:DI H s L rs S kvs ws)(mx:iP L x)(hb:H b=some (.tup [tx rs,tx (iZ s x),.int (rK L (iZ s x):Nat)])):
  ∃ws',DI H s L rs (λw=>S w\/w=x) (gv kvs (nO x) (.ref b)) ws':=by
 by_cases hx:x∈ws
 .refine⟨ws,?_,h.nd,λw=>?_,λw hw=>?_⟩
  .rw[Zl0,h.keys];rw[h.keys];exact uR hx
  .rw[h.mem];constructor
   .rintro⟨a,c⟩;exact⟨a,.inl c⟩
   .rintro⟨a,c | rfl⟩
    .exact⟨a,c⟩
    .exact(h.mem w).mp hx
  .rw[yV];by_cases e:w=x
   .subst e;exact⟨b,by rw[mS rfl],hb⟩
   .rw[mR (λz=>e (wK z))];exact h.val w hw
 .have hv:gp kvs (nO x)=none:=by
   cases e:gp kvs (nO x) with
   | none=>rfl
   | some v=>
    exfalso;have:=Zhu e;rw[h.keys]at this;obtain⟨y,hy,e2⟩:=pK.mp this;exact hx (wK e2▸hy)
  refine⟨ws++[x],?_,?_,λw=>?_,λw hw=>?_⟩
  .rw[DR _ hv,tD,h.keys,tD];rfl
  .rw[ut];refine⟨h.nd,{},λa ha c hc e=>?_⟩;rw[oN.mp hc]at e;exact hx (e▸ha)
  .rw[oV,oN,h.mem];constructor
   .rintro (⟨a,c⟩ | rfl)
    .exact⟨a,.inl c⟩
    .exact⟨mx,.inr rfl⟩
   .rintro⟨a,c | rfl⟩
    .exact .inl ⟨a,c⟩
    .exact .inr rfl
  .rw[yV];by_cases e:w=x
   .subst e;exact⟨b,by rw[mS rfl],hb⟩
   .rw[mR (λz=>e (wK z))];rcases oV.mp hw with z | z
    .exact h.val w z
    .exact JO (oN.mp z) e
def Zlb (T:gL H P pos q)(k:∀b o,H b=some o->b≠pd->H' b=some o)(h:H pd=some o0)(t:uq o0=false)(x:BD o0=false):gL H' P pos q:=by obtain⟨ps,e,tr,hc⟩:=T;refine⟨ps,k _ _ e (λz=>by rw[z,h]at e;cases e;cases t),tr,hc.imp id ?_⟩;rintro⟨c,e1,e2⟩;exact⟨c,e1,k _ _ e2 (λz=>by rw[z,h]at e2;unfold vh at e2;cases e2;cases x)⟩
def zp (rs s L m:mN):(vz rs s L m).map (·.1)=iJ s L m:=by unfold vz;rw[ql];exact List.map_id' _
def yG (rs s L m:mN):(vL rs s L m).map (·.1)=jI s L m:=by unfold vL;rw[ql];exact List.map_id' _
def yw (hm:m.length<=4)(hl:l.length<=40):(nR l m).length<=6724:=Il hm hl ∅
def IG 
  (hp:gj C H p la da l m ds) (c3:pC [da] H H3) (d3:H3 da=some (.lst ts2)) (e3:g9 H3 ts2 ds2) (ch:pC [p] H3 H4) (f4:vI C H4 p la2 da l2 m) (l4:H4 la2=some (.lst ((nR l2 m).map tx))) (an:jC H3 H4 t c g la2 rc rg) (run:uo m ds2 l2):
  pC [p,da] H H4/\gj C H4 p la2 da l2 m ds2/\jC H H4 t c g la2 rc rg:=by
 obtain⟨⟨dx,f⟩,hk,⟨ts,d1,d2⟩,_,ok,nld⟩:=id hp;have npd:p≠da:=λz=>by rw[z,d1]at f;cases f
 have f3:=c3 _ _ f (~~~npd) rfl;have nw:∀r,Nw H3 r->Nw H r:=λr n=>n.chg c3 λb hb=>by obtain rfl:=oN.mp hb;exact⟨_,d3,rfl⟩
 refine⟨(c3.mono {}).trans (ch.mono {}),⟨f4,l4,⟨ts2,ch _ _ d3 (~~~nX npd) rfl,e3.chg ch λb hb us z=>by rw[oN.mp hb,f3]at z;cases z⟩,run,ok,nX (an.nl.ne d3 rfl)⟩,⟨an.tup,an.came,an.went,nw _ an.nc,nw _ an.ng,nw _ an.nl,an.ncg,an.ncl,an.ngl⟩⟩
noncomputable def Eo (x:Str):Bool:=!decide (x="own_text")&&!decide (x="own_kinds")&&!decide (x="own_lacking")&&!decide (x="own_deeds")
def sN (h:Eo x=true:=by decide +kernel):(sF l m la da).lookup x=none:=by unfold Eo at h;simp only[oJ,Bool.not_eq_true',JL]at h;exact Zrf h.1.1.1 h.1.1.2 h.1.2 h.2
structure gH (l m:mN):Prop where
 k:rD m=true
 m1:1<=m.length
 m4:m.length<=4
 l1:1<=l.length
 l20:l.length<=20
 mem:∀x∈l,x∈m
def gH.root (h:gH l m):gH (iE l) m:=⟨h.k,h.m1,h.m4,by rw[DP h.l1];exact(zj h.l1).1,by rw[DP h.l1];exact og (zj h.l1).2.1 h.l20,λx hx=>h.mem x (Zlq hx)⟩
def TT (a:Ad)(H:Hp):Prop:=gL H a.t_LE lpos lq/\True
def TT.same (t:TT a H)(s:fT H H'):TT a H':=⟨t.1.same s,trivial⟩
def TT.upd (t:TT a H)(h:H b=some o)(n1:uq o=false)(n2:BD o=false):TT a (upd H b o'):=⟨t.1.upd h n1 n2,trivial⟩
def Zm7 (T:TT a H)(k:∀b o,H b=some o->b≠pd->H' b=some o)(h:H pd=some o0)(t:uq o0=false)(x:BD o0=false):TT a H':=⟨Zlb T.1 k h t x,trivial⟩
def iV (a:Ad)(H:Hp)(p:AD)(l m:mN):Prop:=gD a.c_LW H p l m\/∃la da ds,gj a.c_LX H p la da l m ds
def iV.l {a:Ad}{H H':Hp}{p:AD}{l m:mN}(h:iV a H p l m)(s:gu H H'):iV a H' p l m:=by
 rcases h with⟨dx,h⟩|⟨la,da,ds,h⟩
 .exact .inl ⟨dx,s _ _ h rfl⟩
 .exact .inr ⟨la,da,ds,h.l s⟩
structure LsOk (xs:mU):Prop where
 srt:xs.Pairwise gU
 len:xs.length<=200
 w:∀w∈xs,1<=w.length/\w.length<=41
def mi (ok:gy l m):LsOk (nR l m):=by
 refine⟨tJ (B1 ok.k),og (Zi3 (B1 ok.k)) (og (uB ok.m4 (Nat.succ_le_succ ok.l40)) ⋯),λw hw=>?_⟩;have ms:=(qG.mp hw).1;have h1:=ms.tail.len;rw[v0]at h1;have h2:=tj.mpr ms.ne;have:=ok.l40
 lia
def Jd {C T:AD->Hp->Prop}{R:Prop}(h1:(∀r H,C r H->T r H)->R)(h2:∀r H,C r H->T r H):R:=h1 h2
def Zn7 (h:gH l m):qU l m 20=true:=by have h2:=h.l20;unfold qU;rw[oJ,JH,sE];exact⟨∅,λx hx=>by simpa using h.mem x hx⟩
def HI (l:mN)(n:Nat):(re l n).length<=l.length:=by unfold re;rw[(sB _).length_eq];refine og (C1 _) ?_;unfold zN;rw[m6,rm];exact nD _
def Zi5 (hm:m.length<=4)(hl:l.length<=20):(tV l m i).length<=i*80:=by have h1:∀k,(rC (re l k) (re l (k+1)) m).length<=80:=λk=>og (BU _ _ _) (og (uB (HI l k) hm) ∅);have h2:=zF (f:=λk=>rC (re l k) (re l (k+1)) m) h1 (List.range i);rw[rm]at h2;exact h2
def Fa (h:∀b:Bool,(b=true↔x=y)->Q (.bl b) H):iz K false (tx x) (tx y) H Q:=.inl ⟨rfl,by rw[mR nU];refine h _ ?_;rw[JH,yZ]⟩
def vE (a:Ad)(H:Hp)(p:AD)(l m:mN)(W:Nat->mU)(N M:Nat):Prop:=(gD a.c_LW H p l m/\gy l m/\W=gf l/\N=l.length+1/\M=l.length+1)\/(gD a.c_L9 H p l m/\gH l m/\W=re l/\N=pT l/\M=41)
def vR (W:Nat->mU)(m:mN)(n:Nat):mU:=(List.range n).flatMap λk=>rC (W k) (W (k+1)) m
def vE.same (h:vE a H p l m W N M)(s:fT H H'):vE a H' p l m W N M:=h.imp (λz=>⟨z.1.same s,z.2⟩) λz=>⟨z.1.same s,z.2⟩
def CZ {a:Ad} {H:Hp} {p:AD} {l m:mN} {W:Nat->mU} {N M:Nat} {x:Str} {R1 R2:Prop} (h:vE a H p l m W N M) (n1:¬x="own_text") (n2:¬x="own_kinds") (r1:gD a.c_LW H p l m->gy l m->N=l.length+1->R1) (r2:gD a.c_L9 H p l m->gH l m->N=pT l->R2):
  (∃(a_1 dx:AD) (fs:List (Str×V)),V.ref p=V.ref a_1/\H a_1=some (HO.ins a.c_LW dx fs)/\fs.lookup x=none/\R1)\/∃(a_1 dx:AD) (fs:List (Str×V)),V.ref p=V.ref a_1/\H a_1=some (HO.ins a.c_L9 dx fs)/\fs.lookup x=none/\R2:=by
 rcases h with⟨⟨dx,f⟩,ok,_,e,_⟩|⟨⟨dx,f⟩,ok,_,e,_⟩
 .exact .inl ⟨p,dx,_,rfl,f,tR n1 n2,r1 ⟨dx,f⟩ ok e⟩
 .exact .inr ⟨p,dx,_,rfl,f,tR n1 n2,r2 ⟨dx,f⟩ ok e⟩
def BU (sh st:mU)(m:mN):(rC sh st m).length<=sh.length*m.length:=by
 have g:∀ls:mU,(ls.flatMap (tM sh st m)).length<=ls.length*m.length:=λls=>by
  induction ls with
  | nil=>simp
  | cons h ls ih=>
   rw[List.flatMap_cons,nN,qK,Nat.succ_mul];have:=DV sh st m h
   lia
 exact g sh
def CF (W:Nat->mU)(m:mN)(i:Nat):vR W m (i+1)=vR W m i++rC (W i) (W (i+1)) m:=by unfold vR;rw[uH,List.flatMap_append,List.flatMap_singleton]
def vE.bd (h:vE a H p l m W N M):N<=41/\N<=M/\m.length<=4/\∀k,k<=N->(W k).length<=41/\∀w∈W k,w.length<=100:=by
 rcases h with⟨_,ok,rfl,rfl,rfl⟩|⟨_,ok,rfl,rfl,rfl⟩
 .have l40:=ok.l40;exact⟨∅,nD _,ok.m4,λk hk=>⟨by have:=Jy l k;lia,λw hw=>by have:=(sU (l:=l) ∅).mp hw;lia⟩⟩
 .have l20:=ok.l20;have r2:=(Cf ok.l1).2.1;exact⟨∅,∅,ok.m4,λk hk=>⟨by have:=HI l k;lia,λw hw=>by have:=((vg ok.l1).mp hw).1;lia⟩⟩
theorem Go {W:Nat->mU}{m:mN}{N:Nat}(hm:m.length<=4)(h:∀k,k<=N->(W k).length<=41):∀i,i<=N->(vR W m i).length<=i*164
 | 0,_=>by simp[vR]
 | i+1,hi=>by
  have ih:=Go hm h i ∅;have h1:=BU (W i) (W (i+1)) m;have h2:(W i).length*m.length<=41*4:=uB (h i ∅) hm;rw[CF,nN]
  lia
def ZiB {C T:Nat->Prop}{R:Prop}(h1:(∀n,C n->T n)->R)(h2:∀n,C n->T n):R:=h1 h2
def seqT (C:α->Prop)(U2:α->St)(h1:∀T:TS,(∀x,C x->T D (U2 x) H)->jc s T D U H)(h2:∀x,C x->t D (U2 x) H):jc s (uA t) D U H:=h1 _ λx c=>qy (h2 x c)
def Zpz (s:fT H H2)(n:H2 r=none):H r=none:=by
 cases e:H r with
 | none=>rfl
 | some o=>rw[s _ _ e]at n;cases n
def ZnT (np:H p=none)(nd:H dx=none)(n:upd (upd H dx o) p o2 r=none):H r=none:=Zpz (gh (pX nd) np) n
def seqI (C:St->Hp->Prop)(h1:∀T:TS,(∀U2 H2,C U2 H2->T D U2 H2)->jc s T D U H)(h2:∀U2 H2,C U2 H2->t D U2 H2):jc s (uA t) D U H:=h1 _ λ_ _ c=>qy (h2 _ _ c)
def xi (m:mN)(q:AD):List (Str×V):=gs "own_rooms" (.ref q) (gs "own_kinds" (tx m) [])
def krm:¬(("own_kinds":Str)="own_rooms"):=by decide +kernel
def CG:(xi m q).lookup ("own_kinds":Str)=some (tx m):=by unfold xi;rw[pY,mR krm,pY,mS rfl]
def Gg:(xi m q).lookup ("own_rooms":Str)=some (.ref q):=by unfold xi;rw[pY,mS rfl]
def u8 {m:mN} {q:AD} {x:Str} (h1:¬x="own_rooms") (h2:¬x="own_kinds"):(xi m q).lookup x=none:=by unfold xi;rw[pY,mR h1,pY,mR h2];rfl
def gJ (C:AD)(H:Hp)(p:AD)(l m:mN)(sp:mU):Prop:=∃(dx q:AD) (ys:JR),H p=some (.ins C dx (xi m q))/\H q=some (.lst ys)/\gY H l m sp ys
def gJ.same (r:gJ C H p l m sp)(s:fT H H'):gJ C H' p l m sp:=by obtain⟨dx,q,ys,h1,h2,h3⟩:=r;exact⟨dx,q,ys,s _ _ h1,s _ _ h2,h3.same s⟩
def Zr6 (l:mN)(sp:mU)(w:mN)(v:V):Prop:=(¬mZ w l/\v=.non)\/(mZ w l/\∃j:Nat,sp[j]?=some (oB l w)/\v=.int (j:Int))
def Fx (l:mN)(kvs:List (nH×V)):Prop:=(∀kv∈kvs,∃x:mN,kv.1=nO x/\mZ x l)/\∀x:mN,(gp kvs (nO x)).isSome=hG x l
def gY.upd (h:gY H l m sp ys)(hp:H p=some (.ins C dx fs)):gY (upd H p o) l m sp ys:=by
 refine⟨h.first,h.len,h.nd,λi y e=>?_⟩;obtain⟨t,d,w,kvs,e1,h1,h2,r⟩:=h.rooms i y e;refine⟨t,d,w,kvs,e1,?_,?_,r⟩
 .rw[mT (λz=>by rw[z,hp]at h1;cases h1)];exact h1
 .have nz:d≠p:=λz=>by
   rcases h2 with h2 | ⟨o,h2⟩
   .rw[z,hp]at h2;cases h2
   .rw[z,hp]at h2;cases h2
  rcases h2 with h2 | ⟨o,h2⟩
  .exact .inl (by rw[mT nz];exact h2)
  .exact .inr ⟨o,by rw[mT nz];exact h2⟩
def gJ.freeze (r:gJ C H p l m sp)(hq:H pq=some (.dK kvs)):gJ C (upd H pq (.frz o (.dK kvs))) p l m sp:=by
 obtain⟨dx,q,ys,h1,h2,h3⟩:=r;refine⟨dx,q,ys,by rw[mT (λz=>by rw[z,hq]at h1;cases h1)];exact h1,by rw[mT (λz=>by rw[z,hq]at h2;cases h2)];exact h2,h3.first,h3.len,h3.nd,λi y e=>?_⟩;obtain⟨t,d,w,kvs',e1,a1,a2,r⟩:=h3.rooms i y e;refine⟨t,d,w,kvs',e1,by rw[mT (λz=>by rw[z,hq]at a1;cases a1)];exact a1,?_,r⟩;by_cases ed:d=pq
 .rcases a2 with a2 | ⟨o',a2⟩
  .rw[ed,hq]at a2;cases a2;exact .inr ⟨o,by rw[ed];exact nu⟩
  .rw[ed,hq]at a2;cases a2
 .rcases a2 with a2 | ⟨o',a2⟩
  .exact .inl (by rw[mT ed];exact a2)
  .exact .inr ⟨o',by rw[mT ed];exact a2⟩
def Zjb (hi:i<=l.length)(h:(r=-1/\¬mZ (l.drop i) l)\/∃k:Nat,r=(k:Int)/\oq l (l.drop i) k/\∀j,j<k->¬oq l (l.drop i) j):decide (V.int r=V.int (i:Nat))=decide (∀j,j<i->¬oq l (l.drop i) j):=by
 have hA:oq l (l.drop i) i:=by refine⟨by rw[pO];lia,?_⟩;rw[rH]
 rw[qv,JH,JH];rcases h with⟨_,h⟩|⟨k,rfl,hk,hmin⟩
 .exact JO ⟨i,hA⟩ h
 .constructor
  .intro e;injection e with e;have:k=i:=by lia
   subst this;exact hmin
  .intro h2;have h3:¬k<i:=λz=>h2 k z hk;have h4:¬i<k:=λz=>hmin i z hA;have:k=i:=by lia
   rw[this]
def cut1 {l:mN}{s c:Nat}:decide (tx (oR l (some (s:Int)) (some ((s:Int)+1)))=tx [c])=decide (l[s]?=some c):=by
 have e:((s:Int)+1)=((s+1:Nat):Int):=by lia
 rw[u4,e,x6];have e2:s+1-s=1:=by lia
 rw[e2,qv,JH,JH];by_cases h:s<l.length
 .rw[om h];have e3:(l.drop s).take 1=[l[s]]:=by rw[List.take_one,List.head?_drop,om h];rfl
  rw[e3];constructor
  .intro z;injection z with z _;rw[z]
  .intro z;injection z with z;rw[z]
 .rw[qN ∅,vW ∅];simp
def ZeJ (S:mN)(p:Nat->Bool)(f:Nat->Nat):((List.range S.length).filter λi=>p (S.getD i 0)).map (λi=>V.int ((f (S.getD i 0):Nat):Int))=(((S.filter p).map f).map λ(i:Nat)=>V.int i):=by rw[<-zo p 0 S,ql,ql];rfl
def yH (h:mZ w l)(k:Nat):mZ (w.take k) l:=by
 obtain⟨i,h1,h2⟩:=h;have hl:(w.take k).length<=w.length:=by rw[ou];lia
 refine⟨i,∅,?_⟩;have e:(l.drop i).take (w.take k).length=((l.drop i).take w.length).take (w.take k).length:=by rw[tz,rM hl]
 rw[e,h2,ou];by_cases c:k<=w.length
 .rw[rM c]
 .rw[Nat.min_eq_right ∅,rH,sA ∅]
def gA (s:mN):List nH:=s.map λ(i:Nat)=>(Sum.inl ((i:Nat):Int):nH)
def CU (s:mN):(gA s).map kV=s.map λ(i:Nat)=>V.int i:=by unfold gA;rw[ql];rfl
def HP (h:gA s=gA t):s=t:=by unfold gA at h;exact(List.map_inj_right (f:=λ(i:Nat)=>(Sum.inl ((i:Nat):Int):nH)) (λx y e=>by injection e with e;exact Int.ofNat.inj e)).mp h
def hW (sp:mU):List (List nH×V):=sp.zipIdx.map λp=>(gA p.1,V.int ((p.2:Nat):Int))
def Hu (sp:mU):(hW sp).length=sp.length:=by unfold hW;simp
def Je (h:s∉sp):gp (hW sp) (gA s)=none:=by
 unfold gp;have:(hW sp).find? (λkv=>decide (kv.1=gA s))=none:=by rw[List.find?_eq_none];intro kv hkv;unfold hW at hkv;obtain⟨p,hp,rfl⟩:=pK.mp hkv;have h1:=List.fst_mem_of_mem_zipIdx hp;intro z;have z:gA p.1=gA s:=JK z;exact h (by rw[<-HP z];exact h1)
 first | (rw[this];rfl) | simp[this]
def Ig {sp:mU}{s:mN}{j:Nat}(nd:sp.Nodup)(h:sp[j]?=some s):gp (hW sp) (gA s)=some (.int (j:Int)):=by
 have hj:=(oM.mp h).1;have hs:(hW sp).find? (λkv=>decide (kv.1=gA s))=some (gA s,.int (j:Int)):=by
  rw[List.find?_eq_some_iff_getElem];refine⟨{},j,by rw[Hu];exact hj,?_,λk hk=>?_⟩
  .unfold hW;rw[List.getElem_map,List.getElem_zipIdx];have:=(oM.mp h).2;simp[this]
  .unfold hW;rw[List.getElem_map,List.getElem_zipIdx];have hk':k<sp.length:=by lia
   simp only[Bool.not_eq_true',JL];intro z;have:=HP z;exact JO (yu nd (om hk') (by rw[this];exact h)) ∅
 unfold gp
 first | (rw[hs];rfl) | simp[hs]
def Zka (h:s∉sp):gv (hW sp) (gA s) (.int (sp.length:Int))=hW (sp++[s]):=by rw[DR _ (Je h)];unfold hW;rw[List.zipIdx_append,tD];simp
structure im (H:Hp)(ps pw pn:AD)(l:mN)(sp ws:mU)(ts:List AD):Prop where
 hs:H ps=some (.lst (ts.map V.ref))
 hw:H pw=some (.lst (ws.map tx))
 hn:H pn=some (.dT (hW sp))
 tl:ts.length=sp.length
 tt:∀(i:Nat) (t:AD) (s:mN),ts[i]?=some t->sp[i]?=some s->H t=some (.tup (s.map λ(i:Nat)=>V.int i))
 wl:ws.length=sp.length
 wt:∀(i:Nat) (w s:mN),ws[i]?=some w->sp[i]?=some s->s=oB l w/\mZ w l
 nd:sp.Nodup
 f0:sp[0]?=some (qI l)
def im.same (r:im H ps pw pn l sp ws ts)(s:fT H H'):im H' ps pw pn l sp ws ts:=
 ⟨s _ _ r.hs,s _ _ r.hw,s _ _ r.hn,r.tl,λi t u a b=>s _ _ (r.tt i t u a b),r.wl,r.wt,r.nd,r.f0⟩
def im.other (r:im H ps pw pn l sp ws ts)(h:H a=some o0)(hne:∀xs,o0≠.tup xs)(n1:ps≠a)(n2:pw≠a)(n3:pn≠a):im (upd H a o) ps pw pn l sp ws ts:=by refine⟨by rw[mT n1];exact r.hs,by rw[mT n2];exact r.hw,by rw[mT n3];exact r.hn,r.tl,λi t u x y=>?_,r.wl,r.wt,r.nd,r.f0⟩;have:=r.tt i t u x y;rw[mT (λz=>by rw[z,h]at this;exact hne _ (Option.some.inj this))];exact this
def im.push (r:im H ps pw pn l sp ws ts)(n1:ps≠pw)(n2:ps≠pn)(n3:pw≠pn)(hb:H tb=some (.tup (s.map λ(i:Nat)=>V.int i)))(hs:s∉sp)(e:s=oB l w)(hI:mZ w l):
  im (upd (upd (upd H pn (.dT (gv (hW sp) (gA s) (.int (sp.length:Int))))) ps (.lst (ts.map V.ref++[.ref tb]))) pw (.lst (ws.map tx++[tx w]))) ps pw pn l (sp++[s]) (ws++[w]) (ts++[tb]):=by
 have keep:∀t xs,H t=some (.tup xs)->upd (upd (upd H pn (.dT (gv (hW sp) (gA s) (.int (sp.length:Int))))) ps (.lst (ts.map V.ref++[.ref tb]))) pw (.lst (ws.map tx++[tx w])) t=some (.tup xs):=λt xs h=>by rw[mT (λz=>by rw[z,r.hw]at h;cases h),mT (λz=>by rw[z,r.hs]at h;cases h),mT (λz=>by rw[z,r.hn]at h;cases h)];exact h
 refine⟨?_,?_,?_,?_,?_,?_,?_,?_,?_⟩
 .rw[mT n1,nu];simp
 .rw[nu];simp
 .rw[mT (nX n3),mT (nX n2),nu,Zka hs]
 .rw[nN,nN,r.tl];rfl
 .intro i t u h1 h2;by_cases c:i<sp.length
  .rw[qT (by rw[r.tl];exact c)]at h1;rw[qT c]at h2;exact keep _ _ (r.tt i t u h1 h2)
  .have hi:i=sp.length:=by have:=(oM.mp h2).1;rw[nN,pZ]at this;lia
   subst hi;rw[sd ∅]at h2;rw[sd (by rw[r.tl];lia),r.tl]at h1;simp at h1 h2;rw[<-h1,<-h2];exact keep _ _ hb
 .rw[nN,nN,r.wl];rfl
 .intro i v u h1 h2;by_cases c:i<sp.length
  .rw[qT (by rw[r.wl];exact c)]at h1;rw[qT c]at h2;exact r.wt i v u h1 h2
  .have hi:i=sp.length:=by have:=(oM.mp h2).1;rw[nN,pZ]at this;lia
   subst hi;rw[sd ∅]at h2;rw[sd (by rw[r.wl];lia),r.wl]at h1;simp at h1 h2;rw[<-h1,<-h2];exact⟨e,hI⟩
 .rw[ut];exact⟨r.nd,{},λx hx y hy=>by rw[oN.mp hy];exact λz=>hs (by rw[<-z];exact hx)⟩
 .rw[qT (oM.mp r.f0).1];exact r.f0
def im.le (r:im H ps pw pn l sp ws ts)(hl:l.length<=40):sp.length<=1681:=by refine Jj r.nd (λs hs=>?_) hl;obtain⟨i,hi,rfl⟩:=List.mem_iff_getElem.mp hs;have hw:ws[i]?=some (ws[i]'(by rw[r.wl];exact hi)):=om _;obtain⟨a,b⟩:=r.wt i _ _ hw (om hi);exact⟨_,b,a⟩
def gO (H:Hp)(P:AD->Prop)(l m:mN)(sp:mU)(i:Nat)(y:V):Prop:=∃(t d:AD) (w:mN) (kvs:List (nH×V)),y=.ref t/\H t=some (.tup [tx w,.ref d])/\H d=some (.dK kvs)/\P d/\mZ w l/\w.length<=l.length/\sp[i]?=some (oB l w)/\∀c∈m,tQ l sp (oB l w) c (gp kvs (nO [c]))
def gO.same (h:gO H P l m sp i y)(s:fT H H'):gO H' P l m sp i y:=by obtain⟨t,d,w,kvs,e,h1,h2,r⟩:=h;exact⟨t,d,w,kvs,e,s _ _ h1,s _ _ h2,r⟩
def gO.mono (h:gO H P l m sp i y)(f:∀d kvs,H d=some (.dK kvs)->P d->P' d):gO H P' l m sp i y:=by obtain⟨t,d,w,kvs,e,h1,h2,hp,r⟩:=h;exact⟨t,d,w,kvs,e,h1,h2,f d kvs h2 hp,r⟩
def gO.other (r:gO H P l m sp i y)(h:H a=some o0)(hne:∀xs,o0≠.tup xs)(hd:∀d,P d->d≠a\/∀kvs,o0≠.dK kvs):gO (upd H a o) P l m sp i y:=by
 obtain⟨t,d,w,kvs,e,h1,h2,hp,r⟩:=r;refine⟨t,d,w,kvs,e,?_,?_,hp,r⟩
 .rw[mT (λz=>by rw[z,h]at h1;exact hne _ (Option.some.inj h1))];exact h1
 .rw[mT (λz=>?_)]
  .exact h2
  .rcases hd d hp with k | k
   .exact k z
   .rw[z,h]at h2;exact k _ (Option.some.inj h2)
def gO.more {H:Hp}{P:AD->Prop}{l m:mN}{sp more:mU}{i:Nat}{y:V}(r:gO H P l m sp i y):gO H P l m (sp++more) i y:=by obtain⟨t,d,w,kvs,e,h1,h2,hp,a,b,c,f⟩:=r;exact⟨t,d,w,kvs,e,h1,h2,hp,a,b,by rw[qT (oM.mp c).1];exact c,λx hx=>(f x hx).more⟩
def kTx1:nO [c]=nO [d]↔c=d:=⟨λe=>by unfold nO at e;injection e with e;injection e with e;injection e with e;injection e,λe=>by rw[e]⟩
def Zn9 (h:s<=e)(he:e<=l.length):mZ ((l.drop s).take (e-s)) l:=by
 refine⟨s,?_,?_⟩
 .rw[ou,pO];lia
 .rw[ou,pO,rM ∅]
def Zp6 (h:mZ x l):∃s e,s<=e/\e<=l.length/\x=(l.drop s).take (e-s):=by obtain⟨i,h1,h2⟩:=h;exact⟨i,i+x.length,∅,h1,by rw[show i+x.length-i=x.length by lia];exact h2.symm⟩
def wK (e:nO x=nO y):x=y:=by unfold nO at e;injection e with e;injection e with e;injection e
def iC (l:mN)(kvs:List (nH×V)):Prop:=∀kv∈kvs,∃x:mN,kv.1=nO x/\mZ x l
def iC.put (h:iC l kvs)(hx:mZ x l):iC l (gv kvs (nO x) v):=by
 intro kv hkv;unfold gv at hkv;split at hkv
 .obtain⟨k0,h0,rfl⟩:=pK.mp hkv;obtain⟨y,e,hy⟩:=h k0 h0;refine⟨y,?_,hy⟩;show (if k0.1=nO x then (k0.1,v) else k0).1=nO y;split<;>exact e
 .rcases oV.mp hkv with h1 | h1
  .exact h kv h1
  .rw[oN.mp h1];exact⟨x,rfl,hx⟩
def zc {kvs:List (nH×V)}{k k':nH}{v:V}(h:(gp kvs k').isSome=true\/k'=k):(gp (gv kvs k v) k').isSome=true:=by
 rw[yV];split
 .rfl
 .rcases h with h | h
  .exact h
  .exact JO h (by assumption)
def ZlZ (h1:iC l kvs)(h0:(gp kvs (nO [])).isSome=true)(h2:∀s e,s<l.length->s<=e->e<=l.length->(gp kvs (nO ((l.drop s).take (e-s)))).isSome=true):Fx l kvs:=by
 refine⟨h1,λx=>?_⟩;rw[qv,tP];constructor
 .intro h;obtain⟨v,hv⟩:=B8.mp h;obtain⟨kv,hk,ek⟩:=pK.mp (Jc hv);obtain⟨y,ey,hy⟩:=h1 kv hk;rw[<-wK (ek.symm.trans ey)]at hy;exact hy
 .intro h;obtain⟨s,e,a,b,rfl⟩:=Zp6 h;by_cases c:s<l.length
  .exact h2 s e c a b
  .have:(l.drop s).take (e-s)=[]:=by rw[vW ∅];simp
   rw[this];exact h0
def ZpC (o:Option Nat):decide (nV o=V.non)=o.isNone:=by
 cases o with
 | none=>exact JI rfl
 | some j=>exact JJ λz=>by cases z
def muAt (n:Nat)(U:St):Nat:=match U[n]? with
 | some (some (.int z))=>1682-z.toNat
 | _=>0
def Zp2 (h:rD m=true):m.Nodup:=(Zp0 h).2.2.imp λ{a b} hab e=>by lia
def Zqx (h:ic l sp W js)(ns:sp.Nodup):(gp (CD l sp W js) (gM j)).getD (.int 0)=.int (((pN l sp W j).length:Nat):Int):=by
 by_cases hj:j∈js
 .rw[DJ hj];rfl
 .rw[DL hj];have:pN l sp W j=[]:=by unfold pN;rw[List.filter_eq_nil_iff];intro w hw z;obtain⟨i,hi,e⟩:=h.cov w hw;exact hj (by rw[yu ns (JK z) e];exact hi)
  rw[this];rfl
def iI.len (h:iI l k T)(hl:l.length<=40):T.length<=1681:=by
 have:=xy T (xZ l) h.1 λw hw=>Gi ((h.2 w).mp hw).2;rw[Jp]at this;have:(l.length+1)*(l.length+1)<=41*41:=uB ∅ ∅
 lia
def KL (kvs:List (nH×V))(ls:mU):Prop:=kvs.map (·.1)=ls.map nO/\ls.Nodup
def KL.put (h:KL kvs ls):∃ls',KL (gv kvs (nO x) v) ls':=by
 refine⟨gX ls x,ZjS h.1,?_⟩;unfold gX;by_cases c:x∈ls
 .rw[mS c];exact h.2
 .rw[mR c,ut];refine⟨h.2,{},λa ha b hb=>?_⟩;rw[oN.mp hb];exact λz=>c (z▸ha)
def KL.len (h:KL kvs ls)(k:Fx l kvs):kvs.length=(jq l).length:=by
 have e:kvs.length=ls.length:=by have:=JN List.length h.1;simpa using this
 rw[e];refine F6 h.2 (GE l) λx=>?_;rw[Fk];constructor
 .intro hx;have:nO x∈kvs.map (·.1):=by rw[h.1];exact uR hx
  obtain⟨kv,hk,ek⟩:=pK.mp this;obtain⟨y,ey,hy⟩:=k.1 kv hk;rw[wK (ek.symm.trans ey)];exact hy
 .intro hI;have:=k.2 x;rw[tP.mpr hI]at this;obtain⟨v,hv⟩:=B8.mp this;have:=Jc hv;rw[h.1]at this;obtain⟨y,hy,ey⟩:=pK.mp this;rw[<-wK ey];exact hy
def B3 (a:Ad)(H:Hp)(p:AD)(l m:mN)(lo:Nat->mN)(lk:mU):Prop:=(iV a H p l m/\gy l m/\lo=(λ_=>l)/\lk=nR l m)\/(gD a.c_L9 H p l m/\gH l m/\lo=gC l/\lk=tV l m (pT l))
def jg (H:Hp)(v:V)(o:Option Nat)(f:Option (mN×Int)):Prop:=∃t xs,v=.ref t/\H t=some (.tup xs)/\((∃i:Nat,o=some i/\xs=[tx [116,104,101,114,101],.int (i:Nat)])\/(o=none/\∃(x:mN) (s:Int),f=some (x,s)/\xs=[tx [108,97,99,107,115],tx x,.int s]))
def jg.one (h1:jg H u o f)(h2:jg H v o f):JG H u v:=by
 obtain⟨t,xs,rfl,ht,h⟩:=h1;obtain⟨t2,ys,rfl,ht2,h2⟩:=h2;have e:xs=ys/\xs.length<=3/\∀v∈xs,(∃l,v=tx l)\/∃i,v=.int i:=by
  rcases h with⟨i,rfl,rfl⟩|⟨rfl,x,k,rfl,rfl⟩<;>rcases h2 with⟨j,e,rfl⟩|⟨e,y,k2,e2,rfl⟩
  .cases e;exact⟨rfl,by show 2<=3;decide,λv hv=>by
    simp only[ot,u6,or_false]at hv;rcases hv with rfl | rfl
    .exact .inl ⟨_,rfl⟩
    .exact .inr ⟨_,rfl⟩⟩
  .cases e
  .cases e
  .cases e2;exact⟨rfl,by show 3<=3;decide,λv hv=>by
    simp only[ot,u6,or_false]at hv;rcases hv with rfl | rfl | rfl
    .exact .inl ⟨_,rfl⟩
    .exact .inl ⟨_,rfl⟩
    .exact .inr ⟨_,rfl⟩⟩
 obtain⟨rfl,e2,e3⟩:=e;exact .inr ⟨t,t2,xs,rfl,rfl,ht,ht2,∅,e3⟩
def jg.same (h:jg H v o f)(s:fT H H2):jg H2 v o f:=let ⟨t,xs,e,ht,r⟩:=h;⟨t,xs,e,s _ _ ht,r⟩
def BW:k∈gc l w↔oq l w k:=by
 unfold gc;rw[qr,oU,JH];constructor
 .rintro⟨a,b⟩;exact⟨∅,b⟩
 .rintro⟨a,b⟩;exact⟨∅,b⟩
def EG (h:gc l w=[]):¬mZ w l:=λ⟨i,hi⟩=>by have:=BW.mpr hi;rw[h]at this;cases this
def Cb (h:gc l w=i::r):oq l w i/\∀j,j<i->¬oq l w j:=by
 have srt:(gc l w).Pairwise (· < ·):=(List.pairwise_lt_range).filter _;refine⟨BW.mp (by rw[h];simp),λj hj aj=>?_⟩;have m:=BW.mpr aj;rw[h]at m srt;rcases ot.mp m with z | z
 .lia
 .have:=(tY.mp srt).1 j z
  lia
def ZpZ (hm:∀x∈w,x∈m)(hw:w.length<=60):qU w m 60=true:=by unfold qU;rw[oJ,JH,sE];exact⟨∅,λx hx=>by simpa using hm x hx⟩
def Zn1 (hl:l.length<=40)(h:w∈nR l m):w.length<=41:=by
 have:=(qG.mp h).1.init.len;rw[rZ]at this
 lia
def FP (h:¬mZ w l):(gc l w).head?=none:=by
 cases e:gc l w with
 | nil=>rfl
 | cons i r=>exact JO ⟨i,(Cb e).1⟩ h
def Hw (h:oq l w i)(n:∀j,j<i->¬oq l w j):(gc l w).head?=some i:=by
 cases e:gc l w with
 | nil=>exact JO ⟨i,h⟩ (EG e)
 | cons j r=>
  obtain⟨a,b⟩:=Cb e;rcases Nat.lt_trichotomy i j with z | z | z
  .exact JO h (b i z)
  .rw[z];rfl
  .exact JO a (n j z)
def Zou {a:Ad} {H:Hp} {p:AD} {l m:mN} {lo:Nat->mN} {lk:mU} {x:Str} {R:Prop} (h:B3 a H p l m lo lk) (n1:¬x="own_text") (n2:¬x="own_kinds") (n3:Eo x=true) (r:R):(∃(a_1 dx:AD) (fs:List (Str×V)),V.ref p=V.ref a_1/\H a_1=some (HO.ins a.c_LW dx fs)/\fs.lookup x=none/\R)\/(∃(a_1 dx:AD) (fs:List (Str×V)),V.ref p=V.ref a_1/\H a_1=some (HO.ins a.c_LX dx fs)/\fs.lookup x=none/\R)\/∃(a_1 dx:AD) (fs:List (Str×V)),V.ref p=V.ref a_1/\H a_1=some (HO.ins a.c_L9 dx fs)/\fs.lookup x=none/\R:=by
 rcases h with⟨⟨dx,f⟩|⟨la,da,ds,h⟩,_⟩|⟨⟨dx,f⟩,_⟩
 .exact .inl ⟨p,dx,_,rfl,f,tR n1 n2,r⟩
 .obtain⟨dx,f⟩:=h.fld;exact .inr (.inl ⟨p,dx,_,rfl,f,sN n3,r⟩)
 .exact .inr (.inr ⟨p,dx,_,rfl,f,tR n1 n2,r⟩)
def B3.l {a:Ad}{H H2:Hp}{p:AD}{l m:mN}{lo:Nat->mN}{lk:mU}(h:B3 a H p l m lo lk)(s:gu H H2):B3 a H2 p l m lo lk:=h.imp (λ⟨h,r⟩=>⟨h.l s,r⟩) λ⟨⟨dx,f⟩,r⟩=>⟨⟨dx,s _ _ f rfl⟩,r⟩
def ZlX (h1:1<=l.length):mZ w (gC l w.length)↔RI l w:=yT (i:=0) h1 (λj hj=>by rw[wp];exact EQ h1 hj) (by rw[wF h1];lia)
def B3.some {a:Ad}{H:Hp}{p:AD}{l m w:mN}{lo:Nat->mN}{lk:mU}(h:B3 a H p l m lo lk)(hm:∀x∈w,x∈m)(e:(gc (lo w.length) w).head?=none):∃x k,rS lk w=some (x,k):=by
 have no:¬mZ w (lo w.length):=λ⟨i,ai⟩=>by have:=BW.mpr ai;rw[List.head?_eq_none_iff.mp e]at this;cases this
 cases f:rS lk w with
 | some r=>exact⟨r.1,r.2,rfl⟩
 | none=>
  have fn:=Zja f;rcases h with⟨_,_,rfl,rfl⟩|⟨_,ok,rfl,rfl⟩
  .exact JO ((Zkl hm).mpr fn) no
  .exact JO ((ZlX ok.l1).mpr ((Zi4 ok.l1 hm).mpr fn)) no
def B3.bd {a:Ad}{H:Hp}{p:AD}{l m:mN}{lo:Nat->mN}{lk:mU}(h:B3 a H p l m lo lk):lk.length<=7000/\∀w∈lk,w.length<=100:=by
 rcases h with⟨_,ok,rfl,rfl⟩|⟨_,ok,rfl,rfl⟩
 .exact⟨og (mi ok).len ⋯,λw hw=>by have:=(mi ok).w w hw;lia⟩
 .have r:=Cf ok.l1;have:=ok.l20;exact⟨og (Zi5 ok.m4 ok.l20) ∅,λw hw=>by have:=((xQ ok.l1).mp hw).2.2;lia⟩
def zh (ws:uf l s 0)(hi:i+w.length<=s.length):(s.drop i).take w.length=w↔∀j,j<w.length->w[j]?=some (oQ l (i+j)):=by
 have at_:∀j,j<w.length->((s.drop i).take w.length)[j]?=some (oQ l (i+j)):=λj hj=>by rw[uZ,mS hj,tU,ws (i+j) ∅,wp]
 constructor
 .intro h j hj;have:=at_ j hj
  rwa [h]at this
 .intro h;apply ul;intro j;by_cases hj:j<w.length
  .rw[at_ j hj,h j hj]
  .rw[qN (by rw[ou];lia),qN ∅]
def Zk8 (h1:1<=l.length)(ws:uf l s 0)(wt:uf l t 0)(hs:l.length+w.length<=s.length+1)(ht:l.length+w.length<=t.length+1):(gc s w).head?=(gc t w).head?:=by
 cases e:gc s w with
 | nil=>rw[List.head?_nil,FP λz=>EG e ((yT h1 ws hs).mpr ((yT h1 wt ht).mp z))]
 | cons i r=>
  obtain⟨⟨a1,a2⟩,b⟩:=Cb e;have c:=(zh ws a1).mp a2;have hi:i<l.length:=by
   rcases Nat.lt_or_ge i l.length with z | z
   .exact z
   .exact JO ⟨∅,(zh ws ∅).mpr λj hj=>by rw[c j hj,show i+j=(i-l.length+j)+l.length by lia,Cc]⟩ (b (i-l.length) ∅)
  rw[List.head?_cons,Hw ⟨∅,(zh wt ∅).mpr c⟩ λj hj x=>b j hj ⟨∅,(zh ws ∅).mpr ((zh wt x.1).mp x.2)⟩]
def ZkF (hw:w.length<=k):rS (ls.filter λv=>decide (v.length<=k)) w=rS ls w:=by
 have h:∀e z,qM w e z∈ls.filter (λv=>decide (v.length<=k))↔qM w e z∈ls:=λe z=>by
  rw[qr,JH];refine⟨And.left,λx=>⟨x,?_⟩⟩;unfold qM;rw[ou,pO]
  lia
 unfold rS iR;simp only[h]
def Zlr (ok:gH l m)(hw:w.length<=60):(gc (gG l (((60:Nat):Int)/(l.length:Nat)+2)) w).head?=(gc (gC l w.length) w).head?/\rS (nR (gG l (((60:Nat):Int)/(l.length:Nat)+2)) m) w=rS (tV l m (pT l)) w:=by
 have g:=EF (n:=60) ok.l1;have l20:=ok.l20;have r:=(Cf ok.l1).2.1;have wl:uf l (gG l (((60:Nat):Int)/(l.length:Nat)+2)) 0:=λj hj=>by rw[wp];exact Hc hj
 refine⟨Zk8 ok.l1 wl (λj hj=>by rw[wp];exact EQ ok.l1 hj) ∅ (by rw[wF ok.l1];lia),?_⟩;rw[<-ZkF hw,Zk7 ok.l1 (B1 ok.k) wl ∅ ∅]
def Zl5 (l:mN):(gG l (((60:Nat):Int)/(l.length:Nat)+2)).length<=60+2*l.length:=by
 rw[Ey,xO,Nat.add_mul];have:=Nat.div_mul_le_self 60 l.length
 lia
theorem jb {P:mN->Prop}:∀ {ys:JR},(∀y∈ys,∃w,y=tx w/\P w)->∃ws:mU,ys=ws.map tx/\∀w∈ws,P w
 | [],_=>⟨[],rfl,λ_ h=>by cases h⟩
 | y::ys,h=>by
  obtain⟨w,rfl,hw⟩:=h y pW;obtain⟨ws,rfl,hws⟩:=jb (ys:=ys) λz hz=>h z (pP _ hz);refine⟨w::ws,rfl,λx hx=>?_⟩;rcases ot.mp hx with rfl | hx
  .exact hw
  .exact hws x hx
inductive sp_LD (K:Q4)(a:Ad)(vs:JR)(H:Hp)(Q:VK)(E:XK):Prop|mk(l m)(_:vs=[tx l,tx m])(_:l.length<=1000)(_:∀H2,fT H H2->Q (.bl (l.all λc=>m.contains c)) H2)
inductive sp_LF (K:Q4)(a:Ad)(vs:JR)(H:Hp)(Q:VK)(E:XK):Prop|mk(l)(_:vs=[tx l])(_:l.length<=1000)(_:∀H2,fT H H2->Q (.bl (rD l)) H2)
inductive sp_LK (K:Q4)(a:Ad)(vs:JR)(H:Hp)(Q:VK)(E:XK):Prop|mk(v m most)(_:vs=[v,tx m,.int most])(_:((∃l,v=tx l/\l.length<=1000/\∀H2,fT H H2->Q (.bl (qU l m most)) H2)\/(vV K H v/\Q (.bl false) H)))
inductive sp_K3 (K:Q4)(a:Ad)(vs:JR)(H:Hp)(Q:VK)(E:XK):Prop|mk(l)(_:vs=[tx l])(_:l.length<=1000)(_:rD l=true)(_:∀H2,fT H H2->Q .non H2)
inductive sp_LU (K:Q4)(a:Ad)(vs:JR)(H:Hp)(Q:VK)(E:XK):Prop|mk(l:mN)(n:Nat)(_:vs=[tx l,.int n])(_:l.length<=200)(_:n<=l.length+1)(_:l.length<n+63)(_:∀p H2,fT H H2->H p=none->H2 p=some (.lst ((gf l n).map tx))->Q (.ref p) H2)
inductive sp_LY (K:Q4)(a:Ad)(vs:JR)(H:Hp)(Q:VK)(E:XK):Prop|mk(b1 b2:AD)(sh st:mU)(m:mN)(_:vs=[.ref b1,.ref b2,tx m])(_:H b1=some (.lst (sh.map tx)))(_:H b2=some (.lst (st.map tx)))(_:sh.length<=100)(_:m.length<=4)(_:(∀w∈sh,w.length<=100))(_:∀p H2,fT H H2->H p=none->H2 p=some (.lst ((rC sh st m).map tx))->Q (.ref p) H2)
inductive sp_KU (K:Q4)(a:Ad)(vs:JR)(H:Hp)(Q:VK)(E:XK):Prop|mk(p:AD)(l m:mN)(_:vs=[.ref p])(_:gD a.c_LW H p l m)(_:gy l m)(_:Q (.int ((l.length:Nat)+1)) H)
inductive sp_LE (K:Q4)(a:Ad)(vs:JR)(H:Hp)(Q:VK)(E:XK):Prop|mk(p:AD)(ws:mU)(_:vs=[.ref p])(_:H p=some (.lst (ws.map tx)))(_:(∀w∈ws,w.length<=1000))(_:TT a H)(_:∀(ws':mU) (r:AD) (H2:Hp),ws'.Perm ws->ws'.Pairwise (λa b=>¬gU b a)->gu H H2->TT a H2->H r=none->H2 r=some (.lst (ws'.map tx))->Q (.ref r) H2)
inductive sp_L0 (K:Q4)(a:Ad)(vs:JR)(H:Hp)(Q:VK)(E:XK):Prop|mk(l x:mN)(_:vs=[tx l,tx x])(_:l.length<=1000)(_:x.length<=1000)(_:Q (.bl (zw l x)) H)
inductive sp_LZ (K:Q4)(a:Ad)(vs:JR)(H:Hp)(Q:VK)(E:XK):Prop|mk(s L:mN)(_:vs=[tx s,tx L])(_:L.length<=41)(_:qX s L)(_:TT a H)(_:∀(F:mU) (r:AD) (H2:Hp),F.Pairwise gU->(∀w,w∈F↔qp s L w)->gu H H2->TT a H2->Nw H r->H2 r=some (.lst (F.map tx))->Q (.ref r) H2)
inductive sp_LP (K:Q4)(a:Ad)(vs:JR)(H:Hp)(Q:VK)(E:XK):Prop|mk(s L rs m:mN)(_:vs=[tx s,tx L,tx rs])(_:L.length<=41)(_:qX s L)(_:(∀x∈L,x∈m))(_:m.Pairwise (· < ·))(_:TT a H)(_:∀(ys:JR) (r:AD) (H2:Hp),gu H H2->TT a H2->Nw H r->H2 r=some (.lst ys)->ib H2 ys (vL rs s L m)->Q (.ref r) H2)
inductive sp_LT (K:Q4)(a:Ad)(vs:JR)(H:Hp)(Q:VK)(E:XK):Prop|mk(s L rs m:mN)(_:vs=[tx s,tx L,tx m,tx rs])(_:L.length<=41)(_:qX s L)(_:(∀x∈L,x∈m))(_:m.Pairwise (· < ·))(_:m.length<=4)(_:TT a H)(_:∀(ys:JR) (r:AD) (H2:Hp),gu H H2->TT a H2->Nw H r->H2 r=some (.lst ys)->ib H2 ys (vz rs s L m)->Q (.ref r) H2)
inductive sp_KI (K:Q4)(a:Ad)(vs:JR)(H:Hp)(Q:VK)(E:XK):Prop|mk(p la da:AD)(l m:mN)(ds:List (Bool×Nat))(_:vs=[.ref p])(_:gj a.c_LX H p la da l m ds)(_:∀r,H r=none->Q (.ref r) (upd H r (.lst ((nR l m).map tx))))
inductive sp_KN (K:Q4)(a:Ad)(vs:JR)(H:Hp)(Q:VK)(E:XK):Prop|mk(p la da c g:AD)(l l2 m:mN)(old new:mU)(ys zs:JR)(rc rg:List (mN×JR))(_:vs=[.ref p,tx l2,.ref c,.ref g])(_:vI a.c_LX H p la da l m)(_:H la=some (.lst (old.map tx)))(_:H c=some (.lst ys))(_:ib H ys rc)(_:H g=some (.lst zs))(_:ib H zs rg)(_:old.Pairwise gU)(_:new.Pairwise gU)(_:(rc.map (·.1)).Nodup)(_:(∀w,w∈rc.map (·.1)↔w∈new/\w∉old))(_:(∀w,w∈rg.map (·.1)↔w∈old/\w∉new))(_:old.length<=9000)(_:rc.length<=9000)(_:rg.length<=9000)(_:(∀w∈old,w.length<=1000))(_:(∀w∈new,w.length<=1000))(_:TT a H)(_:∀(t la2:AD) (H2:Hp),pC [p] H H2->vI a.c_LX H2 p la2 da l2 m->Nw H la2->H2 la2=some (.lst (new.map tx))->H2 t=some (.tup [.ref c,.ref g])->TT a H2->Q (.ref t) H2)
inductive sp_K1 (K:Q4)(a:Ad)(vs:JR)(H:Hp)(Q:VK)(E:XK):Prop|mk(p la da:AD)(s L m:mN)(_:vs=[.ref p,tx L])(_:vI a.c_LX H p la da s m)(_:H la=some (.lst ((nR s m).map tx)))(_:L.length<=40)(_:qX s L)(_:(∀x∈L,x∈m))(_:iK m)(_:TT a H)(_:∀(t c g la2:AD) (H2:Hp),pC [p] H H2->vI a.c_LX H2 p la2 da L m->H2 la2=some (.lst ((nR L m).map tx))->jC H H2 t c g la2 (vz [102,105,114,115,116] s L m) (vL [115,116,97,110,100,115] s L m)->TT a H2->Q (.ref t) H2)
inductive sp_KO (K:Q4)(a:Ad)(vs:JR)(H:Hp)(Q:VK)(E:XK):Prop|mk(p la da:AD)(s L m:mN)(_:vs=[.ref p,tx s])(_:vI a.c_LX H p la da L m)(_:H la=some (.lst ((nR L m).map tx)))(_:L.length<=40)(_:qX s L)(_:(∀x∈L,x∈m))(_:iK m)(_:TT a H)(_:∀(t c g la2:AD) (H2:Hp),pC [p] H H2->vI a.c_LX H2 p la2 da s m->H2 la2=some (.lst ((nR s m).map tx))->jC H H2 t c g la2 (vL [115,116,111,111,100] s L m) (vz [108,97,115,116] s L m)->TT a H2->Q (.ref t) H2)
inductive sp_LA (K:Q4)(a:Ad)(vs:JR)(H:Hp)(Q:VK)(E:XK):Prop|mk(l m)(_:vs=[tx l,tx m])(_:l.length<=1000)(_:∀H2,fT H H2->Q (.bl (ye l m)) H2)
inductive sp_KT (K:Q4)(a:Ad)(vs:JR)(H:Hp)(Q:VK)(E:XK):Prop|mk(l m)(_:vs=[tx l,tx m])(_:l.length<=1000)(_:ye l m=true)(_:∀H2,fT H H2->Q .non H2)
inductive sp_K2 (K:Q4)(a:Ad)(vs:JR)(H:Hp)(Q:VK)(E:XK):Prop|mk(p dx:AD)(m:mN)(_:vs=[.ref p,tx m])(_:H p=some (.ins a.c_LX dx []))(_:ur m)(_:∀la da H2,gj a.c_LX H2 p la da [] m []->H la=none->H da=none->(∀b o,H b=some o->b≠p->H2 b=some o)->Q .non H2)
inductive sp_K9 (K:Q4)(a:Ad)(vs:JR)(H:Hp)(Q:VK)(E:XK):Prop|mk(p la da:AD)(l m:mN)(ds:List (Bool×Nat))(c0:Nat)(_:vs=[.ref p,tx [c0]])(_:gj a.c_LX H p la da l m ds)(_:ds.length<=9000)(_:TT a H)(_:c0∈m)(_:l.length<40)(_:∀(t c g la2:AD) (H2:Hp),pC [p,da] H H2->gj a.c_LX H2 p la2 da (l++[c0]) m (ds++[(true,c0)])->jC H H2 t c g la2 (vz [102,105,114,115,116] l (l++[c0]) m) (vL [115,116,97,110,100,115] l (l++[c0]) m)->TT a H2->Q (.ref t) H2)
inductive sp_K0 (K:Q4)(a:Ad)(vs:JR)(H:Hp)(Q:VK)(E:XK):Prop|mk(p la da:AD)(c0:Nat)(l0 m:mN)(ds:List (Bool×Nat))(_:vs=[.ref p])(_:gj a.c_LX H p la da (c0::l0) m ds)(_:ds.length<=9000)(_:TT a H)(_:∀(t c g la2:AD) (H2:Hp),pC [p,da] H H2->gj a.c_LX H2 p la2 da l0 m (ds++[(false,c0)])->jC H H2 t c g la2 (vL [115,116,111,111,100] l0 (c0::l0) m) (vz [108,97,115,116] l0 (c0::l0) m)->TT a H2->Q (.ref t) H2)
inductive sp_LC (K:Q4)(a:Ad)(vs:JR)(H:Hp)(Q:VK)(E:XK):Prop|mk(v m most)(_:vs=[v,tx m,.int most])(_:((∃l,v=tx l/\l.length<=1000/\qU l m most=true/\∀H2,fT H H2->Q .non H2)\/(jz K H v m most/\Bb a E H v)))
inductive sp_L1 (K:Q4)(a:Ad)(vs:JR)(H:Hp)(Q:VK)(E:XK):Prop|mk(b:AD)(ns:List Int)(k:Int)(_:vs=[.ref b,.int k])(_:oj K H b (ns.map V.int))(_:0<=k)(_:k<=1000)(_:∀r:Int,Q (.int r) H)
inductive sp_L6 (K:Q4)(a:Ad)(vs:JR)(H:Hp)(Q:VK)(E:XK):Prop|mk(c k)(_:vs=[.int c,.int k])(_:∀r:Int,0<=r->Q (.int r) H)
inductive sp_LR (K:Q4)(a:Ad)(vs:JR)(H:Hp)(Q:VK)(E:XK):Prop|mk(c)(_:vs=[.int c])(_:∀m H2,rD m=true->1<=m.length->m.length<=4->fT H H2->Q (tx m) H2)
inductive sp_LM (K:Q4)(a:Ad)(vs:JR)(H:Hp)(Q:VK)(E:XK):Prop|mk(c:Int)(m:mN)(n:Int)(d:Bool)(_:vs=[.int c,tx m,.int n,.bl d])(_:1<=m.length)(_:m.length<=4)(_:0<=n)(_:n<=100)(_:∀(l:mN) H2,l.length=n.toNat->(∀x∈l,x∈m)->fT H H2->Q (tx l) H2)
inductive sp_L4 (K:Q4)(a:Ad)(vs:JR)(H:Hp)(Q:VK)(E:XK):Prop|mk(b:AD)(ns:List Int)(k:Int)(m:mN)(_:vs=[.ref b,.int k,tx m])(_:oj K H b (ns.map V.int))(_:0<=k)(_:k<=900)(_:1<=m.length)(_:m.length<=4)(_:∀(l:mN) H2,l.length<=40->(∀x∈l,x∈m)->fT H H2->Q (tx l) H2)
inductive sp_L5 (K:Q4)(a:Ad)(vs:JR)(H:Hp)(Q:VK)(E:XK):Prop|mk(c:Int)(l m:mN)(_:vs=[.int c,tx l,tx m])(_:l.length<=40)(_:(∀x∈l,x∈m))(_:1<=m.length)(_:m.length<=4)(_:∀(w:mN) H2,w.length<=60->(∀x∈w,x∈m)->fT H H2->Q (tx w) H2)
inductive sp_LQ (K:Q4)(a:Ad)(vs:JR)(H:Hp)(Q:VK)(E:XK):Prop|mk(b ls wd)(_:vs=[.ref b,tx wd])(_:H b=some (.lst (ls.map tx)))(_:ls.length<=20000)(_:(∀m∈ls,m.length<=1000))(_:wd.length<=1000)(_:∀v H2,fT H H2->Ans H2 v (rS ls wd)->Q v H2)
inductive sp_LS (K:Q4)(a:Ad)(vs:JR)(H:Hp)(Q:VK)(E:XK):Prop|mk(x)(_:vs=[x,x])(_:((∃l,x=tx l)\/∃i,x=.int i))(_:∀H2,fT H H2->Q (.bl true) H2)
inductive sp_L3 (K:Q4)(a:Ad)(vs:JR)(H:Hp)(Q:VK)(E:XK):Prop|mk(x y)(_:vs=[x,y])(_:JG H x y)(_:∀H2,fT H H2->Q (.bl true) H2)
inductive sp_LV (K:Q4)(a:Ad)(vs:JR)(H:Hp)(Q:VK)(E:XK):Prop|mk(l w:mN)(_:vs=[tx l,tx w])(_:l.length<=900)(_:w.length<=900)(_:∀p H2,fT H H2->H2 p=some (.lst ((gc l w).map λi=>.int (i:Nat)))->Q (.ref p) H2)
inductive sp_K4 (K:Q4)(a:Ad)(vs:JR)(H:Hp)(Q:VK)(E:XK):Prop|mk(p dx C:AD)(l m:mN)(_:vs=[.ref p,tx l,tx m])(_:(C=a.c_LW\/C=a.c_LX\/C=a.c_L9))(_:H p=some (.ins C dx []))(_:∀H2,H2 p=some (.ins C dx (gs "own_kinds" (tx m) (gs "own_text" (tx l) [])))->(∀b o,H b=some o->b≠p->H2 b=some o)->Q .non H2)
inductive sp_K7 (K:Q4)(a:Ad)(vs:JR)(H:Hp)(Q:VK)(E:XK):Prop|mk(p dx:AD)(l m:mN)(_:vs=[.ref p,tx l,tx m])(_:H p=some (.ins a.c_L9 dx []))(_:gH l m)(_:∀H2,gD a.c_L9 H2 p l m->(∀b o,H b=some o->b≠p->H2 b=some o)->Q .non H2)
inductive sp_KG (K:Q4)(a:Ad)(vs:JR)(H:Hp)(Q:VK)(E:XK):Prop|mk(p:AD)(l m:mN)(n:Nat)(_:vs=[.ref p,.int n])(_:gD a.c_L9 H p l m)(_:gH l m)(_:n<=60)(_:Q (tx (gC l n)) H)
inductive sp_K8 (K:Q4)(a:Ad)(vs:JR)(H:Hp)(Q:VK)(E:XK):Prop|mk(p:AD)(l m:mN)(_:vs=[.ref p])(_:gD a.c_L9 H p l m)(_:gH l m)(_:Q (tx (iE l)) H)
inductive sp_KZ (K:Q4)(a:Ad)(vs:JR)(H:Hp)(Q:VK)(E:XK):Prop|mk(p:AD)(l m:mN)(_:vs=[.ref p])(_:gD a.c_L9 H p l m)(_:gH l m)(_:Q (.int ((iE l).length:Nat)) H)
inductive sp_KV (K:Q4)(a:Ad)(vs:JR)(H:Hp)(Q:VK)(E:XK):Prop|mk(p:AD)(l m:mN)(n N M:Nat)(W:Nat->mU)(_:vs=[.ref p,.int n])(_:vE a H p l m W N M)(_:n<=M)(_:∀q H2,fT H H2->H q=none->H2 q=some (.lst ((W n).map tx))->Q (.ref q) H2)
inductive sp_KJ (K:Q4)(a:Ad)(vs:JR)(H:Hp)(Q:VK)(E:XK):Prop|mk(p:AD)(l m:mN)(N M:Nat)(W:Nat->mU)(_:vs=[.ref p])(_:vE a H p l m W N M)(_:∀q H2,fT H H2->H q=none->H2 q=some (.lst ((vR W m N).map tx))->Q (.ref q) H2)
inductive sp_KY (K:Q4)(a:Ad)(vs:JR)(H:Hp)(Q:VK)(E:XK):Prop|mk(p dx:AD)(l m:mN)(_:vs=[.ref p,tx l,tx m])(_:H p=some (.ins a.c_LW dx []))(_:gy l m)(_:∀H2,gD a.c_LW H2 p l m->(∀b o,H b=some o->b≠p->H2 b=some o)->Q .non H2)
inductive sp_LB (K:Q4)(a:Ad)(vs:JR)(H:Hp)(Q:VK)(E:XK):Prop|mk(x y z:Int)(_:vs=[.int x,.int y,.int z])(_:Q (.bl (decide (y<=x)&&decide (x<=z))) H)
inductive sp_KS (K:Q4)(a:Ad)(vs:JR)(H:Hp)(Q:VK)(E:XK):Prop|mk(l:mN)(_:vs=[tx l])(_:l.length<=40)(_:∀p H2,fT H H2->H p=none->H2 p=some (.tup ((qI l).map λ(i:Nat)=>.int i))->Q (.ref p) H2)
inductive sp_KP (K:Q4)(a:Ad)(vs:JR)(H:Hp)(Q:VK)(E:XK):Prop|mk(l S:mN)(c:Nat)(t:AD)(_:vs=[tx l,.ref t,tx [c]])(_:l.length<=40)(_:H t=some (.tup (S.map λ(i:Nat)=>.int i)))(_:S.length<=41)(_:∀p H2,fT H H2->H p=none->H2 p=some (.tup ((pV l S c).map λ(i:Nat)=>.int i))->Q (.ref p) H2)
inductive sp_LG (K:Q4)(a:Ad)(vs:JR)(H:Hp)(Q:VK)(E:XK):Prop|mk(l m:mN)(_:vs=[tx l,tx m])(_:l.length<=40)(_:m.length<=4)(_:(∀c∈l,c∈m))(_:∀(p:AD) (sp:mU) (ys:JR) (H2:Hp),fT H H2->H p=none->H2 p=some (.lst ys)->gY H2 l m sp ys->Q (.ref p) H2)
inductive sp_KL (K:Q4)(a:Ad)(vs:JR)(H:Hp)(Q:VK)(E:XK):Prop|mk(p dx:AD)(l m:mN)(_:vs=[.ref p,tx l,tx m])(_:H p=some (.ins a.c_LH dx []))(_:gy l m)(_:∀sp H2,gJ a.c_LH H2 p l m sp->(∀b o,H b=some o->b≠p->H2 b=some o)->Q .non H2)
inductive sp_KB (K:Q4)(a:Ad)(vs:JR)(H:Hp)(Q:VK)(E:XK):Prop|mk(p:AD)(l m:mN)(sp:mU)(i:Nat)(_:vs=[.ref p,.int i])(_:gJ a.c_LH H p l m sp)(_:i<sp.length)(_:Q .non H)
inductive sp_KQ (K:Q4)(a:Ad)(vs:JR)(H:Hp)(Q:VK)(E:XK):Prop|mk(p:AD)(l m:mN)(sp:mU)(i:Nat)(s:mN)(c:Nat)(_:vs=[.ref p,.int i,tx [c]])(_:gJ a.c_LH H p l m sp)(_:sp[i]?=some s)(_:c∈m)(_:∀o,tQ l sp s c o->Q (o.getD .non) H)
inductive sp_KR (K:Q4)(a:Ad)(vs:JR)(H:Hp)(Q:VK)(E:XK):Prop|mk(p:AD)(l m:mN)(sp:mU)(i:Nat)(s:mN)(c:Nat)(_:vs=[.ref p,.int i,tx [c]])(_:gJ a.c_LH H p l m sp)(_:sp[i]?=some s)(_:c∈m)(_:∀o H2,fT H H2->tQ l sp s c o->Q (o.getD .non) H2)
inductive sp_KA (K:Q4)(a:Ad)(vs:JR)(H:Hp)(Q:VK)(E:XK):Prop|mk(p d:AD)(l m:mN)(sp W:mU)(js:mN)(k:Nat)(_:vs=[.ref p,.ref d])(_:gJ a.c_LH H p l m sp)(_:gy l m)(_:H d=some (.dK (CD l sp W js)))(_:ic l sp W js)(_:iT l k W)(_:∀q W2 js2 H2,fT H H2->H q=none->H2 q=some (.dK (CD l sp W2 js2))->ic l sp W2 js2->iT l (k+1) W2->Q (.ref q) H2)
inductive sp_KM (K:Q4)(a:Ad)(vs:JR)(H:Hp)(Q:VK)(E:XK):Prop|mk(p:AD)(l m:mN)(sp:mU)(_:vs=[.ref p])(_:gJ a.c_LH H p l m sp)(_:gy l m)(_:∀H2,fT H H2->Q (.int ((jq l).length:Nat)) H2)
inductive sp_KC (K:Q4)(a:Ad)(vs:JR)(H:Hp)(Q:VK)(E:XK):Prop|mk(p:AD)(l m:mN)(sp:mU)(w:mN)(_:vs=[.ref p,tx w])(_:gJ a.c_LH H p l m sp)(_:w.length<=60)(_:(∀c∈w,c∈m))(_:∀v H2,fT H H2->Zr6 l sp w v->Q v H2)
inductive sp_LL (K:Q4)(a:Ad)(vs:JR)(H:Hp)(Q:VK)(E:XK):Prop|mk(l m:mN)(_:vs=[tx l,tx m])(_:gy l m)(_:∀q ys H2,fT H H2->H q=none->H2 q=some (.lst ys)->i9 H2 l (nR l m) ys->Q (.ref q) H2)
inductive sp_K5 (K:Q4)(a:Ad)(vs:JR)(H:Hp)(Q:VK)(E:XK):Prop|mk(p la da:AD)(l m:mN)(ds:List (Bool×Nat))(_:vs=[.ref p])(_:gj a.c_LX H p la da l m ds)(_:Q (tx l) H)
inductive sp_KD (K:Q4)(a:Ad)(vs:JR)(H:Hp)(Q:VK)(E:XK):Prop|mk(p:AD)(l m:mN)(n:Nat)(_:vs=[.ref p,.int n])(_:iV a H p l m)(_:Q (tx l) H)
inductive sp_KE (K:Q4)(a:Ad)(vs:JR)(H:Hp)(Q:VK)(E:XK):Prop|mk(p:AD)(l m:mN)(lo:Nat->mN)(lk:mU)(v:V)(_:vs=[.ref p,v])(_:B3 a H p l m lo lk)(_:((∃w,v=tx w/\w.length<=60/\(∀x∈w,x∈m)/\∀H2,fT H H2->Q (Ft (gc (lo w.length) w).head?) H2)\/(jz K H v m 60/\Bb a E H v)))
inductive sp_ask (K:Q4)(a:Ad)(vs:JR)(H:Hp)(Q:VK)(E:XK):Prop|mk(p:AD)(l m:mN)(lo:Nat->mN)(lk:mU)(v:V)(_:vs=[.ref p,v])(_:B3 a H p l m lo lk)(_:((∃w,v=tx w/\w.length<=60/\(∀x∈w,x∈m)/\∀u H2,fT H H2->jg H2 u (gc (lo w.length) w).head? (rS lk w)->Q u H2)\/(jz K H v m 60/\Bb a E H v)))
inductive sp_due (K:Q4)(a:Ad)(vs:JR)(H:Hp)(Q:VK)(E:XK):Prop|mk(l m w:mN)(_:vs=[tx l,tx w])(_:l.length<=200)(_:w.length<=60)(_:(∀x∈w,x∈m))(_:∀v H2,fT H H2->jg H2 v (gc l w).head? (rS (nR l m) w)->Q v H2)
inductive sp_L7 (K:Q4)(a:Ad)(vs:JR)(H:Hp)(Q:VK)(E:XK):Prop|mk(l m:mN)(c:Int)(_:vs=[tx l,tx m,.int c])(_:gy l m)(_:TT a H)(_:∀(p la da:AD) (ds:List (Bool×Nat)) (H2:Hp),gu H H2->TT a H2->gj a.c_LX H2 p la da l m ds->Q (.ref p) H2)
inductive sp_MA (K:Q4)(a:Ad)(vs:JR)(H:Hp)(Q:VK)(E:XK):Prop|mk(m:mN)(most n:Int)(_:vs=[tx m,.int most,.int n])(_:ur m)(_:1<=most)(_:most<=100)(_:∀v H2,fT H H2->jz K H2 v m most->Q v H2)
inductive sp_LN (K:Q4)(a:Ad)(vs:JR)(H:Hp)(Q:VK)(E:XK):Prop|mk(p:AD)(l m:mN)(v:V)(_:vs=[.ref p,v])(_:gD a.c_L9 H p l m)(_:gH l m)(_:jz K H v m 60)(_:∀H2,fT H H2->Q (.bl true) H2)
inductive sp_LJ (K:Q4)(a:Ad)(vs:JR)(H:Hp)(Q:VK)(E:XK):Prop|mk(pw:AD)(l m:mN)(ws:mU)(_:vs=[tx l,tx m,.ref pw])(_:gH l m)(_:H pw=some (.lst (ws.map tx)))(_:ws.length<=100)(_:(∀w∈ws,w.length<=60/\∀x∈w,x∈m))(_:∀H2,Q (.bl true) H2)
inductive sp_L2 (K:Q4)(a:Ad)(vs:JR)(H:Hp)(Q:VK)(E:XK):Prop|mk(p r:AD)(l m:mN)(sp:mU)(ys:JR)(_:vs=[.ref p,tx l,.ref r])(_:gJ a.c_LH H p l m sp)(_:gy l m)(_:H r=some (.lst ys))(_:i9 H l (nR l m) ys)(_:∀H2,fT H H2->Q (.bl true) H2)
def mE (K:Q4)(tb:Str->AD×AD):Sp:=λvs H Q _=>∃(b:AD) (ns:List Int),vs=[.ref b]/\oj K H b (ns.map V.int)/\ns.length<=63/\gL H (tb "in_order").2 lpos lq/\∀H2,Q (.bl true) H2
def sz (k:Nat)(h:k<=9000):k<=sizeLine:=og h (by rw[sizeLine_eq];decide)
section
local macro_rules | `(tactic| walk_at "r0") => `(tactic| simp only [jc, jN, zi, FA, kP, tC, sO, gNil, HL, tRet, tIfS, JC, tB, tNot, tAnd, Fv, FB, tOrV, IS, JE, kF, FW, Zrk, Zrh, Zrj, Zri, Gf, Ba, Ce, HH, Gz, Du, tBM0, Jo, Ho, jt, jT, L2.start, cxK, bxK, cxPr, cxWo, suxK, ZqI, ZqH, Jt, tTry, HB, GL, Jz, jW, C2, Gb, Gs, Bw, Zrl, Zo8, Ip, Fi, C3, mq, IM, gTup, pick, Option.bind_some, Option.bind_none, Option.join_some, Option.join_none, List.map_cons, List.map_nil, List.length_cons, List.length_nil, Nat.zero_add, Nat.reduceAdd, Nat.reduceSub, List.replicate_succ, List.replicate_zero, List.cons_append, List.nil_append, List.append_nil, List.getElem?_cons_zero, List.getElem?_cons_succ, List.set_cons_zero, List.set_cons_succ, q_I, q_I0, q_U, q_T, xK, mG, mC, lK, Znx, Hr, EO, lA, sFld, Fu, tAug, jF, E6, IR, Jn, IA, G5, F8, HM, HJ, GW, GM, IC, tOr2, Zo7])
local macro_rules | `(tactic| walk_at "r1") => do
 let some t <-Lean.Macro.expandMacro? (<-`(tactic| walk_at "r0")) | Lean.Macro.throwUnsupported
 match (⟨t⟩:Lean.TSyntax `tactic) with
 | `(tactic| simp only[$l,*])=>let d:=⟨l.elemsAndSeps⟩;`(tactic| dsimp only[$d,*])
 | _=>Lean.Macro.throwUnsupported
def ZlV (h:let T:=uA t;jc s T D U H):jc s (uA t) D U H:=h
local macro_rules | `(tactic| walk_at "rd") => `(tactic| ((try (with_reducible refine ZlV ?_; intro)); first | (walk_at "r1"; try walk_at "r0") | walk_at "r0"))
abbrev mL (k:Nat)(l:List Str)(s:Stmt):=fU l (l.take k) (qQ s)
local macro_rules | `(tactic| walk_at "sc") => `(tactic| exact ⟨rfl, rfl, rfl, by decide +kernel, rfl, by decide +kernel, by decide +kernel⟩)
local macro_rules | `(tactic| walk_at "rd?") => `(tactic| (try walk_at "rd"))
local macro_rules | `(tactic| walk_at "g") => `(tactic| (refine qy ?_;walk_at "rd"))
local macro_rules | `(tactic| walk_at "h") => `(tactic| (show uA _ _ _ _;walk_at "g"))
local macro_rules | `(tactic| walk_at "k") => `(tactic| (walk_at "rd?";walk_at "g"))
local macro_rules | `(tactic| walk_at "ln") => `(tactic| (intro _ _ _ _ h; rcases h with ⟨⟩; subst_vars; rfl))
def ZqO:mL 2 ["text","letters"] kQ:=by walk_at "sc"
def ZeE:mL 2 ["self","word"] DM:=by walk_at "sc"
def GS:mL 2 ["text","word","size"] lD:=by walk_at "sc"
def ZqN:mL 1 ["words"] lW:=by walk_at "sc"
def ZqJ:mL 2 ["text","length"] kS:=by walk_at "sc"
def zx:mL 3 ["shorter","standing","kinds","found","head","letter","word"] mD:=by walk_at "sc"
def ZqT:mL 2 ["text","word"] kn:=by walk_at "sc"
def ZqX:mL 1 ["self"] lP:=by walk_at "sc"
def CH:mL 1 ["self","size"] kW:=by walk_at "sc"
def E1:mL 2 ["self","length","size"] kX:=by walk_at "sc"
def Zq5:mL 2 ["self","length"] lx:=by walk_at "sc"
def Zq4:mL 1 ["self"] ka:=by walk_at "sc"
def Zra:mL 3 ["self","text","kinds"] kg:=by walk_at "sc"
def Bx:mL 2 ["words","word","end","ending","missing"] mv:=by walk_at "sc"
def ZqQ:mL 3 ["thing","least","most"] kx:=by walk_at "sc"
def ZqZ:mL 1 ["text"] lT:=by walk_at "sc"
def Zq2:mL 3 ["text","spots","letter"] kL:=by walk_at "sc"
def ZqS:mL 2 ["_law_script","_law_k"] kT:=by walk_at "sc"
def Dt:mL 2 ["_law_cell_here","_law_k","_law_number"] lN:=by walk_at "sc"
def yb:mL 1 ["_law_cell_here","_law_letters_here","_law_found","_law_left","_law_k"] kC:=by walk_at "sc"
def yU:mL 2 ["_law_text_here","_law_word_here","_law_end","_law_start"] Dy:=by walk_at "sc"
def Bt:mL 3 ["_law_kinds_here","_law_most","_law_number","_law_odd","_law_some"] lQ:=by walk_at "sc"
def Zq1:mL 3 ["self","room","letter"] kU:=by walk_at "sc"
def Zq9:mL 1 ["self"] ki:=by walk_at "sc"
def ZqM:mL 1 ["thing"] ke:=by walk_at "sc"
def ZqL:mL 3 ["thing","kinds","most"] k9:=by walk_at "sc"
def ZqU:mL 1 ["self"] lR:=by walk_at "sc"
def ZqW:mL 2 ["self","length"] mj:=by walk_at "sc"
def vq:mL 2 ["text","kinds","spots","words","numbers","rooms","room","ways","letter","behind"] kh:=by walk_at "sc"
def Eb:mL 2 ["lesser","longer","edges","size"] kH:=by walk_at "sc"
def wx:mL 4 ["_law_cell_here","_law_kinds_here","_law_size","_law_digits","_law_found","_law_left","_law_k","_law_number"] kG:=by walk_at "sc"
def C6:mL 4 ["self","text","came","went","gone","kept"] kZ:=by walk_at "sc"
def yO:mL 2 ["self","counts","behind","room","letter","reached"] kz:=by walk_at "sc"
def Zq6:mL 2 ["self","room"] lY:=by walk_at "sc"
def ZqR:mL 2 ["thing","kinds"] lX:=by walk_at "sc"
def Zrb:mL 1 ["thing"] j8:=by walk_at "sc"
def ZqP:mL 3 ["thing","kinds","most"] lE:=by walk_at "sc"
def x5:mL 1 ["self","found","shorter","length","standing"] lB:=by walk_at "sc"
def FF:mL 3 ["lesser","longer","reason","word"] j0:=by walk_at "sc"
def yc:mL 4 ["lesser","longer","kinds","reason","found","shorter","told","letter","word"] lO:=by walk_at "sc"
def wU:mL 2 ["_law_found","_law_due_here","_law_one","_law_other"] mt:=by walk_at "sc"
def u0:mL 3 ["_law_script","_law_at","_law_kinds_here","_law_shape","_law_size","_law_text_here","_law_place","_law_letter"] kR:=by walk_at "sc"
def zn:mL 3 ["_law_cell_here","_law_text_here","_law_kinds_here","_law_way","_law_start","_law_piece","_law_left"] kN:=by walk_at "sc"
def yM:mL 1 ["self","total","counts"] jY:=by walk_at "sc"
def ZqY:mL 2 ["thing","kinds"] lV:=by walk_at "sc"
def ZqV:mL 3 ["self","text","kinds"] ml:=by walk_at "sc"
def IF:mL 2 ["self","word","found"] mf:=by walk_at "sc"
def Zrc:mL 2 ["self","kinds"] kK:=by walk_at "sc"
def EE:mL 2 ["self","longer","came","went"] lZ:=by walk_at "sc"
def D9:mL 2 ["self","lesser","came","went"] jX:=by walk_at "sc"
def Zq8:mL 3 ["self","text","kinds"] kO:=by walk_at "sc"
def A8:mL 2 ["self","word","room","letter"] kc:=by walk_at "sc"
def Zq3:mL 3 ["self","text","kinds"] ma:=by walk_at "sc"
def Dm:mL 2 ["band","word","place","found"] Ed:=by walk_at "sc"
def Zq7:mL 2 ["self","letter"] kA:=by walk_at "sc"
def Zrd:mL 1 ["self"] kB:=by walk_at "sc"
def Zq0:mL 3 ["self","room","letter"] j7:=by walk_at "sc"
def ZqK:mL 2 ["text","kinds"] kI:=by walk_at "sc"
def yP:mL 3 ["_law_text_here","_law_kinds_here","_law_cell_here","_law_strip","_law_ahead","_law_letter"] me:=by walk_at "sc"
def Bl:mL 2 ["_law_band","_law_thing","_law_caught","e"] kM:=by walk_at "sc"
def vT:mL 3 ["_law_machine_here","_law_text_here","_law_rows","_law_words","_law_start","_law_end","_law_missing","_law_place","_law_other","_law_room"] mB:=by walk_at "sc"
def BK:mL 3 ["_law_text_here","_law_kinds_here","_law_words","_law_ring","_law_number","_law_word_here"] lJ:=by walk_at "sc"
def uL:mL 1 ["_law_script","_law_kinds_here","_law_text_here","_law_plain","_law_strip","_law_machine_here","_law_rows","_law_words","_law_word_here","_law_due_here"] EH:=by walk_at "sc"
variable (T:TL K mg base a tb)
include T
def GY:f7 P w K mg base nQ 1 a.f_LD a.d_LD ["text","letters"] (sp_LD K a):=by
 refine T.dP.u.ok ZqO (λAr A outer s H vs Q E hr h=>?_);obtain⟨l,m,rfl,hl,q⟩:=h;refine⟨_,(mY (ny (nE (ZkV rfl) rfl T.fP Zqu (mM (tG (N:=["sign","letters"]) (ix:=[none,some 1]) rfl (sw rfl) rfl (vt (pv 0)) (λ_ _ _ _=>(oG (i:=0) (show (["sign","letters"]:AJ).Nodup from by decide +kernel) rfl (Or.inl rfl) (Or.inr rfl))) (λ_ _ _ _=>wj) (λ_ _ _ _=>(qt ZiQ (pv 0) (pv 1) rfl))) mQ)))),?_⟩;walk_at "rd";refine⟨l,rfl,f8.text (λ_=>true) (λi=>.bl (decide (l.getD i 0∈m))) hl ?_ ?_ ?_⟩
 .intro i H1 Q1 hi s1 q1;exact q1 H1 (fT.refl _)
 .intro i H1 Q1 hi _ s1 q1;walk_at "rd";exact⟨_,m,rfl,rfl,q1 H1 (fT.refl _)⟩
 .intro p H1 s1 n1 l1;refine⟨p,(List.range l.length).map (λi=>decide (l.getD i 0∈m)),rfl,?_,?_⟩
  .rw[l1,iN,ql];rfl
  .rw[jx];exact q H1 s1
def ZeG:f7 P w K mg base nQ 1 a.ak a.ay ["self","word"] (EU K a.c_LO 1 (zk "word")):=by
 refine T.fi_LO.ok ZeE (λAr A outer s H vs Q E hr h=>?_) (λvs H Q E h=>by obtain⟨e,r,rfl,hl,_⟩:=h;simp[hl])
 .obtain⟨e,r,rfl,hl,he,q⟩:=h;obtain⟨x,rfl⟩:∃x,r=[x]:=by match r,hl with | [x],_=>exact⟨x,rfl⟩
  refine⟨_,(mV (qe (ZlB rfl T.m_K6 T.r_K6 (mM (pv 0) (mM (qj (l:=[116,104,105,115,32,105,115,32,110,111,32,119,111,114,100,32,111,102,32,116,104,101,115,101,32,107,105,110,100,115,44,32,111,114,32,104,97,115,32,116,111,111,32,109,97,110,121,32,108,101,116,116,101,114,115]) nofun) mQ))))
   (mY (Znz (pv 0) (pv 1) rfl))),?_⟩
  walk_at "rd";refine⟨e,a.c_LO,none,_,rfl,he,T.br,(by show 1<=1000;decide),e,a.c_LO,[],rfl,.bare he,T.br.c,T.az,(by show 0<1000;decide),λH1 x1 k1 _=>?_⟩;exact q H1 x1 λb o hb hne=>k1 b o hb hne λd hd=>by rw[he]at hd;exact JO hd Zqy
def Zrs:f7 P w K mg base nQ 1 a.f_LV a.d_LV ["text","word"] (sp_LV K a):=by
 refine T.eU.u.ok GS (λAr A outer s H vs Q E hr h=>?_);have Av:=hr.units;obtain⟨l,w_,rfl,hl,hw,q⟩:=h;refine⟨_,(mV (xF (i:=2) GS.nd rfl (Or.inr rfl) (nE (oC (K:=K) rfl) rfl T.db oz (mM (pv 1) mQ)))
  (mY (ny (tG (N:=["start","size","text","word"]) (ix:=[none,some 2,some 0,some 1]) rfl (sw rfl) rfl (vX rfl T.dA (mM (m5 pG (m5 vn (nE (oC (K:=K) rfl) rfl T.db oz (mM (pv 0) mQ)) (pv 2)) mX) mQ)) (λ_ _ _ _=>(oG (i:=0) (show (["start","size","text","word"]:AJ).Nodup from by decide +kernel) rfl (Or.inl rfl) (Or.inr rfl))) (λ_ _ _ _=>(xm (oA (qV (K:=K) rfl Av) (pL pQ (pv 2) (oY (pv 0)) (oY (m5 pG (pv 0) (pv 1)))) (pv 3) (nZ _)))) (λ_ _ _ _=>(pv 0)))))),?_⟩
 have sz:l.length<=sizeLine:=by rw[sizeLine_eq];lia
 walk_at "rd";refine⟨_,_,rfl,o9 ∅,_,_,rfl,o9 ∅,_,rfl,∅,∅,?_⟩;have e0:((l.length:Int)-(w_.length:Nat)+1).toNat=l.length+1-w_.length:=by lia
 rw[e0];refine f8.range (λi=>decide ((l.drop i).take w_.length=w_)) (λi=>.int ((i:Nat):Int)) ∅ ?_ ?_ ?_
 .intro i H1 Q1 hi s1 q1;have e1:(0+(i:Int))=((i:Nat):Int):=by lia
  have e2:((i:Nat):Int)+(w_.length:Nat)=((i+w_.length:Nat):Int):=by lia
  walk_at "rd";refine⟨_,rfl,_,rfl,l,rfl,sz,.inl ⟨rfl,?_⟩⟩;rw[mR nU,u4,e1,e2,x6];have e3:i+w_.length-i=w_.length:=by lia
  rw[e3];exact q1 H1 (fT.refl _)
 .intro i H1 Q1 hi _ s1 q1;have e1:(0+(i:Int))=((i:Nat):Int):=by lia
  walk_at "rd";rw[e1];exact q1 H1 (fT.refl _)
 .intro p H2 s2 n2 l2;exact q p H2 s2 l2
def Eg:f7 P w K mg base nQ 1 a.f_LE a.d_LE ["words"] (sp_LE K a):=by refine T.dj.u.okC T.cd_LE ZqN (λA outer s H vs Q E hr h=>?_);obtain⟨p,ws,rfl,hp,hw,tk,q⟩:=h;refine⟨_,(mY (ny (ZlC (q:="in_order.<locals>.<lambda>") hr T.L_in_order rfl rfl T.dU T.db (mM (pv 0) mQ) rfl rfl (by kernel_rfl) ⟨rfl,rfl,rfl,rfl,rfl,rfl⟩ (λ_ _ _ _ _=>.of_eq rfl)))),?_⟩;have sz:∀k:Nat,k<=1000->k<=sizeLine:=λk h=>og h (by rw[sizeLine_eq];decide);walk_at "rd";exact⟨p,ws,rfl,hp,λw h=>sz _ (hw w h),tk.1,λws' r H2 a b c d=>q ws' r H2 a b c.1 ⟨d,trivial⟩⟩
def Zrt:f7 P w K mg base nQ 1 a.f_LU a.d_LU ["text","length"] (sp_LU K a):=by
 refine T.eV.u.ok ZqJ (λAr A outer s H vs Q E hr h=>?_);obtain⟨l,n,rfl,hl,hn,h63,q⟩:=h;refine⟨_,(mY (ny (nE (DD rfl) rfl T.dU Co (mM (uV (C9 rfl) rfl T.fL EV (mM (tG (N:=["start","length","text"]) (ix:=[none,some 1,some 0]) rfl (sw rfl) rfl (vX rfl T.dA (mM (m5 pG (m5 vn (nE (oC (K:=K) rfl) rfl T.db oz (mM (pv 0) mQ)) (pv 1)) mX) mQ)) (λ_ _ _ _=>(oG (i:=0) (show (["start","length","text"]:AJ).Nodup from by decide +kernel) rfl (Or.inl rfl) (Or.inr rfl))) (λ_ _ _ _=>wj) (λ_ _ _ _=>(pL pQ (pv 2) (oY (pv 0)) (oY (m5 pG (pv 0) (pv 1)))))) mQ)) mQ)))),?_⟩;walk_at "rd";have sz:l.length<=sizeLine:=og hl (by rw[sizeLine_eq];decide);have ec:((l.length:Int)-(n:Nat)+1).toNat=l.length+1-n:=by lia
 refine⟨_,_,rfl,o9 ∅,_,rfl,∅,∅,?_⟩;rw[ec];refine f8.rangeA (λi=>tx ((l.drop i).take n)) ∅ ?_ ?_
 .intro i H1 Q1 hi s1 q1;walk_at "rd";refine⟨_,rfl,_,rfl,l,rfl,sz,?_⟩;have e1:(0+(i:Int))=((i:Nat):Int):=by lia
  have e2:((i:Nat):Int)+(n:Nat)=((i+n:Nat):Int):=by lia
  rw[e1,e2,x6];have e3:i+n-i=n:=by lia
  rw[e3];exact q1 H1 (fT.refl _)
 .intro p H1 s1 n1 l1;refine⟨(List.range (l.length+1-n)).map (λi=>(l.drop i).take n),by simp;lia,.inr ⟨p,rfl,.mk (by rw[l1,ql];rfl)⟩,λp2 n2=>⟨p2,_,rfl,nu,?_,gB.of λp3 H3 s3 n3 l3=>q p3 H3 (s1.trans ((pX n2).trans s3)) ((s1.trans (pX n2)).free n3) l3⟩⟩;refine og (C1 _) ?_;rw[m6,rm,sizeLine_eq]
  lia
def Zrr:f7 P w K mg base nQ 1 a.f_LY a.d_LY ["shorter","standing","kinds"] (sp_LY K a):=by
 refine T.ft.u.ok zx (λAr A outer s H vs Q E hr h=>?_);obtain⟨b1,b2,sh,st,m,rfl,hb1,hb2,hsh,hm,hw,q⟩:=h;refine⟨_,(mV (nJ (i:=3) zx.nd (sk mQ))
  (mV (qx pS rfl (rX (K:=K) rfl (pv 0)) (oG (i:=4) zx.nd rfl (Or.inl rfl))
  (mY (qx pS rfl (vt (pv 2)) (oG (i:=5) zx.nd rfl (Or.inl rfl))
  (mV (nJ (i:=6) zx.nd (m5 sC (pv 4) (pv 5)))
  (mY (oF (PW.pt (zW (oA (ZiR (K:=K) rfl) (pL pQ (pv 6) (oY mX) qL) (pv 0) rfl) (y9 (oA (EC (K:=K) rfl) (pv 6) (pv 1) rfl)))) (mY (qe (sV ue vo vf uC (pv 3) (mM (pv 6) mQ)))) oE))))))
  (mY (ny (pv 3))))),?_⟩
 walk_at "rd";refine⟨pE _,gB.of λpf H1 s1 nf lf=>⟨b1,rfl,⟨_,.mk (s1 _ _ hb1)⟩,f9.list (xs:=sh.map tx) (λi U H'=>∃v4 v5 v6,U=[some (.ref b1),some (.ref b2),some (tx m),some (.ref pf),v4,v5,v6]/\fT H H'/\H' pf=some (.lst (((sh.take i).flatMap (tM sh st m)).map tx))) ⟨_,_,_,rfl,s1,lf⟩ (λi U H' _ ⟨_,_,_,_,s',_⟩=>.mk (s' _ _ hb1)) ?_ ?_⟩⟩
 .rintro i x U H2 hx ⟨v4,v5,v6,rfl,s2,l2⟩;obtain⟨h,hh,rfl⟩:∃h,sh[i]?=some h/\x=tx h:=by
   rw[pA]at hx;cases e:sh[i]? with
   | none=>rw[e]at hx;cases hx
   | some h=>rw[e]at hx;exact⟨h,rfl,(Option.some.inj hx).symm⟩
  have hw1:=hw h (qA hh);have fl:=zF (f:=tM sh st m) (b:=4) (λx=>og (DV _ _ _ _) hm) (sh.take i);have tl:(sh.take i).length<=100:=by rw[ou];lia
  walk_at "rd";refine⟨m,rfl,f9.text (λj U H'=>∃v5 v6,U=[some (.ref b1),some (.ref b2),some (tx m),some (.ref pf),some (tx h),v5,v6]/\fT H H'/\H' pf=some (.lst (((sh.take i).flatMap (tM sh st m)++((m.take j).filter (sL sh st h)).map (λc=>h++[c])).map tx))) ⟨_,_,rfl,s2,~~~l2⟩ ?_ ?_⟩
  .rintro j c U H3 hc ⟨v5,v6,rfl,s3,l3⟩;have fj:=tO (sL sh st h) (m.take j);rw[ou]at fj;have fe:(m.take (j+1)).filter (sL sh st h)=(m.take j).filter (sL sh st h)++if sL sh st h c=true then [c] else []:=by
    rw[wR hc,wL];congr 1;by_cases z:sL sh st h c=true
    .rw[mS z,List.filter_cons_of_pos z];rfl
    .rw[mR z,List.filter_cons_of_neg z];rfl
   rw[fe];walk_at "rd";refine⟨by rw[sizeLine_eq];lia,_,rfl,_,rfl,by rw[nN,pZ,sizeLine_eq];lia,?_⟩;rw[za];refine⟨b1,_,rfl,.inl (.mk (s3 _ _ hb1)),rfl,vB _,?_⟩;rw[mR nU,Dn];by_cases t1:(h++[c]).tail∈sh
   .rw[JI t1];refine gW ⟨b2,_,rfl,.inl (.mk (s3 _ _ hb2)),rfl,vB _,?_⟩;rw[mS rfl,Dn];by_cases t2:h++[c]∈st
    .have e:¬sL sh st h c=true:=by unfold sL;rw[JI t2];simp
     rw[JI t2,Bool.not_true,mR e,va];exact gq ⟨_,_,rfl,s3,l3⟩
    .have e:sL sh st h c=true:=by unfold sL;rw[JI t1,JJ t2];rfl
     rw[JJ t2,Bool.not_false,mS e];refine gW ⟨.inl ⟨rfl,_,.mk l3⟩,pf,_,_,rfl,rfl,l3,by rw[m6,nN,m6,sizeLine_eq];lia,_,_,rfl,gh s3 nf,?_⟩;rw[nu];simp
   .have e:¬sL sh st h c=true:=by unfold sL;rw[JJ t1];simp
    rw[JJ t1,mR e,va];exact gq (gq ⟨_,_,rfl,s3,l3⟩)
  .rintro U H3 ⟨v5,v6,rfl,s3,l3⟩;refine⟨_,_,_,rfl,s3,?_⟩;rw[l3,wR hh,List.flatMap_append,List.flatMap_singleton,rH];rfl
 .rintro U H2 ⟨v4,v5,v6,rfl,s2,l2⟩;walk_at "rd";rw[m6,rH]at l2;exact q pf H2 s2 nf l2
def ZrI:f7 P w K mg base nQ 1 a.f_L0 a.d_L0 ["text","word"] (sp_L0 K a):=by
 refine T.fz.u.ok ZqT (λAr A outer s H vs Q E hr h=>?_);obtain⟨l,x,rfl,hl,hx,q⟩:=h;refine⟨_,(mY (ny (sM (qt Hi (pv 1) (pv 0) rfl) (sM (qt GQ (pL pQ (pv 1) (oY mX) qL) (pv 0) rfl) (ub (qt GQ (pL pQ (pv 1) qL (oY (zS yW mX))) (pv 0) rfl)))))),?_⟩;walk_at "rd";have sx:x.length<=sizeLine:=og hx (by rw[sizeLine_eq];decide);unfold zw at q;refine⟨x,l,rfl,rfl,gK (λh1=>⟨_,rfl,x,rfl,sx,_,l,rfl,rfl,gK (λh2=>⟨_,rfl,x,rfl,sx,_,l,rfl,rfl,?_⟩) (λh2=>?_)⟩) (λh1=>?_)⟩
 .rw[za]at h2;rw[DH];rw[h1,h2,sS,sS]at q;exact q
 .rw[za]at h2;rw[h1,tN.mpr h2,sJ,wu]at q;exact q
 .rw[tN.mpr h1,sJ]at q;exact q
def ZrK:f7 P w K mg base nQ 1 a.bB a.cA ["self"] (sp_KU K a):=by refine T.eN.u.ok ZqX (λAr A outer s H vs Q E hr h=>?_);obtain⟨p,l,m,rfl,hp,ok,q⟩:=h;refine⟨_,(mY (ny (m5 pG (nE (oC (K:=K) rfl) rfl T.db oz (mM (pD (K:=K) rfl (pv 0) rfl) mQ)) mX))),?_⟩;obtain⟨dx,hp⟩:=hp;have l40:=ok.l40;walk_at "rd";exact⟨p,_,dx,_,_,rfl,hp,T.aQ,T.aw,wc,_,_,rfl,o9 ∅,q⟩
def ZrU:f7 P w K mg base nQ 1 a.bJ a.cM ["self"] (sp_K8 K a):=by
 refine T.fh.u.ok CH (λAr A outer s H vs Q E hr h=>?_);have Av:=hr.units;obtain⟨p,l,m,rfl,hp,ok,q⟩:=h;refine⟨_,(mV (nJ (i:=1) CH.nd mX)
  (mV (zK pS (oA (uE (K:=K) rfl Av) (m5 zO (pL pQ (pD (K:=K) rfl (pv 0) rfl) qL (oY (pv 1))) (m5 rl (nE (oC (K:=K) rfl) rfl T.db oz (mM (pD (K:=K) rfl (pv 0) rfl) mQ)) (pv 1))) (pD (K:=K) rfl (pv 0) rfl) (nZ _))
  (mY (Fb (i:=1) CH.nd rfl (Or.inl rfl) mX Gu)))
  (mY (ny (pL pQ (pD (K:=K) rfl (pv 0) rfl) qL (oY (pv 1))))))),?_⟩
 obtain⟨dx,hp⟩:=hp;have l1:=ok.l1;have l20:=ok.l20;have sz:l.length<=sizeLine:=by rw[sizeLine_eq];lia
 obtain⟨r1,r2,r3,r4⟩:=zj l1;walk_at "rd";refine ZoE (λU=>∃s:Nat,U=[some (.ref p),some (.int (s:Nat))]/\1<=s/\s<=pT l) (λU=>match U with | [_,some (.int s)]=>l.length-s.toNat | _=>0) ⟨1,rfl,nD _,r1⟩ ?_;rintro U ⟨s_,rfl,hs,hr'⟩;refine⟨!uN l s_,λQ1 h1=>?_,?_⟩
 .have ds:=IL (n:=l.length) hs;have dp:=Iv (n:=l.length) (s:=s_);have c2:=xz l none (some (s_:Int));walk_at "rd";refine⟨p,_,dx,_,_,rfl,hp,T.aI,T.ac,wc,_,rfl,l,rfl,sz,p,_,dx,_,_,rfl,hp,T.aI,T.ac,wc,_,_,rfl,o9 ∅,⟨∅,∅⟩,_,_,rfl,rfl,∅,∅,∅,p,_,dx,_,_,rfl,hp,T.aI,T.ac,wc,.inl ⟨rfl,?_⟩⟩;rw[mS rfl,u4,vH];exact h1
 .walk_at "rd";cases hb:uN l s_ with
  | false=>
   have A1:s_<pT l:=by
    rcases Nat.lt_or_ge s_ (pT l) with h | h
    .exact h
    .have:s_=pT l:=by lia
     rw[this,r3]at hb;cases hb
   rw[Bool.not_false];exact gW ⟨_,_,rfl,rfl,⟨trivial,s_+1,rfl,∅,∅⟩,by show l.length-(((s_:Nat):Int)+1).toNat<l.length-((s_:Nat):Int).toNat;lia⟩
  | true=>
   have heq:s_=pT l:=by
    rcases Nat.lt_or_ge s_ (pT l) with h | h
    .rw[r4 s_ hs h]at hb;cases hb
    .lia
   rw[Bool.not_true];refine gq ⟨p,_,dx,_,_,rfl,hp,T.aI,T.ac,wc,_,rfl,l,rfl,sz,?_⟩;rw[vH,heq];exact q
def Fm:f7 P w K mg base nQ 1 a.bI a.cL ["self","length"] (sp_KG K a):=by
 refine T.dH.u.ok E1 (λAr A outer s H vs Q E hr h=>?_);obtain⟨p,l,m,n,rfl,hp,ok,hn,q⟩:=h;refine⟨_,(mV (nJ (i:=2) E1.nd (nE (oC (K:=K) rfl) rfl T.db oz (mM (pD (K:=K) rfl (pv 0) rfl) mQ)))
  (mY (ny (pL pQ (m5 zO (pD (K:=K) rfl (pv 0) rfl) (m5 pG (m5 rl (pv 1) (pv 2)) mX)) qL (oY (m5 vn (m5 pG (pv 2) (pv 1)) mX)))))),?_⟩
 obtain⟨dx,hp⟩:=hp;have l1:=ok.l1;have l20:=ok.l20;have ds:=IL (n:=n) l1;have dp:=Iv (n:=n) (s:=l.length);have gl:=A2 l ((n:Int)/(l.length:Nat)+2);have gm:((n:Int)/(l.length:Nat)+2).toNat*l.length<=62*20:=uB ∅ l20;walk_at "rd";refine⟨p,_,dx,_,_,rfl,hp,T.aI,T.ac,wc,_,_,rfl,o9 ∅,p,_,dx,_,_,rfl,hp,T.aI,T.ac,wc,⟨∅,∅⟩,l,_,rfl,rfl,∅,∅,∅,_,rfl,_,rfl,by rw[sizeLine_eq];lia,?_⟩;rw[B7 _ ∅];have e:((l.length:Int)+(n:Nat)-1).toNat=l.length+n-1:=by lia
 rw[e];exact q
def D7:f7 P w K mg base nQ 1 a.bh a.cq ["self","length"] (sp_KD K a):=by
 refine T.dk.u.ok Zq5 (λAr A outer s H vs Q E hr h=>?_);obtain⟨p,l,m,n,rfl,hp,q⟩:=h;refine⟨_,(mY (ny (pD (K:=K) rfl (pv 0) rfl))),?_⟩;walk_at "rd";rcases hp with⟨dx,hp⟩|⟨la,da,ds,h⟩
 .exact⟨p,_,dx,_,_,rfl,hp,T.aQ,T.aw,wc,q⟩
 .obtain⟨dx,f⟩:=id h.fld;exact⟨p,_,dx,_,_,rfl,f,T.ag,T.aa,uw,q⟩
def Ic:f7 P w K mg base nQ 1 a.bL a.cP ["self"] (sp_KI K a):=by refine T.dI.u.ok Zq4 (λAr A outer s H vs Q E hr h=>?_);obtain⟨p,la,da,l,m,ds,rfl,hp,q⟩:=h;refine⟨_,(mY (ny (uV (ZfU (K:=K) rfl) rfl T.dN uh (mM (pD (K:=K) rfl (pv 0) rfl) mQ)))),?_⟩;obtain⟨dx,f⟩:=hp.fld;walk_at "rd";exact⟨p,_,dx,_,_,rfl,f,T.ag,T.af,G7,la,_,rfl,.inl (.mk hp.lack),q⟩
def Dr:f7 P w K mg base nQ 1 a.bA a.ck ["self","text","kinds"] (sp_K4 K a):=by
 refine T.dh.u.ok Zra (λAr A outer s H vs Q E hr h=>?_);obtain⟨p,dx,C,l,m,rfl,hC,hp,q⟩:=h;refine⟨_,(mV (vP (pv 0) (pv 1) rfl)
  (mY (vP (pv 0) (pv 2) rfl))),?_⟩
 walk_at "rd";rcases hC with rfl | rfl | rfl
 .exact⟨p,a.c_LW,dx,[],rfl,hp,T.aQ,T.aw,(by show 0<1000;decide),p,a.c_LW,dx,_,rfl,nu,T.aQ,T.ao,(by show 1<1000;decide),q _ nu (λb o e ne=>by rw[mT ne,mT ne];exact e)⟩
 .exact⟨p,a.c_LX,dx,[],rfl,hp,T.ag,T.aa,(by show 0<1000;decide),p,a.c_LX,dx,_,rfl,nu,T.ag,T.ad,(by show 1<1000;decide),q _ nu (λb o e ne=>by rw[mT ne,mT ne];exact e)⟩
 .exact⟨p,a.c_L9,dx,[],rfl,hp,T.aI,T.ac,(by show 0<1000;decide),p,a.c_L9,dx,_,rfl,nu,T.aI,T.ax,(by show 1<1000;decide),q _ nu (λb o e ne=>by rw[mT ne,mT ne];exact e)⟩
def Zrw:f7 P w K mg base nQ 1 a.f_LQ a.d_LQ ["words","word"] (sp_LQ K a):=by
 refine T.eY.u.ok Bx (λAr A outer s H vs Q E hr h=>?_);obtain⟨b,ls,wd,rfl,hb,hn,hz,hw,q⟩:=h;refine⟨_,(mV (qx pS rfl (vX rfl T.dA (mM (m5 pG (nE (oC (K:=K) rfl) rfl T.db oz (mM (pv 1) mQ)) mX) mQ)) (oG (i:=2) Bx.nd rfl (Or.inr rfl))
  (mV (Do (i:=3) (N:=["piece","end","word"]) (ix:=[none,some 2,some 1]) rfl Bx.nd rfl rfl rfl (sw rfl) rfl (rX (K:=K) rfl (pv 0)) (λ_ _ _ _=>(oG (i:=0) (show (["piece","end","word"]:AJ).Nodup from by decide +kernel) rfl (Or.inl rfl) (Or.inr rfl))) (λ_ _ _ _=>(xm (qu (vC (K:=K) rfl ug PySem.F.slot_str_endswith PySem.F.type_str_endswith Zhm (pL pQ (pv 2) qL (oY (pv 1))) (mM (pv 0) mQ))))) (λ_ _ _ _=>(pv 0)))
  (mY (oF (oA xf (nE (oC (K:=K) rfl) rfl T.db oz (mM (pv 3) mQ)) mX (nZ _)) (mV (nJ (i:=4) Bx.nd (Zj1 rfl rfl T.fQ rfl T.db (mM (pv 3) mQ)))
  (mY (ny (rp (mM (pv 4) (mM (m5 vn (pv 2) (nE (oC (K:=K) rfl) rfl T.db oz (mM (pv 4) mQ))) mQ)))))) oE))))
  (mY (ny sj))),?_⟩
 walk_at "rd";refine⟨_,_,rfl,o9 hw,_,rfl,∅,∅,f9.range (λi U H'=>∃v2 v3 v4,U=[some (.ref b),some (tx wd),v2,v3,v4]/\fT H H'/\∀e,e<i->iR ls wd e=none) ⟨_,_,_,rfl,fT.refl _,λe he=>JO he (x8 _)⟩ ?_ ?_⟩
 .rintro i U H1 hi ⟨v2,v3,v4,rfl,s1,hno⟩;have hi':i<=wd.length:=by lia
  have sz:wd.length<=sizeLine:=og hw (by rw[sizeLine_eq];decide);have ec:oR wd none (some (0+(i:Int)))=wd.take i:=by
   have e2:(0+(i:Int))=((i:Nat):Int):=by lia
   rw[e2,vH]
  walk_at "rd";refine⟨b,rfl,⟨_,.mk (s1 _ _ hb)⟩,f8.listM (xs:=ls.map tx) (λk=>qZ (wd.take i) (ls.getD k [])) (λk=>tx (ls.getD k [])) (by rw[m6];lia) (.mk (s1 _ _ hb)) ?_ ?_ ?_⟩
  .intro k H2 Q2 hk s2 q2;walk_at "rd";rw[m6]at hk;refine⟨_,rfl,wd,rfl,sz,rfl,_,ls.getD k [],rfl,?_,?_⟩
   .rw[vM hk]
   .rw[ec];exact q2 H2 (fT.refl _)
  .intro k H2 Q2 hk _ s2 q2;rw[m6]at hk;walk_at "rd";rw[vM hk];exact q2 H2 (fT.refl _)
  .intro p H2 s2 n2 l2;rw[m6]at l2;have e0:((List.range ls.length).filter λk=>qZ (wd.take i) (ls.getD k [])).map (λk=>tx (ls.getD k []))=(ls.filter (qZ (wd.take i))).map tx:=by rw[<-zo (qZ (wd.take i)) [] ls,ql];rfl
   rw[e0]at l2;refine⟨_,_,rfl,.inl ⟨_,.mk l2,rfl⟩,?_⟩;rw[m6];refine gK (λh=>?_) (λh=>?_)
   .have h':(0:Int)<((ls.filter (qZ (wd.take i))).length:Nat):=JK h;refine⟨p,_,rfl,l2,∅,λm hm=>hz m (qr.mp hm).1,λk m hk hb=>?_⟩;have hm1:m.length<=1000:=hz m (qr.mp (qA hk)).1;refine⟨_,_,rfl,o9 hm1,by rw[sizeLine_eq];decide,gQ.of λp3 H3 s3 n3 l3=>?_⟩;refine q _ H3 (s1.trans (s2.trans s3)) ?_;have e1:=Jq hi' hno (ZhA hi' hk hb);rw[e1];exact⟨p3,rfl,by rw[l3,Int.zero_add]⟩
   .have h':ls.filter (qZ (wd.take i))=[]:=by
     apply xE.mp;by_cases z:0<(ls.filter (qZ (wd.take i))).length
     .exact JO (JI (show (0:Int)<((ls.filter (qZ (wd.take i))).length:Nat) by lia)) h
     .lia
    refine⟨_,_,_,rfl,s1.trans s2,λe he=>?_⟩;by_cases e':e=i
    .rw[e'];exact Zhz hi' h'
    .exact hno e ∅
 .rintro U H1 ⟨v2,v3,v4,rfl,s1,hno⟩;walk_at "rd";refine q _ H1 s1 ?_;have:rS ls wd=none:=ZgM λe he=>hno e ∅;rw[this];rfl
def ZrC:f7 P w K mg base nQ 1 a.f_LB a.d_LB ["thing","least","most"] (sp_LB K a):=by
 refine T.dS.u.ok ZqQ (λAr A outer s H vs Q E hr h=>?_);obtain⟨x,y,z,rfl,q⟩:=h;refine⟨_,(mV (oF (PW.pt (uM (qu (nE (qg (K:=K) rfl) rfl T.cZ qb (mM (pv 0) (mM (qc (v:=.ty "bool") rfl T.eE xb rfl) mQ)))) (vD (rY (qu (nE (qg (K:=K) rfl) rfl T.cZ qb (mM (pv 0) (mM (qc (v:=.ty "int") rfl T.fM DA rfl) mQ)))))))) (mY (ny qk)) oE)
  (mY (ny (sM (qt BH (pv 1) (pv 0) (nZ _)) (ub (qt BH (pv 0) (pv 2) (nZ _))))))),?_⟩
 walk_at "rd";refine⟨_,_,_,_,false,rfl,rfl,.ty (.pl (.int _)),Hm,gq ⟨_,_,_,_,true,rfl,rfl,.ty (.pl (.int _)),tL,gq (gK (λh=>?_) (λh=>?_))⟩⟩
 .rw[h,sS]at q;exact q
 .rw[tN.mpr h,sJ]at q;exact q
def ZrL:f7 P w K mg base nQ 1 a.f_KS a.d_KS ["text"] (sp_KS K a):=by
 refine T.dF.u.ok ZqZ (λAr A outer s H vs Q E hr h=>?_);have Av:=hr.units;obtain⟨l,rfl,hl,q⟩:=h;refine⟨_,(mY (ny (uV (Hh (K:=K) rfl) rfl T.dO wb (mM (tG (N:=["spot","text"]) (ix:=[none,some 0]) rfl (sw rfl) rfl (vX rfl T.dA (mM (m5 pG (nE (oC (K:=K) rfl) rfl T.db oz (mM (pv 0) mQ)) mX) mQ)) (λ_ _ _ _=>(oG (i:=0) (show (["spot","text"]:AJ).Nodup from by decide +kernel) rfl (Or.inl rfl) (Or.inr rfl))) (λ_ _ _ _=>(xm (oA (qV (K:=K) rfl Av) (vC (K:=K) rfl ug wk wf wq (pv 1) (mM (pL pQ (pv 1) (oY (pv 0)) qL) mQ)) (pv 0) (nZ _)))) (λ_ _ _ _=>(pv 0))) mQ)))),?_⟩;have sz:∀k:Nat,k<=1000->k<=sizeLine:=λk h=>og h (by rw[sizeLine_eq];decide);walk_at "rd";refine⟨_,_,rfl,o9 ∅,_,rfl,∅,∅,?_⟩;have e0:((l.length:Int)+1).toNat=l.length+1:=by lia
 rw[e0];refine f8.range (λi=>decide (∀j,j<i->¬oq l (l.drop i) j)) (λi=>.int ((i:Nat):Int)) ∅ ?_ ?_ ?_
 .intro i H1 Q1 hi s1 q1;have e1:(0+(i:Int))=((i:Nat):Int):=by lia
  walk_at "rd";refine⟨rfl,_,rfl,l,rfl,sz _ ∅,l,_,rfl,rfl,λr hr=>.inl ⟨rfl,?_⟩⟩;rw[e1,z9]at hr;rw[mR nU,e1,Zjb ∅ hr];exact q1 H1 (fT.refl _)
 .intro i H1 Q1 hi _ s1 q1;have e1:(0+(i:Int))=((i:Nat):Int):=by lia
  walk_at "rd";rw[e1];exact q1 H1 (fT.refl _)
 .intro p H1 s1 n1 l1;exact⟨p,_,rfl,.inl ⟨.mk l1,λp2 n2=>q p2 _ (s1.trans (pX n2)) (s1.free n2) nu⟩⟩
def ZrN:f7 P w K mg base nQ 1 a.f_KP a.d_KP ["text","spots","letter"] (sp_KP K a):=by
 refine T.dB.u.ok Zq2 (λAr A outer s H vs Q E hr h=>?_);have Av:=hr.units;obtain⟨l,S,c,t,rfl,hl,ht,hS,q⟩:=h;refine⟨_,(mY (ny (uV (Hh (K:=K) rfl) rfl T.dO wb (mM (tG (N:=["spot","letter","text"]) (ix:=[none,some 2,some 0]) rfl (sw rfl) rfl (ZnB (K:=K) rfl (pv 1)) (λ_ _ _ _=>(oG (i:=0) (show (["spot","letter","text"]:AJ).Nodup from by decide +kernel) rfl (Or.inl rfl) (Or.inr rfl))) (λ_ _ _ _=>(xm (oA (qV (K:=K) rfl Av) (pL pQ (pv 2) (oY (pv 0)) (oY (m5 pG (pv 0) mX))) (pv 1) (nZ _)))) (λ_ _ _ _=>(m5 pG (pv 0) mX))) mQ)))),?_⟩;have sz:∀k:Nat,k<=1000->k<=sizeLine:=λk h=>og h (by rw[sizeLine_eq];decide);have gd:∀i,i<S.length->(S.map λ(i:Nat)=>V.int i).getD i .non=V.int ((S.getD i 0:Nat):Int):=λi hi=>by rw[pM,pA,om hi,pM,om hi];rfl
 walk_at "rd";refine⟨t,rfl,⟨_,.mk ht⟩,f8.tup (xs:=S.map λ(i:Nat)=>V.int i) (λi=>decide (l[S.getD i 0]?=some c)) (λi=>.int ((S.getD i 0+1:Nat):Int)) (by rw[m6];lia) (.mk ht) ?_ ?_ ?_⟩
 .intro i H1 Q1 hi s1 q1;rw[m6]at hi;rw[gd i hi];walk_at "rd";refine⟨_,rfl,_,rfl,l,rfl,sz _ ∅,.inl ⟨rfl,?_⟩⟩;rw[mR nU,cut1];exact q1 H1 (fT.refl _)
 .intro i H1 Q1 hi _ s1 q1;rw[m6]at hi;rw[gd i hi];walk_at "rd";exact q1 H1 (fT.refl _)
 .intro p H1 s1 n1 l1;rw[m6,ZeJ S (λs=>decide (l[s]?=some c)) (· + 1)]at l1;exact⟨p,_,rfl,.inl ⟨.mk l1,λp2 n2=>q p2 _ (s1.trans (pX n2)) (s1.free n2) nu⟩⟩
def Cp:f7 P w K mg base nQ 1 a.f_L1 a.d_L1 ["_law_script","_law_k"] (sp_L1 K a):=by
 refine T.eC.u.ok ZqS (λAr A outer s H vs Q E hr h=>?_);obtain⟨b,ns,k,rfl,hS,hk,hk1,q⟩:=h;refine⟨_,(mV (oF (oA Ej (pv 1) (nE (oC (K:=K) rfl) rfl T.db oz (mM (pv 0) mQ)) (nZ _)) (mY (ny (pJ (uD (K:=K) rfl) (pv 0) (pv 1) (λ_ _=>rfl)))) oE)
  (mY (ny (m5 pG (m5 xc mX (pv 1)) mX)))),?_⟩
 walk_at "rd";refine⟨_,_,rfl,.inl ⟨_,hS,rfl⟩,?_⟩;rw[m6];refine gK (λh=>?_) (λh=>?_)
 .have h':k<ns.length:=JK h;exact⟨b,_,k,_,rfl,rfl,hS,Zox hk h',q _⟩
 .exact⟨.inl ⟨⋯,⋯⟩,q _⟩
def Js:f7 P w K mg base nQ 1 a.f_L6 a.d_L6 ["_law_cell_here","_law_k"] (sp_L6 K a):=by
 refine T.fm.u.ok Dt (λAr A outer s H vs Q E hr h=>?_);obtain⟨c,k,rfl,q⟩:=h;refine⟨_,(mV (nJ (i:=2) Dt.nd (m5 qB (m5 pG (m5 pG (m5 xc (m5 qB (pv 0) mX) mX) (m5 xc (pv 1) mX)) mX) mX))
  (mV (nJ (i:=2) Dt.nd (m5 qB (m5 pG (m5 pG (m5 xc (m5 qB (m5 xc (pv 2) (pv 2)) mX) mX) (m5 xc (pv 1) mX)) mX) mX))
  (mY (ny (m5 qB (m5 xc (pv 2) (pv 2)) mX))))),?_⟩
 walk_at "rd";exact⟨⋯,.inr ⟨⋯,⋯⟩,.inr ⟨⋯,⋯⟩,⋯,cm ⋯ ⋯,⋯,.inr ⟨⋯,⋯⟩,.inr ⟨⋯,⋯⟩,⋯,cm ⋯ ⋯,⋯,q _ (vx _ ⋯)⟩
def Zrv:f7 P w K mg base nQ 1 a.f_LR a.d_LR ["_law_cell_here"] (sp_LR K a):=by
 refine T.eZ.u.ok yb (λAr A outer s H vs Q E hr h=>?_);obtain⟨c,rfl,q⟩:=h;refine⟨_,(mV (nJ (i:=1) yb.nd (uV (El rfl) rfl T.dN uh (mM (qj (l:=[97,98,99,100,101,102,103,104,105,106,107,108,109,110,111,112,113,114,115,116,117,118,119,120,121,122]) nofun) mQ)))
  (mV (nJ (i:=2) yb.nd (sk mQ))
  (mV (nJ (i:=3) yb.nd (m5 rl (pv 0) mX))
  (mV (qx pS rfl (vX rfl T.dA (mM (m5 pG mX (m5 qB (pv 0) mX)) mQ)) (oG (i:=4) yb.nd rfl (Or.inl rfl))
  (mV (qe (sV ue vo vf uC (pv 2) (mM (sV ue PySem.F.slot_list_pop PySem.F.type_list_pop ZlQ (pv 1) (mM (m5 qB (pv 3) (nE (oC (K:=K) rfl) rfl T.db oz (mM (pv 1) mQ))) mQ)) mQ)))
  (mY (nJ (i:=3) yb.nd (m5 rl (pv 3) mX)))))
  (mY (ny (sV ug PySem.F.slot_str_join PySem.F.type_str_join ZnU (qj (l:=[]) nofun) (mM (nE (ZfT rfl) rfl T.dU Co (mM (pv 2) mQ)) mQ)))))))),?_⟩
 walk_at "rd";refine⟨rB,rfl,⋯,gB.at λp1 n1=>⟨pE _,gB.at λp2 n2=>?_⟩⟩;have n2':H p2=none:=(pX n1).free n2;have ne:p1≠p2:=λe=>by rw[<-e,nu]at n2;cases n2
 have b1:=vx c (show (4:Int)≠0 by decide);have b2:=vO c (show (0:Int)<4 by decide);generalize c % 4=c4 at b1 b2;refine⟨⟨⋯,⋯⟩,⋯,_,rfl,∅,∅,f9.range (λi U H'=>fT H H'/\∃(L F:mN) (le:Int) (v4:Option V),U=[some (.int c),some (.ref p1),some (.ref p2),some (.int le),v4]/\H' p1=some (.lst ((fX L).map tx))/\H' p2=some (.lst ((fX F).map tx))/\(L++F).Perm rB/\F.length=i) ?_ ?_ ?_⟩
 .exact⟨(pX n1).trans (pX n2),rB,[],_,none,rfl,by rw[mT ne];exact nu,nu,by rw[va],rfl⟩
 .rintro i U H1 hi ⟨s1,L,F,le,v4,rfl,h1,h2,pm,lf⟩;have hi4:i<4:=by lia
  have ll:=pm.length_eq;have l26:rB.length=26:=rfl;rw[nN,l26]at ll;have sl:((fX L).map tx).length=L.length:=by unfold fX;rw[m6,m6]
  walk_at "rd";have lx0:(0:Int)<(L.length:Nat):=by lia
  have m0:=vx le (show ((L.length:Nat):Int)≠0 by lia);have m1:=vO le lx0;refine⟨.inl ⟨rfl,_,.mk h2⟩,.inl ⟨rfl,_,.mk h1⟩,_,_,rfl,.inl ⟨_,.mk h1,rfl⟩,?_⟩;rw[sl];generalize hk:le % ((L.length:Nat):Int)=k at m0 m1;have kl:k.toNat<L.length:=by lia
  refine⟨lx0,p1,(fX L).map tx,k,k.toNat,tx [L[k.toNat]],rfl,rfl,h1,∅,∅,?_,?_,?_⟩
  .rw[sl];have nk:¬k<0:=by lia
   simp[seqIndex?,nk,m0,m1]
  .unfold fX;rw[ql,pA,om kl];rfl
  refine⟨p2,(fX F).map tx,tx [L[k.toNat]],rfl,rfl,by rw[mT (nX ne)];exact h2,by unfold fX;rw[m6,m6,sizeLine_eq];lia,?_⟩;refine⟨⟨⋯,⋯⟩,gh (gh s1 n1) n2',L.eraseIdx k.toNat,F++[L[k.toNat]],_,_,rfl,?_,?_,?_,by simp[lf]⟩
  .rw[mT ne,nu];unfold fX;rw[yR,yR]
  .rw[nu];unfold fX;simp
  .have p3:=xU L k.toNat kl;have p4:(L.eraseIdx k.toNat++(F++[L[k.toNat]])).Perm ((L[k.toNat]::L.eraseIdx k.toNat)++F):=by rw[<-qW];exact List.perm_append_comm
   exact(p4.trans (p3.append_right F)).trans pm
 .rintro U H1 ⟨s1,L,F,le,v4,rfl,h1,h2,pm,lf⟩;walk_at "rd";have nd:(L++F).Nodup:=pm.nodup_iff.mpr ⋯;have ndF:=(ut.mp nd).2.1;have sub:∀c∈F,c∈rB:=λc hc=>pm.mem_iff.mp (tI _ hc);obtain⟨k1,k2⟩:=Zi7 ndF sub ∅ ∅;have one:∀m∈qd (fX F),m.length=1:=λm hm=>by obtain⟨c,_,rfl⟩:=pK.mp ((sB _).mem_iff.mp hm);rfl
  have sl:(fX F).length=F.length:=by unfold fX;rw[m6]
  refine⟨rfl,p2,fX F,rfl,h2,by rw[sizeLine_eq];lia,gB.of λp3 H3 s3 n3 l3=>⟨[],p3,qd (fX F),rfl,rfl,l3,?_,?_⟩⟩
  .rw[<-List.length_flatten,k2,(sB _).length_eq,sl];simp
   lia
  .rw[Gv];exact q _ H3 k1 ∅ ∅ (s1.trans s3)
def Jw:f7 P w K mg base nQ 1 a.f_due a.d_due ["_law_text_here","_law_word_here"] (sp_due K a):=by
 refine T.fJ.u.ok yU (λAr A outer s H vs Q E hr h=>?_);obtain⟨l,m,w_,rfl,l40,hw,hm,q⟩:=h;refine⟨_,(mV (nJ (i:=2) yU.nd mX)
  (nL (mV (zK pS (PW.pt (zW (oA BH (pv 2) (nE (oC (K:=K) rfl) rfl T.db oz (mM (pv 1) mQ)) (nZ _)) (y9 (oA DQ (vC (K:=K) rfl ug wk wf wq (pv 0) (mM (pL pQ (pv 1) qL (oY (pv 2))) mQ)) mX (nZ _)))))
  (mY (nJ (i:=2) yU.nd (m5 pG (pv 2) mX))))
  (nL (mV (oF (oA xf (pv 2) (nE (oC (K:=K) rfl) rfl T.db oz (mM (pv 1) mQ)) (nZ _)) (mY (ny (rp (mM (qj (l:=[116,104,101,114,101]) nofun) (mM (vC (K:=K) rfl ug wk wf wq (pv 0) (mM (pv 1) mQ)) mQ))))) oE)
  (nL (mV (nJ (i:=3) yU.nd (m5 vn (pv 2) mX))
  (nL (mV (zK pS (oA DQ (vC (K:=K) rfl ug wk wf wq (pv 0) (mM (pL pQ (pv 1) (oY (pv 3)) (oY (pv 2))) mQ)) mX (nZ _))
  (mY (nJ (i:=3) yU.nd (m5 vn (pv 3) mX))))
  (nL (mY (ny (rp (mM (qj (l:=[108,97,99,107,115]) nofun) (mM (pL pQ (pv 1) (oY (pv 3)) (oY (pv 2))) (mM (pv 3) mQ)))))))))))))))),?_⟩
 walk_at "rd";walk_at "g";refine gS.by (λU H'=>∃e:Nat,U=[some (tx l),some (tx w_),some (.int (e:Nat)),none]/\fT H H'/\e<=w_.length+1/\∀e',e'<e->mZ (w_.take e') l) (λU _=>match U with | [_,_,some (.int e),_]=>(w_.length+1-e.toNat) | _=>0) ⟨0,rfl,fT.refl _,pE _,λe' h=>JO h (x8 _)⟩ ?_
 rintro U H1 ⟨e,rfl,s1,he,hI⟩;refine⟨decide (e<=w_.length)&&hG (w_.take e) l,λQ1 hq=>?_,λH2 s2=>?_⟩
 .walk_at "rd";refine⟨_,_,rfl,o9 ∅,gK (λh=>?_) (λh=>?_)⟩
  .have h':=JK h;refine⟨rfl,_,rfl,w_,rfl,sz _ ∅,l,w_.take e,rfl,by rw[vH],λr hr=>?_⟩;have eb:decide (0<=r)=(decide (e<=w_.length)&&hG (w_.take e) l):=by
    rw[JI (show e<=w_.length by lia),sS,qv,JH,tP];rcases hr with⟨rfl,no⟩|⟨i,rfl,ai,_⟩
    .exact⟨λz=>by lia,λz=>JO z no⟩
    .exact⟨λ_=>⟨i,ai⟩,λ_=>by lia⟩
   rw[eb];exact hq H1 (fT.refl _)
  .have h':¬e<=w_.length:=λz=>h (JI ∅);have:=hq H1 (fT.refl _);rw[JJ h',sJ]at this;exact this
 .refine gK (λh=>?_) (λh=>?_)
  .rw[oJ,JH,tP]at h;walk_at "rd";refine⟨⟨e+1,by rw[Int.natCast_add];rfl,s1.trans s2,∅,λe' h'=>?_⟩,∅⟩;by_cases z:e'=e
   .rw[z];exact h.2
   .exact hI e' ∅
  .walk_at "k";refine⟨_,_,rfl,o9 ∅,gK (λg=>?_) (λg=>?_)⟩
   .have g':=JK g;have ew:e=w_.length+1:=by lia
    have iw:mZ w_ l:=by have:=hI w_.length ∅;rwa [rH]at this
    refine⟨rfl,l,w_,rfl,rfl,λr hr=>⟨sz _ ⋯,gQ.of λt H3 s3 n3 l3=>?_⟩⟩;rcases hr with⟨_,no⟩|⟨i,rfl,ai,mn⟩
    .exact JO iw no
    .exact q _ H3 (s1.trans (s2.trans s3)) ⟨t,_,rfl,l3,.inl ⟨i,Hw ai mn,rfl⟩⟩
   .have ew:e<=w_.length:=by
     rcases Nat.lt_or_ge w_.length e with z | z
     .exact JO (JI ∅) g
     .exact z
    have no:¬mZ (w_.take e) l:=λz=>h (by rw[JI ew,tP.mpr z];rfl);have e1:1<=e:=by
     rcases Nat.eq_zero_or_pos e with z | z
     .rw[z,List.take_zero]at no;exact JO (mZ.nil l) no
     .exact z
    have now:¬mZ w_ l:=λz=>no (mZ.trans ⟨0,by rw[ou];lia,by rw[sG,ou,rM ew]⟩ z);have ee:((e:Nat):Int)-1=((e-1:Nat):Int):=by lia
    walk_at "g";rw[ee];walk_at "g";refine gS.by (λU H'=>∃s:Nat,U=[some (tx l),some (tx w_),some (.int (e:Nat)),some (.int (s:Nat))]/\fT H H'/\s<e/\∀s',s<s'->s'<=e->mZ ((w_.drop s').take (e-s')) l) (λU _=>match U with | [_,_,_,some (.int s)]=>s.toNat | _=>0) ⟨e-1,rfl,s1.trans s2,∅,λs' h1 h2=>?_⟩ ?_
    .have:e-s'=0:=by lia
     rw[this,List.take_zero];exact mZ.nil l
    rintro U H3 ⟨s_,rfl,s3,hs,hJ⟩;refine⟨hG ((w_.drop s_).take (e-s_)) l,λQ3 hq=>?_,λH4 s4=>?_⟩
    .walk_at "rd";refine⟨rfl,_,rfl,_,rfl,w_,rfl,sz _ ∅,l,(w_.drop s_).take (e-s_),rfl,by rw[x6],λr hr=>?_⟩;have eb:decide (0<=r)=hG ((w_.drop s_).take (e-s_)) l:=by
      rw[qv,JH,tP];rcases hr with⟨rfl,no⟩|⟨i,rfl,ai,_⟩
      .exact⟨λz=>by lia,λz=>JO z no⟩
      .exact⟨λ_=>⟨i,ai⟩,λ_=>by lia⟩
     rw[eb];exact hq H3 (fT.refl _)
    .refine gK (λh=>?_) (λh=>?_)
     .have hi:=tP.mp h;have s1':1<=s_:=by
       rcases Nat.eq_zero_or_pos s_ with z | z
       .rw[z,sG,Nat.sub_zero]at hi;exact JO hi no
       .exact z
      walk_at "rd";refine⟨⟨s_-1,by rw[show ((s_:Nat):Int)-1=((s_-1:Nat):Int) by lia],s3.trans s4,∅,λs' h1 h2=>?_⟩,∅⟩;by_cases z:s'=s_
      .rw[z];exact hi
      .exact hJ s' ∅ h2
     .have hn:¬mZ ((w_.drop s_).take (e-s_)) l:=λz=>h (tP.mpr z);have du:Di l w_ e s_:=⟨ew,hI,hs,hn,hJ⟩;walk_at "k";refine⟨_,rfl,_,rfl,w_,rfl,sz _ ∅,sz _ ⋯,gQ.of λt H5 s5 n5 l5=>?_⟩;rw[x6]at l5;exact q _ H5 (s3.trans (s4.trans s5)) ⟨t,_,rfl,l5,.inr ⟨FP now,_,_,du.first hm,rfl⟩⟩
def Zrq:f7 P w K mg base nQ 1 a.f_MA a.d_MA ["_law_kinds_here","_law_most","_law_number"] (sp_MA K a):=by
 refine T.fG.u.ok Bt (λAr A outer s H vs Q E hr h=>?_);obtain⟨m,most,n,rfl,ok,h1,h100,q⟩:=h;refine⟨_,(mV (nJ (i:=3) Bt.nd (pJ (uD (K:=K) rfl) (tG (N:=["_law_letter","_law_kinds_here"]) (ix:=[none,some 0]) rfl (sw rfl) rfl (vt (qj (l:=[97,98,99,100,101]) nofun)) (λ_ _ _ _=>(oG (i:=0) (show (["_law_letter","_law_kinds_here"]:AJ).Nodup from by decide +kernel) rfl (Or.inl rfl) (Or.inr rfl))) (λ_ _ _ _=>(xm (oA Zfv (pv 0) (pv 1) rfl))) (λ_ _ _ _=>(pv 0))) mX (λ_ _=>rfl)))
  (mV (nJ (i:=4) Bt.nd (sk (mM (m5 sC (m5 zO (pJ sR (pv 0) mX (λ_ _=>rfl)) (pv 1)) (pJ sR (pv 0) mX (λ_ _=>rfl))) (mM (pv 3) (mM (m5 sC (m5 sC (pJ sR (pv 0) mX (λ_ _=>rfl)) (pv 3)) (pJ sR (pv 0) mX (λ_ _=>rfl))) (mM (Zpi ug PySem.F.slot_str_upper PySem.F.type_str_upper Zkd (pJ sR (pv 0) mX (λ_ _=>rfl))) (mM (qj (l:=[32]) nofun) (mM (m5 sC (pJ sR (pv 0) mX (λ_ _=>rfl)) (qj (l:=[32]) nofun)) (mM (qj (l:=[63]) nofun) mQ)))))))))
  (mV (nJ (i:=4) Bt.nd (m5 DN (pv 4) (sk (mM sj (mM mX (mM qk (mM mX (mM (sk mQ) (mM (sk (mM (pJ sR (pv 0) mX (λ_ _=>rfl)) mQ)) (mM (rp (mM (pJ sR (pv 0) mX (λ_ _=>rfl)) mQ)) (mM Bd (mM (DB (CJ (pJ sR (pv 0) mX (λ_ _=>rfl)) (pJ sR (pv 0) mX (λ_ _=>rfl)) EM) rfl rfl {} ⋯) mQ))))))))))))
  (mY (ny (pJ (uD (K:=K) rfl) (pv 4) (m5 qB (pv 2) mX) (λ_ _=>rfl))))))),?_⟩
 have m1:=ok.m1;have m4:=ok.m4;have sz:∀k:Nat,k<=1000->k<=sizeLine:=λk h=>og h (by rw[sizeLine_eq];decide);obtain⟨c0,hc,mc⟩:=Zma m1;have lc:=ok.lets c0 mc;obtain⟨od,gx,hod,nod,aod⟩:=Zpy (m:=m) (A:=[97,98,99,100,101]) ⋯ (by show m.length<5;lia);walk_at "rd";refine⟨_,rfl,f8.text (l:=[97,98,99,100,101]) (λi=>!decide (([97,98,99,100,101]:mN).getD i 0∈m)) (λi=>tx [([97,98,99,100,101]:mN).getD i 0]) ⋯ ?_ ?_ ?_⟩
 .intro i H1 Q1 hi s1 q1;walk_at "rd";exact⟨_,m,rfl,rfl,q1 H1 (fT.refl _)⟩
 .intro i H1 Q1 hi _ s1 q1;walk_at "rd";exact q1 H1 (fT.refl _)
 .intro p1 H1 s1 n1 l1;rw[hod]at l1;have hr:gG [c0] most=List.replicate most.toNat c0:=rep1 c0 most;have lr:(gG [c0] most).length=most.toNat:=by rw[hr,List.length_replicate]
  have szm:m.length<=sizeLine:=sz _ ∅;refine⟨p1,_,_,_,rfl,rfl,.mk l1,jy,m,0,c0,rfl,rfl,szm,hc,[c0],most,rfl,rfl,∅,∅,{},m,0,c0,rfl,rfl,szm,hc,sz _ (by rw[lr];lia),m,0,c0,rfl,rfl,szm,hc,?_⟩;refine⟨sz _ {},m,0,c0,rfl,rfl,szm,hc,sz _ {},m,0,c0,rfl,rfl,szm,hc,rfl,[c0],rfl,trivial,{},λc h=>by rw[oN.mp h];exact lc,m,0,c0,rfl,rfl,szm,hc,sz _ ⋯,sz _ ⋯,gB.of λp2 H2 s2 n2 l2=>?_⟩;refine⟨sz _ ⋯,gB.of λp3 H3 s3 n3 l3=>⟨m,0,c0,rfl,rfl,szm,hc,sz _ ⋯,gB.of λp4 H4 s4 n4 l4=>⟨m,0,c0,rfl,rfl,szm,hc,sz _ ⋯,gQ.of λp5 H5 s5 n5 l5=>?_⟩⟩⟩;intro p6 n6;intro p7 n7;have s6:fT H5 (upd H5 p6 (.dK [])):=pX n6;have h6:upd H5 p6 (.dK []) p6=some (.dK []):=nu;generalize upd H5 p6 (.dK [])=H6 at s6 h6 n7;refine⟨m,0,c0,rfl,rfl,szm,hc,m,0,c0,rfl,rfl,szm,hc,nu,[(.inr ⟨[c0].toArray⟩,tx [c0])],rfl,by show (1:Nat)<=15;decide,sz _ ⋯,?_⟩;have s7:fT H6 (upd (upd H6 p7 (.dK [])) p7 (.dK (qS [] [(.inr ⟨[c0].toArray⟩,tx [c0])]))):=Ga n7;have h7:upd (upd H6 p7 (.dK [])) p7 (.dK (qS [] [(.inr ⟨[c0].toArray⟩,tx [c0])])) p7=some (.dK (qS [] [(.inr ⟨[c0].toArray⟩,tx [c0])])):=nu;generalize upd (upd H6 p7 (.dK [])) p7 (.dK (qS [] [(.inr ⟨[c0].toArray⟩,tx [c0])]))=H7 at s7 h7;refine gB.of λp8 H8 s8 n8 l8=>?_;have s28:fT H2 H8:=s3.trans (s4.trans (s5.trans (s6.trans (s7.trans s8))));refine Zqp (s28 _ _ l2) l8 (sz _ (by show (16:Nat)<=1000;decide)) λp9 H9 s9 n9 l9=>⟨⋯,?_⟩;obtain⟨v,hv,hm⟩:=BB (xs:=[tx (gG [c0] most++[c0]),tx [od],tx ([c0]++[od]++[c0]),tx ([c0].map λx=>x-32),tx [32],tx [c0,32],tx [63]]++[V.non,V.int 5,V.bl true,V.int 0,V.ref p3,V.ref p4,V.ref p5,V.ref p6,V.ref p7]) (i:=n % 16) ∅ (by show _<(16:Int);lia);refine⟨p9,_,_,v,rfl,rfl,.mk l9,hv,q v H9 (s1.trans (s2.trans (s28.trans s9))) ?_⟩;have tk:∀l:mN,l.length<=1000->qU l m most=false->jz K H9 (tx l) m most:=λl a b=>.inl ⟨l,rfl,a,b⟩;simp only[wJ,List.nil_append,ot,u6,or_false]at hm;rcases hm with rfl | rfl | rfl | rfl | rfl | rfl | rfl | rfl | rfl | rfl | rfl | rfl | rfl | rfl | rfl | rfl
  .exact tk _ (by rw[nN,lr,pZ];lia) (Zl2 (by rw[nN,lr,pZ];lia))
  .exact tk _ {} (x0 (c:=od) {} nod)
  .exact tk _ {} (x0 (c:=od) {} nod)
  .exact tk _ {} (x0 (c:=c0-32) {} (ok.out ∅))
  .exact tk _ {} (x0 (c:=32) {} (ok.out ∅))
  .exact tk _ {} (x0 (c:=32) {} (ok.out ∅))
  .exact tk _ {} (x0 (c:=63) {} (ok.out ∅))
  .exact .inr ZnG
  .exact .inr Ff
  .exact .inr Zpj
  .exact .inr Ff
  .exact .inr (GA ((s4.trans (s5.trans (s6.trans (s7.trans (s8.trans s9))))) _ _ l3) rfl)
  .exact .inr (GA ((s5.trans (s6.trans (s7.trans (s8.trans s9)))) _ _ l4) rfl)
  .exact .inr (ZnF ((s6.trans (s7.trans (s8.trans s9))) _ _ l5) rfl)
  .exact .inr (Jf ((s7.trans (s8.trans s9)) _ _ h6))
  .exact .inr (Jf ((s8.trans s9) _ _ h7))
def DK:f7 P w K mg base nQ 1 a.bD a.cF ["self","room","letter"] (sp_KQ K a):=by
 refine T.dG.u.ok Zq1 (λAr A outer s H vs Q E hr h=>?_);have hu1:=yF hr;obtain⟨p,l,m,sp,i,s_,c,rfl,hp,hi,hc,q⟩:=h;refine⟨_,(mY (ny (ZlG hu1 (pJ (wM (K:=K) rfl) (pJ (uD (K:=K) rfl) (pD (K:=K) rfl (pv 0) rfl) (pv 1) (λ_ _=>rfl)) mX (λ_ _=>rfl)) (pv 2) ⟨rfl,rfl,rfl,rfl⟩))),?_⟩;obtain⟨dx,qa,ys,h1,h2,h3⟩:=hp;have e:=h3.len;have hi':i<sp.length:=(oM.mp hi).1;have hy:ys[i]?=some ys[i]:=om ∅;obtain⟨t,d,w1,kvs,ey,ht,hd,_,_,hs,hway⟩:=h3.rooms i _ hy;rw[hi]at hs;injection hs with hs;walk_at "rd";refine⟨p,_,dx,_,_,rfl,h1,T.aM,T.ah,Gg,qa,ys,_,ys[i],rfl,rfl,.mk h2,?_,?_⟩
 .unfold qh sg;rw[mS ∅,mS ∅,uj,rh];exact hy
 .rw[ey];exact⟨t,_,_,_,rfl,rfl,.mk ht,rfl,d,rfl,.inl ⟨kvs,hd⟩,_,.inl ⟨kvs,nO [c],hd,rfl,rfl⟩,q _ (by rw[hs];exact hway c hc)⟩
def ZrW:f7 P w K mg base nQ 1 a.bc a.cn ["self"] (sp_K5 K a):=by refine T.e9.u.ok Zq9 (λAr A outer s H vs Q E hr h=>?_);obtain⟨p,la,da,l,m,ds,rfl,hp,q⟩:=h;refine⟨_,(mY (ny (pD (K:=K) rfl (pv 0) rfl))),?_⟩;obtain⟨dx,f⟩:=hp.fld;walk_at "rd";exact⟨p,_,dx,_,_,rfl,f,T.ag,T.aa,uw,q⟩
def ZrB:f7 P w K mg base nQ 2 a.f_LF a.d_LF ["thing"] (sp_LF K a):=by
 refine T.dZ.u.ok ZqM (λAr A outer s H vs Q E hr h=>?_);have Av:=hr.units;obtain⟨l,rfl,hl,q⟩:=h;refine⟨_,(mV (oF (rY (qu (nE (qg (K:=K) rfl) rfl T.cZ qb (mM (pv 0) (mM (qc (v:=.ty "str") rfl T.fF yo rfl) mQ))))) (mY (ny qk)) oE)
  (mV (oF (PW.pt (uM (oA Ej (nE (oC (K:=K) rfl) rfl T.db oz (mM (pv 0) mQ)) mX (nZ _)) (vD (oA xf (nE (oC (K:=K) rfl) rfl T.db oz (mM (pv 0) mQ)) (xh rfl T.c_KX) (nZ _))))) (mY (ny qk)) oE)
  (mY (ny (sM (nW (GY T) (hM hr) rfl T.dP m9 (mM (pv 0) (mM (ZlE rfl T.c_KH) mQ))) (ub (qt (qV (K:=K) rfl Av) (uV (El rfl) rfl T.dN uh (mM (pv 0) mQ)) (nE (DD rfl) rfl T.dU Co (mM (uV (C9 rfl) rfl T.fL EV (mM (pv 0) mQ)) mQ)) (nZ _)))))))),?_⟩
 walk_at "rd";refine⟨_,_,_,_,true,rfl,rfl,.ty (.pl (.str _)),tL,gq ?_⟩;refine⟨_,_,rfl,o9 hl,?_⟩;refine gK (λh=>mH ?_) (λh=>?_)
 .have h1:¬1<=l.length:=by have:=JK h;lia
  have e:=q H (fT.refl _);unfold rD at e;rw[JJ h1,sJ,sJ,sJ]at e;exact e
 .have h1:1<=l.length:=by have:¬((l.length:Nat):Int)<1:=λz=>h (JI z);lia
  refine⟨_,_,rfl,o9 hl,?_⟩;refine gK (λh'=>?_) (λh'=>?_)
  .have h4:¬l.length<=4:=by have:=JK h';lia
   have e:=q H (fT.refl _);unfold rD at e;rw[JJ h4,wu,sJ,sJ]at e;exact e
  .have h4:l.length<=4:=by have:¬4<((l.length:Nat):Int):=λz=>h' (JI z);lia
   refine⟨l,rB,by rw[ZnZ],hl,λH2 s2=>?_⟩;refine gK (λha=>?_) (λha=>?_)
   .refine⟨l,rfl,hl,gB.of λp1 H3 s3 n3 l3=>?_⟩;refine⟨fX l,by rw[i3];exact hl,.inl ⟨l,rfl,rfl⟩,λp4 n4=>?_⟩;refine⟨p4,qo (fX l),rfl,nu,og (Zom l) (by rw[sizeLine_eq];lia),gB.of λp5 H5 s5 n5 l5=>?_⟩;refine Zqi (.mk ((pX n4).trans s5 _ _ l3)) (.mk l5) ?_;have e:=q H5 (s2.trans (s3.trans ((pX n4).trans s5)));unfold rD at e;rw[JI h1,JI h4,ha,sS,sS,sS]at e;exact e
   .have e:=q H2 s2;unfold rD at e;rw[tN.mpr ha,wu,sJ]at e;exact e
def CK:f7 P w K mg base nQ 2 a.f_LK a.d_LK ["thing","kinds","most"] (sp_LK K a):=by
 refine T.dQ.u.ok ZqL (λAr A outer s H vs Q E hr h=>?_);obtain⟨v,m,most,rfl,q⟩:=h;refine⟨_,(mY (ny (sM (nE (qg (K:=K) rfl) rfl T.cZ qb (mM (pv 0) (mM (qc (v:=.ty "str") rfl T.fF yo rfl) mQ))) (sM (qt BH (nE (oC (K:=K) rfl) rfl T.db oz (mM (pv 0) mQ)) (pv 2) (nZ _)) (ub (nW (GY T) (hM hr) rfl T.dP m9 (mM (pv 0) (mM (pv 1) mQ)))))))),?_⟩;walk_at "rd";rcases q with⟨l,rfl,hl,q⟩|⟨⟨T0,_,ty,kt,_⟩,q⟩
 .refine⟨_,_,_,_,true,rfl,rfl,.ty (.pl (.str _)),tL,gW ?_⟩;refine⟨_,_,rfl,o9 hl,?_⟩;refine gK (λh=>?_) (λh=>?_)
  .refine⟨l,m,rfl,hl,λH2 s2=>?_⟩;have e:=q H2 s2;unfold qU at e;rw[h,sS]at e;exact e
  .have e:=q H (fT.refl _);unfold qU at e;rw[tN.mpr h,sJ]at e;exact e
 .exact⟨_,_,_,_,false,rfl,rfl,.ty ty,kt,gq q⟩
def ZrJ:f7 P w K mg base nQ 2 a.bK a.cN ["self"] (sp_KZ K a):=by refine T.eO.u.ok ZqU (λAr A outer s H vs Q E hr h=>?_);obtain⟨p,l,m,rfl,hp,ok,q⟩:=h;refine⟨_,(mY (ny (nE (oC (K:=K) rfl) rfl T.db oz (mM (t9 (pv 0) T.aI T.bZ (ZrU T) (hM hr) T.fh.b .nil m9) mQ)))),?_⟩;obtain⟨dx,hp⟩:=hp;have l20:=ok.root.l20;walk_at "rd";exact⟨p,dx,_,rfl,hp,tR nofun nofun,p,l,m,rfl,⟨dx,hp⟩,ok,_,_,rfl,o9 ∅,q⟩
def Bi:f7 P w K mg base nQ 2 a.bi a.cu ["self","length"] (sp_KV K a):=by
 refine T.dD.u.ok ZqW (λAr A outer s H vs Q E hr h=>?_);obtain⟨p,l,m,n,N,M,W,rfl,hp,hn,q⟩:=h;refine⟨_,(mY (ny (nW (Zrt T) (hM hr) rfl T.eV m9 (mM (uX (qm (pv 0) T.aQ T.am (D7 T) (hM hr) T.dk.b .nil m9 (mM (pv 1) mQ)) (qm (pv 0) T.aI T.bv (Fm T) (hM hr) T.dH.b .nil m9 (mM (pv 1) mQ))) (mM (pv 1) mQ))))),?_⟩;walk_at "rd";rcases hp with⟨⟨dx,hp⟩,ok,rfl,rfl,rfl⟩|⟨⟨dx,hp⟩,ok,rfl,rfl,rfl⟩
 .have l40:=ok.l40;exact .inl ⟨p,dx,_,rfl,hp,tR nofun nofun,p,l,m,n,rfl,.inl ⟨dx,hp⟩,l,n,rfl,∅,∅,∅,q⟩
 .have l1:=ok.l1;have l20:=ok.l20;have ll:=wF (l:=l) (n:=n) l1;exact .inr ⟨p,dx,_,rfl,hp,tR nofun nofun,p,l,m,n,rfl,⟨dx,hp⟩,ok,∅,gC l n,n,rfl,∅,∅,∅,λq' H2 s2 n2 l2=>q q' H2 s2 n2 (by rw[l2,ZiA l1])⟩
def ZrA:f7 P w K mg base nQ 2 a.f_LG a.d_LG ["text","kinds"] (sp_LG K a):=by
 refine T.d0.u.ok vq (λAr A outer s H vs Q E hr h=>?_);have hu1:=yF hr;obtain⟨l,m,rfl,hl,hm,hlm,q⟩:=h;refine⟨_,(mV (nJ (i:=2) vq.nd (sk (mM (nW (ZrL T) (hM hr) rfl T.dF m9 (mM (pv 0) mQ)) mQ)))
  (mV (nJ (i:=3) vq.nd (sk (mM (qj (l:=[]) nofun) mQ)))
  (mV (nJ (i:=4) vq.nd (Zj2 hu1 (pJ (uD (K:=K) rfl) (pv 2) mX (λ_ _=>rfl)) mX))
  (mV (nJ (i:=5) vq.nd (sk mQ))
  (nL (mV (zK pS (oA Ej (nE (oC (K:=K) rfl) rfl T.db oz (mM (pv 5) mQ)) (nE (oC (K:=K) rfl) rfl T.db oz (mM (pv 2) mQ)) (nZ _))
  (mV (nJ (i:=6) vq.nd (nE (oC (K:=K) rfl) rfl T.db oz (mM (pv 5) mQ)))
  (mV (nJ (i:=7) vq.nd Bd)
  (mV (qx pS rfl (vt (pv 1)) (oG (i:=8) vq.nd rfl (Or.inl rfl))
  (mV (nJ (i:=9) vq.nd (nW (ZrN T) (hM hr) rfl T.dB m9 (mM (pv 0) (mM (pJ (uD (K:=K) rfl) (pv 2) (pv 6) (λ_ _=>rfl)) (mM (pv 8) mQ)))))
  (nL (mV (oF (PW.pt (zW (oA xf (nE (oC (K:=K) rfl) rfl T.db oz (mM (pv 9) mQ)) mX (nZ _)) (y9 (Zpa (Zj3 hu1 (pv 9) (pv 4)))))) (mV (zq hu1 (pv 4) (pv 9) (nE (oC (K:=K) rfl) rfl T.db oz (mM (pv 2) mQ)) rfl)
  (mV (qe (sV ue vo vf uC (pv 2) (mM (pv 9) mQ)))
  (mY (qe (sV ue vo vf uC (pv 3) (mM (m5 sC (pJ (uD (K:=K) rfl) (pv 3) (pv 6) (λ_ _=>rfl)) (pv 8)) mQ)))))) oE)
  (nL (mY (oF (oA xf (nE (oC (K:=K) rfl) rfl T.db oz (mM (pv 9) mQ)) mX (nZ _)) (mY (zq hu1 (pv 7) (pv 8) (Ew hu1 (pv 4) (pv 9) (λ_ _=>rfl)) rfl)) oE)))))))
  (nL (mY (qe (sV ue vo vf uC (pv 5) (mM (rp (mM (pJ (uD (K:=K) rfl) (pv 3) (pv 6) (λ_ _=>rfl)) (mM (pv 7) mQ))) mQ)))))))))
  (mY (ny (pv 5))))))))),?_⟩
 have sz:∀k:Nat,k<=2000->k<=sizeLine:=λk h=>og h (by rw[sizeLine_eq];decide);walk_at "rd";refine⟨l,rfl,hl,λt0 H1 s1 n1 h1=>⟨sz _ ⋯,gB.of λps H2 s2 n2 h2=>⟨sz _ ⋯,gB.of λpw H3 s3 n3 h3=>?_⟩⟩⟩;intro pn nn;have npw:ps≠pw:=on h2 n3;have npn:ps≠pn:=on (s3 _ _ h2) nn;have nwn:pw≠pn:=on h3 nn;have s4:fT H3 (upd H3 pn (.dT [])):=pX nn;have h4:upd H3 pn (.dT []) pn=some (.dT []):=nu;generalize upd H3 pn (.dT [])=H4 at s4 h4;have fH:H ps=none:=s1.free n2;have fW:H pw=none:=(s1.trans s2).free n3;have fN:H pn=none:=(s1.trans (s2.trans s3)).free nn;have k0:H4 t0=some (.tup ((gA (qI l)).map kV)):=by rw[CU];exact(s2.trans (s3.trans s4)) _ _ h1
 refine⟨ps,_,_,.ref t0,rfl,rfl,.mk ((s3.trans s4) _ _ h2),rfl,t0,gA (qI l),rfl,k0,h4,pE _,?_⟩;have S5:fT H (upd H4 pn (.dT [(gA (qI l),.int 0)])):=gh (s1.trans (s2.trans (s3.trans s4))) fN;have R5:im (upd H4 pn (.dT [(gA (qI l),.int 0)])) ps pw pn l [qI l] [[]] [t0]:=by
  refine⟨by rw[mT npn];exact(s3.trans s4) _ _ h2,by rw[mT nwn];exact s4 _ _ h3,nu,rfl,?_,rfl,?_,{},rfl⟩
  .intro i t s h5 h6;have hi:i=0:=by have:=(oM.mp h6).1;simpa using this
   subst hi;simp at h5 h6;rw[<-h5,<-h6,mT (λz=>by rw[z,h4]at k0;cases k0)];exact(s2.trans (s3.trans s4)) _ _ h1
  .intro i w s h5 h6;have hi:i=0:=by have:=(oM.mp h6).1;simpa using this
   subst hi;simp at h5 h6;rw[h5,<-h6];exact⟨(B6 l).symm,mZ.nil l⟩
 generalize upd H4 pn (.dT [(gA (qI l),.int 0)])=H5 at S5 R5;refine gB.of λpr H6 s6 n6 h6=>qy ?_;have fR:H pr=none:=S5.free n6;have nsr:ps≠pr:=on R5.hs n6;have nwr:pw≠pr:=on R5.hw n6;have nnr:pn≠pr:=on R5.hn n6;walk_at "rd";refine gS.by (λU H'=>∃(sp ws:mU) (ts:List AD) (ys:JR) (v6 v7 v8 v9:Option V),U=[some (tx l),some (tx m),some (.ref ps),some (.ref pw),some (.ref pn),some (.ref pr),v6,v7,v8,v9]/\fT H H'/\im H' ps pw pn l sp ws ts/\H' pr=some (.lst ys)/\ys.length<=sp.length/\∀i y,ys[i]?=some y->gO H' (λ_=>True) l m sp i y) (λU H'=>match H' pr with | some (.lst xs)=>2000-xs.length | _=>0) ⟨[qI l],[[]],[t0],[],_,_,_,_,rfl,S5.trans s6,R5.same s6,h6,{},λi y e=>by simp at e⟩ ?_
 rintro U H7 ⟨sp,ws,ts,ys,v6,v7,v8,v9,rfl,S7,R7,r7,le7,rm7⟩;refine⟨decide (ys.length<sp.length),λQ' hq=>?_,λH8 s8=>?_⟩
 .walk_at "rd";refine⟨_,_,rfl,.inl ⟨_,.mk r7,rfl⟩,_,_,rfl,.inl ⟨_,.mk R7.hs,rfl⟩,?_⟩;have e:decide (((ys.length:Nat):Int)<((ts.map V.ref).length:Nat))=decide (ys.length<sp.length):=by
   rw[m6,R7.tl,qv,JH,JH]
   lia
  rw[e];exact hq H7 (fT.refl _)
 .have R8:=R7.same s8;have r8:=s8 _ _ r7;have S8:=S7.trans s8;have rm8:∀i y,ys[i]?=some y->gO H8 (λ_=>True) l m sp i y:=λi y e=>(rm7 i y e).same s8;refine gK (λh=>?_) (λh=>?_)
  .have A1:=JK h;have hle:=R8.le hl;obtain⟨sr,hsr⟩:∃sr,sp[ys.length]?=some sr:=⟨_,om A1⟩;obtain⟨wr,hwr⟩:∃wr,ws[ys.length]?=some wr:=⟨_,om (by rw[R8.wl];exact A1)⟩;obtain⟨esr,hIr⟩:=R8.wt _ _ _ hwr hsr;have lsr:sr.length<=41:=by rw[esr];have:=Fj l wr;lia
   have lwr:wr.length<=40:=by have:=hIr.len;lia
   walk_at "rd";refine⟨_,_,rfl,.inl ⟨_,.mk r8,rfl⟩,?_⟩;intro pd nd8;have fD:H pd=none:=S8.free nd8;have dsp:ps≠pd:=on R8.hs nd8;have dwp:pw≠pd:=on R8.hw nd8;have dnp:pn≠pd:=on R8.hn nd8;have drp:pr≠pd:=on r8 nd8;have s9:fT H8 (upd H8 pd (.dK [])):=pX nd8;have d9:upd H8 pd (.dK []) pd=some (.dK []):=nu;have rm9:∀i y,ys[i]?=some y->gO (upd H8 pd (.dK [])) (λd=>d≠pd) l m sp i y:=λi y e=>((rm8 i y e).mono λd kvs hd _=>on hd nd8).same s9;generalize upd H8 pd (.dK [])=H9 at s9 d9 rm9;refine⟨m,rfl,f9.text (λk U H'=>∃(sp ws:mU) (ts:List AD) (v8 v9:Option V) (kvs:List (nH×V)),U=[some (tx l),some (tx m),some (.ref ps),some (.ref pw),some (.ref pn),some (.ref pr),some (.int ((ys.length:Nat):Int)),some (.ref pd),v8,v9]/\fT H H'/\im H' ps pw pn l sp ws ts/\H' pr=some (.lst ys)/\(∀i y,ys[i]?=some y->gO H' (λd=>d≠pd) l m sp i y)/\H' pd=some (.dK kvs)/\kvs.length<=k/\sp[ys.length]?=some sr/\ws[ys.length]?=some wr/\(∀c∈m.take k,tQ l sp sr c (gp kvs (nO [c])))/\∀c,c∉m.take k->gp kvs (nO [c])=none) ⟨sp,ws,ts,_,_,[],rfl,S8.trans s9,R8.same s9,s9 _ _ r8,rm9,d9,nD _,hsr,hwr,λc h=>by simp at h,λc _=>rfl⟩ ?_ ?_⟩
   .clear rm9 rm8 rm7 R8 R7 hsr hwr le7 A1 h hle;rintro k c U H10 hc ⟨sp,ws,ts,v8,v9,kvs,rfl,S10,R10,r10,rm10,d10,kl,hsr,hwr,wy,wn⟩;have hk:k<m.length:=(oM.mp hc).1;have A1:ys.length<sp.length:=(oM.mp hsr).1;have hle:=R10.le hl;obtain⟨tr,htr⟩:∃tr,ts[ys.length]?=some tr:=⟨_,om (by rw[R10.tl];exact A1)⟩;have et:m.take (k+1)=m.take k++[c]:=wR hc;have atr:qh (ts.map V.ref) ((ys.length:Nat):Int)=some (.ref tr):=by unfold qh sg;rw[mS ∅,mS (by rw[m6,R10.tl];lia),uj,rh,pA,htr];rfl
    have atw:∀ {ws:mU},ws[ys.length]?=some wr->qh (ws.map tx) ((ys.length:Nat):Int)=some (tx wr):=λ{ws} h=>by have hw:=(oM.mp h).1;unfold qh sg;rw[mS ∅,mS (by rw[m6];lia),uj,rh,pA,h];rfl
    walk_at "rd";refine⟨ps,_,_,.ref tr,rfl,rfl,.mk R10.hs,atr,l,sr,c,tr,rfl,hl,R10.tt _ _ _ htr hsr,lsr,λtb H11 s11 n11 h11=>qy ?_⟩;have R11:=R10.same s11;have S11:=S10.trans s11;have bsn:pV l sr c=oB l (wr++[c]):=by rw[esr,vU]
    have blen:(pV l sr c).length<=41:=by rw[bsn];have:=Fj l (wr++[c]);lia
    have hbk:H11 tb=some (.tup ((gA (pV l sr c)).map kV)):=by rw[CU];exact h11
    walk_at "rd";refine⟨_,_,rfl,.inr ⟨_,.mk h11,rfl⟩,?_⟩;rw[m6];have r11:=s11 _ _ r10;have d11:=s11 _ _ d10;have rm11:∀i y,ys[i]?=some y->gO H11 (λd=>d≠pd) l m sp i y:=λi y e=>(rm10 i y e).same s11;apply ZiC (C:=λH12=>∃(sp' ws':mU) (ts':List AD),fT H H12/\im H12 ps pw pn l sp' ws' ts'/\H12 pr=some (.lst ys)/\(∀i y,ys[i]?=some y->gO H12 (λd=>d≠pd) l m sp' i y)/\H12 pd=some (.dK kvs)/\sp'[ys.length]?=some sr/\ws'[ys.length]?=some wr/\(∀c∈m.take k,tQ l sp' sr c (gp kvs (nO [c])))/\H12 tb=some (.tup ((gA (pV l sr c)).map kV))/\(pV l sr c=[]\/pV l sr c∈sp'))
    .intro tail;refine gK (λh=>?A) (λh=>?C)
     case C=>
      have e0:pV l sr c=[]:=wS (by have:=JM (tN.mpr h);lia);obtain⟨H12,e12⟩:∃H12,H12=H11:=⟨_,rfl⟩;rw[<-e12];refine gq ?_;exact tail H12 (by rw[e12];exact⟨sp,ws,ts,S11,R11,r11,rm11,d11,hsr,hwr,wy,hbk,.inl e0⟩)
     case A=>
      have hne:pV l sr c≠[]:=λe=>by rw[e]at h;simp at h
      refine⟨pn,_,rfl,.inr ⟨hW sp,gA (pV l sr c),tb,.inl R11.hn,rfl,hbk,rfl⟩,?_⟩;by_cases hin:pV l sr c∈sp
      .obtain⟨j,hj⟩:=yQ.mp hin;rw[Ig R11.nd hj];exact gq (tail H11 ⟨sp,ws,ts,S11,R11,r11,rm11,d11,hsr,hwr,wy,hbk,.inr hin⟩)
      .rw[Je hin];refine gW ⟨_,_,rfl,.inl ⟨_,.mk R11.hs,rfl⟩,?_⟩;rw[m6,R11.tl];have lt2:∀n,n<=1681->n<sizeLine:=λn h=>qz (show n<2000 by lia) (sz 2000 (nD _));have hps:upd H11 pn (.dT (gv (hW sp) (gA (pV l sr c)) (.int (sp.length:Int)))) ps=some (.lst (ts.map V.ref)):=by rw[mT npn];exact R11.hs
       refine⟨pn,_,rfl,iM.t R11.hn hbk (by rw[Hu];exact lt2 _ hle),.inl ⟨rfl,_,.mk hps⟩,ps,_,_,rfl,rfl,hps,by rw[m6,R11.tl];exact lt2 _ hle,?_⟩;have hpw:upd (upd H11 pn (.dT (gv (hW sp) (gA (pV l sr c)) (.int (sp.length:Int))))) ps (.lst (ts.map V.ref++[.ref tb])) pw=some (.lst (ws.map tx)):=by rw[mT (nX npw),mT nwn];exact R11.hw
       refine⟨.inl ⟨rfl,_,.mk hpw⟩,pw,_,_,_,rfl,rfl,.mk hpw,atw hwr,?_⟩;walk_at "rd?";refine⟨sz _ ∅,pw,_,_,rfl,rfl,hpw,by rw[m6,R11.wl];exact lt2 _ hle,?_⟩;have P:=R11.push npw npn nwn h11 hin bsn (xx.mp (by rw[<-bsn];exact hne));refine tail _ ⟨_,_,_,gh (gh (gh S11 fN) fH) fW,P,?_,?_,?_,?_,?_,λc' h'=>(wy c' h').more,?_,.inr {}⟩
       .rw[mT (nX nwr),mT (nX nsr),mT (nX nnr)];exact r11
       .intro i y e;have a1:=(rm11 i y e).other (o:=.dT (gv (hW sp) (gA (pV l sr c)) (.int (sp.length:Int)))) R11.hn (λxs z=>by cases z) (λd _=>.inr λkvs z=>by cases z);have a2:=a1.other (o:=.lst (ts.map V.ref++[.ref tb])) hps (λxs z=>by cases z) (λd _=>.inr λkvs z=>by cases z);exact(a2.other hpw (λxs z=>by cases z) (λd _=>.inr λkvs z=>by cases z)).more
       .rw[mT (nX dwp),mT (nX dsp),mT (nX dnp)];exact d11
       .rw[qT A1];exact hsr
       .rw[qT (by rw[R11.wl];exact A1)];exact hwr
       .rw[mT (λz=>by rw[z,R11.hw]at hbk;cases hbk),mT (λz=>by rw[z,R11.hs]at hbk;cases hbk),mT (λz=>by rw[z,R11.hn]at hbk;cases hbk)];exact hbk
    .rintro H12 ⟨sp',ws',ts',S12,R12,r12,rm12,d12,hsr',hwr',wy',hb12,hin⟩;walk_at "g";refine⟨_,_,rfl,.inr ⟨_,.mk hb12,rfl⟩,?_⟩;rw[CU,m6];have tk:∀c',c'∈m.take (k+1)->c'∈m.take k\/c'=c:=λc' h'=>by
      rw[et]at h';rcases oV.mp h' with z | z
      .exact .inl z
      .exact .inr (oN.mp z)
     have tn:∀c',c'∉m.take (k+1)->c'∉m.take k/\c'≠c:=λc' h'=>by rw[et]at h';exact⟨λz=>h' (uW _ z),λz=>h' (by rw[z];simp)⟩
     refine gK (λh=>?_) (λh=>?_)
     .have hne:pV l sr c≠[]:=λe=>by rw[e]at h;simp at h
      obtain⟨j,hj⟩:=yQ.mp (hin.resolve_left hne);refine⟨pn,.int (j:Int),rfl,.inr ⟨hW sp',gA (pV l sr c),tb,.inl R12.hn,rfl,hb12,(Ig R12.nd hj).symm⟩,pd,_,rfl,iM.k (k:=nO [c]) d12 (qz (show _<2000 by lia) (sz 2000 (nD _))),?_⟩;refine⟨sp',ws',ts',_,_,gv kvs (nO [c]) (.int (j:Int)),rfl,gh S12 fD,R12.other d12 (λxs z=>by cases z) dsp dwp dnp,by rw[mT drp];exact r12,λi y e=>(rm12 i y e).other d12 (λxs z=>by cases z) (λd hd=>.inl hd),nu,by have:=yq kvs (nO [c]) (.int (j:Int));lia,hsr',hwr',λc' h'=>?_,λc' h'=>?_⟩
      .rw[yV];by_cases ec:c'=c
       .rw[mS (by rw[ec]),ec];exact .inr ⟨hne,j,hj,rfl⟩
       .rw[mR (λz=>ec (kTx1.mp z))];exact wy' c' ((tk c' h').resolve_right ec)
      .have hh:=tn c' h';rw[yV,mR (λz=>hh.2 (kTx1.mp z))];exact wn c' hh.1
     .have e0:pV l sr c=[]:=wS (by have:=JM (tN.mpr h);lia);refine⟨sp',ws',ts',_,_,kvs,rfl,S12,R12,r12,rm12,d12,∅,hsr',hwr',λc' h'=>?_,λc' h'=>wn c' (tn c' h').1⟩;by_cases hc':c'∈m.take k
      .exact wy' c' hc'
      .have ec:=(tk c' h').resolve_left hc';exact .inl ⟨by rw[ec];exact e0,wn c' hc'⟩
   .clear rm9 rm8 rm7 R8 R7 hsr hwr le7 A1 h hle;rintro U H10 ⟨sp,ws,ts,v8,v9,kvs,rfl,S10,R10,r10,rm10,d10,kl,hsr,hwr,wy,wn⟩;have A1:ys.length<sp.length:=(oM.mp hsr).1;have hle:=R10.le hl;rw[rH]at wy;have atw:qh (ws.map tx) ((ys.length:Nat):Int)=some (tx wr):=by have hw:=(oM.mp hwr).1;unfold qh sg;rw[mS ∅,mS (by rw[m6];lia),uj,rh,pA,hwr];rfl
    walk_at "k";refine⟨.inl ⟨rfl,_,.mk r10⟩,pw,_,_,_,rfl,rfl,.mk R10.hw,atw,sz _ ⋯,gQ.of λpt H11 s11 n11 h11=>⟨pr,_,_,rfl,rfl,s11 _ _ r10,qz (show _<2000 by lia) (sz 2000 (nD _)),?_⟩⟩;have r11:=s11 _ _ r10;refine⟨⟨sp,ws,ts,ys++[.ref pt],_,_,_,_,rfl,gh (S10.trans s11) fR,(R10.same s11).other r11 (λxs z=>by cases z) nsr nwr nnr,nu,by rw[nN,pZ];lia,λi y e=>?_⟩,?_⟩
    .by_cases ci:i<ys.length
     .rw[qT ci]at e;exact(((rm10 i y e).same s11).mono λ_ _ _ _=>trivial).other r11 (λxs z=>by cases z) (λd _=>.inr λkvs z=>by cases z)
     .have hi:i=ys.length:=by have:=(oM.mp e).1;rw[nN,pZ]at this;lia
      subst hi;rw[sd ∅]at e;simp at e;refine⟨pt,pd,wr,kvs,e.symm,?_,?_,trivial,hIr,hIr.len,by rw[<-esr];exact hsr,λc hc=>by rw[<-esr];exact wy c hc⟩
      .rw[mT (λz=>by rw[z,r11]at h11;cases h11)];exact h11
      .rw[mT (nX drp)];exact s11 _ _ d10
    .show (match upd H11 pr (HO.lst (ys++[V.ref pt])) pr with | some (.lst xs)=>2000-xs.length | _=>0)<_;rw[nu,r7];show 2000-(ys++[V.ref pt]).length<2000-ys.length;rw[nN,pZ]
     lia
  .have e:ys.length=sp.length:=by have:=JM (tN.mpr h);lia
   walk_at "rd";refine q pr sp ys H8 S8 fR r8 ⟨R8.f0,e,R8.nd,λi y hy=>?_⟩;obtain⟨t,d,w,kvs,a1,a2,a3,_,a4⟩:=rm8 i y hy;exact⟨t,d,w,kvs,a1,a2,.inl a3,a4⟩
def Hl:f7 P w K mg base nQ 2 a.f_LZ a.d_LZ ["lesser","longer"] (sp_LZ K a):=by
 refine T.fk.u.ok Eb (λAr A outer s H vs Q E hr h=>?_);obtain⟨s_,L,rfl,hL,ex,tk,q⟩:=h;refine⟨_,(mV (nJ (i:=2) Eb.nd (sk mQ))
  (nL (mV (qx pS rfl (DX rfl T.dA (mM mX (mM (m5 pG (nE (oC (K:=K) rfl) rfl T.db oz (mM (pv 1) mQ)) mX) mQ))) (oG (i:=3) Eb.nd rfl (Or.inl rfl))
  (mV (qe (sV ue vo vf uC (pv 2) (mM (pL pQ (pv 1) qL (oY (pv 3))) mQ)))
  (mY (qe (sV ue vo vf uC (pv 2) (mM (pL pQ (pv 1) (oY (m5 vn (nE (oC (K:=K) rfl) rfl T.db oz (mM (pv 1) mQ)) (pv 3))) qL) mQ))))))
  (nL (mY (ny (nW (Eg T) (hM hr) rfl T.dj m9 (mM (nE (DD rfl) rfl T.dU Co (mM (uV (C9 rfl) rfl T.fL EV (mM (tG (N:=["word","lesser"]) (ix:=[none,some 0]) rfl (sw rfl) rfl (rX (K:=K) rfl (pv 2)) (λ_ _ _ _=>(oG (i:=0) (show (["word","lesser"]:AJ).Nodup from by decide +kernel) rfl (Or.inl rfl) (Or.inr rfl))) (λ_ _ _ _=>(xm (oA Hi (pv 0) (pv 1) rfl))) (λ_ _ _ _=>(pv 0))) mQ)) mQ)) mQ)))))))),?_⟩
 walk_at "rd";refine⟨pE _,gB.of λpe H1 s1 ne le=>?_⟩;walk_at "g";refine⟨_,_,rfl,o9 ∅,_,_,rfl,⟨⋯,⋯,∅,∅⟩,?_⟩;have ej:((L.length:Int)+1-1).toNat=L.length:=by lia
 rw[ej];refine f9.range (λi U H'=>∃v3,U=[some (tx s_),some (tx L),some (.ref pe),v3]/\fT H H'/\H' pe=some (.lst ((rA L i).map tx))) ⟨_,rfl,s1,le⟩ ?_ ?_
 .rintro i U H2 hi ⟨v3,rfl,s2,h2⟩;have el:=Cu L i;have e1:(1+(i:Int))=((i+1:Nat):Int):=by lia
  have e2:(L.length:Int)-(1+(i:Int))=((L.length-(i+1):Nat):Int):=by lia
  walk_at "rd";refine⟨.inl ⟨rfl,_,.mk h2⟩,_,rfl,L,rfl,sz _ ∅,pe,_,_,rfl,rfl,h2,by rw[m6];exact sz _ ∅,.inl ⟨rfl,_,.mk nu⟩,_,_,rfl,o9 ∅,_,rfl,L,rfl,sz _ ∅,pe,_,_,rfl,rfl,nu,by rw[nN,m6];exact sz _ (by rw[pZ];lia),_,rfl,?_,?_⟩
  .exact gh (gh s2 ne) ne
  .rw[nu,e1,vH,<-e1,e2,z9,IJ,tD,qW];rfl
 .rintro U H2 ⟨v3,rfl,s2,h2⟩;walk_at "k";have el:=Cu L L.length;refine⟨pe,rfl,⟨_,.mk h2⟩,f8.listM (xs:=(rA L L.length).map tx) (λi=>!hG ((rA L L.length).getD i []) s_) (λi=>tx ((rA L L.length).getD i [])) (by rw[m6];lia) (.mk h2) ?_ ?_ ?_⟩
  .intro i H3 Q3 hi s3 q3;rw[m6]at hi;rw[vM hi];walk_at "rd";exact⟨_,_,rfl,rfl,q3 H3 (fT.refl _)⟩
  .intro i H3 Q3 hi _ s3 q3;rw[m6]at hi;rw[vM hi];walk_at "rd";exact q3 H3 (fT.refl _)
  .intro p3 H3 s3 n3 l3;have eh:((List.range ((rA L L.length).map tx).length).filter λi=>!hG ((rA L L.length).getD i []) s_).map (λi=>tx ((rA L L.length).getD i []))=((rA L L.length).filter λv=>!hG v s_).map tx:=by rw[m6,<-zo (λv=>!hG v s_) [] (rA L L.length),ql];rfl
   rw[eh]at l3;have fl:=tO (λv=>!hG v s_) (rA L L.length);generalize hF:(rA L L.length).filter (λv=>!hG v s_)=F0 at l3 fl;have mF:∀w,w∈F0↔qp s_ L w:=λw=>by rw[<-hF,qr,Fp,Jm ex,Bool.not_eq_true',FU]
   have dl:=C1 F0;refine⟨F0,∅,.inr ⟨p3,rfl,.mk l3⟩,λp4 n4=>⟨p4,_,rfl,nu,sz _ ∅,gB.of λp5 H5 s5 n5 l5=>?_⟩⟩;have s25:fT H H5:=s2.trans (s3.trans ((pX n4).trans s5));have pm0:=sB (qo F0);refine⟨p5,_,rfl,l5,λw hw=>?_,tk.same s25,λws r H6 pm pw sl tk6 nr lr=>?_⟩
   .have:=((mF w).mp (BX.mp (pm0.mem_iff.mp hw))).1.len
    lia
   .refine q ws r H6 (Ef pm pw (pm0.nodup_iff.mpr (Zkc F0))) (λw=>?_) (λb o e t=>sl _ _ (s25 _ _ e) t) tk6 ((Nw.of nr).same s25) lr;rw[pm.mem_iff,pm0.mem_iff,BX,mF]
def Bj:f7 P w K mg base nQ 2 a.f_LM a.d_LM ["_law_cell_here","_law_kinds_here","_law_size","_law_digits"] (sp_LM K a):=by
 refine T.dJ.u.ok wx (λAr A outer s H vs Q E hr h=>?_);obtain⟨c,m,n,d,rfl,hm,h4,h0,h1,q⟩:=h;refine⟨_,(mV (nJ (i:=4) wx.nd (qj (l:=[]) nofun))
  (mV (nJ (i:=5) wx.nd (pv 0))
  (mV (qx pS rfl (vX rfl T.dA (mM (pv 2) mQ)) (oG (i:=6) wx.nd rfl (Or.inl rfl))
  (mV (nJ (i:=7) wx.nd (nW (Js T) (hM hr) rfl T.fm m9 (mM (pv 0) (mM (m5 pG mX (pv 6)) mQ))))
  (mV (oF (PW.pt (zW (qu (pv 3)) (y9 (oA (EC (K:=K) rfl) (pv 5) (rp (mM mX (mM (zS yW mX) mQ))) rfl)))) (mV (nJ (i:=7) wx.nd (pv 5))
  (mY (nJ (i:=5) wx.nd (m5 rl (pv 5) (nE (oC (K:=K) rfl) rfl T.db oz (mM (pv 1) mQ)))))) oE)
  (mY (nJ (i:=4) wx.nd (m5 sC (pv 4) (pJ sR (pv 1) (m5 qB (pv 7) (nE (oC (K:=K) rfl) rfl T.db oz (mM (pv 1) mQ))) (λ_ _=>rfl))))))))
  (mY (ny (pv 4)))))),?_⟩
 walk_at "rd";refine⟨n,rfl,∅,∅,f9.range (λi U H'=>fT H H'/\∃(f:mN) (le:Int) (v6 v7:Option V),U=[some (.int c),some (tx m),some (.int n),some (.bl d),some (tx f),some (.int le),v6,v7]/\f.length=i/\∀x∈f,x∈m) ⟨fT.refl _,[],c,none,none,rfl,rfl,λx hx=>by cases hx⟩ ?_ ?_⟩
 .rintro i U H1 hi ⟨s1,f,le,v6,v7,rfl,hf,hfm⟩;have hM:m.length<=1000:=by lia
  have sz:m.length<=sizeLine:=og hM (by rw[sizeLine_eq];decide);have sf:f.length+1<=sizeLine:=by rw[sizeLine_eq];lia
  have pm:(0:Int)<m.length:=by lia
  have cd:CDiv le m.length:=⟨pm,∅⟩;have at_:∀x:Int,∃v,qh m (x % m.length)=some v/\v∈m:=λx=>BB (vx _ ∅) (vO _ pm);have mem:∀ {v:Nat},v∈m->∀x∈f++[v],x∈m:=λhv x hx=>(oV.mp hx).elim (hfm x) λh=>by rw[oN.mp h];exact hv
  walk_at "rd";refine⟨_,_,rfl,λr hr=>?_⟩;walk_at "rd";obtain⟨c1,hc1,k1⟩:=at_ r;obtain⟨c2,hc2,k2⟩:=at_ le;refine gK (λh=>⟨by rw[sizeLine_eq];decide,gQ.of λp2 H2 s2 n2 l2=>⟨p2,_,rfl,.inr (.mk l2),rfl,rfl,gK (λh=>?_) (λh=>?_)⟩⟩) (λh=>gq ?_)
  .exact⟨_,_,rfl,o9 hM,cd,_,_,rfl,o9 hM,pm,m,_,c2,rfl,rfl,sz,hc2,sf,s1.trans s2,_,_,_,_,rfl,by simp[hf],mem k2⟩
  .exact⟨_,_,rfl,o9 hM,pm,m,_,c1,rfl,rfl,sz,hc1,sf,s1.trans s2,_,_,_,_,rfl,by simp[hf],mem k1⟩
  .exact⟨_,_,rfl,o9 hM,pm,m,_,c1,rfl,rfl,sz,hc1,sf,s1,_,_,_,_,rfl,by simp[hf],mem k1⟩
 .rintro U H1 ⟨s1,f,le,v6,v7,rfl,hf,hfm⟩;walk_at "rd";exact q f H1 hf hfm s1
def GO:f7 P w K mg base nQ 2 a.bQ a.cU ["self","text","came","went"] (sp_KN K a):=by
 refine T.dM.u.ok C6 (λAr A outer s H vs Q E hr h=>?_);obtain⟨p,la,da,c,g,l,l2,m,old,new,ys,zs,rc,rg,rfl,hp,hla,hc,rwc,hg,rwg,ho,hn,nd,mc,mg_,lo,lc,lg,wo,wn,tk,q⟩:=h;refine⟨_,(nL (mV (xF (i:=4) C6.nd rfl (Or.inr rfl) (tG (N:=["told"]) (ix:=[none]) rfl (sw rfl) rfl (rX (K:=K) rfl (pv 3)) (λ_ _ _ _=>(oG (i:=0) (show (["told"]:AJ).Nodup from by decide +kernel) rfl (Or.inl rfl) (Or.inr rfl))) (λ_ _ _ _=>wj) (λ_ _ _ _=>(pJ (wM (K:=K) rfl) (pv 0) mX (λ_ _=>rfl)))))
  (nL (mV (Do (i:=5) (N:=["word","gone"]) (ix:=[none,some 4]) rfl C6.nd rfl rfl rfl (sw rfl) rfl (rX (K:=K) rfl (pD (K:=K) rfl (pv 0) rfl)) (λ_ _ _ _=>(oG (i:=0) (show (["word","gone"]:AJ).Nodup from by decide +kernel) rfl (Or.inl rfl) (Or.inr rfl))) (λ_ _ _ _=>(xm (oA (EC (K:=K) rfl) (pv 0) (pv 1) rfl))) (λ_ _ _ _=>(pv 0)))
  (nL (mV (vP (pv 0) (nW (Eg T) (hM hr) rfl T.dj m9 (mM (m5 DN (pv 5) (tG (N:=["told"]) (ix:=[none]) rfl (sw rfl) rfl (rX (K:=K) rfl (pv 2)) (λ_ _ _ _=>(oG (i:=0) (show (["told"]:AJ).Nodup from by decide +kernel) rfl (Or.inl rfl) (Or.inr rfl))) (λ_ _ _ _=>wj) (λ_ _ _ _=>(pJ (wM (K:=K) rfl) (pv 0) mX (λ_ _=>rfl))))) mQ)) rfl)
  (nL (mV (vP (pv 0) (pv 1) rfl)
  (mY (ny (rp (mM (pv 2) (mM (pv 3) mQ))))))))))))),?_⟩
 have sz:∀k:Nat,k<=30000->k<=sizeLine:=λk h=>og h (by rw[sizeLine_eq];decide);obtain⟨dx,f⟩:=hp;walk_at "rd";walk_at "g";have zl:=rwg.1;have yl:=rwc.1;refine⟨g,rfl,⟨_,.mk hg⟩,f8.listM (xs:=zs) (λ_=>true) (λi=>tx ((rg.map (·.1)).getD i [])) ∅ (.mk hg) (λi H' Q' _ _ q=>q H' (fT.refl _)) ?_ ?_⟩
 .intro i H1 Q1 hi _ s1 q1;obtain⟨t,u,e1,e2⟩:=HS rwg hi;rw[e1];walk_at "rd";exact⟨t,_,_,_,rfl,rfl,.mk (s1 _ _ e2),jy,q1 H1 (fT.refl _)⟩
 .intro pg H1 s1 n1 l1;rw[Jh zl]at l1;walk_at "g";refine⟨p,_,dx,_,_,rfl,s1 _ _ f,T.ag,T.af,G7,la,rfl,⟨_,.mk (s1 _ _ hla)⟩,f8.listM (xs:=old.map tx) (λi=>!decide (old.getD i []∈rg.map (·.1))) (λi=>tx (old.getD i [])) (by rw[m6];lia) (.mk (s1 _ _ hla)) ?_ ?_ ?_⟩
  .intro i H2 Q2 hi s2 q2;rw[m6]at hi;rw[vM hi];walk_at "rd";refine⟨pg,_,rfl,.inl (.mk (s2 _ _ l1)),rfl,vB _,?_⟩;rw[mS rfl,Dn];exact q2 H2 (fT.refl _)
  .intro i H2 Q2 hi _ s2 q2;rw[m6]at hi;rw[vM hi];walk_at "rd";exact q2 H2 (fT.refl _)
  .intro pk H2 s2 n2 l2k;have eh:((List.range (old.map tx).length).filter λi=>!decide (old.getD i []∈rg.map (·.1))).map (λi=>tx (old.getD i []))=(old.filter λv=>!decide (v∈rg.map (·.1))).map tx:=by rw[m6,<-zo (λv=>!decide (v∈rg.map (·.1))) [] old,ql];rfl
   have e2:(old.filter λv=>!decide (v∈rg.map (·.1)))=old.filter λv=>decide (v∉rg.map (·.1)):=by congr 1;funext v;rw[decide_not]
   rw[eh,e2]at l2k;have fl:=tO (λv=>decide (v∉rg.map (·.1))) old;generalize hk:old.filter (λv=>decide (v∉rg.map (·.1)))=kept at l2k fl;have s02:=s1.trans s2;walk_at "g";refine⟨c,rfl,⟨_,.mk (s02 _ _ hc)⟩,f8.listM (xs:=ys) (λ_=>true) (λi=>tx ((rc.map (·.1)).getD i [])) ∅ (.mk (s02 _ _ hc)) (λi H' Q' _ _ q=>q H' (fT.refl _)) ?_ ?_⟩
   .intro i H3 Q3 hi _ s3 q3;obtain⟨t,u,e1,e2⟩:=HS rwc hi;rw[e1];walk_at "rd";exact⟨t,_,_,_,rfl,rfl,.mk ((s02.trans s3) _ _ e2),jy,q3 H3 (fT.refl _)⟩
   .intro pc H3 s3 n3 l3;rw[Jh yl]at l3;rw[Gf];refine⟨_,_,s3 _ _ l2k,l3,by rw[m6,m6,m6];exact sz _ ∅,gB.of λpw H4 s4 n4 l4=>?_⟩;have s04:fT H H4:=s02.trans (s3.trans s4);rw[<-tD]at l4;refine⟨pw,_,rfl,l4,λw hw=>?_,tk.same s04,λws r H5 pm pw5 sl tk5 nr lr=>?_⟩
    .rcases oV.mp hw with h | h
     .rw[<-hk]at h;exact wo w (qr.mp h).1
     .exact wn w ((mc w).mp h).1
    .rw[<-hk]at pm;have en:=Zn4 ho hn mc nd mg_ pm pw5;rw[en]at lr;have f5:=sl _ _ (s04 _ _ f) rfl;refine⟨p,_,dx,_,rfl,f5,T.ag,T.af,(by show 4<1000;decide),?_⟩;rw[show gs (Str.ofString "own_lacking") (.ref r) (sF l m la da)=sF l m r da from Znt];walk_at "g";refine⟨p,_,dx,_,rfl,nu,T.ag,T.aa,(by show 4<1000;decide),sz _ ⋯,gQ.of λt H7 s7 n7 l7=>?_⟩;rw[show gs (Str.ofString "own_text") (tx l2) (sF l m r da)=sF l2 m r da from Zns]at s7;have nrp:p≠r:=on (s04 _ _ f) nr;refine q t r H7 ?_ ⟨dx,s7 _ _ nu⟩ ((Nw.of nr).same s04) (s7 _ _ (by rw[mT (nX nrp),mT (nX nrp)];exact lr)) l7 ?_
     .exact s04.chg.trans (sl.chg.trans ((pC.upd {}).trans ((pC.upd {}).trans s7.chg)))
     .exact((tk5.upd f5 rfl rfl).upd nu rfl rfl).same s7
def ZrS:f7 P w K mg base nQ 2 a.bH a.cJ ["self","counts"] (sp_KA K a):=by
 refine T.de.u.ok yO (λAr A outer s H vs Q E hr h=>?_);have hu1:=yF hr;obtain⟨p,pd,l,m,sp,W,js,k,rfl,hp,ok,hd,ci,wa,q⟩:=h;refine⟨_,(mV (nJ (i:=2) yO.nd Bd)
  (nL (mV (ZnA (qx pS rfl (ZnD (pv 1)) (oG (i:=3) yO.nd rfl (Or.inl rfl))
  (mY (qx pS rfl (vt (pD (K:=K) rfl (pv 0) rfl)) (oG (i:=4) yO.nd rfl (Or.inl rfl))
  (mV (nJ (i:=5) yO.nd (qm (pv 0) T.aM T.bg (DK T) (hM hr) T.dG.b .nil m9 (mM (pv 3) (mM (pv 4) mQ))))
  (nL (mY (oF (oA DU (pv 5) sj (nZ _)) (mY (zq hu1 (pv 2) (pv 5) (m5 pG (ZlF hu1 (pv 2) (pv 5) mX ⟨rfl,rfl,rfl,rfl⟩) (Ew hu1 (pv 1) (pv 3) (λ_ _=>rfl))) rfl)) oE))))))))
  (nL (mY (ny (pv 2))))))),?_⟩
 have sz:∀k:Nat,k<=3000->k<=sizeLine:=λk h=>og h (by rw[sizeLine_eq];decide);have l40:=ok.l40;obtain⟨dx,qa,ys,h1,h2,h3⟩:=id hp;have M:=h3.msp;have spl:sp.length<=1681:=Jj M.nd (λs hs=>let ⟨i,hi⟩:=yQ.mp hs;M.word i s hi) l40;walk_at "rd";intro pb nb;have ne:pd≠pb:=on hd nb;walk_at "g";have hd1:upd H pb (.dK []) pd=some (.dK (CD l sp W js)):=by rw[mT ne];exact hd
 refine⟨pd,_,hd1,pd,_,rfl,hd1,λo=>?_⟩;have hf:=hp.freeze (o:=o) hd;obtain⟨dx',qa',ys',f1,f2,f3⟩:=id hf;have ff:upd H pd (.frz o (.dK (CD l sp W js))) pd=some (.frz o (.dK (CD l sp W js))):=nu;have nbf:upd H pd (.frz o (.dK (CD l sp W js))) pb=none:=by rw[mT (nX ne)];exact nb
 have s0:fT (upd H pd (.frz o (.dK (CD l sp W js)))) (upd (upd H pb (.dK [])) pd (.frz o (.dK (CD l sp W js)))):=λb u hb=>by
  by_cases e:b=pd
  .rw[e,nu]at hb ⊢;exact hb
  .rw[mT e]at hb ⊢;rw[mT (λz=>by rw[z,nb]at hb;cases hb)];exact hb
 have b0:upd (upd H pb (.dK [])) pd (.frz o (.dK (CD l sp W js))) pb=some (.dK (CD l sp [] [])):=by rw[mT (nX ne),nu];rfl
 have c0:ic l sp [] []:=⟨{},λ_ h=>(by cases h),λ_ h=>(by cases h),λ_ h=>(by cases h)⟩;refine f9.dict (λi U H'=>∃(W2:mU) (js2:mN) (v3 v4 v5:Option V),U=[some (.ref p),some (.ref pd),some (.ref pb),v3,v4,v5]/\fT (upd H pd (.frz o (.dK (CD l sp W js)))) H'/\H' pb=some (.dK (CD l sp W2 js2))/\ic l sp W2 js2/\ij l m sp W js i 0 W2) ⟨[],[],_,_,_,rfl,s0,b0,c0,ij.start ..⟩ (λi U H' ⟨_,_,_,_,_,_,s',_⟩=>s' _ _ ff) ?_ ?_
 .rintro i kv U H1 hkv ⟨W2,js2,v3,v4,v5,rfl,s1,b1,c1,w1⟩;obtain⟨j,hj,ej⟩:∃j,js[i]?=some j/\kv.1=gM j:=by
   unfold CD at hkv;rw[pA]at hkv;cases e:js[i]? with
   | none=>rw[e]at hkv;cases hkv
   | some j=>rw[e]at hkv;cases hkv;exact⟨j,rfl,rfl⟩
  have jm:=qA hj;have jl:=ci.lt j jm;obtain⟨u,iu,eu⟩:=M.word j _ (om jl);have hju:sp[j]?=some (oB l u):=by rw[om jl,eu]
  rw[ej,show kV (gM j)=V.int ((j:Nat):Int) from rfl];walk_at "rd";refine⟨p,_,dx',_,_,rfl,s1 _ _ f1,T.aM,T.ae,CG,m,rfl,f9.text (λx U H'=>∃(W2:mU) (js2:mN) (v4 v5:Option V),U=[some (.ref p),some (.ref pd),some (.ref pb),some (.int ((j:Nat):Int)),v4,v5]/\fT (upd H pd (.frz o (.dK (CD l sp W js)))) H'/\H' pb=some (.dK (CD l sp W2 js2))/\ic l sp W2 js2/\ij l m sp W js i x W2) ⟨W2,js2,_,_,rfl,s1,b1,c1,w1⟩ ?_ ?_⟩
  .clear w1 c1 b1 s1;rintro x c U H2 hc ⟨W2,js2,v4,v5,rfl,s2,b2,c2,w2⟩;have cm:=qA hc;walk_at "rd";refine⟨p,dx',_,rfl,s2 _ _ f1,u8 nofun nofun,p,l,m,sp,j,_,c,rfl,hf.same s2,hju,cm,λo1 y1=>?_⟩;rw[y1.nv M.nd hju];walk_at "k";refine⟨trivial,?_⟩;rw[ZpC];cases hdl:uS l sp j c with
   | none=>exact gq ⟨W2,js2,_,_,rfl,s2,b2,c2,w2.skip M hj hc hdl⟩
   | some j2=>
    have jl2:j2<sp.length:=(oM.mp (Er hju hdl).2).1;have hB:∀w∈(pN l sp W j).map (λy=>y++[c]),sp[j2]?=some (oB l w):=λw hw=>by obtain⟨y,hy,rfl⟩:=pK.mp hw;exact(Er (JK (qr.mp hy).2) hdl).2
    have nB:(pN l sp W j).map (λy=>y++[c])≠[]:=by obtain⟨w0,hw0,e0⟩:=ci.some_ j jm;exact List.ne_nil_of_mem (uR (qr.mpr ⟨hw0,JI e0⟩))
    obtain⟨js3,c3,e3⟩:=c2.add M.nd jl2 hB nB;rw[m6]at e3;have cl:=c2.len;refine gW ⟨pb,rfl,.inl ⟨_,.inl b2⟩,_,.inl ⟨_,gM j2,.inl b2,rfl,rfl⟩,pd,_,rfl,.inl ⟨_,gM j,.inr ⟨o,s2 _ _ ff⟩,rfl,(DJ jm).symm⟩,?_⟩;rw[Zqx c2 M.nd];refine⟨pb,_,rfl,iM.k (k:=gM j2) b2 (by rw[Ez];exact qz (show _<3000 by lia) (sz 3000 (nD _))),?_⟩;dsimp only;rw[show (((pN l sp W2 j2).length:Nat):Int)+(((pN l sp W j).length:Nat):Int)=(((pN l sp W2 j2).length+(pN l sp W j).length:Nat):Int) by lia,e3];exact⟨_,js3,_,_,rfl,gh s2 nbf,nu,c3,w2.more M (Zp2 ok.k) ci.nd wa.1 hj hc hdl⟩
  .rintro U H2 ⟨W2,js2,v4,v5,rfl,s2,b2,c2,w2⟩;exact⟨W2,js2,_,_,_,rfl,s2,b2,c2,w2.next hj⟩
 .rintro U H1 ⟨W2,js2,v3,v4,v5,rfl,s1,b1,c1,w1⟩;rw[Ez]at w1;refine⟨o,_,s1 _ _ ff,?_⟩;have st:fT H (upd H1 pd (.dK (CD l sp W js))):=fT.thaw hd s1;have b2:upd H1 pd (.dK (CD l sp W js)) pb=some (.dK (CD l sp W2 js2)):=by rw[mT (nX ne)];exact b1
  generalize upd H1 pd (.dK (CD l sp W js))=H2 at st b2;walk_at "k";exact q pb W2 js2 H2 st nb b2 c1 (w1.all ok.mem ci wa)
def ZrR:f7 P w K mg base nQ 2 a.bC a.cE ["self","room"] (sp_KB K a):=by refine T.dE.u.ok Zq6 (λAr A outer s H vs Q E hr h=>?_);obtain⟨p,l,m,sp,i,rfl,hp,hi,q⟩:=h;refine⟨_,(mY (oF (rY (qu (nW (ZrC T) (hM hr) rfl T.dS m9 (mM (pv 1) (mM mX (mM (m5 vn (nE (oC (K:=K) rfl) rfl T.db oz (mM (pD (K:=K) rfl (pv 0) rfl) mQ)) mX) mQ)))))) (mY xN) oE)),?_⟩;obtain⟨dx,qa,ys,h1,h2,h3⟩:=hp;have e:=h3.len;walk_at "rd";refine⟨p,_,dx,_,_,rfl,h1,T.aM,T.ah,Gg,_,_,rfl,.inl ⟨_,.mk h2,rfl⟩,_,_,_,rfl,?_⟩;rw[JI (show (0:Int)<=(i:Nat) by lia),JI (show ((i:Nat):Int)<=(ys.length:Nat)-1 by lia)];exact gq q
def ZrD:f7 P w K mg base nQ 3 a.f_LA a.d_LA ["thing","kinds"] (sp_LA K a):=by
 refine T.dR.u.ok ZqR (λAr A outer s H vs Q E hr h=>?_);have Av:=hr.units;obtain⟨l,m,rfl,hl,q⟩:=h;refine⟨_,(mY (ny (sM (nW (CK T) (hM hr) rfl T.dQ m9 (mM (pv 0) (mM (pv 1) (mM mX mQ)))) (ub (qt (qV (K:=K) rfl Av) (nE (oC (K:=K) rfl) rfl T.db oz (mM (pv 0) mQ)) mX (nZ _)))))),?_⟩;walk_at "rd";refine⟨tx l,m,1,rfl,.inl ⟨l,rfl,hl,λH1 s1=>(gK (λh=>?_) (λh=>?_))⟩⟩
 .refine⟨_,_,rfl,o9 hl,.inl ⟨rfl,?_⟩⟩;have e:=q H1 s1;unfold ye at e;rw[h,sS]at e;rw[mR nU];simpa using e
 .have e:=q H1 s1;unfold ye at e;rw[tN.mpr h,sJ]at e;exact e
def Ct:f7 P w K mg base nQ 3 a.f_K3 a.d_K3 ["thing"] (sp_K3 K a):=by refine T.dc.u.ok Zrb (λAr A outer s H vs Q E hr h=>?_);obtain⟨l,rfl,hl,hk,q⟩:=h;refine⟨_,(mY (oF (rY (qu (nW (ZrB T) (hM hr) rfl T.dZ m9 (mM (pv 0) mQ)))) (mY xN) oE)),?_⟩;walk_at "rd";refine⟨l,rfl,hl,λH2 s2=>?_⟩;rw[hk];exact gq (q H2 s2)
def Bf:f7 P w K mg base (qO P w) 3 a.f_LC a.d_LC ["thing","kinds","most"] (sp_LC K a):=by
 refine T.df.u.okX ZqP (λAr A outer s H vs Q E hr h=>?_);obtain⟨v,m,most,rfl,q⟩:=h;refine⟨_,(mY (oF (rY (qu (nW (CK T) (hM hr) rfl T.dQ m9 (mM (pv 0) (mM (pv 1) (mM (pv 2) mQ)))))) (mY (Zly ZkR rfl (ZlA T.br T.i_LO T.cY (ZeG T) (hM hr) T.b_LO m9 rfl T.m_LO (mM (pv 0) mQ)))) oE)),?_⟩;walk_at "rd";have up:∀H1,fT H H1->Bb a E H v->(1<=1000/\zu (EU K a.c_LO 1 (zk (Str.ofString "word"))) E0 a.c_LO [v] H1 λv H1=>∃e C d,v=.ref e/\H1 e=some (xo e C d)/\Xm K C/\E (.ref C) (some e) (upd H1 e (xr e C d))):=λH1 s1 z=>
  ⟨⋯,zu.of rfl λe H2 s2 n2 x2=>by obtain⟨d,hd,hx⟩:=ZjP x2;exact⟨e,_,d,rfl,hd,T.br,z e _ (s1.trans (gh s2 n2)) hx⟩⟩
 rcases q with⟨l,rfl,hl,hk,q⟩|⟨⟨l,rfl,hl,hk⟩ | o,q⟩
 .exact⟨_,_,_,rfl,.inl ⟨l,rfl,hl,λH2 s2=>(by rw[hk];exact gq (q H2 s2))⟩⟩
 .exact⟨_,_,_,rfl,.inl ⟨l,rfl,hl,λH2 s2=>(by rw[hk];exact gW (up H2 s2 q))⟩⟩
 .exact⟨_,_,_,rfl,.inr ⟨o,gW (up H (fT.refl _) q)⟩⟩
def C5:f7 P w K mg base nQ 3 a.bj a.cB ["self"] (sp_KJ K a):=by
 refine T.dC.u.ok x5 (λAr A outer s H vs Q E hr h=>?_);obtain⟨p,l,m,N,M,W,rfl,hp,q⟩:=h;refine⟨_,(mV (nJ (i:=1) x5.nd (sk mQ))
  (mV (nJ (i:=2) x5.nd (uX (qm (pv 0) T.aQ T.aD (Bi T) (hM hr) T.dD.b .nil m9 (mM mX mQ)) (qm (pv 0) T.aI T.aF (Bi T) (hM hr) T.dD.b .nil m9 (mM mX mQ))))
  (mV (qx pS rfl (DX rfl T.dA (mM mX (mM (m5 pG (uX (t9 (pv 0) T.aQ T.aH (ZrK T) (hM hr) T.eN.b .nil m9) (t9 (pv 0) T.aI T.bY (ZrJ T) (hM hr) T.eO.b .nil m9)) mX) mQ))) (oG (i:=3) x5.nd rfl (Or.inl rfl))
  (mV (nJ (i:=4) x5.nd (uX (qm (pv 0) T.aQ T.aD (Bi T) (hM hr) T.dD.b .nil m9 (mM (pv 3) mQ)) (qm (pv 0) T.aI T.aF (Bi T) (hM hr) T.dD.b .nil m9 (mM (pv 3) mQ))))
  (mV (qe (sV ue PySem.F.slot_list_extend PySem.F.type_list_extend Zke (pv 1) (mM (nW (Zrr T) (hM hr) rfl T.ft m9 (mM (pv 2) (mM (pv 4) (mM (pD (K:=K) rfl (pv 0) rfl) mQ)))) mQ)))
  (mY (nJ (i:=2) x5.nd (pv 4))))))
  (mY (ny (pv 1)))))),?_⟩
 have bd:=hp.bd;obtain⟨n41,nM,m4,wl⟩:=bd;obtain⟨dx,C,hC,hf,cl,nk⟩:∃dx C,(C=a.c_LW\/C=a.c_L9)/\H p=some (.ins C dx (je l m))/\rE K C/\ge K C "own_kinds":=by
  rcases hp with⟨⟨dx,f⟩,_⟩|⟨⟨dx,f⟩,_⟩
  .exact⟨dx,_,.inl rfl,f,T.aQ,T.ao⟩
  .exact⟨dx,_,.inr rfl,f,T.aI,T.ax⟩
 walk_at "rd";refine⟨pE _,gB.of λpf H1 s1 nf lf=>?_⟩;have h1:=hp.same s1;apply Jd (C:=λr H'=>fT H1 H'/\H1 r=none/\H' r=some (.lst ((W 0).map tx)))
 .intro tail;exact CZ h1 nofun nofun (λ_ _ _=>⟨p,l,m,0,N,M,W,rfl,h1,pE _,λq0 H2 s2 n2 e2=>tail q0 H2 ⟨s2,n2,e2⟩⟩) (λ_ _ _=>⟨p,l,m,0,N,M,W,rfl,h1,pE _,λq0 H2 s2 n2 e2=>tail q0 H2 ⟨s2,n2,e2⟩⟩)
 rintro q0 H2 ⟨s2,n2,e2⟩;have h2:=h1.same s2;apply ZiB (C:=λn=>n=N)
 .intro tail;refine CZ h2 nofun nofun (λr ok e=>⟨p,l,m,rfl,r,ok,?_⟩) (λr ok e=>⟨p,l,m,rfl,r,ok,?_⟩)
  .obtain⟨n',en⟩:∃n':Nat,n'=N:=⟨N,rfl⟩;have ec:((l.length:Int)+1)=(n':Int):=by lia
   rw[ec];exact tail n' en
  .rw[DP ok.l1];exact tail (pT l) e.symm
 rintro N rfl;walk_at "rd?";have ej:((N:Nat)+1-1:Int).toNat=N:=by lia
 refine⟨_,_,rfl,⟨∅,∅,∅,∅⟩,?_⟩;rw[ej];refine f9.range (λi U H'=>∃(v3 v4:Option V) (q0:AD),U=[some (.ref p),some (.ref pf),some (.ref q0),v3,v4]/\fT H H'/\H' pf=some (.lst ((vR W m i).map tx))/\H' q0=some (.lst ((W i).map tx))/\pf≠q0) ⟨_,_,q0,rfl,s1.trans s2,s2 _ _ lf,e2,on lf n2⟩ ?_ ?_
 .rintro i U H3 hi ⟨v3,v4,q0,rfl,s3,h3,h4,ne0⟩;have e1:(1+(i:Int))=((i+1:Nat):Int):=by lia
  have la:=Go m4 (λk hk=>(wl k hk).1) (i+1) ∅;rw[CF,nN]at la;rw[e1];walk_at "rd";have h3p:=hp.same s3;apply Jd (C:=λr H'=>fT H3 H'/\H3 r=none/\H' r=some (.lst ((W (i+1)).map tx)))
  .intro tail;exact CZ h3p nofun nofun (λ_ _ _=>⟨p,l,m,i+1,N,M,W,rfl,h3p,∅,λq0 H2 s2 n2 e2=>tail q0 H2 ⟨s2,n2,e2⟩⟩) (λ_ _ _=>⟨p,l,m,i+1,N,M,W,rfl,h3p,∅,λq0 H2 s2 n2 e2=>tail q0 H2 ⟨s2,n2,e2⟩⟩)
  rintro q1 H4 ⟨s4,n4,e4⟩;have h3':=s4 _ _ h3;have ne1:pf≠q1:=on h3 n4;walk_at "rd?";refine⟨.inl ⟨rfl,_,.mk h3'⟩,p,_,dx,_,_,rfl,(s3.trans s4) _ _ hf,cl,nk,DY,?_⟩;refine⟨q0,q1,W i,W (i+1),m,rfl,s4 _ _ h4,e4,by have:=(wl i ∅).1;lia,m4,λw hw=>by have:=(wl i ∅).2 w hw;lia,λr H5 s5 n5 e5=>?_⟩;refine⟨pf,r,_,_,rfl,rfl,s5 _ _ h3',e5,by rw[m6,m6,sizeLine_eq];lia,_,_,q1,rfl,gh (s3.trans (s4.trans s5)) nf,?_,?_,ne1⟩
  .rw[nu,CF,tD]
  .rw[mT (nX ne1)];exact s5 _ _ e4
 .rintro U H3 ⟨v3,v4,q0,rfl,s3,h3,h4,ne0⟩;walk_at "rd";exact q pf H3 s3 nf h3
def IT:f7 P w K mg base nQ 3 a.f_LP a.d_LP ["lesser","longer","reason"] (sp_LP K a):=by
 refine T.eI.u.ok FF (λAr A outer s H vs Q E hr h=>?_);obtain⟨s_,L,rs,m,rfl,hL,ex,hm,hrise,tk,q⟩:=h;refine⟨_,(mV (nJ (i:=3) FF.nd (pJ (uD (K:=K) rfl) (nW (Hl T) (hM hr) rfl T.fk m9 (mM (pv 0) (mM (pv 1) mQ))) mX (λ_ _=>rfl)))
  (mY (ny (sk (mM (rp (mM (pv 3) (mM (rp (mM (pv 2) (mM (vC (K:=K) rfl ug wk wf wq (pv 1) (mM (pv 3) mQ)) mQ))) mQ))) mQ))))),?_⟩
 walk_at "rd";refine⟨s_,L,rfl,hL,ex,tk,λF r H1 pw mF sl tk1 nr lr=>?_⟩;walk_at "rd?";obtain⟨w0,F',rfl⟩:∃w0 F',F=w0::F':=by
  have:L∈F:=(mF L).mpr ⟨mZ.refl L,λz=>by have:=z.len;have:=ex.len;lia⟩;cases F with
  | nil=>cases this
  | cons x F'=>exact⟨x,F',rfl⟩
 have f0:=(mF w0).mp pW;have hmn:∀w,qp s_ L w->¬gU w w0:=λw hw hb=>by
  rcases ot.mp ((mF w).mpr hw) with rfl | h
  .exact yI hb
  .exact Ij hb ((tY.mp pw).1 w h)
 have eF:=Zmb ex hm hrise f0 hmn;refine⟨r,_,_,_,rfl,rfl,.mk lr,jy,rfl,L,w0,rfl,rfl,λk hk=>⟨sz _ ⋯,gQ.of λt1 H2 s2 n2 l2=>⟨sz _ ⋯,gQ.of λt2 H3 s3 n3 l3=>⟨sz _ ⋯,gB.of λp4 H4 s4 n4 l4=>?_⟩⟩⟩⟩;have ek:k=((rK L w0:Nat):Int):=by
  rcases hk with⟨_,no⟩|⟨i,rfl,at_,mn⟩
  .exact JO f0.1 no
  .rw[A7 at_ mn]
 have s14:=s2.trans (s3.trans s4);refine q [.ref t2] p4 H4 (sl.trans s14.l) (tk1.same s14) ((((Nw.of n4).same s3).same s2).l sl) l4 ?_;subst ek;unfold vL;rw[eF];refine⟨rfl,λi y hy=>?_⟩
 match i,hy with
 | 0,hy=>
  cases hy;exact⟨_,rfl,t2,t1,rfl,s4 _ _ l3,(s3.trans s4) _ _ l2⟩
def Hk:f7 P w K mg base nQ 3 a.f_LT a.d_LT ["lesser","longer","kinds","reason"] (sp_LT K a):=by
 refine T.eJ.u.ok yc (λAr A outer s H vs Q E hr h=>?_);have hu1:=yF hr;obtain⟨s_,L,rs,m,rfl,hL,ex,hm,hrise,m4,tk,q⟩:=h;refine⟨_,(mV (xF (i:=4) yc.nd rfl (Or.inr rfl) Bd)
  (nL (mV (qx pS rfl (rX (K:=K) rfl (nW (Hl T) (hM hr) rfl T.fk m9 (mM (pv 0) (mM (pv 1) mQ)))) (oG (i:=5) yc.nd rfl (Or.inl rfl))
  (mV (nJ (i:=6) yc.nd (rp (mM (pv 3) (mM (pv 5) (mM (vC (K:=K) rfl ug wk wf wq (pv 1) (mM (pv 5) mQ)) mQ)))))
  (mY (qx pS rfl (vt (pv 2)) (oG (i:=7) yc.nd rfl (Or.inl rfl))
  (mY (qx pS rfl (rX (K:=K) rfl (sk (mM (m5 sC (pv 5) (pv 7)) (mM (m5 sC (pv 7) (pv 5)) mQ)))) (oG (i:=8) yc.nd rfl (Or.inl rfl))
  (mY (oF (qu (nW (ZrI T) (hM hr) rfl T.fz m9 (mM (pv 1) (mM (pv 8) mQ)))) (nL (mY (zq hu1 (pv 4) (pv 8) (pv 6) rfl))) oE))))))))
  (mY (ny (tG (N:=["word","found"]) (ix:=[none,some 4]) rfl (sw rfl) rfl (rX (K:=K) rfl (nW (Eg T) (hM hr) rfl T.dj m9 (mM (uV (Zje rfl) rfl T.dN uh (mM (pv 4) mQ)) mQ))) (λ_ _ _ _=>(oG (i:=0) (show (["word","found"]:AJ).Nodup from by decide +kernel) rfl (Or.inl rfl) (Or.inr rfl))) (λ_ _ _ _=>wj) (λ_ _ _ _=>(rp (mM (pv 0) (mM (Ew hu1 (pv 1) (pv 0) (λ_ _=>rfl)) mQ)))))))))),?_⟩
 walk_at "rd";intro pd hpd;walk_at "g";have s0:fT H (upd H pd (.dK [])):=pX hpd;have h0:upd H pd (.dK []) pd=some (.dK []):=nu;generalize upd H pd (.dK [])=H0 at s0 h0;refine⟨s_,L,rfl,hL,ex,tk.same s0,λF pF H1 pw mF sl tk1 nF lF=>?_⟩;have d1:=sl _ _ h0 rfl;have nFd:pd≠pF:=λz=>by rw[z,lF]at d1;cases d1
 have FL:F.length<=82:=by
  have nd:F.Nodup:=z4 pw;have hs:∀w∈F,w∈rA L L.length:=λw hw=>Fp.mpr ((Jm ex).mp ((mF w).mp hw)).1;have:=ER F _ nd hs;rw[Cu]at this
  lia
 refine⟨pF,rfl,⟨_,.mk lF⟩,f9.list (xs:=F.map tx) (λi U H'=>∃v5 v6 v7 v8 kvs ws,U=[some (tx s_),some (tx L),some (tx m),some (tx rs),some (.ref pd),v5,v6,v7,v8]/\(∀b o,H1 b=some o->b≠pd->H' b=some o)/\H' pd=some (.dK kvs)/\DI H' s_ L rs (λw=>∃sh∈F.take i,∃c∈m,w=sh++[c]\/w=c::sh) kvs ws/\kvs.length<=i*8) ⟨_,_,_,_,[],[],rfl,λb o e _=>e,d1,⟨rfl,{},λw=>by simp,{}⟩,{}⟩ (λi U H' _ ⟨_,_,_,_,_,_,_,k',_⟩=>.mk (k' _ _ lF (nX nFd))) ?_ ?_⟩
 .rintro i x U H2 hx ⟨v5,v6,v7,v8,kvs,ws,rfl,k2,d2,i2,n2⟩;obtain⟨sh,hsh,rfl⟩:∃sh,F[i]?=some sh/\x=tx sh:=by
   rw[pA]at hx;cases e:F[i]? with
   | none=>rw[e]at hx;cases hx
   | some sh=>rw[e]at hx;exact⟨sh,rfl,(Option.some.inj hx).symm⟩
  have fsh:=(mF sh).mp (qA hsh);have shl:=fsh.1.len;have hi:i<F.length:=(oM.mp hsh).1;walk_at "rd";refine⟨rfl,L,sh,rfl,rfl,λr hr=>⟨sz _ ⋯,gQ.of λt1 H3 s3 n3 l3=>?_⟩⟩;have er:r=((rK L sh:Nat):Int):=by
   rcases hr with⟨_,no⟩|⟨i,rfl,at_,mn⟩
   .exact JO fsh.1 no
   .rw[A7 at_ mn]
  subst er;have d3:=s3 _ _ d2;refine⟨m,rfl,f9.text (λj U H'=>∃v7 v8 kvs ws,U=[some (tx s_),some (tx L),some (tx m),some (tx rs),some (.ref pd),some (tx sh),some (.ref t1),v7,v8]/\(∀b o,H1 b=some o->b≠pd->H' b=some o)/\H' t1=some (.tup [tx rs,tx sh,.int ((rK L sh:Nat):Int)])/\H' pd=some (.dK kvs)/\DI H' s_ L rs (λw=>(∃sh∈F.take i,∃c∈m,w=sh++[c]\/w=c::sh)\/∃c∈m.take j,w=sh++[c]\/w=c::sh) kvs ws/\kvs.length<=i*8+2*j) ⟨_,_,_,_,rfl,λb o e nb=>s3 _ _ (k2 b o e nb),l3,d3,i2.grow (λb us e=>s3 _ _ e) (λw _=>by simp),∅⟩ ?_ ?_⟩
  .rintro j c U H4 hc ⟨v7,v8,kvs,ws,rfl,k4,t4,d4,i4,n4⟩;have hcm:c∈m:=qA hc;have hj:j<m.length:=(oM.mp hc).1;walk_at "rd";refine⟨sz _ ∅,sz _ ∅,sz _ ⋯,gB.of λpl H5 s5 n5 l5=>?_⟩;have nl:pd≠pl:=on d4 n5;refine⟨pl,rfl,⟨_,.mk l5⟩,f9.list (xs:=[tx (sh++[c]),tx (c::sh)]) (λk U H'=>∃v8 kvs ws,U=[some (tx s_),some (tx L),some (tx m),some (tx rs),some (.ref pd),some (tx sh),some (.ref t1),some (tx [c]),v8]/\(∀b o,H1 b=some o->b≠pd->H' b=some o)/\H' t1=some (.tup [tx rs,tx sh,.int ((rK L sh:Nat):Int)])/\H' pl=some (.lst [tx (sh++[c]),tx (c::sh)])/\H' pd=some (.dK kvs)/\DI H' s_ L rs (λw=>((∃sh∈F.take i,∃c∈m,w=sh++[c]\/w=c::sh)\/∃c∈m.take j,w=sh++[c]\/w=c::sh)\/w∈[sh++[c],c::sh].take k) kvs ws/\kvs.length<=i*8+2*j+k) ⟨_,_,_,rfl,λb o e nb=>s5 _ _ (k4 b o e nb),s5 _ _ t4,l5,s5 _ _ d4,i4.grow (λb us e=>s5 _ _ e) (λw _=>by simp),∅⟩ (λk U H' _ ⟨_,_,_,_,_,_,l',_⟩=>.mk l') ?_ ?_⟩
   .rintro k y U H6 hy ⟨v8,kvs,ws,rfl,k6,t6,l6,d6,i6,n6⟩;obtain⟨z,hz,rfl,ez⟩:∃z,[sh++[c],c::sh][k]?=some z/\y=tx z/\(z=sh++[c]\/z=c::sh):=by
     match k,hy with
     | 0,hy=>cases hy;exact⟨_,rfl,rfl,.inl rfl⟩
     | 1,hy=>cases hy;exact⟨_,rfl,rfl,.inr rfl⟩
    have zl:z.length=sh.length+1:=by rcases ez with rfl | rfl<;>simp
    have zne:z≠[]:=λe=>by rw[e]at zl;simp at zl
    have hk:k<2:=(oM.mp hz).1;walk_at "rd";refine⟨L,z,rfl,∅,∅,?_⟩;have tkS:∀w,w∈[sh++[c],c::sh].take (k+1)↔(w∈[sh++[c],c::sh].take k\/w=z):=λw=>by rw[wR hz,oV,oN]
    cases hb:zw L z with
    | false=>
     have nm:¬iP L z:=λh=>by rw[(FM zne).mpr h]at hb;cases hb
     refine gq ⟨_,kvs,ws,rfl,k6,t6,l6,d6,i6.grow (λ_ _ e=>e) (λw mw=>?_),∅⟩;rw[tkS];constructor
     .rintro (h | h)
      .exact .inl h
      .exact .inr (.inl h)
     .rintro (h | h | h)
      .exact .inl h
      .exact .inr h
      .exact JO (h▸mw) nm
    | true=>
     have mz:=(FM zne).mp hb;refine gW ?_;walk_at "g";have es:iZ s_ z=sh:=Zpk ex fsh ez mz;obtain⟨ws',i7⟩:=i6.put (x:=z) (b:=t1) mz (by rw[es];exact t6);have np:pd≠pl:=λe=>by rw[e,l6]at d6;cases d6
     have nt:t1≠pd:=λe=>by rw[e,d6]at t6;cases t6
     have lp:=yq kvs (nO z) (.ref t1);refine⟨pd,_,rfl,iM.k (k:=nO z) d6 (qz (show _<9000 by lia) (sz 9000 (nD _))),_,gv kvs (nO z) (.ref t1),ws',rfl,λb o e nb=>by rw[mT nb];exact k6 b o e nb,by rw[mT nt];exact t6,by rw[mT (nX np)];exact l6,nu,i7.grow (λb us e=>?_) (λw _=>?_),∅⟩
     .rw[mT (λe2=>by rw[e2,d6]at e;cases e)];exact e
     .rw[tkS];constructor
      .rintro ((h | h) | h)
       .exact .inl h
       .exact .inr (.inl h)
       .exact .inr (.inr h)
      .rintro (h | h | h)
       .exact .inl (.inl h)
       .exact .inl (.inr h)
       .exact .inr h
   .rintro U H6 ⟨v8,kvs,ws,rfl,k6,t6,l6,d6,i6,n6⟩;refine⟨_,_,kvs,ws,rfl,k6,t6,d6,i6.grow (λ_ _ e=>e) (λw _=>?_),by simp at n6;lia⟩;rw[wR hc];simp only[oV,oN];constructor
    .rintro ((h | ⟨d,hd,h⟩) | h)
     .exact .inl h
     .exact .inr ⟨d,.inl hd,h⟩
     .exact .inr ⟨c,.inr rfl,~~~h⟩
    .rintro (h | ⟨d,hd | rfl,h⟩)
     .exact .inl (.inl h)
     .exact .inl (.inr ⟨d,hd,h⟩)
     .exact .inr (~~~h)
  .rintro U H4 ⟨v7,v8,kvs,ws,rfl,k4,t4,d4,i4,n4⟩;refine⟨_,_,_,_,kvs,ws,rfl,k4,d4,i4.grow (λ_ _ e=>e) (λw _=>?_),∅⟩;rw[rH,wR hsh];simp only[oV,oN];constructor
   .rintro (⟨s',hs,h⟩ | h)
    .exact⟨s',.inl hs,h⟩
    .exact⟨sh,.inr rfl,h⟩
   .rintro⟨s',hs | rfl,h⟩
    .exact .inl ⟨s',hs,h⟩
    .exact .inr h
 .rintro U H2 ⟨v5,v6,v7,v8,kvs,ws,rfl,k2,d2,i2,n2⟩;walk_at "rd";rw[m6,rH]at i2;have e3:kvs.map (λp=>kV p.1)=ws.map tx:=by
   have:kvs.map (λp=>kV p.1)=(kvs.map (·.1)).map kV:=by rw[ql];rfl
   rw[this,i2.keys,ql];rfl
  refine⟨pd,kvs,rfl,.inl d2,gB.of λp3 H3 s3 n3 l3=>?_⟩;rw[e3]at l3;have mws:∀w,w∈ws↔w∈iJ s_ L m:=λw=>by
   rw[i2.mem,Dl,<-ZnH ex hm];constructor
   .rintro⟨ms,sh,h1,c,h2,h3⟩;exact⟨sh,c,(mF sh).mp h1,h2,h3,ms⟩
   .rintro⟨sh,c,h1,h2,h3,ms⟩;exact⟨ms,sh,(mF sh).mpr h1,c,h2,h3⟩
  have tk2:=Zm7 tk1 k2 d1 rfl rfl;refine⟨p3,ws,rfl,l3,λw hw=>?_,tk2.same s3,λws' r H4 pm pw4 sl4 tk4 nr lr=>?_⟩
  .have:=((i2.mem w).mp hw).1.init.len;rw[rZ]at this
   lia
  .have ew:ws'=iJ s_ L m:=wG (Ef pm pw4 i2.nd) ((tJ hrise).filter _) λw=>by rw[pm.mem_iff,mws]
   subst ew;have d4:=sl4 _ _ (s3 _ _ d2) rfl;have ol:(iJ s_ L m).length<=9000:=by
    have:=pm.length_eq;have e5:=JN List.length e3;rw[m6,m6]at e5;rw[m6]at n2
    lia
   refine⟨r,rfl,⟨_,.mk lr⟩,f8.tupsM (xs:=(iJ s_ L m).map tx) (λi vs=>∃w b,(iJ s_ L m)[i]?=some w/\vs=[tx w,.ref b]/\gp kvs (nO w)=some (.ref b)) (by rw[m6];lia) (.mk lr) ?_ ?_⟩
   .intro i H5 Q5 hi s5 q5;rw[m6]at hi;rw[vM hi];have hw:(iJ s_ L m)[i]?=some ((iJ s_ L m).getD i []):=by rw[pM,om hi];rfl
    obtain⟨b,hv,_⟩:=i2.val _ ((mws _).mpr (qA hw));walk_at "rd";have dg:=iA.k (k:=nO ((iJ s_ L m).getD i [])) (s5 _ _ d4);rw[hv]at dg;refine⟨pd,_,rfl,dg,sz _ ⋯,gQ.of λt6 H6 s6 n6 l6=>q5 t6 _ H6 s6 l6 ⟨_,b,hw,rfl,hv⟩⟩
   .intro p5 ys H5 s5 n5 l5 yl hys;have n4':Nw H p5:=((((Nw.of n5).l sl4).same s3).chg (S:=[pd]) (H:=H1) (λb o e nb _=>k2 b o e (~~~nb)) (λb hb=>by obtain rfl:=oN.mp hb;exact⟨_,d2,rfl⟩)).l (s0.l.trans sl);refine q ys p5 H5 (λb o e t=>?_) (tk4.same s5) n4' l5 ⟨?_,λi y hy=>?_⟩
    .have nb:b≠pd:=on e hpd;exact s5 _ _ (sl4 _ _ (s3 _ _ (k2 _ _ (sl _ _ (s0 _ _ e) t) nb)) t)
    .unfold vz;rw[m6,yl,m6]
    .obtain⟨t,vs,rfl,ht,w,b,hw,rfl,hv⟩:=hys i y hy;obtain⟨b',hv',hb'⟩:=i2.val w ((mws w).mpr (qA hw));obtain rfl:b=b':=by rw[hv]at hv';injection hv' with e;injection e
     refine⟨_,by unfold vz;rw[pA,hw];rfl,t,b,rfl,ht,s5 _ _ (sl4 _ _ (s3 _ _ hb') rfl)⟩
def Zj8:f7 P w K mg base nQ 1 a.f_L3 a.d_L3 ["_law_found","_law_due_here"] (λ_ _ _ _=>False):=T.dL.u.ok wU (λ_ _ _ _ _ _ _ _ _ h=>h.elim) (λ_ _ _ _ h=>h.elim)
def Zru:f7 P w K mg base nQ 2 a.f_L3 a.d_L3 ["_law_found","_law_due_here"] (sp_LS K a):=by
 refine T.dL.u.ok wU (λAr A outer s H vs Q E hr h=>?_);have Av:=hr.units;obtain⟨x,rfl,hx,q⟩:=h;refine⟨_,(mV (oF (qu (nE (Ht (K:=K) rfl) rfl T.cZ qb (mM (pv 1) (mM (rp (mM (qc (v:=.ty "list") rfl T.dN uh rfl) (mM (qc (v:=.ty "tuple") rfl T.dO wb rfl) mQ))) mQ)))) (mV (oF (PW.pt (uM (oA (uE (K:=K) rfl Av) (nE (qg (K:=K) rfl) rfl T.cZ qb (mM (pv 1) (mM (qc (v:=.ty "list") rfl T.dN uh rfl) mQ))) (nE (qg (K:=K) rfl) rfl T.cZ qb (mM (pv 0) (mM (qc (v:=.ty "list") rfl T.dN uh rfl) mQ))) (nZ _)) (vD (oA (uE (K:=K) rfl Av) (nE (qg (K:=K) rfl) rfl T.cZ qb (mM (pv 1) (mM (qc (v:=.ty "tuple") rfl T.dO wb rfl) mQ))) (nE (qg (K:=K) rfl) rfl T.cZ qb (mM (pv 0) (mM (qc (v:=.ty "tuple") rfl T.dO wb rfl) mQ))) (nZ _))))) (mY (ny qk)) oE)
  (nL (mV (oF (oA (uE (K:=K) rfl Av) (nE (oC (K:=K) rfl) rfl T.db oz (mM (pv 0) mQ)) (nE (oC (K:=K) rfl) rfl T.db oz (mM (pv 1) mQ)) (nZ _)) (mY (ny qk)) oE)
  (nL (mV (qx pS rfl (G9 (K:=K) rfl rfl T.fO (mM (pv 0) (mM (pv 1) mQ))) (EI rfl (wE (oG (i:=2) wU.nd rfl (Or.inl rfl)) (wE (oG (i:=3) wU.nd rfl (Or.inl rfl)) DE)))
  (mY (oF (rY (qu (nW (Zj8 T) (hM hr) rfl T.dL m9 (mM (pv 2) (mM (pv 3) mQ))))) (mY (ny qk)) oE)))
  (mY (ny qk))))))) oE)
  (nL (mV (oF (oA wX (pv 1) sj (nZ _)) (mY (ny (qt wX (pv 0) sj (nZ _)))) oE)
  (nL (mV (oF (qu (nE (qg (K:=K) rfl) rfl T.cZ qb (mM (pv 1) (mM (qc (v:=.ty "str") rfl T.fF yo rfl) mQ)))) (mY (ny (sM (nE (qg (K:=K) rfl) rfl T.cZ qb (mM (pv 0) (mM (qc (v:=.ty "str") rfl T.fF yo rfl) mQ))) (ub (qt (zM (K:=K) rfl Av) (pv 0) (pv 1) (nZ _)))))) oE)
  (mY (ny (sM (nE (qg (K:=K) rfl) rfl T.cZ qb (mM (pv 0) (mM (qc (v:=.ty "int") rfl T.fM DA rfl) mQ))) (sM (qt (qV (K:=K) rfl Av) (nE (qg (K:=K) rfl) rfl T.cZ qb (mM (pv 0) (mM (qc (v:=.ty "bool") rfl T.eE xb rfl) mQ))) (nE (qg (K:=K) rfl) rfl T.cZ qb (mM (pv 1) (mM (qc (v:=.ty "bool") rfl T.eE xb rfl) mQ))) (nZ _)) (ub (qt (zM (K:=K) rfl Av) (pv 0) (pv 1) (nZ _)))))))))))),?_⟩
 walk_at "rd";rcases hx with⟨l,rfl⟩|⟨i,rfl⟩
 .refine⟨by rw[sizeLine_eq];decide,gQ.of λp1 H1 s1 n1 l1=>⟨_,p1,["list","tuple"],_,false,rfl,l1,.pl (.str _),rfl,(λ_ z=>nomatch z),gq (qy ?_)⟩⟩;walk_at "rd";refine⟨trivial,gq (qy ?_)⟩;walk_at "rd";exact⟨_,_,_,_,true,rfl,rfl,.ty (.pl (.str _)),tL,gW ⟨_,_,_,_,true,rfl,rfl,.ty (.pl (.str _)),tL,gW (.inl (JB (q H1 s1)))⟩⟩
 .refine⟨by rw[sizeLine_eq];decide,gQ.of λp1 H1 s1 n1 l1=>⟨_,p1,["list","tuple"],_,false,rfl,l1,.pl (.int _),rfl,(λ_ z=>nomatch z),gq (qy ?_)⟩⟩;walk_at "rd";refine⟨trivial,gq (qy ?_)⟩;walk_at "rd";refine⟨_,_,_,_,false,rfl,rfl,.ty (.pl (.int _)),rfl,gq ?_⟩;refine⟨_,_,_,_,true,rfl,rfl,.ty (.pl (.int _)),tL,gW ?_⟩;refine⟨_,_,_,_,false,rfl,rfl,.ty (.pl (.int _)),rfl,_,_,_,_,false,rfl,rfl,.ty (.pl (.int _)),rfl,.inl ⟨rfl,gW (.inl (eq_int (q H1 s1)))⟩⟩
def EX:f7 P w K mg base nQ 3 a.f_L3 a.d_L3 ["_law_found","_law_due_here"] (sp_L3 K a):=by
 refine T.dL.u.ok wU (λAr A outer s H vs Q E hr h=>?_);have Av:=hr.units;obtain⟨x,y,rfl,hxy,q⟩:=h;refine⟨_,(mV (oF (qu (nE (Ht (K:=K) rfl) rfl T.cZ qb (mM (pv 1) (mM (rp (mM (qc (v:=.ty "list") rfl T.dN uh rfl) (mM (qc (v:=.ty "tuple") rfl T.dO wb rfl) mQ))) mQ)))) (mV (oF (PW.pt (uM (oA (uE (K:=K) rfl Av) (nE (qg (K:=K) rfl) rfl T.cZ qb (mM (pv 1) (mM (qc (v:=.ty "list") rfl T.dN uh rfl) mQ))) (nE (qg (K:=K) rfl) rfl T.cZ qb (mM (pv 0) (mM (qc (v:=.ty "list") rfl T.dN uh rfl) mQ))) (nZ _)) (vD (oA (uE (K:=K) rfl Av) (nE (qg (K:=K) rfl) rfl T.cZ qb (mM (pv 1) (mM (qc (v:=.ty "tuple") rfl T.dO wb rfl) mQ))) (nE (qg (K:=K) rfl) rfl T.cZ qb (mM (pv 0) (mM (qc (v:=.ty "tuple") rfl T.dO wb rfl) mQ))) (nZ _))))) (mY (ny qk)) oE)
  (nL (mV (oF (oA (uE (K:=K) rfl Av) (nE (oC (K:=K) rfl) rfl T.db oz (mM (pv 0) mQ)) (nE (oC (K:=K) rfl) rfl T.db oz (mM (pv 1) mQ)) (nZ _)) (mY (ny qk)) oE)
  (nL (mV (qx pS rfl (G9 (K:=K) rfl rfl T.fO (mM (pv 0) (mM (pv 1) mQ))) (EI rfl (wE (oG (i:=2) wU.nd rfl (Or.inl rfl)) (wE (oG (i:=3) wU.nd rfl (Or.inl rfl)) DE)))
  (mY (oF (rY (qu (nW (Zru T) (hM hr) rfl T.dL m9 (mM (pv 2) (mM (pv 3) mQ))))) (mY (ny qk)) oE)))
  (mY (ny qk))))))) oE)
  (nL (mV (oF (oA wX (pv 1) sj (nZ _)) (mY (ny (qt wX (pv 0) sj (nZ _)))) oE)
  (nL (mV (oF (qu (nE (qg (K:=K) rfl) rfl T.cZ qb (mM (pv 1) (mM (qc (v:=.ty "str") rfl T.fF yo rfl) mQ)))) (mY (ny (sM (nE (qg (K:=K) rfl) rfl T.cZ qb (mM (pv 0) (mM (qc (v:=.ty "str") rfl T.fF yo rfl) mQ))) (ub (qt (zM (K:=K) rfl Av) (pv 0) (pv 1) (nZ _)))))) oE)
  (mY (ny (sM (nE (qg (K:=K) rfl) rfl T.cZ qb (mM (pv 0) (mM (qc (v:=.ty "int") rfl T.fM DA rfl) mQ))) (sM (qt (qV (K:=K) rfl Av) (nE (qg (K:=K) rfl) rfl T.cZ qb (mM (pv 0) (mM (qc (v:=.ty "bool") rfl T.eE xb rfl) mQ))) (nE (qg (K:=K) rfl) rfl T.cZ qb (mM (pv 1) (mM (qc (v:=.ty "bool") rfl T.eE xb rfl) mQ))) (nZ _)) (ub (qt (zM (K:=K) rfl Av) (pv 0) (pv 1) (nZ _)))))))))))),?_⟩
 walk_at "rd";rcases hxy with⟨rfl,⟨l,rfl⟩|⟨i,rfl⟩⟩|⟨px,py,vs,rfl,rfl,hx,hy,hz,hv⟩
 .refine⟨by rw[sizeLine_eq];decide,gQ.of λp1 H1 s1 n1 l1=>⟨_,p1,["list","tuple"],_,false,rfl,l1,.pl (.str _),rfl,(λ_ z=>nomatch z),gq (qy ?_)⟩⟩;walk_at "rd";refine⟨trivial,gq (qy ?_)⟩;walk_at "rd";exact⟨_,_,_,_,true,rfl,rfl,.ty (.pl (.str _)),tL,gW ⟨_,_,_,_,true,rfl,rfl,.ty (.pl (.str _)),tL,gW (.inl (JB (q H1 s1)))⟩⟩
 .refine⟨by rw[sizeLine_eq];decide,gQ.of λp1 H1 s1 n1 l1=>⟨_,p1,["list","tuple"],_,false,rfl,l1,.pl (.int _),rfl,(λ_ z=>nomatch z),gq (qy ?_)⟩⟩;walk_at "rd";refine⟨trivial,gq (qy ?_)⟩;walk_at "rd";refine⟨_,_,_,_,false,rfl,rfl,.ty (.pl (.int _)),rfl,gq ?_⟩;refine⟨_,_,_,_,true,rfl,rfl,.ty (.pl (.int _)),tL,gW ?_⟩;refine⟨_,_,_,_,false,rfl,rfl,.ty (.pl (.int _)),rfl,_,_,_,_,false,rfl,rfl,.ty (.pl (.int _)),rfl,.inl ⟨rfl,gW (.inl (eq_int (q H1 s1)))⟩⟩
 .refine⟨by rw[sizeLine_eq];decide,gQ.of λp1 H1 s1 n1 l1=>⟨_,p1,["list","tuple"],_,true,rfl,l1,.pl (.tup (s1 _ _ hy)),rfl,(λ_ z=>nomatch z),gW ?_⟩⟩;have hx1:=s1 _ _ hx;have hy1:=s1 _ _ hy;refine⟨_,_,_,_,false,rfl,rfl,.ty (.pl (.tup hy1)),rfl,_,_,_,_,false,rfl,rfl,.ty (.pl (.tup hx1)),rfl,.inl ⟨rfl,gq ?_⟩⟩;refine⟨_,_,_,_,true,rfl,rfl,.ty (.pl (.tup hy1)),tL,_,_,_,_,true,rfl,rfl,.ty (.pl (.tup hx1)),tL,.inl ⟨rfl,gq (qy ?_)⟩⟩;walk_at "rd";refine⟨_,vs.length,rfl,.inr ⟨_,.mk hx1,rfl⟩,_,vs.length,rfl,.inr ⟨_,.mk hy1,rfl⟩,ne_int (gq (qy ?_))⟩;walk_at "rd";refine⟨px,py,rfl,⟨_,.mk hx1⟩,⟨_,.mk hy1⟩,f9.zip (xs:=vs) (ys:=vs) rfl (λi U H'=>∃v2 v3,U=[some (.ref px),some (.ref py),v2,v3]/\fT H1 H') ⟨_,_,rfl,fT.refl _⟩ (λi U H' _ ⟨_,_,_,s'⟩=>⟨.mk (s' _ _ hx1),.mk (s' _ _ hy1)⟩) ?_ ?_⟩
  .rintro i u v pt U H2 hu hv' ⟨v2,v3,rfl,s2⟩ hn;have e:u=v:=Option.some.inj (hu.symm.trans hv');subst e;walk_at "rd";refine⟨pt,[u,u],rfl,.mk nu,rfl,u,[u],rfl,u,[],rfl,rfl,u,rfl,hv u (qA hu),λH3 s3=>?_⟩;exact gq ⟨_,_,rfl,s2.trans ((pX hn).trans s3)⟩
  .rintro U H2 ⟨v2,v3,rfl,s2⟩;walk_at "rd";exact q H2 (s1.trans s2)
def ZrG:f7 P w K mg base nQ 3 a.f_L4 a.d_L4 ["_law_script","_law_at","_law_kinds_here"] (sp_L4 K a):=by
 refine T.fA.u.ok u0 (λAr A outer s H vs Q E hr h=>?_);have Av:=hr.units;obtain⟨b,ns,k,m,rfl,hS,hk,hk1,hm,h4,q⟩:=h;refine⟨_,(mV (nJ (i:=3) u0.nd (nW (Js T) (hM hr) rfl T.fm m9 (mM (nW (Cp T) (hM hr) rfl T.eC m9 (mM (pv 0) (mM (pv 1) mQ))) (mM mX mQ))))
  (mV (nJ (i:=4) u0.nd (m5 qB (pv 3) mX))
  (mV (oF (oA (qV (K:=K) rfl Av) (m5 qB (m5 rl (pv 3) mX) mX) mX (nZ _)) (mY (nJ (i:=4) u0.nd (m5 qB (m5 rl (pv 3) mX) mX))) oE)
  (mV (nJ (i:=5) u0.nd (nW (Bj T) (hM hr) rfl T.dJ m9 (mM (nW (Cp T) (hM hr) rfl T.eC m9 (mM (pv 0) (mM (m5 pG (pv 1) mX) mQ))) (mM (pv 2) (mM (pv 4) (mM (qt (qV (K:=K) rfl Av) (m5 qB (m5 rl (pv 3) mX) mX) mX (nZ _)) mQ))))))
  (mV (oF (PW.pt (zW (oA (qV (K:=K) rfl Av) (m5 qB (m5 rl (pv 3) mX) mX) mX (nZ _)) (y9 (oA xf (pv 4) mX (nZ _))))) (mV (nJ (i:=5) u0.nd (pL pQ (m5 zO (pL pQ (pv 5) qL (oY (m5 pG mX (m5 qB (m5 rl (pv 3) mX) mX)))) (pv 4)) qL (oY (pv 4))))
  (mV (nJ (i:=6) u0.nd (m5 qB (m5 rl (pv 3) mX) (pv 4)))
  (mV (nJ (i:=7) u0.nd (pJ sR (pv 2) (m5 qB (m5 rl (pv 3) mX) (nE (oC (K:=K) rfl) rfl T.db oz (mM (pv 2) mQ))) (λ_ _=>rfl)))
  (mY (nJ (i:=5) u0.nd (m5 sC (m5 sC (pL pQ (pv 5) qL (oY (pv 6))) (pv 7)) (pL pQ (pv 5) (oY (m5 pG (pv 6) mX)) qL))))))) oE)
  (mY (ny (pv 5)))))))),?_⟩
 walk_at "rd";refine⟨b,ns,k,rfl,hS,hk,∅,λr0=>⟨_,_,rfl,λsp hsp=>?_⟩⟩;have hM:m.length<=1000:=by lia
 have sz:m.length<=sizeLine:=og hM (by rw[sizeLine_eq];decide);have pm:(0:Int)<m.length:=by lia
 have at_:∀x:Int,∃v,qh m (x % m.length)=some v/\v∈m:=λx=>BB (vx _ ∅) (vO _ pm);walk_at "rd";refine⟨⋯,⟨⋯,⋯⟩,⋯,.inl ⟨rfl,gK (λh=>?_) (λh=>?_)⟩⟩
 .obtain⟨n,hn,hn40⟩:∃n:Nat,sp/104 % 41=(n:Int)/\n<=40:=⟨(sp/104 % 41).toNat,∅,∅⟩;rw[hn];refine⟨⟨⋯,⋯⟩,⋯,b,ns,_,rfl,hS,∅,∅,λr1=>⟨⟨⋯,⋯⟩,⋯,.inl ⟨rfl,r1,m,(n:Int),_,rfl,hm,h4,∅,∅,λf H2 hf hfm s2=>?_⟩⟩⟩;rw[rh]at hf;refine⟨⟨⋯,⋯⟩,⋯,.inl ⟨rfl,gK (λh=>gK (λh2=>?_) (λh2=>q f H2 ∅ hfm s2)) (λh=>gq (q f H2 ∅ hfm s2))⟩⟩;have hn0:0<n:=by have:=JK h2;lia
  obtain⟨c1,hc1,hm1⟩:=at_ (sp/7200000);have cl:=xz f none (some (1+sp/30000 % 6));obtain⟨g1,g2⟩:=fill (e:=1+sp/30000 % 6) hn0 hf hfm ∅;have gl:(gG (oR f none (some (1+sp/30000 % 6))) (n:Nat)).length<=40*40:=by rw[A2,rh];exact uB hn40 ∅
  have m0:=vx (sp/180000) (show ((n:Nat):Int)≠0 by lia);have m1:=vO (sp/180000) (show (0:Int)<(n:Nat) by lia);refine⟨⟨⋯,⋯⟩,⋯,_,rfl,f,rfl,by rw[sizeLine_eq];lia,_,_,rfl,rfl,∅,∅,∅,_,rfl,_,rfl,by rw[sizeLine_eq];lia,⟨⋯,⋯⟩,∅,⟨⋯,⋯⟩,_,_,rfl,o9 hM,pm,m,_,c1,rfl,rfl,sz,hc1,?_⟩;generalize oR (gG (oR f none (some (1+sp/30000 % 6))) (n:Nat)) none (some ((n:Nat):Int))=g at g1 g2;obtain⟨k1,k2⟩:=put1 (c:=c1) (i:=sp/180000 % (n:Nat)) g1 g2 hm1 m0 m1;have e1:=k1;rw[nN,nN,pZ]at e1;exact⟨_,rfl,g,rfl,by rw[sizeLine_eq];lia,by rw[sizeLine_eq];lia,_,rfl,g,rfl,by rw[sizeLine_eq];lia,by rw[sizeLine_eq,nN,pZ];lia,q _ H2 ∅ k2 s2⟩
 .obtain⟨n,hn,hn40⟩:∃n:Nat,sp % 13=(n:Int)/\n<=40:=⟨(sp % 13).toNat,∅,∅⟩;rw[hn];refine⟨b,ns,_,rfl,hS,∅,∅,λr1=>⟨⟨⋯,⋯⟩,⋯,.inl ⟨rfl,r1,m,(n:Int),_,rfl,hm,h4,∅,∅,λf H2 hf hfm s2=>?_⟩⟩⟩;rw[rh]at hf;refine⟨⟨⋯,⋯⟩,⋯,.inl ⟨rfl,gK (λh=>gK (λh2=>?_) (λh2=>q f H2 ∅ hfm s2)) (λh=>gq (q f H2 ∅ hfm s2))⟩⟩;have hn0:0<n:=by have:=JK h2;lia
  obtain⟨c1,hc1,hm1⟩:=at_ (sp/7200000);have cl:=xz f none (some (1+sp/30000 % 6));obtain⟨g1,g2⟩:=fill (e:=1+sp/30000 % 6) hn0 hf hfm ∅;have gl:(gG (oR f none (some (1+sp/30000 % 6))) (n:Nat)).length<=40*40:=by rw[A2,rh];exact uB hn40 ∅
  have m0:=vx (sp/180000) (show ((n:Nat):Int)≠0 by lia);have m1:=vO (sp/180000) (show (0:Int)<(n:Nat) by lia);refine⟨⟨⋯,⋯⟩,⋯,_,rfl,f,rfl,by rw[sizeLine_eq];lia,_,_,rfl,rfl,∅,∅,∅,_,rfl,_,rfl,by rw[sizeLine_eq];lia,⟨⋯,⋯⟩,∅,⟨⋯,⋯⟩,_,_,rfl,o9 hM,pm,m,_,c1,rfl,rfl,sz,hc1,?_⟩;generalize oR (gG (oR f none (some (1+sp/30000 % 6))) (n:Nat)) none (some ((n:Nat):Int))=g at g1 g2;obtain⟨k1,k2⟩:=put1 (c:=c1) (i:=sp/180000 % (n:Nat)) g1 g2 hm1 m0 m1;have e1:=k1;rw[nN,nN,pZ]at e1;exact⟨_,rfl,g,rfl,by rw[sizeLine_eq];lia,by rw[sizeLine_eq];lia,_,rfl,g,rfl,by rw[sizeLine_eq];lia,by rw[sizeLine_eq,nN,pZ];lia,q _ H2 ∅ k2 s2⟩
def ZrF:f7 P w K mg base nQ 3 a.f_L5 a.d_L5 ["_law_cell_here","_law_text_here","_law_kinds_here"] (sp_L5 K a):=by
 refine T.fB.u.ok zn (λAr A outer s H vs Q E hr h=>?_);have Av:=hr.units;obtain⟨c,l,m,rfl,hl,hlm,hm,h4,q⟩:=h;refine⟨_,(mV (nJ (i:=3) zn.nd (m5 qB (pv 0) mX))
  (mV (nJ (i:=4) zn.nd (m5 qB (m5 rl (pv 0) mX) (m5 pG (nE (oC (K:=K) rfl) rfl T.db oz (mM (pv 1) mQ)) mX)))
  (mV (nJ (i:=5) zn.nd (pL pQ (pv 1) (oY (pv 4)) (oY (m5 pG (pv 4) (m5 qB (m5 rl (pv 0) mX) mX)))))
  (mV (nJ (i:=6) zn.nd (m5 rl (pv 0) mX))
  (mV (oF (oA (qV (K:=K) rfl Av) (pv 3) mX (nZ _)) (mY (ny (pv 5))) oE)
  (mV (oF (oA (qV (K:=K) rfl Av) (pv 3) mX (nZ _)) (mY (ny (m5 sC (pv 5) (nW (Bj T) (hM hr) rfl T.dJ m9 (mM (m5 rl (pv 6) mX) (mM (pv 2) (mM (m5 qB (pv 6) mX) (mM qk mQ)))))))) oE)
  (mV (oF (oA (qV (K:=K) rfl Av) (pv 3) mX (nZ _)) (mY (ny (nW (Bj T) (hM hr) rfl T.dJ m9 (mM (m5 rl (pv 6) mX) (mM (pv 2) (mM (m5 qB (pv 6) mX) (mM qk mQ))))))) oE)
  (mY (ny (pL pQ (m5 sC (pv 5) (pL pQ (pv 1) (oY (m5 qB (pv 6) (m5 pG (nE (oC (K:=K) rfl) rfl T.db oz (mM (pv 1) mQ)) mX))) qL)) qL (oY mX))))))))))),?_⟩
 have sz:l.length<=sizeLine:=by rw[sizeLine_eq];lia
 walk_at "rd";have cm:∀ {lo hi:Option Int},∀x∈oR l lo hi,x∈m:=λx hx=>hlm x (Jl hx);have c1:=xz l (some (c/4 % ((l.length:Nat)+1))) (some (c/4 % ((l.length:Nat)+1)+c/164 % 41));have c2:=xz l (some (c/6724 % ((l.length:Nat)+1))) none;refine⟨⋯,⟨⋯,⋯⟩,_,_,rfl,o9 ∅,∅,_,rfl,⟨⋯,⋯⟩,⋯,_,rfl,l,rfl,sz,⟨⋯,⋯⟩,.inl ⟨rfl,gK (λh=>q _ H ∅ cm (fT.refl _)) (λh=>.inl ⟨rfl,gK (λh2=>?_) (λh2=>.inl ⟨rfl,gK (λh3=>?_) (λh3=>?_)⟩)⟩)⟩⟩
 .refine⟨⟨⋯,⋯⟩,⋯,_,m,_,true,rfl,hm,h4,∅,∅,λw H2 hw hwm s2=>rT_i ⟨by rw[sizeLine_eq];lia,q _ H2 (by rw[nN];lia) (λx hx=>?_) s2⟩⟩;rcases oV.mp hx with hx | hx
  .exact cm x hx
  .exact hwm x hx
 .exact⟨⟨⋯,⋯⟩,⋯,_,m,_,true,rfl,hm,h4,∅,∅,λw H2 hw hwm s2=>q w H2 ∅ hwm s2⟩
 .refine⟨_,_,rfl,o9 ∅,∅,_,rfl,l,rfl,sz,by rw[sizeLine_eq];lia,_,rfl,_,rfl,by rw[nN,sizeLine_eq];lia,q _ H ?_ (λx hx=>?_) (fT.refl _)⟩
  .rw[B7 _ ⋯,ou];exact Nat.min_le_left _ _
  .rcases oV.mp (Jl hx) with hx | hx
   .exact cm x hx
   .exact cm x hx
def ZrP:f7 P w K mg base nQ 3 a.bG a.cI ["self"] (sp_KM K a):=by
 refine T.d8.u.ok yM (λAr A outer s H vs Q E hr h=>?_);obtain⟨p,l,m,sp,rfl,hp,ok,q⟩:=h;refine⟨_,(mV (nJ (i:=1) yM.nd mX)
  (nL (mV (nJ (i:=2) yM.nd (DB (CJ mX mX EM) rfl rfl {} ⋯))
  (nL (mV (zK pS (oA xf (nE Hf rfl T.db oz (mM (pv 2) mQ)) mX (nZ _))
  (mV (Fb (i:=1) yM.nd rfl (Or.inl rfl) (Zgh rfl rfl T.fS (pv 2)) Gu)
  (mY (nJ (i:=2) yM.nd (qm (pv 0) T.aM T.bW (ZrS T) (hM hr) T.de.b .nil m9 (mM (pv 2) mQ))))))
  (nL (mY (ny (pv 1))))))))),?_⟩
 have l40:=ok.l40;obtain⟨dx,qa,ys,h1,h2,h3⟩:=id hp;have M:=h3.msp;walk_at "rd";walk_at "g";intro pc nc;refine⟨nu,[(gM 0,.int 1)],rfl,⋯,?_⟩;have s1:fT H (upd (upd H pc (.dK [])) pc (.dK (qS [] [(gM 0,.int 1)]))):=gh (pX nc) nc;have b1:upd (upd H pc (.dK [])) pc (.dK (qS [] [(gM 0,.int 1)])) pc=some (.dK (CD l sp [[]] [0])):=by rw[nu,ZoB h3.first];rfl
 generalize upd (upd H pc (.dK [])) pc (.dK (qS [] [(gM 0,.int 1)]))=H1 at s1 b1;walk_at "k";refine gS.by (λU H'=>∃(pc:AD) (W:mU) (js:mN) (k:Nat) (Tt:mU),U=[some (.ref p),some (.int (Tt.length:Nat)),some (.ref pc)]/\fT H H'/\H' pc=some (.dK (CD l sp W js))/\ic l sp W js/\iT l k W/\iI l k Tt) (λU H'=>muAt 1 U) ⟨pc,[[]],[0],0,[],rfl,s1,b1,ic.zero h3.first,iT.zero l,iI.zero l⟩ ?_
 rintro U H2 ⟨pc,W,js,k,Tt,rfl,s2,b2,c2,w2,t2⟩;refine⟨decide (0<js.length),λQ' hq=>?_,λH3 s3=>?_⟩
 .walk_at "rd";refine⟨pc,_,rfl,b2,?_⟩;rw[Ez];have e:decide ((0:Int)<((js.length:Nat):Int))=decide (0<js.length):=by
   rw[qv,JH,JH]
   lia
  rw[e];exact hq H2 (fT.refl _)
 .have S3:=s2.trans s3;have b3:=s3 _ _ b2;refine gK (λh=>?_) (λh=>?_)
  .have A1:=JK h;have wn:0<W.length:=by obtain⟨w0,hw0,_⟩:=c2.some_ _ (t8 A1);exact Br hw0
   have t3:=t2.step w2;have tl:=iI.len t3 l40;rw[nN]at tl;have hv:(CD l sp W js).map (·.2)=(js.map λj=>(((pN l sp W j).length:Nat):Int)).map V.int:=by unfold CD;rw[ql,ql];rfl
   walk_at "rd";refine⟨pc,_,_,rfl,b3,hv,?_⟩;rw[ic.sum M.nd js W c2.nd c2.cov];refine⟨_,_,rfl,rfl,?_⟩;walk_at "rd?";refine⟨p,dx,_,rfl,S3 _ _ h1,u8 nofun nofun,p,pc,l,m,sp,W,js,k,rfl,hp.same S3,ok,b3,c2,w2,λpq W4 js4 H4 s4 n4 b4 c4 w4=>?_⟩;refine⟨⟨pq,W4,js4,k+1,Tt++W,?_,S3.trans s4,b4,c4,w4,t3⟩,?_⟩
   .rw[nN,show (((Tt.length+W.length:Nat):Nat):Int)=((Tt.length:Nat):Int)+((W.length:Nat):Int) by lia]
   .show 1682-(((Tt.length:Nat):Int)+((W.length:Nat):Int)).toNat<1682-((Tt.length:Nat):Int).toNat
    lia
  .have hge:¬0<js.length:=JM (tN.mpr h);have ej:js=[]:=wS ∅;have ew:W=[]:=by
    cases W with
    | nil=>rfl
    | cons w W'=>
     obtain⟨j,hj,_⟩:=c2.cov w pW;rw[ej]at hj;cases hj
   rw[ew]at w2;walk_at "k";rw[t2.end_ w2];exact q H3 S3
def IQ:f7 P w K mg base nQ 4 a.f_KT a.d_KT ["thing","kinds"] (sp_KT K a):=by refine T.dw.u.ok ZqY (λAr A outer s H vs Q E hr h=>?_);obtain⟨l,m,rfl,hl,hk,q⟩:=h;refine⟨_,(mY (oF (rY (qu (nW (ZrD T) (hM hr) rfl T.dR m9 (mM (pv 0) (mM (pv 1) mQ))))) (mY xN) oE)),?_⟩;walk_at "rd";refine⟨l,m,rfl,hl,λH2 s2=>?_⟩;rw[hk];exact gq (q H2 s2)
def Ju:f7 P w K mg base nQ 4 a.bn a.cC ["self","text","kinds"] (sp_KY K a):=by
 refine T.dW.u.ok ZqV (λAr A outer s H vs Q E hr h=>?_);obtain⟨p,dx,l,m,rfl,hp,ok,q⟩:=h;refine⟨_,(mV (qe (nW (Ct T) (hM hr) rfl T.dc m9 (mM (pv 2) mQ)))
  (mV (qe (nW (Bf T) (hM hr) rfl T.df yf (mM (pv 1) (mM (pv 2) (mM (xh rfl T.c_KF) mQ)))))
  (mY (qe (Et rfl T.cX T.bR (Dr T) (hM hr) T.dh.u.kp T.dh.b .nil m9 (mM (pv 0) (mM (pv 1) (mM (pv 2) mQ)))))))),?_⟩
 walk_at "rd";have m4:=ok.m4;have l40:=ok.l40;refine⟨m,rfl,∅,ok.k,λH1 s1=>?_⟩;walk_at "rd?";refine⟨tx l,m,40,rfl,.inl ⟨l,rfl,∅,Jk ok,λH2 s2=>?_⟩⟩;walk_at "rd?";exact⟨p,dx,_,l,m,rfl,.inl rfl,s1.trans s2 _ _ hp,λH3 r k=>q H3 ⟨dx,r⟩ λb o e ne=>k b o (s1.trans s2 _ _ e) ne⟩
def CM:f7 P w K mg base (qO P w) 4 a.bf a.cz ["self","word"] (sp_KE K a):=by
 refine T.dv.u.okX IF (λAr A outer s H vs Q E hr h=>?_);obtain⟨p,l,m,lo,lk,v,rfl,hp,q⟩:=h;refine⟨_,(mV (qe (nW (Bf T) (hM hr) rfl T.df B0 (mM (pv 1) (mM (pD (K:=K) rfl (pv 0) rfl) (mM (xh rfl T.c_KW) mQ)))))
  (mV (nJ (i:=2) IF.nd (nW (Zrs T) (hM hr) rfl T.eU m9 (mM (uX (qm (pv 0) T.aQ T.am (D7 T) (hM hr) T.dk.b .nil m9 (mM (nE (oC (K:=K) rfl) rfl T.db oz (mM (pv 1) mQ)) mQ)) (uX (qm (pv 0) T.ag T.aB (D7 T) (hM hr) T.dk.b .nil m9 (mM (nE (oC (K:=K) rfl) rfl T.db oz (mM (pv 1) mQ)) mQ)) (qm (pv 0) T.aI T.bv (Fm T) (hM hr) T.dH.b .nil m9 (mM (nE (oC (K:=K) rfl) rfl T.db oz (mM (pv 1) mQ)) mQ)))) (mM (pv 1) mQ))))
  (mY (ny (ZlD (Zlv (pv 2) (λ_=>rfl)) (pJ (uD (K:=K) rfl) (pv 2) mX (λ_ _=>rfl)) sj))))),?_⟩
 have b3:=hp;obtain⟨C,dx,fs,f,cl,na,gk⟩:∃C dx fs,H p=some (.ins C dx fs)/\rE K C/\ge K C (Str.ofString "own_kinds")/\fs.lookup (Str.ofString "own_kinds")=some (tx m):=by
  rcases hp with⟨⟨dx,f⟩|⟨la,da,ds,h⟩,_⟩|⟨⟨dx,f⟩,_⟩
  .exact⟨_,dx,_,f,T.aQ,T.ao,DY⟩
  .obtain⟨dx,f⟩:=h.fld;exact⟨_,dx,_,f,T.ag,T.ad,BC⟩
  .exact⟨_,dx,_,f,T.aI,T.ax,DY⟩
 walk_at "rd";refine⟨p,C,dx,fs,_,rfl,f,cl,na,gk,?_⟩;rcases q with⟨w_,rfl,hw,hm,q⟩|⟨bad,x⟩
 .refine⟨_,m,60,rfl,.inl ⟨w_,rfl,∅,ZpZ hm hw,λH1 s1=>?_⟩⟩;have fin:∀ {p1:AD} {H2:Hp},fT H1 H2->H2 p1=some (.lst ((gc (lo w_.length) w_).map λi=>V.int (i:Nat)))->∃k,mh K (.ref p1) H2 k/\if k=true then lz K (.ref p1) (V.int 0) H2 Q else Q V.non H2:=λ{p1 H2} s2 l2=>by
   have q':=q H2 (s1.trans s2);cases hpl:gc (lo w_.length) w_ with
   | nil=>
    rw[hpl]at l2 q';exact⟨false,.inl ⟨_,.mk l2,rfl⟩,gq q'⟩
   | cons i r=>
    rw[hpl]at l2 q';exact⟨true,.inl ⟨_,.mk l2,rfl⟩,gW ⟨p1,_,_,_,rfl,rfl,.mk l2,jy,q'⟩⟩
  rcases b3 with⟨hb,ok,rfl,rfl⟩|⟨⟨dx,f⟩,ok,rfl,rfl⟩
  .have l40:=ok.l40;rcases hb with⟨dx,f⟩|⟨la,da,ds,h⟩
   .exact .inl ⟨p,dx,_,rfl,s1 _ _ f,tR nofun nofun,_,_,rfl,o9 ∅,p,l,m,w_.length,rfl,.inl ⟨dx,s1 _ _ f⟩,l,w_,rfl,∅,∅,λp1 H2 s2 l2=>fin s2 l2⟩
   .have h1:=h.same s1;obtain⟨dx,f⟩:=id h1.fld;exact .inr (.inl ⟨p,dx,_,rfl,f,sN,_,_,rfl,o9 ∅,p,l,m,w_.length,rfl,.inr ⟨_,_,_,h1⟩,l,w_,rfl,∅,∅,λp1 H2 s2 l2=>fin s2 l2⟩)
  .have l1:=ok.l1;have l20:=ok.l20;have ll:=wF (l:=l) (n:=w_.length) l1;exact .inr (.inr ⟨p,dx,_,rfl,s1 _ _ f,tR nofun nofun,_,_,rfl,o9 ∅,p,l,m,w_.length,rfl,⟨dx,s1 _ _ f⟩,ok,∅,gC l w_.length,w_,rfl,∅,∅,λp1 H2 s2 l2=>fin s2 l2⟩)
 .exact⟨v,m,60,rfl,.inr ⟨bad,x⟩⟩
def ZrX:f7 P w K mg base nQ 4 a.bq a.cO ["self","kinds"] (sp_K2 K a):=by
 refine T.eP.u.ok Zrc (λAr A outer s H vs Q E hr h=>?_);obtain⟨p,dx,m,rfl,hp,kok,q⟩:=h;refine⟨_,(mV (qe (nW (Ct T) (hM hr) rfl T.dc m9 (mM (pv 1) mQ)))
  (nL (mV (qe (Et rfl T.cX T.bR (Dr T) (hM hr) T.dh.u.kp T.dh.b .nil m9 (mM (pv 0) (mM (qj (l:=[]) nofun) (mM (pv 1) mQ)))))
  (nL (mV (vP (pv 0) (uV (El rfl) rfl T.dN uh (mM (pv 1) mQ)) rfl)
  (nL (mY (vP (pv 0) (sk mQ) rfl)))))))),?_⟩
 walk_at "rd";have m4:=kok.m4;refine⟨m,rfl,∅,kok.k,λH1 s1=>?_⟩;walk_at "h";refine⟨p,dx,_,[],m,rfl,.inr (.inl rfl),s1 _ _ hp,λH2 f2 k2=>?_⟩;walk_at "h";refine⟨m,rfl,∅,gB.of λla H3 s3 n3 l3=>?_⟩;have f3:=s3 _ _ f2;refine⟨p,_,dx,_,rfl,f3,T.ag,T.af,(by show 2<1000;decide),?_⟩;walk_at "g";refine⟨pE _,gB.of λda H4 s4 n4 l4=>?_⟩;have nla:p≠la:=on f2 n3;have kr:=kok.kinds;have f4:=s4 _ _ (nu (H:=H3) (a:=p) (o:=.ins a.c_LX dx (gs (Str.ofString "own_lacking") (.ref la) (gs "own_kinds" (tx m) (gs "own_text" (tx []) [])))));have l4':upd H3 p (.ins a.c_LX dx (gs (Str.ofString "own_lacking") (.ref la) (gs "own_kinds" (tx m) (gs "own_text" (tx []) [])))) la=some (.lst ((fX m).map tx)):=by rw[mT (nX nla)];exact l3
 have nda:p≠da:=on nu n4;have ned:la≠da:=on l4' n4;have n3':H3 da=none:=by rw[mT (nX nda)]at n4;exact n4
 have back:∀b,b≠p->H2 b=none->H b=none:=λb hb e=>by
  cases z:H1 b with
  | none=>exact s1.free z
  | some o=>rw[k2 b o z hb]at e;cases e
 refine⟨p,_,dx,_,rfl,f4,T.ag,T.aq,(by show 3<1000;decide),q la da _ ⟨⟨dx,?_⟩,?_,⟨[],?_,rfl,λi y h=>by simp at h⟩,.nil,kr,ned⟩ (back la (nX nla) n3) (back da (nX nda) (s3.free n3')) λb o hb nb=>?_⟩
 .rw[nu];exact JN (λz=>some (HO.ins a.c_LX dx z)) Ha
 .rw[mT (nX nla),ZlY kr.rise];exact s4 _ _ l4'
 .rw[mT (nX nda)];exact l4
 .rw[mT nb];exact s4 _ _ (by rw[mT nb];exact s3 _ _ (k2 _ _ (s1 _ _ hb) nb))
def ZrY:f7 P w K mg base nQ 4 a.bO a.cS ["self","longer"] (sp_K1 K a):=by
 refine T.eR.u.ok EE (λAr A outer s H vs Q E hr h=>?_);obtain⟨p,la,da,s_,L,m,rfl,hp,hla,hL,ex,hm,ok,tk,q⟩:=h;refine⟨_,(nL (mV (nJ (i:=2) EE.nd (nW (Hk T) (hM hr) rfl T.eJ m9 (mM (pD (K:=K) rfl (pv 0) rfl) (mM (pv 1) (mM (pD (K:=K) rfl (pv 0) rfl) (mM (qj (l:=[102,105,114,115,116]) nofun) mQ))))))
  (nL (mV (nJ (i:=3) EE.nd (nW (IT T) (hM hr) rfl T.eI m9 (mM (pD (K:=K) rfl (pv 0) rfl) (mM (pv 1) (mM (qj (l:=[115,116,97,110,100,115]) nofun) mQ)))))
  (nL (mY (ny (qm (pv 0) T.ag T.bz (GO T) (hM hr) T.dM.b .nil m9 (mM (pv 1) (mM (pv 2) (mM (pv 3) mQ))))))))))),?_⟩
 obtain⟨dx,f⟩:=hp;have m4:=ok.m4;walk_at "rd";walk_at "g";refine⟨p,_,dx,_,_,rfl,f,T.ag,T.aa,uw,p,_,dx,_,_,rfl,f,T.ag,T.ad,BC,?_⟩;refine⟨s_,L,_,m,rfl,∅,ex,hm,ok.rise,m4,tk,λys c H1 sl1 tk1 n1 l1 r1=>?_⟩;walk_at "g";have f1:=sl1 _ _ f rfl;refine⟨p,_,dx,_,_,rfl,f1,T.ag,T.aa,uw,?_⟩;refine⟨s_,L,_,m,rfl,∅,ex,hm,ok.rise,tk1,λzs g H2 sl2 tk2 n2 l2 r2=>?_⟩;walk_at "g";have f2:=sl2 _ _ f1 rfl;have l12:=sl2 _ _ l1 rfl;have la2:=sl2 _ _ (sl1 _ _ hla rfl) rfl;have sl02:=sl1.trans sl2;have ncg:c≠g:=n2.ne l1 rfl;refine⟨p,dx,_,rfl,f2,sN,p,la,da,c,g,s_,L,m,nR s_ m,nR L m,ys,zs,_,_,rfl,⟨dx,f2⟩,la2,l12,r1.l sl2,l2,r2,tJ ok.rise,tJ ok.rise,?_,?_,?_,?_,?_,?_,?_,?_,tk2,?_⟩
 .rw[zp];exact z4 ((tJ ok.rise).filter _)
 .intro w;rw[zp,Dl]
 .intro w;rw[yG,D3]
 .exact og (yw m4 (by have:=ex.len;lia)) ⋯
 .rw[<-m6 (f:=(·.1)),zp];exact og (tO _ _) (og (yw m4 ∅) ⋯)
 .rw[<-m6 (f:=(·.1)),yG];exact og (tO _ _) (og (yw m4 (by have:=ex.len;lia)) ⋯)
 .intro w hw;have:=zX (by have:=ex.len;lia) hw;lia
 .intro w hw;have:=zX hL hw;lia
 .intro t la3 H3 ch3 f3 nl3 e3 t3 tk3;have np:∀us,H2 p≠some (.tup us):=λus z=>by rw[f2]at z;cases z
  have ncp:p≠c:=n1.ne f rfl;have ngp:p≠g:=n2.ne f1 rfl;refine q t c g la3 H3 (sl02.chg.trans ch3) f3 e3 ⟨t3,⟨ys,ch3 _ _ l12 (~~~nX ncp) rfl,(r1.l sl2).chg ch3 (λb hb us=>by rw[oN.mp hb];exact np us)⟩,⟨zs,ch3 _ _ l2 (~~~nX ngp) rfl,r2.chg ch3 (λb hb us=>by rw[oN.mp hb];exact np us)⟩,n1,n2.l sl1,nl3.l sl02,ncg,nl3.ne l12 rfl,nl3.ne l2 rfl⟩ tk3
def ZrO:f7 P w K mg base nQ 4 a.bP a.cT ["self","lesser"] (sp_KO K a):=by
 refine T.eB.u.ok D9 (λAr A outer s H vs Q E hr h=>?_);obtain⟨p,la,da,s_,L,m,rfl,hp,hla,hL,ex,hm,ok,tk,q⟩:=h;refine⟨_,(mV (nJ (i:=2) D9.nd (nW (IT T) (hM hr) rfl T.eI m9 (mM (pv 1) (mM (pD (K:=K) rfl (pv 0) rfl) (mM (qj (l:=[115,116,111,111,100]) nofun) mQ)))))
  (mV (nJ (i:=3) D9.nd (nW (Hk T) (hM hr) rfl T.eJ m9 (mM (pv 1) (mM (pD (K:=K) rfl (pv 0) rfl) (mM (pD (K:=K) rfl (pv 0) rfl) (mM (qj (l:=[108,97,115,116]) nofun) mQ))))))
  (mY (ny (qm (pv 0) T.ag T.bz (GO T) (hM hr) T.dM.b .nil m9 (mM (pv 1) (mM (pv 2) (mM (pv 3) mQ)))))))),?_⟩
 obtain⟨dx,f⟩:=hp;have m4:=ok.m4;walk_at "rd";refine⟨p,_,dx,_,_,rfl,f,T.ag,T.aa,uw,?_⟩;refine⟨s_,L,_,m,rfl,∅,ex,hm,ok.rise,tk,λys c H1 sl1 tk1 n1 l1 r1=>?_⟩;walk_at "rd?";have f1:=sl1 _ _ f rfl;refine⟨p,_,dx,_,_,rfl,f1,T.ag,T.aa,uw,p,_,dx,_,_,rfl,f1,T.ag,T.ad,BC,?_⟩;refine⟨s_,L,_,m,rfl,∅,ex,hm,ok.rise,m4,tk1,λzs g H2 sl2 tk2 n2 l2 r2=>?_⟩;walk_at "rd?";have f2:=sl2 _ _ f1 rfl;have l12:=sl2 _ _ l1 rfl;have la2:=sl2 _ _ (sl1 _ _ hla rfl) rfl;have sl02:=sl1.trans sl2;have ncg:c≠g:=n2.ne l1 rfl;refine⟨p,dx,_,rfl,f2,sN,p,la,da,c,g,L,s_,m,nR L m,nR s_ m,ys,zs,_,_,rfl,⟨dx,f2⟩,la2,l12,r1.l sl2,l2,r2,tJ ok.rise,tJ ok.rise,?_,?_,?_,?_,?_,?_,?_,?_,tk2,?_⟩
 .rw[yG];exact z4 ((tJ ok.rise).filter _)
 .intro w;rw[yG,D3]
 .intro w;rw[zp,Dl]
 .exact og (yw m4 ∅) ⋯
 .rw[<-m6 (f:=(·.1)),yG];exact og (tO _ _) (og (yw m4 (by have:=ex.len;lia)) ⋯)
 .rw[<-m6 (f:=(·.1)),zp];exact og (tO _ _) (og (yw m4 ∅) ⋯)
 .intro w hw;have:=zX hL hw;lia
 .intro w hw;have:=zX (by have:=ex.len;lia) hw;lia
 .intro t la3 H3 ch3 f3 nl3 e3 t3 tk3;have np:∀us,H2 p≠some (.tup us):=λus z=>by rw[f2]at z;cases z
  have ncp:p≠c:=n1.ne f rfl;have ngp:p≠g:=n2.ne f1 rfl;refine q t c g la3 H3 (sl02.chg.trans ch3) f3 e3 ⟨t3,⟨ys,ch3 _ _ l12 (~~~nX ncp) rfl,(r1.l sl2).chg ch3 (λb hb us=>by rw[oN.mp hb];exact np us)⟩,⟨zs,ch3 _ _ l2 (~~~nX ngp) rfl,r2.chg ch3 (λb hb us=>by rw[oN.mp hb];exact np us)⟩,n1,n2.l sl1,nl3.l sl02,ncg,nl3.ne l12 rfl,nl3.ne l2 rfl⟩ tk3
def ZrV:f7 P w K mg base nQ 4 a.bp a.cK ["self","text","kinds"] (sp_K7 K a):=by
 refine T.fg.u.ok Zq8 (λAr A outer s H vs Q E hr h=>?_);have Av:=hr.units;obtain⟨p,dx,l,m,rfl,hp,ok,q⟩:=h;refine⟨_,(mV (qe (nW (Ct T) (hM hr) rfl T.dc m9 (mM (pv 2) mQ)))
  (mV (oF (PW.pt (uM (rY (qu (nW (CK T) (hM hr) rfl T.dQ m9 (mM (pv 1) (mM (pv 2) (mM (xh rfl T.c_KK) mQ)))))) (vD (oA (qV (K:=K) rfl Av) (pv 1) (qj (l:=[]) nofun) (nZ _))))) (mY xN) oE)
  (mY (qe (Et rfl T.cX T.bR (Dr T) (hM hr) T.dh.u.kp T.dh.b .nil m9 (mM (pv 0) (mM (pv 1) (mM (pv 2) mQ)))))))),?_⟩
 walk_at "rd";have m4:=ok.m4;have l20:=ok.l20;refine⟨m,rfl,∅,ok.k,λH1 s1=>?_⟩;walk_at "rd?";refine⟨tx l,m,20,rfl,.inl ⟨l,rfl,∅,λH2 s2=>?_⟩⟩;walk_at "rd?";rw[Zn7 ok,Bool.not_true];refine gq (.inl ⟨rfl,?_⟩);rw[mR nU,Zjq ok.l1];exact gq ⟨p,dx,_,l,m,rfl,.inr (.inr rfl),s1.trans s2 _ _ hp,λH3 r k=>q H3 ⟨dx,r⟩ λb o e ne=>k b o (s1.trans s2 _ _ e) ne⟩
def FC:f7 P w K mg base nQ 4 a.bF a.cH ["self","word"] (sp_KC K a):=by
 refine T.dz.u.ok A8 (λAr A outer s H vs Q E hr h=>?_);obtain⟨p,l,m,sp,w_,rfl,hp,hw,hm,q⟩:=h;refine⟨_,(mV (qe (nW (Bf T) (hM hr) rfl T.df yf (mM (pv 1) (mM (pD (K:=K) rfl (pv 0) rfl) (mM (xh rfl T.c_KW) mQ)))))
  (nL (mV (nJ (i:=2) A8.nd mX)
  (mV (qx pS rfl (vt (pv 1)) (oG (i:=3) A8.nd rfl (Or.inl rfl))
  (mV (nJ (i:=2) A8.nd (qm (pv 0) T.aM T.bg (DK T) (hM hr) T.dG.b .nil m9 (mM (pv 2) (mM (pv 3) mQ))))
  (mY (oF (oA wX (pv 2) sj (nZ _)) (mY (ny sj)) oE))))
  (nL (mY (ny (pv 2)))))))),?_⟩
 obtain⟨dx,qa,ys,h1,h2,h3⟩:=id hp;walk_at "rd";refine⟨p,_,dx,_,_,rfl,h1,T.aM,T.ae,CG,tx w_,m,60,rfl,.inl ⟨w_,rfl,∅,Hb ∅ hm,λH1 s1=>qy ?_⟩⟩;walk_at "rd";refine⟨w_,rfl,f9.text (λi U H'=>H'=H1/\∃(j:Nat) (v3:Option V),U=[some (.ref p),some (tx w_),some (.int ((j:Nat):Int)),v3]/\sp[j]?=some (oB l (w_.take i))/\mZ (w_.take i) l) ⟨rfl,0,_,rfl,by rw[List.take_zero,B6];exact h3.first,mZ.nil l⟩ ?_ ?_⟩
 .rintro i c U H2 hc ⟨rfl,j,v3,rfl,hj,hI⟩;have hcm:=hm c (qA hc);have et:w_.take (i+1)=w_.take i++[c]:=wR hc;walk_at "rd";refine⟨p,dx,_,rfl,s1 _ _ h1,u8 nofun nofun,p,l,m,sp,j,_,c,rfl,hp.same s1,hj,hcm,λo ho=>?_⟩;rcases ho with⟨hb,rfl⟩|⟨hb,j2,hj2,rfl⟩
  .refine⟨by trivial,?_⟩;rw[Option.getD_none,JI rfl];refine gW (q .non _ s1 (.inl ⟨λhInf=>?_,rfl⟩));have:=xx.mpr (yH hInf (i+1));rw[et,vU]at this;exact this hb
  .refine⟨by trivial,?_⟩;rw[Option.getD_some,JJ (λz=>by cases z)];exact gq ⟨by trivial,j2,_,rfl,by rw[et,vU];exact hj2,by rw[et];exact xx.mp (by rw[vU];exact hb)⟩
 .rintro U H2 ⟨rfl,j,v3,rfl,hj,hI⟩;rw[rH]at hj hI;walk_at "k";exact q _ _ s1 (.inr ⟨hI,j,hj,rfl⟩)
def ZrQ:f7 P w K mg base nQ 4 a.bo a.cD ["self","text","kinds"] (sp_KL K a):=by
 refine T.d7.u.ok Zq3 (λAr A outer s H vs Q E hr h=>?_);obtain⟨p,dx,l,m,rfl,hp,ok,q⟩:=h;refine⟨_,(mV (qe (nW (Ct T) (hM hr) rfl T.dc m9 (mM (pv 2) mQ)))
  (mV (qe (nW (Bf T) (hM hr) rfl T.df yf (mM (pv 1) (mM (pv 2) (mM (xh rfl T.c_KF) mQ)))))
  (mV (vP (pv 0) (pv 2) rfl)
  (mY (vP (pv 0) (nW (ZrA T) (hM hr) rfl T.d0 m9 (mM (pv 1) (mM (pv 2) mQ))) rfl))))),?_⟩
 have m4:=ok.m4;have l40:=ok.l40;walk_at "rd";refine⟨m,rfl,∅,ok.k,λH1 s1=>⟨tx l,m,40,rfl,.inl ⟨l,rfl,∅,Jk ok,λH2 s2=>?_⟩⟩⟩;have hp2:=(s1.trans s2) _ _ hp;refine⟨p,_,dx,_,rfl,hp2,T.aM,T.ae,by show (0:Nat)<1000;decide,l,m,rfl,l40,m4,ok.mem,λpq sp ys H3 s3 n3 h3 mo=>?_⟩;have hp3:=s3 _ _ (nu (H:=H2) (a:=p) (o:=.ins a.c_LH dx (gs "own_kinds" (tx m) [])));have ne:pq≠p:=λz=>by rw[z,hp3]at h3;cases h3
 refine⟨p,_,dx,_,rfl,hp3,T.aM,T.ah,?_,q sp _ ⟨dx,pq,ys,nu,by rw[mT ne];exact h3,gY.upd mo hp3⟩ λb o hb nb=>?_⟩
 .show (1:Nat)<1000;decide
 .rw[mT nb];exact s3 _ _ (by rw[mT nb];exact(s1.trans s2) _ _ hb)
def BT:f7 P w K mg base (qO P w) 5 a.f_ask a.d_ask ["band","word"] (sp_ask K a):=by
 refine T.fq.u.okX Dm (λAr A outer s H vs Q E hr h=>?_);obtain⟨p,l,m,lo,lk,v,rfl,hp,q⟩:=h;refine⟨_,(mV (nJ (i:=2) Dm.nd (uX (qm (pv 0) T.aQ T.aA (CM T) (hM hr) T.dv.b .nil B0 (mM (pv 1) mQ)) (uX (qm (pv 0) T.ag T.aC (CM T) (hM hr) T.dv.b .nil B0 (mM (pv 1) mQ)) (qm (pv 0) T.aI T.aE (CM T) (hM hr) T.dv.b .nil B0 (mM (pv 1) mQ)))))
  (nL (mV (oF (oA DU (pv 2) sj (nZ _)) (mY (ny (rp (mM (qj (l:=[116,104,101,114,101]) nofun) (mM (pv 2) mQ))))) oE)
  (nL (mV (nJ (i:=3) Dm.nd (nW (Zrw T) (hM hr) rfl T.eY m9 (mM (uX (t9 (pv 0) T.aQ T.av (C5 T) (hM hr) T.dC.b .nil m9) (uX (t9 (pv 0) T.ag T.bw (Ic T) (hM hr) T.dI.b .nil m9) (t9 (pv 0) T.aI T.aG (C5 T) (hM hr) T.dC.b .nil m9))) (mM (pv 1) mQ))))
  (nL (mY (ny (rp (mM (qj (l:=[108,97,99,107,115]) nofun) (mM (pJ (wM (K:=K) rfl) (pv 3) mX (λ_ _=>rfl)) (mM (pJ (wM (K:=K) rfl) (pv 3) mX (λ_ _=>rfl)) mQ)))))))))))),?_⟩
 walk_at "rd";refine Zou hp nofun nofun nofun ?_;rcases q with⟨w_,rfl,hw,hm,q⟩|⟨bad,x⟩
 .refine⟨p,l,m,lo,lk,_,rfl,hp,.inl ⟨w_,rfl,hw,hm,λH1 s1=>?_⟩⟩;walk_at "h";refine⟨trivial,?_⟩;cases ho:(gc (lo w_.length) w_).head? with
  | some i=>exact gW ⟨sz 2 ⋯,gQ.of λt H2 s2 n2 l2=>q _ H2 (s1.trans s2) ⟨t,_,rfl,l2,.inl ⟨i,ho,rfl⟩⟩⟩
  | none=>
   obtain⟨x,k,ex⟩:=hp.some hm ho;obtain⟨b1,b2⟩:=hp.bd;refine gq ?_;show uA _ _ _ _;refine qy ?_;refine seqI (λU2 H2=>∃t,U2=[some (V.ref p),some (tx w_),some (Ft none),some (.ref t)]/\fT H1 H2/\H2 t=some (.tup [tx x,.int k])) (λT0 tail=>?_) ?_
   .have fin:∀ {b:AD} {H2:Hp} {Q':VK},H2 b=some (.lst (lk.map tx))->(∀(t:AD) (H3:Hp),fT H2 H3->H3 t=some (.tup [tx x,.int k])->Q' (.ref t) H3)->sp_LQ K a [.ref b,tx w_] H2 Q' E0:=λ{b H2 Q'} hb hq=>⟨b,_,w_,rfl,hb,∅,λy hy=>by have:=b2 y hy;lia,∅,λv H3 s3 an=>by rw[ex]at an;obtain⟨t,rfl,ht⟩:=an;exact hq t H3 s3 ht⟩
    walk_at "rd";rcases hp with⟨hb,ok,rfl,rfl⟩|⟨hr1,ok,rfl,rfl⟩
    .rcases hb with hr1 | ⟨la,da,ds,hs⟩
     .have hr1:=hr1.same s1;obtain⟨dx,f⟩:=id hr1;exact .inl ⟨p,dx,_,rfl,f,tR nofun nofun,p,l,m,_,_,_,rfl,.inl ⟨hr1,ok,rfl,rfl,rfl⟩,λb H2 s2 _ l2=>fin l2 λt H3 s3 ht=>tail _ _ ⟨t,rfl,s2.trans s3,ht⟩⟩
     .have hs:=hs.same s1;obtain⟨dx,f⟩:=id hs.fld;exact .inr (.inl ⟨p,dx,_,rfl,f,sN,p,la,da,l,m,ds,rfl,hs,λb nb=>fin nu λt H3 s3 ht=>tail _ _ ⟨t,rfl,(pX nb).trans s3,ht⟩⟩)
    .have hr1:=hr1.same s1;obtain⟨dx,f⟩:=id hr1;exact .inr (.inr ⟨p,dx,_,rfl,f,tR nofun nofun,p,l,m,_,41,_,rfl,.inr ⟨hr1,ok,rfl,rfl,rfl⟩,λb H2 s2 _ l2=>fin l2 λt H3 s3 ht=>tail _ _ ⟨t,rfl,s2.trans s3,ht⟩⟩)
   .rintro U2 H2 ⟨t,rfl,s2,ht⟩;walk_at "rd";exact⟨t,_,_,_,rfl,rfl,.mk ht,rfl,t,_,_,_,rfl,rfl,.mk ht,rfl,sz 3 ⋯,gQ.of λt2 H4 s4 n4 l4=>q _ H4 (s1.trans (s2.trans s4)) ⟨t2,_,rfl,l4,.inr ⟨ho,x,k,ex,rfl⟩⟩⟩
 .exact⟨p,l,m,lo,lk,v,rfl,hp,.inr ⟨bad,x⟩⟩
def ZrT:f7 P w K mg base nQ 5 a.bM a.cQ ["self","letter"] (sp_K9 K a):=by
 refine T.fi.u.ok Zq7 (λAr A outer s H vs Q E hr h=>?_);obtain⟨p,la,da,l,m,ds,c0,rfl,hp,hd,tk,hc,hl,q⟩:=h;refine⟨_,(nL (mV (qe (nW (IQ T) (hM hr) rfl T.dw m9 (mM (pv 1) (mM (pD (K:=K) rfl (pv 0) rfl) mQ))))
  (mV (oF (oA DQ (nE (oC (K:=K) rfl) rfl T.db oz (mM (pD (K:=K) rfl (pv 0) rfl) mQ)) (xh rfl T.c_KF) (nZ _)) (nL (mY xN)) oE)
  (nL (mV (qe (sV ue vo vf uC (pD (K:=K) rfl (pv 0) rfl) (mM (rp (mM (qj (l:=[112,117,116]) nofun) (mM (pv 1) mQ))) mQ)))
  (mY (ny (qm (pv 0) T.ag T.cg (ZrY T) (hM hr) T.eR.b .nil m9 (mM (m5 sC (pD (K:=K) rfl (pv 0) rfl) (pv 1)) mQ))))))))),?_⟩
 have sz:∀k:Nat,k<=30000->k<=sizeLine:=λk h=>og h (by rw[sizeLine_eq];decide);obtain⟨⟨dx,f⟩,hk,⟨ts,d1,d2⟩,run,ok,nld⟩:=id hp;have m4:=ok.m4;have l40:=run.len;have tl:=d2.1;have npd:p≠da:=λz=>by rw[z,d1]at f;cases f
 walk_at "rd";walk_at "g";refine⟨p,_,dx,_,_,rfl,f,T.ag,T.ad,BC,?_⟩;refine⟨[c0],m,rfl,{},Gw hc,λH1 s1=>?_⟩;walk_at "rd?";refine⟨p,_,dx,_,_,rfl,s1 _ _ f,T.ag,T.aa,uw,_,_,rfl,o9 ∅,?_⟩;rw[JJ ∅];refine gq ?_;walk_at "g";refine⟨p,_,dx,_,_,rfl,s1 _ _ f,T.ag,T.aq,FH,.inl ⟨rfl,_,.mk (s1 _ _ d1)⟩,sz _ ⋯,gQ.of λtd H2 s2 n2 l2=>?_⟩;have s02:=s1.trans s2;refine⟨da,_,_,rfl,rfl,s02 _ _ d1,by rw[tl];exact sz _ ∅,?_⟩;have c3:pC [da] H (upd H2 da (.lst (ts++[.ref td]))):=s02.chg.trans (pC.upd {});have d3:upd H2 da (.lst (ts++[.ref td])) da=some (.lst (ts++[.ref td])):=nu;have t3:upd H2 da (.lst (ts++[.ref td])) td=some (.tup (Cr (true,c0))):=by rw[mT (λz=>by rw[z,s02 _ _ d1]at l2;cases l2)];exact l2
 have tk3:=(tk.same s02).upd (o':=.lst (ts++[.ref td])) (s02 _ _ d1) rfl rfl;generalize upd H2 da (.lst (ts++[.ref td]))=H3 at c3 d3 t3 tk3;have e3:g9 H3 (ts++[.ref td]) (ds++[(true,c0)]):=(d2.chg c3 (λb hb us z=>by rw[oN.mp hb,d1]at z;cases z)).snoc t3;have f3:=c3 _ _ f (~~~npd) rfl;have k3:=c3 _ _ hk (~~~nld) rfl;have r3:=run.put hc hl;refine⟨p,dx,_,rfl,f3,sN,p,_,dx,_,_,rfl,f3,T.ag,T.aa,uw,rT_i ⟨sz _ (by rw[pZ];lia),?_⟩⟩;refine⟨p,la,da,l,l++[c0],m,rfl,⟨dx,f3⟩,k3,r3.len,.inl ⟨c0,rfl⟩,r3.mem,ok,tk3,λt c g la2 H4 ch f4 l4 an tk4=>?_⟩;obtain⟨q1,q2,q3⟩:=IG hp c3 d3 e3 ch f4 l4 an r3;exact q t c g la2 H4 q1 q2 q3 tk4
def ZrZ:f7 P w K mg base nQ 5 a.bN a.cR ["self"] (sp_K0 K a):=by
 refine T.eQ.u.ok Zrd (λAr A outer s H vs Q E hr h=>?_);have Av:=hr.units;obtain⟨p,la,da,c0,l0,m,ds,rfl,hp,hd,tk,q⟩:=h;refine⟨_,(nL (mV (oF (oA (qV (K:=K) rfl Av) (pD (K:=K) rfl (pv 0) rfl) (qj (l:=[]) nofun) (nZ _)) (mY xN) oE)
  (nL (mV (qe (sV ue vo vf uC (pD (K:=K) rfl (pv 0) rfl) (mM (rp (mM (qj (l:=[100,114,111,112]) nofun) (mM (pJ sR (pD (K:=K) rfl (pv 0) rfl) mX (λ_ _=>rfl)) mQ))) mQ)))
  (mY (ny (qm (pv 0) T.ag T.cj (ZrO T) (hM hr) T.eB.b .nil m9 (mM (pL pQ (pD (K:=K) rfl (pv 0) rfl) (oY mX) qL) mQ)))))))),?_⟩
 have sz:∀k:Nat,k<=30000->k<=sizeLine:=λk h=>og h (by rw[sizeLine_eq];decide);obtain⟨⟨dx,f⟩,hk,⟨ts,d1,d2⟩,run,ok,nld⟩:=id hp;have m4:=ok.m4;have l40:=run.len;have tl:=d2.1;have npd:p≠da:=λz=>by rw[z,d1]at f;cases f
 walk_at "rd";walk_at "g";refine⟨p,_,dx,_,_,rfl,f,T.ag,T.aa,uw,.inl ⟨rfl,?_⟩⟩;rw[mR nU,u4];rw[JJ {}];refine gq ?_;walk_at "g";refine⟨p,_,dx,_,_,rfl,f,T.ag,T.aq,FH,.inl ⟨rfl,_,.mk d1⟩,p,_,dx,_,_,rfl,f,T.ag,T.aa,uw,c0::l0,0,c0,rfl,rfl,sz _ ∅,jy,sz _ ⋯,gQ.of λtd H2 s2 n2 l2=>?_⟩;refine⟨da,_,_,rfl,rfl,s2 _ _ d1,by rw[tl];exact sz _ ∅,?_⟩;have c3:pC [da] H (upd H2 da (.lst (ts++[.ref td]))):=s2.chg.trans (pC.upd {});have d3:upd H2 da (.lst (ts++[.ref td])) da=some (.lst (ts++[.ref td])):=nu;have t3:upd H2 da (.lst (ts++[.ref td])) td=some (.tup (Cr (false,c0))):=by rw[mT (λz=>by rw[z,s2 _ _ d1]at l2;cases l2)];exact l2
 have tk3:=(tk.same s2).upd (o':=.lst (ts++[.ref td])) (s2 _ _ d1) rfl rfl;generalize upd H2 da (.lst (ts++[.ref td]))=H3 at c3 d3 t3 tk3;have e3:g9 H3 (ts++[.ref td]) (ds++[(false,c0)]):=(d2.chg c3 (λb hb us z=>by rw[oN.mp hb,d1]at z;cases z)).snoc t3;have f3:=c3 _ _ f (~~~npd) rfl;have k3:=c3 _ _ hk (~~~nld) rfl;refine⟨p,dx,_,rfl,f3,sN,p,_,dx,_,_,rfl,f3,T.ag,T.aa,uw,_,rfl,c0::l0,rfl,sz _ ∅,?_⟩;rw[za];refine⟨p,la,da,l0,c0::l0,m,rfl,⟨dx,f3⟩,k3,l40,.inr ⟨c0,rfl⟩,run.mem,ok,tk3,λt c g la2 H4 ch f4 l4 an tk4=>?_⟩;obtain⟨q1,q2,q3⟩:=IG hp c3 d3 e3 ch f4 l4 an run.drop;exact q t c g la2 H4 q1 q2 q3 tk4
def ZrM:f7 P w K mg base nQ 5 a.bE a.cG ["self","room","letter"] (sp_KR K a):=by
 refine T.eD.u.ok Zq0 (λAr A outer s H vs Q E hr h=>?_);obtain⟨p,l,m,sp,i,s_,c,rfl,hp,hi,hc,q⟩:=h;refine⟨_,(mV (qe (qm (pv 0) T.aM T.bT (ZrR T) (hM hr) T.dE.b .nil m9 (mM (pv 1) mQ)))
  (mV (qe (nW (IQ T) (hM hr) rfl T.dw m9 (mM (pv 2) (mM (pD (K:=K) rfl (pv 0) rfl) mQ))))
  (mY (ny (qm (pv 0) T.aM T.bg (DK T) (hM hr) T.dG.b .nil m9 (mM (pv 1) (mM (pv 2) mQ))))))),?_⟩
 obtain⟨dx,qa,ys,h1,h2,h3⟩:=id hp;have hi':i<sp.length:=(oM.mp hi).1;walk_at "rd";refine⟨p,dx,_,rfl,h1,u8 nofun nofun,p,l,m,sp,i,rfl,hp,hi',p,_,dx,_,_,rfl,h1,T.aM,T.ae,CG,[c],m,rfl,by show 1<=1000;decide,Gw hc,λH1 s1=>?_⟩;exact⟨p,dx,_,rfl,s1 _ _ h1,u8 nofun nofun,p,l,m,sp,i,s_,c,rfl,hp.same s1,hi,hc,λo ho=>q o H1 s1 ho⟩
def Zry:f7 P w K mg base nQ 6 a.f_LL a.d_LL ["text","kinds"] (sp_LL K a):=by
 refine T.eG.u.ok ZqK (λAr A outer s H vs Q E hr h=>?_);obtain⟨l,m,rfl,ok,q⟩:=h;refine⟨_,(mY (ny (tG (N:=["word","text"]) (ix:=[none,some 0]) rfl (sw rfl) rfl (rX (K:=K) rfl (t9 (y8 T.bt (Ju T) (hM hr) rfl T.m_LW T.dW.b .nil m9 (mM (pv 0) (mM (pv 1) mQ))) T.aQ T.av (C5 T) (hM hr) T.dC.b .nil m9)) (λ_ _ _ _=>(oG (i:=0) (show (["word","text"]:AJ).Nodup from by decide +kernel) rfl (Or.inl rfl) (Or.inr rfl))) (λ_ _ _ _=>wj) (λ_ _ _ _=>(rp (mM (pv 0) (mM (vC (K:=K) rfl ug wk wf wq (pv 1) (mM (pL pQ (pv 0) qL (oY (zS yW mX))) mQ)) (mM (vC (K:=K) rfl ug wk wf wq (pv 1) (mM (pL pQ (pv 0) (oY mX) qL) mQ)) mQ)))))))),?_⟩;have l40:=ok.l40;have m4:=ok.m4;have sz:l.length<=sizeLine:=by rw[sizeLine_eq];lia
 walk_at "rd";intro pr dr npr ndr ner;refine⟨pr,dr,l,m,rfl,nu,ok,λH1 r1 k1=>⟨rfl,?_⟩⟩;have s1:fT H H1:=λb o e=>k1 b o (by rw[mT (on e npr),mT (on e ndr)];exact e) (on e npr);obtain⟨d1,r1'⟩:=id r1;have ll:(nR l m).length<=6724:=Il m4 l40 ∅;refine⟨pr,d1,_,rfl,r1',tR nofun nofun,pr,l,m,_,_,_,rfl,.inl ⟨r1,ok,rfl,rfl,rfl⟩,λqw H2 s2 _ e2=>?_⟩;rw[show vR (gf l) m (l.length+1)=nR l m from rfl]at e2;refine⟨qw,rfl,⟨_,.mk e2⟩,f8.tupsM (xs:=(nR l m).map tx) (λi vs=>∃(w:mN),(nR l m)[i]?=some w/\vs=[tx w,.int (rK l w.dropLast:Nat),.int (rK l w.tail:Nat)]) (by rw[m6];lia) (.mk e2) ?_ ?_⟩
 .intro i H3 Q3 hi s3 q3;rw[m6]at hi;rw[vM hi];have hw:(nR l m)[i]?=some ((nR l m).getD i []):=by rw[pM,om hi];rfl
  generalize (nR l m).getD i []=w at hw;have ms:=(qG.mp (qA hw)).1;have wl:=zX l40 (qA hw);have szw:w.length<=sizeLine:=by rw[sizeLine_eq];lia
  walk_at "rd";refine⟨rfl,_,rfl,w,rfl,szw,l,_,rfl,rfl,λr hr=>⟨rfl,_,rfl,w,rfl,szw,l,_,rfl,rfl,λr2 hr2=>⟨by rw[sizeLine_eq];decide,gQ.of λpt H4 s4 n4 l4=>?_⟩⟩⟩;rw[DH]at hr;rw[za]at hr2;obtain⟨j1,rfl,a1,b1⟩:∃j1:Nat,r=(j1:Int)/\oq l w.dropLast j1/\∀j,j<j1->¬oq l w.dropLast j:=by
   rcases hr with⟨_,h⟩ | h
   .exact JO ms.init h
   .exact h
  obtain⟨j2,rfl,a2,b2⟩:∃j2:Nat,r2=(j2:Int)/\oq l w.tail j2/\∀j,j<j2->¬oq l w.tail j:=by
   rcases hr2 with⟨_,h⟩ | h
   .exact JO ms.tail h
   .exact h
  exact q3 pt _ H4 s4 l4 ⟨w,hw,by rw[A7 a1 b1,A7 a2 b2]⟩
 .intro q1 ys H3 s3 n3 l3 As hall;refine q q1 ys H3 (s1.trans (s2.trans s3)) ((s1.trans s2).free n3) l3 ⟨by rw[As,m6],λi y hy=>?_⟩;obtain⟨t,vs,e,h1,w,hw,rfl⟩:=hall i y hy;exact⟨w,hw,t,e,h1⟩
def ZrE:f7 P w K mg base nQ 6 a.f_L7 a.d_L7 ["_law_text_here","_law_kinds_here","_law_cell_here"] (sp_L7 K a):=by
 refine T.fC.u.ok yP (λAr A outer s H vs Q E hr h=>?_);obtain⟨l,m,c,rfl,ok,tk,q⟩:=h;refine⟨_,(mV (nJ (i:=3) yP.nd (y8 T.b7 (ZrX T) (hM hr) rfl T.m_LX T.eP.b .nil m9 (mM (pv 1) mQ)))
  (nL (mV (nJ (i:=4) yP.nd (nW (Bj T) (hM hr) rfl T.dJ m9 (mM (pv 2) (mM (pv 1) (mM (m5 qB (pv 2) (m5 vn mX (nE (oC (K:=K) rfl) rfl T.db oz (mM (pv 0) mQ)))) (mM qk mQ))))))
  (nL (mV (qx pS rfl (vt (m5 sC (pv 4) (pv 0))) (oG (i:=5) yP.nd rfl (Or.inl rfl))
  (mY (qe (qm (pv 3) T.ag T.ce (ZrT T) (hM hr) T.fi.b .nil m9 (mM (pv 5) mQ)))))
  (nL (mV (qx pS rfl (vt (pv 4)) (oG (i:=5) yP.nd rfl (Or.inl rfl))
  (mY (qe (t9 (pv 3) T.ag T.cf (ZrZ T) (hM hr) T.eQ.b .nil m9))))
  (nL (mY (ny (pv 3))))))))))),?_⟩
 have l40:=ok.l40;have m1:=ok.m1;have m4:=ok.m4;have kok:ur m:=⟨ok.k,ok.m1,ok.m4⟩;walk_at "rd";intro p dx np ndx ne;refine⟨p,dx,m,rfl,nu,kok,λla0 da H1 at1 nla nda k1=>⟨rfl,qy ?_⟩⟩;have s1:fT H H1:=λb o e=>k1 b o (by rw[mT (on e np),mT (on e ndx)];exact e) (on e np);have tk1:=tk.same s1;have nda0:=ZnT np ndx nda;have keepL:∀ {H' H'':Hp},gu H H'->pC [p,da] H' H''->gu H H'':=λsl ch bb o e t=>ch _ _ (sl _ _ e t) (by simp only[ot,u6,or_false,not_or];exact⟨on e np,on e nda0⟩) t
 obtain⟨n,en,hn⟩:∃n:Nat,c % (41-(l.length:Nat))=(n:Int)/\n+l.length<=40:=by have a1:=vx c (show (41-(l.length:Int))≠0 by lia);have a2:=vO c (show (0:Int)<41-(l.length:Nat) by lia);exact⟨(c % (41-(l.length:Nat))).toNat,∅,∅⟩
 walk_at "rd";refine⟨_,_,rfl,o9 ∅,∅,?_⟩;rw[en];refine⟨c,m,n,true,rfl,m1,m4,∅,∅,λu H2 lu um s2=>?_⟩;rw[rh]at lu;have at2:=at1.same s2;have sl2:=(s1.trans s2).l;have tk2:=tk1.same s2;walk_at "h";refine⟨sz _ ∅,u++l,rfl,f9.text (λi U H'=>∃v5 la ds,U=[some (tx l),some (tx m),some (.int c),some (.ref p),some (tx u),v5]/\gj a.c_LX H' p la da ((u++l).take i) m ds/\ds.length<=i/\TT a H'/\gu H H') ⟨_,la0,[],rfl,at2,nD _,tk2,sl2⟩ ?_ ?_⟩
 .rintro i x U H3 hx ⟨v5,la,ds,rfl,at3,dl,tk3,sl3⟩;have hi:i<(u++l).length:=(oM.mp hx).1;rw[nN]at hi;have mx:x∈m:=(oV.mp (qA hx)).elim (um x) (ok.mem x);obtain⟨dx3,f3⟩:=id at3.fld;walk_at "rd";refine⟨p,dx3,_,rfl,f3,sN,p,la,da,_,m,ds,x,rfl,at3,∅,tk3,mx,by rw[ou];lia,λt c g la2 H4 q1 q2 q3 q4=>⟨_,la2,ds++[(true,x)],rfl,?_,by rw[nN];exact Nat.succ_le_succ dl,q4,keepL sl3 q1⟩⟩;rw[List.take_add_one,hx];exact q2
 .rintro U H3 ⟨v5,la,ds,rfl,at3,dl,tk3,sl3⟩;rw[rH]at at3;rw[nN]at dl;walk_at "k";refine⟨u,rfl,f9.text (λi U H'=>∃v5 la ds,U=[some (tx l),some (tx m),some (.int c),some (.ref p),some (tx u),v5]/\gj a.c_LX H' p la da (u.drop i++l) m ds/\ds.length<=100+i/\TT a H'/\gu H H') ⟨_,la,ds,rfl,at3,∅,tk3,sl3⟩ ?_ ?_⟩
  .rintro i x U H4 hx ⟨v5,la,ds,rfl,at4,dl,tk4,sl4⟩;obtain⟨hi,ex⟩:=oM.mp hx;rw[Bz hi,ex,wJ]at at4;obtain⟨dx4,f4⟩:=id at4.fld;walk_at "rd";exact⟨p,dx4,_,rfl,f4,sN,p,la,da,x,_,m,ds,rfl,at4,∅,tk4,λt c g la2 H5 q1 q2 q3 q4=>⟨_,la2,ds++[(false,x)],rfl,q2,by rw[nN];exact Nat.succ_le_succ dl,q4,keepL sl4 q1⟩⟩
  .rintro U H4 ⟨v5,la,ds,rfl,at4,dl,tk4,sl4⟩;rw[List.drop_length]at at4;walk_at "k";exact q p la da ds H4 sl4 tk4 at4
def Zrx:f7 P w K mg base nQ 6 a.f_LN a.d_LN ["_law_band","_law_thing"] (sp_LN K a):=by
 refine T.eK.u.ok Bl (λAr A outer s H vs Q E hr h=>?_);have Av:=hr.units;obtain⟨p,l,m,v,rfl,hp,ok,bad,q⟩:=h;refine⟨_,(mV (nJ (i:=2) Bl.nd sj)
  (nL (mV (Zpb rfl rfl (Zlx (Zlw (Zlz (BT T) (hM hr) rfl T.fq.m T.fq.u.kp T.fq.b .nil (mM (pv 0) (mM (pv 1) mQ))))) (Zrm (i:=3) (λ_=>hr.hd) rfl T.m_K6 Bl.nd rfl rfl (λ_=>(mY (nJ (i:=2) Bl.nd (pv 3)))) Zpe))
  (nL (mV (oF (PW.pt (uM (rY (qu (nE (qg (K:=K) rfl) rfl T.cZ qb (mM (pv 2) (mM (BE (v:=.ref a.c_LO) rfl T.m_LO rfl) mQ))))) (vD (qu (nE (qg (K:=K) rfl) rfl T.cZ qb (mM (pv 2) (mM (BE (v:=.ref a.c_LI) rfl T.m_LI rfl) mQ))))))) (mY (ny qk)) oE)
  (nL (mY (ny (sM (qt (zM (K:=K) rfl Av) (IP (K:=K) rfl (pv 2) rfl) (pv 1) (nZ _)) (ub (qt (qV (K:=K) rfl Av) (nE (qg (K:=K) rfl) rfl T.cZ qb (mM (IP (K:=K) rfl (pv 2) rfl) (mM (qc (v:=.ty "bool") rfl T.eE xb rfl) mQ))) (nE (qg (K:=K) rfl) rfl T.cZ qb (mM (pv 1) (mM (qc (v:=.ty "bool") rfl T.eE xb rfl) mQ))) (nZ _)))))))))))),?_⟩
 have nd:=T.nd;simp only[tZ,ot,u6,or_false,not_or]at nd;obtain⟨⟨n1,n2⟩,n3,_⟩:=nd;walk_at "rd";walk_at "h";have xw:=Zok (b:=true) T.cW T.k_K6 (by simp[wP]) (by simp[wP]);refine⟨p,l,m,_,_,v,rfl,.inr ⟨hp,ok,rfl,rfl⟩,.inr ⟨bad,λe H3 s3 x=>⟨e,_,rfl,rfl,true,xw,gW ?_⟩⟩⟩;obtain⟨Tn,bb,ty,kb,se⟩:∃Tn bb,sZ K H3 v (.type Tn)/\kitOne K (.type Tn) (.type "bool")=some bb/\iO K H3 v:=by
  rcases bad with⟨l,rfl,hl,_⟩|⟨Tn,bb,ty,_,kb,se⟩
  .exact⟨"str",false,.pl (.str _),ZpM,.inl ⟨_,jQ rfl⟩⟩
  .exact⟨Tn,bb,sZ.same ty s3,kb,se.same s3⟩
 walk_at "h";refine⟨_,_,_,_,true,rfl,rfl,.exc x T.cV,Gd T.cW T.cW (by simp[wP]) (λ_=>rfl),gq ⟨_,_,_,_,false,rfl,rfl,.exc x T.cV,Gd T.cW T.k_LI (by simp[wP,n1,n2,n3,nX n1,nX n2,nX n3]) (λz=>JO z n3),gq ?_⟩⟩;walk_at "h";refine⟨e,_,_,_,rfl,x,T.br.c,T.az,ET,?_⟩;have fe:∀ {Q':VK},Q'=Q->iz K false (.bl bb) (.bl bb) H3 Q':=λe=>by subst e;exact .inl ⟨rfl,by rw[mR nU,JI rfl];exact q H3 s3⟩
 rcases se with⟨dd,o⟩|⟨b2,kvs,rfl,hb⟩
 .exact .inl (jR o (gW ⟨e,_,_,_,rfl,x,T.br.c,T.az,ET,_,_,_,_,bb,rfl,rfl,.ty ty,kb,_,_,_,_,bb,rfl,rfl,.ty ty,kb,fe rfl⟩))
 .exact .inr ⟨b2,kvs,rfl,rfl,hb,gW ⟨e,_,_,_,rfl,x,T.br.c,T.az,ET,_,_,_,_,bb,rfl,rfl,.ty ty,kb,_,_,_,_,bb,rfl,rfl,.ty ty,kb,fe rfl⟩⟩
def ZrH:f7 P w K mg base nQ 6 a.f_L2 a.d_L2 ["_law_machine_here","_law_text_here","_law_rows"] (sp_L2 K a):=by
 refine T.fE.u.ok vT (λAr A outer s H vs Q E hr h=>?_);have Av:=hr.units;have hu1:=yF hr;obtain⟨p,r,l,m,sp,ys,rfl,hp,ok,hr_,rf,q⟩:=h;refine⟨_,(mV (nJ (i:=3) vT.nd (DB (CJ (qj (l:=[]) nofun) qk EM) rfl rfl {} ⋯))
  (nL (mV (qx pS rfl (vX rfl T.dA (mM (nE (oC (K:=K) rfl) rfl T.db oz (mM (pv 1) mQ)) mQ)) (oG (i:=4) vT.nd rfl (Or.inl rfl))
  (mY (qx pS rfl (DX rfl T.dA (mM (m5 pG (pv 4) mX) (mM (m5 pG (nE (oC (K:=K) rfl) rfl T.db oz (mM (pv 1) mQ)) mX) mQ))) (oG (i:=5) vT.nd rfl (Or.inl rfl))
  (mY (zq hu1 (pv 3) (pL pQ (pv 1) (oY (pv 4)) (oY (pv 5))) qk rfl)))))
  (nL (mV (qx pS rfl (rX (K:=K) rfl (pv 2)) (EI rfl (wE (oG (i:=6) vT.nd rfl (Or.inl rfl)) (wE (oG (i:=7) vT.nd rfl (Or.inl rfl)) (wE (oG (i:=8) vT.nd rfl (Or.inl rfl)) DE))))
  (mV (nJ (i:=9) vT.nd (qm (pv 0) T.aM T.bu (FC T) (hM hr) T.dz.b .nil m9 (mM (pL pQ (pv 6) qL (oY (zS yW mX))) mQ)))
  (mY (oF (PW.pt (uM (oA wX (pv 9) sj (nZ _)) (vD (oA DU (qm (pv 0) T.aM T.bU (ZrM T) (hM hr) T.eD.b .nil m9 (mM (pv 9) (mM (pJ sR (pv 6) (zS yW mX) (λ_ _=>rfl)) mQ))) sj (nZ _))))) (mY (ny qk)) oE))))
  (nL (mY (ny (qt (qV (K:=K) rfl Av) (t9 (pv 0) T.aM T.bV (ZrP T) (hM hr) T.d8.b .nil m9) (nE Hf rfl T.db oz (mM (pv 3) mQ)) (nZ _)))))))))),?_⟩
 have sz:∀k:Nat,k<=3000->k<=sizeLine:=λk h=>og h (by rw[sizeLine_eq];decide);have hl:=ok.l40;walk_at "rd";intro pd npd;refine⟨nu,[(nO [],.bl true)],rfl,by show (1:Nat)<=15;decide,?_⟩;have s1:fT H (upd (upd H pd (.dK [])) pd (.dK (qS [] [(nO [],.bl true)]))):=Ga npd;have h1:upd (upd H pd (.dK [])) pd (.dK (qS [] [(nO [],.bl true)])) pd=some (.dK (qS [] [(nO [],.bl true)])):=nu;have k1:iC l (qS [] [(nO [],.bl true)]):=by show iC l (gv [] (nO []) (.bl true));exact iC.put (λ_ h=>by cases h) (mZ.nil l)
 have l1:(qS [] [(nO [],.bl true)]).length<=1:=EK _ _;have z1:(gp (qS [] [(nO [],.bl true)]) (nO [])).isSome=true:=by show (gp (gv [] (nO []) (.bl true)) (nO [])).isSome=true;exact zc (.inr rfl)
 have y1:∃ls,KL (qS [] [(nO [],.bl true)]) ls:=⟨[[]],rfl,{}⟩;generalize qS [] [(nO [],.bl true)]=kv0 at s1 h1 k1 l1 z1 y1;generalize upd (upd H pd (.dK [])) pd (.dK kv0)=H1 at s1 h1;walk_at "h";refine⟨_,_,rfl,o9 ∅,_,rfl,∅,∅,?_⟩;rw[rh];refine f9.range (λi U H'=>∃v2 v3 kvs,U=[some (.ref p),some (tx l),some (.ref r),some (.ref pd),v2,v3,none,none,none,none]/\fT H H'/\H' pd=some (.dK kvs)/\(iC l kvs/\∃ls,KL kvs ls)/\kvs.length<=1+40*i/\(gp kvs (nO [])).isSome=true/\∀s e,s<i->s<=e->e<=l.length->(gp kvs (nO ((l.drop s).take (e-s)))).isSome=true) ⟨_,_,_,rfl,s1,h1,⟨k1,y1⟩,∅,z1,λs e h=>by lia⟩ ?_ ?_
 .rintro i U H2 hi ⟨v2,v3,kvs,rfl,s2,h2,k2,n2,z2,c2⟩;walk_at "rd";refine⟨_,_,rfl,o9 ∅,_,_,rfl,⟨∅,∅,∅,∅⟩,?_⟩;refine f9.range (λj U H'=>∃v3 kvs,U=[some (.ref p),some (tx l),some (.ref r),some (.ref pd),some (.int (0+(i:Int))),v3,none,none,none,none]/\fT H H'/\H' pd=some (.dK kvs)/\(iC l kvs/\∃ls,KL kvs ls)/\kvs.length<=1+40*i+j/\(gp kvs (nO [])).isSome=true/\(∀s e,s<i->s<=e->e<=l.length->(gp kvs (nO ((l.drop s).take (e-s)))).isSome=true)/\∀e,i<e->e<=i+j->(gp kvs (nO ((l.drop i).take (e-i)))).isSome=true) ⟨_,_,rfl,s2,h2,k2,∅,z2,c2,λe a b=>by lia⟩ ?_ ?_
  .rintro j U H3 hj ⟨v3,kvs,rfl,s3,h3,k3,n3,z3,c3,e3⟩;have q1:(0+(i:Int))=((i:Nat):Int):=by lia
   have q2:(0+(i:Int)+1+(j:Int))=((i+1+j:Nat):Int):=by lia
   walk_at "rd";refine⟨_,rfl,_,rfl,l,rfl,sz _ ∅,?_⟩;rw[q2,q1,x6];refine⟨pd,_,rfl,iM.k (k:=nO ((l.drop i).take (i+1+j-i))) h3 (qz (show _<3000 by lia) (sz 3000 (nD _))),_,_,rfl,gh s3 npd,nu,⟨k3.1.put (Zn9 ∅ ∅),let ⟨_,y⟩:=k3.2;y.put⟩,?_,zc (.inl z3),λs e a b d=>zc (.inl (c3 s e a b d)),λe a b=>?_⟩
   .have:=yq kvs (nO ((l.drop i).take (i+1+j-i))) (.bl true)
    lia
   .by_cases ee:e=i+1+j
    .rw[ee];exact zc (.inr rfl)
    .exact zc (.inl (e3 e a ∅))
  .rintro U H3 ⟨v3,kvs,rfl,s3,h3,k3,n3,z3,c3,e3⟩;refine⟨_,_,_,rfl,s3,h3,k3,∅,z3,λs e a b d=>?_⟩;by_cases hs:s<i
   .exact c3 s e hs b d
   .have hsi:s=i:=by lia
    subst hsi;by_cases he:e=s
    .rw[he];simpa using z3
    .exact e3 e ∅ ∅
 .rintro U H2 ⟨v2,v3,kvs,rfl,s2,h2,k2,n2,z2,c2⟩;have As:kvs.length=(jq l).length:=let ⟨_,y⟩:=k2.2;y.len (ZlZ k2.1 z2 c2);walk_at "k";refine⟨r,rfl,⟨_,.mk (s2 _ _ hr_)⟩,f9.list (xs:=ys) (λi U H'=>∃v6 v7 v8 v9:Option V,U=[some (.ref p),some (tx l),some (.ref r),some (.ref pd),v2,v3,v6,v7,v8,v9]/\fT H2 H') ⟨_,_,_,_,rfl,fT.refl _⟩ (λi U H' _ ⟨_,_,_,_,_,s⟩=>.mk (s _ _ (s2 _ _ hr_))) ?_ ?_⟩
  .rintro i y U H3 hy ⟨v6,v7,v8,v9,rfl,s3⟩;obtain⟨w_,hw,t,rfl,ht⟩:=rf.2 i y hy;have hw:=qA hw;have s03:=s2.trans s3;obtain⟨ms,cc,hc,lc⟩:=qG.mp hw;have wl:=Zn1 hl hw;obtain⟨u,rfl⟩:∃u,w_=u++[cc]:=by obtain⟨u,e⟩:=List.getLast?_eq_some_iff.mp lc;exact⟨u,e⟩
   have iu:mZ u l:=by have:=ms.init;rwa [zL]at this
   have um:∀x∈u,x∈m:=λx hx=>ok.mem x (iu.mem hx);have hp3:=hp.same s03;obtain⟨dx,qa,ys',h1,_⟩:=id hp3;rw[nN,pZ]at wl;walk_at "rd";refine⟨t,_,rfl,.mk (s03 _ _ ht),rfl,_,_,rfl,_,_,rfl,_,_,rfl,rfl,p,dx,_,rfl,h1,u8 nofun nofun,_,rfl,_,rfl,sz _ (by rw[nN,pZ];lia),?_⟩;rw[DH,zL];refine⟨p,l,m,sp,u,rfl,hp3,∅,um,λv H4 s4 rv=>⟨trivial,?_⟩⟩;rcases rv with⟨no,_⟩|⟨_,j,hj,rfl⟩
   .exact JO iu no
   rw[JJ (λz=>by cases z)];refine gq ⟨p,dx,_,rfl,s4 _ _ h1,u8 nofun nofun,_,_,cc,rfl,rfl,sz _ (by rw[nN,pZ];lia),Zmr u cc,p,l,m,sp,j,_,cc,rfl,hp3.same s4,hj,hc,λo H5 s5 ho=>⟨trivial,?_⟩⟩;rcases ho with⟨hb,rfl⟩|⟨hb,j2,hj2,rfl⟩
   .rw[Option.getD_none,JI rfl];exact gq ⟨_,_,_,_,rfl,s3.trans (s4.trans s5)⟩
   .exact JO (xx.mp (by rw[vU];exact hb)) ms.no
  .rintro U H3 ⟨v6,v7,v8,v9,rfl,s3⟩;have s03:=s2.trans s3;have hp3:=hp.same s03;obtain⟨dx,qa,ys',h1,_⟩:=id hp3;walk_at "k";refine⟨p,dx,_,rfl,h1,u8 nofun nofun,p,l,m,sp,rfl,hp3,ok,λH4 s4=>⟨pd,kvs,rfl,(s3.trans s4) _ _ h2,?_⟩⟩;rw[As];exact eq_int (q H4 (s03.trans s4))
def Zrz:f7 P w K mg base nQ 7 a.f_LJ a.d_LJ ["_law_text_here","_law_kinds_here","_law_words"] (sp_LJ K a):=by
 refine T.eM.u.ok BK (λAr A outer s H vs Q E hr h=>?_);obtain⟨pw,l,m,ws,rfl,ok,hpw,wsl,wsm,q⟩:=h;refine⟨_,(mV (nJ (i:=3) BK.nd (y8 T.bX (ZrV T) (hM hr) rfl T.m_L9 T.fg.b .nil m9 (mM (pv 0) (mM (pv 1) mQ))))
  (nL (mV (qx pS rfl (vX rfl T.dA (mM mX mQ)) (oG (i:=4) BK.nd rfl (Or.inl rfl))
  (mY (oF (rY (qu (nW (Zrx T) (hM hr) rfl T.eK m9 (mM (pv 3) (mM (nW (Zrq T) (hM hr) rfl T.fG m9 (mM (pv 1) (mM mX (mM (pv 4) mQ)))) mQ))))) (mY (ny qk)) oE)))
  (nL (mV (qx pS rfl (rX (K:=K) rfl (pv 2)) (oG (i:=5) BK.nd rfl (Or.inl rfl))
  (mY (oF (rY (qu (nW (EX T) (hM hr) rfl T.dL m9 (mM (nW (BT T) (hM hr) rfl T.fq yf (mM (pv 3) (mM (pv 5) mQ))) (mM (nW (Jw T) (hM hr) rfl T.fJ m9 (mM (m5 zO (pv 0) (m5 pG (m5 rl mX (nE (oC (K:=K) rfl) rfl T.db oz (mM (pv 0) mQ))) mX)) (mM (pv 5) mQ))) mQ))))) (mY (ny qk)) oE)))
  (nL (mY (ny qk)))))))),?_⟩
 have l1:=ok.l1;have l20:=ok.l20;have kok:ur m:=⟨ok.k,ok.m1,ok.m4⟩;walk_at "rd";intro x dx nx ndx _;refine⟨x,dx,l,m,rfl,nu,ok,λH1 rg1 k1=>⟨rfl,qy ?_⟩⟩;have s1:fT H H1:=λb o e=>k1 b o (by rw[mT (on e nx),mT (on e ndx)];exact e) (on e nx);walk_at "rd";refine⟨_,rfl,⋯,⋯,f9.range (λi U H'=>∃v4 v5:Option V,U=[some (tx l),some (tx m),some (.ref pw),some (.ref x),v4,v5]/\fT H1 H') ⟨_,_,rfl,fT.refl _⟩ ?_ ?_⟩
 .rintro i U H2 hi ⟨v4,v5,rfl,s2⟩;walk_at "rd";refine⟨m,60,_,rfl,kok,⋯,⋯,λv H3 s3 bad=>⟨x,l,m,v,rfl,rg1.same (s2.trans s3),ok,bad,λH4 s4=>gq ⟨_,_,rfl,s2.trans (s3.trans s4)⟩⟩⟩
 .rintro U H2 ⟨v4,v5,rfl,s2⟩;walk_at "rd?";refine qy ?_;have s02:=s1.trans s2;walk_at "rd";refine⟨pw,rfl,⟨_,.mk (s02 _ _ hpw)⟩,f9.list (xs:=ws.map tx) (λi U H'=>∃v4 v5:Option V,U=[some (tx l),some (tx m),some (.ref pw),some (.ref x),v4,v5]/\fT H2 H') ⟨_,_,rfl,fT.refl _⟩ (λi U H' _ ⟨_,_,_,s⟩=>.mk (s _ _ (s02 _ _ hpw))) ?_ ?_⟩
  .rintro i v U H3 hv ⟨v4,v5,rfl,s3⟩;rw[pA]at hv;obtain⟨w_,hw,rfl⟩:=Bm.mp hv;obtain⟨w60,wm⟩:=wsm w_ (qA hw);have q0:=Int.ediv_nonneg (a:=((60:Nat):Int)) (b:=(l.length:Nat)) ⋯ ∅;have q1:((60:Nat):Int)/(l.length:Nat)<=60:=Int.ediv_le_self _ ⋯;have gl:=Zl5 l;obtain⟨d1,d2⟩:=Zlr ok w60;walk_at "rd";refine⟨x,l,m,_,_,_,rfl,.inr ⟨rg1.same (s2.trans s3),ok,rfl,rfl⟩,.inl ⟨w_,rfl,w60,wm,λu H4 s4 au=>⟨_,_,rfl,o9 ∅,⟨∅,∅⟩,l,((60:Nat):Int)/(l.length:Nat)+2,rfl,rfl,∅,∅,∅,_,m,w_,rfl,∅,w60,wm,λu2 H5 s5 au2=>⟨u,u2,rfl,?_,λH6 s6=>gq ⟨_,_,rfl,s3.trans (s4.trans (s5.trans s6))⟩⟩⟩⟩⟩;rw[d1,d2]at au2;exact(au.same s5).one au2
  .rintro U H3 ⟨v4,v5,rfl,s3⟩;walk_at "k";exact q _
def ok_law:f7 P w K mg base nQ 8 a.f_law a.d_law ["_law_script"] (mE K tb):=by
 refine T.fK.u.ok uL (λAr A outer s H vs Q E hr h=>?_) (λvs H Q E h=>by obtain⟨_,_,rfl,_⟩:=h;rfl)
 .have Av:=hr.units;obtain⟨b,ns,rfl,hS,hl,tk,q⟩:=h;refine⟨_,(mV (xF (i:=1) uL.nd rfl (Or.inr rfl) (nW (Zrv T) (hM hr) rfl T.eZ m9 (mM (nW (Cp T) (hM hr) rfl T.eC m9 (mM (pv 0) (mM mX mQ))) mQ)))
   (nL (mV (xF (i:=2) uL.nd rfl (Or.inr rfl) (nW (ZrG T) (hM hr) rfl T.fA m9 (mM (pv 0) (mM mX (mM (pv 1) mQ)))))
   (nL (mV (nJ (i:=3) uL.nd (y8 T.bt (Ju T) (hM hr) rfl T.m_LW T.dW.b .nil m9 (mM (pv 2) (mM (pv 1) mQ))))
   (nL (mV (nJ (i:=4) uL.nd (nW (ZrE T) (hM hr) rfl T.fC m9 (mM (pv 2) (mM (pv 1) (mM (nW (Cp T) (hM hr) rfl T.eC m9 (mM (pv 0) (mM mX mQ))) mQ)))))
   (nL (mV (nJ (i:=5) uL.nd (y8 T.bS (ZrQ T) (hM hr) rfl T.m_LH T.d7.b .nil m9 (mM (pv 2) (mM (pv 1) mQ))))
   (nL (mV (nJ (i:=6) uL.nd (nW (Zry T) (hM hr) rfl T.eG m9 (mM (pv 2) (mM (pv 1) mQ))))
   (nL (mV (oF (PW.pt (uM (oA (uE (K:=K) rfl Av) (t9 (pv 4) T.ag T.aL (ZrW T) (hM hr) T.e9.b .nil m9) (pv 2) (nZ _)) (uM (oA (uE (K:=K) rfl Av) (t9 (pv 4) T.ag T.bw (Ic T) (hM hr) T.dI.b .nil m9) (tG (N:=["_law_row"]) (ix:=[none]) rfl (sw rfl) rfl (rX (K:=K) rfl (pv 6)) (λ_ _ _ _=>(oG (i:=0) (show (["_law_row"]:AJ).Nodup from by decide +kernel) rfl (Or.inl rfl) (Or.inr rfl))) (λ_ _ _ _=>wj) (λ_ _ _ _=>(pJ (wM (K:=K) rfl) (pv 0) mX (λ_ _=>rfl)))) (nZ _)) (vD (rY (qu (nW (ZrH T) (hM hr) rfl T.fE m9 (mM (pv 5) (mM (pv 2) (mM (pv 6) mQ)))))))))) (nL (mY (ny qk))) oE)
   (nL (mV (Do (i:=7) (N:=["_law_cell_here","_law_kinds_here","_law_text_here"]) (ix:=[none,some 1,some 2]) rfl uL.nd rfl rfl rfl (sw rfl) rfl (rX (K:=K) rfl (m5 DN (pL (Zli (K:=K) rfl) (pv 0) (oY mX) (oY mX)) (sk (mM mX mQ)))) (λ_ _ _ _=>(oG (i:=0) (show (["_law_cell_here","_law_kinds_here","_law_text_here"]:AJ).Nodup from by decide +kernel) rfl (Or.inl rfl) (Or.inr rfl))) (λ_ _ _ _=>wj) (λ_ _ _ _=>(nW (ZrF T) (hM hr) rfl T.fB m9 (mM (pv 0) (mM (pv 2) (mM (pv 1) mQ))))))
   (nL (mV (qx pS rfl (rX (K:=K) rfl (pv 7)) (oG (i:=8) uL.nd rfl (Or.inl rfl))
   (nL (mV (nJ (i:=9) uL.nd (nW (Jw T) (hM hr) rfl T.fJ m9 (mM (pv 2) (mM (pv 8) mQ))))
   (nL (mV (oF (PW.pt (uM (rY (qu (nW (EX T) (hM hr) rfl T.dL m9 (mM (nW (BT T) (hM hr) rfl T.fq yf (mM (pv 3) (mM (pv 8) mQ))) (mM (pv 9) mQ))))) (vD (rY (qu (nW (EX T) (hM hr) rfl T.dL m9 (mM (nW (BT T) (hM hr) rfl T.fq yf (mM (pv 4) (mM (pv 8) mQ))) (mM (pv 9) mQ)))))))) (nL (mY (ny qk))) oE)
   (nL (mY (oF (oA (uE (K:=K) rfl Av) (qt wX (qm (pv 5) T.aM T.bu (FC T) (hM hr) T.dz.b .nil m9 (mM (pv 8) mQ)) sj (nZ _)) (qt (qV (K:=K) rfl Av) (pJ (wM (K:=K) rfl) (pv 9) mX (λ_ _=>rfl)) (qj (l:=[108,97,99,107,115]) nofun) (nZ _)) (nZ _)) (nL (mY (ny qk))) oE))))))))
   (nL (mY (ny (Zrn (qt (qV (K:=K) rfl Av) (pv 2) (qj (l:=[]) nofun) (nZ _)) (ub (nW (Zrz T) (hM hr) rfl T.eM m9 (mM (pL pQ (pv 2) qL (oY mX)) (mM (pv 1) (mM (pv 7) mQ)))))))))))))))))))))))))),?_⟩
  have hn63:=hl;rw[<-T.e_LE]at tk;have tt0:TT a H:=⟨tk,trivial⟩;clear tk;walk_at "rd";refine⟨b,ns,0,rfl,hS,⋯,⋯,λr0=>⟨_,rfl,λm H1 mk m1 m4 s1=>?_⟩⟩;have kok:ur m:=⟨mk,m1,m4⟩;walk_at "h";refine⟨b,ns,1,m,rfl,s1.seq hS,⋯,⋯,m1,m4,λl H2 l40 lm s2=>?_⟩;have ok:gy l m:=⟨mk,m1,m4,l40,lm⟩;have s02:=s1.trans s2;walk_at "h";intro pl dx npl ndx _;refine⟨pl,dx,l,m,rfl,nu,ok,λH3 rg3 k3=>⟨rfl,qy ?_⟩⟩;have s3:fT H2 H3:=λb o e=>k3 b o (by rw[mT (on e npl),mT (on e ndx)];exact e) (on e npl);have s03:=s02.trans s3;walk_at "rd";refine⟨b,ns,3,rfl,s03.seq hS,⋯,⋯,λc3=>⟨l,m,c3,rfl,ok,tt0.same s03,λp4 la4 da4 ds4 H4 sl4 tk4 st4=>?_⟩⟩;walk_at "h";intro pm dm npm ndm _;refine⟨pm,dm,l,m,rfl,nu,ok,λsp H5 ma5 k5=>⟨rfl,qy ?_⟩⟩;have s5:fT H4 H5:=λb o e=>k5 b o (by rw[mT (on e npm),mT (on e ndm)];exact e) (on e npm);walk_at "rd";refine⟨l,m,rfl,ok,λr6 ys6 H6 s6 n6 e6 rf6=>?_⟩;show uA _ _ _ _;refine qy ?_;have s46:=s5.trans s6;have sl6:gu H H6:=s03.l.trans (sl4.trans s46.l);have st6:=st4.same s46;have ma6:=ma5.same s6;have b6:B3 a H6 p4 l m (λ_=>l) (nR l m):=.inl ⟨.inr ⟨_,_,_,st6⟩,ok,rfl,rfl⟩;have c6:B3 a H6 pl l m (λ_=>l) (nR l m):=.inl ⟨(iV.l (.inl rg3) (sl4.trans s46.l)),ok,rfl,rfl⟩;clear st4 rg3 ma5 tt0;obtain⟨dx6,f6⟩:=id st6.fld;walk_at "rd";refine⟨p4,dx6,_,rfl,f6,sN,p4,la4,da4,l,m,ds4,rfl,st6,Zr0 (gq ⟨p4,dx6,_,rfl,f6,sN,p4,la4,da4,l,m,ds4,rfl,st6,λr7 n7=>?_⟩)⟩;have s7:fT H6 (upd H6 r7 (.lst ((nR l m).map tx))):=pX n7;have e7:upd H6 r7 (.lst ((nR l m).map tx)) r7=some (.lst ((nR l m).map tx)):=nu;generalize upd H6 r7 (.lst ((nR l m).map tx))=H7 at s7 e7;have ll:=(mi ok).len;have gd:∀ {j:Nat},j<ys6.length->∃t,ys6.getD j .non=.ref t/\H7 t=some (.tup [tx ((nR l m).getD j []),.int (rK l ((nR l m).getD j []).dropLast:Nat),.int (rK l ((nR l m).getD j []).tail:Nat)]):=λ{j} hj=>by obtain⟨w_,hw,t,ey,ht⟩:=rf6.2 j _ (om hj);refine⟨t,by rw[pM,om hj,ey];rfl,?_⟩;rw[pM,hw];exact s7 _ _ ht
  refine⟨r6,rfl,⟨_,.mk (s7 _ _ e6)⟩,f8.listM (xs:=ys6) (λ_=>true) (λj=>tx ((nR l m).getD j [])) (by rw[rf6.1];lia) (.mk (s7 _ _ e6)) (λj H8 Q8 _ _ q8=>q8 H8 (fT.refl _)) (λj H8 Q8 hj _ s8 q8=>?_) λr8 H8 s8 n8 e8=>?_⟩
  .obtain⟨t,ey,ht⟩:=gd hj;rw[ey];walk_at "rd";exact⟨t,_,0,_,rfl,rfl,.mk (s8 _ _ ht),rfl,q8 H8 (fT.refl _)⟩
  have ef:(((List.range ys6.length).filter λ_=>true).map λj=>tx ((nR l m).getD j []))=(nR l m).map tx:=by rw[rf6.1,wZ.mpr λ_ _=>rfl];refine uK (by rw[m6,rm,m6]) λi h1 h2=>?_;rw[m6]at h2;rw[List.getElem_map,List.getElem_range,List.getElem_map,pM,om h2];rfl
  rw[ef]at e8;have s68:=s7.trans s8;refine ZpB (.mk (s8 _ _ e7)) (.mk e8) (gq ⟨pm,r6,l,m,sp,ys6,rfl,ma6.same s68,ok,s68 _ _ e6,rf6.same s68,λH9 s9=>gq ?_⟩);have s69:=s68.trans s9;have b9:=b6.l s69.l;have c9:=c6.l s69.l;have ma9:=ma6.same s69;have sl9:=sl6.trans s69.l;clear b6 c6 ma6 sl6 e7 e8 gd rf6;walk_at "h";refine⟨3,rfl,63,rfl,b,_,rfl,hS.lL sl9,λb1 nb1=>⟨sz 1 ⋯,gB.of λb2 H10 s10 n10 e10=>?_⟩⟩;obtain⟨cv,ecv,icv,lcv⟩:∃cv,jf (ns.map V.int) (some 3) (some 63)=cv/\(∀v∈cv,∃c,v=.int c)/\cv.length<=63:=⟨_,rfl,λv hv=>ZkS hv,og Zml (by rw[m6];exact hn63)⟩;rw[ecv]at s10;refine⟨b1,b2,cv,[.int 29],rfl,rfl,s10 _ _ nu,e10,by show cv.length+1<=_;exact sz _ ∅,λb3 nb3=>?_⟩;have s11:fT H9 (upd H10 b3 (.lst (cv++[.int 29]))):=((pX nb1).trans s10).trans (pX nb3);have e11:upd H10 b3 (.lst (cv++[.int 29])) b3=some (.lst (cv++[.int 29])):=nu;generalize upd H10 b3 (.lst (cv++[.int 29]))=H11 at s11 e11;have itg:∀ {j:Nat},j<(cv++[V.int 29]).length->∃c,(cv++[V.int 29]).getD j .non=.int c:=λ{j} hj=>by
   rw[pM,om hj];rcases oV.mp (t8 hj) with z | z
   .exact icv _ z
   .exact⟨29,oN.mp z⟩
  refine⟨b3,rfl,⟨_,.mk e11⟩,f8.dataF (xs:=cv++[V.int 29]) (λ_=>true) (λ_ y _=>∃w,y=tx w/\w.length<=60/\∀x∈w,x∈m) (λ_ _ _ _ _ h=>h) (by rw[nN,pZ];lia) (.mk e11) (λj H12 Q12 _ _ q12=>q12 H12 (fT.refl _)) (λj H12 Q12 hj _ s12 q12=>?_) λpw ys H12 s12 n12 e12 el12 al12=>?_⟩
  .obtain⟨c,ec⟩:=itg hj;rw[ec];walk_at "rd";exact⟨c,l,m,rfl,l40,lm,m1,m4,λw H13 w60 wm s13=>q12 _ _ s13 ⟨w,rfl,w60,wm⟩⟩
  obtain⟨ws,rfl,hws⟩:=jb (P:=λw=>w.length<=60/\∀x∈w,x∈m) (ys:=ys) λy hy=>by obtain⟨k,hk⟩:=yQ.mp hy;obtain⟨_,_,h⟩:=al12 k y hk;exact h
  rw[m6,wZ.mpr λ_ _=>rfl,rm,nN,pZ]at el12;have s912:=s11.trans s12;have b12:=b9.l s912.l;have c12:=c9.l s912.l;have ma12:=ma9.same s912;clear b9 c9 ma9 al12 itg sl9;walk_at "h";refine⟨pw,rfl,⟨_,.mk e12⟩,f9.list (xs:=ws.map tx) (λi U H'=>∃v8 v9:Option V,U=[some (.ref b),some (tx m),some (tx l),some (.ref pl),some (.ref p4),some (.ref pm),some (.ref r6),some (.ref pw),v8,v9]/\fT H12 H') ⟨_,_,rfl,fT.refl _⟩ (λi U H' _ ⟨_,_,_,s⟩=>.mk (s _ _ e12)) ?_ ?_⟩
  .rintro i v U H13 hv ⟨v8,v9,rfl,s13⟩;rw[pA]at hv;obtain⟨w_,hw,rfl⟩:=Bm.mp hv;obtain⟨w60,wm⟩:=hws w_ (qA hw);walk_at "k";refine⟨l,m,w_,rfl,∅,w60,wm,λu H14 s14 au=>?_⟩;show uA _ _ _ _;refine qy ?_;have s1214:=s13.trans s14;have b14:=b12.l s1214.l;have c14:=c12.l s1214.l;have ma14:=ma12.same s1214;walk_at "rd";refine⟨pl,l,m,_,_,_,rfl,c14,.inl ⟨w_,rfl,w60,wm,λx1 H15 s15 a1=>⟨x1,u,rfl,a1.one (au.same s15),λH16 s16=>gq ⟨p4,l,m,_,_,_,rfl,b14.l (s15.trans s16).l,.inl ⟨w_,rfl,w60,wm,λx2 H17 s17 a2=>⟨x2,u,rfl,a2.one (au.same ((s15.trans s16).trans s17)),λH18 s18=>gq ?_⟩⟩⟩⟩⟩⟩;have s1418:=(s15.trans s16).trans (s17.trans s18);have ma18:=ma14.same s1418;have au18:=au.same s1418;obtain⟨dm18,qa18,ys18,f18,_⟩:=id ma18;walk_at "h";obtain⟨t,xs,rfl,ht,hh⟩:=au18;refine⟨pm,dm18,_,rfl,f18,u8 nofun nofun,pm,l,m,sp,w_,rfl,ma18,w60,wm,λv H19 s19 rv=>⟨trivial,?_⟩⟩;have key:∃w1 r1,xs=tx w1::r1/\(w1=[108,97,99,107,115]↔v=.non):=by
    rcases hh with⟨i,ho,rfl⟩|⟨ho,x,s,_,rfl⟩
    .refine⟨_,_,rfl,λe=>(by cases e),λe=>?_⟩;obtain⟨r,er⟩:=List.head?_eq_some_iff.mp ho;rcases rv with⟨no,_⟩|⟨_,j,_,e2⟩
     .exact JO ⟨i,(Cb er).1⟩ no
     .rw[e2]at e;cases e
    .refine⟨_,_,rfl,λ_=>?_,λ_=>rfl⟩;rcases rv with⟨_,e⟩|⟨i,_⟩
     .exact e
     .exact JO i (EG (List.head?_eq_none_iff.mp ho))
   obtain⟨w1,r1,rfl,hk⟩:=key;refine⟨t,_,0,_,rfl,rfl,.mk (s19 _ _ ht),Zow (j:=0) rfl,Fa λb1 hb1=>?_⟩;have eb:decide (v=V.non)=b1:=by rw[qv,JH,hb1];exact hk.symm
   rw[eb];refine .inl ⟨rfl,?_⟩;rw[mS rfl,JI rfl];exact gq ⟨_,_,rfl,(s1214.trans s1418).trans s19⟩
  .rintro U H13 ⟨v8,v9,rfl,s13⟩;walk_at "k";refine Fa λb0 h0=>gK (λ_=>q H13) λz=>⟨20,rfl,l,rfl,sz _ ∅,?_⟩;rw[show oR l none (some 20)=l.take 20 from vH l 20];have ne:l≠[]:=λe=>z (h0.mpr e);have l1:1<=l.length:=tj.mpr ne;exact⟨pw,l.take 20,m,ws,rfl,⟨mk,m1,m4,by rw[ou];lia,by rw[ou];lia,λx hx=>lm x (qf hx)⟩,s13 _ _ e12,∅,hws,q⟩
end
end Pk93
structure PySem.W.Fast:Prop where(tw10279215025737623601 tw10319130964213987728 tw10601160363716699050 tw10618952944739235627 tw10621970372681607546 tw10656319147212321465 tw10692614873956369204 tw10798735198962022805 tw10946060924114057234 tw11194546584204813490 tw1123345242400437347 tw11303025675983618781 tw11326124467361773013 tw11464133332674799131 tw11508195465578370745 tw11696809123680459033 tw1180594307099654098 tw11887791870275537564 tw11893668938407844791 tw11908495732550145812 tw1197972445309733068 tw11995625906923477859 tw12106940937847593674 tw12113924229488589428 tw12533197125290004417 tw12533220588857455812 tw12589033621862829265 tw12642906728276912278 tw12687782506314840502 tw12803985251294713463 tw12884113010842124263 tw13042837184220103921 tw13079696673114881430 tw13101330794211885964 tw13190548111256682930 tw1321885471694713567 tw13283169463171889278 tw13371912048866339649 tw13388956860901742479 tw13567881505686498604 tw13615374634024146392 tw136608021031792895 tw13851423777202388830 tw13925206134652668007 tw13956032175086137834 tw14274530793265334672 tw14307121358213277076 tw14406523126411589303 tw14597382892623931863 tw14740058553244739597 tw14770875408256608380 tw1492421996176647546 tw14930693133371550846 tw14947869173582990582 tw15059535669845817219 tw15303911379138378291 tw15505863312347566120 tw15547930610213695899 tw1556969139914430684 tw15646563347975740846 tw15759083060434259172 tw15768376476638374978 tw15859287463354448120 tw15887704872597141473 tw15980654511512714503 tw16048093628689674690 tw16246544345285578718 tw16252045055086880696 tw16297895727048191920 tw16340159247094369901 tw1644426501319618396 tw16545646599299154901 tw16591983056925258497 tw16863389651109598472 tw16959095441028456170 tw1703326441535935942 tw1721985582265500040 tw17306622101625656673 tw17333817621207111193 tw17401990147874071189 tw17423100390443030149 tw17684530922195462509 tw18014027338460111836 tw18118170964137857406 tw18214241229559405620 tw18276197769889450111 tw18363630915002747871 tw1918434068220216310 tw2014723358553193740 tw2018642968386373104 tw2020469483479401114 tw2051514345544101365 tw2215919089497595389 tw2450111559697668147 tw2519700542873926381 tw2573701335159992483 tw2818899209314154327 tw2824068090895233892 tw294695893969602185 tw294837394194064192 tw2949982670513401037 tw3085852304954878040 tw3297658287672358527 tw335290619641250794 tw3586095311434514266 tw3638346994269815521 tw3761759590755408003 tw3813676414426365011 tw3837334762784100402 tw3914918972344496671 tw3953363066896369128 tw4146314433150875284 tw4201731857254078445 tw4205231624328951164 tw4258044883530414201 tw4269213936227910027 tw4705933211889222297 tw4736817196197510116 tw4794535679864534790 tw4823708480983234464 tw4916547113383408790 tw4917905566926889859 tw5085994482261113926 tw5105051582402086741 tw5186837251605287497 tw5236361031791178542 tw5247075655179477772 tw5278643162198594526 tw540818280616206212 tw5446847786383685818 tw5565947849795993201 tw5585251022218477669 tw5605174029836600067 tw5802040189473113217 tw5809291063807061994 tw5835762963580081410 tw586064771756859968 tw592728028865869749 tw6028462974595938431 tw6090213635579216656 tw6099076103732369373 tw6107867070033917565 tw6124406469542305107 tw620132549996652931 tw6261645398001814544 tw6289191781572471395 tw656567622594423113 tw6588383869163127122 tw6731517981671581483 tw6763790278893577632 tw6778457702791830104 tw6844449352496482007 tw6897201984922777046 tw6976146163306599771 tw7144391239562721154 tw7283700899038636586 tw7357177809053686834 tw7462726736446717476 tw7637345250887924914 tw7656927969248986614 tw7709197640419475087 tw7814910179625359467 tw7862989606020442600 tw7947192781846542589 tw7969237310948689756 tw7992716694816401082 tw8061721437790212372 tw8186875766580951398 tw8242521659736003446 tw8405504102464663385 tw8557571816828822551 tw8565421055881407017 tw8649357101800597602 tw8660519238587171934 tw8740097347089890088 tw8806677196896634590 tw8823739952906303060 tw8855576756312893887 tw8911802265193745001 tw8940478765322169084 tw90225384337692289 tw9154790573897064557 tw9226721200140288194 tw9341311579416914454 tw9396118420630528145 tw9408822652888930482 tw9463063953157874785 tw9507541823605879211 tw9554778787861768525 tw9721218018039411551 tw982052524661304106 tw9855746570882548215 tw988221860936651123 tw9940183829246536949:True)
open PySem PySem.W PyProof.Rows
set_option maxRecDepth 100000 in
set_option maxHeartbeats 0 in
theorem PySem.Challenge.cw_lackword_k93_whole_a_place_or_a_missing_holds : PySem.Challenge.rw_lackword_k93_whole_a_place_or_a_missing.Holds := by
 w_on;o_law;k_head;(case hw=>w_witness2)
 k_fill
 refine L2.mJ (l:=PySem.Challenge.rw_lackword_k93_whole_a_place_or_a_missing) (n:=63) (k:=8) (x:="_law_script") (CX:=L2.nQ) (sp:=Pk93.mE) ["in_order"] rfl ⋯ rfl ⟨rfl,⋯,⋯⟩ (λw h Y=>PySem.W.km_in_of Y) (λ_=>by kernel_rfl) (by kernel_rfl) ?F ?S ?C
 case F=>
  intro w mg fa h tb KX G hmg hT;have T:∃t,Pk93.Txt (L2.KOf KX) mg t/\t.t_LE=(tb "in_order").2/\t.k_LE=(tb "in_order").1:=by
   dsimp only[L2.KOf];apply Pk93.txt_mk (t_LE:=(tb "in_order").2) (k_LE:=(tb "in_order").1) KX G
   (apply L2.xg_mk;(iterate 2 k_is);rfl;(iterate 10 k_is);rfl;rfl)
   iterate 4 k_is
   (apply L2.xg_mk;(iterate 2 k_is);rfl;(iterate 10 k_is);rfl;rfl)
   k_is
   (apply L2.mg_mk;iterate 4 k_is)
   k_is
   (apply L2.xg_mk;(iterate 2 k_is);rfl;(iterate 10 k_is);rfl;rfl)
   iterate 111 k_is
   iterate 26 (apply L2.mg_mk;iterate 4 k_is)
   decide;iterate 36 (apply L2.dg_mk;iterate 4 k_is)
   iterate 20 k_is
  obtain⟨t,T,et_LE,ek_LE⟩:=T;have e0:=hmg.symm.trans T.fK.m;cases e0;have cd_LE:t.d_LE.code=.ref t.k_LE:=by obtain⟨o,e1,e2⟩:=T.dj.u.at KX;rw[ek_LE];exact(hT "in_order" {}).codeEq T.dj.m e1 e2
  refine' ⟨_,?b,λbase kb nb hL=>Pk93.ok_law (tb:=tb) { T with L_in_order:=by rw[et_LE,ek_LE];exact hL "in_order" {},cd_LE:=cd_LE,e_LE:=et_LE }⟩;exact T.bl
 case S=>exact λK tb H a ns hl hP hS=>⟨a,ns,rfl,hS,hl,L2.mK (hP "in_order" {}),λ_=>rfl⟩
 case C=>exact λ_ _ _ _ z=>z
#print axioms PySem.Challenge.cw_lackword_k93_whole_a_place_or_a_missing_holds
