import PyProof.Rows.All
import Wide.All
import OpenK.AllK
import Wide.FinOn
import Lean
import PyProof.EqAt
import PyProof.EqKinds
import PyProof.TupleCall
import PyProof.SetRoads
import PyProof.Rows.SetFrom
import PyProof.StrWalks
import PyProof.FactsAll.set
import PyProof.FactsAll.subtypes_3
import PyProof.CollectWalk
import PyProof.CollectStr
import PyProof.StationsW
import PyProof.RulesAs
import KE.KTryMore
import PyProof.NsDelKeeps
import PyProof.ListStr
import PyProof.TupleOfStr
import PyProof.ConsumeS
import KE.KEqDict
import PyProof.DictWalks
import KE.KDictSum
import PyProof.DictItems
import PyProof.DictItemsLoops
import KE.KPairComp
import PyProof.DictUpdate
import KE.KLam
import PyProof.DictDisplay
import PyProof.ListRange
import PyProof.Rows.StrNews2
import PyProof.Rows.Range3
import KE.KDictLaws
import KE.KDictList
import PyProof.DictRoadsH
import KE.KRevIter
import PySem.Challenge.RW_lackword_k92_whole_strips_and_lists
open PySem.W(instObj methodObj hideAll hideAll_get of_hideAll hideAll_none lookIn plainGet hasDictIn findIn handedIn plainGet_of findObj_own isFn plainOver takerIn set_plain looks_clsIn makesIn typeIn emptyDict bind_fn keepIn specialIn takesIn mroIn kitOne kitx_list kitx_tuple kitx_dict cellsFrom_some fnOf codeIn notCls findObj looks_find looks_mroIn check_slot osa_eq clsIn readsIn findCls method_cls cls_value exmOne kla_fn nsIn)
set_option autoImplicit true
set_option compiler.extract_closed false
set_option bootstrap.genMatcherCode false
set_option genSizeOf false
noncomputable section
set_option relaxedAutoImplicit true
abbrev AA:=List (PySem.Addr×PySem.Obj)
abbrev AB:=PySem.Str->Option PySem.Value
abbrev AC:=List PySem.Value
abbrev AD:=PySem.Addr
abbrev AE:=PySem.Shared
abbrev AF:=PySem.FuncData
abbrev AG:=PySem.Program
abbrev AH:=PySem.Around
abbrev AI:=PySem.World
abbrev AJ:=List PySem.Str
abbrev lN:=List Nat
abbrev lX:=List (List Nat)
abbrev mY:=PySem.Value->PySem.Shared->Prop
abbrev ma:=PySem.W.Frag
set_option Elab.async false
set_option linter.all false
local macro_rules | `(∅) => `(by lia)
local macro_rules | `(~~~$x) => `(by simpa using $x)
local macro_rules (kind := «term{}») | `({}) => `(by simp)
local macro_rules | `(nofun) => `(by decide +kernel)
local macro_rules | `(⋯) => `(by decide)
def Iz:=@decide_eq_true_iff
def IA:=@decide_eq_true
def IB:=@decide_eq_false
def IC:=@of_decide_eq_true
def ID:=@decide_eq_false_iff_not
def IE:=@of_decide_eq_false
def IF:=@congrArg
def IG:=@absurd
def IH:=@beq_iff_eq
def II:=@decide_eq_true_eq
def lP:=@PySem.wpAny_bind
def lZ:=@List.length_map
def mT:=@List.getElem?_eq_getElem
def mR:=@PySem.Heap.get?_push_of_some
def mX:=@List.getElem?_eq_some_iff
def mP:=@List.length_append
def mQ:=@Bool.false_ne_true
def nN:=@List.getD_eq_getElem?_getD
def mf:=@PySem.wpAny_pure
def mU:=@List.mem_singleton
def mC:=@Nat.le_refl
def mO:=@Nat.le_trans
def mL:=@PySem.Heap.lt_size
def lT:=@if_neg
def lU:=@if_pos
def nV:=@PySem.Heap.get?_push_size
def nP:=@List.size_toArray
def nG:=@List.length_take
def oC:=@List.length_singleton
def mD:=@PyProof.Rows.wpS_bind
def m6:=@List.mem_cons
def py:=@List.getElem?_append_left
def nJ:=@List.mem_append
def oB:=@Array.length_toList
def oV:=@List.mem_cons_of_mem
def om:=@List.getElem?_map
def ot:=@Nat.lt_of_lt_of_le
def oW:=@List.mem_of_getElem?
def nY:=@Bool.and_eq_true
def nj:=@List.mem_map
def o9:=@List.mem_of_mem_take
def mI:=@PyProof.Rows.wpS_pure
def qu:=@List.getElem?_append_right
def o7:=@List.mem_cons_self
def oN:=@List.length_cons
def oq:=@PySem.PassesOwn.never
def nM:=@Nat.ne_of_lt
def oZ:=@List.length_drop
def pJ:=@List.mem_of_mem_drop
def mH:=@Ne.symm
def pW:=@List.length_filter_le
def nO:=@Nat.zero_le
def oY:=@List.mem_range
def pZ:=@PySem.Heap.SameBut.update
def oP:=@List.map_cons
def qm:=@List.length_dropLast
def qH:=@List.take_of_length_le
def o4:=@Nat.lt_irrefl
def pQ:=@List.append_assoc
def pD:=@List.mem_filter
def rn:=@PySem.F.plainAttrs_list
def pK:=@List.take_length
def qU:=@List.take_append_drop
def oX:=@List.map_map
def qL:=@Array.getElem?_toList
def pO:=@Bool.eq_iff_iff
def qS:=@List.getElem_of_mem
def qj:=@List.map_append
def qR:=@PySem.W.mg_none_of
def tG:=@PySem.F.type_list_append
def tK:=@PySem.F.slot_list_append
def sH:=@List.drop_eq_nil_of_le
def uF:=@List.drop_append_of_le_length
def rB:=@List.contains_cons
def qE:=@List.all_eq_true
def rR:=@List.length_pos_iff
def pU:=@PySem.wpAny_holding
def si:=@Array.toList_extract
def vt:=@List.getLast?_eq_some_getLast
def rE:=@Bool.eq_false_iff
def tR:=@List.length_eq_zero_iff
def tI:=@List.getElem?_eq_none
def sD:=@Array.toList_append
def tZ:=@PySem.Heap.get?_update_other
def sZ:=@List.pairwise_append
def sP:=@PySem.Around.under_plainId
def rq:=@List.getElem_mem
def qZ:=@List.ext_getElem
def qJ:=@PySem.W.kia_one
def rW:=@List.length_range
def tT:=@List.mem_append_right
def re:=@Nat.min_eq_left
def pG:=@PySem.wpAny_mono
def sW:=@List.pairwise_cons
def tO:=@List.filter_append
def qy:=@PyProof.Rows.wpS_forRange
def rM:=@List.nodup_cons
def tS:=@List.mem_map_of_mem
def sj:=@Option.bind_some
def se:=@List.any_eq_true
def tL:=@PySem.wpAny_loadPart_at
def qK:=@PySem.W.mg_of
def tF:=@Array.toList_push
def uj:=@PySem.Calls.spliced_cons
def vU:=@List.pairwise_iff_getElem
def rK:=@List.drop_zero
def rH:=@List.drop_drop
def rX:=@Bool.false_and
def xw:=@List.take_append_of_le_length
def tP:=@List.mem_reverse
def sR:=@List.lookup_cons
def tV:=@List.pairwise_map
def vk:=@PySem.Heap.get?_update_self
def sA:=@PySem.wpAny_setField
def sG:=@List.take_zero
def rZ:=@PySem.Heap.size_push
def sM:=@List.append_nil
def vJ:=@PySem.F.plain_max_loop
def uz:=@PySem.wpAny_truthy_bool
def uD:=@PySem.wpAny_newObj_type
def uX:=@PySem.mem_of_lookup
def sQ:=@List.take_take
def t8:=@List.range_succ
def vn:=@PySem.wpAny_Call_Name_kw
def vq:=@List.getElem?_drop
def u9:=@Int.emod_lt_of_pos
def uN:=@List.mem_flatMap
def yd:=@List.eq_nil_of_length_eq_zero
def wf:=@PySem.W.looks_findIn
def vB:=@List.dropLast_concat
def yR:=@List.dropLast_concat_getLast
def sS:=@Bool.true_and
def vm:=@List.take_sublist
def ve:=@Int.toNat_natCast
def uE:=@Int.emod_nonneg
def pX:=@PyProof.Rows.wpS_mono
def xC:=@PySem.Calls.callWith_builtin
def xR:=@Array.getElem?_eq_some_iff
def xk:=@PySem.F.slot_dict_get
def vR:=@Bool.false_eq_true
def sw:=@Nat.le_succ
def yD:=@Classical.byContradiction
def uv:=@Bool.and_false
def wv:=@List.mem_append_left
def rV:=@PyProof.Rows.wpS_modify
def rG:=@PySem.wpAny_rule
def vS:=@PySem.wpAny_pyIter_list
def vI:=@List.nodup_append
def vX:=@List.ext_getElem?
def vD:=@PySem.Calls.spliced_nil
def tU:=@Nat.sub_self
def xT:=@PySem.F.plainAttrs_dict
def vC:=@PySem.W.any_some
def we:=@List.length_tail
def vE:=@List.filter_cons
def w8:=@PySem.W.callWith_K
def wW:=@List.getElem?_take
def vH:=@PySem.wpAny_passesOwn
def zw:=@PyProof.Rows.callWith_type1
def uO:=@Nat.le_of_eq
def vL:=@List.foldl_cons
def x8:=@List.dropLast_eq_take
def wU:=@PySem.wpAny_setState_of
def tE:=@PySem.wpAny_call
def vo:=@PySem.wpAny_attempt
def wj:=@Nat.lt_succ_of_lt
def BE:=@Array.perm_iff_toList_perm
def x0:=@PySem.Calls.evalArgs_plain
def vy:=@Nat.mul_le_mul
def wF:=@PySem.wpAny_askSetting
def yI:=@PySem.wpAny_isSubtype_exc
def yw:=@List.map_congr_left
def yE:=@List.flatMap_append
def wN:=@PySem.wpAny_execs_nil
def yN:=@Option.map_some
def yj:=@PySem.Obj.data_mapFields
def wB:=@List.length_nil
def wL:=@List.find?_cons
def z4:=@PySem.wpAny_pyNext_list_item
def zi:=@PySem.F.entry_dict_get
def zI:=@List.filter_eq_nil_iff
def yu:=@PySem.wpAny_Call_method
def x5:=@List.take_add_one
def yQ:=@List.getElem_take
def xZ:=@List.flatten_cons
def xq:=@PySem.wpAny_seqItems
def xn:=@List.drop_take
def zg:=@PySem.W.methodCall_KW
def Ce:=@PyProof.Rows.callWith_builtin1
def vW:=@List.map_nil
def yW:=@PySem.wpAny_call_entry
def y9:=@PySem.IsL.isList
def yO:=@Nat.succ_le_succ
def yg:=@List.cons_append
def zM:=@List.mem_iff_getElem
def zA:=@PySem.F.excBase_ValueError
def Br:=@Array.toArray_toList
set_option maxRecDepth 100000
namespace L2
open PySem PySem.Spec PyProof.Rows
abbrev mh:=Sum Int Str
def ux:mh->Value->Bool
 | .inl k,v=>Value.isInt k v
 | .inr x,v=>Value.isStrOf x v
noncomputable def iG (w:AI):mh->Int
 | .inl k=>hashInt k
 | .inr x=>hashStr w x
theorem uB:∀ {k:mh} {v:Value},ux k v=true->(∃i t,k=Sum.inl i/\v=Value.int i t)\/(∃x t,k=Sum.inr x/\v=Value.str x t)
 | .inl i,v,h=>by
  obtain⟨t,e⟩:=Value.isInt_shape (k:=i) (v:=v) h;exact .inl ⟨i,t,rfl,e⟩
 | .inr x,v,h=>by obtain⟨t,e⟩:=Value.isStrOf_shape (x:=x) (v:=v) h;exact .inr ⟨x,t,rfl,e⟩
def Zj7 (i:Int)(t:Tok):ux (.inl i) (.int i t)=true:=by simp[ux,Value.isInt]
def Zj6 (x:Str)(t:Tok):ux (.inr x) (.str x t)=true:=by simp[ux,Value.isStrOf]
def Zpn (a b:Int):decide ((Sum.inl a:mh)=Sum.inl b)=(a == b):=by
 by_cases e:a=b
 .subst e;simp
 .have h:¬(Sum.inl a:mh)=Sum.inl b:=λq=>e (Sum.inl.inj q);rw[IB h];exact(beq_eq_false_iff_ne.mpr e).symm
def Zpk (a b:Str):decide ((Sum.inr a:mh)=Sum.inr b)=decide (a=b):=by
 by_cases e:a=b
 .subst e;simp
 .have h:¬(Sum.inr a:mh)=Sum.inr b:=λq=>e (Sum.inr.inj q);rw[IB h,IB e]
def Zpm (a:Int)(b:Str):decide ((Sum.inl a:mh)=Sum.inr b)=false:=IB (λq=>nomatch q)
def Zpl (a:Str)(b:Int):decide ((Sum.inr a:mh)=Sum.inl b)=false:=IB (λq=>nomatch q)
def nW (prog:AG)(w:AI):PySem.KeyKind prog w mh where
 is:=ux
 hash:=iG w
 inj:=λv a b ha hb=>by
  rcases uB ha with⟨i,t,rfl,rfl⟩|⟨x,t,rfl,rfl⟩
  .rcases uB hb with⟨j,u,rfl,e⟩|⟨y,u,rfl,e⟩
   .injection e with e1 _;rw[e1]
   .exact nomatch e
  .rcases uB hb with⟨j,u,rfl,e⟩|⟨y,u,rfl,e⟩
   .exact nomatch e
   .injection e with e1 _;rw[e1]
 byValue:=λk v h=>by rcases uB h with⟨i,t,rfl,rfl⟩|⟨x,t,rfl,rfl⟩<;>rfl
 pyHash:=λhv h=>by
  rcases uB hv with⟨i,t,rfl,rfl⟩|⟨x,t,rfl,rfl⟩
  .exact wpAny_pyHash_int h
  .exact wpAny_pyHash_str h
 eqBool:=λhu hv h=>by
  rcases uB hu with⟨i,t,rfl,rfl⟩|⟨x,t,rfl,rfl⟩
  .rcases uB hv with⟨j,u,rfl,rfl⟩|⟨y,u,rfl,rfl⟩
   .rw[Zpn]at h;exact wpAny_eqBool_int h
   .rw[Zpm]at h;exact SeqAt.EqAt.int_str i t y u _ _ _ _ h
  .rcases uB hv with⟨j,u,rfl,rfl⟩|⟨y,u,rfl,rfl⟩
   .rw[Zpl]at h;exact SeqAt.EqAt.str_int x t j u _ _ _ _ h
   .rw[Zpk]at h;exact wpAny_eqBool_str h
 «strs»:=λk x t v h=>by
  rcases uB h with⟨i,u,rfl,e⟩|⟨y,u,rfl,e⟩
  .exact nomatch e
  .injection e with e1 _;subst e1;cases v<;>rfl
def ZgY (prog:AG)(w:AI)(i:Int)(t:Tok):(nW prog w).is (.inl i) (.int i t)=true:=Zj7 i t
def Im (prog:AG)(w:AI)(x:Str)(t:Tok):(nW prog w).is (.inr x) (.str x t)=true:=Zj6 x t
inductive V where
 | non | bl (b:Bool) | int (i:Int) | str (x:Str) | byt (b:Array UInt8) | flt (b:UInt64) | ref (a:AD) | ty (n:String)
 deriving DecidableEq
abbrev IJ:=List V
set_option genInjectivity false
def ft:V->Value->Prop
 | .non,u=>u=Value.none
 | .bl b,u=>u=Value.bool b
 | .int i,u=>∃t,u=Value.int i t
 | .str x,u=>∃t,u=Value.str x t
 | .byt b,u=>∃t,u=Value.bytes b t
 | .flt b,u=>∃t,u=Value.float b t
 | .ref a,u=>u=Value.ref a
 | .ty n,u=>u=Value.type n
abbrev fi:IJ->AC->Prop:=Paired ft
def fi.length (r:fi xs us):xs.length=us.length:=Paired.length r
theorem fi.get:∀ {xs:IJ} {us:AC} {i:Nat} {x:V},fi xs us->xs[i]?=some x->∃u,us[i]?=some u/\ft x u
 | _,_,_,_,.nil,e=>by simp at e
 | _,_,0,_,.cons r _,e=>by simp at e;subst e;exact⟨_,rfl,r⟩
 | _,_,i+1,x,.cons _ t,e=>by obtain⟨u,h1,h2⟩:=fi.get (i:=i) (x:=x) t (~~~e);exact⟨u,~~~h1,h2⟩
theorem fi.set {x:V}{u:Value}(r:ft x u):∀ {xs:IJ} {us:AC} (i:Nat),fi xs us->fi (xs.set i x) (us.set i u)
 | _,_,_,.nil=>.nil
 | _,_,0,.cons _ t=>.cons r t
 | _,_,i+1,.cons q t=>.cons q (fi.set r i t)
theorem fi.append:∀ {xs ys:IJ} {us ws:AC},fi xs us->fi ys ws->fi (xs++ys) (us++ws)
 | _,_,_,_,.nil,s=>s
 | _,_,_,_,.cons r t,s=>.cons r (fi.append t s)
theorem fi.take:∀ {xs:IJ} {us:AC} (n:Nat),fi xs us->fi (xs.take n) (us.take n)
 | _,_,0,_=>.nil
 | _,_,_+1,.nil=>.nil
 | _,_,n+1,.cons r t=>.cons r (fi.take n t)
theorem fi.drop:∀ {xs:IJ} {us:AC} (n:Nat),fi xs us->fi (xs.drop n) (us.drop n)
 | _,_,0,r=>r
 | _,_,_+1,.nil=>.nil
 | _,_,n+1,.cons _ t=>fi.drop n t
def gi:Option V->Option Value->Prop
 | some v,some u=>ft v u
 | none,none=>True
 | _,_=>False
def KV {κ:Type}:List (κ×V)->List (κ×Value)->Prop:=Paired λ(p:κ×V) (q:κ×Value)=>p.1=q.1/\ft p.2 q.2
noncomputable def kV:mh->V
 | .inl i=>.int i
 | .inr x=>.str x
inductive HO where
 | lst (xs:IJ)
 | tup (xs:IJ)
 | dK (kvs:List (mh×V)) | dT (kvs:List (List mh×V))
 | set (S:Int->Bool) (n:Nat)
 | ins (C dx:AD) (fs:List (Str×V))
 | own (x:AD)
 | xd (fs:List (Str×V))
 | met (f x:AD)
 | rng (lo hi:Int)
 | frz (o:Obj) (u:HO)
 | tbl (ps:Array Value)
 | ext (φ:Heap->Prop)
abbrev Hp:=Addr->Option HO
noncomputable def upd (H:Hp)(a:AD)(o:HO):Hp:=λb=>if b=a then some o else H b
def mq:upd H a o a=some o:=by unfold upd;rw[lU rfl]
def lR (h:b≠a):upd H a o b=H b:=by unfold upd;rw[lT h]
def Ff {H:Hp}{a b:AD}{o u:HO}(h:H a=some o)(h':H b=some u)(d:o≠u):a≠b:=by intro e;subst e;rw[h]at h';exact d (Option.some.inj h')
def mM {H:Hp}{a b:AD}{o:HO}(h:H a=some o)(h':H b=none):a≠b:=by intro e;subst e;rw[h]at h';cases h'
section
variable (P:AG)(w:AI)
def fJ (H:Hp)(h:Heap)(a:AD):HO->Prop
 | .lst xs=>xs.length<=sizeLine/\∃(its:AC) (n:Nat),fi xs its/\h.get? a=some { cls:=.type "list",data:=.seq its.toArray n }
 | .tup xs=>xs.length<=sizeLine/\∃its:AC,fi xs its/\IsTup h a its.toArray
 | .dK kvs=>kvs.length<=sizeLine/\(a == sysModules)=false/\∃vs,KV kvs vs/\h.DictOf (nW P w) a vs
 | .dT kvs=>kvs.length<=sizeLine/\(a == sysModules)=false/\∃xs:List (List mh×AD×Value),
   Paired (λ(p:List mh×V) (q:List mh×AD×Value)=>p.1=q.1/\H q.2.1=some (.tup (p.1.map kV))/\ft p.2 q.2.2) kvs xs /\
   ∃o es ep,h.get? a=some o/\o.ExactDict/\o.data=.dict es ep/\es.toList=xs.map (entryOfKey (tupleKind (nW P w)))/\(xs.map (·.1)).Nodup
 | .set S n=>h.SetOf (intKind P w) a S n
 | .ins C dx fs=>H dx=some (.own a)/\fs.length<=1000/\dx≠a/\h.get? a=some (instObj C dx) /\
   ∃mA,h.Ns1 dx mA/\(∀f,gi (fs.lookup f) (mA f))/\PySem.Within mA (fs.map (·.1))
 | .own _=>∃o,h.get? a=some o
 | .xd fs=>∃mA,h.Ns1 a mA/\∀f,gi (fs.lookup f) (mA f)
 | .rng lo hi=>∃t u v,h.get? a=some { cls:=.type "range",data:=.fields #[.int lo t,.int hi u,.int 1 v] }
 | .frz o u=>h.get? a=some o/\fJ H h a u
 | .tbl ps=>h.get? a=some { cls:=.none,data:=.fields ps }
 | .met f x=>h.get? a=some (methodObj (.ref f) (.ref x))
 | .ext φ=>φ h/\(∃o,h.get? a=some o)/\∀h1 h2:Heap,φ h1->(∀o,h1.get? a=some o->h2.get? a=some o)->φ h2
def nZ (H:Hp)(h:Heap):Prop:=∀a o,H a=some o->fJ P w H h a o
end
section
def fJ.lt (x:fJ P w H h a o):a<h.objs.size:=by
 cases o with
 | lst xs=>obtain⟨_,_,_,_,e⟩:=x;exact mL e
 | tup xs=>obtain⟨_,_,_,p⟩:=x;exact p.lt
 | dK kvs=>obtain⟨_,_,_,_,o,_,_,e,_⟩:=x;exact mL e
 | dT kvs=>obtain⟨_,_,_,_,o,_,_,e,_⟩:=x;exact mL e
 | set S n=>obtain⟨o,_,_,_,e,_⟩:=x;exact mL e
 | ins C dx fs=>obtain⟨_,_,_,e,_⟩:=x;exact mL e
 | own y=>obtain⟨_,e⟩:=x;exact mL e
 | xd fs=>obtain⟨_,⟨_,_,_,e,_⟩,_⟩:=x;exact mL e
 | rng lo hi=>obtain⟨_,_,_,e⟩:=x;exact mL e
 | frz ob u=>obtain⟨e,_⟩:=x;exact mL e
 | tbl ps=>exact mL (show h.get? a=some _ from x)
 | met f y=>exact mL (show h.get? a=some _ from x)
 | ext φ=>obtain⟨_,⟨_,e⟩,_⟩:=x;exact mL e
theorem Paired.mapP {α β:Type}{F G:α->β->Prop}:∀ {l_1:List α} {l_2:List β},Paired F l_1 l_2->(∀a b,F a b->G a b)->Paired G l_1 l_2
 | _,_,.nil,_=>.nil
 | _,_,.cons r t,f=>.cons (f _ _ r) (Paired.mapP t f)
def fJ.stay (x:fJ P w H h a o)(k:∀b u,(b=a\/H b=some (.own a))->h.get? b=some u->h'.get? b=some u)
  (ho:∀b,H b=some (.own a)->H' b=some (.own a)) (ht:∀b xs,H b=some (.tup xs)->H' b=some (.tup xs)):fJ P w H' h' a o:=by
 induction o with
 | lst xs=>obtain⟨z,its,n,r,e⟩:=x;exact⟨z,its,n,r,k _ _ (.inl rfl) e⟩
 | tup xs=>obtain⟨z,its,r,ob,e,c⟩:=x;exact⟨z,its,r,ob,k _ _ (.inl rfl) e,c⟩
 | dK kvs=>obtain⟨z,y,vs,r,ob,es,ep,e,c⟩:=x;exact⟨z,y,vs,r,ob,es,ep,k _ _ (.inl rfl) e,c⟩
 | dT kvs=>
  obtain⟨z,y,xs,r,ob,es,ep,e,c⟩:=x;exact⟨z,y,xs,Paired.mapP r λp q z=>⟨z.1,ht _ _ z.2.1,z.2.2⟩,ob,es,ep,k _ _ (.inl rfl) e,c⟩
 | set S n=>obtain⟨ob,es,ep,t,e,c⟩:=x;exact⟨ob,es,ep,t,k _ _ (.inl rfl) e,c⟩
 | ins C dx fs=>
  obtain⟨d,z,ne,e,mA,⟨od,es,ep,e2,c⟩,r⟩:=x;exact⟨ho _ d,z,ne,k _ _ (.inl rfl) e,mA,⟨od,es,ep,k _ _ (.inr d) e2,c⟩,r⟩
 | own y=>obtain⟨ob,e⟩:=x;exact⟨ob,k _ _ (.inl rfl) e⟩
 | xd fs=>obtain⟨mA,⟨od,es,ep,e,c⟩,r⟩:=x;exact⟨mA,⟨od,es,ep,k _ _ (.inl rfl) e,c⟩,r⟩
 | rng lo hi=>obtain⟨t,u,v,e⟩:=x;exact⟨t,u,v,k _ _ (.inl rfl) e⟩
 | frz ob u ih=>obtain⟨e,q⟩:=x;exact⟨k _ _ (.inl rfl) e,ih q⟩
 | tbl ps=>
  have e:h.get? a=some { cls:=.none,data:=.fields ps }:=x;show h'.get? a=some { cls:=.none,data:=.fields ps };exact k a _ (.inl rfl) e
 | met f y=>
  have e:h.get? a=some (methodObj (.ref f) (.ref y)):=x;show h'.get? a=some (methodObj (.ref f) (.ref y));exact k a _ (.inl rfl) e
 | ext φ=>obtain⟨p,⟨o,e⟩,st⟩:=x;exact⟨st _ _ p λo q=>k _ _ (.inl rfl) q,⟨o,k _ _ (.inl rfl) e⟩,st⟩
def nZ.lt (x:nZ P w H h)(e:H a=some o):a<h.objs.size:=(x a o e).lt
def nZ.fresh (x:nZ P w H h)(e:h.objs.size<=a):H a=none:=by
 cases q:H a with
 | none=>rfl
 | some u=>exact IG (ot (x.lt q) e) (o4 _)
def nZ.kept (x:nZ P w H h)(k:∀b u,h.get? b=some u->h'.get? b=some u):nZ P w H h':=λa o e=>
 (x a o e).stay (λb u _ q=>k b u q) (λ_ q=>q) λ_ _ q=>q
def nZ.laid (x:nZ P w H h)(k:∀b u,h.get? b=some u->h'.get? b=some u)(hp:h.objs.size<=a)(new:fJ P w (upd H a o) h' a o):nZ P w (upd H a o) h':=λb u e=>by
 have hn:=x.fresh hp;by_cases hb:b=a
 .subst hb;rw[mq]at e;cases e;exact new
 .rw[lR hb]at e;exact(x b u e).stay (λc v _ q=>k c v q) (λc q=>by rw[lR (mM q hn)];exact q) λc xs q=>by rw[lR (mM q hn)];exact q
end
def Rd (H:Hp)(a:AD)(u:HO):Prop:=H a=some u\/∃o,H a=some (.frz o u)
def Rd.ok (r:Rd H a u)(x:nZ P w H h):fJ P w H h a u:=by
 rcases r with r | ⟨o,r⟩
 .exact x a u r
 .obtain⟨_,q⟩:=x a _ r;exact q
def xV:Option HO->Prop
 | some (.lst _)=>True
 | some (.dK _)=>True
 | some (.dT _)=>True
 | some (.set _ _)=>True
 | some (.ins _ _ _)=>True
 | some (.ext _)=>True
 | _=>False
section
def nZ.write (ok:nZ P w H h)(mu:xV (H x))(he:e=x\/H e=some (.own x))(k:∀b u,b≠e->h.get? b=some u->h'.get? b=some u)(heo:∃u,h'.get? e=some u)
  (new:fJ P w (upd H x o') h' x o'):nZ P w (upd H x o') h':=λb u q=>by
 have nown:∀c y,H c=some (.own y)->c≠x:=λc y r z=>by subst z;rw[r]at mu;exact mu
 have ntup:∀c xs,H c=some (.tup xs)->c≠x:=λc xs r z=>by subst z;rw[r]at mu;exact mu
 by_cases hb:b=x
 .subst hb;rw[mq]at q;cases q;exact new
 .rw[lR hb]at q;by_cases hbe:b=e
  .have q':H b=some (.own x):=by
    rcases he with z | z
    .exact IG (hbe.trans z) hb
    .rw[hbe];exact z
   rw[q]at q';cases q';obtain⟨v,hv⟩:=heo;exact⟨v,by rw[hbe];exact hv⟩
  .refine(ok b u q).stay (λc v hc r=>k c v ?_ r) (λc r=>by rw[lR (nown c b r)];exact r) λc xs r=>by rw[lR (ntup c xs r)];exact r
   rcases hc with rfl | hc
   .exact hbe
   .rintro rfl;rcases he with z | z
    .exact nown c b hc z
    .rw[hc]at z;cases z;exact hb rfl
end
structure Un (fs ex:List AD)(H H':Hp)(h h':Heap):Prop where
 keep:∀b o,h.get? b=some o->H b=none->b∉fs->b∉ex->h'.get? b=some o
 slot:∀b o,h.get? b=some o->H b=none->b∈fs->b∉ex->∃sl,h'.get? b=some { o with slots:=sl }
 free:∀b o,h.get? b=some o->H b=none->b∉ex->H' b=none
 there:∀b o,h.get? b=some o->b∉ex->∃o',h'.get? b=some o'
 tups:∀b xs,H b=some (.tup xs)->H' b=some (.tup xs)
 frzs:∀b o u,H b=some (.frz o u)->H' b=some (.frz o u)
 tbls:∀b ps,H b=some (.tbl ps)->∃more,H' b=some (.tbl (ps++more))
section
def Un.any (u:Un fs ex H H1 h h1){b:AD}{ob:Obj}(q:h.get? b=some ob)(n:H b=none)(hx:b∉ex):∃sl,h1.get? b=some { ob with slots:=sl }:=by
 by_cases hb:b∈fs
 .exact u.slot b ob q n hb hx
 .exact⟨ob.slots,u.keep b ob q n hb hx⟩
def Un.trans (a:Un fs ex H H1 h h1)(b:Un fs ex H1 H2 h1 h2):Un fs ex H H2 h h2 where
 keep:=λc ob q n hc hx=>b.keep c ob (a.keep c ob q n hc hx) (a.free c ob q n hx) hc hx
 slot:=λc ob q n hc hx=>by obtain⟨sl,e1⟩:=a.slot c ob q n hc hx;obtain⟨sl',e2⟩:=b.slot c _ e1 (a.free c ob q n hx) hc hx;exact⟨sl',e2⟩
 free:=λc ob q n hx=>by obtain⟨o',e1⟩:=a.there c ob q hx;exact b.free c o' e1 (a.free c ob q n hx) hx
 there:=λc ob q hx=>by obtain⟨o',e1⟩:=a.there c ob q hx;exact b.there c o' e1 hx
 tups:=λc xs q=>b.tups c xs (a.tups c xs q)
 frzs:=λc ob xs q=>b.frzs c ob xs (a.frzs c ob xs q)
 tbls:=λc ps q=>by obtain⟨m1,e1⟩:=a.tbls c ps q;obtain⟨m2,e2⟩:=b.tbls c _ e1;exact⟨m1++m2,by rw[e2,Array.append_assoc]⟩
def Un.kept (k:∀b u,h.get? b=some u->h'.get? b=some u):Un fs ex H H h h':=
 ⟨λb ob q _ _ _=>k b ob q,λb ob q _ _ _=>⟨ob.slots,k b ob q⟩,λ_ _ _ n _=>n,λb ob q _=>⟨ob,k b ob q⟩,λ_ _ q=>q,λ_ _ _ q=>q,λ_ ps q=>⟨#[],by rw[q];simp⟩⟩
def Un.refl:Un fs ex H H h h:=Un.kept λ_ _ q=>q
def Un.laid (k:∀b u,h.get? b=some u->h'.get? b=some u)(hp:h.objs.size<=a)(hn:H a=none):Un fs ex H (upd H a o) h h' where
 keep:=λb u q _ _ _=>k b u q
 slot:=λb u q _ _ _=>⟨u.slots,k b u q⟩
 free:=λb u q n _=>by rw[lR (nM (ot (mL q) hp))];exact n
 there:=λb u q _=>⟨u,k b u q⟩
 tups:=λb xs q=>by rw[lR (mM q hn)];exact q
 frzs:=λb u xs q=>by rw[lR (mM q hn)];exact q
 tbls:=λb ps q=>⟨#[],by rw[lR (mM q hn),q];simp⟩
def Un.write (mu:xV (H x))(he:e=x\/H e=some (.own x))(k:∀b u,b≠e->h.get? b=some u->h'.get? b=some u)(heo:∃u,h'.get? e=some u):Un fs ex H (upd H x o) h h':=by
 have hx:∀b,H b=none->b≠x:=λb n z=>by subst z;rw[n]at mu;exact mu
 have hb:∀b,H b=none->b≠e:=λb n z=>by
  subst z;rcases he with r | r
  .exact hx b n r
  .rw[n]at r;cases r
 have hm:∀b u,H b=some u->¬xV (some u)->b≠x:=λb u q nm z=>by subst z;rw[q]at mu;exact nm mu
 refine⟨λb u q n _ _=>k b u (hb b n) q,λb u q n _ _=>⟨u.slots,k b u (hb b n) q⟩,λb u q n _=>by rw[lR (hx b n)];exact n,λb u q _=>?_,
  λb xs q=>by rw[lR (hm b _ q λz=>z)];exact q,λb u xs q=>by rw[lR (hm b _ q λz=>z)];exact q,λb ps q=>⟨#[],by rw[lR (hm b _ q λz=>z),q];simp⟩⟩
 by_cases hbe:b=e
 .subst hbe;exact heo
 .exact⟨u,k b u hbe q⟩
end
noncomputable def xi (h:Heap)(H:Hp):List AD:=(List.range h.objs.size).filter λa=>(H a).isSome
def ip (h:Heap)(H:Hp):Heap:=hideAll h (xi h H)
def Zke (h:Heap)(H:Hp):(ip h H).objs.size=h.objs.size:=PySem.W.hideAll_size _ _
def Zlu (e:h.get? b=some o)(n:H b=none):(ip h H).get? b=some o:=
 hideAll_get _ e λhm=>by have q:(H b).isSome=true:=(pD.mp hm).2;rw[n]at q;simp at q
def Znk (e:(ip h H).get? b=some o):h.get? b=some o/\H b=none:=by
 have e':h.get? b=some o:=of_hideAll (xi h H) e;refine⟨e',?_⟩;cases q:H b with
 | none=>rfl
 | some x=>
  have hm:b∈xi h H:=pD.mpr ⟨oY.mpr (mL e'),by simp[q]⟩;have z:(ip h H).get? b=none:=hideAll_none (xi h H) hm;rw[z]at e;cases e
def ZnW (g h:Heap)(L:AD):AA:=(List.range h.objs.size).filterMap λa=>if a=L\/(g.get? a).isSome=true then none else (h.get? a).map λo=>(a,o)
noncomputable def f8 (g h:Heap)(L d:AD):AA:=(ZnW g h L).filter λp=>decide (p.1≠d)
structure Mod (K:ma)(mg:AB)(base:Heap):Prop where
 kin:K.In base
 glob:base.Ns mainGlobals mg
 blt:∃mb,base.Ns builtinsNs mb/\∀x:Str,x≠"__name__"->mb x=bootBuiltins x
 nolimit:base.NoLimit
structure Cx where
 prog:AG
 w:AI
 K:ma
 mg:AB
 base:Heap
 A:AH
 N:AJ
 s_0:AE
 H_0:Hp
 env:Env
 outer:List Env
 stack:List Env
 ex:List AD
 fn:Str->Bool
 calm:Bool
 pn:AA
 xe:mY
noncomputable def oz (l:List Env):List AD:=l.filterMap (·.frame)
abbrev Cx.fs (X:Cx):List AD:=oz X.outer
def wz (sc:Scope)(x:Str):Prop:=sc.names.lookup x=some .local\/sc.names.lookup x=some .cell\/sc.names.lookup x=some .free
def vY (sc:Scope)(x:Str):Prop:=sc.names.lookup x=some .local\/sc.names.lookup x=some .cell
def Look (env:Env)(h:Heap)(m:AB)(x:Str)(u:Value):Prop:=
 (env.kindOf x=some .local/\m x=some u)\/((env.kindOf x=some .cell\/env.kindOf x=some .free)/\∃c,env.cells.lookup x=some c/\h.IsCell c (some u))
structure Cx.Ok (X:Cx):Prop where
 mod:Mod X.K X.mg X.base
 kind:X.env.scope.kind=.function
 glob:X.env.globals=mainGlobals
 blt:X.env.builtins=builtinsNs
 above:X.s_0.heap.objs.size<=X.env.locals
 inj:∀x y c,X.env.cells.lookup x=some c->X.env.cells.lookup y=some c->x=y
 has:∀x,(X.env.kindOf x=some .cell\/X.env.kindOf x=some .free)->∃c,X.env.cells.lookup x=some c
 cab:∀x c,X.fn x=true->X.env.cells.lookup x=some c->X.s_0.heap.objs.size<=c
 hd:X.calm=true->X.A.handled=none
 frames:X.A.frames=some X.stack
 stk:X.stack=X.outer\/(X.stack=X.env::X.outer/\X.env.frame=some X.env.locals)
 exf:∀b∈X.ex,b≠X.env.locals/\∀x c,X.env.cells.lookup x=some c->c≠b
 bs:∀b o,X.base.get? b=some o->X.s_0.heap.get? b=some o/\X.H_0 b=none
 bsz:X.base.objs.size<=X.s_0.heap.objs.size
 noex:∀b o,X.base.get? b=some o->b∉X.ex
 exfs:∀b∈X.ex,b∉X.fs
 funs:X.s_0.heap.FunFrames X.base X.outer
 frf:∀b∈X.fs,X.H_0 b=none
structure lO (X:Cx)(Ao:AA)(U:List (Option V))(H:Hp)(s:AE):Prop where
 ok:X.Ok
 os:s.os=X.s_0.os
 bare:AllBare s.gens
 base:Un X.fs X.ex X.H_0 H X.s_0.heap s.heap
 loc:∃m,s.heap.Ns X.env.locals m/\∀(i:Nat) (x:Str) (v:V),X.N[i]?=some x->U[i]?=some (some v)->wz X.env.scope x->∃u,ft v u/\Look X.env s.heap m x u
 cell:∀x c,X.env.cells.lookup x=some c->∃v,s.heap.IsCell c v
 free:H X.env.locals=none
 freeC:∀x c,X.env.cells.lookup x=some c->H c=none
 pin:∀p∈X.pn++Ao,s.heap.get? p.1=some p.2/\H p.1=none/\p.1≠X.env.locals/\p.1∉X.fs/\∀v,p.2.data≠.cell v
 hok:nZ X.prog X.w H s.heap
 len:U.length=X.N.length
section
variable {X:Cx}{Ao:AA}{U:List (Option V)}{H H':Hp}{s:AE}{h':Heap}
def Cx.Ok.nofr (ok:X.Ok){b:AD}{o:Obj}(e:X.base.get? b=some o):b∉X.fs:=λhb=>by have:=(ok.funs.mem hb).1;rw[e]at this;cases this
def lO.bs (I:lO X Ao U H s):∀b o,X.base.get? b=some o->s.heap.get? b=some o/\H b=none:=λb o e=>
 ⟨I.base.keep b o (I.ok.bs b o e).1 (I.ok.bs b o e).2 (I.ok.nofr e) (I.ok.noex b o e),I.base.free b o (I.ok.bs b o e).1 (I.ok.bs b o e).2 (I.ok.noex b o e)⟩
def lO.bk (I:lO X Ao U H s):∀b o,X.base.get? b=some o->s.heap.get? b=some o:=λb o e=>(I.bs b o e).1
def lO.mod (I:lO X Ao U H s):Mod X.K X.mg X.base:=I.ok.mod
def lO.kIn (I:lO X Ao U H s):X.K.In s.heap:=I.ok.mod.kin.keeps I.bk
def lO.lt (I:lO X Ao U H s):X.env.locals<s.heap.objs.size:=let ⟨_,hn,_⟩:=I.loc;hn.lt
def lO.sz (I:lO X Ao U H s):X.s_0.heap.objs.size<=s.heap.objs.size:=mO I.ok.above (Nat.le_of_lt I.lt)
def lO.nofs (I:lO X Ao U H s){a:AD}(h:s.heap.objs.size<=a):a∉X.fs:=λhb=>by obtain⟨_,o,ho,_⟩:=I.ok.funs.mem hb;exact IG (ot (mL ho) (mO I.sz h)) (o4 _)
def lO.cne (I:lO X Ao U H s):∀x c,X.env.cells.lookup x=some c->c≠X.env.locals:=λx c e z=>by obtain⟨v,o,ho,hd⟩:=I.cell x c e;obtain⟨m,⟨o',es,ep,ho',hd',_⟩,_⟩:=I.loc;rw[z,ho']at ho;cases ho;rw[hd']at hd;cases hd
def lO.funs (I:lO X Ao U H s):s.heap.FunFrames X.base X.outer:=by
 have all:∀(l:List Env),(∀b∈oz l,b∈X.fs)->X.s_0.heap.FunFrames X.base l->s.heap.FunFrames X.base l:=by
  intro l;induction l with
  | nil=>intro _ _;trivial
  | cons env r ih=>
   intro hs hl;obtain⟨hk,⟨L,o,hf,hn,ho,hd⟩,hr⟩:=hl;have hL:L∈X.fs:=hs L (by unfold oz;rw[List.filterMap_cons,hf];exact o7);obtain⟨sl,e⟩:=I.base.slot L o ho (I.ok.frf L hL) hL λz=>I.ok.exfs L z hL;exact⟨hk,⟨L,_,hf,hn,e,hd⟩,ih (λb hb=>hs b (by unfold oz;rw[List.filterMap_cons,hf];exact oV _ hb)) hr⟩
 exact all X.outer (λ_ hb=>hb) I.ok.funs
def lO.stack (I:lO X Ao U H s):s.heap.FunFrames X.base X.stack:=by
 rcases I.ok.stk with e | ⟨e,hf⟩
 .rw[e];exact I.funs
 .rw[e];obtain⟨m,hn,_⟩:=I.loc;refine .cons (by rw[I.ok.kind];decide) hf hn ?_ I.funs;exact Heap.get?_none_of_le (mO I.ok.bsz I.ok.above)
def lO.stkSub (I:lO X Ao U H s):∀b∈oz X.stack,b∈X.env.locals::X.fs:=λb hb=>by
 rcases I.ok.stk with e | ⟨e,hf⟩
 .rw[e]at hb;exact oV _ hb
 .rw[e]at hb;unfold oz at hb;rw[List.filterMap_cons,hf]at hb;exact hb
def lO.stkFree (I:lO X Ao U H s):∀b∈oz X.stack,H b=none:=λb hb=>by
 rcases m6.mp (I.stkSub b hb) with e | hb
 .rw[e];exact I.free
 .obtain⟨_,o,ho,_⟩:=I.ok.funs.mem hb;exact I.base.free b o ho (I.ok.frf b hb) λz=>I.ok.exfs b z hb
def lO.step {g':Array GenState}{t':Nat}{d':Drawn}{ch:List AD}(I:lO X Ao U H s)
  (hch:∀b∈ch,(b∈X.ex\/X.s_0.heap.objs.size<=b)/\b≠X.env.locals/\(∀x c,X.env.cells.lookup x=some c->c≠b)/\∀p∈X.pn++Ao,p.1≠b)
  (keep:∀b o,b≠X.env.locals->b∉X.fs->b∉ch->s.heap.get? b=some o->H b=none->h'.get? b=some o)
  (slot:∀b o,b≠X.env.locals->b∈X.fs->b∉ch->s.heap.get? b=some o->H b=none->∃sl,h'.get? b=some { o with slots:=sl }) (free:∀b o,b∉ch->s.heap.get? b=some o->H b=none->H' b=none)
  (there:∀b o,b∉ch->s.heap.get? b=some o->∃o',h'.get? b=some o')
  (tups:∀b xs,H b=some (.tup xs)->H' b=some (.tup xs)) (frzs:∀b o u,H b=some (.frz o u)->H' b=some (.frz o u)) (tbls:∀b ps,H b=some (.tbl ps)->∃more,H' b=some (.tbl (ps++more)))
  (ns:∀m,s.heap.Ns X.env.locals m->h'.Ns X.env.locals m) (hok:nZ X.prog X.w H' h') (hg:AllBare g'):
  lO X Ao U H' { s with heap:=h',gens:=g',drawn:=d',toks:=t' }:=by
 have neL:∀b o,X.s_0.heap.get? b=some o->b≠X.env.locals:=λb o e=>nM (ot (mL e) I.ok.above);have neC:∀b o,X.s_0.heap.get? b=some o->b∉X.ex->b∉ch:=λb o e hx hb=>by
  rcases (hch b hb).1 with z | z
  .exact hx z
  .exact IG (ot (mL e) z) (o4 _)
 have cellK:∀x c,X.env.cells.lookup x=some c->∀v,s.heap.IsCell c v->h'.IsCell c v:=λx c e v ⟨o,ho,hd⟩=>by
  have nch:c∉ch:=λz=>(hch c z).2.2.1 x c e rfl;by_cases hc:c∈X.fs
  .obtain⟨sl,q⟩:=slot c o (I.cne x c e) hc nch ho (I.freeC x c e);exact⟨_,q,hd⟩
  .exact⟨o,keep c o (I.cne x c e) hc nch ho (I.freeC x c e),hd⟩
 refine⟨I.ok,I.os,hg,⟨λb o e n hb hx=>?_,λb o e n hb hx=>?_,λb o e n hx=>?_,λb o e hx=>?_,λb xs e=>tups b xs (I.base.tups b xs e),λb o xs e=>frzs b o xs (I.base.frzs b o xs e),λb ps e=>?_⟩,?_,λx c e=>?_,?_,λx c e=>?_,λp hp=>?_,hok,I.len⟩
 .exact keep b o (neL b o e) hb (neC b o e hx) (I.base.keep b o e n hb hx) (I.base.free b o e n hx)
 .obtain⟨sl,e1⟩:=I.base.slot b o e n hb hx;obtain⟨sl',e2⟩:=slot b _ (neL b o e) hb (neC b o e hx) e1 (I.base.free b o e n hx);exact⟨sl',e2⟩
 .obtain⟨o',e1⟩:=I.base.there b o e hx;exact free b o' (neC b o e hx) e1 (I.base.free b o e n hx)
 .obtain⟨o',e1⟩:=I.base.there b o e hx;exact there b o' (neC b o e hx) e1
 .obtain⟨m1,e1⟩:=I.base.tbls b ps e;obtain⟨m2,e2⟩:=tbls b _ e1;exact⟨m1++m2,by rw[e2,Array.append_assoc]⟩
 .obtain⟨m,hn,hl⟩:=I.loc;refine⟨m,ns m hn,λi x v e1 e2 e3=>?_⟩;obtain⟨u,r,l⟩:=hl i x v e1 e2 e3;refine⟨u,r,?_⟩;rcases l with l | ⟨k,c,e,z⟩
  .exact .inl l
  .exact .inr ⟨k,c,e,cellK x c e _ z⟩
 .obtain⟨v,z⟩:=I.cell x c e;exact⟨v,cellK x c e v z⟩
 .obtain⟨m,⟨o,_,_,ho,_⟩,_⟩:=I.loc;exact free _ o (λz=>(hch _ z).2.1 rfl) ho I.free
 .obtain⟨v,o,ho,hd⟩:=I.cell x c e;exact free c o (λz=>(hch c z).2.2.1 x c e rfl) ho (I.freeC x c e)
 .obtain⟨e,n,ne,nf,d⟩:=I.pin p hp;have nch:p.1∉ch:=λz=>(hch p.1 z).2.2.2 p hp rfl;exact⟨keep p.1 p.2 ne nf nch e n,free p.1 p.2 nch e n,ne,nf,d⟩
def lO.un (I:lO X Ao U H s)(u:Un X.fs [] H H' s.heap h')(hok:nZ X.prog X.w H' h'):lO X Ao U H' { s with heap:=h',toks:=t' }:=by
 obtain⟨m,⟨o,es,ep,ho,r⟩,_⟩:=id I.loc;obtain⟨sl,hL⟩:=u.any ho I.free {};exact I.step (g':=s.gens) (d':=s.drawn) (ch:=[]) (λ_ z=>nomatch z) (λb o _ hb _ e n=>u.keep b o e n hb {}) (λb o _ hb _ e n=>u.slot b o e n hb {}) (λb o _ e n=>u.free b o e n {}) (λb o _ e=>u.there b o e {}) u.tups u.frzs u.tbls (λm' hm=>by obtain⟨o',es',ep',ho',r'⟩:=hm;rw[ho]at ho';cases ho';exact⟨_,es',ep',hL,r'⟩) hok I.bare
def lO.call (I:lO X Ao U H s)(u:Un (oz X.stack) ch H H' s.heap h')(hok:nZ X.prog X.w H' h')(hg:AllBare g')
  (hch:∀b∈ch,(b∈X.ex\/X.s_0.heap.objs.size<=b)/\b≠X.env.locals/\(∀x c,X.env.cells.lookup x=some c->c≠b)/\∀p∈X.pn++Ao,p.1≠b):
  lO X Ao U H' { s with heap:=h',gens:=g',drawn:=d',toks:=t' }:=by
 obtain⟨m,⟨o,es,ep,ho,r⟩,_⟩:=id I.loc;obtain⟨sl,hL⟩:=u.any ho I.free λz=>(hch _ z).2.1 rfl;exact I.step (ch:=ch) hch (λb o hL hb hc e n=>u.keep b o e n (λz=>(m6.mp (I.stkSub b z)).elim hL hb) hc) (λb o _ _ hc e n=>u.any e n hc) (λb o hc e n=>u.free b o e n hc) (λb o hc e=>u.there b o e hc) u.tups u.frzs u.tbls (λm' hm=>by obtain⟨o',es',ep',ho',r'⟩:=hm;rw[ho]at ho';cases ho';exact⟨_,es',ep',hL,r'⟩) hok hg
def lO.turned (I:lO X Ao U H s)(k:∀b o,b≠it->s.heap.get? b=some o->h'.get? b=some o)(hn:H it=none)(hL:it≠X.env.locals)
  (h1:it∈X.ex\/X.s_0.heap.objs.size<=it) (h2:∀x c,X.env.cells.lookup x=some c->c≠it) (h3:∀p∈X.pn++Ao,p.1≠it):lO X Ao U H { s with heap:=h',toks:=t' }:=by
 have nit:∀b u,H b=some u->b≠it:=λb u e z=>by rw[z,hn]at e;cases e
 refine I.step (g':=s.gens) (d':=s.drawn) (ch:=[it]) (λb hb=>?_) (λb o _ _ hc e _=>k b o (λz=>hc (by simp[z])) e) (λb o _ _ hc e _=>⟨o.slots,k b o (λz=>hc (by simp[z])) e⟩) (λ_ _ _ _ n=>n)
  (λb o hc e=>⟨o,k b o (λz=>hc (by simp[z])) e⟩) (λ_ _ e=>e) (λ_ _ _ e=>e) (λb ps e=>⟨#[],by rw[e];simp⟩) (λm hm=>?_) (λb u e=>?_) I.bare
 .have e:b=it:=by simpa using hb
  subst e;exact⟨h1,hL,h2,h3⟩
 .obtain⟨o,es,ep,ho,r⟩:=hm;exact⟨o,es,ep,k _ o (mH hL) ho,r⟩
 .refine(I.hok b u e).stay (λc v hc q=>k c v ?_ q) (λ_ q=>q) λ_ _ q=>q;rcases hc with z | z
  .rw[z];exact nit b u e
  .exact nit c _ z
def lO.tok (I:lO X Ao U H s)(t:Nat):lO X Ao U H { s with toks:=t }:=I.un (h':=s.heap) (t':=t) Un.refl I.hok
def lO.kept (I:lO X Ao U H s)(k:∀b u,s.heap.get? b=some u->h'.get? b=some u):lO X Ao U H { s with heap:=h',toks:=t' }:=I.un (Un.kept k) (I.hok.kept k)
def lO.laid (I:lO X Ao U H s)(k:∀b u,s.heap.get? b=some u->h'.get? b=some u)(hp:s.heap.objs.size<=a)(new:fJ X.prog X.w (upd H a o) h' a o):
  lO X Ao U (upd H a o) { s with heap:=h',toks:=t' }:=I.un (Un.laid k hp (I.hok.fresh hp)) (I.hok.laid k hp new)
def lO.write (I:lO X Ao U H s)(mu:xV (H x))(he:e=x\/H e=some (.own x))(k:∀b u,b≠e->s.heap.get? b=some u->h'.get? b=some u)(heo:∃u,h'.get? e=some u)
  (new:fJ X.prog X.w (upd H x o) h' x o):lO X Ao U (upd H x o) { s with heap:=h',toks:=t' }:=I.un (Un.write mu he k heo) (I.hok.write mu he k heo new)
def lO.pins_of (I:lO X Ao U H s)(h:∀p∈pins',s.heap.get? p.1=some p.2/\H p.1=none/\p.1≠X.env.locals/\p.1∉X.fs/\∀v,p.2.data≠.cell v):lO X pins' U H s:=
 ⟨I.ok,I.os,I.bare,I.base,I.loc,I.cell,I.free,I.freeC,λp hp=>(nJ.mp hp).elim (λz=>I.pin p (wv _ z)) (h p),I.hok,I.len⟩
def Cp {N:AJ}(hN:N.Nodup){i j:Nat}{x:Str}(a:N[i]?=some x)(b:N[j]?=some x):i=j:=by obtain⟨h1,e1⟩:=mX.mp a;obtain⟨h2,e2⟩:=mX.mp b;exact(List.getElem_inj hN).mp (e1.trans e2.symm)
def F8 (I:lO X Ao U H s)(hN:X.N.Nodup)(hi:X.N[i]?=some x)(hx:vY X.env.scope x)(r:ft v u)
  (h:∀s',lO X Ao (U.set i (some v)) H s'->(∃a,Heap.SameBut a s.heap s'.heap/\(a=X.env.locals\/X.env.cells.lookup x=some a))->Q () s') (hf:X.fn x=true\/X.env.scope.names.lookup x=some .local:=by first | exact .inl rfl | exact .inr rfl | assumption):wpAny M A (storeName X.env x u) Q E s:=by
 obtain⟨m,hn,hl⟩:=id I.loc;have hcls:(X.env.scope.kind == .class || (X.env.scope.kind == .module&&X.env.locals != X.env.globals))=false:=by rw[I.ok.kind];rfl
 have hiU:i<U.length:=by rw[I.len];exact(mX.mp hi).1
 have cne:=I.cne;have tracked:∀ {a:AD} {h':Heap},(∃o,s.heap.get? a=some o/\H a=none)->Heap.SameBut a s.heap h'->nZ X.prog X.w H h':=λ{a h'} ha hs b ob e=>by
  obtain⟨_,_,hfree⟩:=ha;refine(I.hok b ob e).stay (λc w' hc q=>(hs.2 c ?_).trans q) (λ_ q=>q) λ_ _ q=>q;rintro rfl;rcases hc with rfl | hc
  .rw[hfree]at e;cases e
  .rw[hfree]at hc;cases hc
 rcases hx with hk | hk
 .refine wpAny_storeName_local hk hn (λh' hn' hs=>?_) hcls;obtain⟨oL,_,_,hoL,_⟩:=id hn;refine h _ ⟨I.ok,I.os,I.bare,⟨λb o e n hb hx=>?_,λb o e n hb hx=>?_,I.base.free,λb o e hx=>?_,I.base.tups,I.base.frzs,I.base.tbls⟩,⟨_,hn',λj y v' e1 e2 e3=>?_⟩,λy c e=>?_,I.free,I.freeC,λp hp=>?_,tracked ⟨oL,hoL,I.free⟩ hs,~~~I.len⟩ ⟨_,hs,.inl rfl⟩
  .exact(hs.2 b (nM (ot (mL e) I.ok.above))).trans (I.base.keep b o e n hb hx)
  .obtain⟨sl,e1⟩:=I.base.slot b o e n hb hx;exact⟨sl,(hs.2 b (nM (ot (mL e) I.ok.above))).trans e1⟩
  .obtain⟨o',e1⟩:=I.base.there b o e hx;exact⟨o',(hs.2 b (nM (ot (mL e) I.ok.above))).trans e1⟩
  .by_cases hj:j=i
   .subst hj;rw[hi]at e1;cases e1;rw[List.getElem?_set_self hiU]at e2;cases e2;exact⟨u,r,.inl ⟨hk,{}⟩⟩
   .rw[List.getElem?_set_ne (mH hj)]at e2;obtain⟨u',r',q⟩:=hl j y v' e1 e2 e3;refine⟨u',r',?_⟩;rcases q with⟨k,e⟩|⟨k,c,e,z⟩
    .refine .inl ⟨k,?_⟩;have:y≠x:=λe=>hj (Cp hN e1 (e▸hi));simp[this,e]
    .exact .inr ⟨k,c,e,z.sameBut hs (cne y c e)⟩
  .obtain⟨w',z⟩:=I.cell y c e;exact⟨w',z.sameBut hs (cne y c e)⟩
  .obtain⟨e,n,ne,nf,d⟩:=I.pin p hp;exact⟨(hs.2 p.1 ne).trans e,n,ne,nf,d⟩
 .have hfn:X.fn x=true:=by
   rcases hf with z | z
   .exact z
   .rw[z]at hk;cases hk
  obtain⟨c,hc⟩:=I.ok.has x (.inl hk);obtain⟨w',z⟩:=I.cell x c hc;refine wpAny_storeName_cell I.ok.kind hk hc z (λh' hc' hs=>?_);obtain⟨oc,hoc,hocd⟩:=id z;refine h { s with heap:=h' } ⟨I.ok,I.os,I.bare,⟨λb o e n hb hx=>?_,λb o e n hb hx=>?_,I.base.free,λb o e hx=>?_,I.base.tups,I.base.frzs,I.base.tbls⟩,⟨m,hn.sameBut hs (mH (cne x c hc)),λj y v' e1 e2 e3=>?_⟩,λy c' e=>?_,I.free,I.freeC,λp hp=>?_,tracked ⟨oc,hoc,I.freeC x c hc⟩ hs,~~~I.len⟩ ⟨c,hs,.inr hc⟩
  .exact(hs.2 b (nM (ot (mL e) (I.ok.cab x c hfn hc)))).trans (I.base.keep b o e n hb hx)
  .obtain⟨sl,e1⟩:=I.base.slot b o e n hb hx;exact⟨sl,(hs.2 b (nM (ot (mL e) (I.ok.cab x c hfn hc)))).trans e1⟩
  .obtain⟨o',e1⟩:=I.base.there b o e hx;exact⟨o',(hs.2 b (nM (ot (mL e) (I.ok.cab x c hfn hc)))).trans e1⟩
  .by_cases hj:j=i
   .subst hj;rw[hi]at e1;cases e1;rw[List.getElem?_set_self hiU]at e2;cases e2;exact⟨u,r,.inr ⟨.inl hk,c,hc,hc'⟩⟩
   .rw[List.getElem?_set_ne (mH hj)]at e2;obtain⟨u',r',q⟩:=hl j y v' e1 e2 e3;refine⟨u',r',?_⟩;rcases q with q | ⟨k,c',e,z'⟩
    .exact .inl q
    .refine .inr ⟨k,c',e,z'.sameBut hs ?_⟩;rintro rfl;exact hj (Cp hN e1 (I.ok.inj _ _ _ e hc▸hi))
  .by_cases hcc:c'=c
   .subst hcc;exact⟨_,hc'⟩
   .obtain⟨w2,z2⟩:=I.cell y c' e;exact⟨w2,z2.sameBut hs hcc⟩
  .obtain⟨e,n,ne,nf,d⟩:=I.pin p hp;refine⟨(hs.2 p.1 ?_).trans e,n,ne,nf,d⟩;intro q;rw[q,hoc]at e;have q':oc=p.2:=Option.some.inj e;exact d w' (by rw[<-q'];exact hocd)
def yh (I:lO X Ao U H s)(hN:X.N.Nodup)(hi:X.N[i]?=some x)(hx:vY X.env.scope x)(r:ft v u)
  (h:∀s',lO X Ao (U.set i (some v)) H s'->Q () s') (hf:X.fn x=true\/X.env.scope.names.lookup x=some .local:=by first | exact .inl rfl | exact .inr rfl | assumption):wpAny M A (storeName X.env x u) Q E s:=
 F8 I hN hi hx r (λs' I' _=>h s' I') hf
def lO.call' (I:lO X Ao U H s)(ho:s'.os=s.os)(u:Un (oz X.stack) ch H H' s.heap s'.heap)(hok:nZ X.prog X.w H' s'.heap)(hg:AllBare s'.gens)
  (hch:∀b∈ch,(b∈X.ex\/X.s_0.heap.objs.size<=b)/\b≠X.env.locals/\(∀x c,X.env.cells.lookup x=some c->c≠b)/\∀p∈X.pn++Ao,p.1≠b):lO X Ao U H' s':=by
 obtain⟨h',g',d',t',o'⟩:=s';have e:o'=s.os:=ho;subst e;exact I.call (g':=g') (t':=t') (d':=d') u hok hg hch
end
abbrev XK:=Value->Option AD->Hp->Prop
abbrev St:=List (Option V)
abbrev VK:=V->Hp->Prop
abbrev TE:=St->Hp->VK->Prop
abbrev TT:=St->Hp->(Bool->Hp->Prop)->Prop
abbrev TA:=St->Hp->(IJ->Hp->Prop)->Prop
structure gz where
 nx:St->Hp->Prop
 rt:VK
 bk:St->Hp->Prop:=λ_ _=>False
 ct:St->Hp->Prop:=λ_ _=>False
abbrev TS:=gz->St->Hp->Prop
def EP (X:Cx)(Ao:AA)(U:St)(Q:VK)(u:Value)(s':AE):Prop:=∃v H',lO X Ao U H' s'/\ft v u/\Q v H'
def TP (X:Cx)(Ao:AA)(U:St)(Q:Bool->Hp->Prop)(b:Bool)(s':AE):Prop:=∃H',lO X Ao U H' s'/\Q b H'
def AP (X:Cx)(Ao:AA)(U:St)(Q:IJ->Hp->Prop)(us:AC)(s':AE):Prop:=∃vs H',lO X Ao U H' s'/\fi vs us/\Q vs H'
def SP (X:Cx)(Ao:AA)(D:gz)(f:Flow)(s':AE):Prop:=
 match f with
 | .next=>∃U' H',lO X Ao U' H' s'/\D.nx U' H'
 | .brk=>∃U' H',lO X Ao U' H' s'/\D.bk U' H'
 | .cont=>∃U' H',lO X Ao U' H' s'/\D.ct U' H'
 | .ret u=>∃v U' H',lO X Ao U' H' s'/\ft v u/\D.rt v H'
def PE (X:Cx)(e:Expr)(t:TE):Prop:=
 ∀(Ao:AA) (s:AE) (U:St) (H:Hp) (Q:VK),lO X Ao U H s->t U H Q->wpAny (model X.prog X.w) X.A (eval e X.env) (EP X Ao U Q) X.xe s
def PT (X:Cx)(e:Expr)(t:TT):Prop:=
 ∀(Ao:AA) (s:AE) (U:St) (H:Hp) (Q:Bool->Hp->Prop),lO X Ao U H s->t U H Q->wpAny (model X.prog X.w) X.A (isTrue e X.env (eval e X.env)) (TP X Ao U Q) X.xe s
def PW (X:Cx)(e:Expr)(t:TT):Prop:=
 ∀(whole:Sem Value) (Ao:AA) (s:AE) (U:St) (H:Hp) (Q:Bool->Hp->Prop),lO X Ao U H s->t U H Q->wpAny (model X.prog X.w) X.A (isTrue e X.env whole) (TP X Ao U Q) X.xe s
def PW.pt (h:PW X e t):PT X e t:=h _
def PA (X:Cx)(es:List Expr)(t:TA):Prop:=
 ∀(pos:Pos) (Ao:AA) (s:AE) (U:St) (H:Hp) (Q:IJ->Hp->Prop),lO X Ao U H s->t U H Q->wpAny (model X.prog X.w) X.A (spliced (backTo pos (starEach es X.env))) (AP X Ao U Q) X.xe s
def PS (X:Cx)(st:Stmt)(t:TS):Prop:=
 ∀(Ao:AA) (s:AE) (U:St) (H:Hp) (D:gz),lO X Ao U H s->t D U H->wpAny (model X.prog X.w) X.A (exec st X.env) (SP X Ao D) X.xe s
def ql (X:Cx)(st:List Stmt)(t:TS):Prop:=
 ∀(Ao:AA) (s:AE) (U:St) (H:Hp) (D:gz),lO X Ao U H s->t D U H->wpAny (model X.prog X.w) X.A (execs st X.env) (SP X Ao D) X.xe s
def mB (h:wpAny M A t Q E s)(hQ:∀a s,Q a s->Q' a s):wpAny M A t Q' E s:=pG h hQ λ_ _ x=>x
section
variable {X:Cx}
abbrev xE (x:V)(p:Bool->Prop):Prop:=match x with | .bl c=>p c | _=>False
def yf (h:xE x p):∃c,x=.bl c/\p c:=by cases x<;>first | exact⟨_,rfl,h⟩ | exact False.elim h
def De (o:Option (Option V))(p:V->Prop):Prop:=match o with | some (some v)=>p v | _=>False
def Zpj (h:De o p):∃v,o=some (some v)/\p v:=by
 match o,h with | some (some v),h=>exact⟨v,rfl,h⟩
def jj (i:Nat):TE:=λU H Q=>De U[i]? λv=>Q v H
def tC (v:V):TE:=λ_ H Q=>Q v H
def ZoF (hN:X.N[i]?=some x) (hv:wz X.env.scope x) (hd:(x == ("__debug__":Str))=false:=by decide) (hcd:(x == ("__classdict__":Str))=false:=by decide):PE X (.Name x pos) (jj i):=by
 intro Ao s U H Q I h;obtain⟨v,e,h⟩:=Zpj h;obtain⟨m,hn,hl⟩:=I.loc;obtain⟨u,r,l⟩:=hl i x v hN e hv;have fin:EP X Ao U Q u s:=⟨v,H,I,r,h⟩;rcases l with⟨hk,hm⟩|⟨hk,c,hc,hcell⟩
 .exact wpAny_Name (wpAny_loadName_local I.ok.kind hk hn hm fin) hd
 .rcases hk with hk | hk
  .exact wpAny_Name (wpAny_loadName_cell I.ok.kind hk hc hcell fin) hd
  .exact wpAny_Name (wpAny_loadName_free I.ok.kind hk hc hcell fin hcd) hd
def me {i j pos}:PE X (.Constant (.int i) j pos) (tC (.int i)):=λ_ _ _ H _ I h=>wpAny_Constant_int ⟨.int i,H,I.tok _,⟨_,rfl⟩,h⟩
def qT {b j pos}:PE X (.Constant (.bool b) j pos) (tC (.bl b)):=λ_ _ _ H _ I h=>Constant_bool ⟨.bl b,H,I,rfl,h⟩
def wb {j pos}:PE X (.Constant .none j pos) (tC .non):=λ_ _ _ H _ I h=>Constant_none ⟨.non,H,I,rfl,h⟩
def ZoG {x j pos}:PE X (.Constant (.str x) j pos) (tC (.str x)):=λ_ _ _ H _ I h=>Calls.Constant_str ⟨.str x,H,I.tok _,⟨_,rfl⟩,h⟩
def Gl (X:Cx)(x:Str):Prop:=X.env.kindOf x=some .globalImplicit
def u6 (I:lO X Ao U H s)(hg:Gl X x)(hm:X.mg x=some u)(h:Q u s)
  (hd:(x == ("__debug__":Str))=false:=by decide):wpAny (model X.prog X.w) X.A (eval (.Name x pos) X.env) Q E s:=
 Calls.Name_function_global I.ok.kind hg (Calls.loadGlobal_global (by rw[I.ok.glob];exact I.mod.glob.keeps I.bk) hm h) hd
def vV (I:lO X Ao U H s)(hg:Gl X x)(hm:X.mg x=none)(hv:bootBuiltins x=some u)(h:Q u s)
  (hn:x≠"__name__":=by decide) (hd:(x == ("__debug__":Str))=false:=by decide):wpAny (model X.prog X.w) X.A (eval (.Name x pos) X.env) Q E s:=by
 obtain⟨mb,h1,h2⟩:=I.mod.blt;exact Calls.Name_function_global I.ok.kind hg (Calls.loadGlobal_builtin (by rw[I.ok.glob];exact I.mod.glob.keeps I.bk) hm (by rw[I.ok.blt];exact h1.keeps I.bk) ((h2 x hn).trans hv) h) hd
def wk (hg:Gl X x) (hm:X.mg x=some u) (r:ft v u) (hd:(x == ("__debug__":Str))=false:=by decide):PE X (.Name x pos) (tC v):=
 λ_ _ _ H _ I h=>u6 I hg hm ⟨v,H,I,r,h⟩ hd
def Bs (hg:Gl X x) (hm:X.mg x=none) (hv:bootBuiltins x=some u) (r:ft v u) (hn:x≠"__name__":=by decide) (hd:(x == ("__debug__":Str))=false:=by decide):PE X (.Name x pos) (tC v):=
 λ_ _ _ H _ I h=>vV I hg hm hv ⟨v,H,I,r,h⟩ hn hd
variable {a b:Expr}{ta tb:TE}{pos:Pos}
def PC (X:Cx)(op:CmpOp)(a b:Expr)(t:TE):Prop:=
 ∀(Ao:AA) (s:AE) (U:St) (H:Hp) (Q:VK),lO X Ao U H s->t U H Q ->
  wpAny (model X.prog X.w) X.A (eval a X.env) (λv s_1=>wpAny (model X.prog X.w) X.A (eval b X.env) (λu s_2=>wpAny (model X.prog X.w) X.A (compareOp op v u) (EP X Ao U Q) X.xe s_2) X.xe s_1) X.xe s
def Zld (b:Expr){op:CmpOp}(h:op≠.In)(h2:op≠.NotIn):behindInMarks op b=false:=by
 have e1:(op == CmpOp.In)=false:=by cases op<;>first | rfl | exact IG rfl h
 have e2:(op == CmpOp.NotIn)=false:=by cases op<;>first | rfl | exact IG rfl h2
 cases b<;>simp[behindInMarks,e1,e2]
def tB (t:TE):TT:=λU H Q=>t U H λx H1=>xE x λc=>Q c H1
def yH (h:PC X op a b t)(h1:behindInMarks op b=false:=by first | exact Zld _ ⋯ ⋯ | rfl):PT X (.Compare a [op] [b] pos) (tB t):=by intro Ao s U H Q I hw;refine wpAny_isTrue_Compare1 (mB (h Ao s U H _ I hw) λv s1 h1=>mB h1 λu s2 h2=>mB h2 λc s3 zz=>?_) h1;obtain⟨x,H1,I1,r1,q1⟩:=zz;obtain⟨d,rfl,q⟩:=yf q1;cases r1;exact uz ⟨H1,I1,q⟩
def o8 (h:PE X e t)(he:∀whole,isTrue e X.env whole=(do let v <-whole;standAt e.pos;holding [v] (truthy v)):=by intro _;rfl):PT X e (tB t):=by intro Ao s U H Q I hw;refine isTrue_plain (mB (h Ao s U H _ I hw) λv s1 zz=>?_) (he _);obtain⟨x,H1,I1,r1,q1⟩:=zz;obtain⟨d,rfl,q⟩:=yf q1;cases r1;exact uz ⟨H1,I1,q⟩
variable {tA tB':TT}{f8:List Expr}
def tAnd (t u:TT):TT:=λU H Q=>t U H λc H1=>if c=true then u U H1 Q else Q false H1
def FE (t u:TT):TT:=λU H Q=>t U H λc H1=>if c=true then Q true H1 else u U H1 Q
def tNot (t:TT):TT:=λU H Q=>t U H λc H1=>Q (!c) H1
def uM (ha:PT X a tA):PW X (.BoolOp .And [a] pos) tA:=by
 intro wh Ao s U H Q I h;refine isTrue_and (mB (ha Ao s U H Q I h) λc s1 e=>?_);cases c with
 | true=>exact isTrue_and_nil e
 | false=>exact e
def uP (ha:PT X a tA):PW X (.BoolOp .Or [a] pos) tA:=by
 intro wh Ao s U H Q I h;refine isTrue_or (mB (ha Ao s U H Q I h) λc s1 e=>?_);cases c with
 | false=>exact isTrue_or_nil e
 | true=>exact e
def uw (ha:PT X a tA)(hb:PW X (.BoolOp .And (b::f8) pos) tB'):PW X (.BoolOp .And (a::b::f8) pos) (tAnd tA tB'):=by
 intro wh Ao s U H Q I h;refine isTrue_and (mB (ha Ao s U H _ I h) λc s1 zz=>?_);obtain⟨H1,I1,q1⟩:=zz;cases c with
 | true=>exact hb wh Ao s1 U H1 Q I1 q1
 | false=>exact⟨H1,I1,q1⟩
def rm (ha:PT X a tA)(hb:PW X (.BoolOp .Or (b::f8) pos) tB'):PW X (.BoolOp .Or (a::b::f8) pos) (FE tA tB'):=by
 intro wh Ao s U H Q I h;refine isTrue_or (mB (ha Ao s U H _ I h) λc s1 zz=>?_);obtain⟨H1,I1,q1⟩:=zz;cases c with
 | true=>exact⟨H1,I1,q1⟩
 | false=>exact hb wh Ao s1 U H1 Q I1 q1
def rF (ha:PT X a tA):PT X (.UnaryOp .Not a pos) (tNot tA):=by intro Ao s U H Q I h;exact isTrue_not (ha Ao s U H (λc H1=>Q (!c) H1) I h)
def GX (ta tb:TE):TE:=λU H Q=>ta U H λx H1=>xE x λc=>if c=true then tb U H1 Q else Q (.bl false) H1
def FO (ta:TE):TE:=λU H Q=>ta U H λx H1=>xE x λc=>Q (.bl (!c)) H1
def vQ {op}{t:TE}(h:PE X a t):PE X (.BoolOp op [a] pos) t:=λAo s U H Q I hw=>BoolOp_one (h Ao s U H Q I hw)
def sV (ha:PE X a ta)(hb:PE X (.BoolOp .And (b::f8) pos) tb):PE X (.BoolOp .And (a::b::f8) pos) (GX ta tb):=by
 intro Ao s U H Q I h;refine BoolOp_and (mB (ha Ao s U H _ I h) λv s1 zz=>?_);obtain⟨x,H1,I1,r1,q1⟩:=zz;obtain⟨c,rfl,q1⟩:=yf q1;cases r1;refine uz ?_;cases c with
 | true=>exact hb Ao s1 U H1 Q I1 q1
 | false=>exact⟨.bl false,H1,I1,rfl,q1⟩
def ZoH (ha:PE X a ta):PE X (.UnaryOp .Not a pos) (FO ta):=by intro Ao s U H Q I h;refine UnaryOp_ (mB (ha Ao s U H _ I h) λv s1 zz=>?_);obtain⟨x,H1,I1,r1,q1⟩:=zz;obtain⟨c,rfl,q1⟩:=yf q1;cases r1;exact not_of (uz ⟨.bl (!c),H1,I1,rfl,q1⟩)
end
def m8 (K:ma)(H:Hp)(a:AD)(xs:IJ):Prop:=
 Rd H a (.lst xs) \/
  ∃(o:Obj) (its:Array Value) (n:Nat),K.lookup a=some o/\o.cls=.type "list"/\o.dict=none/\o.data=.seq its n/\its.size<=sizeLine/\fi xs its.toList
def oA (K:ma)(H:Hp)(a:AD)(xs:IJ):Prop:=
 Rd H a (.tup xs) \/
  ∃(o:Obj) (its:Array Value) (n:Nat),K.lookup a=some o/\o.cls=.type "tuple"/\o.data=.seq its n/\its.size<=sizeLine/\fi xs its.toList
noncomputable def absV:Value->Option V
 | .none=>some .non
 | .bool b=>some (.bl b)
 | .int i _=>some (.int i)
 | .str x _=>some (.str x)
 | .bytes b _=>some (.byt b)
 | .float b _=>some (.flt b)
 | .ref a=>some (.ref a)
 | .type n=>some (.ty n)
 | _=>none
def ft.abs (r:ft x u):absV u=some x:=by
 cases x with
 | non=>cases r;rfl
 | bl _=>cases r;rfl
 | int _=>obtain⟨t,rfl⟩:=r;rfl
 | str _=>obtain⟨t,rfl⟩:=r;rfl
 | byt _=>obtain⟨t,rfl⟩:=r;rfl
 | flt _=>obtain⟨t,rfl⟩:=r;rfl
 | ref _=>cases r;rfl
 | ty _=>cases r;rfl
def ft.inj (r:ft x u)(q:ft y u):x=y:=Option.some.inj (r.abs.symm.trans q.abs)
theorem fi.inj:∀ {xs ys:IJ} {us:AC},fi xs us->fi ys us->xs=ys
 | _,_,_,.nil,.nil=>rfl
 | _,_,_,.cons r t,.cons r' t'=>by rw[r.inj r',fi.inj t t']
section
def lO.list (I:lO X Ao U H s)(h:m8 X.K H a xs):∃its:AC,fi xs its/\PlainL s.heap a its.toArray/\xs.length<=sizeLine:=by
 rcases h with h | ⟨o,its,n,hk,hc,hd,hs,hz,r⟩
 .obtain⟨z,its,n,r,e⟩:=h.ok I.hok;exact⟨its,r,⟨_,n,e,rfl,rfl,rfl⟩,z⟩
 .refine⟨its.toList,r,⟨o,n,I.kIn a o hk,hc,hd,~~~hs⟩,?_⟩;have e:=r.length;simp only[oB]at e
  lia
def lO.tuple (I:lO X Ao U H s)(h:oA X.K H a xs):∃its:AC,fi xs its/\IsTup s.heap a its.toArray/\xs.length<=sizeLine:=by
 rcases h with h | ⟨o,its,n,hk,hc,hs,hz,r⟩
 .obtain⟨z,its,r,p⟩:=h.ok I.hok;exact⟨its,r,p,z⟩
 .refine⟨its.toList,r,⟨o,I.kIn a o hk,hc,n,~~~hs⟩,?_⟩;have e:=r.length;simp only[oB]at e
  lia
def lO.list_inj (I:lO X Ao U H s)(h:m8 X.K H a xs)(h':m8 X.K H a ys):xs=ys:=by
 obtain⟨its,r,⟨o,n,e,_,_,d⟩,_⟩:=I.list h;obtain⟨its',r',⟨o',n',e',_,_,d'⟩,_⟩:=I.list h';rw[e]at e';cases e';rw[d]at d';injection d' with d1 _;have:its=its':=by simpa using IF Array.toList d1
 subst this;exact r.inj r'
def lO.tuple_inj (I:lO X Ao U H s)(h:oA X.K H a xs)(h':oA X.K H a ys):xs=ys:=by
 obtain⟨its,r,⟨o,e,_,n,d⟩,_⟩:=I.tuple h;obtain⟨its',r',⟨o',e',_,n',d'⟩,_⟩:=I.tuple h';rw[e]at e';cases e';rw[d]at d';injection d' with d1 _;have:its=its':=by simpa using IF Array.toList d1
 subst this;exact r.inj r'
end
noncomputable abbrev Cx.wish (X:Cx)(E:mY):Cx:={ X with xe:=E }
abbrev Cx.nox (X:Cx):Cx:=X.wish λ_ _=>False
def Cx.Ok.wish {X:Cx}(ok:X.Ok)(E:mY):(X.wish E).Ok:=
 ⟨ok.mod,ok.kind,ok.glob,ok.blt,ok.above,ok.inj,ok.has,ok.cab,ok.hd,ok.frames,ok.stk,ok.exf,ok.bs,ok.bsz,ok.noex,ok.exfs,ok.funs,ok.frf⟩
def Cx.Ok.unwish {X:Cx}{E:mY}(ok:(X.wish E).Ok):X.Ok:=
 ⟨ok.mod,ok.kind,ok.glob,ok.blt,ok.above,ok.inj,ok.has,ok.cab,ok.hd,ok.frames,ok.stk,ok.exf,ok.bs,ok.bsz,ok.noex,ok.exfs,ok.funs,ok.frf⟩
section
def lO.wish (I:lO X Ao U H s)(E:mY):lO (X.wish E) Ao U H s:=⟨I.ok.wish E,I.os,I.bare,I.base,I.loc,I.cell,I.free,I.freeC,I.pin,I.hok,I.len⟩
def lO.unwish (I:lO (X.wish E) Ao U H s):lO X Ao U H s:=⟨I.ok.unwish,I.os,I.bare,I.base,I.loc,I.cell,I.free,I.freeC,I.pin,I.hok,I.len⟩
def SP.unwish (h:SP (X.wish E) Ao D f s'):SP X Ao D f s':=by
 cases f with
 | next=>obtain⟨U',H',I,q⟩:=h;exact⟨U',H',I.unwish,q⟩
 | brk=>obtain⟨U',H',I,q⟩:=h;exact⟨U',H',I.unwish,q⟩
 | cont=>obtain⟨U',H',I,q⟩:=h;exact⟨U',H',I.unwish,q⟩
 | ret u=>obtain⟨v,U',H',I,r,q⟩:=h;exact⟨v,U',H',I.unwish,r,q⟩
def ql.nox {st:List Stmt}{t:TS}(h:ql X.nox st t):ql X st t:=λAo s U H D I hw=>
 pG (h Ao s U H D (I.wish _) hw) (λ_ _ q=>q.unwish) λ_ _ z=>False.elim z
end
section
variable {X:Cx}{st:Stmt}{f8:List Stmt}{t u:TS}{e:Expr}{te:TE}{pos:Pos}
def jo:TS:=λD U H=>D.nx U H
def iW (t u:TS):TS:=λD U H=>t { D with nx:=u D } U H
def nD:ql X [] jo:=λ_ _ U H _ I h=>wN ⟨U,H,I,h⟩
def lW (h1:PS X st t)(h2:ql X f8 u):ql X (st::f8) (iW t u):=by
 intro Ao s U H D I h;refine wpAny_execs_cons (mB (h1 Ao s U H { D with nx:=u D } I h) λf s1 q=>?_);cases f with
 | next=>
  obtain⟨U',H',I',q⟩:=q;exact h2 Ao s1 U' H' D I' q
 | ret v=>exact q
 | brk=>exact q
 | cont=>exact q
def lY (h1:PS X st t):ql X [st] t:=by
 intro Ao s U H D I h;refine wpAny_execs_cons (mB (h1 Ao s U H D I h) λf s1 q=>?_);cases f with
 | next=>exact wN q
 | ret v=>exact q
 | brk=>exact q
 | cont=>exact q
def lO.quiet (I:lO X Ao U H s):interactive X.env=false:=by simp[interactive,I.ok.kind]
def HN (te:TE):TS:=λD U H=>te U H λ_ H1=>D.nx U H1
def oG (he:PE X e te)(hs:swapsWith e none pos.line X.env=pure false:=by rfl):PS X (.Expr e pos) (HN te):=by intro Ao s U H D I h;exact wpAny_Expr_any (mB (he Ao s U H _ I h) λv s1 ⟨x,H1,I1,r1,q1⟩=>⟨U,H1,I1,q1⟩) I.quiet hs
def tRet (te:TE):TS:=λD U H=>te U H D.rt
def mN (he:PE X e te):PS X (.Return (some e) pos) (tRet te):=by intro Ao s U H D I h;exact wpAny_Return_some (mB (he Ao s U H _ I h) λv s1 ⟨x,H1,I1,r1,q1⟩=>⟨x,U,H1,I1,r1,q1⟩)
def i5 (c:TT)(t u:TS):TS:=λD U H=>c U H λb H1=>if b=true then t D U H1 else u D U H1
def nA (hc:PT X c tc)(ha:ql X a t)(hb:ql X b u):PS X (.If c a b pos) (i5 tc t u):=by
 intro Ao s U H D I h;refine wpAny_If (mB (hc Ao s U H _ I h) λd s1 zz=>?_);obtain⟨H1,I1,q1⟩:=zz;cases d with
 | true=>exact ha Ao s1 U H1 D I1 q1
 | false=>exact hb Ao s1 U H1 D I1 q1
end
abbrev TG:=V->St->Hp->(St->Hp->Prop)->Prop
abbrev yV:=IJ->St->Hp->(St->Hp->Prop)->Prop
def PG (X:Cx)(target:Expr)(t:TG):Prop:=
 ∀(Ao:AA) (s:AE) (U:St) (H:Hp) (v:V) (u:Value) (Q:St->Hp->Prop),lO X Ao U H s->ft v u->t v U H Q ->
  wpAny (model X.prog X.w) X.A (assign target X.env u) (λ_ s'=>∃U' H',lO X Ao U' H' s'/\Q U' H') X.xe s
def Bk (X:Cx)(ts:List Expr)(t:yV):Prop:=
 ∀(Ao:AA) (s:AE) (U:St) (H:Hp) (vs:IJ) (us:AC) (Q:St->Hp->Prop),lO X Ao U H s->fi vs us->t vs U H Q ->
  wpAny (model X.prog X.w) X.A (assignInOrder ((assignEach ts X.env).map (·.2)) us) (λ_ s'=>∃U' H',lO X Ao U' H' s'/\Q U' H') X.xe s
abbrev CL:=V->V->Hp->VK->Prop
def Gn (X:Cx)(op:Operator)(t:CL):Prop:=
 ∀(Ao:AA) (s:AE) (U:St) (H:Hp) (x y:V) (v u:Value) (Q:VK),lO X Ao U H s->ft x v->ft y u->t x y H Q ->
  wpAny (model X.prog X.w) X.A (inplaceOp op v u) (EP X Ao U Q) X.xe s
section
def qp (i:Nat):TG:=λv U H Q=>Q (U.set i (some v)) H
def m7 (hN:X.N.Nodup)(hi:X.N[i]?=some x)(hx:vY X.env.scope x)(hf:X.fn x=true\/X.env.scope.names.lookup x=some .local:=by first | exact .inl rfl | exact .inr rfl | assumption):PG X (.Name x pos) (qp i):=by intro Ao s U H v u Q I r h;exact wpAny_assign_Name (yh I hN hi hx r (λs' I'=>⟨_,H,I',h⟩) hf)
def gNil:yV:=λvs U H Q=>vs=[]/\Q U H
def EB (t:TG)(u:yV):yV:=λvs U H Q=>∃v r,vs=v::r/\t v U H λU' H'=>u r U' H' Q
def Zm6:Bk X [] gNil:=by intro Ao s U H vs us Q I r h;obtain⟨e,h⟩:=h;subst e;cases r;exact assignInOrder_nil ⟨U,H,I,h⟩
def Fy (h1:PG X e t)(h2:Bk X es u)
  (hs:(assignEach (e::es) X.env).map (·.2)=assign e X.env::(assignEach es X.env).map (·.2):=by rfl):Bk X (e::es) (EB t u):=by
 intro Ao s U H vs us Q I r h;obtain⟨v,vr,e1,h⟩:=h;subst e1;cases r with
 | cons r rr=>
  rw[hs];refine assignInOrder_cons (mB (h1 Ao s U H _ _ _ I r h) λ_ s1 zz=>?_);obtain⟨U1,H1,I1,q1⟩:=zz;exact h2 Ao s1 U1 H1 _ _ Q I1 rr q1
def gTup (K:ma)(n:Nat)(t:yV):TG:=λv U H Q=>∃a xs,v=.ref a/\oA K H a xs/\xs.length=n/\t xs U H Q
def ZoE (hc:X.calm=true)(h:Bk X es t)
  (hn:(assignEach es X.env).length=n:=by rfl) (hst:(assignEach es X.env).findIdx? (·.1)=none:=by rfl):PG X (.Tuple es k pos) (gTup X.K n t):=by
 intro Ao s U H v u Q I r hw;obtain⟨a,xs,e1,hq,hl,hw⟩:=hw;subst e1;cases r;obtain⟨its,rv,ht,hz⟩:=I.tuple hq;refine assign_Tuple_tuple (I.ok.hd hc) ht (by simp[hn,<-hl,rv.length]) hst λh' hx=>?_;have I1:lO X Ao U H { s with heap:=h' }:=I.kept (t':=s.toks) λb o e=>hx b o (nM (mL e)) e;exact h Ao _ U H xs _ Q I1 (~~~rv) hw
def jh (te:TE)(g:TG):TS:=λD U H=>te U H λx H1=>g x U H1 D.nx
def yA (hN:X.N.Nodup)(hi:X.N[i]?=some x)(hx:vY X.env.scope x)(he:PE X e te)(hs:swapsWith e (some (.Name x pos')) pos.line X.env=pure false:=by rfl)(hf:X.fn x=true\/X.env.scope.names.lookup x=some .local:=by first | exact .inl rfl | exact .inr rfl | assumption):
  PS X (.Assign [.Name x pos'] e pos) (jh te (qp i)):=by
 intro Ao s U H D I h;refine wpAny_Assign_Name (mB (he Ao s U H _ I h) λv s1 zz=>?_) hs;obtain⟨y,H1,I1,r1,q1⟩:=zz;exact yh I1 hN hi hx r1 (λs2 I2=>⟨_,H1,I2,q1⟩) hf
def tAug (i:Nat)(te:TE)(ti:CL):TS:=λD U H=>∃x,U[i]?=some (some x)/\te U H λy H1=>ti x y H1 λz H2=>D.nx (U.set i (some z)) H2
def HS (hN:X.N.Nodup)(hi:X.N[i]?=some x)(hx:vY X.env.scope x)(he:PE X e te)(ho:Gn X op ti)(hf:X.fn x=true\/X.env.scope.names.lookup x=some .local:=by first | exact .inl rfl | exact .inr rfl | assumption):
  PS X (.AugAssign (.Name x pos') op e pos) (tAug i te ti):=by
 intro Ao s U H D I h;obtain⟨v,e1,h⟩:=h;obtain⟨m,hn,hl⟩:=I.loc;have vis:wz X.env.scope x:=by rcases hx with k | k;exact .inl k;exact .inr (.inl k)
 obtain⟨u,r,l⟩:=hl i x v hi e1 vis;refine wpAny_AugAssign_Name ?_;have go:wpAny (model X.prog X.w) X.A (eval e X.env) (λw s_2=>wpAny (model X.prog X.w) X.A (inplaceOp op u w) (λr s₃=>wpAny (model X.prog X.w) X.A (storeName X.env x r) (λ_=>SP X Ao D .next) X.xe s₃) X.xe s_2) X.xe s:=by refine mB (he Ao s U H _ I h) λw s1 zz=>?_;obtain⟨y,H1,I1,r1,q1⟩:=zz;refine mB (ho Ao s1 U H1 v y u w _ I1 r r1 q1) λz s2 zz=>?_;obtain⟨zv,H2,I2,r2,q2⟩:=zz;exact yh I2 hN hi hx r2 (λs3 I3=>⟨_,H2,I3,q2⟩) hf
 rcases l with⟨hk,hm⟩|⟨hk,c,hc,hcell⟩
 .exact wpAny_loadName_local I.ok.kind hk hn hm go
 .rcases hk with hk | hk
  .exact wpAny_loadName_cell I.ok.kind hk hc hcell go
  .rcases hx with k | k
   .have:X.env.scope.names.lookup x=some .free:=hk;rw[k]at this;cases this
   .have:X.env.scope.names.lookup x=some .free:=hk;rw[k]at this;cases this
def HZ (f:Int->Int->Int):CL:=λx y H Q=>∃i j,x=.int i/\y=.int j/\Q (.int (f i j)) H
def FD:Gn X .Add (HZ λi j=>i+j):=by intro Ao s U H x y v u Q I r1 r2 h;obtain⟨i,j,e1,e2,q⟩:=h;subst e1;subst e2;obtain⟨t,rfl⟩:=r1;obtain⟨t',rfl⟩:=r2;exact iadd_int ⟨.int _,H,I.tok _,⟨_,rfl⟩,q⟩
end
section
def CO (c:TT)(tb:TS):TS:=λD U H=>∃W:Nat->St->Hp->Prop,(∃m,W m U H)/\∀m U H,W m U H ->
 c U H λb H1=>if b=true then ∃N:St->Hp->Prop,(∀U' H',N U' H'->∃m',m'<m/\W m' U' H')/\tb { D with nx:=N,ct:=N,bk:=D.nx } U H1 else D.nx U H1
def C5 (hp:PassesOwn (model X.prog X.w) X.A X.env X.xe)(hc:PT X c tc)(hb:ql X body tb):PS X (.While c body [] pos) (CO tc tb):=by
 intro Ao s U H D I h;obtain⟨W,⟨m0,w0⟩,turn⟩:=h;refine wpAny_While (codeAny_whileLoop (λn s'=>∃U' H',lO X Ao U' H' s'/\W n U' H') ?_ m0 ⟨U,H,I,w0⟩);rintro n s1 ⟨U1,H1,I1,w1⟩;refine vH hp (mB (hc Ao s1 U1 H1 _ I1 (turn n U1 H1 w1)) λb s2 zz=>?_);obtain⟨H2,I2,q2⟩:=zz;cases b with
 | true=>
  obtain⟨N,hN,q2⟩:=q2;rw[lU rfl];refine vH hp (mB (hb Ao s2 U1 H2 _ I2 q2) λf s3 q3=>?_);cases f with
  | next=>
   obtain⟨U3,H3,I3,n3⟩:=q3;obtain⟨m',hm,w3⟩:=hN U3 H3 n3;exact⟨m',hm,U3,H3,I3,w3⟩
  | cont=>
   obtain⟨U3,H3,I3,n3⟩:=q3;obtain⟨m',hm,w3⟩:=hN U3 H3 n3;exact⟨m',hm,U3,H3,I3,w3⟩
  | brk=>exact q3
  | ret v=>exact q3
 | false=>
  rw[lT mQ];exact wN ⟨U1,H2,I2,q2⟩
end
structure It where
 go:Nat->Hp->Prop
 yld:Nat->Hp->V->Hp->Prop
 stop:Nat->Hp->Prop
def g0 (X:Cx)(Ao:AA)(H:Hp)(b:AD):Prop:=
 H b=none/\b≠X.env.locals/\b∉X.fs/\(b∈X.ex\/X.s_0.heap.objs.size<=b)/\(∀x c,X.env.cells.lookup x=some c->c≠b)/\∀p∈X.pn++Ao,p.1≠b
def lO.fpOk (I:lO X Ao U H s)(hb:s.heap.objs.size<=b)(hn:H' b=none):g0 X Ao H' b:=by
 refine⟨hn,Nat.ne_of_gt (ot I.lt hb),I.nofs hb,.inr (mO I.sz hb),λx c e z=>?_,λp hp z=>?_⟩
 .obtain⟨v,q⟩:=I.cell x c e;exact IG (ot q.lt (by rw[z];exact hb)) (o4 _)
 .exact IG (ot (mL (I.pin p hp).1) (by rw[z];exact hb)) (o4 _)
structure iC (P:AG)(w:AI)(K:ma)(tg:Expr)(J:It)(fp:List AD)(it:AD)(tn:Nat->Heap->Prop):Prop where
 mem:it∈fp
 obj:∀i h,tn i h->∀b∈fp,∃o,h.get? b=some o/\∀v,o.data≠.cell v
 keep:∀i h h',tn i h->(∀b∈fp,∀o,h.get? b=some o->h'.get? b=some o)->tn i h'
 item:∀(X:Cx),X.prog=P->X.w=w->X.K=K->X.calm=true->∀(i:Nat) (Ao:AA) (s:AE) (U:St) (H:Hp) (E:mY),lO X Ao U H s->(∀b∈fp,g0 X Ao H b)->tn i s.heap->J.go i H ->
  wpAny (model P w) X.A (pyNext (.ref it)) (λr s1=>∃u,r=some u /\
   wpAny (model P w) X.A (letOwnedTupleGo tg (.ref it) u) (λ_ s2=>∃x H',lO X Ao U H' s2/\ft x u/\J.yld i H x H'/\tn (i+1) s2.heap/\∀b∈fp,H' b=none) E s1) E s
 done:∀(X:Cx),X.prog=P->X.w=w->X.K=K->X.calm=true->∀(i:Nat) (Ao:AA) (s:AE) (U:St) (H:Hp) (E:mY),lO X Ao U H s->(∀b∈fp,g0 X Ao H b)->tn i s.heap->J.stop i H ->
  wpAny (model P w) X.A (pyNext (.ref it)) (λr s1=>r=none/\lO X Ao U H s1) E s
 self:∀(A:AH) (i:Nat) (s:AE) (Q:mY) (E:mY),tn i s.heap->Q (.ref it) s->wpAny (model P w) A (pyIter (.ref it)) Q E s
abbrev TI:=St->Hp->(It->Hp->Prop)->Prop
def B9 (X:Cx)(Ao:AA)(U:St)(tg:Expr)(R:It->Hp->Prop)(itv:Value)(s2:AE):Prop:=
 ∃(it:AD) (fp:List AD) (tn:Nat->Heap->Prop) (J:It) (H':Hp),itv=.ref it/\lO X Ao U H' s2/\iC X.prog X.w X.K tg J fp it tn/\tn 0 s2.heap/\(∀b∈fp,g0 X Ao H' b)/\R J H'
def PI (X:Cx)(tg iter:Expr)(wi:TI):Prop:=
 ∀(Ao:AA) (s:AE) (U:St) (H:Hp) (R:It->Hp->Prop),lO X Ao U H s->wi U H R ->
  wpAny (model X.prog X.w) X.A (eval iter X.env) (λv s1=>wpAny (model X.prog X.w) X.A (pyIter v) (B9 X Ao U tg R) X.xe s1) X.xe s
def wM (ho:s.heap.get? it=some o)(hc:o.cls=.type n)(hd:o.data=.fields vs)
    (hn:["enumerate","zip","dict_itemiterator","dict_reverseitemiterator","odict_iterator","itertools.zip_longest","itertools.pairwise"].contains n=false) (hQ:Q () s):wpAny M A (letOwnedTupleGo tg (.ref it) u) Q E s:=by
  unfold letOwnedTupleGo;cases tg<;>first
    | exact mf hQ
    | (cases u<;>first
        | exact mf hQ
        | (refine lP (wpAny_load ho ?_)
           rw[hc,hd];show wpAny M A (if (["enumerate","zip","dict_itemiterator","dict_reverseitemiterator","odict_iterator","itertools.zip_longest","itertools.pairwise"].contains n&&vs[0]? == some (rawInt _))=true then _ else _) Q E s;rw[lT (by intro h;rw[hn,rX]at h;cases h)];exact mf hQ))
noncomputable def t7 (K:ma)(a:AD):It:=
 ⟨λi H=>∃xs x,m8 K H a xs/\xs[i]?=some x,λi H x H'=>H'=H/\∀xs,m8 K H a xs->xs[i]?=some x,λi H=>∃xs,m8 K H a xs/\xs.length<=i⟩
noncomputable def BT (K:ma)(a:AD):It:=
 ⟨λi H=>∃xs x,oA K H a xs/\xs[i]?=some x,λi H x H'=>H'=H/\∀xs,oA K H a xs->xs[i]?=some x,λi H=>∃xs,oA K H a xs/\xs.length<=i⟩
noncomputable def ug (lo:Int)(n:Nat):It:=⟨λi _=>i<n,λi H x H'=>H'=H/\x=.int (lo+i),λi _=>n<=i⟩
def Zi8 {P:AG}{w:AI}{K:ma}{tg:Expr}(a it:AD):iC P w K tg (t7 K a) [it] it (λi h=>h.IsListIter it a i) where
 mem:=by simp
 obj:=λi h st b hb=>by
  have e:b=it:=by simpa using hb
  subst e;obtain⟨o,e,c,d⟩:=st;exact⟨o,e,λv z=>by rw[d]at z;cases z⟩
 keep:=λi h h' st k=>st.at λo e=>k it {} o e
 item:=by intro X hP hw hK hc i Ao s U H E I hf st hg;subst hP hw hK;obtain⟨xs,x,hq,hx⟩:=hg;obtain⟨its,rv,p,hz⟩:=I.list hq;obtain⟨u,hu,ru⟩:=rv.get hx;obtain⟨f0,f1,f2,f3,f4,f5⟩:=hf it {};refine z4 st p.isList (x:=u) (~~~hu) λh' st' sb=>?_;have I1:lO X Ao U H { s with heap:=h' }:=I.turned (t':=s.toks) (λb o hb e=>(sb.2 b hb).trans e) f0 f1 f3 f4 f5;obtain⟨o,e,c,d⟩:=id st';exact⟨u,rfl,wM (s:={ s with heap:=h' }) e c d ⋯ ⟨x,H,I1,ru,⟨rfl,λys hy=>by rw[I.list_inj hy hq];exact hx⟩,st',λb hb=>(hf b hb).1⟩⟩
 done:=by intro X hP hw hK hc i Ao s U H E I hf st hg;subst hP hw hK;obtain⟨xs,hq,hx⟩:=hg;obtain⟨its,rv,p,hz⟩:=I.list hq;obtain⟨f0,f1,f2,f3,f4,f5⟩:=hf it {};have hl:=rv.length;exact wpAny_pyNext_list_end (I.ok.hd hc) st p.isList (by simp;lia) λh' eb=>⟨rfl,I.turned (t':=s.toks) (λb o hb e=>eb b o hb e) f0 f1 f3 f4 f5⟩
 self:=λ_ _ _ _ _ st h=>wpAny_pyIter_listiter st h
def Zig {P:AG}{w:AI}{K:ma}{tg:Expr}(a it:AD):iC P w K tg (BT K a) [it] it (λi h=>h.IsTupleIter it a i) where
 mem:=by simp
 obj:=λi h st b hb=>by
  have e:b=it:=by simpa using hb
  subst e;obtain⟨o,e,c,d⟩:=st;exact⟨o,e,λv z=>by rw[d]at z;cases z⟩
 keep:=λi h h' st k=>st.at λo e=>k it {} o e
 item:=by intro X hP hw hK hc i Ao s U H E I hf st hg;subst hP hw hK;obtain⟨xs,x,hq,hx⟩:=hg;obtain⟨its,rv,p,hz⟩:=I.tuple hq;obtain⟨u,hu,ru⟩:=rv.get hx;obtain⟨f0,f1,f2,f3,f4,f5⟩:=hf it {};refine wpAny_pyNext_tuple_item st (show s.heap.IsTuple a its.toArray from p) (x:=u) (~~~hu) λh' st' sb=>?_;have I1:lO X Ao U H { s with heap:=h' }:=I.turned (t':=s.toks) (λb o hb e=>(sb.2 b hb).trans e) f0 f1 f3 f4 f5;obtain⟨o,e,c,d⟩:=id st';exact⟨u,rfl,wM (s:={ s with heap:=h' }) e c d ⋯ ⟨x,H,I1,ru,⟨rfl,λys hy=>by rw[I.tuple_inj hy hq];exact hx⟩,st',λb hb=>(hf b hb).1⟩⟩
 done:=by intro X hP hw hK hc i Ao s U H E I hf st hg;subst hP hw hK;obtain⟨xs,hq,hx⟩:=hg;obtain⟨its,rv,p,hz⟩:=I.tuple hq;obtain⟨f0,f1,f2,f3,f4,f5⟩:=hf it {};have hl:=rv.length;exact wpAny_pyNext_tuple_end (I.ok.hd hc) st (show s.heap.IsTuple a its.toArray from p) (by simp;lia) λh' eb=>⟨rfl,I.turned (t':=s.toks) (λb o hb e=>eb b o hb e) f0 f1 f3 f4 f5⟩
 self:=λ_ _ _ _ _ st h=>wpAny_pyIter_tupleiter st h
def Zih {P:AG}{w:AI}{K:ma}{tg:Expr}(it:AD)(lo:Int)(n:Nat):iC P w K tg (ug lo n) [it] it (λi h=>IsRangeIter h it (lo+(i:Nat)*1) ((n:Int)-(i:Nat)) 1) where
 mem:=by simp
 obj:=λi h st b hb=>by
  have e:b=it:=by simpa using hb
  subst e;exact⟨_,st,λv z=>by have z':Data.fields _=Data.cell v:=z;cases z'⟩
 keep:=λi h h' st k=>k it {} _ st
 item:=by intro X hP hw hK hc i Ao s U H E I hf st hg;subst hP hw hK;obtain⟨f0,f1,f2,f3,f4,f5⟩:=hf it {};have W:=Walks.range (prog:=X.prog) (w:=X.w) (I.ok.hd hc) it lo 1 n;refine W.item i s _ _ hg st λv h' tk hv st' kk=>?_;obtain⟨t,rfl⟩:=hv;have I1:lO X Ao U H { s with heap:=h',toks:=tk }:=I.turned (λb o hb e=>kk b o (~~~hb) e) f0 f1 f3 f4 f5;refine⟨_,rfl,wM (s:={ s with heap:=h',toks:=tk }) (n:="range_iterator") st' rfl rfl ⋯ ⟨.int (lo+i),H,I1,⟨t,?_⟩,⟨rfl,rfl⟩,st',λb hb=>(hf b hb).1⟩⟩;rw[Int.mul_one]
 done:=by intro X hP hw hK hc i Ao s U H E I hf st hg;subst hP hw hK;obtain⟨f0,f1,f2,f3,f4,f5⟩:=hf it {};exact wpAny_pyNext_range_end (I.ok.hd hc) st (by have:n<=i:=hg;lia) λh' eb=>⟨rfl,I.turned (t':=s.toks) (λb o hb e=>eb b o hb e) f0 f1 f3 f4 f5⟩
 self:=λ_ _ _ _ _ st h=>wpAny_pyIter_rangeiter st h
section
def DD (K:ma)(tl:TE):TI:=λU H R=>tl U H λx H1=>∃a,x=.ref a/\(∃xs,m8 K H1 a xs)/\R (t7 K a) H1
def jG (K:ma)(tl:TE):TI:=λU H R=>tl U H λx H1=>∃a,x=.ref a/\(∃xs,oA K H1 a xs)/\R (BT K a) H1
def Zm4 (hl:PE X l tl):PI X tg l (DD X.K tl):=by
 intro Ao s U H R I h;refine mB (hl Ao s U H _ I h) λv s1 zz=>?_;obtain⟨x,H1,I1,r1,q1⟩:=zz;obtain⟨a,e,⟨xs,hq⟩,q⟩:=q1;subst e;cases r1;obtain⟨its,rv,p,hz⟩:=I1.list hq;refine vS p.isList ?_;refine⟨s1.heap.objs.size,[s1.heap.objs.size],_,_,H1,rfl,I1.kept (t':=s1.toks) λb o e=>mR _ e,Zi8 a _,⟨_,nV _ rfl,rfl,rfl⟩,λb hb=>?_,q⟩;have e:b=s1.heap.objs.size:=by simpa using hb
 subst e;exact I1.fpOk (mC _) (I1.hok.fresh (mC _))
def ZoC (hl:PE X l tl):PI X tg l (jG X.K tl):=by
 intro Ao s U H R I h;refine mB (hl Ao s U H _ I h) λv s1 zz=>?_;obtain⟨x,H1,I1,r1,q1⟩:=zz;obtain⟨a,e,⟨xs,hq⟩,q⟩:=q1;subst e;cases r1;obtain⟨its,rv,p,hz⟩:=I1.tuple hq;refine wpAny_pyIter_tuple (show s1.heap.IsTuple a its.toArray from p) ?_;refine⟨s1.heap.objs.size,[s1.heap.objs.size],_,_,H1,rfl,I1.kept (t':=s1.toks) λb o e=>mR _ e,Zig a _,⟨_,nV _ rfl,rfl,rfl⟩,λb hb=>?_,q⟩;have e:b=s1.heap.objs.size:=by simpa using hb
 subst e;exact I1.fpOk (mC _) (I1.hok.fresh (mC _))
def FT {Ao:AA}{U:St}{H:Hp}{s:AE}{R:It->Hp->Prop}{E:mY}{lo hi:Int}{t u v:Tok}{tk:Nat}(I:lO X Ao U H s)(h1:-(2 ^ 62)<=lo)(h2:lo<2 ^ 62)(h3:-(2 ^ 62)<=hi)(h4:hi<2 ^ 62)
  (q:R (ug lo (hi-lo).toNat) H):wpAny (model X.prog X.w) X.A (pyIter (.ref s.heap.objs.size)) (B9 X Ao U tg R) E { s with heap:=s.heap.push { cls:=.type "range",data:=.fields #[.int lo t,.int hi u,.int 1 v] },toks:=tk }:=by
 refine wpAny_pyIter_range (IsRange.new ..) (small_one h1 h2 h3 h4) ?_;have I1:lO X Ao U H { s with heap:=s.heap.push { cls:=.type "range",data:=.fields #[.int lo t,.int hi u,.int 1 v] },toks:=tk }:=I.kept λb o e=>mR _ e;refine⟨(s.heap.push { cls:=.type "range",data:=.fields #[.int lo t,.int hi u,.int 1 v] }).objs.size,[(s.heap.push { cls:=.type "range",data:=.fields #[.int lo t,.int hi u,.int 1 v] }).objs.size],_,_,H,rfl,
  I1.kept (t':=tk) λb o e=>mR _ e,Zih _ lo (hi-lo).toNat,?_,λb hb=>?_,q⟩
 .have e1:lo+((0:Nat):Int)*1=lo:=by simp
  have e2:(((hi-lo).toNat:Nat):Int)-((0:Nat):Int)=Builtin.Range.rangeSize lo hi 1:=by rw[rangeSize_one];split<;>lia
  show IsRangeIter _ _ (lo+((0:Nat):Int)*1) ((((hi-lo).toNat:Nat):Int)-((0:Nat):Int)) 1;rw[e1,e2];exact nV _ rfl
 .have e:b=(s.heap.push { cls:=.type "range",data:=.fields #[.int lo t,.int hi u,.int 1 v] }).objs.size:=by simpa using hb
  subst e;exact I1.fpOk (mC _) (I1.hok.fresh (mC _))
def FH (ta:TA):TI:=λU H R=>ta U H λvs H1=>∃j:Int,vs=[.int j]/\-(2 ^ 62)<=j/\j<2 ^ 62/\R (ug 0 j.toNat) H1
def FM (ta:TA):TI:=λU H R=>ta U H λvs H1=>∃i j:Int,vs=[.int i,.int j]/\(-(2 ^ 62)<=i/\i<2 ^ 62/\-(2 ^ 62)<=j/\j<2 ^ 62)/\R (ug i (j-i).toNat) H1
def xA (hg:Gl X "range") (hm:X.mg "range"=none) (ha:PA X [a] ta) (hs:starEach [a] X.env=[(false,eval a X.env)]:=by rfl):PI X tg (.Call (.Name "range" p) [a] [] pos) (FH ta):=by
 intro Ao s U H R I h;refine Call_ (vV I hg hm boot_range (zw (mB (ha pos Ao s U H _ I h) λus s1 zz=>?_) hs rfl));obtain⟨vs,H1,I1,r1,q1⟩:=zz;obtain⟨j,e,q1,q2,q⟩:=q1;subst e;cases r1 with
 | cons r rr=>
  cases rr;obtain⟨t,rfl⟩:=r;exact call_range_1 (FT I1 ∅ ∅ q1 q2 (~~~q))
def zR (hg:Gl X "range") (hm:X.mg "range"=none) (ha:PA X [a,b] ta) (hs:starEach [a,b] X.env=[(false,eval a X.env),(false,eval b X.env)]:=by rfl) (hs2:starEach [b] X.env=[(false,eval b X.env)]:=by rfl):
  PI X tg (.Call (.Name "range" p) [a,b] [] pos) (FM ta):=by
 intro Ao s U H R I h;refine Call_ (vV I hg hm boot_range (zw (mB (ha pos Ao s U H _ I h) λus s1 ⟨vs,H1,I1,r1,q1⟩=>?_) (by rw[hs,hs2]) (by rw[hs2];rfl)));obtain⟨i,j,e,⟨q1,q2,q3,q4⟩,q⟩:=q1;subst e;cases r1 with
 | cons r rr=>
  cases rr with
  | cons r' rr=>
   cases rr;obtain⟨t,rfl⟩:=r;obtain⟨t',rfl⟩:=r';exact call_range_2 (FT I1 q1 q2 q3 q4 q)
def tFor (wi:TI)(g:TG)(tb:TS):TS:=λD U H=>wi U H λJ H1=>∃W:Nat->Nat->St->Hp->Prop,(∃m,W 0 m U H1)/\∀i m U H,W i m U H ->
 (J.stop i H/\D.nx U H)\/(J.go i H/\∃N:St->Hp->Prop,(∀U' H',N U' H'->∃m',m'<m/\W (i+1) m' U' H')/\∀x H',J.yld i H x H'->g x U H' λU2 H2=>tb { D with nx:=N,ct:=N,bk:=D.nx } U2 H2)
def y3 (fp:List AD)(h:Heap):AA:=fp.filterMap λb=>(h.get? b).map λo=>(b,o)
def zQ (hb:b∈fp)(e:h.get? b=some o):(b,o)∈y3 fp h:=List.mem_filterMap.mpr ⟨b,hb,by rw[e];rfl⟩
def ZjK (hp:p∈y3 fp h):p.1∈fp/\h.get? p.1=some p.2:=by
 obtain⟨b,hb,e⟩:=List.mem_filterMap.mp hp;cases q:h.get? b with
 | none=>rw[q]at e;cases e
 | some o=>
  rw[q]at e;have e':(b,o)=p:=Option.some.inj e;subst e';exact⟨hb,q⟩
def lO.pinned (I:lO X Ao U H s)(hf:∀b∈fp,g0 X Ao H b)(ho:∀b∈fp,∃o,s.heap.get? b=some o/\∀v,o.data≠.cell v):lO X (Ao++y3 fp s.heap) U H s:=
 I.pins_of λp hp=>(nJ.mp hp).elim (λz=>I.pin p (tT _ z)) λz=>by obtain⟨hb,e⟩:=ZjK z;obtain⟨f0,f1,f2,_⟩:=hf p.1 hb;obtain⟨o,e',d⟩:=ho p.1 hb;rw[e]at e';cases e';exact⟨e,f0,f1,f2,d⟩
def lO.unpinned (I:lO X (Ao++pl) U H s):lO X Ao U H s:=I.pins_of λp hp=>I.pin p (tT _ (wv _ hp))
def oJ (hp:PassesOwn (model X.prog X.w) X.A X.env X.xe)(hc:X.calm=true)(hi:PI X tg iter wi)(hg:PG X tg g)(hb:ql X body tb)
  (hs:∀x,foldedSetIterable iter X.env x=pure x:=by intro _;rfl):PS X (.For tg iter body [] pos) (tFor wi g tb):=by
 intro Ao s U H D I h;refine wpAny_For (mB (hi Ao s U H _ I h) λv s1 h1=>mB h1 λitv s2 h2=>?_) hs;obtain⟨it,fp,tn,J,H2,e,I2,T,st2,f2,W,⟨m0,w0⟩,turn⟩:=h2;subst e;have stat:∀ {H':Hp},(∀b∈fp,H' b=none)->∀b∈fp,g0 X Ao H' b:=λhn b hb=>⟨hn b hb,(f2 b hb).2⟩;refine codeAny_forLoop_any (λn s'=>∃i U' H',lO X Ao U' H' s'/\tn i s'.heap/\(∀b∈fp,H' b=none)/\W i n U' H') ?_ m0 ⟨0,U,H2,I2,st2,λb hb=>(f2 b hb).1,w0⟩;rintro n s3 ⟨i,U3,H3,I3,st3,fr3,w3⟩;rcases turn i n U3 H3 w3 with⟨stop,qn⟩|⟨go,N,hN,step⟩
 .refine vH hp (mB (T.done X rfl rfl rfl hc i Ao s3 U3 H3 X.xe I3 (stat fr3) st3 stop) λr s4 zz=>?_);obtain⟨hr,I4⟩:=zz;subst hr;exact wN ⟨U3,H3,I4,qn⟩
 .refine vH hp (mB (T.item X rfl rfl rfl hc i Ao s3 U3 H3 X.xe I3 (stat fr3) st3 go) λr s4 zz=>?_);obtain⟨u,hr,h4⟩:=zz;subst hr;refine vH hp (mB h4 λ_ s5 zz=>?_);obtain⟨x,H5,I5,r5,y5,st5,fr5⟩:=zz;have I5':=I5.pinned (stat fr5) (T.obj _ _ st5);refine vH hp (mB (hg _ s5 U3 H5 x u _ I5' r5 (step x H5 y5)) λ_ s6 zz=>?_);obtain⟨U6,H6,I6,q6⟩:=zz;refine vH hp (mB (hb _ s6 U6 H6 _ I6 q6) λf s7 q7=>?_);have again:∀ {U7:St} {H7:Hp},lO X (Ao++y3 fp s5.heap) U7 H7 s7->N U7 H7->∃m,m<n/\∃i U' H',lO X Ao U' H' s7/\tn i s7.heap/\(∀b∈fp,H' b=none)/\W i m U' H':=λ{U7 H7} I7 n7=>by obtain⟨m',hm,w7⟩:=hN U7 H7 n7;refine⟨m',hm,i+1,U7,H7,I7.unpinned,T.keep _ _ _ st5 λb hb o e=>(I7.pin (b,o) (tT _ (tT _ (zQ hb e)))).1,λb hb=>?_,w7⟩;obtain⟨o,e,d⟩:=T.obj _ _ st5 b hb;exact(I7.pin (b,o) (tT _ (tT _ (zQ hb e)))).2.1
  cases f with
  | next=>obtain⟨U7,H7,I7,n7⟩:=q7;exact again I7 n7
  | cont=>obtain⟨U7,H7,I7,n7⟩:=q7;exact again I7 n7
  | brk=>obtain⟨U7,H7,I7,q7⟩:=q7;exact⟨U7,H7,I7.unpinned,q7⟩
  | ret v=>obtain⟨x7,U7,H7,I7,r7,q7⟩:=q7;exact⟨x7,U7,H7,I7.unpinned,r7,q7⟩
end
def Zlx {K:ma}{a:AD}{xs:IJ}{g:TG}{tb:TS}{D:gz}{U:St}{H:Hp}(Pv:Nat->St->Hp->Prop)(h0:Pv 0 U H)(hl:∀i U H,i<=xs.length->Pv i U H->m8 K H a xs)
  (hs:∀i x U H,xs[i]?=some x->Pv i U H->g x U H λU2 H2=>tb { D with nx:=Pv (i+1),ct:=Pv (i+1),bk:=D.nx } U2 H2) (hd:∀U H,Pv xs.length U H->D.nx U H):
  ∃W:Nat->Nat->St->Hp->Prop,(∃m,W 0 m U H)/\∀i m U H,W i m U H ->
   ((t7 K a).stop i H/\D.nx U H)\/((t7 K a).go i H/\∃N:St->Hp->Prop,(∀U' H',N U' H'->∃m',m'<m/\W (i+1) m' U' H')/\∀x H',(t7 K a).yld i H x H'->g x U H' λU2 H2=>tb { D with nx:=N,ct:=N,bk:=D.nx } U2 H2):=by
 refine⟨λi m U H=>m=xs.length-i/\i<=xs.length/\Pv i U H,⟨xs.length,{},nO _,h0⟩,?_⟩;rintro i m U H ⟨rfl,hi,p⟩;have q:=hl i U H hi p;by_cases A0:i<xs.length
 .refine .inr ⟨⟨xs,xs[i],q,by simp[A0]⟩,Pv (i+1),λU' H' p'=>⟨xs.length-(i+1),∅,rfl,A0,p'⟩,λx H' y=>?_⟩;obtain⟨e,y⟩:=y;subst e;exact hs i x U _ (y xs q) p
 .have e:i=xs.length:=by lia
  subst e;exact .inl ⟨⟨xs,q,mC _⟩,hd U H p⟩
def Zkg {lo:Int}{n:Nat}{g:TG}{tb:TS}{D:gz}{U:St}{H:Hp}(Pv:Nat->St->Hp->Prop)(h0:Pv 0 U H)
  (hs:∀i U H,i<n->Pv i U H->g (.int (lo+i)) U H λU2 H2=>tb { D with nx:=Pv (i+1),ct:=Pv (i+1),bk:=D.nx } U2 H2) (hd:∀U H,Pv n U H->D.nx U H):
  ∃W:Nat->Nat->St->Hp->Prop,(∃m,W 0 m U H)/\∀i m U H,W i m U H ->
   ((ug lo n).stop i H/\D.nx U H)\/((ug lo n).go i H/\∃N:St->Hp->Prop,(∀U' H',N U' H'->∃m',m'<m/\W (i+1) m' U' H')/\∀x H',(ug lo n).yld i H x H'->g x U H' λU2 H2=>tb { D with nx:=N,ct:=N,bk:=D.nx } U2 H2):=by
 refine⟨λi m U H=>m=n-i/\i<=n/\Pv i U H,⟨n,{},nO _,h0⟩,?_⟩;rintro i m U H ⟨rfl,hi,p⟩;by_cases A0:i<n
 .refine .inr ⟨A0,Pv (i+1),λU' H' p'=>⟨n-(i+1),∅,rfl,A0,p'⟩,λx H' y=>?_⟩;obtain⟨e,y⟩:=y;subst e y;exact hs i U _ A0 p
 .have e:i=n:=by lia
  subst e;exact .inl ⟨mC _,hd U H p⟩
abbrev R2:=V->V->Hp->VK->Prop
def oh (X:Cx)(f:Value->Value->Sem Value)(r:R2):Prop:=
 ∀(Ao:AA) (s:AE) (U:St) (H:Hp) (x y:V) (v u:Value) (Q:VK),lO X Ao U H s->ft x v->ft y u->r x y H Q ->
  wpAny (model X.prog X.w) X.A (f v u) (EP X Ao U Q) X.xe s
def CJ (X:Cx)(f:Value->Sem Value)(r:V->Hp->VK->Prop):Prop:=
 ∀(Ao:AA) (s:AE) (U:St) (H:Hp) (x:V) (v:Value) (Q:VK),lO X Ao U H s->ft x v->r x H Q ->
  wpAny (model X.prog X.w) X.A (f v) (EP X Ao U Q) X.xe s
def pR (X:Cx)(f:Value)(r:IJ->Hp->VK->Prop):Prop:=
 ∀(Ao:AA) (s:AE) (U:St) (H:Hp) (xs:IJ) (us:AC) (Q:VK),lO X Ao U H s->fi xs us->r xs H Q ->
  wpAny (model X.prog X.w) X.A (call f us) (EP X Ao U Q) X.xe s
def yt (r:R2)(ta tb:TE):TE:=λU H Q=>ta U H λx H1=>tb U H1 λy H2=>r x y H2 Q
def Ft (r:V->Hp->VK->Prop)(ta:TE):TE:=λU H Q=>ta U H λx H1=>r x H1 Q
def Ba (x y:V)(p:Int->Int->Prop):Prop:=match x,y with | .int i,.int j=>p i j | _,_=>False
def zy (h:Ba x y p):∃i j,x=.int i/\y=.int j/\p i j:=by cases x<;>first | exact False.elim h | (cases y<;>first | exact⟨_,_,rfl,rfl,h⟩ | exact False.elim h)
def rI (C:Int->Int->Prop)(g:Int->Int->V):R2:=λx y H Q=>Ba x y λi j=>C i j/\Q (g i j) H
def ur (g:Int->Int->V):R2:=λx y H Q=>Ba x y λi j=>Q (g i j) H
def rU (g:Int->V):V->Hp->VK->Prop:=λx H Q=>Ba x x λi _=>Q (g i) H
section
def jV (ha:PE X a ta)(hb:PE X b tb){Ao:AA}{s:AE}{U:St}{H:Hp}{R:V->V->Hp->Prop}(I:lO X Ao U H s)
  (h:ta U H λx H1=>tb U H1 λy H2=>R x y H2) {Q:mY} {f:Value->Value->Sem Value}
  (hf:∀v u s2 x y H2,lO X Ao U H2 s2->ft x v->ft y u->R x y H2->wpAny (model X.prog X.w) X.A (f v u) Q X.xe s2):
  wpAny (model X.prog X.w) X.A (eval a X.env) (λv s_1=>wpAny (model X.prog X.w) X.A (eval b X.env) (λu s_2=>wpAny (model X.prog X.w) X.A (f v u) Q X.xe s_2) X.xe s_1) X.xe s:=by
 refine mB (ha Ao s U H _ I h) λv s1 zz=>?_;obtain⟨x,H1,I1,r1,q1⟩:=zz;refine mB (hb Ao s1 U H1 _ I1 q1) λu s2 zz=>?_;obtain⟨y,H2,I2,r2,q2⟩:=zz;exact hf v u s2 x y H2 I2 r1 r2 q2
def mJ (ho:oh X (binaryOp op) r)(ha:PE X a ta)(hb:PE X b tb):PE X (.BinOp a op b pos) (yt r ta tb):=by intro Ao s U H Q I h;exact wpAny_BinOp (jV ha hb I h λv u s2 x y H2 I2 rx ry q=>ho Ao s2 U H2 x y v u Q I2 rx ry q)
def A9 (ho:CJ X (unaryOp op) r)(ha:PE X a ta):PE X (.UnaryOp op a pos) (Ft r ta):=by intro Ao s U H Q I h;exact UnaryOp_ (mB (ha Ao s U H _ I h) λv s1 ⟨x,H1,I1,r1,q1⟩=>ho Ao s1 U H1 x v Q I1 r1 q1)
def CB {f:Value->Value->Sem Value}{C:Int->Int->Prop}{g:Int->Int->Int}
  (rule:∀(i j:Int) (t u:Tok) (s:AE) (Q:mY) (E:mY),C i j->Q (.int (g i j) s.toks) { s with toks:=s.toks+1 }->wpAny (model X.prog X.w) X.A (f (.int i t) (.int j u)) Q E s):
  oh X f (rI C λi j=>.int (g i j)):=by
 intro Ao s U H x y v u Q I rx ry h;obtain⟨i,j,rfl,rfl,hc,q⟩:=zy h;obtain⟨t,rfl⟩:=rx;obtain⟨t',rfl⟩:=ry;exact rule i j t t' s _ _ hc ⟨.int (g i j),H,I.tok _,⟨_,rfl⟩,q⟩
def opI0 {f:Value->Value->Sem Value}{g:Int->Int->Int}
  (rule:∀(i j:Int) (t u:Tok) (s:AE) (Q:mY) (E:mY),Q (.int (g i j) s.toks) { s with toks:=s.toks+1 }->wpAny (model X.prog X.w) X.A (f (.int i t) (.int j u)) Q E s):
  oh X f (ur λi j=>.int (g i j)):=by
 intro Ao s U H x y v u Q I rx ry h;obtain⟨i,j,rfl,rfl,q⟩:=zy h;obtain⟨t,rfl⟩:=rx;obtain⟨t',rfl⟩:=ry;exact rule i j t t' s _ _ ⟨.int (g i j),H,I.tok _,⟨_,rfl⟩,q⟩
def jg {f:Value->Value->Sem Value}{g:Int->Int->Bool}
  (rule:∀(i j:Int) (t u:Tok) (s:AE) (Q:mY) (E:mY),Q (.bool (g i j)) s->wpAny (model X.prog X.w) X.A (f (.int i t) (.int j u)) Q E s):
  oh X f (ur λi j=>.bl (g i j)):=by
 intro Ao s U H x y v u Q I rx ry h;obtain⟨i,j,rfl,rfl,q⟩:=zy h;obtain⟨t,rfl⟩:=rx;obtain⟨t',rfl⟩:=ry;exact rule i j t t' s _ _ ⟨.bl (g i j),H,I,rfl,q⟩
def CDiv (i j:Int):Prop:=0<j/\j<1073741824
def jd (i j:Int):Prop:=(-(2 ^ 64)<i/\i<2 ^ 64)\/(-(2 ^ 64)<j/\j<2 ^ 64)
def jd.ok (h:jd i j):IntMulOk i j:=by
 rcases h with⟨h1,h2⟩|⟨h1,h2⟩
 .exact .of_left (intBits_le_64 h1 h2)
 .exact .of_right (intBits_le_64 h1 h2)
def pj:oh X (binaryOp .Add) (ur λi j=>.int (i+j)):=opI0 λ_ _ _ _ _ _ _ q=>add_int q
def Cq:oh X (binaryOp .Sub) (ur λi j=>.int (i-j)):=opI0 λ_ _ _ _ _ _ _ q=>sub_int q
def xb:oh X (binaryOp .Mult) (rI jd λi j=>.int (i*j)):=CB λ_ _ _ _ _ _ _ hc q=>mul_int q hc.ok
def Znd:oh X (binaryOp .FloorDiv) (rI CDiv λi j=>.int (i/j)):=CB λi j _ _ _ _ _ hc q=>by have h1:(0:Int)<j:=hc.1;have h2:j<1073741824:=hc.2;exact floordiv_int ∅ (by rw[Int.fdiv_eq_ediv_of_nonneg i ∅];exact q) (.inl (PyProof.noPylong_small ∅))
def pI:oh X (binaryOp .Mod) (rI (λ_ j=>0<j) λi j=>.int (i % j)):=CB λi j _ _ _ _ _ hc q=>by have h1:(0:Int)<j:=hc;exact mod_int' ∅ (by rw[Int.fmod_eq_emod_of_nonneg i ∅];exact q)
def unI {f:Value->Sem Value}{g:Int->Int}
  (rule:∀(i:Int) (t:Tok) (s:AE) (Q:mY) (E:mY),Q (.int (g i) s.toks) { s with toks:=s.toks+1 }->wpAny (model X.prog X.w) X.A (f (.int i t)) Q E s):
  CJ X f (rU λi=>.int (g i)):=by
 intro Ao s U H x v Q I rx h;obtain⟨i,_,rfl,_,q⟩:=zy h;obtain⟨t,rfl⟩:=rx;exact rule i t s _ _ ⟨.int (g i),H,I.tok _,⟨_,rfl⟩,q⟩
def A5:CJ X (unaryOp .USub) (rU λi=>.int (-i)):=unI λ_ _ _ _ _ q=>neg_int q
end
noncomputable def k8:V->V->Bool
 | .non,.non=>true | .non,.int _=>true | .int _,.non=>true | .non,.bl _=>true | .bl _,.non=>true | .non,.str _=>true | .str _,.non=>true
 | .int _,.int _=>true | .bl _,.bl _=>true | .str _,.str _=>true | .byt _,.byt _=>true
 | .int _,.str _=>true | .str _,.int _=>true | .bl _,.str _=>true | .str _,.bl _=>true
 | _,_=>false
def rEq:R2:=λx y H Q=>k8 x y=true/\Q (.bl (decide (x=y))) H
def rNe:R2:=λx y H Q=>k8 x y=true/\Q (.bl (!decide (x=y))) H
def FF:decide (V.int i=V.int j)=(i == j):=by rw[pO];simp
def Ge:decide (V.bl i=V.bl j)=(i == j):=by rw[pO];simp
def Ia:decide (V.str i=V.str j)=(i == j):=by rw[pO];simp
def Ez:decide (V.byt i=V.byt j)=(i.toList == j.toList):=by rw[pO];cases i;cases j;simp
section
def oo (I:lO X Ao U H s)(q:Q (.bl k) H)(e:k=k'):EP X Ao U Q (.bool k') s:=by subst e;exact⟨.bl k,H,I,rfl,q⟩
def ZqO:oh X (compareOp .Eq) rEq:=by
 intro Ao s U H x y v u Q I rx ry h;obtain⟨hs,q⟩:=h;cases x with
 | non=>
  cases rx;cases y with
  | non=>cases ry;exact PySem.EqNone.eq_none_none (oo I q {})
  | bl j=>cases ry;exact PySem.EqNone.eq_none_bool (oo I q {})
  | int j=>obtain⟨t',rfl⟩:=ry;exact PySem.EqNone.eq_none_int (oo I q {})
  | str j=>obtain⟨t',rfl⟩:=ry;exact PySem.EqNone.eq_none_str (oo I q {})
  | _=>exact IG (show false=true from hs) mQ
 | bl i=>
  cases rx;cases y with
  | non=>cases ry;exact PySem.EqNone.eq_bool_none (oo I q {})
  | bl j=>cases ry;exact eq_bool (oo I q Ge)
  | str j=>obtain⟨t',rfl⟩:=ry;exact PySem.EqMixed.eq_bool_str (oo I q {})
  | _=>exact IG (show false=true from hs) mQ
 | int i=>
  obtain⟨t,rfl⟩:=rx;cases y with
  | non=>cases ry;exact PySem.EqNone.eq_int_none (oo I q {})
  | int j=>obtain⟨t',rfl⟩:=ry;exact eq_int (oo I q FF)
  | str j=>obtain⟨t',rfl⟩:=ry;exact PySem.EqMixed.eq_int_str (oo I q {})
  | _=>exact IG (show false=true from hs) mQ
 | str i=>
  obtain⟨t,rfl⟩:=rx;cases y with
  | non=>cases ry;exact PySem.EqNone.eq_str_none (oo I q {})
  | bl j=>cases ry;exact PySem.EqMixed.eq_str_bool (oo I q {})
  | int j=>obtain⟨t',rfl⟩:=ry;exact PySem.EqMixed.eq_str_int (oo I q {})
  | str j=>obtain⟨t',rfl⟩:=ry;exact eq_str (oo I q Ia)
  | _=>exact IG (show false=true from hs) mQ
 | byt i=>
  obtain⟨t,rfl⟩:=rx;cases y with
  | byt j=>obtain⟨t',rfl⟩:=ry;exact PySem.W.eq_bytes (oo I q Ez)
  | _=>exact IG (show false=true from hs) mQ
 | _=>cases y<;>exact IG (show false=true from hs) mQ
def ZqM:oh X (compareOp .NotEq) rNe:=by
 intro Ao s U H x y v u Q I rx ry h;obtain⟨hs,q⟩:=h;cases x with
 | non=>
  cases rx;cases y with
  | non=>cases ry;exact PySem.EqNone.ne_none_none (oo I q {})
  | bl j=>cases ry;exact PySem.EqNone.ne_none_bool (oo I q {})
  | int j=>obtain⟨t',rfl⟩:=ry;exact PySem.EqNone.ne_none_int (oo I q {})
  | str j=>obtain⟨t',rfl⟩:=ry;exact PySem.EqNone.ne_none_str (oo I q {})
  | _=>exact IG (show false=true from hs) mQ
 | bl i=>
  cases rx;cases y with
  | non=>cases ry;exact PySem.EqNone.ne_bool_none (oo I q {})
  | bl j=>cases ry;exact ne_bool (oo I q (IF not Ge))
  | str j=>obtain⟨t',rfl⟩:=ry;exact PySem.EqMixed.ne_bool_str (oo I q {})
  | _=>exact IG (show false=true from hs) mQ
 | int i=>
  obtain⟨t,rfl⟩:=rx;cases y with
  | non=>cases ry;exact PySem.EqNone.ne_int_none (oo I q {})
  | int j=>obtain⟨t',rfl⟩:=ry;exact ne_int (oo I q (IF not FF))
  | str j=>obtain⟨t',rfl⟩:=ry;exact PySem.EqMixed.ne_int_str (oo I q {})
  | _=>exact IG (show false=true from hs) mQ
 | str i=>
  obtain⟨t,rfl⟩:=rx;cases y with
  | non=>cases ry;exact PySem.EqNone.ne_str_none (oo I q {})
  | bl j=>cases ry;exact PySem.EqMixed.ne_str_bool (oo I q {})
  | int j=>obtain⟨t',rfl⟩:=ry;exact PySem.EqMixed.ne_str_int (oo I q {})
  | str j=>obtain⟨t',rfl⟩:=ry;exact ne_str (oo I q (IF not Ia))
  | _=>exact IG (show false=true from hs) mQ
 | byt i=>
  obtain⟨t,rfl⟩:=rx;cases y with
  | byt j=>obtain⟨t',rfl⟩:=ry;exact PySem.W.ne_bytes (oo I q (IF not Ez))
  | _=>exact IG (show false=true from hs) mQ
 | _=>cases y<;>exact IG (show false=true from hs) mQ
def xO:oh X (compareOp .Lt) (ur λi j=>.bl (decide (i<j))):=jg λ_ _ _ _ _ _ _ q=>lt_int q
def GG:oh X (compareOp .LtE) (ur λi j=>.bl (decide (i<=j))):=jg λ_ _ _ _ _ _ _ q=>le_int q
def tw:oh X (compareOp .Gt) (ur λi j=>.bl (decide (j<i))):=jg λ_ _ _ _ _ _ _ q=>gt_int q
def ZqN:oh X (compareOp .GtE) (ur λi j=>.bl (decide (j<=i))):=jg λ_ _ _ _ _ _ _ q=>ge_int q
def FU:oh X (compareOp .In) (λx y H Q=>∃i j,x=.str i/\y=.str j/\Q (.bl (!(Builtin.Str.occurrences j i 0 j.length 1).isEmpty)) H):=by intro Ao s U H x y v u Q I rx ry h;obtain⟨i,j,rfl,rfl,q⟩:=h;obtain⟨t,rfl⟩:=rx;obtain⟨t',rfl⟩:=ry;exact in_str (oo I q rfl)
def Cf:oh X (compareOp .Is) (λx y H Q=>y=.non/\Q (.bl (decide (x=.non))) H):=by
 intro Ao s U H x y v u Q I rx ry h;obtain⟨rfl,q⟩:=h;cases ry;refine is_none_gen (oo I q ?_);cases x<;>first
  | (cases rx;rfl)
  | (obtain⟨t,rfl⟩:=rx;rfl)
def Znc:oh X (compareOp .IsNot) (λx y H Q=>y=.non/\Q (.bl (!decide (x=.non))) H):=by
 intro Ao s U H x y v u Q I rx ry h;obtain⟨rfl,q⟩:=h;cases ry;refine isnot_none_gen (oo I q ?_);cases x<;>first
  | (cases rx;rfl)
  | (obtain⟨t,rfl⟩:=rx;rfl)
def HI:oh X (compareOp .NotIn) (λx y H Q=>∃i j,x=.str i/\y=.str j/\Q (.bl (!(!(Builtin.Str.occurrences j i 0 j.length 1).isEmpty))) H):=by intro Ao s U H x y v u Q I rx ry h;obtain⟨i,j,rfl,rfl,q⟩:=h;obtain⟨t,rfl⟩:=rx;obtain⟨t',rfl⟩:=ry;exact notIn_str (oo I q rfl)
def mV (b:Expr){op:CmpOp}(h:op≠.In:=by decide)(h2:op≠.NotIn:=by decide):behindInMarks op b=false:=by
 have e1:(op == CmpOp.In)=false:=by cases op<;>first | rfl | exact IG rfl h
 have e2:(op == CmpOp.NotIn)=false:=by cases op<;>first | rfl | exact IG rfl h2
 cases b<;>simp[behindInMarks,e1,e2]
def pV (ho:oh X (compareOp op) r)(ha:PE X a ta)(hb:PE X b tb)(hm:behindInMarks op b=false):PE X (.Compare a [op] [b] pos) (yt r ta tb):=by intro Ao s U H Q I h;exact wpAny_Compare1 (jV ha hb I h λv u s2 x y H2 I2 rx ry q=>ho Ao s2 U H2 x y v u Q I2 rx ry q) hm
def Eh (t:TE):TT:=λU H Q=>t U H λx H'=>xE x λk=>Q k H'
def m9 (ho:oh X (compareOp op) r)(ha:PE X a ta)(hb:PE X b tb)(hm:behindInMarks op b=false):PT X (.Compare a [op] [b] pos) (Eh (yt r ta tb)):=by
 intro Ao s U H Q I h;refine wpAny_isTrue_Compare1 (mB (ha Ao s U H _ I h) λv s1 ⟨x,H1,I1,r1,q1⟩=>mB (hb Ao s1 U H1 _ I1 q1) λu s2 ⟨y,H2,I2,r2,q2⟩=>
  mB (ho Ao s2 U H2 x y v u _ I2 r1 r2 q2) λc s3 ⟨z,H3,I3,r3,q3⟩=>?_) hm
 obtain⟨k,e,q3⟩:=yf q3;subst e;cases r3;exact uz ⟨H3,I3,q3⟩
def Bt:(sizeLine:Nat)<2 ^ 63:=by rw[sizeLine_eq];decide
def Ziw:oh X (binaryOp .Add) (λx y H Q=>∃i j,x=.str i/\y=.str j/\i.length+j.length<=sizeLine/\Q (.str (i++j)) H):=by intro Ao s U H x y v u Q I rx ry h;obtain⟨i,j,rfl,rfl,hz,q⟩:=h;obtain⟨t,rfl⟩:=rx;obtain⟨t',rfl⟩:=ry;exact add_str (λt' tk=>⟨.str (i++j),H,I.tok _,⟨_,rfl⟩,q⟩) hz
def iT (r:fi [x] us):∃u,us=[u]/\ft x u:=by
 cases r with
 | cons r1 r2=>cases r2;exact⟨_,rfl,r1⟩
def iZ (K:ma)(x:V)(H:Hp)(n:Nat):Prop:=
 match x with
 | .str y=>y.length<=sizeLine/\n=y.length
 | .byt y=>y.size<=sizeLine/\n=y.size
 | .ref p=>(∃xs,m8 K H p xs/\n=xs.length)\/∃xs,oA K H p xs/\n=xs.length
 | _=>False
def ZlN:pR X (.builtin "len") (λxs H Q=>∃x n,xs=[x]/\iZ X.K x H n/\Q (.int n) H):=by
 intro Ao s U H xs us Q I r h;obtain⟨x,n,rfl,e,q⟩:=h;obtain⟨u,rfl,rx⟩:=iT r;have hl:=Bt;have hs:sizeLine=16777216:=sizeLine_eq;cases x with
 | str y=>
  obtain⟨t,rfl⟩:=rx;obtain⟨hy,e'⟩:y.length<=sizeLine/\n=y.length:=e;subst e';exact len_str ∅ ⟨.int _,H,I.tok _,⟨_,rfl⟩,q⟩
 | byt y=>
  obtain⟨t,rfl⟩:=rx;obtain⟨hy,e'⟩:y.size<=sizeLine/\n=y.size:=e;subst e';exact PySem.W.len_bytes ∅ ⟨.int _,H,I.tok _,⟨_,rfl⟩,q⟩
 | ref p=>
  cases rx;have e':(∃xs,m8 X.K H p xs/\n=xs.length)\/∃xs,oA X.K H p xs/\n=xs.length:=e;rcases e' with⟨xs,hx,e'⟩|⟨xs,hx,e'⟩
  .subst e';obtain⟨its,r',pl,hz⟩:=I.list hx;have Aq:=r'.length;exact Calls.call_len_list pl.isList (by simp only[nP];lia) ⟨.int xs.length,H,I.tok _,⟨_,by simp only[nP];rw[Aq]⟩,q⟩
  .subst e';obtain⟨its,r',pl,hz⟩:=I.tuple hx;have Aq:=r'.length;exact len_tuple pl (by simp only[nP];lia) ⟨.int xs.length,H,I.tok _,⟨_,by simp only[nP];rw[Aq]⟩,q⟩
 | _=>exact(show False from e).elim
end
structure iN (h:Heap)(x dx C:AD)(mA:AB):Prop where
 obj:h.get? x=some (instObj C dx)
 ns:h.Ns1 dx mA
 ne:dx≠x
def CA {h:Heap}{dx:AD}{mA:AB}(n:h.Ns1 dx mA):∃od,h.get? dx=some od/\∀name,lookIn name od=some (mA name):=by
 obtain⟨o,es,ep,ho,hd,hk,_,hm⟩:=n;refine⟨o,ho,λname=>?_⟩;have e:=hm name;unfold nsFind findBy at e;rw[<-Array.find?_toList]at e;unfold lookIn;rw[hd];dsimp only;split
 .rename_i y q
  rw[q]at e;exact IF some e
 .rename_i q
  rw[q]at e;have a:es.toList.any (·.refKey)=false:=by rw[List.any_eq_false];intro y hy;obtain⟨z,t,hkey⟩:=hk y (Array.mem_toList_iff.mp hy);simp[DictEntry.refKey,hkey]
  have a':¬es.toList.any (·.refKey)=true:=by rw[a];exact mQ
  rw[lT a'];exact IF some e
def iN.look (I:iN h x dx C mA):∃od,PySem.W.InstAt h x (instObj C dx) C (some od)/\∀name,lookIn name od=some (mA name):=
 let ⟨od,ho,hl⟩:=CA I.ns
 ⟨od,⟨I.obj,rfl,rfl,ho⟩,hl⟩
section
variable {prog:AG}{w:AI}{A:AH}{E:mY}{s:AE}{K:ma}{x dx C f:AD}{mA:AB}{name:Str}{v:Value}
def ZnB (X:K.In s.heap)(I:iN s.heap x dx C mA)(hg:plainGet K C name=true)(hh:hasDictIn K C=true)
  (ha:findIn K (.ref C) name=some none) (hv:mA name=some v) (hv':handedIn v=true) (h:Q v { s with toks:=s.toks+1 }):
  wpAny (model prog w) A (getAttr (.ref x) name expr) Q E s:=by
 obtain⟨od,J,hl⟩:=I.look;exact PySem.W.get_value X J (plainGet_of hg).1 (findObj_own hh ha rfl (by rw[hl,hv])) hv' h
def Zlv (X:K.In s.heap)(I:iN s.heap x dx C mA)(hg:plainGet K C name=true)
  (hf:findIn K (.ref C) name=some (some (.ref f))) (ht:isFn K (.ref f)=true) (hv:mA name=none) (h:Q (.ref f,[.ref x]) s):
  wpAny (model prog w) A (getMethod (.ref x) name pl) Q E s:=by
 obtain⟨od,J,hl⟩:=I.look;exact PySem.W.method_fn X J (plainGet_of hg).1 (plainGet_of hg).2 hf (beq_iff_eq.mp ht) (by show (lookIn name od).map (·.isSome)=some false;rw[hl,hv];rfl) h
def ZmJ (X:K.In s.heap)(I:iN s.heap x dx C mA)
  (hs:findIn K (.ref C) "__setattr__"=some (some (.builtin "object.__setattr__"))) (hp:plainOver K C=true) (ht:takerIn K C name=some none) (hh:hasDictIn K C=true)
  (hw:PySem.Within mA ns) (hsz:ns.length<=sizeLine)
  (h:∀h',iN h' x dx C (λy=>if y=name then some v else mA y)->Heap.SameBut dx s.heap h'->Q () { s with heap:=h',toks:=s.toks+2 }):
  wpAny (model prog w) A (setAttr (.ref x) name v) Q E s:=by
 obtain⟨od,J,hl⟩:=I.look;refine set_plain X J hs (PySem.W.osa_open (s:={ s with toks:=s.toks+1 }) (r:=none) X J hp ht λb=>?_);obtain⟨cd,hc,hd'⟩:=vC hh;have hx:s.heap.get? x=some ⟨.ref C,some dx,.plain,#[]⟩:=I.obj;refine lP (mf (lP (lP (wpAny_loadPart hx (lP (PySem.W.Looks.here (s:={ s with toks:=s.toks+1 }) (looks_clsIn X hc) ?_))))));rw[hd'];refine mf (a:=some dx) (lP (mf (lP ?_)));refine wpAny_nsSet1 (s:={ s with toks:=s.toks+1 }) I.ns λh' hn2 hs2=>?_;obtain⟨oD,esD,epD,hoD,hdD,hcD⟩:=hn2.count (PySem.Within.cons name v hw);refine lP (wpAny_lookBehind hoD (by rw[hdD];exact pastItsLine_dict (mO hcD (by rw[oN];lia))) ?_);exact mf (h _ ⟨(hs2.2 _ (mH I.ne)).trans I.obj,hn2,I.ne⟩ hs2)
def Zli (X:K.In s.heap)(hm:makesIn K C=true)
  (hi:findIn K (.ref C) "__init__"=some (some (.ref f))) (hf:typeIn K (.ref f)=some (.type "function"))
  (h:codeAny (model prog w) (A.under (.builtin "type.__call__" ⟨.ref C::vs,kw⟩)) (.call (.ref f) ⟨.ref (s.heap.objs.size+1)::vs,kw⟩) (PySem.W.InitBack (s.heap.objs.size+1) R)
   { s with heap:=(s.heap.push emptyDict).push (instObj C s.heap.objs.size) }):
  codeAny (model prog w) A (.call (.ref C) ⟨vs,kw⟩) R s:=by
 obtain⟨hh,g,d,t,os⟩:=s;exact PySem.W.make_core (PySem.W.makes_of X hm) (wf X hi) (λself=>bind_fn X self hf) (.inl rfl) h
end
noncomputable def fO (f:Str)(v:V):List (Str×V)->List (Str×V)
 | []=>[(f,v)]
 | (g,x)::r=>if g=f then (g,v)::r else (g,x)::fO f v r
theorem oQ (f g:Str)(v:V):∀fs:List (Str×V),(fO f v fs).lookup g=if g=f then some v else fs.lookup g
 | []=>by
  show List.lookup g [(f,v)]=_;by_cases h:g=f
  .have hb:(g == f)=true:=beq_iff_eq.mpr h;simp only[List.lookup,hb,lU h]
  .have hb:(g == f)=false:=beq_eq_false_iff_ne.mpr h;simp only[List.lookup,hb,lT h]
 | (k,x)::r=>by
  have ih:=oQ f g v r;rw[show fO f v ((k,x)::r)=(if k=f then (k,v)::r else (k,x)::fO f v r) from rfl];by_cases hk:k=f
  .rw[lU hk];by_cases h:g=k
   .have hb:(g == k)=true:=beq_iff_eq.mpr h;simp only[List.lookup,hb,lU (h.trans hk)]
   .have hb:(g == k)=false:=beq_eq_false_iff_ne.mpr h;simp only[List.lookup,hb,lT (λe:g=f=>h (e.trans hk.symm))]
  .rw[lT hk];by_cases h:g=k
   .have hb:(g == k)=true:=beq_iff_eq.mpr h;simp only[List.lookup,hb,lT (λe:g=f=>hk (h.symm.trans e))]
   .have hb:(g == k)=false:=beq_eq_false_iff_ne.mpr h;simp only[List.lookup,hb];exact ih
theorem xP (f:Str)(v:V):∀fs:List (Str×V),f∈(fO f v fs).map (·.1)/\∀g,g∈fs.map (·.1)->g∈(fO f v fs).map (·.1)
 | []=>⟨by simp[fO],λg h=>by simp at h⟩
 | (k,x)::r=>by
  obtain⟨i1,i2⟩:=xP f v r;rw[show fO f v ((k,x)::r)=(if k=f then (k,v)::r else (k,x)::fO f v r) from rfl];by_cases hk:k=f
  .rw[lU hk];subst hk;exact⟨{},λg h=>by simpa using h⟩
  .rw[lT hk];refine⟨?_,λg h=>?_⟩
   .rw[oP];exact oV _ i1
   .rw[oP]at h ⊢;rcases m6.mp h with e | e
    .exact m6.mpr (.inl e)
    .exact oV _ (i2 g e)
theorem CT (f:Str)(v:V):∀fs:List (Str×V),(fO f v fs).length<=fs.length+1
 | []=>by simp[fO]
 | (k,x)::r=>by
  have ih:=CT f v r;rw[show fO f v ((k,x)::r)=(if k=f then (k,v)::r else (k,x)::fO f v r) from rfl];by_cases hk:k=f
  .rw[lU hk,oN,oN];lia
  .rw[lT hk,oN,oN];lia
def gi.some_of (r:gi (some v) o):∃u,o=some u/\ft v u:=by
 cases o with
 | none=>exact(show False from r).elim
 | some u=>exact⟨u,rfl,r⟩
def gi.none_of (r:gi none o):o=none:=by
 cases o with
 | none=>rfl
 | some u=>exact(show False from r).elim
def Gv (r:ft v u):handedIn u=true:=by
 cases v with
 | non=>cases (show u=Value.none from r);rfl
 | bl b=>cases (show u=Value.bool b from r);rfl
 | int i=>obtain⟨t,e⟩:=(show ∃t,u=Value.int i t from r);cases e;rfl
 | str x=>obtain⟨t,e⟩:=(show ∃t,u=Value.str x t from r);cases e;rfl
 | byt b=>obtain⟨t,e⟩:=(show ∃t,u=Value.bytes b t from r);cases e;rfl
 | flt b=>obtain⟨t,e⟩:=(show ∃t,u=Value.float b t from r);cases e;rfl
 | ref a=>cases (show u=Value.ref a from r);rfl
 | ty n=>cases (show u=Value.type n from r);rfl
section
def zc (hok:nZ P w H h)(e:H a=some (.ins C dx fs)):∃mA,iN h a dx C mA/\(∀f,gi (fs.lookup f) (mA f))/\PySem.Within mA (fs.map (·.1))/\fs.length<=1000/\H dx=some (.own a):=by obtain⟨d,z,ne,ob,mA,n,r,q⟩:=(show fJ P w H h a (.ins C dx fs) from hok a _ e);exact⟨mA,⟨ob,n,ne⟩,r,q,z,d⟩
end
structure rC (K:ma)(C:AD):Prop where
 pg:plainGet K C Str.empty=true
 hd:hasDictIn K C=true
 po:plainOver K C=true
 sa:findIn K (.ref C) "__setattr__"=some (some (.builtin "object.__setattr__"))
def rC.get {K:ma}{C:AD}(c:rC K C)(f:Str):plainGet K C f=true:=c.pg
def fF (K:ma)(C:AD)(f:Str):Prop:=findIn K (.ref C) f=some none
def fF.taker {K:ma}{C:AD}{f:Str}(n:fF K C f):takerIn K C f=some none:=by unfold takerIn;rw[show findIn K (.ref C) f=some none from n];rfl
structure gM (K:ma)(C:AD)(m:Str)(f:AD):Prop where
 at_:findIn K (.ref C) m=some (some (.ref f))
 fn:isFn K (.ref f)=true
 kp:keepIn K (.ref f)=true
section
def ZiJ (I:lO X Ao U H s)(e:H a=some (.ins C dx fs))(c:rC X.K C)(n:fF X.K C f)(l:fs.lookup f=some v)
  (h:∀u s',lO X Ao U H s'->ft v u->Q u s'):wpAny (model X.prog X.w) A (getAttr (.ref a) f b) Q E s:=by
 obtain⟨mA,O,r,_,_,_⟩:=zc I.hok e;obtain⟨u,hu,ru⟩:=gi.some_of (v:=v) (o:=mA f) (by rw[<-l];exact r f);exact ZnB I.kIn O (c.get f) c.hd n hu (Gv ru) (h u _ (I.tok _) ru)
def F5 (I:lO X Ao U H s)(e:H a=some (.ins C dx fs))(c:rC X.K C)(k:gM X.K C m g)(l:fs.lookup m=none)
  (h:Q (.ref g,[.ref a]) s):wpAny (model X.prog X.w) A (getMethod (.ref a) m pl) Q E s:=by
 obtain⟨mA,O,r,_,_,_⟩:=zc I.hok e;have hn:mA m=none:=gi.none_of (by rw[<-l];exact r m);exact Zlv I.kIn O (c.get m) k.at_ k.fn hn h
def Zin (I:lO X Ao U H s)(e:H a=some (.ins C dx fs))(c:rC X.K C)(n:fF X.K C f)(hl:fs.length<1000)(ry:ft y u)
  (h:∀s',lO X Ao U (upd H a (.ins C dx (fO f y fs))) s'->Q () s'):wpAny (model X.prog X.w) A (setAttr (.ref a) f u) Q E s:=by
 obtain⟨mA,O,r,wi,_,ho⟩:=zc I.hok e;have hz:(fs.map (·.1)).length<=sizeLine:=by rw[lZ,sizeLine_eq];lia
 refine ZmJ I.kIn O c.sa c.po n.taker c.hd wi hz λh' O' sb=>h _ ?_;have hd:∃o,h'.get? dx=some o:=let ⟨o,_,_,e',_⟩:=O'.ns;⟨o,e'⟩;refine I.write (x:=a) (e:=dx) (by rw[e];exact True.intro) (.inr ho) (λb q hb z=>(sb.2 b hb).trans z) hd ?_;refine⟨by rw[lR O.ne];exact ho,?_,O.ne,O'.obj,_,O'.ns,λg=>?_,λg hg=>?_⟩
 .have:=CT f y fs;lia
 .show gi ((fO f y fs).lookup g) (if g=f then some u else mA g);rw[oQ];by_cases q:g=f
  .rw[lU q,lU q];exact ry
  .rw[lT q,lT q];exact r g
 .by_cases q:g=f
  .rw[q];exact(xP f y fs).1
  .refine(xP f y fs).2 g (wi g λz=>hg ?_);show (if g=f then some u else mA g)=none;rw[lT q];exact z
def lO.made (I:lO X Ao U H s):lO X Ao U (upd (upd H s.heap.objs.size (.own (s.heap.objs.size+1))) (s.heap.objs.size+1) (.ins C s.heap.objs.size []))
  { s with heap:=(s.heap.push emptyDict).push (instObj C s.heap.objs.size) }:=by
 have e1:(s.heap.push emptyDict).get? s.heap.objs.size=some emptyDict:=nV s.heap rfl;have e2:((s.heap.push emptyDict).push (instObj C s.heap.objs.size)).get? (s.heap.objs.size+1)=some (instObj C s.heap.objs.size):=by
  have:=nV (s.heap.push emptyDict) (o:=instObj C s.heap.objs.size) rfl
  rwa [rZ]at this
 have e3:(s.heap.push emptyDict).Ns s.heap.objs.size (λ_=>none):=⟨emptyDict,#[],_,e1,rfl,(λe he=>IG he {}),λ_=>rfl⟩;have I1:=I.laid (a:=s.heap.objs.size) (o:=.own (s.heap.objs.size+1)) (h':=s.heap.push emptyDict) (t':=s.toks) (λb u q=>mR _ q) (mC _) ⟨_,e1⟩;refine I1.laid (a:=s.heap.objs.size+1) (o:=.ins C s.heap.objs.size []) (t':=s.toks) (λb u q=>mR _ q) (uO (rZ _ _)) ?_;have ne:s.heap.objs.size≠s.heap.objs.size+1:=nM (Nat.lt_succ_self _);refine⟨by rw[lR ne,mq],nO _,ne,e2,λ_=>none,(Heap.Ns1.of_empty e3).at λo q=>mR _ q,λ_=>True.intro,λy hy=>IG rfl hy⟩
def Fg (hb:attributeBase e f env (eval e env)=eval e env)
  (h:wpAny (model prog w) A (eval e env) (λo s_1=>wpAny (model prog w) A (getAttr o f true) Q E s_1) E s):wpAny (model prog w) A (eval (.Attribute e f pos) env) Q E s:=
 Attribute_any_ h (by rw[arm_eval_Attribute,hb])
end
def kY (K:ma)(ta:TE)(f:Str):TE:=λU H Q=>ta U H λx H1=>∃a C dx fs v,x=.ref a/\H1 a=some (.ins C dx fs)/\rC K C/\fF K C f/\fs.lookup f=some v/\Q v H1
def sFld (K:ma)(ta tv:TE)(f:Str):TS:=λD U H=>tv U H λy H1=>ta U H1 λx H2=>∃a C dx fs,x=.ref a/\H2 a=some (.ins C dx fs)/\rC K C/\fF K C f/\fs.length<1000 /\
 D.nx U (upd H2 a (.ins C dx (fO f y fs)))
def InOp (X:Cx)(op:Operator)(rd:V->V->Hp->VK->Prop):Prop:=
 ∀(Ao:AA) (s:AE) (U:St) (H:Hp) (x y:V) (u v:Value) (Q:VK),lO X Ao U H s->ft x u->ft y v->rd x y H Q->wpAny (model X.prog X.w) X.A (inplaceOp op u v) (EP X Ao U Q) X.xe s
section
def ZoI (he:PE X e ta)(hb:attributeBase e f X.env (eval e X.env)=eval e X.env):PE X (.Attribute e f pos) (kY X.K ta f):=by intro Ao s U H Q I h;refine Fg hb (mB (he Ao s U H _ I h) λu s1 zz=>?_);obtain⟨x,H1,I1,rx,a,C,dx,fs,v,ex,ea,c,n,l,q⟩:=zz;subst ex;obtain rfl:u=Value.ref a:=rx;exact ZiJ I1 ea c n l λu' s2 I2 ru=>⟨v,H1,I2,ru,q⟩
def uW (ha:PE X o ta)(hv:PE X value tv)(hs:swapsWith value (some (.Attribute o f pos')) pos.line X.env=pure false):PS X (.Assign [.Attribute o f pos'] value pos) (sFld X.K ta tv f):=by intro Ao s U H D I h;refine plainObj_wpAny_Assign_Attribute (mB (hv Ao s U H _ I h) λu s1 ⟨y,H1,I1,ry,q⟩=>mB (ha Ao s1 U H1 _ I1 q) λov s2 zz=>?_) hs;obtain⟨x,H2,I2,rx,a,C,dx,fs,ex,ea,c,n,l,q2⟩:=zz;subst ex;obtain rfl:ov=Value.ref a:=rx;exact Zin I2 ea c n l ry λs3 I3=>⟨U,_,I3,q2⟩
def rSub:V->V->Hp->VK->Prop:=λx y H Q=>∃i j,x=.int i/\y=.int j/\Q (.int (i-j)) H
def Zpv:InOp X .Sub rSub:=by rintro Ao s U H x y u v Q I rx ry ⟨i,j,rfl,rfl,q⟩;obtain⟨t,rfl⟩:=(show ∃t,u=Value.int i t from rx);obtain⟨t',rfl⟩:=(show ∃t',v=Value.int j t' from ry);exact PyProof.Rows.isub_int ⟨.int (i-j),H,I.tok _,⟨_,rfl⟩,q⟩
end
section
inductive gW (K:ma) (H:Hp):V->Value->Prop where
 | non:gW K H .non (.type "NoneType")
 | bl (x:Bool):gW K H (.bl x) (.type "bool")
 | int (i:Int):gW K H (.int i) (.type "int")
 | str (x:Str):gW K H (.str x) (.type "str")
 | flt (x:UInt64):gW K H (.flt x) (.type "float")
 | lst {a:AD} {xs:IJ} (e:H a=some (.lst xs)):gW K H (.ref a) (.type "list")
 | frz {a:AD} {o:Obj} {xs:IJ} (e:H a=some (.frz o (.lst xs))):gW K H (.ref a) (.type "list")
 | tup {a:AD} {xs:IJ} (e:H a=some (.tup xs)):gW K H (.ref a) (.type "tuple")
 | dK {a:AD} {kvs:List (mh×V)} (e:H a=some (.dK kvs)):gW K H (.ref a) (.type "dict")
 | dT {a:AD} {kvs:List (List mh×V)} (e:H a=some (.dT kvs)):gW K H (.ref a) (.type "dict")
 | ins {a C dx:AD} {fs:List (Str×V)} (e:H a=some (.ins C dx fs)) (cl:rC K C) (ha:findIn K (.ref C) "__class__"=some (some (.builtin "object.__class__")))
   (hn:specialIn K (.builtin "object.__class__") "__get__"=some (some (.builtin "getset_descriptor.__get__"))) (htk:takesIn K (.builtin "object.__class__")=some true)
   (hm:mroIn K C (.type "object")=some true):gW K H (.ref a) (.ref C)
def Zj9 (I:lO X Ao U H s)(rx:ft x u)(ty:gW X.K H x t)(e:kitOne X.K t c=some b)(h:∀tk,Q (.bool b) { s with toks:=tk }):
  wpAny (model X.prog X.w) A (call (.builtin "isinstance") [u,c]) Q E s:=by
 cases ty with
 | non=>cases (show u=Value.none from rx);exact qJ PySem.W.kitx_none I.kIn True.intro e (λz=>nomatch z) h
 | bl y=>cases (show u=Value.bool y from rx);exact qJ PySem.W.kitx_bool I.kIn True.intro e (λz=>nomatch z) h
 | int i=>obtain⟨t,q⟩:=(show ∃t,u=Value.int i t from rx);cases q;exact qJ PySem.W.kitx_int I.kIn True.intro e (λz=>nomatch z) h
 | str y=>obtain⟨t,q⟩:=(show ∃t,u=Value.str y t from rx);cases q;exact qJ PySem.W.kitx_str I.kIn True.intro e (λz=>nomatch z) h
 | flt y=>obtain⟨t,q⟩:=(show ∃t,u=Value.float y t from rx);cases q;exact qJ PySem.W.kitx_float I.kIn True.intro e (λz=>nomatch z) h
 | @lst a xs ea=>
  cases (show u=Value.ref a from rx);obtain⟨_,_,n,_,h1⟩:=(show fJ X.prog X.w H s.heap a (.lst xs) from I.hok a _ ea);exact qJ kitx_list I.kIn ⟨_,h1,rfl⟩ e (λz=>nomatch z) h
 | @frz a ob xs ea=>
  cases (show u=Value.ref a from rx);obtain⟨_,_,_,n,_,h1⟩:=(show fJ X.prog X.w H s.heap a (.frz ob (.lst xs)) from I.hok a _ ea);exact qJ kitx_list I.kIn ⟨_,h1,rfl⟩ e (λz=>nomatch z) h
 | @tup a xs ea=>
  cases (show u=Value.ref a from rx);obtain⟨_,_,_,p⟩:=(show fJ X.prog X.w H s.heap a (.tup xs) from I.hok a _ ea);obtain⟨o,h1,h2,_⟩:=p;exact qJ kitx_tuple I.kIn ⟨o,h1,h2⟩ e (λz=>nomatch z) h
 | @dK a kvs ea=>
  cases (show u=Value.ref a from rx);obtain⟨_,_,vs,_,p⟩:=(show fJ X.prog X.w H s.heap a (.dK kvs) from I.hok a _ ea);obtain⟨o,es,ep,h1,h2,_⟩:=p;exact qJ kitx_dict I.kIn ⟨o,h1,h2.1⟩ e (λz=>nomatch z) h
 | @dT a kvs ea=>
  cases (show u=Value.ref a from rx);obtain⟨_,_,xs,_,o,es,ep,h1,h2,_⟩:=(show fJ X.prog X.w H s.heap a (.dT kvs) from I.hok a _ ea);exact qJ kitx_dict I.kIn ⟨o,h1,h2.1⟩ e (λz=>nomatch z) h
 | @ins a C dx fs ea cl ha hn htk hm=>
  cases (show u=Value.ref a from rx);obtain⟨mA,O,_⟩:=zc I.hok ea;obtain⟨od,J,_⟩:=O.look;exact qJ (PySem.W.kitx_own (cl.get _) cl.hd ha hn htk hm) I.kIn J e (λz=>nomatch z) h
end
structure fX (k:Nat)(A:AH):Prop where
 hd:A.handled=none
 dp:A.depth+3*k+5<recursionLimit
 un:A.units+16*k+200<cLine
def fX.mono (r:fX k A)(h:j<=k):fX j A:=⟨r.hd,by have:=r.dp;lia,by have:=r.un;lia⟩
def fX.deeper (r:fX (k+1) A)(env:Env):fX k (A.deeper env):=
 ⟨r.hd,by have:=r.dp;show A.depth+1+3*k+5<_;lia,by have:=r.un;show A.units+3+16*k+200<_;lia⟩
def ZiD {A:AH}{C:AD}{us:AC}{kw:List (Str×Value)}:(A.under (.builtin "type.__call__" ⟨.ref C::us,kw⟩)).depth=A.depth+1:=by
 first | rfl | simp[Around.under,Code.weight,Code.isCreation,Code.isGuard,Code.isCaller,Code.frames,Code.isFrame,guardIds]
def ZiC {A:AH}{C:AD}{us:AC}{kw:List (Str×Value)}:(A.under (.builtin "type.__call__" ⟨.ref C::us,kw⟩)).units=A.units+1:=by
 first | rfl | simp[Around.under,Code.cUnits,Code.frames,Code.isFrame]
def fX.make (r:fX (k+1) A)(C:AD)(us:AC)(kw:List (Str×Value)):fX k (A.under (.builtin "type.__call__" ⟨.ref C::us,kw⟩)):=
 ⟨r.hd,by have:=r.dp;rw[ZiD];lia,by have:=r.un;rw[ZiC];lia⟩
def fX.depth (r:fX k A):A.depth<recursionLimit:=by have:=r.dp;lia
def fX.units (r:fX k A):A.units+64<cLine:=by have:=r.un;lia
def je:TA:=λ_ H Q=>Q [] H
def BR (ta:TE)(tr:TA):TA:=λU H Q=>ta U H λx H1=>tr U H1 λxs H2=>Q (x::xs) H2
section
def lQ:PA X [] je:=λ_ _ _ _ H Q I h=>vD ⟨[],H,I,.nil,h⟩
def lM (ha:PE X e te)(hr:PA X es t)(hs:starEach (e::es) X.env=(false,eval e X.env)::starEach es X.env:=by rfl):PA X (e::es) (BR te t):=by intro pos Ao s U H Q I h;rw[hs];show wpAny _ _ (spliced ((false,eval e X.env)::backTo pos (starEach es X.env))) _ _ s;refine uj (mB (ha Ao s U H _ I h) λu s1 zz=>?_);obtain⟨x,H1,I1,r1,q1⟩:=zz;exact mB (hr pos Ao s1 U H1 _ I1 q1) λus s2 ⟨xs,H2,I2,r2,q2⟩=>⟨x::xs,H2,I2,.cons r1 r2,q2⟩
def tTup (t:TA):TE:=λU H Q=>t U H λxs H1=>xs.length<=sizeLine/\∀p,H1 p=none->Q (.ref p) (upd H1 p (.tup xs))
def tLst (t:TA):TE:=λU H Q=>t U H λxs H1=>xs.length<=sizeLine/\∀p,H1 p=none->Q (.ref p) (upd H1 p (.lst xs))
def qQ {x1}(h:PA X es t):PE X (.Tuple es x1 pos) (tTup t):=by intro Ao s U H Q I hq;refine wpAny_Tuple_spliced (mB (h pos Ao s U H _ I hq) λus s1 ⟨xs,H1,I1,r,z,q⟩=>⟨by rw[<-r.length];exact z,?_⟩);have hf:H1 s1.heap.objs.size=none:=I1.hok.fresh (mC _);refine⟨.ref s1.heap.objs.size,upd H1 s1.heap.objs.size (.tup xs),I1.laid (t':=s1.toks) (λb u e=>mR _ e) (mC _) ?_,rfl,q _ hf⟩;exact⟨z,us,r,⟨_,nV _ rfl,rfl,_,rfl⟩⟩
def qi (h:PA X es t):PE X (.List es pos) (tLst t):=by intro Ao s U H Q I hq;refine wpAny_List_spliced (mB (h pos Ao s U H _ I hq) λus s1 ⟨xs,H1,I1,r,z,q⟩=>⟨by rw[<-r.length];exact z,?_⟩);have hf:H1 s1.heap.objs.size=none:=I1.hok.fresh (mC _);refine⟨.ref s1.heap.objs.size,upd H1 s1.heap.objs.size (.lst xs),I1.laid (t':=s1.toks) (λb u e=>mR _ e) (mC _) ?_,rfl,q _ hf⟩;exact⟨z,us,0,r,nV _ rfl⟩
end
abbrev Sp:=IJ->Hp->VK->XK->Prop
abbrev sC:=List Env->Hp->AE->XK->Value->AE->Prop
structure iL (P:AG)(w:AI)(K:ma)(mg:AB)(base:Heap)(A:AH)(outer:List Env)(s:AE)(H:Hp):Prop where
 frames:A.frames=some outer
 mod:Mod K mg base
 bs:∀b o,base.get? b=some o->s.heap.get? b=some o/\H b=none
 bsz:base.objs.size<=s.heap.objs.size
 funs:s.heap.FunFrames base outer
 frf:∀b∈oz outer,H b=none
 hok:nZ P w H s.heap
 bare:AllBare s.gens
def CE (outer:List Env)(P:AG)(w:AI)(H:Hp)(s:AE)(Q:VK)(u:Value)(s':AE):Prop:=
 ∃v H',s'.os=s.os/\AllBare s'.gens/\Un (oz outer) [] H H' s.heap s'.heap/\nZ P w H' s'.heap/\ft v u/\Q v H'
def CR (CX:sC)(outer:List Env)(P:AG)(w:AI)(H:Hp)(s:AE)(Q:VK)(E:XK)(r:Result)(s':AE):Prop:=
 match r with
 | .ok (.ret u)=>CE outer P w H s Q u s'
 | .ok _=>False
 | .error e=>CX outer H s E e s'
structure fB (P:AG)(w:AI)(K:ma)(mg:AB)(base:Heap)(CX:sC)(k:Nat)(f:AD)(fd:AF)(ps:AJ)(sp:Sp):Prop where
 len:∀vs H Q E,sp vs H Q E->vs.length=ps.length
 run:∀(A:AH) (outer:List Env) (s:AE) (H:Hp) (args:Args) (us:AC) (vs:IJ) (Q:VK) (E:XK),fX k A->iL P w K mg base A outer s H->BindsTo s fd args (ps.zip us)->fi vs us->sp vs H Q E ->
  codeAny (model P w) A (.call (.ref f) args) (CR CX outer P w H s Q E) s
def iL.make {P:AG}{w:AI}{K:ma}{mg:AB}{base:Heap}{A:AH}{outer:List Env}{s:AE}{H:Hp}(e:iL P w K mg base A outer s H)(C:AD)(us:AC)(kw:List (Str×Value)):
  iL P w K mg base (A.under (.builtin "type.__call__" ⟨.ref C::us,kw⟩)) outer s H:=⟨by first | exact e.frames | (simpa [Around.under,Code.envs,Code.isFrame,pushEnvs] using e.frames),e.mod,e.bs,e.bsz,e.funs,e.frf,e.hok,e.bare⟩
section
def lO.env0 (I:lO X Ao U H s):iL X.prog X.w X.K X.mg X.base X.A X.stack s H:=
 ⟨I.ok.frames,I.ok.mod,I.bs,mO I.ok.bsz I.sz,I.stack,I.stkFree,I.hok,I.bare⟩
def lO.after (I:lO X Ao U H s)(h:CE X.stack X.prog X.w H s Q u s'):EP X Ao U Q u s':=by obtain⟨v,H',os,bare,un,hok,r,q⟩:=h;obtain⟨hh,g,d,t,os'⟩:=s';obtain rfl:os'=s.os:=os;exact⟨v,H',I.call (h':=hh) (g':=g) (d':=d) (t':=t) (ch:=[]) un hok bare (λb z=>IG z {}),r,q⟩
end
def zp (sp:Sp)(Az:IJ)(E:XK)(t:TA):TE:=λU H Q=>t U H λvs H1=>sp (vs++Az) H1 Q E
def Ch (C:AD)(m:Str)(sp:Sp)(Az:IJ)(E:XK)(ta:TE)(t:TA):TE:=λU H Q=>ta U H λx H1=>∃a dx fs,x=.ref a/\H1 a=some (.ins C dx fs)/\fs.lookup m=none /\
 t U H1 λvs H2=>sp (x::(vs++Az)) H2 Q E
def Ev (C:AD)(sp:Sp)(Az:IJ)(E:XK)(t:TA):TE:=λU H Q=>t U H λvs H1=>∀x dx,H1 x=none->H1 dx=none->dx≠x ->
 sp (.ref x::(vs++Az)) (upd (upd H1 dx (.own x)) x (.ins C dx [])) (λv H2=>v=.non/\Q (.ref x) H2) E
def gb (K:ma)(fd:AF)(ps:AJ)(ds:AC):Prop:=
 ∀(s:AE) (us:AC),K.In s.heap->(us++ds).length=ps.length->BindsTo s fd ⟨us,[]⟩ (ps.zip (us++ds))
def gb.all {K:ma}{fd:AF}{ps:AJ}(h:∀us:AC,us.length=ps.length->bindArgs fd ⟨us,[]⟩=pure (ps.zip us)):gb K fd ps []:=λs us _ hl=>by rw[sM]at hl ⊢;exact .of_eq (h us hl)
def rQ (CX:sC)(X:Cx)(E:XK):Prop:=∀(Ao:AA) (U:St) (H:Hp) (s:AE) (e:Value) (s':AE),lO X Ao U H s->CX X.stack H s E e s'->X.xe e s'
section
def zU (F:fB X.prog X.w X.K X.mg X.base CX k f fd ps sp)(hr:fX k X.A)(hb:gb X.K fd ps ds)(hd:fi Az ds)(hx:rQ CX X E)
  (I:lO X Ao U H s) (r:fi vs us) (h:sp (vs++Az) H Q E):wpAny (model X.prog X.w) X.A (call (.ref f) us) (EP X Ao U Q) X.xe s:=by
 have r2:fi (vs++Az) (us++ds):=r.append hd;have hl:(us++ds).length=ps.length:=by rw[<-r2.length];exact F.len _ _ _ _ h
 refine tE (codeAny_mono (F.run X.A X.stack s H ⟨us,[]⟩ (us++ds) (vs++Az) Q E hr I.env0 (hb s us I.kIn hl) r2 h) λr s' hq=>?_);cases r with
 | error e=>exact hx Ao U H s e s' I hq
 | ok fl=>
  cases fl with
  | ret u=>exact I.after hq
  | next=>exact False.elim hq
  | brk=>exact False.elim hq
  | cont=>exact False.elim hq
def Zm7 (F:fB X.prog X.w X.K X.mg X.base CX k f fd ps sp)(hr:fX k X.A)(hg:Gl X x)(hm:X.mg x=some (.ref f))(hk:keepIn X.K (.ref f)=true)(hb:gb X.K fd ps ds)(hd:fi Az ds)(hx:rQ CX X E)
  (ha:PA X (e::es) t) (hdb:(x == ("__debug__":Str))=false:=by decide) (he:starEach (e::es) X.env=(false,eval e X.env)::starEach es X.env:=by rfl) (hpl:(backTo pos (starEach es X.env)).any (·.1)=false:=by rfl):
  PE X (.Call (.Name x p) (e::es) [] pos) (zp sp Az E t):=by
 intro Ao s U H Q I h;refine vn (u6 I hg hm ?_ hdb);refine w8 (h₀:=X.base) I.ok.mod.kin hk (mB (ha pos Ao s U H _ I h) λus s1 ⟨vs,H1,I1,r,q⟩=>⟨I1.kIn,?_⟩) he hpl;exact zU F hr hb hd hx I1 r q
def qW (he:PE X o ta)(c:rC X.K C)(hm:gM X.K C m f)(F:fB X.prog X.w X.K X.mg X.base CX k f fd ps sp)(hr:fX k X.A)(hb:gb X.K fd ps ds)(hd:fi Az ds)(hx:rQ CX X E)(ha:PA X (e::es) t)
  (hst:starEach (e::es) X.env=(false,eval e X.env)::starEach es X.env:=by rfl) (hpl:(backTo pos (starEach es X.env)).any (·.1)=false:=by rfl)
  (ht:eval (.Call (.Attribute o m Au) (e::es) [] pos) X.env=(do
   let ov <-eval o X.env
   standAt Au.atName
   let (f,first) <-holding [ov] (getMethod ov m pl)
   callWith pos f first (backTo pos (starEach (e::es) X.env)) (backToKw pos (keywordEach [] X.env))):=by rfl):
  PE X (.Call (.Attribute o m Au) (e::es) [] pos) (Ch C m sp Az E ta t):=by
 intro Ao s U H Q I h;refine zg (pl:=pl) (mB (he Ao s U H _ I h) λu s1 zz=>?_) ht;obtain⟨x,H1,I1,rx,a,dx,fs,ex,ea,l,q⟩:=zz;subst ex;obtain rfl:u=Value.ref a:=rx;refine F5 I1 ea c hm l ?_;refine w8 (first:=[.ref a]) (h₀:=X.base) I.ok.mod.kin hm.kp (mB (ha pos Ao s1 U H1 _ I1 q) λus s2 ⟨vs,H2,I2,r,q2⟩=>⟨I2.kIn,?_⟩) hst hpl;exact zU (us:=.ref a::us) (vs:=.ref a::vs) F hr hb hd hx I2 (.cons rfl r) q2
def sO (he:PE X o ta)(c:rC X.K C)(hm:gM X.K C m f)(F:fB X.prog X.w X.K X.mg X.base CX k f fd ps sp)(hr:fX k X.A)(hb:gb X.K fd ps ds)(hd:fi Az ds)(hx:rQ CX X E)
  (ht:eval (.Call (.Attribute o m Au) [] [] pos) X.env=(do
   let ov <-eval o X.env
   standAt Au.atName
   let (f,first) <-holding [ov] (getMethod ov m pl)
   callWith pos f first (backTo pos (starEach [] X.env)) (backToKw pos (keywordEach [] X.env))):=by rfl):
  PE X (.Call (.Attribute o m Au) [] [] pos) (Ch C m sp Az E ta je):=by
 intro Ao s U H Q I h;refine zg (pl:=pl) (mB (he Ao s U H _ I h) λu s1 zz=>?_) ht;obtain⟨x,H1,I1,rx,a,dx,fs,ex,ea,l,q⟩:=zz;subst ex;obtain rfl:u=Value.ref a:=rx;refine F5 I1 ea c hm l ?_;exact PySem.W.callWith_K0 (first:=[.ref a]) I1.kIn hm.kp (zU (us:=[.ref a]) (vs:=[.ref a]) F hr hb hd hx I1 (.cons rfl .nil) q)
structure Mk (K:ma)(C f:AD):Prop where
 makes:makesIn K C=true
 init:findIn K (.ref C) "__init__"=some (some (.ref f))
 fn:isFn K (.ref f)=true
 kp:keepIn K (.ref C)=true
def ZkV (M:Mk X.K C f)(F:fB X.prog X.w X.K X.mg X.base CX k f fd ps sp)(hr:fX (k+1) X.A)(hb:gb X.K fd ps ds)(hd:fi Az ds)
  (hx:rQ CX X E) (I:lO X Ao U H s) (r:fi vs us)
  (h:∀x dx,H x=none->H dx=none->dx≠x->sp (.ref x::(vs++Az)) (upd (upd H dx (.own x)) x (.ins C dx [])) (λv H2=>v=.non/\Q (.ref x) H2) E):
  wpAny (model X.prog X.w) X.A (call (.ref C) us) (EP X Ao U Q) X.xe s:=by
 have hq:=h (s.heap.objs.size+1) s.heap.objs.size (I.hok.fresh (sw _)) (I.hok.fresh (mC _)) (nM (Nat.lt_succ_self _));have I2:=lO.made (C:=C) I;have r2:fi (V.ref (s.heap.objs.size+1)::(vs++Az)) (Value.ref (s.heap.objs.size+1)::(us++ds)):=.cons rfl (r.append hd);have hl:(Value.ref (s.heap.objs.size+1)::us++ds).length=ps.length:=by have e:=r2.length;rw[F.len _ _ _ _ hq]at e;exact e.symm
 refine tE (Zli (f:=f) I.kIn M.makes M.init (beq_iff_eq.mp M.fn) (codeAny_mono (F.run _ X.stack _ _ ⟨Value.ref (s.heap.objs.size+1)::us,[]⟩ (Value.ref (s.heap.objs.size+1)::(us++ds)) _ _ E (hr.make C us [])
  (I2.env0.make C us []) (hb _ (Value.ref (s.heap.objs.size+1)::us) I2.kIn hl) r2 hq) λr s' hq'=>?_))
 cases r with
 | error e=>exact hx Ao U _ _ e s' I2 hq'
 | ok fl=>
  cases fl with
  | ret u=>
   obtain⟨v,H',I3,rv,ev,q3⟩:=I2.after hq';subst ev;exact⟨rv,⟨V.ref (s.heap.objs.size+1),H',I3,rfl,q3⟩⟩
  | next=>exact False.elim hq'
  | brk=>exact False.elim hq'
  | cont=>exact False.elim hq'
def CS (M:Mk X.K C f)(F:fB X.prog X.w X.K X.mg X.base CX k f fd ps sp)(hr:fX (k+1) X.A)(hg:Gl X x)(hm:X.mg x=some (.ref C))(hb:gb X.K fd ps ds)(hd:fi Az ds)(hx:rQ CX X E)
  (ha:PA X (e::es) t) (hdb:(x == ("__debug__":Str))=false:=by decide) (he:starEach (e::es) X.env=(false,eval e X.env)::starEach es X.env:=by rfl) (hpl:(backTo pos (starEach es X.env)).any (·.1)=false:=by rfl):
  PE X (.Call (.Name x p) (e::es) [] pos) (Ev C sp Az E t):=by
 intro Ao s U H Q I h;refine vn (u6 I hg hm ?_ hdb);refine w8 (h₀:=X.base) I.ok.mod.kin M.kp (mB (ha pos Ao s U H _ I h) λus s1 ⟨vs,H1,I1,r,q⟩=>⟨I1.kIn,?_⟩) he hpl;exact ZkV M F hr hb hd hx I1 r q
end
section
end
structure fg (N P:AJ)(sc:Scope):Prop where
 kind:sc.kind=.function
 co:sc.isCoroutine=false
 gen:sc.isGenerator=false
 nd:N.Nodup
 pre:N.take P.length=P
 par:∀x∈P,sc.names.lookup x=some .local\/sc.names.lookup x=some .cell
 nofree:∀y∈sc.names,y.2≠.free
theorem GB {kindOf:Str->Option NameKind}{x:Str}:∀ {binds:List (Str×Value)} {m:AB},(∀v,(x,v)∉binds)->bindL kindOf binds m x=m x
 | [],_,_=>rfl
 | (n,v)::r,m,h=>by
  unfold bindL;rw[GB λw hw=>h w (oV _ hw)];split
  .have:x≠n:=by rintro rfl;exact h v o7
   simp[this]
  .rfl
theorem Gg {kindOf:Str->Option NameKind}{x:Str}:∀ {binds:List (Str×Value)} {m:AB},(∀v,(x,v)∉binds)->bindC kindOf binds m x=m x
 | [],_,_=>rfl
 | (n,v)::r,m,h=>by
  unfold bindC;rw[Gg λw hw=>h w (oV _ hw)];split
  .rfl
  .have:x≠n:=by rintro rfl;exact h v o7
   simp[this]
theorem GI {kindOf:Str->Option NameKind}{x:Str}{v:Value}:∀ {P:AJ} {vs:AC} {i:Nat} {m:AB},P.Nodup->P[i]?=some x->vs[i]?=some v->kindOf x=some .local ->
  bindL kindOf (P.zip vs) m x=some v
 | [],_,_,_,_,h,_,_=>by simp at h
 | _::_,[],_,_,_,_,h,_=>by simp at h
 | p::P,w::vs,0,m,nd,h1,h2,hk=>by
  simp at h1 h2;subst h1;subst h2;show bindL kindOf ((p,w)::P.zip vs) m p=_;unfold bindL;rw[GB λv hv=>(rM.mp nd).1 (List.of_mem_zip hv).1,lU hk];simp
 | p::P,w::vs,i+1,m,nd,h1,h2,hk=>by show bindL kindOf ((p,w)::P.zip vs) m x=_;unfold bindL;exact GI (i:=i) (rM.mp nd).2 (~~~h1) (~~~h2) hk
theorem Hn {kindOf:Str->Option NameKind}{x:Str}{v:Value}:∀ {P:AJ} {vs:AC} {i:Nat} {m:AB},P.Nodup->P[i]?=some x->vs[i]?=some v->kindOf x≠some .local ->
  bindC kindOf (P.zip vs) m x=some v
 | [],_,_,_,_,h,_,_=>by simp at h
 | _::_,[],_,_,_,_,h,_=>by simp at h
 | p::P,w::vs,0,m,nd,h1,h2,hk=>by
  simp at h1 h2;subst h1;subst h2;show bindC kindOf ((p,w)::P.zip vs) m p=_;unfold bindC;rw[Gg λv hv=>(rM.mp nd).1 (List.of_mem_zip hv).1,lT hk];simp
 | p::P,w::vs,i+1,m,nd,h1,h2,hk=>by show bindC kindOf ((p,w)::P.zip vs) m x=_;unfold bindC;exact Hn (i:=i) (rM.mp nd).2 (~~~h1) (~~~h2) hk
noncomputable def start (N:AJ)(vs:IJ):St:=vs.map some++List.replicate (N.length-vs.length) none
noncomputable def gE (CX:sC)(P:AG)(w:AI)(K:ma)(mg:AB)(base:Heap)(N:AJ)(qual:Str)(scope:Scope)(f:AD)(cd:Value)(A:AH)(outer:List Env)(s:AE)(H:Hp)(E:XK):Cx where
 prog:=P
 w:=w
 K:=K
 mg:=mg
 base:=base
 A:=A.deeper (envOfC qual scope s.heap.objs.size f cd)
 N:=N
 s_0:=s
 H_0:=H
 env:=envOfC qual scope s.heap.objs.size f cd
 outer:=outer
 stack:=envOfC qual scope s.heap.objs.size f cd::outer
 ex:=[]
 calm:=true
 fn:=λ_=>true
 pn:=[]
 xe:=λe s'=>wpAny (model P w) (A.deeper (envOfC qual scope s.heap.objs.size f cd)) (leaving (envOfC qual scope s.heap.objs.size f cd) e) (λ_ s''=>CX outer H s E e s'') (λe' s''=>CX outer H s E e' s'') s'
def E9 {sc:Scope}{n:Nat}{x:Str}(h:sc.names.lookup x=some .cell):∃c,(cellsFrom n sc.names []).lookup x=some c:=by have q:=cellsFrom_some sc.names n [] (.inl h);exact Option.isSome_iff_exists.mp q
def Zkb {CX:sC}{P:AG}{w:AI}{K:ma}{mg:AB}{base:Heap}{N ps:AJ}{qual:Str}{scope:Scope}{f:AD}{cd:Value}{A:AH}{outer:List Env}{s s1:AE}{H:Hp}{E:XK}{us:AC}{vs:IJ}
  (S:fg N ps scope) (hd:A.handled=none) (e0:iL P w K mg base A outer s H) (hl:vs.length=ps.length) (r:fi vs us)
  (x:InCallC s s.heap.objs.size (bindL (envOfC qual scope s.heap.objs.size f cd).kindOf (ps.zip us) λ_=>none) (cellsFrom (s.heap.objs.size+1) scope.names []) (bindC (envOfC qual scope s.heap.objs.size f cd).kindOf (ps.zip us) λ_=>none) s1):
  lO (gE CX P w K mg base N qual scope f cd A outer s H E) [] (start N vs) H s1:=by
 have hpl:ps.length<=N.length:=by have:=IF List.length S.pre;rw[nG]at this;lia
 obtain⟨h1,tk,rfl,hk⟩:=x.done;have noA:∀b:AD,b∉(gE CX P w K mg base N qual scope f cd A outer s H E).ex:=λb z=>IG (show b∈([]:List AD) from z) {};refine⟨⟨e0.mod,S.kind,rfl,rfl,mC _,λy z c h1 h2=>?_,λy hy=>?_,λy c _ h=>?_,λ_=>hd,Around.frames_deeper e0.frames,.inr ⟨rfl,rfl⟩,λb z=>IG z (noA b),e0.bs,e0.bsz,λb _ _=>noA b,λb z=>IG z (noA b),e0.funs,e0.frf⟩,
  rfl,e0.bare,Un.kept hk,⟨_,x.toInCall.ns,λi y v h1 h2 h3=>?_⟩,λy c h=>⟨_,x.cell y c h⟩,e0.hok.fresh (mC _),λy c h=>?_,λp hp=>IG (show p∈([]:AA) from hp) {},e0.hok.kept hk,?_⟩
 .exact name_of_addr x.apart (uX h1) (uX h2)
 .have hy:scope.names.lookup y=some .cell\/scope.names.lookup y=some .free:=hy;rcases hy with hy | hy
  .exact E9 hy
  .exact IG rfl (S.nofree _ (uX hy))
 .exact Nat.le_of_lt (x.above y c (uX h))
 .have hi:i<vs.length:=by
   unfold start at h2;by_cases hi:i<vs.length
   .exact hi
   .rw[qu (~~~hi)]at h2;rw[List.getElem?_replicate]at h2;split at h2<;>cases h2
  have ha:vs[i]?=some v:=by
   unfold start at h2;rw[py (~~~hi),om]at h2;cases e:vs[i]? with
   | none=>rw[e]at h2;cases h2
   | some a=>rw[e]at h2;cases h2;rfl
  obtain⟨u,hu,rv⟩:=r.get ha;have hp:ps[i]?=some y:=by rw[<-S.pre,List.getElem?_take_of_lt ∅];exact h1
  have ndP:ps.Nodup:=by rw[<-S.pre];exact S.nd.sublist (vm _ _)
  refine⟨u,rv,?_⟩;rcases S.par y (oW hp) with k | k
  .exact .inl ⟨k,GI ndP hp hu k⟩
  .obtain⟨c,e⟩:=E9 (n:=s.heap.objs.size+1) k;refine .inr ⟨.inl k,c,e,?_⟩;have q:=x.cell y c e;rw[Hn ndP hp hu (by show scope.names.lookup y≠_;rw[k];decide)]at q;exact q
 .exact e0.hok.fresh (Nat.le_of_lt (x.above y c (uX h)))
 .unfold start;show _=N.length;rw[mP,lZ,List.length_replicate]
  lia
def BY {CX:sC}{P:AG}{w:AI}{K:ma}{mg:AB}{base:Heap}{k:Nat}{f:AD}{name qual:Str}{params:Arguments}{body:List Stmt}{scope:Scope}{dV kV doc pm Ap ct oc:Value}{an od:Option AD}
  {osl:Array (Option Value)} {N ps:AJ} {sp:Sp} (lk:K.lookup f=some ⟨oc,od,.func (fnOf name qual params body scope dV kV doc pm an Ap ct),osl⟩) (hcd:codeIn K Ap qual=true) (S:fg N ps scope)
  (len:∀vs H Q E,sp vs H Q E->vs.length=ps.length)
  (hbody:∀(A:AH) (outer:List Env) (s:AE) (H:Hp) (vs:IJ) (Q:VK) (E:XK),fX k (A.deeper (envOfC qual scope s.heap.objs.size f Ap))->sp vs H Q E ->
   ∃t,ql (gE CX P w K mg base N qual scope f Ap A outer s H E) body t/\t { nx:=λ_ H'=>Q .non H',rt:=Q } (start N vs) H):
  fB P w K mg base CX (k+1) f (fnOf name qual params body scope dV kV doc pm an Ap ct) ps sp:=by
 refine⟨len,λA outer s H args us vs Q E hr e0 hb r hsp=>?_⟩;have hl:=len _ _ _ _ hsp;have KX:K.In s.heap:=e0.mod.kin.keeps λb o e=>(e0.bs b o e).1;have lim:s.heap.NoLimit:=e0.mod.nolimit.keeps λb o e=>(e0.bs b o e).1;have hkind:∀y∈ps.zip us,scope.names.lookup y.1=some .local\/(scope.names.lookup y.1=some .cell/\((cellsFrom (s.heap.objs.size+1) scope.names []).lookup y.1).isSome=true):=λ⟨n,v⟩ hy=>by
  rcases S.par n (List.of_mem_zip hy).1 with q | q
  .exact .inl q
  .exact .inr ⟨q,cellsFrom_some _ _ _ (.inl q)⟩
 refine codeAny_call_function hr.depth (KX _ _ lk) rfl S.co S.gen rfl (PySem.W.codeRec_of KX hcd) (hb _ _ _ _ ?_);refine wpAny_newFunctionEnv_cells S.kind hkind λenv he s1 x=>?_;subst he;refine⟨lim.keeps x.toInCall.keep,codeAny_func ?_⟩;obtain⟨t,ht,hq⟩:=hbody A outer s H vs Q E (hr.deeper _) hsp;have I:lO (gE CX P w K mg base N qual scope f Ap A outer s H E) [] (start N vs) H s1:=Zkb S hr.hd e0 hl r x;refine pG (ht [] s1 (start N vs) H _ I hq) (λfl s' hs=>?_) λe s' hs=>hs;have fin:∀ {U':St} {H':Hp} {v:V} {u:Value},lO (gE CX P w K mg base N qual scope f Ap A outer s H E) [] U' H' s'->ft v u->Q v H'->CE outer P w H s Q u s':=
  λ{U' H' v u} J rv q=>⟨v,H',J.os,J.bare,J.base,J.hok,rv,q⟩
 cases fl with
 | ret u=>
  obtain⟨v,U',H',J,rv,q⟩:=hs;exact fin J rv q
 | next=>
  obtain⟨U',H',J,q⟩:=hs;exact fin (v:=V.non) (u:=Value.none) J rfl q
 | brk=>
  obtain⟨_,_,_,q⟩:=hs;exact False.elim q
 | cont=>
  obtain⟨_,_,_,q⟩:=hs;exact False.elim q
section
variable {X:Cx}{x:Str}{p pos:Pos}{e:Expr}{es:List Expr}{t:TA}{id T:String}{r:IJ->Hp->VK->Prop}
def zf (r:IJ->Hp->VK->Prop)(t:TA):TE:=λU H Q=>t U H λvs H1=>r vs H1 Q
def mZ (hc:pR X (.builtin id) r) (hg:Gl X x) (hm:X.mg x=none) (hv:bootBuiltins x=some (.builtin id)) (ha:PA X (e::es) t) (hn:x≠"__name__":=by decide) (hdb:(x == ("__debug__":Str))=false:=by decide)
  (he:starEach (e::es) X.env=(false,eval e X.env)::starEach es X.env:=by rfl) (hpl:(backTo pos (starEach es X.env)).any (·.1)=false:=by rfl):PE X (.Call (.Name x p) (e::es) [] pos) (zf r t):=by
 intro Ao s U H Q I h;refine vn (vV I hg hm hv ?_ hn hdb);exact Ce (mB (ha pos Ao s U H _ I h) λus s1 ⟨vs,H1,I1,r1,q1⟩=>hc Ao s1 U H1 vs us Q I1 r1 q1) he hpl
def sK (hc:pR X (.type T) r) (hg:Gl X x) (hm:X.mg x=none) (hv:bootBuiltins x=some (.type T)) (ha:PA X (e::es) t) (hn:x≠"__name__":=by decide) (hdb:(x == ("__debug__":Str))=false:=by decide)
  (he:starEach (e::es) X.env=(false,eval e X.env)::starEach es X.env:=by rfl) (hpl:(backTo pos (starEach es X.env)).any (·.1)=false:=by rfl):PE X (.Call (.Name x p) (e::es) [] pos) (zf r t):=by
 intro Ao s U H Q I h;refine vn (vV I hg hm hv ?_ hn hdb);exact zw (mB (ha pos Ao s U H _ I h) λus s1 ⟨vs,H1,I1,r1,q1⟩=>hc Ao s1 U H1 vs us Q I1 r1 q1) he hpl
end
end L2
namespace HT
open PySem PyProof.Rows
section
open PySem.SeqAt
open PySem.AutoSeq1 (wpAny_loadPart')
open PySem.MeetsSeq PySem.MeetsSeq2 PySem.MeetsSeq3
end
section
noncomputable def sIx (n d:Nat):Option Int->Nat
 | none=>d
 | some v=>if v<0 then (v+(n:Int)).toNat else min v.toNat n
def sIx_none (n d:Nat):sIx n d none=d:=rfl
def sIx_nat (n d k:Nat):sIx n d (some (k:Int))=min k n:=by show (if (k:Int)<0 then ((k:Int)+(n:Int)).toNat else min (k:Int).toNat n)=min k n;rw[lT ∅,ve]
def sIx_le (n d:Nat)(hd:d<=n)(o:Option Int):sIx n d o<=n:=by
 cases o with
 | none=>exact hd
 | some v=>
  show (if v<0 then (v+(n:Int)).toNat else min v.toNat n)<=n;by_cases hv:v<0
  .rw[lU hv];lia
  .rw[lT hv];exact Nat.min_le_right _ _
def clip_eq (v:Int)(n d:Nat):(if v<0 then max (v+(n:Int)) 0 else min v (n:Int))=((sIx n d (some v):Nat):Int):=by
 show (if v<0 then max (v+(n:Int)) 0 else min v (n:Int))=(((if v<0 then (v+(n:Int)).toNat else min v.toNat n):Nat):Int);by_cases hv:v<0
 .simp only[lU hv];lia
 .simp only[lT hv];lia
end
end HT
namespace L2
open PySem PySem.Spec PyProof.Rows
abbrev TO:=St->Hp->(Option Int->Hp->Prop)->Prop
def PO (X:Cx)(e:Option Expr)(t:TO):Prop:=
 ∀(Ao:AA) (s:AE) (U:St) (H:Hp) (Q:Option Int->Hp->Prop),lO X Ao U H s->t U H Q ->
  wpAny (model X.prog X.w) X.A (evalPart e X.env) (λu s'=>∃o H',lO X Ao U H' s'/\IsPart u o/\Q o H') X.xe s
def iR:TO:=λ_ H Q=>Q none H
def Ix (t:TE):TO:=λU H Q=>t U H λx H1=>∃i,x=.int i/\Q (some i) H1
section
variable {X:Cx}{e:Expr}{te:TE}{lo hi:Option Expr}{tl th:TO}{pos p2:Pos}
def o5:PO X none iR:=by intro Ao s U H Q I h;rw[evalPart_none];exact mf ⟨none,H,I,.none,h⟩
def nX (h:PE X e te):PO X (some e) (Ix te):=by intro Ao s U H Q I hw;rw[evalPart_some];refine mB (h Ao s U H _ I hw) λu s1 zz=>?_;obtain⟨x,H1,I1,r1,q1⟩:=zz;obtain⟨i,rfl,q⟩:=q1;obtain⟨t,rfl⟩:=r1;exact⟨some i,H1,I1,.int i t,q⟩
def A3 (X:Cx)(r:V->Option Int->Option Int->Hp->VK->Prop):Prop:=
 ∀(Ao:AA) (s:AE) (U:St) (H:Hp) (x:V) (v vl vu:Value) (lo hi:Option Int) (sl:AD) (Q:VK),lO X Ao U H s->ft x v->s.heap.IsSliceOf sl vl vu .none->IsPart vl lo->IsPart vu hi->r x lo hi H Q ->
  ∃T id,typeLookup (.type T) "__getitem__"=pure (some (.builtin id))/\s.TypeIs v T/\wpAny (model X.prog X.w) X.A (getItem v (.ref sl)) (EP X Ao U Q) X.xe s
def FK (r:V->Option Int->Option Int->Hp->VK->Prop)(te:TE)(tl th:TO):TE:=λU H Q=>te U H λx H1=>tl U H1 λl H2=>th U H2 λu H3=>r x l u H3 Q
def oF (hr:A3 X r)(he:PE X e te)(hl:PO X lo tl)(hu:PO X hi th):PE X (.Subscript e (.Slice lo hi none p2) pos) (FK r te tl th):=by intro Ao s U H Q I h;refine Subscript_ (mB (he Ao s U H _ I h) λv s1 zz=>?_);obtain⟨x,H1,I1,r1,q1⟩:=zz;refine wpAny_Slice (mB (hl Ao s1 U H1 _ I1 q1) λvl s2 ⟨l,H2,I2,pl,q2⟩=>mB (hu Ao s2 U H2 _ I2 q2) λvu s3 zz=>?_);obtain⟨u,H3,I3,pu,q3⟩:=zz;rw[evalPart_none];refine mf ?_;have I4:lO X Ao U H3 { s3 with heap:=s3.heap.push { cls:=.type "slice",data:=.fields #[vl,vu,.none] } }:=I3.kept (t':=s3.toks) λb ob q=>mR _ q;obtain⟨T,id,hT,ht,hg⟩:=hr Ao { s3 with heap:=s3.heap.push { cls:=.type "slice",data:=.fields #[vl,vu,.none] } } U H3 x v vl vu l u s3.heap.objs.size Q I4 r1 (Heap.IsSliceOf.new ..) pl pu q3;show wpAny (model X.prog X.w) X.A (subscriptTail e (.Slice lo hi none p2) v (.ref s3.heap.objs.size)) (EP X Ao U Q) X.xe { s3 with heap:=s3.heap.push { cls:=.type "slice",data:=.fields #[vl,vu,.none] } };exact tail_any (ops:=[.ref s3.heap.objs.size,v]) ht hT hg (by with_unfolding_all rfl)
def ie (xs:IJ)(lo hi:Option Int):IJ:=(xs.drop (HT.sIx xs.length 0 lo)).take (HT.sIx xs.length xs.length hi-HT.sIx xs.length 0 lo)
def Zhh (xs:IJ)(lo hi:Option Int):(ie xs lo hi).length<=xs.length:=by
 unfold ie;rw[nG,oZ]
 lia
end
end L2
namespace L2
open PySem PySem.Spec PyProof.Rows
noncomputable def rA (n:Nat)(i:Int):Option Nat:=if 0<=i then (if i<n then some i.toNat else none) else if -(n:Int)<=i then some (i+n).toNat else none
def pC {α:Type}(xs:List α)(i:Int):Option α:=(rA xs.length i).bind λj=>xs[j]?
def Znw (h:rA n i=some j):seqIndex? i n=some j/\j<n/\-(n:Int)<=i/\i<n:=by
 unfold rA at h;by_cases h0:0<=i
 .rw[lU h0]at h;by_cases h1:i<n
  .rw[lU h1]at h;have e:i.toNat=j:=Option.some.inj h;exact⟨by rw[seqIndex_of h0 h1,e],∅,∅,h1⟩
  .rw[lT h1]at h;cases h
 .rw[lT h0]at h;by_cases h1:-(n:Int)<=i
  .rw[lU h1]at h;have e:(i+n).toNat=j:=Option.some.inj h;exact⟨by rw[seqIndex_neg ∅ h1,e],∅,h1,∅⟩
  .rw[lT h1]at h;cases h
def Ci (h:pC xs i=some v):∃j,seqIndex? i xs.length=some j/\xs[j]?=some v/\j<xs.length/\-(xs.length:Int)<=i/\i<xs.length:=by
 unfold pC at h;cases e:rA xs.length i with
 | none=>rw[e]at h;cases h
 | some j=>
  rw[e]at h;obtain⟨h1,h2,h3,h4⟩:=Znw e;exact⟨j,h1,h,h2,h3,h4⟩
def ZnU {α:Type}{xs:List α}{j:Nat}{v:α}(h:xs[j]?=some v):pC xs (j:Int)=some v:=by
 have hj:j<xs.length:=(mX.mp h).1;have e:rA xs.length (j:Int)=some j:=by unfold rA;rw[lU ∅,lU ∅];simp
 unfold pC;rw[e];exact h
def ZnY (b:Expr):Prop:=∀o i,subscripted b false o i=operate [o,i] (getItem o i)
def wa (X:Cx)(r:R2):Prop:=
 ∀(value slice:Expr) (Ao:AA) (s:AE) (U:St) (H:Hp) (x y:V) (v u:Value) (Q:VK),lO X Ao U H s->ft x v->ft y u->r x y H Q ->
  subscripted slice false v u=operate [v,u] (getItem v u)->wpAny (model X.prog X.w) X.A (subscriptTail value slice v u) (EP X Ao U Q) X.xe s
def Dn (X:Cx)(id:String)(r:V->IJ->Hp->VK->Prop):Prop:=
 ∀(Ao:AA) (s:AE) (U:St) (H:Hp) (x:V) (xs:IJ) (v:Value) (us:AC) (Q:VK),lO X Ao U H s->ft x v->fi xs us->r x xs H Q ->
  wpAny (model X.prog X.w) X.A (call (.builtin id) (v::us)) (EP X Ao U Q) X.xe s
section
variable {X:Cx}{a b:Expr}{ta tb:TE}{pos:Pos}
def ph (hr:wa X r)(ha:PE X a ta)(hb:PE X b tb)(hs:ZnY b):PE X (.Subscript a b pos) (yt r ta tb):=by intro Ao s U H Q I h;exact Subscript_ (jV ha hb I h λv u s2 x y H2 I2 rx ry q=>hr a b Ao s2 U H2 x y v u Q I2 rx ry q (hs _ _))
def rIxL (K:ma):R2:=λx y H Q=>∃p xs i v,x=.ref p/\y=.int i/\m8 K H p xs/\pC xs i=some v/\Q v H
def rIxT (K:ma):R2:=λx y H Q=>∃p xs i v,x=.ref p/\y=.int i/\oA K H p xs/\pC xs i=some v/\Q v H
def rIxS:R2:=λx y H Q=>∃z i c,x=.str z/\y=.int i/\z.length<=sizeLine/\pC z.cps.toList i=some c/\Q (.str ⟨#[c]⟩) H
def Znv:wa X (rIxL X.K):=by
 intro value slice Ao s U H x y v u Q I rx ry h hs;obtain⟨p,xs,i,z,rfl,rfl,hq,he,q⟩:=h;cases rx;obtain⟨t,rfl⟩:=ry;obtain⟨its,r,pl,hz⟩:=I.list hq;obtain⟨j,h1,h2,h3,h4,h5⟩:=Ci he;obtain⟨w,ew,rw'⟩:=r.get h2;have hl:=r.length;have hn:=Bt;have fin:EP X Ao U Q w s:=⟨z,H,I,rw',q⟩;by_cases h0:0<=i
 .have hj:i.toNat=j:=by rw[seqIndex_of h0 h5]at h1;exact Option.some.inj h1
  exact item_listR pl.isList h0 ∅ (by rw[hj];simpa using ew) fin hs
 .have hj:(i+(its.toArray.size:Int)).toNat=j:=by rw[seqIndex_neg ∅ h4]at h1;rw[nP,<-hl];exact Option.some.inj h1
  exact subscriptTail_builtinR (x:=w) pl.isList.typeIs slot_list_getitem.lookup
   (wpAny_getItem_list_neg (Q:=λr s'=>r=w/\EP X Ao U Q r s') pl.isList ∅ (by rw[nP]<;>lia) ∅ (by rw[hj];simpa using ew) ⟨rfl,fin⟩) hs
def Zpo:wa X (rIxT X.K):=by
 intro value slice Ao s U H x y v u Q I rx ry h hs;obtain⟨p,xs,i,z,rfl,rfl,hq,he,q⟩:=h;cases rx;obtain⟨t,rfl⟩:=ry;obtain⟨its,r,pl,hz⟩:=I.tuple hq;obtain⟨j,h1,h2,h3,h4,h5⟩:=Ci he;obtain⟨w,ew,rw'⟩:=r.get h2;have hl:=r.length;have hn:=Bt;have fin:EP X Ao U Q w s:=⟨z,H,I,rw',q⟩;exact subscriptTail_builtinR (x:=w) pl.typeIs slot_tuple_getitem.lookup
  (getItem_tuple (j:=j) (Q:=λr s'=>r=w/\EP X Ao U Q r s') pl ∅ ∅ (by rw[nP,<-hl];exact h1) (~~~ew) ⟨rfl,fin⟩) hs
def Zpp:wa X rIxS:=by
 intro value slice Ao s U H x y v u Q I rx ry h hs;obtain⟨z,i,c,rfl,rfl,hz,he,q⟩:=h;obtain⟨t,rfl⟩:=rx;obtain⟨t',rfl⟩:=ry;obtain⟨j,h1,h2,h3,h4,h5⟩:=Ci he;have hl:z.cps.toList.length=z.length:=by simp[Str.length]
 rw[hl]at h1 h4 h5;have hn:=Bt;exact tail_any (typeIs_str s z t) slot_str_getitem.lookup (getItem_str (c:=c) (by have e1:decide (i < -(2 ^ 63:Int))=false:=IB ∅;have e2:decide (i>=2 ^ 63)=false:=IB ∅;rw[e1,e2,Bool.or_false]) (by rw[h1];simpa using h2) ⟨.str ⟨#[c]⟩,H,I.tok _,⟨_,rfl⟩,q⟩) hs
def ZfQ (lo hi:Option Int)(n:Nat):(sliceBounds lo hi none n).1=((HT.sIx n 0 lo:Nat):Int)/\(sliceBounds lo hi none n).2.1=((HT.sIx n n hi:Nat):Int)/\(sliceBounds lo hi none n).2.2=1:=by
 refine⟨?_,?_,rfl⟩
 .cases lo with
  | none=>simp[sliceBounds,HT.sIx]
  | some i=>
   simp only[sliceBounds,HT.sIx,Option.getD_none,show (1:Int)>0 by decide,if_true];by_cases h:i<0
   .simp only[h,if_true]<;>lia
   .simp only[h,if_false]<;>lia
 .cases hi with
  | none=>simp[sliceBounds,HT.sIx]
  | some i=>
   simp only[sliceBounds,HT.sIx,Option.getD_none,show (1:Int)>0 by decide,if_true];by_cases h:i<0
   .simp only[h,if_true]<;>lia
   .simp only[h,if_false]<;>lia
def Ze0 (its:AC)(lo hi:Option Int):slicePick its.toArray lo hi none=((its.drop (HT.sIx its.length 0 lo)).take (HT.sIx its.length its.length hi-HT.sIx its.length 0 lo)).toArray:=by obtain⟨h1,h2,h3⟩:=ZfQ lo hi its.toArray.size;unfold slicePick;rw[h1,h2,h3];simp only[sliceRange_one,pick_run,nP]<;>rfl
def rSlL (K:ma):V->Option Int->Option Int->Hp->VK->Prop:=λx lo hi H Q=>∃a xs,x=.ref a/\m8 K H a xs/\∀p,H p=none->Q (.ref p) (upd H p (.lst (ie xs lo hi)))
def ZmH:A3 X (rSlL X.K):=by intro Ao s U H x v vl vu lo hi sl Q I rx hs pl pu h;obtain⟨a,xs,rfl,hx,q⟩:=h;cases rx;obtain⟨its,r,ht,hz⟩:=I.list hx;have Aq:=r.length;refine⟨"list",_,slot_list_getitem.lookup,ht.isList.typeIs,?_⟩;refine wpAny_getItem_list_slice ht.isList hs pl pu .none {} ?_ (by rw[nP]<;>lia);rw[Ze0,<-Aq];refine⟨.ref s.heap.objs.size,_,I.laid (t':=s.toks) (o:=.lst (ie xs lo hi)) (λb ob q=>mR _ q) (mC _) ?_,rfl,q _ (I.hok.fresh (mC _))⟩;exact⟨mO (Zhh xs lo hi) hz,_,0,(r.drop (HT.sIx xs.length 0 lo)).take (HT.sIx xs.length xs.length hi-HT.sIx xs.length 0 lo),nV _ rfl⟩
def pA:V->Bool
 | .non=>true
 | .bl _=>true
 | .int _=>true
 | .str _=>true
 | _=>false
noncomputable def sJ:V->V->Bool
 | .non,.non=>true
 | .bl a,.bl b=>a == b
 | .bl a,.int b=>(if a then 1 else 0) == b
 | .int a,.bl b=>a == (if b then 1 else 0)
 | .int a,.int b=>a == b
 | .str a,.str b=>a == b
 | _,_=>false
def FI (ry:ft y u)(rx:ft x v)(fy:pA y=true)(fx:pA x=true):SeqAt.EqAt A s u v (sJ y x):=by
 cases y with
 | non=>
  cases ry;cases x with
  | non=>cases rx;exact SeqAt.EqAt.same _
  | bl b=>cases rx;exact SeqAt.EqAt.none_bool b
  | int b=>obtain⟨t,rfl⟩:=rx;exact SeqAt.EqAt.none_int b t
  | str b=>obtain⟨t,rfl⟩:=rx;exact SeqAt.EqAt.none_str b t
  | _=>exact IG (show false=true from fx) mQ
 | bl a=>
  cases ry;cases x with
  | non=>cases rx;exact SeqAt.EqAt.bool_none a
  | bl b=>cases rx;exact SeqAt.EqAt.bool_bool a b
  | int b=>obtain⟨t,rfl⟩:=rx;exact SeqAt.EqAt.bool_int a b t
  | str b=>obtain⟨t,rfl⟩:=rx;exact SeqAt.EqAt.bool_str a b t
  | _=>exact IG (show false=true from fx) mQ
 | int a=>
  obtain⟨t',rfl⟩:=ry;cases x with
  | non=>cases rx;exact SeqAt.EqAt.int_none a t'
  | bl b=>cases rx;exact SeqAt.EqAt.int_bool a t' b
  | int b=>obtain⟨t,rfl⟩:=rx;exact SeqAt.EqAt.int_int a t' b t
  | str b=>obtain⟨t,rfl⟩:=rx;exact SeqAt.EqAt.int_str a t' b t
  | _=>exact IG (show false=true from fx) mQ
 | str a=>
  obtain⟨t',rfl⟩:=ry;cases x with
  | non=>cases rx;exact SeqAt.EqAt.str_none a t'
  | bl b=>cases rx;exact SeqAt.EqAt.str_bool a t' b
  | int b=>obtain⟨t,rfl⟩:=rx;exact SeqAt.EqAt.str_int a t' b t
  | str b=>obtain⟨t,rfl⟩:=rx;exact SeqAt.EqAt.str_str a t' b t
  | _=>exact IG (show false=true from fx) mQ
 | _=>exact IG (show false=true from fy) mQ
def qP (x:V)(u:Value):Bool:=match u with
 | .none=>sJ .non x
 | .bool b=>sJ (.bl b) x
 | .int i _=>sJ (.int i) x
 | .str z _=>sJ (.str z) x
 | _=>false
def GA (r:ft y u)(f:pA y=true):qP x u=sJ y x:=by
 cases y with
 | non=>cases r;rfl
 | bl b=>cases r;rfl
 | int i=>obtain⟨t,rfl⟩:=r;rfl
 | str z=>obtain⟨t,rfl⟩:=r;rfl
 | _=>exact IG (show false=true from f) mQ
theorem xU {x:V}:∀ {xs:IJ} {us:AC},fi xs us->xs.all pA=true->us.any (qP x)=xs.any λy=>sJ y x
 | _,_,.nil,_=>rfl
 | y::xs,u::us,.cons r t,f=>by rw[List.all_cons,nY]at f;rw[List.any_cons,List.any_cons,GA r f.1,xU t f.2]
theorem y4 {A:AH}{s:AE}{x:V}{v:Value}(rx:ft x v)(fx:pA x=true):∀ {xs:IJ} {us:AC},fi xs us->xs.all pA=true->∀u∈us,SeqAt.EqAt A s u v (qP x u)
 | _,_,.nil,_=>λu hu=>by cases hu
 | y::xs,u::us,.cons r t,f=>λu' hu=>by
  rw[List.all_cons,nY]at f;rcases m6.mp hu with rfl | hu
  .rw[GA r f.1];exact FI r rx f.1 fx
  .exact y4 rx fx t f.2 u' hu
def zN (x:V)(xs:IJ):Bool:=xs.any λy=>sJ y x
def z5 (K:ma)(neg:Bool):R2:=λx y H Q=>∃p xs,y=.ref p/\(m8 K H p xs\/oA K H p xs)/\pA x=true/\xs.all pA=true/\Q (.bl (if neg then !zN x xs else zN x xs)) H
def ZjF:oh X (compareOp .In) (z5 X.K false):=by
 intro Ao s U H x y v u Q I rx ry h;obtain⟨p,xs,rfl,hq,fx,fs,q⟩:=h;cases ry;rcases hq with hq | hq
 .obtain⟨its,r,pl,hz⟩:=I.list hq;refine SeqAt.in_listAt (qP x) pl.isList (λw hw=>y4 rx fx r fs w (~~~hw)) ⟨.bl _,H,I,rfl,?_⟩;rw[show its.toArray.any (qP x)=its.any (qP x) by simp,xU r fs];exact q
 .obtain⟨its,r,pl,hz⟩:=I.tuple hq;refine SeqAt.in_tupleAt (qP x) pl (λw hw=>y4 rx fx r fs w (~~~hw)) ⟨.bl _,H,I,rfl,?_⟩;rw[show its.toArray.any (qP x)=its.any (qP x) by simp,xU r fs];exact q
def ZfZ:oh X (compareOp .NotIn) (z5 X.K true):=by
 intro Ao s U H x y v u Q I rx ry h;obtain⟨p,xs,rfl,hq,fx,fs,q⟩:=h;cases ry;rcases hq with hq | hq
 .obtain⟨its,r,pl,hz⟩:=I.list hq;refine SeqAt.notIn_listAt (qP x) pl.isList (λw hw=>y4 rx fx r fs w (~~~hw)) ⟨.bl _,H,I,rfl,?_⟩;rw[show its.toArray.any (qP x)=its.any (qP x) by simp,xU r fs];exact q
 .obtain⟨its,r,pl,hz⟩:=I.tuple hq;refine SeqAt.notIn_tupleAt (qP x) pl (λw hw=>y4 rx fx r fs w (~~~hw)) ⟨.bl _,H,I,rfl,?_⟩;rw[show its.toArray.any (qP x)=its.any (qP x) by simp,xU r fs];exact q
def Zgz:pR X (.type "list") (λxs H Q=>∃p ys,xs=[.ref p]/\(m8 X.K H p ys\/oA X.K H p ys)/\∀l,H l=none->Q (.ref l) (upd H l (.lst ys))):=by
 intro Ao s U H xs us Q I r h;obtain⟨p,ys,rfl,hq,q⟩:=h;obtain⟨u,rfl,rx⟩:=iT r;cases rx;have fin:∀(its:AC),fi ys its->ys.length<=sizeLine->∀(h':Heap) (c':Nat),(∀b o',s.heap.get? b=some o'->h'.get? b=some o') ->
   h'.get? s.heap.objs.size=some { cls:=.type "list",dict:=none,data:=.seq its.toArray c',slots:=#[] }->EP X Ao U Q (.ref s.heap.objs.size) { s with heap:=h' }:=λits r' hz h' c' kp e=>
  ⟨.ref s.heap.objs.size,_,I.laid (t':=s.toks) kp (mC _) (show fJ X.prog X.w _ h' _ (.lst ys) from⟨hz,its,c',r',e⟩),rfl,q _ (I.hok.fresh (mC _))⟩
 rcases hq with hq | hq
 .obtain⟨its,r',pl,hz⟩:=I.list hq;have Aq:=r'.length;obtain⟨o,ho,hc,n,hd⟩:=pl.isList;exact call_list_seq p (.inl rfl) ho hc hd (λh' c' kp e=>fin its r' hz h' c' kp e) (by simp only[nP]<;>lia)
 .obtain⟨its,r',pl,hz⟩:=I.tuple hq;have Aq:=r'.length;obtain⟨o,ho,hc,n,hd⟩:=pl;exact call_list_seq p (.inr rfl) ho hc hd (λh' c' kp e=>fin its r' hz h' c' kp e) (by simp only[nP]<;>lia)
def ZfE:pR X (.type "tuple") (λxs H Q=>∃p ys,xs=[.ref p]/\((m8 X.K H p ys/\∀l,H l=none->Q (.ref l) (upd H l (.tup ys)))\/(oA X.K H p ys/\Q (.ref p) H))):=by
 intro Ao s U H xs us Q I r h;obtain⟨p,ys,rfl,h⟩:=h;obtain⟨u,rfl,rx⟩:=iT r;cases rx;rcases h with⟨hq,q⟩|⟨hq,q⟩
 .obtain⟨its,r',pl,hz⟩:=I.list hq;have Aq:=r'.length;refine call_tuple_list pl.isList (λh' kp=>?_) (by simp only[nP]<;>lia);have I1:lO X Ao U H { s with heap:=h' }:=I.kept (t':=s.toks) kp;have I2:lO X Ao U (upd H h'.objs.size (.tup ys)) { s with heap:=h'.push { cls:=.type "tuple",data:=.seq its.toArray } }:=
   I1.laid (t':=s.toks) (λb o e=>mR _ e) (mC _) (show fJ X.prog X.w _ _ _ (.tup ys) from⟨hz,its,r',IsTup.new _ _⟩)
  exact⟨.ref h'.objs.size,_,I2,rfl,q _ (I1.hok.fresh (mC _))⟩
 .obtain⟨its,r',pl,hz⟩:=I.tuple hq;exact call_tuple_same pl ⟨.ref p,H,I,rfl,q⟩
def C4 (K:ma)(T:String)(x:V)(H:Hp):Prop:=match x with
 | .str _=>T="str"
 | .int _=>T="int"
 | .ref p=>(T="list"/\∃xs,m8 K H p xs)\/(T="tuple"/\∃o,K.lookup p=some o/\o.cls=.type "tuple"/\o.dict=none) \/
   (T="dict"/\((∃kvs,H p=some (.dK kvs))\/∃kvs,H p=some (.dT kvs)))\/(T="set"/\∃S n,H p=some (.set S n))
 | _=>False
def DP (I:lO X Ao U H s)(r:ft x v)(ty:C4 X.K T x H):
  s.TypeIs v T/\∀a,v=.ref a->∃ob,s.heap.get? a=some ob/\ob.dict=none:=by
 cases x with
 | str z=>
  obtain⟨t,rfl⟩:=r;cases (show T="str" from ty);exact⟨typeIs_str s z t,λ_ e=>nomatch e⟩
 | int i=>
  obtain⟨t,rfl⟩:=r;cases (show T="int" from ty);exact⟨typeIs_int s i t,λ_ e=>nomatch e⟩
 | ref p=>
  cases r;rcases ty with⟨rfl,xs,hq⟩|⟨rfl,o,hk,hc,hd⟩|⟨rfl,hk⟩|⟨rfl,S,n,hk⟩
  .obtain⟨its,_,pl,_⟩:=I.list hq;refine⟨pl.isList.typeIs,λa e=>?_⟩;cases e;obtain⟨o,n,e,c,hd,_⟩:=pl;exact⟨o,e,hd⟩
  .refine⟨⟨o,I.kIn p o hk,hc⟩,λa e=>?_⟩;cases e;exact⟨o,I.kIn _ o hk,hd⟩
  .have z:∃o,s.heap.get? p=some o/\o.ExactDict:=by
    rcases hk with⟨kvs,hk⟩|⟨kvs,hk⟩
    .obtain⟨_,_,_,_,o,_,_,e,ex,_⟩:=I.hok p _ hk;exact⟨o,e,ex⟩
    .obtain⟨_,_,_,_,o,_,_,e,ex,_⟩:=I.hok p _ hk;exact⟨o,e,ex⟩
   obtain⟨o,e,ex⟩:=z;refine⟨⟨o,e,ex.1⟩,λa e2=>?_⟩;cases e2;exact⟨o,e,ex.2.1⟩
  .obtain⟨o,_,_,_,e,ex,_⟩:=I.hok p _ hk;refine⟨⟨o,e,ex.1⟩,λa e2=>?_⟩;cases e2;exact⟨o,e,ex.2.1⟩
 | _=>exact False.elim ty
def tBM0 (K:ma)(T:String)(r:V->IJ->Hp->VK->Prop)(to:TE):TE:=λU H Q=>to U H λx H1=>C4 K T x H1/\r x [] H1 Q
def Ck (K:ma)(T:String)(r:V->IJ->Hp->VK->Prop)(to:TE)(t:TA):TE:=λU H Q=>to U H λx H1=>C4 K T x H1/\t U H1 λxs H2=>r x xs H2 Q
variable {o e:Expr}{es:List Expr}{to:TE}{t:TA}{name:Str}{Au Aw:Pos}{T id:String}{r:V->IJ->Hp->VK->Prop}
def ZoJ (pa:PlainAttrs T) (slot:Slot T name id) (hty:typeOf (.builtin id)=pure (.type "method_descriptor")) (hm:Dn X id r) (ho:PE X o to)
  (hbase:attributeBase o name X.env (eval o X.env)=eval o X.env:=by rfl) (hline:(Au.endLine == Aw.line)=true:=by rfl):PE X (.Call (.Attribute o name Au) [] [] Aw) (tBM0 X.K T r to):=by
 intro Ao s U H Q I h;refine wpAny_Call_method0_late hbase hline (mB (ho Ao s U H _ I h) λv s1 zz=>?_);obtain⟨x,H1,I1,r1,ty,q1⟩:=zz;obtain⟨h1,h2⟩:=DP I1 r1 ty;exact⟨T,id,pa,slot,hty,h1,h2,xC rfl (PySem.evalArgs_none (hm Ao s1 U H1 x [] v [] Q I1 r1 .nil q1))⟩
def rj (pa:PlainAttrs T) (slot:Slot T name id) (hty:typeOf (.builtin id)=pure (.type "method_descriptor")) (hm:Dn X id r) (ho:PE X o to) (ha:PA X (e::es) t)
  (hbase:attributeBase o name X.env (eval o X.env)=eval o X.env:=by rfl)
  (hfew:((backTo Aw (starEach (e::es) X.env)).all (λx=>!x.1)&&(backToKw Aw (keywordEach [] X.env)).all (λx=>x.1.isSome)
   && decide ((e::es).length+([]:List Keyword).length+(if ([]:List Keyword).isEmpty then 0 else 1)<30))=true:=by rfl)
  (hline:(Au.endLine == Aw.line)=true:=by rfl) (hs:starEach (e::es) X.env=(false,eval e X.env)::starEach es X.env:=by rfl) (hplain:(backTo Aw (starEach es X.env)).any (·.1)=false:=by rfl):
  PE X (.Call (.Attribute o name Au) (e::es) [] Aw) (Ck X.K T r to t):=by
 intro Ao s U H Q I h;refine wpAny_Call_method_late hbase hfew hline rfl (mB (ho Ao s U H _ I h) λv s1 zz=>?_);obtain⟨x,H1,I1,r1,ty,q1⟩:=zz;obtain⟨h1,h2⟩:=DP I1 r1 ty;refine⟨T,id,pa,slot,hty,h1,h2,?_⟩;have hA:=ha Aw Ao s1 U H1 _ I1 q1;rw[hs]at hA ⊢;refine xC (by show (false || (backTo Aw (starEach es X.env)).any (·.1))=false;rw[hplain]<;>rfl) (x0 ?_);exact mB hA λus s2 ⟨vs,H2,I2,r2,q2⟩=>hm Ao s2 U H2 x vs v us Q I2 r1 r2 q2
end
def yG (X:Cx)(id:String)(r:V->IJ->Hp->VK->Prop):Prop:=
 ∀(Ao:AA) (s:AE) (U:St) (H:Hp) (x:V) (xs:IJ) (v:Value) (us:AC) (Q:VK),lO X Ao U H s->ft x v->fi xs us->r x xs H Q ->
  wpAny (model X.prog X.w) X.A (call (.builtin id) (v::us)) (EP X Ao U Q) X.xe s
def fi.one (h:fi [x] us):∃u,us=[u]/\ft x u:=by
 cases h with
 | cons r n=>cases n;exact⟨_,rfl,r⟩
def fi.two (h:fi [x,y] us):∃u v,us=[u,v]/\ft x u/\ft y v:=by
 cases h with
 | cons r t=>
  cases t with
  | cons q n=>cases n;exact⟨_,_,rfl,r,q⟩
theorem fi.zero:∀ {us:AC},fi [] us->us=[]
 | _,.nil=>rfl
def fi.dropLast (h:fi xs us):fi xs.dropLast us.dropLast:=by
 induction h with
 | nil=>exact .nil
 | cons r t ih=>
  cases t with
  | nil=>exact .nil
  | cons q t'=>exact .cons r ih
theorem fi.eraseIdx:∀ {xs:IJ} {us:AC} (i:Nat),fi xs us->fi (xs.eraseIdx i) (us.eraseIdx i)
 | _,_,_,.nil=>.nil
 | _,_,0,.cons _ t=>t
 | _,_,i+1,.cons r t=>.cons r (fi.eraseIdx i t)
def ZiM (l:List α):l.eraseIdx (l.length-1)=l.dropLast:=by
 induction l with
 | nil=>rfl
 | cons a r ih=>
  cases r with
  | nil=>rfl
  | cons b r=>
   have e:(a::b::r).length-1=((b::r).length-1)+1:=by
    have h1:(a::b::r).length=r.length+2:=rfl;have h2:(b::r).length=r.length+1:=rfl
    lia
   rw[e,List.eraseIdx_cons_succ,ih];all_goals rfl
theorem E4 {α:Type}:∀(l:List α) (i:Nat),(l.eraseIdx i).length<=l.length
 | [],_=>mC _
 | _::_,0=>sw _
 | _::r,i+1=>yO (E4 r i)
section
def lO.lset {its its':AC}{n:Nat}{f:Array Value->Array Value}{t':Nat}(I:lO X Ao U H s)(hH:H l=some (.lst xs))
  (e:s.heap.get? l=some { cls:=.type "list",data:=.seq its.toArray n }) (hf:f its.toArray=its'.toArray) (hv:fi ys its') (hz:ys.length<=sizeLine):
  lO X Ao U (upd H l (.lst ys)) { s with heap:=s.heap.update l (Obj.mapSeq f),toks:=t' }:=by
 have q:=PySem.IsL.update e f;rw[hf]at q;refine I.write (x:=l) (e:=l) (by rw[hH];exact trivial) (.inl rfl) (λb' u hb hu=>(tZ s.heap (Obj.mapSeq f) (mH hb)).trans hu) ⟨_,q⟩ ?_;exact⟨hz,its',_,hv,q⟩
def lO.lnew (I:lO X Ao U H s)(hv:fi ys its)(hz:ys.length<=sizeLine):
  lO X Ao U (upd H s.heap.objs.size (.lst ys)) { s with heap:=s.heap.push { cls:=.type "list",data:=.seq its.toArray },toks:=t' }:=
 I.laid (λ_ _ q=>mR _ q) (mC _) ⟨hz,its,0,hv,nV _ rfl⟩
def lO.fresh (I:lO X Ao U H s):H s.heap.objs.size=none:=I.hok.fresh (mC _)
def lO.lstM (I:lO X Ao U H s)(hH:H l=some (.lst xs)):xs.length<=sizeLine/\∃(its:AC) (n:Nat),fi xs its/\xs.length=its.length/\s.heap.get? l=some { cls:=.type "list",data:=.seq its.toArray n }:=by obtain⟨z,its,n,r,e⟩:=I.hok l _ hH;exact⟨z,its,n,r,r.length,e⟩
def Zlb (h:n<=sizeLine):Builtin.List.listTooLong n=false:=by unfold Builtin.List.listTooLong;exact IB ∅
end
section
def jk:V->IJ->Hp->VK->Prop:=λx vs H Q=>∃l xs y,x=.ref l/\vs=[y]/\H l=some (.lst xs)/\xs.length<sizeLine/\Q .non (upd H l (.lst (xs++[y])))
def sE:yG X "list.append" jk:=by
 intro Ao s U H x vs v us Q I rx rv h;obtain⟨l,xs,y,rfl,rfl,hH,hz,q⟩:=h;cases rx;obtain⟨u,rfl,ru⟩:=rv.one;obtain⟨z,its,n,r,hl,e⟩:=I.lstM hH;refine call_meets F.slot_list_append ⟨_,e,rfl⟩ F.entry_list_append (F.args_list_append_2 _ _) (PySem.list_append l its.toArray n u (by rw[nP];lia)) ⟨e,?_⟩;refine⟨.non,_,I.lset (its':=its++[u]) hH e {} (r.append (.cons ru .nil)) ?_,rfl,q⟩;rw[mP,oC]
 lia
def jf:V->IJ->Hp->VK->Prop:=λx vs H Q=>∃l b xs zs,x=.ref l/\vs=[.ref b]/\H l=some (.lst xs)/\H b=some (.lst zs)/\xs.length+zs.length<=sizeLine/\Q .non (upd H l (.lst (xs++zs)))
def ZjP:yG X "list.extend" jf:=by
 intro Ao s U H x vs v us Q I rx rv h;obtain⟨l,b,xs,zs,rfl,rfl,hH,hB,hz,q⟩:=h;cases rx;obtain⟨u,rfl,ru⟩:=rv.one;cases ru;obtain⟨z,its,n,r,hl,e⟩:=I.lstM hH;obtain⟨z2,its2,n2,r2,hl2,e2⟩:=I.lstM hB;have hsz:its.toArray.size+its2.toArray.size<=sizeLine:=by rw[nP,nP];lia
 have hlong:¬(!its.toArray.isEmpty&&Builtin.List.listTooLong (its.toArray.size+its2.toArray.size))=true:=by rw[Zlb hsz,uv];exact mQ
 refine call_meets F.slot_list_extend ⟨_,e,rfl⟩ F.entry_list_extend (F.args_list_extend_2 _ _)
  (AutoSeq1.list_extend_list_list_0 l its.toArray n b its2.toArray n2 hlong (by rw[nP];lia) ∅) ⟨e,e2,?_⟩
 refine⟨.non,_,I.lset (its':=its++its2) hH e {} (r.append r2) ?_,rfl,q⟩;rw[mP]
 lia
def rPop:V->IJ->Hp->VK->Prop:=λx vs H Q=>∃l xs y,x=.ref l/\vs=[]/\H l=some (.lst xs)/\xs[xs.length-1]?=some y/\Q y (upd H l (.lst xs.dropLast))
def Zpb:yG X "list.pop" rPop:=by
 intro Ao s U H x vs v us Q I rx rv h;obtain⟨l,xs,y,rfl,rfl,hH,hy,q⟩:=h;cases rx;have hus:=rv.zero;subst hus;obtain⟨z,its,n,r,hl,e⟩:=I.lstM hH;obtain⟨u,hu,ru⟩:=r.get hy;have hy':its.toArray[its.toArray.size-1]?=some u:=by show its.toArray[its.length-1]?=some u;rw[<-qL,<-hl];exact hu
 refine call_meets F.slot_list_pop ⟨_,e,rfl⟩ F.entry_list_pop (F.args_list_pop_1 _) (MeetsSeq.list_pop_last l its.toArray n u hy' (by rw[nP];lia)) ⟨e,?_⟩;refine⟨y,_,I.lset (its':=its.dropLast) hH e ?_ r.dropLast ?_,ru,q⟩
 .show its.toArray.eraseIdxIfInBounds (its.toArray.size-1)=its.dropLast.toArray;rw[nP,List.eraseIdxIfInBounds_toArray,ZiM]
 .rw[qm]
  lia
def kh:V->IJ->Hp->VK->Prop:=λx vs H Q=>∃l xs i k y,x=.ref l/\vs=[.int i]/\H l=some (.lst xs)/\-(2 ^ 63)<=i/\i<2 ^ 63/\seqIndex? i xs.length=some k/\xs[k]?=some y/\Q y (upd H l (.lst (xs.eraseIdx k)))
def Zlg:yG X "list.pop" kh:=by
 intro Ao s U H x vs v us Q I rx rv h;obtain⟨l,xs,i,k,y,rfl,rfl,hH,h1,h2,hk,hy,q⟩:=h;cases rx;obtain⟨u,rfl,ru⟩:=rv.one;obtain⟨t,rfl⟩:=ru;obtain⟨z,its,n,r,hl,e⟩:=I.lstM hH;obtain⟨w,hw,rw'⟩:=r.get hy;refine call_meets F.slot_list_pop ⟨_,e,rfl⟩ F.entry_list_pop (F.args_list_pop_2 _ _)
  (MeetsSeq.list_pop_at l its.toArray n i t k w (fitsIndex_both h1 h2) (by rw[nP,<-hl];exact hk) (by rw[<-qL];exact hw) (by rw[nP];lia)) ⟨e,?_⟩
 refine⟨y,_,I.lset (its':=its.eraseIdx k) hH e ?_ (r.eraseIdx k) ?_,rw',q⟩
 .show its.toArray.eraseIdxIfInBounds k=(its.eraseIdx k).toArray;rw[List.eraseIdxIfInBounds_toArray]
 .have:=E4 xs k
  lia
def rCat:R2:=λx y H Q=>∃l b xs zs,x=.ref l/\y=.ref b/\H l=some (.lst xs)/\H b=some (.lst zs)/\xs.length+zs.length<=sizeLine/\∀p,H p=none->Q (.ref p) (upd H p (.lst (xs++zs)))
def Hl:oh X (binaryOp .Add) rCat:=by
 intro Ao s U H x y v u Q I rx ry h;obtain⟨l,b,xs,zs,rfl,rfl,hH,hB,hz,q⟩:=h;cases rx;cases ry;obtain⟨z,its,n,r,hl,e⟩:=I.lstM hH;obtain⟨z2,its2,n2,r2,hl2,e2⟩:=I.lstM hB;refine PySem.P.add_list e e2 ?_ (by rw[nP,nP];lia);have ea:its.toArray++its2.toArray=(its++its2).toArray:=by simp
 rw[ea];exact⟨.ref _,_,I.lnew (t':=s.toks) (r.append r2) (by rw[mP];lia),rfl,q _ I.fresh⟩
end
section
end
section
end
end L2
namespace Att
open PySem PySem.W PySem.Calls PyProof.Rows
def Zee:∀(ns:List Int) (vs:AC),WellAll P h vs (ns.map WData.int)->IntsAre vs ns:=by
 intro ns;induction ns with
 | nil=>
  intro vs w;rw[vW]at w;cases w;exact .nil
 | cons n ns ih=>
  intro vs w;rw[oP]at w;cases w with
  | cons a b=>
   cases a;exact .cons _ _ (ih _ b)
def Zjk {l:OpenLaw}{n:Nat}(hn:l.most=some n){P:Params}{h:Heap}{args:List WData}{vals:AC}
  (hpre:l.row.toRowW.claim.pre args=true) (hwl:WellAll P h vals args):
  ∃a vs ns,vals=[Value.ref a]/\args=[WData.list (ns.map WData.int)]/\h.get? a=some { cls:=.type "list",data:=.seq vs.toArray }/\IntsAre vs ns/\ns.length<=n:=by
 have hsh:WShape.hasAll [] args [.list .int]=true:=(pre_splitW hpre).1;have hc:l.pre.holds [] { args:=args }=true:=(pre_splitW hpre).2;obtain⟨d,r,rfl,h1,h2⟩:=hasAllW_cons hsh;obtain rfl:=hasAllW_nil h2;obtain⟨xs,rfl,h3⟩:=hasW_list h1;obtain⟨ns,rfl⟩:=items_int h3;have Aq:ns.length<=n:=by
  unfold OpenLaw.pre at hc;have h4:(WTm.not (.lt (.lit (.int (n:Int))) (.len (.arg 0)))).holds [] { args:=[.list (ns.map .int)] }=true:=by have h4:=(holds_andW hc).1;rw[hn]at h4;exact h4
  have h5:=condW_of h4 (w_not (w_lt w_lit (w_len_list (w_arg rfl))));rw[lZ]at h5;refine Nat.le_of_not_lt λq=>?_;have q':(n:Int)<((ns.length:Nat):Int):=by lia
  first
   | (rw[IA q']at h5;exact IG h5 ⋯)
   | (simp at h5;lia)
 cases hwl with
 | cons w1 w2=>
  cases w2;cases w1 with
  | list ho hall=>exact⟨_,_,ns,rfl,rfl,ho,Zee ns _ hall,Aq⟩
def Zjw (l:OpenLaw)(args:List WData):l.row.toRowW.claim.post args (.bool true) args=true:=
 postW_of (r:=l.row.toRowW) (X:=(true == true))
  (show WShape.has [] (.bool true) .bool=true by first | rfl | decide | simp[WShape.has,WShape.arms,WShape.armsAll])
  (show (WTm.eq .res (.lit (.bool true))).value [] { args:=args,res:=some (.bool true),after:=args }=some (.bool (true == true)) from w_eq_bool (w_res rfl) w_lit) rfl
def attach_call {l:OpenLaw}{n:Nat}{q:AG}{loose:AJ}{XP:(AB)->Heap->Prop}{YP:AI->Heap->Prop}{d:DefRec}
  (hn:l.most=some n) (hdf:d.params.defaults=[])
  (call:∀(w:AI) (s_0 s_1:AE) (mg mb:AB) (fa:AD) (o:Obj) (pm cd doc:Value) (a:AD) (vs:AC) (ns:List Int),
   Ground q loose [] XP w s_0 mg mb s_1.heap->YP w s_1.heap ->
   s_1.heap.get? fa=some o->o.data=.func (docDef d.name d.params d.body d.scope pm cd doc)->s_1.heap.CodeRec cd d.name->mg d.name=some (.ref fa) ->
   s_1.heap.get? a=some { cls:=.type "list",data:=.seq vs.toArray }->IntsAre vs ns->ns.length<=n->s_1.gens=#[] ->
   codeAny (model l.prog w) callerA (.call (.ref fa) ⟨[.ref a],[]⟩) (λr s'=>r=.ok (.ret (.bool true))/\OldK s_1.heap s'.heap/\s'.os=s_1.os/\AllBare s'.gens) s_1):
  WalkO q loose XP YP l.row.toRowW d [] (λf vs=>PySem.call f vs):=by
 intro w s_0 s_1 mg mb G Y fa o pm cd doc dV kV ho hd hcd hD hmg hg args vals as hpre hlay hrd hwl hlo;obtain rfl:dV=.none:=Dflts.none hD hdf;obtain rfl:kV=.none:=Dflts.noKw hD;obtain⟨a,vs,ns,rfl,rfl,hobj,hints,Aq⟩:=Zjk hn hpre hwl;refine enter_call (codeAny_mono (call w s_0 s_1 mg mb fa o pm cd doc a vs ns G Y ho (fd_plain hd) hcd hmg hobj hints Aq hg) λr s' hq=>?_);obtain⟨rfl,h2,h3,h4⟩:=hq;exact⟨.inl ⟨.bool true,.bool true,[],rfl,λ_=>rfl,.bool true,Zjw l _,λ_=>⟨List.Pairwise.nil,λ_ hm=>(nomatch hm)⟩⟩,h2,h3,h4⟩
section
end
end Att
namespace L2
open PySem PySem.Spec PyProof.Rows
theorem HU:∀ {vs:AC} {ns:List Int},IntsAre vs ns->fi (ns.map V.int) vs
 | _,_,.nil=>.nil
 | _,_,.cons n t h=>.cons ⟨t,rfl⟩ (HU h)
noncomputable abbrev KOf {K:ma}{h:Heap}(_:K.In h):ma:=K
noncomputable def fG (s:Stmt)(j:Nat):Stmt:=match s with
 | .ClassDef _ _ _ body _ _ _ _ _ _ _=>body.getD j (.Pass ⟨0,0,0,0⟩)
 | _=>.Pass ⟨0,0,0,0⟩
def ue (s:Stmt):Arguments:=match s with
 | .FunctionDef _ a _ _ _ _ _ _ _ _=>a
 | _=>{ posonlyargs:=[],args:=[],vararg:=none,kwonlyargs:=[],kw_defaults:=[],kwarg:=none,defaults:=[] }
def rP (s:Stmt):List Stmt:=match s with
 | .FunctionDef _ _ b _ _ _ _ _ _ _=>b
 | _=>[]
noncomputable def pT (s:Stmt):Scope:=match s with
 | .FunctionDef _ _ _ _ _ _ sc _ _ _=>sc
 | _=>{ kind:=.function,names:=[],isGenerator:=false,isCoroutine:=false }
abbrev mS:sC:=λ_ _ _ _ _ _=>False
abbrev E0:XK:=λ_ _ _=>False
def mi:rQ mS X E0:=λ_ _ _ _ _ _ _ h=>h.elim
structure qh (K:ma)(x qual:Str)(st:Stmt)(f:AD)(fd:AF):Prop where
 ex:∃(oc:Value) (od:Option AD) (kV doc pm:Value) (an:Option AD) (Ap ct:Value) (osl:Array (Option Value)),
  fd=fnOf x qual (ue st) (rP st) (pT st) .none kV doc pm an Ap ct/\K.lookup f=some ⟨oc,od,.func fd,osl⟩/\codeIn K Ap qual=true
 kp:keepIn K (.ref f)=true
section
variable {P:AG}{w:AI}{K:ma}{mg:AB}{base:Heap}
def qh.ok {x qual:Str}{st:Stmt}{f:AD}{fd:AF}{N ps:AJ}{k:Nat}{sp:Sp}(F:qh K x qual st f fd)(S:fg N ps (pT st))
  (hbody:∀(Ap:Value) (A:AH) (outer:List Env) (s:AE) (H:Hp) (vs:IJ) (Q:VK) (E:XK),fX k (A.deeper (envOfC qual (pT st) s.heap.objs.size f Ap))->sp vs H Q E ->
   ∃t,ql (gE mS P w K mg base N qual (pT st) f Ap A outer s H E).nox (rP st) t/\t { nx:=λ_ H'=>Q .non H',rt:=Q } (start N vs) H)(len:∀vs H Q E,sp vs H Q E->vs.length=ps.length:=by walk_at "ln"):fB P w K mg base mS (k+1) f fd ps sp:=by
 obtain⟨oc,od,kV,doc,pm,an,Ap,ct,osl,rfl,lk,hcd⟩:=F.ex;refine BY lk hcd S len λA outer s H vs Q E hr hsp=>?_;obtain⟨t,h,q⟩:=hbody Ap A outer s H vs Q E hr hsp;exact⟨t,h.nox,q⟩
def qh.binds {x qual:Str}{st:Stmt}{f:AD}{fd:AF}{ps:AJ}(F:qh K x qual st f fd)
  (h:∀(kV doc pm:Value) (an:Option AD) (Ap ct:Value) (us:AC),us.length=ps.length->bindArgs (fnOf x qual (ue st) (rP st) (pT st) .none kV doc pm an Ap ct) ⟨us,[]⟩=pure (ps.zip us)):gb K fd ps []:=by
 obtain⟨oc,od,kV,doc,pm,an,Ap,ct,osl,rfl,lk,hcd⟩:=F.ex;exact .all (h kV doc pm an Ap ct)
def Il {x qual:Str}{st:Stmt}{f:AD}{oc:Value}{od an:Option AD}{osl:Array (Option Value)}{kV doc pm Ap ct:Value}(l:K.lookup f=some ⟨oc,od,.func (fnOf x qual (ue st) (rP st) (pT st) .none kV doc pm an Ap ct),osl⟩)
  (c:codeIn K Ap qual=true) (k:keepIn K (.ref f)=true):qh K x qual st f (fnOf x qual (ue st) (rP st) (pT st) .none kV doc pm an Ap ct):=⟨⟨oc,od,kV,doc,pm,an,Ap,ct,osl,rfl,l,c⟩,k⟩
end
def tM (hr:fX k A):A.units+1<cLine:=Nat.lt_of_le_of_lt (Nat.add_le_add_left (by decide:1<=64) _) hr.units
def DB (h:n<=1000):n<sizeLine:=Nat.lt_of_le_of_lt h ⋯
section
def pv (i:Nat) {x:Str} {pos:Pos} (hN:X.N[i]?=some x:=by rfl) (hv:wz X.env.scope x:=by first | exact Or.inl rfl | exact Or.inr (Or.inl rfl) | exact Or.inr (Or.inr rfl)) (hd:(x == ("__debug__":Str))=false:=by decide)
  (hcd:(x == ("__classdict__":Str))=false:=by decide):PE X (.Name x pos) (jj i):=ZoF hN hv hd hcd
end
def fS {A B:Prop}(h:B):if false=true then A else B:=by rw[lT mQ];exact h
def gJ {A B:Prop}(h:A):if true=true then A else B:=by rw[lU rfl];exact h
def fT {c A B:Prop}[Decidable c](h1:c->A)(h2:¬c->B):if c then A else B:=by
 by_cases h:c
 .rw[lU h];exact h1 h
 .rw[lT h];exact h2 h
def e8 (H H':Hp):Prop:=∀b o,H b=some o->H' b=some o
def e8.refl (H:Hp):e8 H H:=λ_ _ h=>h
def e8.trans (a:e8 H H1)(b:e8 H1 H2):e8 H H2:=λc o h=>b c o (a c o h)
def e8.free (e:e8 H H'){l:AD}(h:H' l=Option.none):H l=Option.none:=by
 cases q:H l with
 | none=>rfl
 | some o=>
  rw[e l o q]at h;cases h
def e8.seq {K:ma}{H H':Hp}{a:AD}{xs:IJ}(e:e8 H H')(h:m8 K H a xs):m8 K H' a xs:=by
 rcases h with (h | ⟨o,h⟩) | h
 .exact .inl (.inl (e _ _ h))
 .exact .inl (.inr ⟨o,e _ _ h⟩)
 .exact .inr h
section
variable {κ:Type}[DecidableEq κ]
noncomputable def fh (kvs:List (κ×V))(k:κ):Option V:=(kvs.find? λkv=>decide (kv.1=k)).map (·.2)
noncomputable def fz (kvs:List (κ×V))(k:κ)(v:V):List (κ×V):=
 if (kvs.any λkv=>decide (kv.1=k))=true then kvs.map (λkv=>if kv.1=k then (kv.1,v) else kv) else kvs++[(k,v)]
def D3 (kvs:List (κ×V))(k:κ):List (κ×V):=kvs.filter λkv=>decide (kv.1≠k)
def rS {p:κ×V}{r:List (κ×V)}{k:κ}(e:p.1=k):fh (p::r) k=some p.2:=by simp[fh,wL,e]
def rY {p:κ×V}{r:List (κ×V)}{k:κ}(e:¬p.1=k):fh (p::r) k=fh r k:=by simp[fh,wL,e]
theorem vP (k:κ):∀kvs:List (κ×V),(kvs.any λkv=>decide (kv.1=k))=(fh kvs k).isSome
 | []=>rfl
 | p::r=>by
  rw[List.any_cons];by_cases e:p.1=k
  .simp only[rS e,IA e,Bool.true_or,Option.isSome_some]
  .rw[rY e,IB e,Bool.false_or];exact vP k r
theorem Hj (k j:κ)(y:V):∀kvs:List (κ×V),fh (kvs.map λkv=>if kv.1=k then (kv.1,y) else kv) j=(fh kvs j).map λx=>if j=k then y else x
 | []=>rfl
 | p::r=>by
  have ih:=Hj k j y r;rw[oP];by_cases h:p.1=k
  .rw[lU h];by_cases e:p.1=j
   .rw[rS (p:=(p.1,y)) e,rS e,yN,lU (e.symm.trans h)]
   .rw[rY (p:=(p.1,y)) e,rY e,ih]
  .rw[lT h];by_cases e:p.1=j
   .rw[rS (p:=p) e,rS e,yN,lT (λz=>h (e.trans z))]
   .rw[rY (p:=p) e,rY e,ih]
theorem Ee (k j:κ)(y:V):∀kvs:List (κ×V),fh kvs k=none->fh (kvs++[(k,y)]) j=if j=k then some y else fh kvs j
 | [],_=>by
  by_cases e:k=j
  .rw[lU e.symm];exact rS (p:=(k,y)) e
  .rw[lT (λz=>e z.symm)];exact rY (p:=(k,y)) e
 | p::r,hn=>by
  rw[yg];have hk:¬p.1=k:=λz=>by rw[rS z]at hn;cases hn
  rw[rY hk]at hn;have ih:=Ee k j y r hn;by_cases e:p.1=j
  .rw[rS e,rS e,lT (λz=>hk (e.trans z))]
  .rw[rY e,rY e,ih]
def qv (kvs:List (κ×V))(k j:κ)(y:V):fh (fz kvs k y) j=if j=k then some y else fh kvs j:=by
 unfold fz;by_cases a:(kvs.any λkv=>decide (kv.1=k))=true
 .rw[lU a,Hj];rw[vP]at a;by_cases e:j=k
  .obtain⟨x,hx⟩:=Option.isSome_iff_exists.mp a;rw[lU e,e,hx,yN,lU rfl]
  .rw[lT e];cases fh kvs j with
   | none=>rfl
   | some x=>rw[yN,lT e]
 .rw[lT a];refine Ee k j y kvs ?_;rw[vP]at a;cases q:fh kvs k with
  | none=>rfl
  | some x=>rw[q]at a;exact(a rfl).elim
def sg (kvs:List (κ×V))(k:κ)(v:V):(fz kvs k v).length<=kvs.length+1:=by
 unfold fz;split
 .rw[lZ];lia
 .rw[mP,oN,wB];lia
def yZ {kvs:List (κ×V)}{k:κ}(v:V)(h:fh kvs k=none):fz kvs k v=kvs++[(k,v)]:=by unfold fz;rw[vP,h];exact lT ⋯
def gi.isSome_eq (r:gi o u):o.isSome=u.isSome:=by
 cases o with
 | none=>cases u with
  | none=>rfl
  | some _=>exact(show False from r).elim
 | some _=>cases u with
  | none=>exact(show False from r).elim
  | some _=>rfl
def gi.getD (r:gi o u)(rd:ft d d'):ft (o.getD d) (u.getD d'):=by
 cases o with
 | none=>cases u with
  | none=>exact rd
  | some _=>exact(show False from r).elim
 | some _=>cases u with
  | none=>exact(show False from r).elim
  | some _=>exact r
def KV.val (r:KV kvs vs)(k:κ):gi (fh kvs k) (valueAt vs k):=by
 unfold KV at r;induction r with
 | nil=>exact True.intro
 | @cons p q ps qs h t ih=>
  obtain⟨h1,h2⟩:=h;by_cases e:p.1=k
  .have e':q.1=k:=h1.symm.trans e;have b:valueAt (q::qs) k=some q.2:=by simp[valueAt,wL,e']
   rw[rS e,b];exact h2
  .have e':¬q.1=k:=λz=>e (h1.trans z);have b:valueAt (q::qs) k=valueAt qs k:=by simp[valueAt,wL,e']
   rw[rY e,b];exact ih
def KV.any (r:KV kvs vs)(k:κ):(kvs.any λkv=>decide (kv.1=k))=vs.any λkv=>decide (kv.1=k):=by
 unfold KV at r;induction r with
 | nil=>rfl
 | cons h t ih=>rw[List.any_cons,List.any_cons,ih,h.1]
def KV.repl (r:KV kvs vs)(k:κ){y:V}{u:Value}(ry:ft y u):
  KV (kvs.map λkv=>if kv.1=k then (kv.1,y) else kv) (vs.map λkv=>if kv.1=k then (kv.1,u) else kv):=by
 unfold KV at r ⊢;induction r with
 | nil=>exact .nil
 | @cons p q ps qs h t ih=>
  rw[oP,oP];refine .cons ?_ ih;obtain⟨h1,h2⟩:=h;by_cases e:p.1=k
  .rw[lU e,lU (h1.symm.trans e)];exact⟨h1,ry⟩
  .rw[lT e,lT (λz=>e (h1.trans z))];exact⟨h1,h2⟩
def KV.put (r:KV kvs vs)(k:κ){y:V}{u:Value}(ry:ft y u):KV (fz kvs k y) (stored vs k u):=by
 unfold fz stored;rw[r.any k];by_cases e:(vs.any λkv=>decide (kv.1=k))=true
 .rw[lU e,lU e];exact r.repl k ry
 .rw[lT e,lT e];exact Paired.snoc r ⟨rfl,ry⟩
def KV.drop (r:KV kvs vs)(k:κ):KV (D3 kvs k) (without vs k):=by
 unfold KV at r ⊢;unfold D3 without;induction r with
 | nil=>exact .nil
 | @cons p q ps qs h t ih=>
  obtain⟨h1,h2⟩:=h;rw[vE,vE];by_cases e:p.1=k
  .have a:¬decide (p.1≠k)=true:=by simp[e]
   have b:¬decide (q.1≠k)=true:=by simp[h1.symm.trans e]
   rw[lT a,lT b];exact ih
  .have e':¬q.1=k:=λz=>e (h1.trans z);have a:decide (p.1≠k)=true:=by simp[e]
   have b:decide (q.1≠k)=true:=by simp[e']
   rw[lU a,lU b];exact .cons ⟨h1,h2⟩ ih
def KV.keys {kvs:List (κ×V)}{vs:List (κ×Value)}(r:KV kvs vs):kvs.map (·.1)=vs.map (·.1):=by
 unfold KV at r;induction r with
 | nil=>rfl
 | cons h t ih=>rw[oP,oP,ih,h.1]
def KV.length (r:KV kvs vs):kvs.length=vs.length:=Paired.length r
end
def tz (r:ft (kV k) u):(nW P w).is k u=true:=by
 cases k with
 | inl i=>obtain⟨t,e⟩:=(show ∃t,u=Value.int i t from r);subst e;exact ZgY P w i t
 | inr x=>obtain⟨t,e⟩:=(show ∃t,u=Value.str x t from r);subst e;exact Im P w x t
theorem Hh {P:AG}{w:AI}:∀ {ks:List mh} {us:AC},fi (ks.map kV) us->ItemsAre (nW P w) ks us
 | [],_,r=>by rw[vW]at r;cases r;exact .nil
 | k::ks,_,r=>by
  rw[oP]at r;cases r with
  | cons h t=>exact .cons (tz h) (Hh t)
abbrev KT (H:Hp):List (List mh×V)->List (List mh×AD×Value)->Prop:=Paired λp q=>p.1=q.1/\H q.2.1=some (.tup (p.1.map kV))/\ft p.2 q.2.2
def KT.val (r:KT H kvs xs)(k:List mh):gi (fh kvs k) ((atKey xs k).map (·.2)):=by
 induction r with
 | nil=>exact True.intro
 | @cons p q ps qs h t ih=>
  obtain⟨h1,_,h2⟩:=h;by_cases e:p.1=k
  .have e':q.1=k:=h1.symm.trans e;have b:atKey (q::qs) k=some q.2:=by simp[atKey,wL,e']
   rw[rS e,b];exact h2
  .have e':¬q.1=k:=λz=>e (h1.trans z);have b:atKey (q::qs) k=atKey qs k:=by simp[atKey,wL,e']
   rw[rY e,b];exact ih
def KT.repl (r:KT H kvs xs)(k:List mh){y:V}{u:Value}(ry:ft y u):
  KT H (kvs.map λkv=>if kv.1=k then (kv.1,y) else kv) (xs.map (putAt k u)):=by
 induction r with
 | nil=>exact .nil
 | @cons p q ps qs h t ih=>
  rw[oP,oP];refine .cons ?_ ih;obtain⟨h1,h2,h3⟩:=h;unfold putAt;by_cases e:p.1=k
  .rw[lU e,lU (h1.symm.trans e)];exact⟨h1,h2,ry⟩
  .rw[lT e,lT (λz=>e (h1.trans z))];exact⟨h1,h2,h3⟩
def KT.put (r:KT H kvs xs)(k:List mh){b:AD}{y:V}{u:Value}(hb:H b=some (.tup (k.map kV)))(ry:ft y u):
  KT H (fz kvs k y) (storedH xs k b u):=by
 have e:(kvs.any λkv=>decide (kv.1=k))=(atKey xs k).isSome:=by rw[vP,(r.val k).isSome_eq,Option.isSome_map]
 unfold fz storedH;rw[e];by_cases q:(atKey xs k).isSome=true
 .rw[lU q,lU q];exact r.repl k ry
 .rw[lT q,lT q];exact Paired.snoc r ⟨rfl,hb,ry⟩
def KT.keeps (r:KT H kvs xs)(ht:∀b ys,H b=some (.tup ys)->H' b=some (.tup ys)):KT H' kvs xs:=
 Paired.mapP r λ_ _ z=>⟨z.1,ht _ _ z.2.1,z.2.2⟩
section
def Er (ok:nZ P w H h)(e:Rd H a u):fJ P w H h a u:=e.ok ok
def t9 (ok:nZ P w H h)(e:Rd H a (.dK kvs)):kvs.length<=sizeLine/\(a == sysModules)=false/\∃vs,KV kvs vs/\h.DictOf (nW P w) a vs:=
 show fJ P w H h a (.dK kvs) from Er ok e
def wS (ok:nZ P w H h)(e:H a=some (.dK kvs)):kvs.length<=sizeLine/\(a == sysModules)=false/\∃vs,KV kvs vs/\h.DictOf (nW P w) a vs:=t9 ok (.inl e)
def uk (ok:nZ P w H h)(e:H a=some (.tup (ks.map kV))):(tupleKind (nW P w)).is h ks a:=by obtain⟨_,its,r,o,h1,h2,n,h3⟩:=(show fJ P w H h a (.tup (ks.map kV)) from ok a _ e);exact⟨o,its.toArray,n,h1,h2,h3,by simpa using Hh r⟩
def uo (ok:nZ P w H h)(e:Rd H a (.dT kvs)):kvs.length<=sizeLine/\(a == sysModules)=false /\
  ∃xs,KT H kvs xs/\h.DictOfH (tupleKind (nW P w)) a xs:=by
 obtain⟨z,y,xs,r,o,es,ep,h1,h2,h3,h4,h5⟩:=(show fJ P w H h a (.dT kvs) from Er ok e);refine⟨z,y,xs,r,o,es,ep,h1,h2,h3,h4,λx hx=>?_,h5⟩;have all:∀ {l:List (List mh×V)} {m:List (List mh×AD×Value)},KT H l m->∀x∈m,(tupleKind (nW P w)).is h x.1 x.2.1:=by
  intro l m q;induction q with
  | nil=>intro x hx;exact nomatch hx
  | @cons p q ps qs hq t ih=>
   intro x hx;rcases m6.mp hx with e | hx
   .subst e;exact uk ok (by rw[<-hq.1];exact hq.2.1)
   .exact ih x hx
 exact all r x hx
def Eo (ok:nZ P w H h)(e:H a=some (.dT kvs)):kvs.length<=sizeLine/\(a == sysModules)=false /\
  ∃xs,KT H kvs xs/\h.DictOfH (tupleKind (nW P w)) a xs:=uo ok (.inl e)
end
def gG (H:Hp)(a:AD)(y:V)(r:Option V):Prop:=
 (∃kvs k,Rd H a (.dK kvs)/\y=kV k/\r=fh kvs k)\/∃kvs k b,Rd H a (.dT kvs)/\y=.ref b/\H b=some (.tup (k.map kV))/\r=fh kvs k
def gO (H:Hp)(a:AD)(y v:V)(H':Hp):Prop:=
 (∃kvs k,H a=some (.dK kvs)/\y=kV k/\kvs.length<sizeLine/\H'=upd H a (.dK (fz kvs k v))) \/
 ∃kvs k b,H a=some (.dT kvs)/\y=.ref b/\H b=some (.tup (k.map kV))/\kvs.length<sizeLine/\H'=upd H a (.dT (fz kvs k v))
def gG.k {H:Hp}{a:AD}{kvs:List (mh×V)}{k:mh}(e:H a=some (.dK kvs)):gG H a (kV k) (fh kvs k):=.inl ⟨kvs,k,.inl e,rfl,rfl⟩
def gG.t {H:Hp}{a b:AD}{kvs:List (List mh×V)}{k:List mh}(e:H a=some (.dT kvs))(eb:H b=some (.tup (k.map kV))):gG H a (.ref b) (fh kvs k):=.inr ⟨kvs,k,b,.inl e,rfl,eb,rfl⟩
def gO.k {H:Hp}{a:AD}{kvs:List (mh×V)}{k:mh}{v:V}(e:H a=some (.dK kvs))(hl:kvs.length<sizeLine):gO H a (kV k) v (upd H a (.dK (fz kvs k v))):=.inl ⟨kvs,k,e,rfl,hl,rfl⟩
def gO.t {H:Hp}{a b:AD}{kvs:List (List mh×V)}{k:List mh}{v:V}(e:H a=some (.dT kvs))(eb:H b=some (.tup (k.map kV)))(hl:kvs.length<sizeLine):
  gO H a (.ref b) v (upd H a (.dT (fz kvs k v))):=.inr ⟨kvs,k,b,e,rfl,eb,hl,rfl⟩
section
def lO.big (I:lO X Ao U H s):sysModules<s.heap.objs.size:=by have h:mainGlobals<s.heap.objs.size:=(I.mod.glob.keeps I.bk).lt;exact Nat.lt_trans ⋯ h
def Eu (hu:A.units+1<cLine)(I:lO X Ao U H s)(g:gG H a y (some v))(ry:ft y u)(h:∀w' s',lO X Ao U H s'->ft v w'->Q w' s'):
  wpAny (model X.prog X.w) A (getItem (.ref a) u) Q E s:=by
 rcases g with⟨kvs,k,e,ey,l⟩|⟨kvs,k,b,e,ey,eb,l⟩
 .subst ey;obtain⟨z,hd,vs,rel,dd⟩:=t9 I.hok e;obtain⟨w',hw,rw'⟩:=gi.some_of (v:=v) (o:=valueAt vs k) (by rw[l];exact rel.val k);exact wpAny_getItem_of (tz ry) dd.mapOf hw (h w' _ (I.tok _) rw')
 .subst ey;cases (show u=Value.ref b from ry);obtain⟨z,hd,xs,rel,dd⟩:=uo I.hok e;obtain⟨w',hw,rw'⟩:=gi.some_of (v:=v) (o:=(atKey xs k).map (·.2)) (by rw[l];exact rel.val k);obtain⟨p,hp,hp2⟩:=Option.map_eq_some_iff.mp hw;refine wpAny_getItem_heap (tupleKind_room_in1 hu) (uk I.hok eb) dd hp ?_;rw[hp2];exact h w' _ (I.tok _) rw'
def d_in (hu:A.units+1<cLine)(I:lO X Ao U H s)(g:gG H a y o)(ry:ft y u)(h:∀s',lO X Ao U H s'->Q (.bool o.isSome) s'):
  wpAny (model X.prog X.w) A (compareOp .In u (.ref a)) Q E s:=by
 rcases g with⟨kvs,k,e,ey,l⟩|⟨kvs,k,b,e,ey,eb,l⟩
 .subst ey;obtain⟨z,hd,vs,rel,dd⟩:=t9 I.hok e;refine wpAny_in_of (tz ry) hd dd.mapOf ?_;rw[<-(rel.val k).isSome_eq,<-l];exact h _ (I.tok _)
 .subst ey;cases (show u=Value.ref b from ry);obtain⟨z,hd,xs,rel,dd⟩:=uo I.hok e;refine wpAny_in_heap (tupleKind_room_in1 hu) (uk I.hok eb) hd dd ?_;have q:=(rel.val k).isSome_eq;rw[Option.isSome_map]at q;rw[<-q,<-l];exact h _ (I.tok _)
def ZnO (hu:A.units+1<cLine)(I:lO X Ao U H s)(g:gG H a y o)(ry:ft y u)(h:∀s',lO X Ao U H s'->Q (.bool (!o.isSome)) s'):
  wpAny (model X.prog X.w) A (compareOp .NotIn u (.ref a)) Q E s:=by
 rcases g with⟨kvs,k,e,ey,l⟩|⟨kvs,k,b,e,ey,eb,l⟩
 .subst ey;obtain⟨z,hd,vs,rel,dd⟩:=t9 I.hok e;refine wpAny_notIn_of (tz ry) hd dd.mapOf ?_;rw[<-(rel.val k).isSome_eq,<-l];exact h _ (I.tok _)
 .subst ey;cases (show u=Value.ref b from ry);obtain⟨z,hd,xs,rel,dd⟩:=uo I.hok e;refine wpAny_notIn_heap (tupleKind_room_in1 hu) (uk I.hok eb) hd dd ?_;have q:=(rel.val k).isSome_eq;rw[Option.isSome_map]at q;rw[<-q,<-l];exact h _ (I.tok _)
def xu (I:lO X Ao U H s)(mu:xV (H a))(hs:Heap.SameBut a s.heap h')(he:∃q,h'.get? a=some q)(new:fJ X.prog X.w (upd H a ob) h' a ob):
  lO X Ao U (upd H a ob) { s with heap:=h',toks:=t' }:=
 I.write (x:=a) (e:=a) mu (.inl rfl) (λb q hb z=>(hs.2 b hb).trans z) he new
def yc (z:kvs.length<=sizeLine)(hd:(a == sysModules)=false)(rel:KV kvs vs)(dd:h'.DictOf (nW P w) a vs):
  fJ P w H' h' a (.dK kvs):=⟨z,hd,vs,rel,dd⟩
def HE (hu:A.units+1<cLine)(I:lO X Ao U H s)(g:gO H a y v H')(ry:ft y u)(rv:ft v r)(h:∀s',lO X Ao U H' s'->Q () s'):
  wpAny (model X.prog X.w) A (setItem (.ref a) u r) Q E s:=by
 rcases g with⟨kvs,k,e,ey,l,eH⟩|⟨kvs,k,b,e,ey,eb,l,eH⟩
 .subst ey eH;obtain⟨z,hd,vs,rel,dd⟩:=wS I.hok e;have hz:vs.length<=sizeLine:=by rw[<-rel.length];exact z
  have hl:(fz kvs k v).length<=sizeLine:=by have:=sg kvs k v;lia
  refine wpAny_setItem_pairs (hsz:=hz) (tz ry) dd λh' dd' hs=>h _ ?_;have he:∃q,h'.get? a=some q:=let ⟨q,_,_,hq,_⟩:=dd';⟨q,hq⟩;exact xu I (by rw[e];exact True.intro) hs he (yc hl hd (rel.put k rv) dd')
 .subst ey eH;cases (show u=Value.ref b from ry);obtain⟨z,hd,xs,rel,dd⟩:=Eo I.hok e;have hz:xs.length<=sizeLine:=by rw[<-Paired.length rel];exact z
  have hl:(fz kvs k v).length<=sizeLine:=by have:=sg kvs k v;lia
  refine wpAny_setItem_heap (hsz:=hz) (tupleKind_room_in1 hu) (uk I.hok eb) dd λh' dd' hs=>h _ ?_;obtain⟨q,es,ep,hq,h2,h3,h4,_,h5⟩:=dd';refine xu I (by rw[e];exact True.intro) hs ⟨q,hq⟩ ⟨hl,hd,_,(rel.put k eb rv).keeps λc ys ec=>?_,q,es,ep,hq,h2,h3,h4,h5⟩;rw[lR (Ff ec e (λz=>nomatch z))];exact ec
end
section
def Zrq (I:lO X Ao U H s)(e:Rd H a (.dK kvs))(h:∀t s',lO X Ao U H s'->Q (.int kvs.length t) s'):wpAny (model X.prog X.w) A (call (.builtin "len") [.ref a]) Q E s:=by obtain⟨z,hd,vs,rel,dd⟩:=t9 I.hok e;refine call_len_dict hd dd (by rw[<-rel.length];rw[sizeLine_eq]at z;lia) ?_;rw[<-rel.length];exact h _ _ (I.tok _)
end
def NoSl (i:Expr):Prop:=∀ov iv,subscripted i false ov iv=operate [ov,iv] (getItem ov iv)
def ZmD {prog:AG}{w:AI}{A:AH}{E:mY}{s:AE}{env:Env}{value slice:Expr}{pos:Pos}{T id:String}{Q:mY}
  (hl:typeLookup (.type T) "__getitem__"=pure (some (.builtin id))) (hs:NoSl slice)
  (h:wpAny (model prog w) A (eval value env) (λo s_1=>wpAny (model prog w) A (eval slice env) (λi s_2=>s_2.TypeIs o T/\wpAny (model prog w) A (getItem o i) Q E s_2) E s_1) E s):
  wpAny (model prog w) A (eval (.Subscript value slice pos) env) Q E s:=by
 refine Subscript_ (pG h (λo s_1 h9=>pG h9 (λi s_2 h_2=>?_) λ_ _ x=>x) λ_ _ x=>x);obtain⟨hT,h_2⟩:=h_2;unfold subscriptTail;refine lP ?_;rw[getitemInPython_of_ne hT.not_modules];refine lP (wpAny_specialOf hT hl ?_);have fin:wpAny (model prog w) A (subscripted slice false o i) (λr s₃=>wpAny (model prog w) A (letTemporaryGo value o r >>= λ_=>pure r) Q E s₃) E s_2:=by rw[hs o i];exact wpAny_operating (pG h_2 (λr s₃ h₃=>lP (wpAny_letTemporaryGo (mf h₃))) λ_ _ x=>x)
 first
  | exact mf (lP fin)
  | exact lP (mf (lP fin))
  | exact lP fin
def Zhe (I:lO X Ao U H s)(g:gG H a y o):s.TypeIs (.ref a) "dict":=by
 rcases g with⟨kvs,k,e,_,_⟩|⟨kvs,k,b,e,_,_,_⟩
 .obtain⟨_,_,vs,_,dd⟩:=t9 I.hok e;exact dd.typeIs
 .obtain⟨_,_,xs,_,dd⟩:=uo I.hok e;exact dd.typeIs
def F4 (td ty:TE):TE:=λU H Q=>td U H λx H1=>ty U H1 λy H2=>∃a v,x=.ref a/\gG H2 a y (some v)/\Q v H2
def tDIn (ty td:TE):TE:=λU H Q=>ty U H λy H1=>td U H1 λx H2=>∃a o,x=.ref a/\gG H2 a y o/\Q (.bl o.isSome) H2
def Fp (ty td:TE):TE:=λU H Q=>ty U H λy H1=>td U H1 λx H2=>∃a o,x=.ref a/\gG H2 a y o/\Q (.bl (!o.isSome)) H2
def E6 (td ty tv:TE):TS:=λD U H=>tv U H λv H1=>td U H1 λx H2=>ty U H2 λy H3=>∃a H4,x=.ref a/\gO H3 a y v H4/\D.nx U H4
def FN (td ty tv:TE)(rd:V->V->Hp->VK->Prop):TS:=λD U H=>td U H λx H1=>ty U H1 λy H2=>∃a v,x=.ref a/\gG H2 a y (some v) /\
 tv U H2 λy2 H3=>rd v y2 H3 λz H4=>∃H5,gO H4 a y z H5/\D.nx U H5
section
def sB (hu:X.A.units+1<cLine)(ho:PE X o td)(hi:PE X i ty)(hs:NoSl i):PE X (.Subscript o i pos) (F4 td ty):=by intro Ao s U H Q I h;refine ZmD PySem.F.slot_dict_getitem.lookup hs (mB (ho Ao s U H _ I h) λu s1 ⟨x,H1,I1,rx,q1⟩=>mB (hi Ao s1 U H1 _ I1 q1) λiv s2 zz=>?_);obtain⟨y,H2,I2,ry,a,v,ex,g,q2⟩:=zz;subst ex;obtain rfl:u=Value.ref a:=rx;exact⟨Zhe I2 g,Eu hu I2 g ry λw' s3 I3 rw'=>⟨v,H2,I3,rw',q2⟩⟩
def Hq (hu:X.A.units+1<cLine)(hi:PE X i ty)(ho:PE X o td):PC X .In i o (tDIn ty td):=by intro Ao s U H Q I h;refine mB (hi Ao s U H _ I h) λiv s1 ⟨y,H1,I1,ry,q1⟩=>mB (ho Ao s1 U H1 _ I1 q1) λu s2 zz=>?_;obtain⟨x,H2,I2,rx,a,ov,ex,g,q2⟩:=zz;subst ex;obtain rfl:u=Value.ref a:=rx;exact d_in hu I2 g ry λs3 I3=>⟨.bl ov.isSome,H2,I3,rfl,q2⟩
def CY (hu:X.A.units+1<cLine)(hi:PE X i ty)(ho:PE X o td):PC X .NotIn i o (Fp ty td):=by intro Ao s U H Q I h;refine mB (hi Ao s U H _ I h) λiv s1 ⟨y,H1,I1,ry,q1⟩=>mB (ho Ao s1 U H1 _ I1 q1) λu s2 zz=>?_;obtain⟨x,H2,I2,rx,a,ov,ex,g,q2⟩:=zz;subst ex;obtain rfl:u=Value.ref a:=rx;exact ZnO hu I2 g ry λs3 I3=>⟨.bl (!ov.isSome),H2,I3,rfl,q2⟩
def tQ (hu:X.A.units+1<cLine)(ho:PE X o td)(hi:PE X i ty)(hv:PE X value tv)(hs:swapsWith value (some (.Subscript o i pos')) pos.line X.env=pure false):
  PS X (.Assign [.Subscript o i pos'] value pos) (E6 td ty tv):=by
 intro Ao s U H D I h;refine wpAny_Assign_Subscript (mB (hv Ao s U H _ I h) λr s1 ⟨v,H1,I1,rv,q1⟩=>mB (ho Ao s1 U H1 _ I1 q1) λu s2 ⟨x,H2,I2,rx,q2⟩=>mB (hi Ao s2 U H2 _ I2 q2) λiv s3 zz=>?_) hs;obtain⟨y,H3,I3,ry,a,H4,ex,g,q3⟩:=zz;subst ex;obtain rfl:u=Value.ref a:=rx;exact HE hu I3 g ry rv λs4 I4=>⟨U,H4,I4,q3⟩
def Zm2 (hu:X.A.units+1<cLine)(ho:PE X o td)(hi:PE X i ty)(hv:PE X value tv)(hop:InOp X op rd)
  (ha:∀ov iv new,augStore i ov iv new=(do holding [new,ov,iv] (setItem ov iv new);release [new,ov,iv] [];pure .next)):PS X (.AugAssign (.Subscript o i tpos) op value pos) (FN td ty tv rd):=by
 intro Ao s U H D I h;refine wpAny_AugAssign_SubscriptAny (mB (ho Ao s U H _ I h) λu s1 ⟨x,H1,I1,rx,q1⟩=>mB (hi Ao s1 U H1 _ I1 q1) λiv s2 zz=>?_) ha;obtain⟨y,H2,I2,ry,a,v,ex,g,q2⟩:=zz;subst ex;obtain rfl:u=Value.ref a:=rx;refine Eu hu I2 g ry λw' s3 I3 rw'=>mB (hv Ao s3 U H2 _ I3 q2) λw2 s4 ⟨y2,H3,I4,ry2,q3⟩=>mB (hop Ao s4 U H3 v y2 w' w2 _ I4 rw' ry2 q3) λw3 s5 zz=>?_;obtain⟨z,H4,I5,rz,H5,g5,q4⟩:=zz;exact HE hu I5 g5 ry rz λs6 I6=>⟨U,H5,I6,q4⟩
end
def HP (h:Heap)(hb:sysModules<h.objs.size):fJ P w H (h.push { cls:=.type "dict",data:=.dict #[] }) h.objs.size (.dK []):=
 ⟨nO _,beq_eq_false_iff_ne.mpr (mH (nM hb)),[],.nil,Heap.DictOf.new h⟩
def ZlE (h:Heap)(hb:sysModules<h.objs.size):fJ P w H (h.push { cls:=.type "dict",data:=.dict #[] }) h.objs.size (.dT []):=
 ⟨nO _,beq_eq_false_iff_ne.mpr (mH (nM hb)),[],.nil,_,#[],0,nV _ rfl,⟨rfl,rfl,rfl⟩,rfl,rfl,List.nodup_nil⟩
def jc:TE:=λ_ H Q=>∀p,H p=none->Q (.ref p) (upd H p (.dK []))
section
def vg:PE X (.Dict [] [] pos) jc:=λAo s U H Q I h=>
 wpAny_Dict_empty ⟨.ref s.heap.objs.size,_,I.laid (a:=s.heap.objs.size) (o:=.dK []) (t':=s.toks) (λ_ _ q=>mR _ q) (mC _) (HP s.heap I.big),rfl,h _ (I.hok.fresh (mC _))⟩
end
def zC:List (TE×TE)->St->Hp->(List (V×V)->Hp->Prop)->Prop
 | [],_,H,Q=>Q [] H
 | (tk,tv)::r,U,H,Q=>tk U H λx H1=>tv U H1 λy H2=>zC r U H2 λps H3=>Q ((x,y)::ps) H3
abbrev VV:List (V×V)->List (Value×Value)->Prop:=Paired λp q=>ft p.1 q.1/\ft p.2 q.2
def zL (X:Cx)(pos:Pos)(keys:List (Option Expr))(values:List Expr)(trs:List (TE×TE)):Prop:=
 ∀(Ao:AA) (s:AE) (U:St) (H:Hp) (Q:List (V×V)->Hp->Prop),lO X Ao U H s->zC trs U H Q ->
  wpAny (model X.prog X.w) X.A (evalPairs (pairTrees keys values X.env pos)) (λvs s'=>∃ps H',lO X Ao U H' s'/\VV ps vs/\Q ps H') X.xe s
def F7:zL X pos [] [] []:=λAo s U H Q I h=>pairTrees_nil_walk ⟨[],H,I,.nil,h⟩
def HW (hk:PE X k tk)(hv:PE X v tv)(hr:zL X pos ks vs trs):
  zL X pos (some k::ks) (v::vs) ((tk,tv)::trs):=λAo s U H Q I h=>
 pairTrees_cons_walk (mB (hk Ao s U H _ I h) λu s1 ⟨x,H1,I1,rx,q1⟩=>mB (hv Ao s1 U H1 _ I1 q1) λw2 s2 ⟨y,H2,I2,ry,q2⟩=>
  mB (hr Ao s2 U H2 _ I2 q2) λws s3 ⟨ps,H3,I3,rel,q3⟩=>⟨(x,y)::ps,H3,I3,.cons ⟨rx,ry⟩ rel,q3⟩)
def oO (kvs more:List (mh×V)):List (mh×V):=more.foldl (λacc kv=>fz acc kv.1 kv.2) kvs
def KV.merge:∀ {more:List (mh×V)} {rs:List (mh×Value)} {kvs:List (mh×V)} {vs:List (mh×Value)},KV more rs->KV kvs vs->KV (oO kvs more) (merged vs rs):=by
 intro more rs kvs vs r;unfold KV at r;induction r generalizing kvs vs with
 | nil=>intro q;exact q
 | @cons p q ps qs h t ih=>
  intro r0;have e:KV (fz kvs p.1 p.2) (stored vs q.1 q.2):=by have:=r0.put p.1 h.2;rw[<-h.1];exact this
  exact ih e
theorem vZ:∀(more kvs:List (mh×V)),(oO kvs more).length<=kvs.length+more.length
 | [],kvs=>by show kvs.length<=kvs.length+0;lia
 | p::r,kvs=>by have h1:=vZ r (fz kvs p.1 p.2);have h2:=sg kvs p.1 p.2;show (oO (fz kvs p.1 p.2) r).length<=_;rw[oN];lia
theorem He {P:AG}{w:AI}:∀ {kvs:List (mh×V)} {ws:List (Value×Value)},VV (kvs.map λkv=>(kV kv.1,kv.2)) ws->∃rs,Carries (nW P w) ws rs/\KV kvs rs
 | [],_,r=>by rw[vW]at r;cases r;exact⟨[],True.intro,.nil⟩
 | p::kvs,_,r=>by
  rw[oP]at r;cases r with
  | @cons a b as bs h t=>
   obtain⟨rs,c,q⟩:=He (P:=P) (w:=w) t;obtain⟨b1,b2⟩:=b;exact⟨(p.1,b2)::rs,⟨tz h.1,rfl,c⟩,.cons ⟨rfl,h.2⟩ q⟩
def Ej (trs:List (TE×TE)):TE:=λU H Q=>∀p,H p=none->zC trs U (upd H p (.dK [])) λps H2=>H2 p=some (.dK [])/\∃kvs:List (mh×V),ps=kvs.map (λkv=>(kV kv.1,kv.2))/\kvs.length<=15/\Q (.ref p) (upd H2 p (.dK (oO [] kvs)))
def Hv (h:zL X pos keys values trs)(hall:keys.all (·.isSome)=true)(hl:keys.length=values.length)(h0:keys≠[])
  (h15:keys.length<=15):PE X (.Dict keys values pos) (Ej trs):=by
 intro Ao s U H Q I q;have hn:=I.hok.fresh (mC s.heap.objs.size);have I1:=I.laid (a:=s.heap.objs.size) (o:=.dK []) (h':=s.heap.push { cls:=.type "dict",data:=.dict #[] }) (t':=s.toks) (λ_ _ q=>mR _ q) (mC _) (HP s.heap I.big);refine wpAny_Dict_walk (knd:=nW X.prog X.w) hall hl h0 h15 (mB (h Ao _ U _ _ I1 (q _ hn)) λws s2 zz=>?_);obtain⟨ps,H2,I2,rel,e,kvs,ep,lk,q2⟩:=zz;subst ep;obtain⟨rs,c,rk⟩:=He (P:=X.prog) (w:=X.w) rel;obtain⟨z,hd,vs0,r0,dd⟩:=wS I2.hok e;cases r0;refine⟨rs,c,dd,λh' dd' hs=>⟨.ref s.heap.objs.size,_,?_,rfl,q2⟩⟩;have hz:(oO [] kvs).length<=sizeLine:=by have h1:=vZ kvs [];rw[wB]at h1;rw[sizeLine_eq];lia
 have he:∃q,h'.get? s.heap.objs.size=some q:=let ⟨q,_,_,hq,_⟩:=dd';⟨q,hq⟩;exact xu I2 (by rw[e];exact True.intro) hs he (yc hz hd (rk.merge .nil) dd')
structure M1 (X:Cx)(o:Expr)(m:Str)(Au:Pos)(e:Expr)(Aw:Pos):Prop where
 base:attributeBase o m X.env (eval o X.env)=eval o X.env
 few:((backTo Aw (starEach [e] X.env)).all (λx=>!x.1)&&(backToKw Aw (keywordEach [] X.env)).all (λx=>x.1.isSome)
  && decide (([e]:List Expr).length+([]:List Keyword).length+(if ([]:List Keyword).isEmpty then 0 else 1)<30))=true
 line:(Au.endLine == Aw.line)=true
 trees:backTo Aw (starEach [e] X.env)=[(false,eval e X.env)]
structure M2 (X:Cx)(o:Expr)(m:Str)(Au:Pos)(e f:Expr)(Aw:Pos):Prop where
 base:attributeBase o m X.env (eval o X.env)=eval o X.env
 few:((backTo Aw (starEach [e,f] X.env)).all (λx=>!x.1)&&(backToKw Aw (keywordEach [] X.env)).all (λx=>x.1.isSome)
  && decide (([e,f]:List Expr).length+([]:List Keyword).length+(if ([]:List Keyword).isEmpty then 0 else 1)<30))=true
 line:(Au.endLine == Aw.line)=true
 trees:backTo Aw (starEach [e,f] X.env)=[(false,eval e X.env),(false,eval f X.env)]
def x6 (H:Hp)(a:AD):Prop:=(∃kvs,Rd H a (.dK kvs))\/∃kvs,Rd H a (.dT kvs)
def Bw (I:lO X Ao U H s)(d:x6 H a):
  s.TypeIs (.ref a) "dict"/\(∀b,Value.ref a=.ref b->∃ob,s.heap.get? b=some ob/\ob.dict=none)/\(a == sysModules)=false:=by
 rcases d with⟨kvs,e⟩|⟨kvs,e⟩
 .obtain⟨_,hd,vs,_,dd⟩:=t9 I.hok e;refine⟨dd.typeIs,λb q=>?_,hd⟩;cases q;obtain⟨ob,_,_,h1,h2,_⟩:=dd;exact⟨ob,h1,h2.2.1⟩
 .obtain⟨_,hd,xs,_,dd⟩:=uo I.hok e;refine⟨dd.typeIs,λb q=>?_,hd⟩;cases q;obtain⟨ob,_,_,h1,h2,_⟩:=dd;exact⟨ob,h1,h2.2.1⟩
section
def ZpQ (hu:A.units+1<cLine)(I:lO X Ao U H s)(g:gG H a y o)(ry:ft y u)(h:∀w' s',lO X Ao U H s'->ft (o.getD .non) w'->Q w' s'):
  wpAny (model X.prog X.w) A (call (.builtin "dict.get") [.ref a,u]) Q E s:=by
 rcases g with⟨kvs,k,e,ey,l⟩|⟨kvs,k,b,e,ey,eb,l⟩
 .subst ey;obtain⟨z,hd,vs,rel,dd⟩:=t9 I.hok e;refine call_meetsIn xk dd.typeIs zi (PySem.F.args_dict_get_2 _ _) (meets_dict_get (nW X.prog X.w) a (tz ry) hd) ⟨_,dd.mapOf,h _ _ (I.tok _) ?_⟩;rw[l];exact(rel.val k).getD rfl
 .subst ey;cases (show u=Value.ref b from ry);obtain⟨z,hd,xs,rel,dd⟩:=uo I.hok e;refine call_meetsIn xk dd.typeIs zi (PySem.F.args_dict_get_2 _ _) (meetsH_dict_get (tupleKind (nW X.prog X.w)) a b hd) ⟨tupleKind_room_in1 hu,k,xs,uk I.hok eb,dd,h _ _ (I.tok _) ?_⟩;rw[l];exact(rel.val k).getD rfl
def ZpP (hu:A.units+1<cLine)(I:lO X Ao U H s)(g:gG H a y o)(ry:ft y u)(rd:ft d r)(h:∀w' s',lO X Ao U H s'->ft (o.getD d) w'->Q w' s'):
  wpAny (model X.prog X.w) A (call (.builtin "dict.get") [.ref a,u,r]) Q E s:=by
 rcases g with⟨kvs,k,e,ey,l⟩|⟨kvs,k,b,e,ey,eb,l⟩
 .subst ey;obtain⟨z,hd,vs,rel,dd⟩:=t9 I.hok e;refine call_meetsIn xk dd.typeIs zi (PySem.F.args_dict_get_3 _ _ _) (meets_dict_get_default (nW X.prog X.w) a (tz ry) hd r) ⟨_,dd.mapOf,h _ _ (I.tok _) ?_⟩;rw[l];exact(rel.val k).getD rd
 .subst ey;cases (show u=Value.ref b from ry);obtain⟨z,hd,xs,rel,dd⟩:=uo I.hok e;refine call_meetsIn xk dd.typeIs zi (PySem.F.args_dict_get_3 _ _ _) (meetsH_dict_get_default (tupleKind (nW X.prog X.w)) a b hd r) ⟨tupleKind_room_in1 hu,k,xs,uk I.hok eb,dd,h _ _ (I.tok _) ?_⟩;rw[l];exact(rel.val k).getD rd
end
def Ep (td ty:TE):TE:=λU H Q=>td U H λx H1=>∃a,x=.ref a/\x6 H1 a/\ty U H1 λy H2=>∃o,gG H2 a y o/\Q (o.getD .non) H2
def FC (td ty tx:TE):TE:=λU H Q=>td U H λx H1=>∃a,x=.ref a/\x6 H1 a/\ty U H1 λy H2=>tx U H2 λz H3=>∃o,gG H3 a y o/\Q (o.getD z) H3
section
def Zk6 (hu:X.A.units+1<cLine) (ho:PE X o td) (he:PE X e ty) (m:M1 X o "get" Au e Aw):PE X (.Call (.Attribute o "get" Au) [e] [] Aw) (Ep td ty):=by intro Ao s U H Q I h;refine yu m.base m.few m.line xT xk PySem.F.type_dict_get (mB (ho Ao s U H _ I h) λu s1 zz=>?_);obtain⟨x,H1,I1,rx,a,ex,d,q1⟩:=zz;subst ex;obtain rfl:u=Value.ref a:=rx;obtain⟨t1,t2,_⟩:=Bw I1 d;refine⟨t1,t2,?_⟩;rw[m.trees];refine xC rfl (x0 (uj (mB (he Ao s1 U H1 _ I1 q1) λiv s2 ⟨y,H2,I2,ry,ov,g,q2⟩=>vD ?_)));exact ZpQ hu I2 g ry λw' s3 I3 rw'=>⟨_,H2,I3,rw',q2⟩
def Zk5 (hu:X.A.units+1<cLine) (ho:PE X o td) (he:PE X e ty) (hf:PE X f tx) (m:M2 X o "get" Au e f Aw):PE X (.Call (.Attribute o "get" Au) [e,f] [] Aw) (FC td ty tx):=by
 intro Ao s U H Q I h;refine yu m.base m.few m.line xT xk PySem.F.type_dict_get (mB (ho Ao s U H _ I h) λu s1 zz=>?_);obtain⟨x,H1,I1,rx,a,ex,d,q1⟩:=zz;subst ex;obtain rfl:u=Value.ref a:=rx;obtain⟨t1,t2,_⟩:=Bw I1 d;refine⟨t1,t2,?_⟩;rw[m.trees];refine xC rfl (x0 (uj (mB (he Ao s1 U H1 _ I1 q1) λiv s2 ⟨y,H2,I2,ry,q2⟩=>
  uj (mB (hf Ao s2 U H2 _ I2 q2) λfv s3 ⟨z,H3,I3,rz,ov,g,q3⟩=>vD ?_))))
 exact ZpP hu I3 g ry rz λw' s4 I4 rw'=>⟨_,H3,I4,rw',q3⟩
end
section
end
section
def d_LL (hu:A.units+1<cLine)(hh:A.handled=none)(I:lO X Ao U H s)(g:gG H a y none)(ry:ft y u)
  (h:∀h' e t',Heap.NewExc s.heap h' e "KeyError"->E (.ref e) { s with heap:=h',toks:=t' }):wpAny (model X.prog X.w) A (getItem (.ref a) u) Q E s:=by
 rcases g with⟨kvs,k,e,ey,l⟩|⟨kvs,k,b,e,ey,eb,l⟩
 .subst ey;obtain⟨z,hd,vs,rel,dd⟩:=t9 I.hok e;have hn:valueAt vs k=none:=gi.none_of (by rw[l];exact rel.val k);exact wpAny_getItem_missing_of (tz ry) hd hh dd.mapOf hn λh' ex ne=>h h' ex _ ne
 .subst ey;cases (show u=Value.ref b from ry);obtain⟨z,hd,xs,rel,dd⟩:=uo I.hok e;have hn:(atKey xs k).map (·.2)=none:=gi.none_of (by rw[l];exact rel.val k);exact wpAny_getItem_missing_heap (tupleKind_room_in1 hu) (uk I.hok eb) hd hh dd (Option.map_eq_none_iff.mp hn) λh' ex ne=>h h' ex _ ne
end
section
def Zkx:pR X (.builtin "len") (λxs H Q=>∃a kvs,xs=[V.ref a]/\H a=some (.dK kvs)/\Q (.int kvs.length) H):=by intro Ao s U H xs us Q I r h;obtain⟨a,kvs,rfl,ha,q⟩:=h;obtain⟨u,rfl,ru⟩:=iT r;cases ru;exact Zrq I (.inl ha) λt s' I'=>⟨.int kvs.length,H,I',⟨t,rfl⟩,q⟩
end
section
variable {κ:Type}[DecidableEq κ]
def ZkI {kvs:List (κ×V)}{k:κ}(h:fh kvs k=none):¬k∈kvs.map (·.1):=by intro m;obtain⟨p,hp,e⟩:=nj.mp m;have q:(kvs.any λkv=>decide (kv.1=k))=true:=se.mpr ⟨p,hp,IA e⟩;rw[vP,h]at q;exact IG q {}
def HJ {kvs:List (κ×V)}{k:κ}{v:V}(h:fh kvs k=some v):k∈kvs.map (·.1):=by
 have q:(kvs.any λkv=>decide (kv.1=k))=true:=by rw[vP,h];all_goals rfl
 obtain⟨p,hp,e⟩:=se.mp q;exact nj.mpr ⟨p,hp,IC e⟩
theorem EC:∀ {l:List κ} {k:κ},l.Nodup->¬k∈l->(l++[k]).Nodup
 | [],k,_,_=>by simp
 | a::r,k,h,hk=>by
  obtain⟨h1,h2⟩:=rM.mp h;show (a::(r++[k])).Nodup;refine rM.mpr ⟨λm=>?_,EC h2 λm=>hk (m6.mpr (Or.inr m))⟩;rcases nJ.mp m with q | q
  .exact h1 q
  .exact hk (m6.mpr (Or.inl (mU.mp q).symm))
def Znn {kvs:List (κ×V)}{k:κ}(v:V)(hn:(kvs.map (·.1)).Nodup)(h:fh kvs k=none):((fz kvs k v).map (·.1)).Nodup:=by rw[yZ v h,qj];exact EC hn (ZkI h)
end
noncomputable def gS (cells:List (Str×AD)):List (Str×NameKind)->List (Str×AD)->List (Str×AD)
 | [],acc=>acc
 | (n,k)::r,acc=>if k == NameKind.free then gS cells r ((n,(cells.lookup n).getD 0)::acc) else gS cells r acc
theorem Cl {cells:List (Str×AD)}:∀(names:List (Str×NameKind)) (acc:List (Str×AD)) (p:Str×AD),p∈acc->p∈gS cells names acc
 | [],_,_,h=>h
 | (n,k)::r,acc,p,h=>by
  unfold gS;split
  .exact Cl r _ p (oV _ h)
  .exact Cl r acc p h
theorem DK {cells:List (Str×AD)}{x:Str}:∀(names:List (Str×NameKind)) (acc:List (Str×AD)),(x,NameKind.free)∈names->(x,(cells.lookup x).getD 0)∈gS cells names acc
 | [],_,h=>by cases h
 | (n,k)::r,acc,h=>by
  unfold gS;rcases m6.mp h with e | h
  .have e1:x=n:=IF Prod.fst e;have e2:NameKind.free=k:=IF Prod.snd e;subst e1 e2;exact Cl r _ _ o7
  .split
   .exact DK r _ h
   .exact DK r _ h
theorem C7 {cells:List (Str×AD)}:∀(names:List (Str×NameKind)) (acc:List (Str×AD)) (p:Str×AD),p∈gS cells names acc->p∈acc\/((p.1,NameKind.free)∈names/\p.2=(cells.lookup p.1).getD 0)
 | [],_,_,h=>.inl h
 | (n,k)::r,acc,p,h=>by
  unfold gS at h;split at h
  .rename_i hk
   have hk':k=NameKind.free:=by simpa using hk
   rcases C7 r _ p h with q | ⟨q,e⟩
   .rcases m6.mp q with q | q
    .subst q;subst hk';exact .inr ⟨o7,rfl⟩
    .exact .inl q
   .exact .inr ⟨oV _ q,e⟩
  .rcases C7 r _ p h with q | ⟨q,e⟩
   .exact .inl q
   .exact .inr ⟨oV _ q,e⟩
def Hb (h:∀y∈sc.names,y.2=NameKind.free->∃c,env.cells.lookup y.1=some c):closureFor sc env=pure (gS env.cells sc.names []):=by
 have all:∀(names:List (Str×NameKind)) (acc:List (Str×AD)),(∀y∈names,y.2=NameKind.free->∃c,env.cells.lookup y.1=some c) ->
   (forIn names acc λ(y:Str×NameKind) (cs:List (Str×AD))=>(if (y.2 == NameKind.free)=true then (do let a <-cellOf env y.1;pure (ForInStep.yield ((y.1,a)::cs))) else pure (ForInStep.yield cs):Sem (ForInStep (List (Str×AD)))))=pure (gS env.cells names acc):=by
  intro names;induction names with
  | nil=>intro acc _;rfl
  | cons y r ih=>
   intro acc hy;obtain⟨n,k⟩:=y;rw[List.forIn_cons];unfold gS;by_cases hk:k=NameKind.free
   .subst hk;obtain⟨c,hc⟩:=hy (n,NameKind.free) o7 rfl;have hc':env.cells.lookup n=some c:=hc;simp only[beq_self_eq_true,if_true,cellOf,hc',pure_bind,Option.getD_some];exact ih _ λz hz=>hy z (oV _ hz)
   .have hb:(k == NameKind.free)=false:=by simpa using hk
    simp only[hb,vR,if_false,pure_bind];exact ih _ λz hz=>hy z (oV _ hz)
 have q:=all sc.names [] h;unfold closureFor;show (forIn sc.names [] λ(y:Str×NameKind) (cs:List (Str×AD))=>_) >>= _=_
 first
  | (rw[q];rfl)
  | (refine Eq.trans (IF (λt=>t >>= λcs=>pure cs) q) ?_;rfl)
structure gm (X:Cx)(sc:Scope):Prop where
 kind:sc.kind=.function
 nocell:∀y∈sc.names,y.2≠NameKind.cell
 loc:∀y∈sc.names,y.2=NameKind.local->sc.names.lookup y.1=some .local
 clos:∀y∈sc.names,y.2=NameKind.free->(X.env.kindOf y.1=some .cell\/X.env.kindOf y.1=some .free)
noncomputable def pick (ix:List (Option Nat))(U:St):St:=ix.map λo=>o.bind λi=>(U[i]?).join
def yi (N M:AJ)(sc:Scope)(ix:List (Option Nat)):Bool:=
 ix.length == N.length&&(N.zip ix).all λp=>match p.2 with | none=>true | some i=>decide (M[i]?=some p.1)&&decide (sc.names.lookup p.1=some NameKind.free)
def bx (X:Cx)(sc:Scope)(N:AJ)(fp:List AD)(s_0:AE)(H:Hp)(pn:AA):Cx:=
 { X with N:=N,s_0:=s_0,H_0:=H,env:=compEnvC sc (gS X.env.cells sc.names []) s_0.heap.objs.size X.env,outer:=X.stack,stack:=X.stack,ex:=fp,fn:=λ_=>false,pn:=pn,xe:=λ_ _=>False }
def Iv (h:(relabel sc env).names.lookup x=some k):(x,k)∈sc.names\/(k=.cell/\(x,NameKind.free)∈sc.names):=by
 have m:=uX h;unfold relabel at m;obtain⟨⟨n,k'⟩,hm,e⟩:=nj.mp m;dsimp only at e;split at e
 .rename_i hc
  have e1:n=x:=IF Prod.fst e;have e2:NameKind.cell=k:=IF Prod.snd e;have e3:k'=NameKind.free:=by rw[nY,nY]at hc;simpa using hc.1.1
  subst e1 e2 e3;exact .inr ⟨rfl,hm⟩
 .have e1:n=x:=IF Prod.fst e;have e2:k'=k:=IF Prod.snd e;subst e1 e2;exact .inl hm
theorem GY {env:Env}{x:Str}:∀ {names:List (Str×NameKind)},names.lookup x=some NameKind.free ->
  (names.map λ(n,k)=>if (k == NameKind.free&&env.scope.kind == .function&&env.kindOf n == some .cell) then (n,NameKind.cell) else (n,k)).lookup x=some .cell \/
  (names.map λ(n,k)=>if (k == NameKind.free&&env.scope.kind == .function&&env.kindOf n == some .cell) then (n,NameKind.cell) else (n,k)).lookup x=some .free
 | [],h=>by simp at h
 | (n,k)::r,h=>by
  by_cases hx:x=n
  .subst hx;simp only[sR,beq_self_eq_true]at h;cases h;simp only[oP];split
   .left;simp[sR]
   .right;simp[sR]
  .have hb:(x == n)=false:=by simpa using hx
   simp only[sR,hb]at h;have ih:=GY (env:=env) h;simp only[oP];split
   .simpa only[sR,hb] using ih
   .simpa only[sR,hb] using ih
theorem HG {α:Type}{x:Str}{c:α}:∀ {l:List (Str×α)},(x,c)∈l->∃c',l.lookup x=some c'
 | [],h=>by cases h
 | (n,d)::r,h=>by
  by_cases hx:x=n
  .subst hx;exact⟨d,by simp[sR]⟩
  .have hb:(x == n)=false:=by simpa using hx
   rcases m6.mp h with e | h
   .exact IG (IF Prod.fst e) hx
   .obtain⟨c',e⟩:=HG h;exact⟨c',by simpa only[sR,hb] using e⟩
section
def lO.capt (I:lO X Ao U H s)(S:gm X sc):∀y∈sc.names,y.2=NameKind.free->∃c,X.env.cells.lookup y.1=some c:=λy hy e=>I.ok.has y.1 (S.clos y hy e)
def lO.clcell (I:lO X Ao U H s)(S:gm X sc){x:Str}{c:AD}(h:(gS X.env.cells sc.names []).lookup x=some c):X.env.cells.lookup x=some c:=by
 rcases C7 _ _ _ (uX h) with q | ⟨q,e⟩
 .cases q
 .obtain⟨c',hc⟩:=I.capt S _ q rfl;have hc':X.env.cells.lookup x=some c':=hc;have e':c=(X.env.cells.lookup x).getD 0:=e;rw[hc',Option.getD_some]at e';rw[e'];exact hc'
def lO.clhas (I:lO X Ao U H s)(S:gm X sc){x:Str}(h:(x,NameKind.free)∈sc.names):∃c,(gS X.env.cells sc.names []).lookup x=some c/\X.env.cells.lookup x=some c:=by obtain⟨c,e⟩:=HG (DK (cells:=X.env.cells) sc.names [] h);exact⟨c,e,I.clcell S e⟩
def lO.block (I:lO X Ao U H s)(S:gm X sc)(hix:yi N X.N sc ix=true)(hf:∀b∈fp,g0 X Ao H b/\b<s.heap.objs.size)
  (hk:∀b o,s.heap.get? b=some o->h1.get? b=some o) (hn:h1.Ns s.heap.objs.size m):
  lO (bx X sc N fp s H (X.pn++Ao)) [] (pick ix U) H { s with heap:=h1,toks:=tk }:=by
 have hC:∀b o,s.heap.get? b=some o->b≠s.heap.objs.size:=λb o e=>nM (mL e);have hcell:∀x c,(gS X.env.cells sc.names []).lookup x=some c->∃v,s.heap.IsCell c v:=λx c e=>I.cell x c (I.clcell S e);have stk:∀b,b≠X.env.locals->b∉X.fs->b∉oz X.stack:=λb h1 h2 hb=>by
  rcases m6.mp (I.stkSub b hb) with z | z
  .exact h1 z
  .exact h2 z
 rw[yi,nY]at hix;refine⟨⟨I.ok.mod,S.kind,I.ok.glob,I.ok.blt,mC _,?_,?_,?_,I.ok.hd,I.ok.frames,.inl rfl,?_,I.bs,mO I.ok.bsz I.sz,?_,?_,I.stack,I.stkFree⟩,
  rfl,I.bare,Un.kept hk,⟨m,hn,?_⟩,?_,I.fresh,?_,?_,I.hok.kept hk,?_⟩
 .intro x y c e1 e2;exact I.ok.inj x y c (I.clcell S e1) (I.clcell S e2)
 .intro x hx;have hx:(relabel sc X.env).names.lookup x=some .cell\/(relabel sc X.env).names.lookup x=some .free:=hx;have hm:(x,NameKind.free)∈sc.names:=by
   rcases hx with hx | hx
   .rcases Iv hx with q | ⟨_,q⟩
    .exact IG rfl (S.nocell _ q)
    .exact q
   .rcases Iv hx with q | ⟨q,_⟩
    .exact q
    .cases q
  obtain⟨c,e,_⟩:=I.clhas S hm;exact⟨c,e⟩
 .intro x c z;cases z
 .intro b hb;obtain⟨f,A0⟩:=hf b hb;refine⟨nM A0,λx c e=>f.2.2.2.2.1 x c (I.clcell S e)⟩
 .intro b o e hb;obtain⟨⟨_,_,_,f3,_⟩,_⟩:=hf b hb;rcases f3 with z | z
  .exact I.ok.noex b o e z
  .exact IG (mL e) (Nat.not_lt.mpr (mO I.ok.bsz z))
 .intro b hb;obtain⟨⟨_,f1,f2,_⟩,_⟩:=hf b hb;exact stk b f1 f2
 .intro i x v e1 e2 e3;have e1:N[i]?=some x:=e1;have hi:∃j,ix[i]?=some (some j)/\U[j]?=some (some v):=by
   unfold pick at e2;rw[om]at e2;cases q:ix[i]? with
   | none=>rw[q]at e2;cases e2
   | some o=>
    rw[q]at e2;cases o with
    | none=>cases e2
    | some j=>
     refine⟨j,rfl,?_⟩;have e4:(U[j]?).join=some v:=Option.some.inj e2;cases q2:U[j]? with
     | none=>rw[q2]at e4;cases e4
     | some w=>rw[q2]at e4;cases w with
      | none=>cases e4
      | some w=>rw[<-e4];rfl
  obtain⟨j,hj,hU⟩:=hi;have hz:(x,some j)∈N.zip ix:=by
   have q:(N.zip ix)[i]?=some (x,some j):=by rw[List.getElem?_zip_eq_some];exact⟨e1,hj⟩
   exact oW q
  have hp:=qE.mp hix.2 _ hz;dsimp only at hp;rw[nY]at hp;have hM:X.N[j]?=some x:=IC hp.1;have hfr:sc.names.lookup x=some NameKind.free:=IC hp.2;have hmem:=uX hfr;obtain⟨mo,hno,hlo⟩:=I.loc;have hvis:wz X.env.scope x:=by
   rcases S.clos _ hmem rfl with z | z
   .exact .inr (.inl z)
   .exact .inr (.inr z)
  obtain⟨u,ru,l⟩:=hlo j x v hM hU hvis;refine⟨u,ru,.inr ⟨?_,?_⟩⟩
  .exact GY (env:=X.env) hfr
  .obtain⟨c,e,e'⟩:=I.clhas S hmem;refine⟨c,e,?_⟩;rcases l with⟨k,_⟩|⟨_,c',ec,z⟩
   .rcases S.clos _ hmem rfl with q | q
    .rw[k]at q;cases q
    .rw[k]at q;cases q
   .rw[e']at ec;cases ec;obtain⟨o,ho,hd⟩:=z;exact⟨o,hk _ _ ho,hd⟩
 .intro x c e;obtain⟨v,o,ho,hd⟩:=hcell x c e;exact⟨v,o,hk _ _ ho,hd⟩
 .intro x c e;exact I.freeC x c (I.clcell S e)
 .intro p hp;have hp:p∈X.pn++Ao:=by
   rcases nJ.mp hp with z | z
   .exact z
   .cases z
  obtain⟨e,n,ne,nf,d⟩:=I.pin p hp;exact⟨hk _ _ e,n,hC _ _ e,stk p.1 ne nf,d⟩
 .show (pick ix U).length=N.length;unfold pick;rw[lZ];simpa using hix.1
def lO.unblock (I:lO X Ao U H s)(hf:∀b∈fp,g0 X Ao H b)(J:lO (bx X sc N fp s H (X.pn++Ao)) [] τ H' s')(hs:Heap.SameBut s.heap.objs.size s'.heap h'):
  lO X Ao U H' { s' with heap:=h' }:=by
 have nC:∀b o,s.heap.get? b=some o->b≠s.heap.objs.size:=λb o e=>nM (mL e);have hfr:H' s.heap.objs.size=none:=J.free;have u:Un (oz X.stack) fp H H' s.heap s'.heap:=J.base;have ok:nZ X.prog X.w H' h':=λb ob e=>by
  refine(J.hok b ob e).stay (λc w' hc q=>(hs.2 c ?_).trans q) (λ_ q=>q) λ_ _ q=>q;rintro rfl;rcases hc with rfl | hc
  .rw[hfr]at e;cases e
  .rw[hfr]at hc;cases hc
 refine I.call' (ch:=fp) J.os ⟨λb o e n h1 h2=>(hs.2 b (nC b o e)).trans (u.keep b o e n h1 h2),λb o e n h1 h2=>?_,u.free,λb o e h2=>?_,u.tups,u.frzs,u.tbls⟩ ok J.bare λb hb=>?_
 .obtain⟨sl,q⟩:=u.slot b o e n h1 h2;exact⟨sl,(hs.2 b (nC b o e)).trans q⟩
 .obtain⟨o',q⟩:=u.there b o e h2;exact⟨o',(hs.2 b (nC b o e)).trans q⟩
 .obtain⟨_,f1,_,f3,f4,f5⟩:=hf b hb;exact⟨f3,f1,f4,f5⟩
end
def jb (X:Cx)(ifs:List Expr)(t:TT):Prop:=
 ∀(Ao:AA) (s:AE) (U:St) (H:Hp) (Q:Bool->Hp->Prop),lO X Ao U H s->t U H Q ->
  wpAny (model X.prog X.w) X.A (forIn ifs true λc r=>if r=true then do let ok <-isTrue c X.env (eval c X.env);pure (ForInStep.yield ok) else pure (ForInStep.yield r)) (TP X Ao U Q) X.xe s
def jl:TT:=λ_ H Q=>Q true H
def sL:jb X [] jl:=λ_ _ _ H _ I h=>wpAny_tests_nil ⟨H,I,h⟩
def um (h:PT X c t):jb X [c] t:=λAo s U H Q I q=>wpAny_tests_one (h Ao s U H Q I q)
theorem Zgy (W:Nat->AE->Prop)
  (turn:∀n s,W n s->wpAny (model prog w) A (pyNext it) (λr s_1=>match r with
   | none=>R (.ok .next) s_1
   | some v=>wpAny (model prog w) A (letOwnedTupleGo tgt it v) (λ_ s1_'=>wpAny (model prog w) A (assign tgt env v) (λ_ s_2=>
     wpAny (model prog w) A (forIn ifs true λc r=>if r=true then do let ok <-isTrue c env (eval c env);pure (ForInStep.yield ok) else pure (ForInStep.yield r)) (λok s₃=>
      if ok=true then wpAny (model prog w) A (eval el env) (λx s₄=>
       wpAny (model prog w) A (call (.builtin "list.append") [acc,x]) (λ_ s₅=>∃m,m<n/\W m s₅) (λ_ _=>False) s₄) (λ_ _=>False) s₃
      else ∃m,m<n/\W m s₃) (λ_ _=>False) s_2) (λ_ _=>False) s1_') (λ_ _=>False) s_1) (λ_ _=>False) s)
  (n:Nat) (h:W n s):codeAny (model prog w) A (.compLoop (.ListComp el [⟨tgt,iter,ifs,0⟩] scp pos) 0 it acc env) R s:=by
 refine codeAny_loop rfl W (λn s hI=>?_) n h;show wpAny _ A ((compTurn (.ListComp el [⟨tgt,iter,ifs,0⟩] scp pos) 0 it acc env).onRaise (λx=>do noteFrame x env;theTreesLotGoes x)) _ _ s;refine wpAny_noted ?_;rw[compTurn_list];refine lP (wpAny_standAt (lP (pG (turn n s hI) (λr s1 q1=>?_) λ_ _ z=>z.elim)));cases r with
 | none=>exact mf q1
 | some v=>
  refine lP (pG q1 (λ_ s1' q1'=>?_) λ_ _ z=>z.elim);refine lP (pG q1' (λ_ s2 q2=>lP (pG q2 (λok s3 q3=>?_) λ_ _ z=>z.elim)) λ_ _ z=>z.elim);cases ok with
  | false=>exact mf ⟨rfl,q3⟩
  | true=>exact lP (lP (pG q3 (λx s4 q4=>lP (pG q4 (λ_ s5 q5=>mf (mf ⟨rfl,q5⟩)) λ_ _ z=>z.elim)) λ_ _ z=>z.elim))
def B0 (ix:List (Option Nat))(wi:TI)(g:TG)(tt:TT)(te:TE):TE:=λU H Q=>wi U H λJ H1=>∀acc,H1 acc=none->∃W:Nat->Nat->St->Hp->Prop,(∃m,W 0 m (pick ix U) (upd H1 acc (.lst []))) /\
 ∀i m τ H2,W i m τ H2->(J.stop i H2/\Q (.ref acc) H2)\/(J.go i H2/\∃Nx:St->Hp->Prop,(∀τ' H',Nx τ' H'->∃m',m'<m/\W (i+1) m' τ' H') /\
  ∀x H3,J.yld i H2 x H3->g x τ H3 λτ2 H4=>tt τ2 H4 λb H5=>if b=true then te τ2 H5 λy H6=>∃ys,H6 acc=some (.lst ys)/\ys.length<sizeLine/\Nx τ2 (upd H6 acc (.lst (ys++[y]))) else Nx τ2 H5)
section
def FA {Q:VK}{Ao:AA}{s:AE}{U:St}{H:Hp}{it:AD}{fp:List AD}{tn:Nat->Heap->Prop}{J:It}{RR:Value->AD->Result->AE->Prop}
  (hc:X.calm=true) (S:gm X sc) (hix:yi N X.N sc ix=true)
  (hg:∀fp s_0 H_0 pn,PG (bx X sc N fp s_0 H_0 pn) tg g) (ht:∀fp s_0 H_0 pn,jb (bx X sc N fp s_0 H_0 pn) ifs tt) (he:∀fp s_0 H_0 pn,PE (bx X sc N fp s_0 H_0 pn) elt te)
  (I:lO X Ao U H s) (T:iC X.prog X.w X.K tg J fp it tn) (st:tn 0 s.heap) (hf:∀b∈fp,g0 X Ao H b)
  (q:∀acc,H acc=none->∃W:Nat->Nat->St->Hp->Prop,(∃m,W 0 m (pick ix U) (upd H acc (.lst []))) /\
   ∀i m τ H2,W i m τ H2->(J.stop i H2/\Q (.ref acc) H2)\/(J.go i H2/\∃Nx:St->Hp->Prop,(∀τ' H',Nx τ' H'->∃m',m'<m/\W (i+1) m' τ' H') /\
    ∀x H3,J.yld i H2 x H3->g x τ H3 λτ2 H4=>tt τ2 H4 λb H5=>if b=true then te τ2 H5 λy H6=>∃ys,H6 acc=some (.lst ys)/\ys.length<sizeLine/\Nx τ2 (upd H6 acc (.lst (ys++[y]))) else Nx τ2 H5))
  (hR:∀(acc:AD) (s₃ s':AE) (τ:St) (H':Hp),lO X Ao U (upd H acc (.lst [])) s₃->(∀b∈fp,g0 X Ao (upd H acc (.lst [])) b)->lO (bx X sc N fp s₃ (upd H acc (.lst [])) (X.pn++Ao)) [] τ H' s'->Q (.ref acc) H' ->
   RR (.ref acc) s₃.heap.objs.size (.ok .next) s'):
  wpAny (model X.prog X.w) X.A (newList []) (λacc s₃=>wpAny (model X.prog X.w) X.A (newFunctionEnv sc X.env.globals (gS X.env.cells sc.names []) [] X.env.qual none .none (some X.env)) (λcenv s₄=>
   codeAny (model X.prog X.w) X.A (.compStart (.ListComp elt [⟨tg,iter,ifs,0⟩] sc pos) 0 (.ref it) acc { cenv with scope:=relabel sc X.env }) (RR acc cenv.locals) s₄) X.xe s₃) X.xe s:=by
 refine uD ?_;have hfr:=I.fresh;have I3:=I.lnew (its:=[]) (ys:=[]) (t':=s.toks) .nil (nO _);have fne:∀b∈fp,b<s.heap.objs.size:=λb hb=>by obtain⟨o,e,_⟩:=T.obj 0 _ st b hb;exact mL e
 have hf3:∀b∈fp,g0 X Ao (upd H s.heap.objs.size (.lst [])) b:=λb hb=>by obtain⟨f0,f⟩:=hf b hb;refine⟨?_,f⟩;rw[lR (nM (fne b hb))];exact f0
 have q3:=q _ hfr;have st3:tn 0 (s.heap.push { cls:=.type "list",data:=.seq ([]:AC).toArray }):=T.keep _ _ _ st λb _ o e=>mR _ e;generalize e3:({ s with heap:=s.heap.push { cls:=.type "list",data:=.seq ([]:AC).toArray },toks:=s.toks }:AE)=s3 at I3;have es3:s3.heap=s.heap.push { cls:=.type "list",data:=.seq ([]:AC).toArray }:=by rw[<-e3]
 rw[<-es3]at st3;have hf3':∀b∈fp,g0 X Ao (upd H s.heap.objs.size (.lst [])) b/\b<s3.heap.objs.size:=λb hb=>⟨hf3 b hb,by rw[es3,rZ];exact wj (fne b hb)⟩;refine wpAny_newFunctionEnv S.nocell (by intro y hy;cases hy) (λh9 hns1 hsb1=>?_) S.kind;have hk:∀b o,s3.heap.get? b=some o->h9.get? b=some o:=λb o e=>hsb1.extBut b o (nM (mL e)) (mR _ e);have I4:=I3.block (N:=N) (ix:=ix) (tk:=s3.toks+([]:List (Str×Value)).length) S hix hf3' hk hns1;have st4:tn 0 h9:=T.keep _ _ _ st3 λb _ o e=>hk b o e;obtain⟨W,⟨m0,w0⟩,turn⟩:=q3;have statN:∀ {H':Hp},(∀b∈fp,H' b=none)->∀b∈fp,g0 (bx X sc N fp s3 (upd H s.heap.objs.size (.lst [])) (X.pn++Ao)) [] H' b:=λ{H'} hn b hb=>by
  obtain⟨⟨_,f1,f2,f3,f4,f5⟩,A0⟩:=hf3' b hb;refine⟨hn b hb,nM A0,λz=>?_,.inl hb,λx c e=>f4 x c (I3.clcell S e),λp hp=>?_⟩
  .rcases m6.mp (I3.stkSub b z) with z | z
   .exact f1 z
   .exact f2 z
  .refine f5 p ?_;rcases nJ.mp hp with z | z
   .exact z
   .cases z
 have loop:∀s4:AE,s4={ s3 with heap:=h9,toks:=s3.toks+([]:List (Str×Value)).length } ->
   codeAny (model X.prog X.w) X.A (.compLoop (.ListComp elt [⟨tg,iter,ifs,0⟩] sc pos) 0 (.ref it) (.ref s.heap.objs.size) (compEnvC sc (gS X.env.cells sc.names []) s3.heap.objs.size X.env)) (RR (.ref s.heap.objs.size) s3.heap.objs.size) s4:=by
  rintro s4 rfl;refine Zgy (λn s'=>∃i τ H',lO (bx X sc N fp s3 (upd H s.heap.objs.size (.lst [])) (X.pn++Ao)) [] τ H' s'/\tn i s'.heap/\(∀b∈fp,H' b=none)/\W i n τ H') ?_ m0 ⟨0,_,_,I4,st4,λb hb=>(hf3 b hb).1,w0⟩;rintro n s5 ⟨i,τ,H5,I5,st5,fr5,w5⟩;rcases turn i n τ H5 w5 with⟨stop,qn⟩|⟨go,Nx,hN,step⟩
  .refine mB (T.done (bx X sc N fp s3 (upd H s.heap.objs.size (.lst [])) (X.pn++Ao)) rfl rfl rfl hc i [] s5 τ H5 (λ_ _=>False) I5 (statN fr5) st5 stop) λr s6 zz=>?_;obtain⟨hr,I6⟩:=zz;subst hr;exact hR _ _ _ _ _ I3 hf3 I6 qn
  .refine mB (T.item (bx X sc N fp s3 (upd H s.heap.objs.size (.lst [])) (X.pn++Ao)) rfl rfl rfl hc i [] s5 τ H5 (λ_ _=>False) I5 (statN fr5) st5 go) λr s6 zz=>?_;obtain⟨u,hr,h6⟩:=zz;subst hr;refine mB h6 λ_ s7 zz=>?_;obtain⟨x,H7,I7,r7,y7,st7,fr7⟩:=zz;have I7':=I7.pinned (statN fr7) (T.obj _ _ st7);refine mB (hg _ _ _ _ _ s7 τ H7 x u _ I7' r7 (step x H7 y7)) λ_ s8 zz=>?_;obtain⟨τ8,H8,I8,q8⟩:=zz;have again:∀ {s9:AE} {τ9:St} {H9:Hp},lO (bx X sc N fp s3 (upd H s.heap.objs.size (.lst [])) (X.pn++Ao)) ([]++y3 fp s7.heap) τ9 H9 s9->Nx τ9 H9 ->
     ∃m,m<n/\∃i τ H',lO (bx X sc N fp s3 (upd H s.heap.objs.size (.lst [])) (X.pn++Ao)) [] τ H' s9/\tn i s9.heap/\(∀b∈fp,H' b=none)/\W i m τ H':=λ{s9 τ9 H9} I9 n9=>by
    obtain⟨m',hm,w9⟩:=hN τ9 H9 n9;refine⟨m',hm,i+1,τ9,H9,I9.unpinned,T.keep _ _ _ st7 λb hb o e=>(I9.pin (b,o) (tT _ (tT _ (zQ hb e)))).1,λb hb=>?_,w9⟩;obtain⟨o,e,d⟩:=T.obj _ _ st7 b hb;exact(I9.pin (b,o) (tT _ (tT _ (zQ hb e)))).2.1
   refine mB (ht _ _ _ _ _ s8 τ8 H8 _ I8 q8) λok s9 zz=>?_;obtain⟨H9,I9,q9⟩:=zz;cases ok with
   | false=>exact again I9 q9
   | true=>
    rw[lU rfl]at q9 ⊢;refine mB (he _ _ _ _ _ s9 τ8 H9 _ I9 q9) λyv s10 zz=>?_;obtain⟨y,H10,I10,r10,ys,ha,hz,q10⟩:=zz;refine mB (sE _ s10 τ8 H10 (.ref s.heap.objs.size) [y] (.ref s.heap.objs.size) [yv] (λv H'=>v=.non/\Nx τ8 H') I10 rfl (.cons r10 .nil) ⟨_,ys,y,rfl,rfl,ha,hz,rfl,q10⟩) λ_ s11 zz=>?_;obtain⟨_,H11,I11,_,_,q11⟩:=zz;exact again I11 q11
 exact codeAny_compStart_list (loop _ rfl) (T.self _ 0 _ _ _ st4 (loop _ rfl))
def qz (hc:X.calm=true)(S:gm X sc)(hix:yi N X.N sc ix=true)(hi:PI X tg iter wi)
  (hg:∀fp s_0 H_0 pn,PG (bx X sc N fp s_0 H_0 pn) tg g) (ht:∀fp s_0 H_0 pn,jb (bx X sc N fp s_0 H_0 pn) ifs tt) (he:∀fp s_0 H_0 pn,PE (bx X sc N fp s_0 H_0 pn) elt te)
  (hs:∀x,foldedSetIterable iter X.env x=pure x:=by intro _;rfl):PE X (.ListComp elt [⟨tg,iter,ifs,0⟩] sc pos) (B0 ix wi g tt te):=by
 intro Ao s U H Q I h;rw[eval_ListComp];refine wpAny_comprehension_free (use:=none) rfl hs (Hb (I.capt S)) S.kind S.loc (mB (hi Ao s U H _ I h) λv s1 h1=>mB h1 λitv s2 h2=>?_);obtain⟨it,fp,tn,J,H2,e,I2,T,st2,f2,q⟩:=h2;subst e;refine FA (Q:=Q) (RR:=λacc C=>compPost (model X.prog X.w) X.A X.xe none (EP X Ao U Q) acc C) hc S hix hg ht he I2 T st2 f2 q ?_;intro acc s3 s' τ H' I3 hf3 J' qq;obtain⟨m,hn,_⟩:=J'.loc;exact⟨m,hn,λh' hs'=>⟨.ref acc,H',I3.unblock hf3 J' hs',rfl,qq⟩⟩
def CF (hsw:swapsWith (.ListComp elt [⟨tg,iter,ifs,0⟩] sc pos) (some (.Name x px)) spos.line X.env=pure true)
  (hN:X.N.Nodup) (hi':X.N[i]?=some x) (hx:X.env.scope.names.lookup x=some .local) (hc:X.calm=true) (S:gm X sc) (hix:yi N X.N sc ix=true) (hi:PI X tg iter wi)
  (hg:∀fp s_0 H_0 pn,PG (bx X sc N fp s_0 H_0 pn) tg g) (ht:∀fp s_0 H_0 pn,jb (bx X sc N fp s_0 H_0 pn) ifs tt) (he:∀fp s_0 H_0 pn,PE (bx X sc N fp s_0 H_0 pn) elt te)
  (hs:∀x,foldedSetIterable iter X.env x=pure x:=by intro _;rfl):PS X (.Assign [.Name x px] (.ListComp elt [⟨tg,iter,ifs,0⟩] sc pos) spos) (jh (B0 ix wi g tt te) (qp i)):=by
 intro Ao s U H D I h;rw[exec_Assign_Name_used _ _ _ _ hsw];refine lP (wpAny_standAt (lP ?_));show wpAny _ X.A (do let _ <-comprehension (.ListComp elt [⟨tg,iter,ifs,0⟩] sc pos) sc X.env _ (newList []) false (eval iter X.env) (some (assign (.Name x px) X.env))) _ _ s;refine lP (pG (wpAny_comprehension_free (use:=some (assign (.Name x px) X.env)) (Q:=λ_ s'=>SP X Ao D .next s') rfl hs (Hb (I.capt S)) S.kind S.loc
  (mB (hi Ao s U H _ I h) λv s1 h1=>mB h1 λitv s2 h2=>?_)) (λ_ s' hq=>mf (mf hq)) λ_ _ z=>z)
 obtain⟨it,fp,tn,J,H2,e,I2,T,st2,f2,q⟩:=h2;subst e;refine FA (Q:=λy H1=>qp i y U H1 D.nx) (RR:=λacc C=>compPost (model X.prog X.w) X.A X.xe (some (assign (.Name x px) X.env)) (λ_ s'=>SP X Ao D .next s') acc C) hc S hix hg ht he I2 T st2 f2 q ?_;intro acc s3 s' τ H' I3 hf3 J' qq;show wpAny _ X.A (assign (.Name x px) X.env (.ref acc)) _ _ _;have I5:lO X Ao U H' s':=I3.unblock hf3 J' (.refl ..);obtain⟨m,hn,_⟩:=J'.loc;have hn:s'.heap.Ns s3.heap.objs.size m:=hn;have hLC:s3.heap.objs.size≠X.env.locals:=Nat.ne_of_gt I3.lt;refine wpAny_assign_Name (F8 I5 hN hi' (.inl hx) (v:=.ref acc) rfl (λs6 I6 ⟨a,sb,ha⟩=>?_) (.inr hx));have ea:a≠s3.heap.objs.size:=by
  rcases ha with ha | ha
  .rw[ha];exact mH hLC
  .obtain⟨v,o,ho,_⟩:=I3.cell x a ha;exact nM (mL ho)
 refine⟨m,hn.sameBut sb (mH ea),λh' hs'=>?_⟩;have hfr:H' s3.heap.objs.size=none:=J'.free;refine⟨_,H',?_,qq⟩;have ok:nZ X.prog X.w H' h':=λb ob e=>by
  refine(I6.hok b ob e).stay (λc w' hc q=>(hs'.2 c ?_).trans q) (λ_ q=>q) λ_ _ q=>q;rintro rfl;rcases hc with rfl | hc
  .rw[hfr]at e;cases e
  .rw[hfr]at hc;cases hc
 have l3:X.s_0.heap.objs.size<=s3.heap.objs.size:=I3.sz;have cne:∀y c,X.env.cells.lookup y=some c->c≠s3.heap.objs.size:=λy c e z=>by obtain⟨v,o,ho,_⟩:=I3.cell y c e;exact IG (mL ho) (by rw[z];exact o4 _)
 exact I6.turned (t':=s6.toks) (it:=s3.heap.objs.size) (λb o hb e=>(hs'.2 b hb).trans e) hfr hLC (.inr l3) cne λp hp z=>by have:=(I3.pin p hp).1;exact IG (mL this) (by rw[z];exact o4 _)
end
noncomputable abbrev tx (l:lN):V:=.str ⟨l.toArray⟩
def xH:tx a=tx b↔a=b:=by
 constructor
 .intro h;have h1:(⟨a.toArray⟩:Str)=⟨b.toArray⟩:=V.str.inj h;have h2:a.toArray=b.toArray:=IF Str.cps h1;simpa using h2
 .rintro rfl;rfl
def vj:decide (tx a=tx b)=decide (a=b):=by
 by_cases h:a=b
 .subst h;simp
 .rw[IB h,IB λz=>h (xH.mp z)]
def uq (l:lN):(⟨l.toArray⟩:Str).length=l.length:=by show l.toArray.size=l.length;simp
def Ey (x y:V)(p:lN->lN->Prop):Prop:=match x,y with | .str a,.str b=>p a.cps.toList b.cps.toList | _,_=>False
def Zpt (h:Ey x y p):∃a b,x=tx a/\y=tx b/\p a b:=by cases x<;>first | exact False.elim h | (cases y<;>first | exact⟨_,_,rfl,rfl,h⟩ | exact False.elim h)
def rT (C:lN->lN->Prop)(g:lN->lN->V):R2:=λx y H Q=>Ey x y λa b=>C a b/\Q (g a b) H
def oH {α:Type}(l:List α)(lo hi:Option Int):List α:=(l.drop (HT.sIx l.length 0 lo)).take (HT.sIx l.length l.length hi-HT.sIx l.length 0 lo)
def ZiQ (l:List α)(lo hi:Option Int):(oH l lo hi).length<=l.length:=by
 unfold oH;rw[nG,oZ]
 lia
def zH (l:List α)(a b:Nat):oH l (some (a:Int)) (some (b:Int))=(l.drop a).take (b-a):=by
 unfold oH;rw[HT.sIx_nat,HT.sIx_nat];apply vX;intro i;simp only[wW,vq];by_cases h1:i<min b l.length-min a l.length
 .rw[lU h1,lU ∅];congr 1;lia
 .rw[lT h1];by_cases h2:i<b-a
  .rw[lU h2,tI ∅]
  .rw[lT h2]
def wX (l:List α)(b:Nat):oH l none (some (b:Int))=l.take b:=by
 unfold oH;rw[HT.sIx_nat,HT.sIx_none];apply vX;intro i;simp only[wW,vq,Nat.zero_add,Nat.sub_zero];by_cases h1:i<min b l.length
 .rw[lU h1,lU ∅]
 .rw[lT h1];by_cases h2:i<b
  .rw[lU h2,tI ∅]
  .rw[lT h2]
def vG (l:List α)(a:Nat):oH l (some (a:Int)) none=l.drop a:=by
 unfold oH;rw[HT.sIx_nat,HT.sIx_none];apply vX;intro i;simp only[wW,vq];by_cases h1:i<l.length-min a l.length
 .rw[lU h1];congr 1;lia
 .rw[lT h1,tI ∅]
noncomputable def A6 (n:Nat)(v:Option Int)(d:Int):Int:=match v with
 | none=>d
 | some i=>max 0 (min (if i<0 then i+(n:Int) else i) (n:Int))
def DY (n d:Nat)(o:Option Int):A6 n o (d:Int)=((HT.sIx n d o:Nat):Int):=by
 cases o with
 | none=>rw[HT.sIx_none];rfl
 | some v=>
  have:=HT.clip_eq v n d;unfold A6;dsimp only;rw[<-this];split<;>lia
def Zjg (lo hi:Option Int)(n:Nat):Builtin.Str.strSliceIndices lo hi 1 n=(List.range (HT.sIx n n hi-HT.sIx n 0 lo)).map λk=>HT.sIx n 0 lo+k:=by
 have g:Builtin.Str.strSliceIndices lo hi 1 n=sliceRange (A6 n lo ((0:Nat):Int)) (A6 n hi (n:Int)) 1:=by cases lo<;>cases hi<;>rfl
 rw[g,DY,DY];generalize HT.sIx n 0 lo=a;generalize HT.sIx n n hi=b;unfold sliceRange;have hc:(if (1:Int)>0 then (if (a:Int)<(b:Int) then ((b:Int)-a+1-1)/1 else 0) else (if (a:Int)>(b:Int) then ((a:Int)-b-1-1)/(-1) else 0)).toNat=b-a:=by simp only[show (1:Int)>0 by decide,if_true,Int.ediv_one];split<;>lia
 dsimp only;rw[hc];apply yw;intro k _
 lia
def ZkP (l:lN)(lo hi:Option Int):Txt.slice ⟨l.toArray⟩ lo hi=⟨(oH l lo hi).toArray⟩:=by
 have h1:=HT.sIx_le l.length 0 (nO _) lo;have h2:=HT.sIx_le l.length l.length (mC _) hi;unfold Txt.slice;rw[uq,Zjg];have e:((List.range (HT.sIx l.length l.length hi-HT.sIx l.length 0 lo)).map λk=>HT.sIx l.length 0 lo+k).filterMap (λi=>l.toArray[i]?)=oH l lo hi:=by
  unfold oH;generalize HT.sIx l.length 0 lo=a at *;generalize HT.sIx l.length l.length hi=b at *;have hab:∀n,a+n<=l.length->((List.range n).map λk=>a+k).filterMap (λi=>l.toArray[i]?)=(l.drop a).take n:=by
   intro n;induction n with
   | zero=>intro _;simp
   | succ n ih=>
    intro hn;rw[t8,qj,List.filterMap_append,ih ∅,x5];have:(l.drop a)[n]?=l[a+n]?:=vq;simp[this,mT (show a+n<l.length by lia)]
  by_cases hle:a<=b
  .exact hab _ ∅
  .have:b-a=0:=by lia
   rw[this];simp
 split
 .rename_i hc
  simp only[beq_self_eq_true,sS,lZ,rW]at hc;have hc':HT.sIx l.length l.length hi-HT.sIx l.length 0 lo=l.length:=by simpa using hc
  have:oH l lo hi=l:=by
   unfold oH;have ha:HT.sIx l.length 0 lo=0:=by lia
   rw[hc',ha,rK,qH (mC _)]
  rw[this]
 .show (⟨(List.filterMap (λi=>l.toArray[i]?) _).toArray⟩:Str)=_;rw[e]
section
def qB:oh X (binaryOp .Add) (rT (λa b=>a.length+b.length<=sizeLine) λa b=>tx (a++b)):=by
 rintro Ao s U H x y v u Q I rx ry h;obtain⟨a,b,rfl,rfl,hz,q⟩:=Zpt h;refine Ziw Ao s U H _ _ v u Q I rx ry ⟨_,_,rfl,rfl,by rw[uq,uq];exact hz,?_⟩;have e:((⟨a.toArray⟩:Str)++(⟨b.toArray⟩:Str))=⟨(a++b).toArray⟩:=by show (⟨a.toArray++b.toArray⟩:Str)=_;simp
 rw[e];exact q
def Ziu:oh X (compareOp .In) (λx y H Q=>∃c l,x=tx [c]/\y=tx l/\Q (.bl (decide (c∈l))) H):=by
 rintro Ao s U H x y v u Q I rx ry ⟨c,l,rfl,rfl,q⟩;refine FU Ao s U H _ _ v u Q I rx ry ⟨_,_,rfl,rfl,?_⟩;have e:=StrLaws.found_one ⟨l.toArray⟩ c;have e':(!(Builtin.Str.occurrences ⟨l.toArray⟩ ⟨[c].toArray⟩ 0 (⟨l.toArray⟩:Str).length 1).isEmpty)=decide (c∈l):=by rw[show ([c].toArray)=#[c] from rfl,e]
 rw[e'];exact q
def Ze7:oh X (compareOp .NotIn) (λx y H Q=>∃c l,x=tx [c]/\y=tx l/\Q (.bl (!decide (c∈l))) H):=by
 rintro Ao s U H x y v u Q I rx ry ⟨c,l,rfl,rfl,q⟩;refine HI Ao s U H _ _ v u Q I rx ry ⟨_,_,rfl,rfl,?_⟩;have e:=StrLaws.found_one ⟨l.toArray⟩ c;have e':(!(Builtin.Str.occurrences ⟨l.toArray⟩ ⟨[c].toArray⟩ 0 (⟨l.toArray⟩:Str).length 1).isEmpty)=decide (c∈l):=by rw[show ([c].toArray)=#[c] from rfl,e]
 rw[e'];exact q
def yM:wa X (λx y H Q=>∃l i c,x=tx l/\y=.int i/\l.length<=sizeLine/\pC l i=some c/\Q (tx [c]) H):=by rintro value slice Ao s U H x y v u Q I rx ry ⟨l,i,c,rfl,rfl,hz,h,q⟩ hs;exact Zpp value slice Ao s U H _ _ v u Q I rx ry ⟨_,i,c,rfl,rfl,by rw[uq];exact hz,h,q⟩ hs
def oM:A3 X (λx lo hi H Q=>∃l,x=tx l/\l.length<=sizeLine/\Q (tx (oH l lo hi)) H):=by
 rintro Ao s U H x v vl vu lo hi sl Q I rx hs pl pu ⟨l,rfl,hz,q⟩;obtain⟨t,rfl⟩:=rx;refine⟨"str",_,F.slot_str_getitem.lookup,typeIs_str _ _ _,?_⟩;have part:∀ {v:Value} {o:Option Int},IsPart v o->∃p:Option (Int×Tok),v=partValue p/\p.map (·.1)=o:=λ{v o} h=>by
  cases h with
  | none=>exact⟨none,rfl,rfl⟩
  | int i t=>exact⟨some (i,t),rfl,rfl⟩
 obtain⟨a,rfl,ea⟩:=part pl;obtain⟨b,rfl,eb⟩:=part pu;refine wpAny_getItem_str_slice (l:=a) (u:=b) (st:=none) hs rfl ?_;have e:(if ((1:Int) == 1&&(Builtin.Str.strSliceIndices lo hi 1 (⟨l.toArray⟩:Str).length).length == (⟨l.toArray⟩:Str).length)=true then (⟨l.toArray⟩:Str) else ⟨((Builtin.Str.strSliceIndices lo hi 1 (⟨l.toArray⟩:Str).length).filterMap ((⟨l.toArray⟩:Str).cps[·]?)).toArray⟩)=⟨(oH l lo hi).toArray⟩:=ZkP l lo hi;unfold sliceMade slicePicked;rw[ea,eb];refine post_val_or_str ?_;refine⟨?_,λt' k=>?_⟩
 .show (if ((1:Int) == 1&&(Builtin.Str.strSliceIndices lo hi 1 (⟨l.toArray⟩:Str).length).length == (⟨l.toArray⟩:Str).length)=true then (⟨l.toArray⟩:Str) else ⟨((Builtin.Str.strSliceIndices lo hi 1 (⟨l.toArray⟩:Str).length).filterMap ((⟨l.toArray⟩:Str).cps[·]?)).toArray⟩).length<=sizeLine;rw[e,uq];exact mO (ZiQ _ _ _) hz
 .refine⟨tx (oH l lo hi),H,I.tok _,⟨t',?_⟩,q⟩;exact IF (λz=>Value.str z t') e
theorem Fz:∀ {ls:lX} {us:AC},fi (ls.map tx) us->StrsAre us (ls.map λl=>(⟨l.toArray⟩:Str))
 | [],us,r=>by
  rw[vW]at r;cases r;exact .nil
 | l::ls,us,r=>by
  rw[oP]at r;cases r with
  | cons r1 r2=>
   obtain⟨t,e⟩:=r1;subst e;exact .cons _ t (Fz r2)
end
def vi (l:lN):It:=⟨λi _=>i<l.length,λi H x H'=>H'=H/\∃c,l[i]?=some c/\x=tx [c],λi _=>l.length<=i⟩
def Zi7 {P:AG} {w:AI} {K:ma} {tg:Expr} (l:lN) (t:Tok) (it:AD) (ty:String) (hty:ty="str_ascii_iterator"\/ty="str_iterator"):iC P w K tg (vi l) [it] it (λi h=>h.IsStrIter it ty ⟨l.toArray⟩ t i) where
 mem:=by simp
 obj:=λi h st b hb=>by
  have e:b=it:=by simpa using hb
  subst e;obtain⟨o,e,c,d⟩:=st;exact⟨o,e,λv z=>by rw[d]at z;cases z⟩
 keep:=λi h h' st k=>by obtain⟨o,e,r⟩:=st;exact⟨o,k it {} o e,r⟩
 item:=by
  intro X hP hw hK hc i Ao s U H E I hf st hg;subst hP hw hK;obtain⟨f0,f1,f2,f3,f4,f5⟩:=hf it {};have hg:i<l.length:=hg;have hx:(⟨l.toArray⟩:Str).cps[i]?=some l[i]:=by show l.toArray[i]?=some l[i];simp[hg]
  have fin:∀(h':Heap) (tk:Tok),h'.IsStrIter it ty ⟨l.toArray⟩ t (i+1)->Heap.SameBut it s.heap h' ->
    ∃u,some (Value.str ⟨#[l[i]]⟩ s.toks)=some u/\wpAny (model X.prog X.w) X.A (letOwnedTupleGo tg (.ref it) u) (λ_ s2=>∃x H',lO X Ao U H' s2/\ft x u/\(vi l).yld i H x H'/\s2.heap.IsStrIter it ty ⟨l.toArray⟩ t (i+1)/\∀b∈[it],H' b=none) E { s with heap:=h',toks:=tk }:=λh' tk st' sb=>by
   have I1:lO X Ao U H { s with heap:=h',toks:=tk }:=I.turned (t':=tk) (λb o hb e=>(sb.2 b hb).trans e) f0 f1 f3 f4 f5;obtain⟨o,e,c,d⟩:=id st';refine⟨_,rfl,wM (s:={ s with heap:=h',toks:=tk }) e c d ?_ ⟨tx [l[i]],H,I1,⟨_,rfl⟩,⟨rfl,l[i],by simp[hg],rfl⟩,st',λb hb=>(hf b hb).1⟩⟩;rcases hty with rfl | rfl<;>decide
  rcases hty with rfl | rfl
  .exact wpAny_pyNext_ascii_item st hx λh' st' sb=>fin h' _ st' sb
  .exact wpAny_pyNext_wide_item st hx λh' st' sb=>fin h' _ st' sb
 done:=by
  intro X hP hw hK hc i Ao s U H E I hf st hg;subst hP hw hK;obtain⟨f0,f1,f2,f3,f4,f5⟩:=hf it {};have hg:l.length<=i:=hg;have hx:(⟨l.toArray⟩:Str).cps[i]?=none:=by show l.toArray[i]?=none;simp[hg]
  rcases hty with rfl | rfl
  .exact wpAny_pyNext_ascii_end (I.ok.hd hc) st hx λh' eb=>⟨rfl,I.turned (t':=s.toks) (λb o hb e=>eb b o hb e) f0 f1 f3 f4 f5⟩
  .exact wpAny_pyNext_wide_end (I.ok.hd hc) st hx λh' eb=>⟨rfl,I.turned (t':=s.toks) (λb o hb e=>eb b o hb e) f0 f1 f3 f4 f5⟩
 self:=by
  intro A i s Q E st h;rcases hty with rfl | rfl
  .exact wpAny_pyIter_striter_ascii st h
  .exact wpAny_pyIter_striter_wide st h
section
def Hx (tl:TE):TI:=λU H R=>tl U H λx H1=>∃l,x=tx l/\R (vi l) H1
def uf (hl:PE X l tl):PI X tg l (Hx tl):=by
 intro Ao s U H R I h;refine mB (hl Ao s U H _ I h) λv s1 zz=>?_;obtain⟨x,H1,I1,r1,q1⟩:=zz;obtain⟨l,rfl,q⟩:=q1;obtain⟨t,rfl⟩:=r1;have fin:∀ty,(ty="str_ascii_iterator"\/ty="str_iterator")->B9 X Ao U tg R (.ref s1.heap.objs.size) { s1 with heap:=s1.heap.push { cls:=.type ty,data:=.fields #[.str ⟨l.toArray⟩ t,.int 0 0] } }:=λty hty=>by
  refine⟨s1.heap.objs.size,[s1.heap.objs.size],_,_,H1,rfl,I1.kept (t':=s1.toks) λb o e=>mR _ e,Zi7 l t _ ty hty,⟨_,nV _ rfl,rfl,rfl⟩,λb hb=>?_,q⟩;have e:b=s1.heap.objs.size:=by simpa using hb
  subst e;exact I1.fpOk (mC _) (I1.hok.fresh (mC _))
 cases ha:(⟨l.toArray⟩:Str).cps.all (· < 128)
 .exact wpAny_pyIter_wide ha (fin _ (.inr rfl))
 .exact wpAny_pyIter_ascii ha (fin _ (.inl rfl))
end
def Zlw {l:lN}{g:TG}{tb:TS}{D:gz}{U:St}{H:Hp}(Pv:Nat->St->Hp->Prop)(h0:Pv 0 U H)
  (hs:∀i c U H,l[i]?=some c->Pv i U H->g (tx [c]) U H λU2 H2=>tb { D with nx:=Pv (i+1),ct:=Pv (i+1),bk:=D.nx } U2 H2) (hd:∀U H,Pv l.length U H->D.nx U H):
  ∃W:Nat->Nat->St->Hp->Prop,(∃m,W 0 m U H)/\∀i m U H,W i m U H ->
   ((vi l).stop i H/\D.nx U H)\/((vi l).go i H/\∃N:St->Hp->Prop,(∀U' H',N U' H'->∃m',m'<m/\W (i+1) m' U' H')/\∀x H',(vi l).yld i H x H'->g x U H' λU2 H2=>tb { D with nx:=N,ct:=N,bk:=D.nx } U2 H2):=by
 refine⟨λi m U H=>m=l.length-i/\i<=l.length/\Pv i U H,⟨l.length,{},nO _,h0⟩,?_⟩;rintro i m U H ⟨rfl,hi,p⟩;by_cases A0:i<l.length
 .refine .inr ⟨A0,Pv (i+1),λU' H' p'=>⟨l.length-(i+1),∅,rfl,A0,p'⟩,λx H' y=>?_⟩;obtain⟨e,c,hc,y⟩:=y;subst e y;exact hs i c U _ hc p
 .have e:i=l.length:=by lia
  subst e;exact .inl ⟨mC _,hd U H p⟩
inductive DT where
 | f (v:V)
 | l (xs:List DT)
 | t (xs:List DT)
section
variable (K:ma)(H:Hp)
mutual
def fC:DT->V->Prop
 | .f w,v=>v=w/\pA w=true
 | .l ds,v=>∃a vs,v=.ref a/\m8 K H a vs/\DatsOk ds vs
 | .t ds,v=>∃a vs,v=.ref a/\oA K H a vs/\DatsOk ds vs
def DatsOk:List DT->IJ->Prop
 | [],vs=>vs=[]
 | d::ds,vs=>∃v r,vs=v::r/\fC d v/\DatsOk ds r
end
end
mutual
def oj:DT->DT->Bool
 | .f v,.f w=>sJ v w
 | .l xs,.l ys=>deqs xs ys
 | .t xs,.t ys=>deqs xs ys
 | .f _,.l _=>false
 | .f _,.t _=>false
 | .l _,.f _=>false
 | .t _,.f _=>false
 | .l _,.t _=>false
 | .t _,.l _=>false
def deqs:List DT->List DT->Bool
 | [],[]=>true
 | x::xs,y::ys=>oj x y&&deqs xs ys
 | [],_::_=>false
 | _::_,[]=>false
end
mutual
def qr:DT->Nat
 | .f _=>0
 | .l xs=>deps xs+1
 | .t xs=>deps xs+1
def deps:List DT->Nat
 | []=>0
 | x::xs=>max (qr x) (deps xs)
end
def Ho (h:pA v=true):sJ v v=true:=by cases v<;>first | rfl | (simp[sJ];done) | exact IG (show false=true from h) mQ
theorem DatsOk.length {K:ma}{H:Hp}:∀ {ds:List DT} {vs:IJ},DatsOk K H ds vs->vs.length=ds.length
 | [],vs,h=>by
  unfold DatsOk at h;subst h;rfl
 | d::ds,vs,h=>by unfold DatsOk at h;obtain⟨v,r,rfl,_,hr⟩:=h;rw[oN,oN,DatsOk.length hr]
def qe (xs ys:List DT)(j:Nat):Bool:=match xs[j]?,ys[j]? with
 | some x,some y=>oj x y
 | _,_=>false
theorem Dx:∀xs ys:List DT,deqs xs ys=((List.range (min xs.length ys.length)).all (qe xs ys)&&xs.length == ys.length)
 | [],[]=>by simp[deqs]
 | [],_::_=>by simp[deqs]
 | _::_,[]=>by simp[deqs]
 | x::xs,y::ys=>by
  have e:min (x::xs).length (y::ys).length=min xs.length ys.length+1:=by simp only[oN];lia
  have e2:∀j,qe (x::xs) (y::ys) (j+1)=qe xs ys j:=λj=>by simp[qe]
  have e3:qe (x::xs) (y::ys) 0=oj x y:=by simp[qe]
  rw[deqs,Dx xs ys,e,List.range_succ_eq_map,List.all_cons,e3,List.all_map];have e4:((λj=>qe (x::xs) (y::ys) j) ∘ Nat.succ)=qe xs ys:=by funext j;exact e2 j
  have e5:(qe (x::xs) (y::ys) ∘ Nat.succ)=qe xs ys:=e4;rw[e5,Bool.and_assoc];simp
mutual
theorem fC.uniq {K:ma}{X:Cx}{Ao:AA}{U:St}{H:Hp}{s:AE}(I:lO X Ao U H s):∀(d e:DT) (v:V),fC X.K H d v->fC X.K H e v->oj d e=true
 | .f w,.f u,v,h1,h2=>by
  unfold fC at h1 h2;obtain⟨rfl,hf⟩:=h1;obtain⟨e,_⟩:=h2;subst e;unfold oj;exact Ho hf
 | .f w,.l ys,v,h1,h2=>by
  unfold fC at h1 h2;obtain⟨rfl,hf⟩:=h1;obtain⟨a,vs,rfl,_⟩:=h2;exact IG (show false=true from hf) mQ
 | .f w,.t ys,v,h1,h2=>by
  unfold fC at h1 h2;obtain⟨rfl,hf⟩:=h1;obtain⟨a,vs,rfl,_⟩:=h2;exact IG (show false=true from hf) mQ
 | .l xs,.f w,v,h1,h2=>by
  unfold fC at h1 h2;obtain⟨rfl,hf⟩:=h2;obtain⟨a,vs,rfl,_⟩:=h1;exact IG (show false=true from hf) mQ
 | .t xs,.f w,v,h1,h2=>by
  unfold fC at h1 h2;obtain⟨rfl,hf⟩:=h2;obtain⟨a,vs,rfl,_⟩:=h1;exact IG (show false=true from hf) mQ
 | .l xs,.l ys,v,h1,h2=>by
  unfold fC at h1 h2;obtain⟨a,vs,rfl,q1,r1⟩:=h1;obtain⟨b,ws,e,q2,r2⟩:=h2;cases e;have:=I.list_inj q1 q2;subst this;unfold oj;exact DatsOk.uniq (K:=K) I xs ys vs r1 r2
 | .t xs,.t ys,v,h1,h2=>by
  unfold fC at h1 h2;obtain⟨a,vs,rfl,q1,r1⟩:=h1;obtain⟨b,ws,e,q2,r2⟩:=h2;cases e;have:=I.tuple_inj q1 q2;subst this;unfold oj;exact DatsOk.uniq (K:=K) I xs ys vs r1 r2
 | .l xs,.t ys,v,h1,h2=>by
  unfold fC at h1 h2;obtain⟨a,vs,rfl,q1,r1⟩:=h1;obtain⟨b,ws,e,q2,r2⟩:=h2;cases e;obtain⟨_,_,⟨o,n,e1,c1,_⟩,_⟩:=I.list q1;obtain⟨_,_,⟨o',e2,c2,_⟩,_⟩:=I.tuple q2;rw[e1]at e2;cases e2;rw[c1]at c2;exact IG c2 {}
 | .t xs,.l ys,v,h1,h2=>by unfold fC at h1 h2;obtain⟨a,vs,rfl,q1,r1⟩:=h1;obtain⟨b,ws,e,q2,r2⟩:=h2;cases e;obtain⟨_,_,⟨o',e2,c2,_⟩,_⟩:=I.tuple q1;obtain⟨_,_,⟨o,n,e1,c1,_⟩,_⟩:=I.list q2;rw[e1]at e2;cases e2;rw[c1]at c2;exact IG c2 {}
theorem DatsOk.uniq {K:ma}{X:Cx}{Ao:AA}{U:St}{H:Hp}{s:AE}(I:lO X Ao U H s):∀(xs ys:List DT) (vs:IJ),DatsOk X.K H xs vs->DatsOk X.K H ys vs->deqs xs ys=true
 | [],[],vs,h1,h2=>by unfold deqs;rfl
 | [],y::ys,vs,h1,h2=>by
  unfold DatsOk at h1 h2;subst h1;obtain⟨_,_,e,_⟩:=h2;cases e
 | x::xs,[],vs,h1,h2=>by
  unfold DatsOk at h1 h2;subst h2;obtain⟨_,_,e,_⟩:=h1;cases e
 | x::xs,y::ys,vs,h1,h2=>by unfold DatsOk at h1 h2;obtain⟨v,r,rfl,a1,a2⟩:=h1;obtain⟨v',r',e,b1,b2⟩:=h2;cases e;unfold deqs;rw[fC.uniq (K:=K) I x y v a1 b1,DatsOk.uniq (K:=K) I xs ys r a2 b2];rfl
end
section
open SeqAt
def zB (hf:pA w=true)(r:ft w u)(hl:s.heap.IsList l items)(hu:A.units<cLine):EqAt A s u (.ref l) false/\EqAt A s (.ref l) u false/\RcAt A s u (.ref l) false/\RcAt A s (.ref l) u false/\RcNeAt A s u (.ref l) true/\RcNeAt A s (.ref l) u true:=by
 cases w with
 | non=>cases r;exact⟨.none_list hl hu,.list_none hl hu,.none_list hl hu,.list_none hl hu,.none_list hl hu,.list_none hl hu⟩
 | bl b=>cases r;exact⟨.bool_list b hl hu,.list_bool b hl hu,.bool_list b hl hu,.list_bool b hl hu,.bool_list b hl hu,.list_bool b hl hu⟩
 | int i=>obtain⟨t,rfl⟩:=r;exact⟨.int_list i t hl hu,.list_int i t hl hu,.int_list i t hl hu,.list_int i t hl hu,.int_list i t hl hu,.list_int i t hl hu⟩
 | str i=>obtain⟨t,rfl⟩:=r;exact⟨.str_list i t hl hu,.list_str i t hl hu,.str_list i t hl hu,.list_str i t hl hu,.str_list i t hl hu,.list_str i t hl hu⟩
 | _=>exact IG (show false=true from hf) mQ
def A1 (hf:pA w=true)(r:ft w u)(hl:s.heap.IsTuple l items)(hu:A.units<cLine):EqAt A s u (.ref l) false/\EqAt A s (.ref l) u false/\RcAt A s u (.ref l) false/\RcAt A s (.ref l) u false/\RcNeAt A s u (.ref l) true/\RcNeAt A s (.ref l) u true:=by
 cases w with
 | non=>cases r;exact⟨.none_tuple hl hu,.tuple_none hl hu,.none_tuple hl hu,.tuple_none hl hu,.none_tuple hl hu,.tuple_none hl hu⟩
 | bl b=>cases r;exact⟨.bool_tuple b hl hu,.tuple_bool b hl hu,.bool_tuple b hl hu,.tuple_bool b hl hu,.bool_tuple b hl hu,.tuple_bool b hl hu⟩
 | int i=>obtain⟨t,rfl⟩:=r;exact⟨.int_tuple i t hl hu,.tuple_int i t hl hu,.int_tuple i t hl hu,.tuple_int i t hl hu,.int_tuple i t hl hu,.tuple_int i t hl hu⟩
 | str i=>obtain⟨t,rfl⟩:=r;exact⟨.str_tuple i t hl hu,.tuple_str i t hl hu,.str_tuple i t hl hu,.tuple_str i t hl hu,.str_tuple i t hl hu,.tuple_str i t hl hu⟩
 | _=>exact IG (show false=true from hf) mQ
def Fk {A:AH}{l b:AD}{ps qs:AC}{xs ys:List DT}(hl:s.heap.IsList l ps.toArray)(hb:s.heap.IsList b qs.toArray)(n1:ps.length=xs.length)(n2:qs.length=ys.length)(hu:A.units<cLine)
  (he:∀j (h1:j<ps.length) (h2:j<qs.length),EqAt A.in1 s ps[j] qs[j] (qe xs ys j)):RcAt A s (.ref l) (.ref b) (deqs xs ys)/\RcNeAt A s (.ref l) (.ref b) (!deqs xs ys):=by
 rw[Dx];by_cases hz:ps.length=qs.length
 .have hsz:ps.toArray.size=qs.toArray.size:=by rw[nP,nP];exact hz
  have e1:((List.range (min xs.length ys.length)).all (qe xs ys)&&xs.length == ys.length)=(List.range ps.toArray.size).all (qe xs ys):=by
   have:xs.length=ys.length:=by lia
   rw[nP,n1,<-this,Nat.min_self];simp
  rw[e1];exact⟨RcAt.lists hl hb hsz hu λj j1 j2=>by simpa using he j (~~~j1) (~~~j2),RcNeAt.lists hl hb hsz hu λj j1 j2=>by simpa using he j (~~~j1) (~~~j2)⟩
 .have e1:((List.range (min xs.length ys.length)).all (qe xs ys)&&xs.length == ys.length)=false:=by
   have:xs.length≠ys.length:=by lia
   simp[this]
  rw[e1];have hsz:(ps.toArray.size != qs.toArray.size)=true:=by rw[nP,nP];simpa using hz
  exact⟨RcAt.lists_lengths hl hb hsz hu,RcNeAt.lists_lengths hl hb hsz hu⟩
def G7 {A:AH}{l b:AD}{ps qs:AC}{xs ys:List DT}(hl:s.heap.IsTuple l ps.toArray)(hb:s.heap.IsTuple b qs.toArray)(n1:ps.length=xs.length)(n2:qs.length=ys.length)(hu:A.units<cLine)
  (he:∀j (h1:j<ps.length) (h2:j<qs.length),EqAt A.in1 s ps[j] qs[j] (qe xs ys j)):RcAt A s (.ref l) (.ref b) (deqs xs ys)/\RcNeAt A s (.ref l) (.ref b) (!deqs xs ys):=by
 have e1:deqs xs ys=((List.range (min ps.toArray.size qs.toArray.size)).all (qe xs ys)&&ps.toArray.size == qs.toArray.size):=by rw[Dx,nP,nP,n1,n2]
 rw[e1];exact⟨RcAt.tuples hl hb hu λj j1 j2=>by simpa using he j (~~~j1) (~~~j2),RcNeAt.tuples hl hb hu λj j1 j2=>by simpa using he j (~~~j1) (~~~j2)⟩
mutual
theorem ZpK (I:lO X Ao U H s):∀(d e:DT) (A:AH) (x y:V) (u v:Value),fC X.K H d x->fC X.K H e y->ft x u->ft y v->A.units+qr d<cLine->EqAt A s u v (oj d e)
 | .f w,.f w',A,x,y,u,v,h1,h2,ru,rv,hu=>by
  unfold fC at h1 h2;obtain⟨rfl,f1⟩:=h1;obtain⟨rfl,f2⟩:=h2;unfold oj;exact FI ru rv f1 f2
 | .f w,.l ys,A,x,y,u,v,h1,h2,ru,rv,hu=>by
  unfold fC at h1 h2;obtain⟨rfl,f1⟩:=h1;obtain⟨a,vs,rfl,q,_⟩:=h2;cases rv;obtain⟨its,_,p,_⟩:=I.list q;unfold oj;exact(zB f1 ru p.isList (by unfold qr at hu;lia)).1
 | .f w,.t ys,A,x,y,u,v,h1,h2,ru,rv,hu=>by
  unfold fC at h1 h2;obtain⟨rfl,f1⟩:=h1;obtain⟨a,vs,rfl,q,_⟩:=h2;cases rv;obtain⟨its,_,p,_⟩:=I.tuple q;unfold oj;exact(A1 f1 ru (show s.heap.IsTuple a its.toArray from p) (by unfold qr at hu;lia)).1
 | .l xs,.f w,A,x,y,u,v,h1,h2,ru,rv,hu=>by
  unfold fC at h1 h2;obtain⟨rfl,f1⟩:=h2;obtain⟨a,vs,rfl,q,_⟩:=h1;cases ru;obtain⟨its,_,p,_⟩:=I.list q;unfold oj;exact(zB f1 rv p.isList ∅).2.1
 | .t xs,.f w,A,x,y,u,v,h1,h2,ru,rv,hu=>by
  unfold fC at h1 h2;obtain⟨rfl,f1⟩:=h2;obtain⟨a,vs,rfl,q,_⟩:=h1;cases ru;obtain⟨its,_,p,_⟩:=I.tuple q;unfold oj;exact(A1 f1 rv (show s.heap.IsTuple a its.toArray from p) ∅).2.1
 | .l xs,.t ys,A,x,y,u,v,h1,h2,ru,rv,hu=>by
  unfold fC at h1 h2;obtain⟨a,vs,rfl,q,_⟩:=h1;obtain⟨b,ws,rfl,q',_⟩:=h2;cases ru;cases rv;obtain⟨its,_,p,_⟩:=I.list q;obtain⟨its',_,p',_⟩:=I.tuple q';unfold oj;exact EqAt.list_tuple p.isList (show s.heap.IsTuple b its'.toArray from p') ∅
 | .t xs,.l ys,A,x,y,u,v,h1,h2,ru,rv,hu=>by
  unfold fC at h1 h2;obtain⟨a,vs,rfl,q,_⟩:=h1;obtain⟨b,ws,rfl,q',_⟩:=h2;cases ru;cases rv;obtain⟨its,_,p,_⟩:=I.tuple q;obtain⟨its',_,p',_⟩:=I.list q';unfold oj;exact EqAt.tuple_list (show s.heap.IsTuple a its.toArray from p) p'.isList ∅
 | .l xs,.l ys,A,x,y,u,v,h1,h2,ru,rv,hu=>by
  by_cases hxy:x=y
  .subst hxy;rw[fC.uniq (K:=X.K) I (.l xs) (.l ys) x h1 h2];unfold fC at h1;obtain⟨a,vs,rfl,_⟩:=h1;cases ru;cases rv;exact EqAt.same _
  .unfold fC at h1 h2;obtain⟨a,vs,rfl,q,d1⟩:=h1;obtain⟨b,ws,rfl,q',d2⟩:=h2;cases ru;cases rv;obtain⟨its,r,p,_⟩:=I.list q;obtain⟨its',r',p',_⟩:=I.list q';unfold oj;unfold qr at hu;refine EqAt.of_refs (λe=>hxy (by rw[e])) (Fk p.isList p'.isList (by rw[<-r.length,d1.length]) (by rw[<-r'.length,d2.length]) ∅ λj j1 j2=>?_).1;exact Zeg I xs ys A.in1 vs ws its its' d1 d2 r r' (by show A.units+1+_<_;lia) j j1 j2
 | .t xs,.t ys,A,x,y,u,v,h1,h2,ru,rv,hu=>by
  by_cases hxy:x=y
  .subst hxy;rw[fC.uniq (K:=X.K) I (.t xs) (.t ys) x h1 h2];unfold fC at h1;obtain⟨a,vs,rfl,_⟩:=h1;cases ru;cases rv;exact EqAt.same _
  .unfold fC at h1 h2;obtain⟨a,vs,rfl,q,d1⟩:=h1;obtain⟨b,ws,rfl,q',d2⟩:=h2;cases ru;cases rv;obtain⟨its,r,p,_⟩:=I.tuple q;obtain⟨its',r',p',_⟩:=I.tuple q';unfold oj;unfold qr at hu;refine EqAt.of_refs (λe=>hxy (by rw[e])) (G7 (show s.heap.IsTuple a its.toArray from p) (show s.heap.IsTuple b its'.toArray from p') (by rw[<-r.length,d1.length]) (by rw[<-r'.length,d2.length]) ∅ λj j1 j2=>?_).1;exact Zeg I xs ys A.in1 vs ws its its' d1 d2 r r' (by show A.units+1+_<_;lia) j j1 j2
theorem Zeg (I:lO X Ao U H s):∀(xs ys:List DT) (A:AH) (vs ws:IJ) (ps qs:AC),DatsOk X.K H xs vs->DatsOk X.K H ys ws->fi vs ps->fi ws qs->A.units+deps xs<cLine ->
  ∀(j:Nat) (h1:j<ps.length) (h2:j<qs.length),EqAt A s ps[j] qs[j] (qe xs ys j)
 | [],ys,A,vs,ws,ps,qs,d1,d2,r1,r2,hu,j,h1,h2=>by
  unfold DatsOk at d1;subst d1;cases r1;exact IG h1 (Nat.not_lt_zero _)
 | x::xs,[],A,vs,ws,ps,qs,d1,d2,r1,r2,hu,j,h1,h2=>by
  unfold DatsOk at d2;subst d2;cases r2;exact IG h2 (Nat.not_lt_zero _)
 | x::xs,y::ys,A,vs,ws,ps,qs,d1,d2,r1,r2,hu,j,h1,h2=>by
  unfold DatsOk at d1 d2;obtain⟨v,vr,rfl,a1,a2⟩:=d1;obtain⟨w,wr,rfl,b1,b2⟩:=d2;unfold deps at hu;cases r1 with
  | cons ru rus=>
   cases r2 with
   | cons rv rvs=>
    cases j with
    | zero=>
     have:=ZpK I x y A v w _ _ a1 b1 ru rv ∅;simpa [qe] using this
    | succ j=>
     have:=Zeg I xs ys A vr wr _ _ a2 b2 rus rvs ∅ j (Nat.lt_of_succ_lt_succ h1) (Nat.lt_of_succ_lt_succ h2);simpa [qe] using this
end
def G6 (I:lO X Ao U H s){d e:DT}{A:AH}{x y:V}{u v:Value}(h1:fC X.K H d x)(h2:fC X.K H e y)(ru:ft x u)(rv:ft y v)(hu:A.units+qr d<cLine)(hn:¬(pA x=true/\pA y=true)):
  RcAt A s u v (oj d e)/\RcNeAt A s u v (!oj d e):=by
 cases d with
 | f w=>
  unfold fC at h1;obtain⟨rfl,f1⟩:=h1;cases e with
  | f w'=>
   unfold fC at h2;obtain⟨rfl,f2⟩:=h2;exact IG ⟨f1,f2⟩ hn
  | l ys=>
   unfold fC at h2;obtain⟨a,vs,rfl,q,_⟩:=h2;cases rv;obtain⟨its,_,p,_⟩:=I.list q;have z:=zB (A:=A) f1 ru p.isList ∅;unfold oj;exact⟨z.2.2.1,z.2.2.2.2.1⟩
  | t ys=>
   unfold fC at h2;obtain⟨a,vs,rfl,q,_⟩:=h2;cases rv;obtain⟨its,_,p,_⟩:=I.tuple q;have z:=A1 (A:=A) f1 ru (show s.heap.IsTuple a its.toArray from p) ∅;unfold oj;exact⟨z.2.2.1,z.2.2.2.2.1⟩
 | l xs=>
  unfold fC at h1;obtain⟨a,vs,rfl,q,d1⟩:=h1;cases ru;obtain⟨its,r,p,_⟩:=I.list q;cases e with
  | f w=>
   unfold fC at h2;obtain⟨rfl,f1⟩:=h2;have z:=zB (A:=A) f1 rv p.isList ∅;unfold oj;exact⟨z.2.2.2.1,z.2.2.2.2.2⟩
  | l ys=>
   unfold fC at h2;obtain⟨b,ws,rfl,q',d2⟩:=h2;cases rv;obtain⟨its',r',p',_⟩:=I.list q';unfold oj;unfold qr at hu;exact Fk p.isList p'.isList (by rw[<-r.length,d1.length]) (by rw[<-r'.length,d2.length]) ∅ λj j1 j2=>Zeg I xs ys A.in1 vs ws its its' d1 d2 r r' (by show A.units+1+_<_;lia) j j1 j2
  | t ys=>
   unfold fC at h2;obtain⟨b,ws,rfl,q',d2⟩:=h2;cases rv;obtain⟨its',r',p',_⟩:=I.tuple q';unfold oj;exact⟨RcAt.list_tuple p.isList (show s.heap.IsTuple b its'.toArray from p') ∅,RcNeAt.list_tuple p.isList (show s.heap.IsTuple b its'.toArray from p') ∅⟩
 | t xs=>
  unfold fC at h1;obtain⟨a,vs,rfl,q,d1⟩:=h1;cases ru;obtain⟨its,r,p,_⟩:=I.tuple q;cases e with
  | f w=>
   unfold fC at h2;obtain⟨rfl,f1⟩:=h2;have z:=A1 (A:=A) f1 rv (show s.heap.IsTuple a its.toArray from p) ∅;unfold oj;exact⟨z.2.2.2.1,z.2.2.2.2.2⟩
  | t ys=>
   unfold fC at h2;obtain⟨b,ws,rfl,q',d2⟩:=h2;cases rv;obtain⟨its',r',p',_⟩:=I.tuple q';unfold oj;unfold qr at hu;exact G7 (show s.heap.IsTuple a its.toArray from p) (show s.heap.IsTuple b its'.toArray from p') (by rw[<-r.length,d1.length]) (by rw[<-r'.length,d2.length]) ∅ λj j1 j2=>Zeg I xs ys A.in1 vs ws its its' d1 d2 r r' (by show A.units+1+_<_;lia) j j1 j2
  | l ys=>
   unfold fC at h2;obtain⟨b,ws,rfl,q',d2⟩:=h2;cases rv;obtain⟨its',r',p',_⟩:=I.list q';unfold oj;exact⟨RcAt.tuple_list (show s.heap.IsTuple a its.toArray from p) p'.isList ∅,RcNeAt.tuple_list (show s.heap.IsTuple a its.toArray from p) p'.isList ∅⟩
end
def gV (K:ma)(neg:Bool):R2:=λx y H Q=>(k8 x y=true/\Q (.bl (if neg then !decide (x=y) else decide (x=y))) H) \/
 ∃d e,fC K H d x/\fC K H e y/\¬(pA x=true/\pA y=true)/\qr d<=60/\Q (.bl (if neg then !oj d e else oj d e)) H
def ZoP (hu:X.A.units+64<cLine):oh X (compareOp .Eq) (gV X.K false):=by
 intro Ao s U H x y v u Q I rx ry h;rcases h with⟨h1,q⟩|⟨d,e,h1,h2,hn,hd,q⟩
 .exact ZqO Ao s U H x y v u Q I rx ry ⟨h1,q⟩
 .exact(G6 I h1 h2 rx ry ∅ hn).1 _ _ _ _ ⟨.bl _,H,I,rfl,q⟩
def ZoN (hu:X.A.units+64<cLine):oh X (compareOp .NotEq) (gV X.K true):=by
 intro Ao s U H x y v u Q I rx ry h;rcases h with⟨h1,q⟩|⟨d,e,h1,h2,hn,hd,q⟩
 .exact ZqM Ao s U H x y v u Q I rx ry ⟨h1,q⟩
 .exact(G6 I h1 h2 rx ry ∅ hn).2 _ _ _ _ ⟨.bl _,H,I,rfl,q⟩
def e8.seqT {K:ma}{H H':Hp}{a:AD}{xs:IJ}(e:e8 H H')(h:oA K H a xs):oA K H' a xs:=by
 rcases h with (h | ⟨o,h⟩) | h
 .exact .inl (.inl (e _ _ h))
 .exact .inl (.inr ⟨o,e _ _ h⟩)
 .exact .inr h
theorem Cn {K:ma}{H:Hp}:∀ {vs:IJ},vs.all pA=true->DatsOk K H (vs.map DT.f) vs
 | [],_=>by unfold DatsOk;rfl
 | v::r,h=>by rw[List.all_cons,nY]at h;rw[oP];unfold DatsOk;exact⟨v,r,rfl,by unfold fC;exact⟨rfl,h.1⟩,Cn h.2⟩
def Db (vs:IJ):deps (vs.map DT.f)=0:=by
 induction vs with
 | nil=>rfl
 | cons v r ih=>rw[oP];unfold deps;rw[ih];rfl
def GW (a b:lN):sJ (tx a) (tx b)=decide (tx a=tx b):=by
 rw[vj];show ((⟨a.toArray⟩:Str) == ⟨b.toArray⟩)=_;by_cases h:a=b
 .subst h;simp
 .rw[IB h];exact beq_eq_false_iff_ne.mpr λz=>h (xH.mp (IF V.str z))
def ja {K:ma}{H:Hp}{a:AD}{vs:IJ}(h:m8 K H a vs)(hf:vs.all pA=true):fC K H (.l (vs.map DT.f)) (.ref a):=by unfold fC;exact⟨a,vs,rfl,h,Cn hf⟩
def jm {K:ma}{H:Hp}{a:AD}{vs:IJ}(h:oA K H a vs)(hf:vs.all pA=true):fC K H (.t (vs.map DT.f)) (.ref a):=by unfold fC;exact⟨a,vs,rfl,h,Cn hf⟩
end L2
namespace L2
open PySem PySem.Spec PyProof.Rows
open PySem.W (Frag findIn specialIn typeIn mroIn clsIn InstAt Looks)
def uV:AC:=[.type "ValueError",.type "Exception",.type "BaseException",.type "object"]
def GO:Value->Bool
 | .ref _=>true
 | _=>false
noncomputable def g6 (l:AC):Bool:=l.dropWhile GO == uV
theorem Cd {P:AC->Prop}(h0:P uV)(h1:∀c r,P r->P (.ref c::r)):∀l:AC,g6 l=true->P l
 | [],e=>by simp[g6,uV]at e
 | v::r,e=>by
  cases hv:GO v with
  | true=>
   cases v with
   | ref c=>
    refine h1 c r (Cd h0 h1 r ?_);unfold g6 at e ⊢;rw[List.dropWhile_cons,lU hv]at e;exact e
   | _=>cases hv
  | false=>
   unfold g6 at e;rw[List.dropWhile_cons,lT (by rw[hv];exact mQ)]at e;rw[show (v::r)=uV by simpa using e];exact h0
def Zjr (self:Value):refuseLoop self "__setattr__" uV=pure ():=by
 first | rfl | kernel_rfl
def ZkZ (self:Value){l:AC}(e:g6 l=true):refuseLoop self "__setattr__" l=pure ():=
 Cd (P:=λl=>refuseLoop self "__setattr__" l=pure ()) (Zjr self) (λc r h=>by rw[refuseLoop_ref];exact h) l e
def wZ (h:uV.contains (.type n)=b){l:AC}(e:g6 l=true):l.contains (.type n)=b:=
 Cd (P:=λl=>l.contains (.type n)=b) h (λc r h=>by rw[rB,h];rfl) l e
structure Xc (K:Frag)(C:AD):Prop where
 ga:findIn K (.ref C) "__getattribute__"=some (some (.builtin "BaseException.__getattribute__"))
 gr:findIn K (.ref C) "__getattr__"=some none
 sa:findIn K (.ref C) "__setattr__"=some (some (.builtin "object.__setattr__"))
 hd:hasDictIn K C=true
 mr:(clsIn K C).any (λcd=>g6 cd.mro)=true
def Fu (e:g6 l=true):l.isEmpty=false:=by
 cases l with
 | nil=>simp[g6,uV]at e
 | cons _ _=>rfl
def Xc.base {K:Frag}{C:AD}(c:Xc K C){n:String}{b:Bool}(h:uV.contains (.type n)=b):mroIn K C (.type n)=some b:=by obtain⟨cd,hc,hm⟩:=vC c.mr;unfold mroIn;rw[hc,sj,lT (by rw[Fu hm];exact mQ),wZ h hm]
noncomputable def xo (a C:AD)(d:Option AD):HO:=.ext λh=>∃(o:Obj) (t:AD),h.get? a=some o/\o.cls=.ref C/\o.dict=d/\o.data=.fields #[.ref t,.none,.none,.none,.bool false,.none]
def wP (d:AD)(fs:List (Str×V)):HO:=.ext λh=>fs.length<=1000/\∃mA,h.Ns1 d mA/\(∀f,gi (fs.lookup f) (mA f))/\PySem.Within mA (fs.map (·.1))
inductive rN (H:Hp) (e C:AD):List (Str×V)->Prop where
 | bare:H e=some (xo e C none)->rN H e C []
 | full {d:AD} {fs:List (Str×V)}:H e=some (xo e C (some d))->H d=some (wP d fs)->d≠e->rN H e C fs
def Zn2 (h:H a=some o):upd H a o=H:=by
 funext b;unfold upd;by_cases hb:b=a
 .rw[lU hb,hb,h]
 .rw[lT hb]
section
def uR (I:lO X Ao U H s)(h:H e=some (xo e C d)):∃(o:Obj) (t:AD),s.heap.get? e=some o/\o.cls=.ref C/\o.dict=d/\o.data=.fields #[.ref t,.none,.none,.none,.bool false,.none]:=(I.hok e _ h).1
def BN (h1:h.get? e=some o)(h2:o.cls=.ref C)(h3:o.dict=d)(h4:o.data=.fields #[.ref t,.none,.none,.none,.bool false,.none]):fJ P w H h e (xo e C d):=
 ⟨⟨o,t,h1,h2,h3,h4⟩,⟨o,h1⟩,λa b ⟨o,t,q1,q⟩ k=>⟨o,t,k o q1,q⟩⟩
def Dz (hz:fs.length<=1000)(h1:h.Ns1 d mA)(h2:∀f,gi (fs.lookup f) (mA f))(h3:PySem.Within mA (fs.map (·.1))):fJ P w H h d (wP d fs):=by obtain⟨o,es,ep,ho,r⟩:=id h1;refine⟨⟨hz,mA,h1,h2,h3⟩,⟨o,ho⟩,λa b ⟨hz,m,⟨o,es,ep,q,r⟩,z⟩ k=>⟨hz,m,⟨o,es,ep,k o q,r⟩,z⟩⟩
def rN.inst (I:lO X Ao U H s)(x:rN H e C fs):∃(ox:Obj) (od:Option Obj),InstAt s.heap e ox C od/\∀name,∃r,(match od with | some o=>lookIn name o | none=>some none)=some r/\gi (fs.lookup name) r:=by
 cases x with
 | bare h=>
  obtain⟨o,t,h1,h2,h3,h4⟩:=uR I h;exact⟨o,none,⟨h1,h2,by unfold notCls;rw[h4],by rw[h3];trivial⟩,λname=>⟨none,rfl,by trivial⟩⟩
 | @full d _ h h' hne=>
  obtain⟨o,t,h1,h2,h3,h4⟩:=uR I h;obtain⟨⟨_,mA,hn,hr,_⟩,_⟩:=I.hok d _ h';obtain⟨od,hod,hl⟩:=CA hn;exact⟨o,some od,⟨h1,h2,by unfold notCls;rw[h4],by rw[h3];exact hod⟩,λname=>⟨mA name,hl name,hr name⟩⟩
def HY:entryFor table "BaseException.__getattribute__"=some Builtin.«object.__getattribute__»:=F.entry_bexc_ga
def Zid {K:Frag}{x:AD}{ox:Obj}{od:Option Obj}{name:Str}{expr:Bool}{u:Value}{prog:AG}{w:AI}{Q:mY}(KX:K.In s.heap)(I:InstAt s.heap x ox C od)(c:Xc K C)
  (hf:findObj K C od name=some (.value u)) (hh:handedIn u=true) (h:Q u { s with toks:=s.toks+1 }):wpAny (model prog w) A (getAttr (.ref x) name expr) Q E s:=by
 obtain⟨hp,g,d,t,os⟩:=s;have L0:=I.type (M:=model prog w);have L1:=wf (M:=model prog w) KX c.ga;have L2:=wf (M:=model prog w) KX c.gr;have L3:=looks_find (M:=model prog w) KX I hf;have L4:=looks_mroIn (M:=model prog w) KX (c.base (n:="BaseException") (b:=true) nofun);have hx2:(Value.builtin "BaseException.__getattribute__" == Value.builtin "object.__getattribute__")=false:=by decide +kernel
 have slot:=F.excAttr_ValueError.ga;unfold getAttr getAttrBy;refine lP (wpAny_mkText (pU (lP (L0.at (lP (L1.at ?_))))));dsimp only;rw[hx2,uv,lT mQ];unfold getAttrByItsOwn hookBefore;refine lP ?_;show wpAny _ _ (if onTheHeap (Value.ref C)=true then typeLookup (.ref C) "__getattr__" else pure none) _ _ _;rw[lU (show onTheHeap (Value.ref C)=true from rfl)];refine L2.at (lP (vo (pU ?_)));unfold callGetattribute;rw[show (expr&&onTheHeap (Value.builtin "BaseException.__getattribute__"))=false from uv _,lT mQ];unfold boundAndCalled;rw[slot.bind];refine lP (mf ?_);show wpAny _ _ (call (.builtin "BaseException.__getattribute__") [.ref x,.str name t]) _ _ _;refine tE (codeAny_call_builtin slot.plain HY ?_);refine @check_slot (model prog w) _ _ ⟨hp,g,d,t+1,os⟩ "BaseException.__getattribute__" "BaseException" "__getattribute__" (.ref x) [.str name t] [] _ nofun nofun (L0.andThen L4) (F.args_bexc_ga (.ref x) (.str name t)) ?_;refine lP (mf (lP (mf (lP (L0.at (lP (L3.at (mf ?_))))))));show wpAny _ _ (handedOut u) _ _ _;rw[PySem.W.handedOut_of hh];exact mf h
def xset (I:lO X Ao U H s)(x:rN H e C fs)(c:Xc X.K C)(n:fF X.K C f)(hz:fs.length<1000)(ry:ft y u)
  (h:∀s' H',lO X Ao U H' s'->rN H' e C (fO f y fs)->(∀b o,H b=some o->b≠e->(∀d,H e=some (xo e C (some d))->b≠d)->H' b=some o) ->
   (∃d,H' e=some (xo e C (some d))/\(H e=some (xo e C (some d))\/H d=none))->Q () s'):wpAny (model X.prog X.w) A (setAttr (.ref e) f u) Q E s:=by
 obtain⟨ox,od,J,hr⟩:=x.inst I;obtain⟨cd,hc,hd'⟩:=vC c.hd;obtain⟨cd',hc2,hm⟩:=vC c.mr;rw[hc]at hc2;cases hc2;refine set_plain I.kIn J c.sa ?_;have SF:=PySem.F.store_object;have hne:=Fu hm;have KX:X.K.In ({ s with toks:=s.toks+1 }:AE).heap:=I.kIn;have J1:InstAt ({ s with toks:=s.toks+1 }:AE).heap e ox C od:=J;have L1:Looks (model X.prog X.w) s.heap (mroOf (.ref C)) cd.mro:=(looks_clsIn I.kIn hc).andThen .now;have sub:Looks (model X.prog X.w) s.heap (isInstance (.ref e) (.type "object")) true:=J.type.andThen (looks_mroIn I.kIn (c.base (n:="object") (b:=true) nofun));refine codeAny_call_builtin SF.slot.plain SF.entry (@check_slot (model X.prog X.w) _ _ { s with toks:=s.toks+1 } "object.__setattr__" "object" "__setattr__" (.ref e) [.str f s.toks,u] [] _ SF.kind SF.split sub (SF.args (.ref e) (.str f s.toks) u) ?_);rw[osa_eq,refuse_eq];refine lP (lP (Looks.here (s:={ s with toks:=s.toks+1 }) J.type (lP (Looks.here (s:={ s with toks:=s.toks+1 }) L1 ?_))));rw[ZkZ _ hm];refine mf (lP (Looks.here (s:={ s with toks:=s.toks+1 }) J.type (lP (Looks.here (s:={ s with toks:=s.toks+1 }) (wf I.kIn n) (lP (mf ?_))))));dsimp only;refine lP (mf (lP (lP ?_)));have LC:=looks_clsIn (M:=model X.prog X.w) I.kIn hc;cases x with
 | bare hb=>
  obtain⟨o,t,h1,h2,h3,h4⟩:=uR I hb;obtain⟨oc,odi,oda,osl⟩:=o;dsimp only at h2 h3 h4;subst h2 h3 h4;refine wpAny_loadPart h1 (lP (Looks.here (s:={ s with toks:=s.toks+1 }) LC ?_));rw[hd'];refine lP (wpAny_alloc (lP (wpAny_update (mR _ h1) (mf ?_))));dsimp only;refine lP (mf (lP ?_));have A0:e<s.heap.objs.size:=mL h1;have hfr:=I.fresh;have hed:s.heap.objs.size≠e:=Nat.ne_of_gt A0;have ee:(s.heap.push emptyDict).get? s.heap.objs.size=some emptyDict:=nV s.heap rfl;have e2:((s.heap.push emptyDict).update e λo=>{ o with dict:=some s.heap.objs.size }).get? e=some ⟨.ref C,some s.heap.objs.size,.fields #[.ref t,.none,.none,.none,.bool false,.none],osl⟩:=vk _ (mR _ h1) rfl;have e3:((s.heap.push emptyDict).update e λo=>{ o with dict:=some s.heap.objs.size }).get? s.heap.objs.size=some emptyDict:=by rw[tZ _ _ (mH hed)];exact ee
  have ns:((s.heap.push emptyDict).update e λo=>{ o with dict:=some s.heap.objs.size }).Ns s.heap.objs.size (λ_=>none):=⟨emptyDict,#[],_,e3,rfl,(λe he=>IG he {}),λ_=>rfl⟩;have ns1:=Heap.Ns1.of_empty ns;have I1:=I.laid (a:=s.heap.objs.size) (o:=wP s.heap.objs.size []) (h':=s.heap.push emptyDict) (t':=s.toks+1) (λb u q=>mR _ q) (mC _)
   (Dz (fs:=[]) (nO _) (Heap.Ns1.of_empty (h:=s.heap.push emptyDict) ⟨emptyDict,#[],_,ee,rfl,(λe he=>IG he {}),λ_=>rfl⟩) (λ_=>by trivial) (λy hy=>IG rfl hy))
  have I2:=I1.write (x:=e) (e:=e) (o:=xo e C (some s.heap.objs.size)) (h':=(s.heap.push emptyDict).update e λo=>{ o with dict:=some s.heap.objs.size }) (t':=s.toks+1)
   (by rw[lR (mH hed),hb];exact trivial) (.inl rfl) (λb u hbe q=>by rw[tZ _ _ (mH hbe)];exact q) ⟨_,e2⟩ (BN e2 rfl rfl rfl)
  refine wpAny_nsSet1 (s:={ s with heap:=(s.heap.push emptyDict).update e λo=>{ o with dict:=some s.heap.objs.size },toks:=s.toks+1 }) ns1 λh' hn2 hs2=>?_;have hw:PySem.Within (λx=>if x=f then some u else none) [f]:=λz hz=>by
   by_cases q:z=f
   .rw[q];exact o7
   .exact IG (lT q) hz
  obtain⟨oD,esD,epD,hoD,hdD,hcD⟩:=hn2.count hw;refine lP (wpAny_lookBehind hoD (by rw[hdD];exact pastItsLine_dict (mO hcD (by rw[oC,sizeLine_eq];decide))) ?_);refine mf (h _ _ (I2.write (x:=s.heap.objs.size) (e:=s.heap.objs.size) (o:=wP s.heap.objs.size [(f,y)]) (h':=h') (t':=s.toks+1+1) ?_ (.inl rfl) (λb u' hb' q=>(hs2.2 b hb').trans q) ⟨oD,hoD⟩ (Dz (by show 1<=1000;decide) hn2 ?_ hw)) ?_ ?_ ⟨_,(by rw[lR (mH hed),mq]),.inr hfr⟩)
  .rw[lR hed,mq];exact trivial
  .intro g;show gi (List.lookup g [(f,y)]) (if g=f then some u else none);by_cases q:g=f
   .rw[lU q,q];simp[sR];exact ry
   .have hbq:(g == f)=false:=by simpa using q
    rw[lT q];simp[sR,hbq];trivial
  .refine .full (d:=s.heap.objs.size) (by rw[lR (mH hed),mq]) ?_ hed;rw[mq];rfl
  .intro b o' hb' hbe _;have nb:b≠s.heap.objs.size:=mM hb' hfr;rw[lR nb,lR hbe,lR nb];exact hb'
 | @full d _ hb hd2 hne2=>
  obtain⟨o,t,h1,h2,h3,h4⟩:=uR I hb;obtain⟨oc,odi,oda,osl⟩:=o;dsimp only at h2 h3 h4;subst h2 h3 h4;obtain⟨⟨hz',mA,hn,hr',hw⟩,_⟩:=I.hok d _ hd2;refine wpAny_loadPart h1 (lP (Looks.here (s:={ s with toks:=s.toks+1 }) LC ?_));rw[hd'];refine mf ?_;dsimp only;refine lP (mf (lP ?_));refine wpAny_nsSet1 (s:={ s with toks:=s.toks+1 }) hn λh' hn2 hs2=>?_;obtain⟨oD,esD,epD,hoD,hdD,hcD⟩:=hn2.count (PySem.Within.cons f u hw);refine lP (wpAny_lookBehind hoD (by rw[hdD];exact pastItsLine_dict (mO hcD (by rw[oN,lZ,sizeLine_eq];lia))) ?_);refine mf (h _ _ (I.write (x:=d) (e:=d) (o:=wP d (fO f y fs)) (h':=h') (t':=s.toks+1+1) (by rw[hd2];exact trivial) (.inl rfl) (λb u' hb' q=>(hs2.2 b hb').trans q) ⟨oD,hoD⟩ (Dz ?_ hn2 ?_ ?_)) ?_ ?_ ⟨d,(by rw[lR (mH hne2)];exact hb),.inl hb⟩)
  .have:=CT f y fs;lia
  .intro g;show gi ((fO f y fs).lookup g) (if g=f then some u else mA g);rw[oQ];by_cases q:g=f
   .rw[lU q,lU q];exact ry
   .rw[lT q,lT q];exact hr' g
  .intro g hg;by_cases q:g=f
   .rw[q];exact(xP f y fs).1
   .refine(xP f y fs).2 g (hw g λz=>hg ?_);show (if g=f then some u else mA g)=none;rw[lT q];exact z
  .exact .full (d:=d) (by rw[lR (mH hne2)];exact hb) mq hne2
  .intro b o' hb' hbe hbd;rw[lR (hbd d hb)];exact hb'
end
abbrev gX (C t:AD):Obj:={ cls:=.ref C,data:=.fields #[.ref t,.none,.none,.none,.bool false,.none] }
abbrev hG (vs:AC):Obj:={ cls:=.type "tuple",data:=.seq vs.toArray }
structure Xm (K:Frag)(C:AD):Prop where
 c:Xc K C
 ob:∃(nm q:Str) (N:AD) (bs bm:AC) (Ax:Bool) (sn:AJ) (sub:AC) (ab:Bool) (col:Option Bool) (dd:Option AD) (k0 k1 k2 k3 k5:Option Value),
  K.lookup C=some (excClassObj nm q C N bs bm Ax sn sub ab col dd k0 k1 k2 k3 k5 "ValueError.__new__")
 kp:keepIn K (.ref C)=true
section
variable {prog:AG}{w:AI}{A:AH}{E:mY}{h:Heap}{g:Array GenState}{d:Drawn}{t:Nat}{os:OsState}{K:Frag}
variable {nm q:Str}{C N:AD}{bs bm:AC}{Ax:Bool}{sn:AJ}{sub:AC}{ab:Bool}{col:Option Bool}{dd:Option AD}{k0 k1 k2 k3 k5:Option Value}
def Zic {M:Model} {f8:AC} {Q:Unit->AE->Prop} (hx:g6 (.ref C::bm)=true) (hC:h.get? C=some (excClassObj nm q C N bs bm Ax sn sub ab col dd k0 k1 k2 k3 k5 "ValueError.__new__"))
  (hq:Q () ⟨h,g,d,t,os⟩):wpAny M A (checkBuiltinCall "ValueError.__new__" ⟨.ref C::f8,[]⟩) Q E ⟨h,g,d,t,os⟩:=by
 have Fn:=zA;have hcB:=wZ (n:="ValueError") (b:=true) nofun hx;have hstar:=Fn.noStar;simp only[checkBuiltinCall,Fn.newKind,Fn.newSplit,Fn.newRow];repeat (first | refine tL hC ?_ | (refine yI hC ?_;rw[hcB]) | refine wpAny_staticBase_exc hC ?_ | refine wpAny_madeBy_exc hC ?_ | simp only[bne_self_eq_false,vR,if_false] | wp_step)
 exact hq
def xnew {R:Result->AE->Prop} {f8:AC} (hx:g6 (.ref C::bm)=true) (hC:h.get? C=some (excClassObj nm q C N bs bm Ax sn sub ab col dd k0 k1 k2 k3 k5 "ValueError.__new__"))
  (hq:R (.ok (.ret (.ref (h.objs.size+1)))) ⟨(h.push (hG f8)).push (gX C h.objs.size),g,d,t,os⟩) (hrest:f8.length<=sizeLine):
  codeAny (model prog w) A (.builtin "ValueError.__new__" ⟨.ref C::f8,[]⟩) R ⟨h,g,d,t,os⟩:=by
 have Fn:=zA;have hends:=Fn.ends;have hcB:=wZ (n:="ValueError") (b:=true) nofun hx;have hcA:=wZ (n:="AttributeError") (b:=false) nofun hx;have hcN:=wZ (n:="NameError") (b:=false) nofun hx;refine codeAny_builtinAt Fn.entry ?_;unfold Builtin.«BaseException.__new__»;refine PySem.wpAt_bind ?_;show PySem.wpAt _ _ _ (stack >>= _) _ _ _;refine PySem.wpAt_bind (PySem.wpAt_stack λp below=>PySem.wpAt_of_wpAny ?_)
 wp_walk
 refine PySem.wpAt_of_wpAny ?_;rw[Fn.owner];repeat (first | with_reducible refine wpAny_madeHere_exc Fn.canon hC ?_ | with_reducible refine tL hC ?_ | (with_reducible refine yI hC ?_;first | rw[hcB] | rw[hcA] | rw[hcN]) | wp_step)
 show R _ _;rw[rZ];exact hq
def Zp1 {R:Result->AE->Prop} {f8:AC} {init:Value} (KX:K.In h) (hx:g6 (.ref C::bm)=true) (hC:h.get? C=some (excClassObj nm q C N bs bm Ax sn sub ab col dd k0 k1 k2 k3 k5 "ValueError.__new__"))
  (hi:Looks (model prog w) h (typeLookup (.ref C) "__init__") (some init)) (hb:∀self,Looks (model prog w) h (bindSpecial init self) (init,[self])) (hrest:f8.length<=sizeLine)
  (hq:codeAny (model prog w) (A.under (.builtin "type.__call__" ⟨.ref C::f8,[]⟩)) (.call init ⟨.ref (h.objs.size+1)::f8,[]⟩) (PySem.W.InitBack (h.objs.size+1) R) ⟨(h.push (hG f8)).push (gX C h.objs.size),g,d,t,os⟩):
  codeAny (model prog w) A (.call (.ref C) ⟨f8,[]⟩) R ⟨h,g,d,t,os⟩:=by
 have f1:=tc_lookup;have f2:=tc_bind (.ref C);have hT:(⟨h,g,d,t,os⟩:AE).TypeIs (.ref C) "type":=⟨_,hC,rfl⟩;have Fn:=zA;refine codeAny_of_tree ?_;show wpAny _ _ (callAny (.ref C) _) _ _ _;repeat (any_goals (first | assumption | with_reducible refine tL hC ?_ | wp_step))
 refine⟨rfl,?_⟩;refine codeAny_call_builtin_at (Code.quiet_builtin _ nofun) entry_typeCall (wpAny_check_type_call_sub hC ?_);repeat (first | with_reducible refine tL hC ?_ | with_reducible refine wpAny_madeBy_exc hC ?_ | wp_step)
 refine codeAny_call_builtin_code (Code.quiet_builtin _ Fn.quiet) (Zic hx hC ?_);refine xnew hx hC ?_ hrest;show wpAny _ _ _ _ _ _;have k:∀b o,h.get? b=some o->((h.push (hG f8)).push (gX C h.objs.size)).get? b=some o:=λb o e=>mR _ (mR _ e);have hC1:=k _ _ hC;have hget:((h.push (hG f8)).push (gX C h.objs.size)).get? (h.objs.size+1)=some { cls:=.ref C,data:=.fields #[.ref h.objs.size,.none,.none,.none,.bool false,.none] }:=by heap_get
 have hcC:(Value.ref C::bm).contains (.ref C)=true:=by simp
 have i1:=hi.keeps k;have b1:=(hb (.ref (h.objs.size+1))).keeps k;have t1:Looks (model prog w) ((h.push (hG f8)).push (gX C h.objs.size)) (typeOf (.ref (h.objs.size+1))) (.ref C):=(Looks.ld hget).andThen .now;unfold isInstance;repeat (first | with_reducible refine tL hget ?_ | (with_reducible refine yI hC1 ?_;rw[hcC]) | wp_step)
 refine yI hC1 ?_;rw[hcC];repeat (first | with_reducible refine tL hget ?_ | wp_step)
 show wpAny _ _ (typeLookup (.ref C) _) _ _ _;refine i1.at (pU (lP (b1.at ?_)));refine lP (tE ?_);refine codeAny_mono hq λr s' z=>?_;rcases r with e | (v | _ | _ | _)<;>first | exact z | exact z.elim | skip
 obtain⟨rfl,z⟩:=z;exact mf (mf z)
end
section
def lO.xmade (I:lO X Ao U H s):lO X Ao U (upd H (s.heap.objs.size+1) (xo (s.heap.objs.size+1) C none)) { s with heap:=(s.heap.push (hG us)).push (gX C s.heap.objs.size) }:=by
 have I1:lO X Ao U H { s with heap:=s.heap.push (hG us) }:=I.kept (t':=s.toks) λb o e=>mR _ e;have e2:((s.heap.push (hG us)).push (gX C s.heap.objs.size)).get? (s.heap.objs.size+1)=some (gX C s.heap.objs.size):=by
  have:=nV (s.heap.push (hG us)) (o:=gX C s.heap.objs.size) rfl
  rwa [rZ]at this
 exact I1.laid (a:=s.heap.objs.size+1) (t':=s.toks) (λb u q=>mR _ q) (uO (rZ _ _)) (BN e2 rfl rfl rfl)
def ZiZ (I:lO X Ao U H s)(m:Xm X.K C)(hx:H e=some (xo e C d))(hz:us.length<=sizeLine)(A:AH)
    (h:∀s',lO X Ao U H s'->R (.ok (.ret .none)) s'):codeAny (model X.prog X.w) A (.call (.builtin "ValueError.__init__") ⟨.ref e::us,[]⟩) R s:=by
  have Fn:=zA;have c:=m.c;obtain⟨nm,qn,N,bs,bm,Ax,sn,sub,ab,col,dd,k0,k1,k2,k3,k5,lC⟩:=m.ob;have hC:=I.kIn _ _ lC;obtain⟨o,t,h1,h2,h3,h4⟩:=uR I hx;obtain⟨oc,od,oda,osl⟩:=o;dsimp only at h2 h3 h4;subst h2 h3 h4;have L:Looks (model X.prog X.w) s.heap (isInstance (.ref e) (.type "ValueError")) true:=((Looks.ld h1).andThen .now).andThen (looks_mroIn I.kIn (c.base (n:="ValueError") (b:=true) nofun));obtain⟨hp,g,dr,tk,os⟩:=s;refine codeAny_call_builtin Fn.init.plain Fn.initEntry ?_;have hshort:=Fn.noStar;simp only[checkBuiltinCall,Fn.initKind,Fn.initSplit,Fn.initRow];refine lP (L.at ?_);simp only[Bool.not_true,vR,if_false];have fin:wpAny (model X.prog X.w) A.in1 (Builtin.«BaseException.__init__» ⟨.ref e::us,[]⟩) (λfin s'=>match fin with | .done f=>R (.ok f) s' | .again c'=>c'.quiet=true/\codeAny (model X.prog X.w) A c' R s') (λe s'=>R (.error e) s') ⟨hp,g,dr,tk,os⟩:=by
    have A0:e<hp.objs.size:=mL h1
    wp_walk
    refine h _ ?_;have I1:lO X Ao U H { (⟨hp,g,dr,tk,os⟩:AE) with heap:=hp.push (hG us) }:=I.kept (t':=tk) λb o e=>mR _ e;have e2:=vk (Obj.mapFields (·.setIfInBounds 0 (Value.ref hp.objs.size))) (mR (h:=hp) (hG us) h1) rfl;have I2:=I1.write (x:=e) (e:=e) (o:=xo e C od) (h':=(hp.push (hG us)).update e (Obj.mapFields (·.setIfInBounds 0 (Value.ref hp.objs.size)))) (t':=tk) (by rw[hx];exact trivial) (.inl rfl)
      (λb u hb q=>by rw[tZ _ _ (mH hb)];exact q) ⟨_,e2⟩ (BN e2 rfl rfl rfl)
    rw[Zn2 hx]at I2;exact I2
  repeat (first | with_reducible refine tL hC ?_ | (with_reducible refine wpAny_load hC ?_) | with_reducible refine tL h1 ?_ | wp_step)
  first
    | (refine wpAny_onRaise ?_
       rw[show ∀(a b:String) (n:Nat),Bind.check ⟨.positional,"*","ValueError",.self,[⟨"args",.varPos,false⟩]⟩ a b n (List.map (λx=>x.fst) ({ pos:=Value.ref e::us }:Args).kw)=pure () from λa b n=>check_star_args _ _ _ _ _ _];exact mf fin)
    | skip
end
structure Xi (K:Frag)(C:AD):Prop where
 c:Xc K C
 ha:findIn K (.ref C) "__class__"=some (some (.builtin "object.__class__"))
 hn:specialIn K (.builtin "object.__class__") "__get__"=some (some (.builtin "getset_descriptor.__get__"))
 htk:takesIn K (.builtin "object.__class__")=some true
section
variable {K:Frag}{x C:AD}{ox:Obj}{od:Option Obj}{prog:AG}{w:AI}{A:AH}{E:mY}{s:AE}
def Zn1 (i:Xi K C)(KX:K.In s.heap)(I:InstAt s.heap x ox C od)(h:Q (some (.ref C)) { s with toks:=s.toks+1 }):wpAny (model prog w) A (getAttr? (.ref x) "__class__") Q E s:=by
 have c:=i.c;have hf:findObj K C od "__class__"=some (.bind (.builtin "getset_descriptor.__get__") (.builtin "object.__class__")):=by obtain⟨cd,hc,_⟩:=vC c.hd;unfold findObj;rw[hc,i.ha];simp only[sj,i.hn,i.htk]
 obtain⟨hp,g,d,t,os⟩:=s;have L0:=I.type (M:=model prog w);have L1:=wf (M:=model prog w) KX c.ga;have L2:=wf (M:=model prog w) KX c.gr;have L3:=looks_find (M:=model prog w) KX I hf;have L4:=looks_mroIn (M:=model prog w) KX (c.base (n:="BaseException") (b:=true) nofun);have hm:=c.base (n:="object") (b:=true) nofun;have hx2:(Value.builtin "BaseException.__getattribute__" == Value.builtin "object.__getattribute__")=false:=by decide +kernel
 have slot:=F.excAttr_ValueError.ga;unfold getAttr? getAttrBy?;refine lP (wpAny_mkText (lP (vo ?_)));unfold getAttrBy;refine pU (lP (L0.at (lP (L1.at ?_))));dsimp only;rw[hx2,uv,lT mQ];unfold getAttrByItsOwn hookBefore;refine lP ?_;show wpAny _ _ (if onTheHeap (Value.ref C)=true then typeLookup (.ref C) "__getattr__" else pure none) _ _ _;rw[lU (show onTheHeap (Value.ref C)=true from rfl)];refine L2.at (lP (vo (pU ?_)));unfold callGetattribute;rw[show (false&&onTheHeap (Value.builtin "BaseException.__getattribute__"))=false from rfl,lT mQ];unfold boundAndCalled;rw[slot.bind];refine lP (mf ?_);show wpAny _ _ (call (.builtin "BaseException.__getattribute__") [.ref x,.str "__class__" t]) _ _ _;refine tE (codeAny_call_builtin slot.plain HY ?_);refine @check_slot (model prog w) _ _ ⟨hp,g,d,t+1,os⟩ "BaseException.__getattribute__" "BaseException" "__getattribute__" (.ref x) [.str "__class__" t] [] _ nofun nofun (L0.andThen L4) (F.args_bexc_ga (.ref x) (.str "__class__" t)) ?_;refine lP (mf (lP (mf (lP (L0.at (lP (L3.at ?_)))))));show wpAny _ _ (holding [.builtin "object.__class__"] (call (.builtin "getset_descriptor.__get__") [.builtin "object.__class__",.ref x,.ref C]) >>= ret) _ _ _;refine lP (pU (tE (PySem.W.class_get (s:=⟨hp,g,d,t+1,os⟩) (ox:=ox) (od:=od) KX I hm (mf ?_))));exact PySem.W.handed_on rfl (mf h)
def Gi (i:Xi K C):PySem.W.KitX K (.ref x) (.ref C) (λh=>InstAt h x ox C od) where
 ty:=λ_ _ _ I=>I.type
 it:=λ_ _ KX _=>by
  obtain⟨cd,hc,_⟩:=vC i.c.hd;unfold clsIn at hc;split at hc
  .rename_i ho
   intro A' Q' E' s' k q;unfold isType loadHead;exact lP (wpAny_loadPart (k _ _ (KX _ _ ho)) (mf q))
  .cases hc
 ne:=λh tp dd its n sl KX htp=>by
  obtain⟨cd,hc,_⟩:=vC i.c.hd;refine rE.mpr λq=>?_;have e:C=tp:=Value.ref.inj (beq_iff_eq.mp q);subst e;unfold clsIn at hc;split at hc
  .rename_i ho
   have z:=(KX _ _ ho).symm.trans htp;cases z
  .cases hc
 ca:=λKX I k=>Zn1 i KX I k
end
inductive xy (K:Frag) (H:Hp):V->Value->Prop where
 | pl {x:V} {t:Value} (h:gW K H x t):xy K H x t
 | seqL {a:AD} {xs:IJ} (h:m8 K H a xs):xy K H (.ref a) (.type "list")
 | seqT {a:AD} {xs:IJ} (h:oA K H a xs):xy K H (.ref a) (.type "tuple")
 | exc {e C:AD} {fs:List (Str×V)} (x:rN H e C fs) (i:Xi K C):xy K H (.ref e) (.ref C)
noncomputable def clsV:V->Option Value
 | .ref a=>some (.ref a)
 | .ty n=>some (.type n)
 | _=>none
def Zhl:pR X (.builtin "isinstance") (λxs H Q=>∃x c t k b,xs=[x,c]/\clsV c=some k/\xy X.K H x t/\kitOne X.K t k=some b/\Q (.bl b) H):=by
 rintro Ao s U H xs us Q I r ⟨x,c,t,k,b,rfl,hk,ty,e,q⟩;obtain⟨u,v,rfl,ru,rv⟩:=r.two;have hv:v=k:=by
  cases c with
  | ref a=>cases hk;exact rv
  | ty n=>cases hk;exact rv
  | _=>cases hk
 subst hv;cases ty with
 | pl ty=>exact Zj9 I ru ty e λtk=>⟨.bl b,H,I.tok _,rfl,q⟩
 | seqL h=>
  cases ru;obtain⟨its,_,⟨o,n,ho,hc,_⟩,_⟩:=I.list h;exact qJ kitx_list I.kIn ⟨o,ho,hc⟩ e (λz=>nomatch z) λtk=>⟨.bl b,H,I.tok _,rfl,q⟩
 | seqT h=>
  cases ru;obtain⟨its,_,⟨o,ho,hc,_⟩,_⟩:=I.tuple h;exact qJ kitx_tuple I.kIn ⟨o,ho,hc⟩ e (λz=>nomatch z) λtk=>⟨.bl b,H,I.tok _,rfl,q⟩
 | exc x i=>
  cases ru;obtain⟨ox,od,J,_⟩:=x.inst I;exact qJ (Gi i) I.kIn J e (λz=>nomatch z) λtk=>⟨.bl b,H,I.tok _,rfl,q⟩
def Ef (K:Frag)(ta tv:TE)(f:Str):TS:=λD U H=>tv U H λy H1=>ta U H1 λx H2=>∃e C fs,x=.ref e/\rN H2 e C fs/\Xc K C/\fF K C f/\fs.length<1000 /\
 ∀H',rN H' e C (fO f y fs)->(∀b o,H2 b=some o->b≠e->(∀d,H2 e=some (xo e C (some d))->b≠d)->H' b=some o)->(∃d,H' e=some (xo e C (some d))/\(H2 e=some (xo e C (some d))\/H2 d=none))->D.nx U H'
def Zmy (K:Frag)(C:AD)(t:TA):TE:=λU H Q=>t U H λvs H1=>vs.length<=1000/\∀e,H1 e=none->Q (.ref e) (upd H1 e (xo e C none))
def EA (C:AD)(sp:Sp)(E:XK)(t:TA):TE:=λU H Q=>t U H λvs H1=>vs.length<=1000/\∀e,H1 e=none->sp (.ref e::vs) (upd H1 e (xo e C none)) (λv H2=>v=.non/\Q (.ref e) H2) E
section
def C8 (ha:PE X o ta)(hv:PE X value tv)(hs:swapsWith value (some (.Attribute o f pos')) pos.line X.env=pure false):PS X (.Assign [.Attribute o f pos'] value pos) (Ef X.K ta tv f):=by intro Ao s U H D I h;refine plainObj_wpAny_Assign_Attribute (mB (hv Ao s U H _ I h) λu s1 ⟨y,H1,I1,ry,q⟩=>mB (ha Ao s1 U H1 _ I1 q) λov s2 zz=>?_) hs;obtain⟨x,H2,I2,rx,a,C,fs,ex,xa,c,n,l,q2⟩:=zz;subst ex;obtain rfl:ov=Value.ref a:=rx;exact xset I2 xa c n l ry λs3 H3 I3 x3 k3 d3=>⟨U,H3,I3,q2 H3 x3 k3 d3⟩
def Xm.parts {K:Frag}{C:AD}(m:Xm K C):∃(nm q:Str) (N:AD) (bs bm:AC) (Ax:Bool) (sn:AJ) (sub:AC) (ab:Bool) (col:Option Bool) (dd:Option AD) (k0 k1 k2 k3 k5:Option Value),
  K.lookup C=some (excClassObj nm q C N bs bm Ax sn sub ab col dd k0 k1 k2 k3 k5 "ValueError.__new__")/\g6 (.ref C::bm)=true:=by
 obtain⟨nm,qn,N,bs,bm,Ax,sn,sub,ab,col,dd,k0,k1,k2,k3,k5,lC⟩:=m.ob;refine⟨nm,qn,N,bs,bm,Ax,sn,sub,ab,col,dd,k0,k1,k2,k3,k5,lC,?_⟩;have hm:=m.c.mr;unfold clsIn at hm;rw[lC]at hm;exact hm
def Zjq (m:Xm X.K C) (hi:findIn X.K (.ref C) "__init__"=some (some (.ref fI))) (hfn:isFn X.K (.ref fI)=true)
  (F:fB X.prog X.w X.K X.mg X.base CX k fI fd ps sp) (hr:fX (k+1) X.A) (hb:gb X.K fd ps []) (hxp:rQ CX X E) (I:lO X Ao U H s) (r:fi vs us) (hz:vs.length<=1000)
  (h:∀e,H e=none->sp (.ref e::vs) (upd H e (xo e C none)) (λv H2=>v=.non/\Q (.ref e) H2) E):wpAny (model X.prog X.w) X.A (call (.ref C) us) (EP X Ao U Q) X.xe s:=by
 obtain⟨nm,qn,N,bs,bm,Ax,sn,sub,ab,col,dd,k0,k1,k2,k3,k5,lC,hx⟩:=m.parts;have I2:=lO.xmade (C:=C) (us:=us) I;have hq:=h (s.heap.objs.size+1) (I.hok.fresh (sw _));have hz':us.length<=sizeLine:=by rw[<-r.length];exact mO hz (by rw[sizeLine_eq];decide)
 have KX:=I.kIn;have hC:=KX _ _ lC;have r2:fi (V.ref (s.heap.objs.size+1)::vs) (Value.ref (s.heap.objs.size+1)::us):=.cons rfl r;have hl:((Value.ref (s.heap.objs.size+1)::us)++[]).length=ps.length:=by have e:=r2.length;rw[F.len _ _ _ _ hq]at e;rw[sM];exact e.symm
 have hb2:=hb { s with heap:=(s.heap.push (hG us)).push (gX C s.heap.objs.size) } (Value.ref (s.heap.objs.size+1)::us) I2.kIn hl;rw[sM]at hb2;obtain⟨hp,g,d,t,os⟩:=s;refine tE (Zp1 (K:=X.K) KX hx hC (wf KX hi) (λself=>bind_fn KX self (beq_iff_eq.mp hfn)) hz' ?_);refine codeAny_mono (F.run _ X.stack _ _ ⟨Value.ref (hp.objs.size+1)::us,[]⟩ (Value.ref (hp.objs.size+1)::us) _ _ E (hr.make C us []) (I2.env0.make C us []) hb2 r2 hq) λr s' hq'=>?_;cases r with
 | error e=>exact hxp Ao U _ _ e s' I2 hq'
 | ok fl=>
  cases fl with
  | ret u=>
   obtain⟨v,H',I3,rv,ev,q3⟩:=I2.after hq';subst ev;exact⟨rv,⟨V.ref (hp.objs.size+1),H',I3,rfl,q3⟩⟩
  | next=>exact False.elim hq'
  | brk=>exact False.elim hq'
  | cont=>exact False.elim hq'
def HL (m:Xm X.K C) (hi:findIn X.K (.ref C) "__init__"=some (some (.ref fI))) (hfn:isFn X.K (.ref fI)=true)
  (F:fB X.prog X.w X.K X.mg X.base CX k fI fd ps sp) (hr:fX (k+1) X.A) (hb:gb X.K fd ps []) (hxp:rQ CX X E) (hg:Gl X x) (hm:X.mg x=some (.ref C)) (ha:PA X (e::es) t)
  (hdb:(x == ("__debug__":Str))=false:=by decide) (he:starEach (e::es) X.env=(false,eval e X.env)::starEach es X.env:=by rfl) (hpl:(backTo pos (starEach es X.env)).any (·.1)=false:=by rfl):
  PE X (.Call (.Name x p) (e::es) [] pos) (EA C sp E t):=by
 intro Ao s U H Q I h;refine vn (u6 I hg hm ?_ hdb);refine w8 (h₀:=X.base) I.ok.mod.kin m.kp (mB (ha pos Ao s U H _ I h) λus s1 ⟨vs,H1,I1,r,hz,q⟩=>⟨I1.kIn,?_⟩) he hpl;exact Zjq m hi hfn F hr hb hxp I1 r hz q
structure gH (K:Frag)(C:AD)(f:Str)(v:Value):Prop where
 sp:specialIn K (.ref C) "__getattribute__"=some (some (.builtin "type.__getattribute__"))
 rd:readsIn K C (.type "type")=true
 fd:findCls K (.ref C) (.type "type") f=some (.val v)
 hn:handedIn v=true
def GE (K:Frag)(t:TA):TE:=λU H Q=>t U H λvs H1=>∃e C d f8,vs=.ref e::f8/\H1 e=some (xo e C d)/\Xm K C/\f8.length<=1000/\Q .non H1
def HF (hg:Gl X x) (hm:X.mg x=some (.ref L)) (cr:gH X.K L "__init__" (.builtin "ValueError.__init__")) (ha:PA X (e::es) t)
  (hdb:(x == ("__debug__":Str))=false:=by decide) (hst:starEach (e::es) X.env=(false,eval e X.env)::starEach es X.env:=by rfl) (hpl:(backTo pos (starEach es X.env)).any (·.1)=false:=by rfl)
  (ht:eval (.Call (.Attribute (.Name x np) "__init__" Au) (e::es) [] pos) X.env=(do
   let ov <-eval (.Name x np) X.env
   standAt Au.atName
   let (f,first) <-holding [ov] (getMethod ov "__init__" pl)
   callWith pos f first (backTo pos (starEach (e::es) X.env)) (backToKw pos (keywordEach [] X.env))):=by rfl):
  PE X (.Call (.Attribute (.Name x np) "__init__" Au) (e::es) [] pos) (GE X.K t):=by
 intro Ao s U H Q I h;refine zg (pl:=pl) (u6 I hg hm ?_ hdb) ht;refine method_cls I.kIn cr.sp (cls_value I.kIn cr.rd cr.fd cr.hn ?_);refine Ce (mB (ha pos Ao _ U H _ (I.tok _) h) λus s1 zz=>?_) hst hpl;obtain⟨vs,H1,I1,r1,ev,C,d,f8,evs,hx,m,hz,q⟩:=zz;subst evs;cases r1 with
 | cons ru rr=>
  cases ru;refine tE (ZiZ I1 m hx (by rw[<-rr.length];exact mO hz (by rw[sizeLine_eq];decide)) _ λs' I3=>?_);exact⟨.non,H1,I3,rfl,q⟩
end
section
def lO.turnedN {t':Nat}{h':Heap}{fp:List AD}(I:lO X Ao U H s)(k:∀b o,b∉fp->s.heap.get? b=some o->h'.get? b=some o)(hf:∀b∈fp,g0 X Ao H b):lO X Ao U H { s with heap:=h',toks:=t' }:=by
 have nit:∀b u,H b=some u->b∉fp:=λb u e z=>by rw[(hf b z).1]at e;cases e
 refine I.step (g':=s.gens) (d':=s.drawn) (ch:=fp) (λb hb=>?_) (λb o _ _ hc e _=>k b o hc e) (λb o _ _ hc e _=>⟨o.slots,k b o hc e⟩) (λ_ _ _ _ n=>n)
  (λb o hc e=>⟨o,k b o hc e⟩) (λ_ _ e=>e) (λ_ _ _ e=>e) (λb ps e=>⟨#[],by rw[e];simp⟩) (λm hm=>?_) (λb u e=>?_) I.bare
 .obtain⟨_,f1,_,f3,f4,f5⟩:=hf b hb;exact⟨f3,f1,f4,f5⟩
 .obtain⟨o,es,ep,ho,r⟩:=hm;exact⟨o,es,ep,k _ o (λz=>(hf _ z).2.1 rfl) ho,r⟩
 .refine(I.hok b u e).stay (λc v hc q=>k c v ?_ q) (λ_ q=>q) λ_ _ q=>q;rcases hc with z | z
  .rw[z];exact nit b u e
  .exact nit c _ z
def lO.track (I:lO X Ao U H s)(hf:g0 X Ao H p)(hs:X.s_0.heap.objs.size<=p)(ok:fJ X.prog X.w (upd H p o) s.heap p o):lO X Ao U (upd H p o) s:=by
 obtain⟨f0,f1,f2,f3,f4,f5⟩:=hf;have ne:∀b o',X.s_0.heap.get? b=some o'->b≠p:=λb o' e=>nM (ot (mL e) hs);have nh:∀b u,H b=some u->b≠p:=λb u e=>mM e f0;refine⟨I.ok,I.os,I.bare,⟨I.base.keep,I.base.slot,λb o' e n hb=>?_,I.base.there,λb xs e=>?_,λb o' u e=>?_,λb ps e=>?_⟩,I.loc,I.cell,?_,λx c e=>?_,λq hq=>?_,λb u e=>?_,I.len⟩
 .rw[lR (ne b o' e)];exact I.base.free b o' e n hb
 .have:=I.base.tups b xs e;rw[lR (nh b _ this)];exact this
 .have:=I.base.frzs b o' u e;rw[lR (nh b _ this)];exact this
 .obtain⟨m,q⟩:=I.base.tbls b ps e;exact⟨m,by rw[lR (nh b _ q)];exact q⟩
 .rw[lR (mH f1)];exact I.free
 .rw[lR (f4 x c e)];exact I.freeC x c e
 .obtain⟨e,n,r⟩:=I.pin q hq;refine⟨e,?_,r⟩;rw[lR (f5 q hq)];exact n
 .by_cases hb:b=p
  .subst hb;rw[mq]at e;cases e;exact ok
  .rw[lR hb]at e;refine(I.hok b u e).stay (λ_ _ _ q=>q) (λc q=>?_) λc xs q=>?_
   .rw[lR (nh c _ q)];exact q
   .rw[lR (nh c _ q)];exact q
end
def w4 (K:ma)(a:AD):It:=
 ⟨λi H=>∃xs x,m8 K H a xs/\xs[i]?=some x,λi H x H'=>∃p v,H p=none/\x=.ref p/\H'=upd H p (.tup [.int i,v])/\∀xs,m8 K H a xs->xs[i]?=some v,λi H=>∃xs,m8 K H a xs/\xs.length<=i⟩
def Zi9 {P:AG}{w:AI}{K:ma}{es:List Expr}{x1:Nat}{tp:Pos}(a e it:AD)(hne:e≠it):iC P w K (.Tuple es x1 tp) (w4 K a) [e,it] e (λi h=>(∃old,IsEnum h e it (i:Nat) old)/\h.IsListIter it a i) where
 mem:=by simp
 obj:=λi h st b hb=>by
  obtain⟨⟨old,s1⟩,s2⟩:=st;rcases m6.mp hb with z | z
  .subst z;exact⟨_,s1,λv z=>by have z':Data.fields _=Data.cell v:=z;cases z'⟩
  .have z:b=it:=by simpa using z
   subst z;obtain⟨o,e1,c,d⟩:=s2;exact⟨o,e1,λv z=>by rw[d]at z;cases z⟩
 keep:=λi h h' st k=>by obtain⟨⟨old,s1⟩,s2⟩:=st;exact⟨⟨old,k e {} _ s1⟩,s2.at λo q=>k it {} o q⟩
 item:=by
  intro X hP hw hK hc i Ao s U H E I hf st hg;subst hP hw hK;obtain⟨⟨old,s1⟩,s2⟩:=st;obtain⟨xs,x,hq,hx⟩:=hg;obtain⟨its,rv,p,hz⟩:=I.list hq;obtain⟨u,hu,ru⟩:=rv.get hx;refine wpAny_pyNext_enum_item s1 s2 p.isList (x:=u) (~~~hu) hne λh' o1 l1 t1 z1 k1=>?_;refine⟨_,rfl,?_⟩;refine wpAny_letOwnedTupleGo_enum (s:={ s with heap:=h',toks:=s.toks+1 }) o1 λh2 o2 sb=>?_;have hfr:=I.fresh;have hsz:s.heap.objs.size≠e:=λz=>by obtain⟨o,q,_⟩:∃o,s.heap.get? e=some o/\True:=⟨_,s1,trivial⟩;exact IG (mL q) (by rw[<-z];exact o4 _)
  have k2:∀b o,b∉[e,it]->s.heap.get? b=some o->h2.get? b=some o:=λb o hb q=>by have hbe:b≠e:=λz=>hb (by simp[z]);have hbi:b≠it:=λz=>hb (by simp[z]);exact(sb.2 b hbe).trans (k1 b o hbe hbi q)
  have I1:lO X Ao U H { s with heap:=h2,toks:=s.toks+1 }:=I.turnedN (t':=s.toks+1) k2 hf;have t2:h2.get? s.heap.objs.size=some { cls:=.type "tuple",data:=.seq #[.int i s.toks,u] }:=(sb.2 _ hsz).trans t1;have fp:=I.fpOk (H':=H) (mC _) hfr;refine⟨.ref s.heap.objs.size,upd H s.heap.objs.size (.tup [.int i,x]),I1.track fp I.sz ?_,rfl,⟨_,x,hfr,rfl,rfl,λys hy=>by rw[I.list_inj hy hq];exact hx⟩,⟨⟨u,?_⟩,?_⟩,λb hb=>?_⟩
  .exact⟨by show 2<=sizeLine;rw[sizeLine_eq];decide,[.int i s.toks,u],.cons ⟨_,rfl⟩ (.cons ru .nil),⟨_,t2,rfl,_,rfl⟩⟩
  .have:(((i+1:Nat):Int))=(i:Int)+1:=by lia
   rw[this];exact o2
  .obtain⟨o,q,r⟩:=l1;exact⟨o,(sb.2 it (mH hne)).trans q,r⟩
  .have hb':=hf b hb;have:b≠s.heap.objs.size:=λz=>by
    rcases m6.mp hb with q | q
    .exact hsz (z.symm.trans q)
    .have q:b=it:=by simpa using q
     obtain⟨o,q2,_⟩:=s2;exact IG (mL q2) (by rw[<-q,z];exact o4 _)
   rw[lR this];exact hb'.1
 done:=by intro X hP hw hK hc i Ao s U H E I hf st hg;subst hP hw hK;obtain⟨⟨old,s1⟩,s2⟩:=st;obtain⟨xs,hq,hx⟩:=hg;obtain⟨its,rv,p,hz⟩:=I.list hq;have hl:=rv.length;refine wpAny_pyNext_enum_end (I.ok.hd hc) s1 s2 p.isList (by simp;lia) λh' eb=>⟨rfl,I.turnedN (t':=s.toks) (λb o hb q=>eb b o (λz=>hb (by simp[z])) q) hf⟩
 self:=λ_ _ _ _ _ st h=>by obtain⟨⟨old,s1⟩,_⟩:=st;exact wpAny_pyIter_enum s1 h
section
def DZ (K:ma)(ta:TA):TI:=λU H R=>ta U H λvs H1=>∃a,vs=[.ref a]/\(∃xs,m8 K H1 a xs)/\R (w4 K a) H1
def Zm5 (hg:Gl X "enumerate") (hm:X.mg "enumerate"=none) (ha:PA X [l] ta) (hs:starEach [l] X.env=[(false,eval l X.env)]:=by rfl):PI X (.Tuple es x1 tp) (.Call (.Name "enumerate" p) [l] [] pos) (DZ X.K ta):=by
 intro Ao s U H R I h;refine Call_ (vV I hg hm boot_enumerate (zw (mB (ha pos Ao s U H _ I h) λus s1 zz=>?_) hs rfl));obtain⟨vs,H1,I1,r1,a,ev,⟨xs,hq⟩,q⟩:=zz;subst ev;obtain⟨u,rfl,ru⟩:=r1.one;cases ru;obtain⟨its,rv,p,hz⟩:=I1.list hq;refine call_enumerate_list p.isList λh' e1 l1 z1 k1=>?_;have I2:lO X Ao U H1 { s1 with heap:=h' }:=I1.kept (t':=s1.toks) k1;refine wpAny_pyIter_enum (s:={ s1 with heap:=h' }) e1 ?_;have h0:(((0:Nat):Int))=0:=rfl;refine⟨s1.heap.objs.size+1,[s1.heap.objs.size+1,s1.heap.objs.size],_,_,H1,rfl,I2,Zi9 a _ _ (Nat.succ_ne_self _),⟨⟨_,e1⟩,l1⟩,λb hb=>?_,q⟩;have hb':s1.heap.objs.size<=b:=by
  rcases m6.mp hb with z | z
  .rw[z];exact sw _
  .have z:b=s1.heap.objs.size:=by simpa using z
   rw[z];exact mC _
 exact I1.fpOk hb' (I1.hok.fresh hb')
end
def Zly {K:ma}{a:AD}{xs:IJ}{g:TG}{tb:TS}{D:gz}{U:St}{H:Hp}(Pv:Nat->St->Hp->Prop)(h0:Pv 0 U H)(hl:∀i U H,i<=xs.length->Pv i U H->m8 K H a xs)
  (hs:∀i x p U H,xs[i]?=some x->Pv i U H->H p=none->g (.ref p) U (upd H p (.tup [.int i,x])) λU2 H2=>tb { D with nx:=Pv (i+1),ct:=Pv (i+1),bk:=D.nx } U2 H2) (hd:∀U H,Pv xs.length U H->D.nx U H):
  ∃W:Nat->Nat->St->Hp->Prop,(∃m,W 0 m U H)/\∀i m U H,W i m U H ->
   ((w4 K a).stop i H/\D.nx U H)\/((w4 K a).go i H/\∃N:St->Hp->Prop,(∀U' H',N U' H'->∃m',m'<m/\W (i+1) m' U' H')/\∀x H',(w4 K a).yld i H x H'->g x U H' λU2 H2=>tb { D with nx:=N,ct:=N,bk:=D.nx } U2 H2):=by
 refine⟨λi m U H=>m=xs.length-i/\i<=xs.length/\Pv i U H,⟨xs.length,{},nO _,h0⟩,?_⟩;rintro i m U H ⟨rfl,hi,p⟩;have q:=hl i U H hi p;by_cases A0:i<xs.length
 .refine .inr ⟨⟨xs,xs[i],q,by simp[A0]⟩,Pv (i+1),λU' H' p'=>⟨xs.length-(i+1),∅,rfl,A0,p'⟩,λx H' y=>?_⟩;obtain⟨pt,v,hn,rfl,rfl,hv⟩:=y;exact hs i v pt U H (hv xs q) p hn
 .have e:i=xs.length:=by lia
  subst e;exact .inl ⟨⟨xs,q,mC _⟩,hd U H p⟩
section
def q_I:rI C g (.int i) (.int j) H Q=(C i j/\Q (g i j) H):=rfl
def q_I0:ur g (.int i) (.int j) H Q=Q (g i j) H:=rfl
def q_U:rU g (.int i) H Q=Q (g i) H:=rfl
def q_T:rT C g (tx a) (tx b) H Q=(C a b/\Q (g a b) H):=rfl
def lG:De (some (some v)) p=p v:=rfl
def jz {v:V}{p:V->Prop}:(∃u,v=u/\p u)=p v:=
 propext ⟨λ⟨_,e,h⟩=>by cases e;exact h,λh=>⟨v,rfl,h⟩⟩
end
open PySem.W (Frag findIn specialIn typeIn mroIn clsIn subIn kitOne kitCls)
def Hz (sc sco:Scope):Bool:=decide (sc.kind=.function)&&sc.names.all λy=>decide (y.2≠NameKind.cell)&&(decide (y.2≠NameKind.local) || decide (sc.names.lookup y.1=some NameKind.local)) &&
 (decide (y.2≠NameKind.free) || (decide (sco.names.lookup y.1=some NameKind.cell) || decide (sco.names.lookup y.1=some NameKind.free)))
def pY (h:Hz sc X.env.scope=true):gm X sc:=by
 unfold Hz at h;rw[nY,qE]at h;obtain⟨h1,h2⟩:=h;refine⟨IC h1,λy hy=>?_,λy hy e=>?_,λy hy e=>?_⟩
 .have:=h2 y hy;simp only[nY,Bool.or_eq_true,II]at this;exact this.1.1
 .have:=h2 y hy;simp only[nY,Bool.or_eq_true,II]at this;rcases this.1.2 with z | z
  .exact IG e z
  .exact z
 .have:=h2 y hy;simp only[nY,Bool.or_eq_true,II]at this;rcases this.2 with z | z | z
  .exact IG e z
  .exact .inl z
  .exact .inr z
section
variable {K:Frag}{H:Hp}{C D:AD}
structure gT (K:Frag)(C:AD)(mro:AC):Prop where
 cd:∃cd,clsIn K C=some cd/\cd.mro=mro
 ty:typeIn K (.ref C)=some (.type "type")
 ne:mro.isEmpty=false
def vF (c:gT K C m1)(d:gT K D m2)(h:m1.contains (.ref D)=b)(hh:C=D->b=true):kitOne K (.ref C) (.ref D)=some b:=by
 obtain⟨cd,e1,e2⟩:=c.cd;obtain⟨cd',e3,e4⟩:=d.cd;unfold kitOne;split
 .rename_i z
  have z':Value.ref C=Value.ref D:=by simpa using z
  cases z';rw[hh rfl]
 .unfold PySem.W.kitCls;dsimp only;rw[e3,d.ty];simp only[Option.isSome_some,sS,beq_self_eq_true,if_true];unfold PySem.W.subIn mroIn;dsimp only;rw[e1,sj,e2,c.ne,h];rfl
def Bl (K:Frag)(C:AD)(n:Nat)(fs:IJ->List (Str×V)):Sp:=λvs H Q _=>∃e r,vs=.ref e::r/\r.length=n/\H e=some (xo e C none) /\
 ∀H',rN H' e C (fs r)->(∀b o,H b=some o->b≠e->H' b=some o)->Q .non H'
def oR (h:H a=none):e8 H (upd H a o):=λb u hb=>by rw[lR (mM hb h)];exact hb
end
def Mk0 (C:AD)(H:Hp)(Q:VK):Prop:=∀e,H e=none->Q (.ref e) (upd H e (xo e C none))
def xt (sp:Sp)(E:XK)(C:AD)(vs:IJ)(H:Hp)(Q:VK):Prop:=∀e,H e=none->sp (.ref e::vs) (upd H e (xo e C none)) (λv H2=>v=.non/\Q (.ref e) H2) E
def fY (xs:IJ)(H:Hp)(Q:VK):Prop:=∀p,H p=none->Q (.ref p) (upd H p (.lst xs))
def gB (xs:IJ)(H:Hp)(Q:VK):Prop:=∀p,H p=none->Q (.ref p) (upd H p (.tup xs))
section
variable {K:Frag}{C:AD}{sp:Sp}{E:XK}{t:TA}{U:St}{H:Hp}{Q:VK}{vs:IJ}
def ZqI:Zmy K C t U H Q=t U H (λvs H1=>vs.length<=1000/\Mk0 C H1 Q):=rfl
def ZqH:EA C sp E t U H Q=t U H (λvs H1=>vs.length<=1000/\xt sp E C vs H1 Q):=rfl
def ZqJ:tLst t U H Q=t U H (λxs H1=>xs.length<=sizeLine/\fY xs H1 Q):=rfl
def ZqG:tTup t U H Q=t U H (λxs H1=>xs.length<=sizeLine/\gB xs H1 Q):=rfl
def D8:rCat (.ref l) (.ref b) H Q=∃xs zs,H l=some (.lst xs)/\H b=some (.lst zs)/\xs.length+zs.length<=sizeLine/\fY (xs++zs) H Q:=
 propext ⟨λ⟨_,_,xs,zs,e1,e2,h⟩=>by cases e1;cases e2;exact⟨xs,zs,h⟩,λ⟨xs,zs,h⟩=>⟨l,b,xs,zs,rfl,rfl,h⟩⟩
def xt.of (hn:vs.length=n)(h:∀e H',e8 H H'->H e=none->rN H' e C (fs vs)->Q (.ref e) H'):xt (Bl K C n fs) E C vs H Q:=
 λe he=>⟨e,vs,rfl,hn,mq,λH' x k=>⟨rfl,h e H' (λb o hb=>k b o (by rw[lR (mM hb he)];exact hb) (mM hb he)) he x⟩⟩
def fY.of (h:∀p H',e8 H H'->H p=none->H' p=some (.lst vs)->Q (.ref p) H'):fY vs H Q:=λp hp=>h p _ (oR hp) hp mq
def gB.of (h:∀p H',e8 H H'->H p=none->H' p=some (.tup vs)->Q (.ref p) H'):gB vs H Q:=λp hp=>h p _ (oR hp) hp mq
def fY.at (h:∀p,H p=none->Q (.ref p) (upd H p (.lst vs))):fY vs H Q:=h
def gB.at (h:∀p,H p=none->Q (.ref p) (upd H p (.tup vs))):gB vs H Q:=h
def BV:bootBuiltins "str"=some (.type "str"):=by decide +kernel
def v0:bootBuiltins "list"=some (.type "list"):=by decide +kernel
def GT:bootBuiltins "tuple"=some (.type "tuple"):=by decide +kernel
def ZnS:bootBuiltins "dict"=some (.type "dict"):=by decide +kernel
def BF:bootBuiltins "set"=some (.type "set"):=by decide +kernel
def nR:bootBuiltins "len"=some (.builtin "len"):=by decide +kernel
def uY:bootBuiltins "isinstance"=some (.builtin "isinstance"):=by decide +kernel
def ZpX:bootBuiltins "all"=some (.builtin "all"):=by decide +kernel
def ZpW:bootBuiltins "any"=some (.builtin "any"):=by decide +kernel
def ZpV:bootBuiltins "max"=some (.builtin "max"):=by decide +kernel
def Co:bootBuiltins "sorted"=some (.builtin "sorted"):=by decide +kernel
def ZpU:bootBuiltins "sum"=some (.builtin "sum"):=by decide +kernel
end
def HQ (K:Frag)(H:Hp)(d:DT)(x:V):Prop:=fC K H d x/\oj d d=true/\qr d<=60
def m8.mk {K:Frag}{H:Hp}{a:AD}{xs:IJ}(h:H a=some (.lst xs)):m8 K H a xs:=.inl (.inl h)
def oA.mk {K:Frag}{H:Hp}{a:AD}{xs:IJ}(h:H a=some (.tup xs)):oA K H a xs:=.inl (.inl h)
def CZ:¬(some (xo e C none)=some (xo e C (some d))):=by
 intro z;have z1:xo e C none=xo e C (some d):=Option.some.inj z;unfold xo at z1;injection z1 with z2;have hget:(⟨Array.replicate (e+1) (gX C 0),{known:=0}⟩:Heap).get? e=some (gX C 0):=by
  unfold Heap.get?;have:(Array.replicate (e+1) (gX C 0))[e]?=some (gX C 0):=by simp
  dsimp only;rw[this]
 have q:=congrFun z2 ⟨Array.replicate (e+1) (gX C 0),{known:=0}⟩;have l:∃(o:Obj) (t:AD),(⟨Array.replicate (e+1) (gX C 0),{known:=0}⟩:Heap).get? e=some o/\o.cls=.ref C/\o.dict=none/\o.data=.fields #[.ref t,.none,.none,.none,.bool false,.none]:=⟨_,0,hget,rfl,rfl,rfl⟩;have r:=q.mp l;obtain⟨o,t,h1,_,h3,_⟩:=r;rw[hget]at h1;cases h1;cases h3
def Zn0 (z:some (xo e C (some d))=some (xo e C (some d'))):d=d':=by
 have z1:xo e C (some d)=xo e C (some d'):=Option.some.inj z;unfold xo at z1;injection z1 with z2;generalize eo:({ cls:=.ref C,dict:=some d,data:=.fields #[.ref 0,.none,.none,.none,.bool false,.none] }:Obj)=ob at *;have hget:(⟨Array.replicate (e+1) ob,{known:=0}⟩:Heap).get? e=some ob:=by
  unfold Heap.get?;have:(Array.replicate (e+1) ob)[e]?=some ob:=by simp
  dsimp only;rw[this,<-eo]
 have q:=congrFun z2 ⟨Array.replicate (e+1) ob,{known:=0}⟩;have r:=q.mp ⟨_,0,hget,by rw[<-eo],by rw[<-eo],by rw[<-eo]⟩;obtain⟨o,t,h1,_,h3,_⟩:=r;rw[hget]at h1;cases h1;rw[<-eo]at h3;exact Option.some.inj h3
section
variable {X:Cx}{K:Frag}
def oU (hK:X.K=K)(hu:X.A.units+64<cLine):oh X (compareOp .Eq) (gV K false):=by subst hK;exact ZoP hu
def BB (hK:X.K=K)(hu:X.A.units+64<cLine):oh X (compareOp .NotEq) (gV K true):=by subst hK;exact ZoN hu
def u8 (hK:X.K=K):wa X (rIxL K):=by subst hK;exact Znv
def sk (hK:X.K=K):wa X (rIxT K):=by subst hK;exact Zpo
def ZkQ (hK:X.K=K):A3 X (rSlL K):=by subst hK;exact ZmH
def Ziv (hK:X.K=K):oh X (compareOp .In) (z5 K false):=by subst hK;exact ZjF
def Ds (hK:X.K=K):oh X (compareOp .NotIn) (z5 K true):=by subst hK;exact ZfZ
def nU (hK:X.K=K):pR X (.builtin "len") (λxs H Q=>∃x n,xs=[x]/\iZ K x H n/\Q (.int n) H):=by subst hK;exact ZlN
def FG (hK:X.K=K):pR X (.type "list") (λxs H Q=>∃p ys,xs=[.ref p]/\(m8 K H p ys\/oA K H p ys)/\∀l,H l=none->Q (.ref l) (upd H l (.lst ys))):=by subst hK;exact Zgz
def El (hK:X.K=K):pR X (.type "tuple") (λxs H Q=>∃p ys,xs=[.ref p]/\((m8 K H p ys/\∀l,H l=none->Q (.ref l) (upd H l (.tup ys)))\/(oA K H p ys/\Q (.ref p) H))):=by subst hK;exact ZfE
def o6 (hK:X.K=K)(he:PE X e ta)(hb:attributeBase e f X.env (eval e X.env)=eval e X.env):PE X (.Attribute e f pos) (kY K ta f):=by subst hK;exact ZoI he hb
def pB (hK:X.K=K)(hl:PE X l tl):PI X tg l (DD K tl):=by subst hK;exact Zm4 hl
def Zm3 (hK:X.K=K)(hl:PE X l tl):PI X tg l (jG K tl):=by subst hK;exact ZoC hl
end
def cxK {CX:sC}{P:AG}{w:AI}{K:ma}{mg:AB}{base:Heap}{N:AJ}{qual:Str}{scope:Scope}{f:AD}{cd:Value}{A:AH}{outer:List Env}{s:AE}{H:Hp}{E:XK}:
  (gE CX P w K mg base N qual scope f cd A outer s H E).K=K:=rfl
def bxK:(bx X sc N fp s_0 H pn).K=X.K:=rfl
end L2
namespace L2
open PySem PySem.W
def DG (K:Frag)(x:Str)(s:Stmt)(f:AD)(e:AF):Prop:=nsIn K mainGlobals x=some (some (.ref f))/\qh K x x s f e
def MG (K:Frag)(x q:Str)(s:Stmt)(f:AD)(e:AF):Prop:=qh K x q s f e/\isFn K (.ref f)=true
structure XG (K:Frag)(x:Str)(C:AD)(L:AC):Prop where
 a:nsIn K mainGlobals x=some (some (.ref C))
 m:Xm K C
 i:Xi K C
 k:gT K C L
def xg_mk {K:Frag} {x:Str} {C:AD} {L:AC} {cd:ClassData} {nm qn:Str} {N:AD} {bs bm:AC} {Ax:Bool} {sn:AJ} {sub:AC} {ab:Bool} {col:Option Bool} {dd:Option AD} {k0 k1 k2 k3 k5:Option Value} (a:nsIn K mainGlobals x=some (some (.ref C))) (q:clsIn K C=some cd) (r:cd.mro=L) (ty:typeIn K (.ref C)=some (.type "type"))
  (ga:findIn K (.ref C) "__getattribute__"=some (some (.builtin "BaseException.__getattribute__"))) (gr:findIn K (.ref C) "__getattr__"=some none) (sa:findIn K (.ref C) "__setattr__"=some (some (.builtin "object.__setattr__"))) (hd:hasDictIn K C=true)
  (ob:K.lookup C=some (excClassObj nm qn C N bs bm Ax sn sub ab col dd k0 k1 k2 k3 k5 "ValueError.__new__")) (kp:keepIn K (.ref C)=true) (ha:findIn K (.ref C) "__class__"=some (some (.builtin "object.__class__")))
  (hn:specialIn K (.builtin "object.__class__") "__get__"=some (some (.builtin "getset_descriptor.__get__"))) (tk:takesIn K (.builtin "object.__class__")=some true) (x1:g6 L=true) (x2:L.isEmpty=false):XG K x C L:=
 have c:Xc K C:=⟨ga,gr,sa,hd,by rw[q];show g6 cd.mro=true;rw[r];exact x1⟩
 ⟨a,⟨c,⟨_,_,_,_,_,_,_,_,_,_,_,_,_,_,_,_,ob⟩,kp⟩,⟨c,ha,hn,tk⟩,⟨⟨_,q,r⟩,ty,x2⟩⟩
def dg_mk {K:Frag}{x:Str}{st:Stmt}{f:AD}{oc:Value}{od an:Option AD}{osl:Array (Option Value)}{kV doc pm Ap ct:Value}(a:nsIn K mainGlobals x=some (some (.ref f)))(l:K.lookup f=some ⟨oc,od,.func (fnOf x x (ue st) (rP st) (pT st) .none kV doc pm an Ap ct),osl⟩)
  (c:codeIn K Ap x=true) (k:keepIn K (.ref f)=true):DG K x st f (fnOf x x (ue st) (rP st) (pT st) .none kV doc pm an Ap ct):=⟨a,Il l c k⟩
def mg_mk {K:Frag}{x q:Str}{st:Stmt}{f:AD}{oc:Value}{od an:Option AD}{osl:Array (Option Value)}{kV doc pm Ap ct:Value}(l:K.lookup f=some ⟨oc,od,.func (fnOf x q (ue st) (rP st) (pT st) .none kV doc pm an Ap ct),osl⟩)
  (c:codeIn K Ap q=true) (k:keepIn K (.ref f)=true) (n:isFn K (.ref f)=true):MG K x q st f (fnOf x q (ue st) (rP st) (pT st) .none kV doc pm an Ap ct):=⟨Il l c k,n⟩
structure DF (K:Frag)(mg:AB)(x:Str)(st:Stmt)(f:AD)(d:AF)(ps:AJ):Prop where
 m:mg x=some (.ref f)
 u:qh K x x st f d
 b:gb K d ps []
structure MF (K:Frag)(x q:Str)(st:Stmt)(f:AD)(d:AF)(ps:AJ):Prop where
 u:qh K x q st f d
 b:gb K d ps []
section
def nE (X:K.In h)(G:h.Ns mainGlobals mg)(D:DG K x st f d)(b:∀(kV doc pm:Value) (an:Option AD) (Ap ct:Value) (us:AC),us.length=ps.length->bindArgs (fnOf x x (ue st) (rP st) (pT st) .none kV doc pm an Ap ct) ⟨us,[]⟩=pure (ps.zip us)):DF K mg x st f d ps:=⟨mg_of X G D.1,D.2,D.2.binds b⟩
def qg (D:MG K x q st f d)(b:∀(kV doc pm:Value) (an:Option AD) (Ap ct:Value) (us:AC),us.length=ps.length->bindArgs (fnOf x q (ue st) (rP st) (pT st) .none kV doc pm an Ap ct) ⟨us,[]⟩=pure (ps.zip us)):MF K x q st f d ps:=⟨D.1,D.1.binds b⟩
end
section
def mG (F:fB X.prog X.w X.K X.mg X.base CX k f fd ps sp)(hr:fX k X.A)(hg:Gl X x)(D:DF X.K X.mg x st f fd ps)(hx:rQ CX X E)
  (ha:PA X (e::es) t) (hdb:(x == ("__debug__":Str))=false:=by decide) (he:starEach (e::es) X.env=(false,eval e X.env)::starEach es X.env:=by rfl) (hpl:(backTo pos (starEach es X.env)).any (·.1)=false:=by rfl):
  PE X (.Call (.Name x p) (e::es) [] pos) (zp sp [] E t):=Zm7 F hr hg D.m D.u.kp D.b .nil hx ha hdb he hpl
def hM (hr:fX n A)(h:k<=n:=by decide):fX k A:=hr.mono h
def mK (hN:X.N.Nodup)(he:PE X e te)(hi:X.N[i]?=some x:=by rfl)(hx:vY X.env.scope x:=by exact Or.inl rfl)(hs:swapsWith e (some (.Name x pos')) pos.line X.env=pure false:=by rfl)(hf:X.fn x=true\/X.env.scope.names.lookup x=some .local:=by first | exact .inl rfl | exact .inr rfl | assumption):PS X (.Assign [.Name x pos'] e pos) (jh te (qp i)):=yA hN hi hx he hs hf
end
end L2
namespace L2
open PySem PySem.Spec PyProof.Rows
open PySem.W (Frag)
def fA (J:It)(g:TG)(tb:TS)(D:gz)(U:St)(H:Hp):Prop:=∃W:Nat->Nat->St->Hp->Prop,(∃m,W 0 m U H)/\∀i m U H,W i m U H ->
 (J.stop i H/\D.nx U H)\/(J.go i H/\∃N:St->Hp->Prop,(∀U' H',N U' H'->∃m',m'<m/\W (i+1) m' U' H')/\∀x H',J.yld i H x H'->g x U H' λU2 H2=>tb { D with nx:=N,ct:=N,bk:=D.nx } U2 H2)
def ZqK:tFor wi g tb D U H=wi U H λJ H1=>fA J g tb D U H1:=rfl
def fk (J:It)(τ0:St)(g:TG)(tt:TT)(te:TE)(H1:Hp)(Q:VK):Prop:=∀acc,H1 acc=none->∃W:Nat->Nat->St->Hp->Prop,(∃m,W 0 m τ0 (upd H1 acc (.lst []))) /\
 ∀i m τ H2,W i m τ H2->(J.stop i H2/\Q (.ref acc) H2)\/(J.go i H2/\∃Nx:St->Hp->Prop,(∀τ' H',Nx τ' H'->∃m',m'<m/\W (i+1) m' τ' H') /\
  ∀x H3,J.yld i H2 x H3->g x τ H3 λτ2 H4=>tt τ2 H4 λb H5=>if b=true then te τ2 H5 λy H6=>∃ys,H6 acc=some (.lst ys)/\ys.length<sizeLine/\Nx τ2 (upd H6 acc (.lst (ys++[y]))) else Nx τ2 H5)
def Zoz:B0 ix wi g tt te U H Q=wi U H λJ H1=>fk J (pick ix U) g tt te H1 Q:=rfl
section
variable {g:TG}{tb:TS}{D:gz}{U:St}{H:Hp}{K:Frag}{a:AD}{xs:IJ}
def fA.list (Pv:Nat->St->Hp->Prop)(h0:Pv 0 U H)(hl:∀i U H,i<=xs.length->Pv i U H->m8 K H a xs)
  (hs:∀i x U H,xs[i]?=some x->Pv i U H->g x U H λU2 H2=>tb { D with nx:=Pv (i+1),ct:=Pv (i+1),bk:=D.nx } U2 H2) (hd:∀U H,Pv xs.length U H->D.nx U H):fA (t7 K a) g tb D U H:=
 Zlx Pv h0 hl hs hd
def fA.enum (Pv:Nat->St->Hp->Prop)(h0:Pv 0 U H)(hl:∀i U H,i<=xs.length->Pv i U H->m8 K H a xs)
  (hs:∀i x p U H,xs[i]?=some x->Pv i U H->H p=none->g (.ref p) U (upd H p (.tup [.int i,x])) λU2 H2=>tb { D with nx:=Pv (i+1),ct:=Pv (i+1),bk:=D.nx } U2 H2) (hd:∀U H,Pv xs.length U H->D.nx U H):
  fA (w4 K a) g tb D U H:=Zly Pv h0 hl hs hd
def fA.range {lo:Int}{n:Nat}(Pv:Nat->St->Hp->Prop)(h0:Pv 0 U H)
  (hs:∀i U H,i<n->Pv i U H->g (.int (lo+i)) U H λU2 H2=>tb { D with nx:=Pv (i+1),ct:=Pv (i+1),bk:=D.nx } U2 H2) (hd:∀U H,Pv n U H->D.nx U H):
  fA (ug lo n) g tb D U H:=Zkg Pv h0 hs hd
def fA.text (Pv:Nat->St->Hp->Prop)(h0:Pv 0 U H)
  (hs:∀i c U H,l[i]?=some c->Pv i U H->g (tx [c]) U H λU2 H2=>tb { D with nx:=Pv (i+1),ct:=Pv (i+1),bk:=D.nx } U2 H2) (hd:∀U H,Pv l.length U H->D.nx U H):
  fA (vi l) g tb D U H:=Zlw Pv h0 hs hd
end
section
def fk.gen (v:Nat->V)(b:Nat->Bool)(f:Nat->V)(hz:n<=1000)(hgo:∀i H',i<n->e8 H H'->J.go i H')(hst:∀H',e8 H H'->J.stop n H')(hy:∀i H' x H3,i<n->e8 H H'->J.yld i H' x H3->H3=H'/\x=v i)
  (ht:∀i H' Q',i<n->e8 H H'->(∀H'',e8 H' H''->Q' (b i) H'')->tt (τ0.set 0 (some (v i))) H' Q')
  (he:∀i H' Q',i<n->b i=true->e8 H H'->(∀H'',e8 H' H''->Q' (f i) H'')->te (τ0.set 0 (some (v i))) H' Q')
  (hQ:∀p H',e8 H H'->H p=none->H' p=some (.lst (((List.range n).filter b).map f))->Q (.ref p) H'):fk J τ0 (qp 0) tt te H Q:=by
 intro acc ha;refine⟨λi m τ H2=>i<=n/\m=n-i/\(∀w:Option V,τ.set 0 w=τ0.set 0 w)/\e8 H H2/\H2 acc=some (.lst (((List.range i).filter b).map f)),⟨n,nO _,rfl,λ_=>rfl,oR ha,mq⟩,?_⟩;rintro i m τ H2 ⟨hi,rfl,hτ,hs,Ar⟩;by_cases A0:i<n
 .refine .inr ⟨hgo i H2 A0 hs,λτ' H'=>(∀w:Option V,τ'.set 0 w=τ0.set 0 w)/\e8 H H'/\H' acc=some (.lst (((List.range (i+1)).filter b).map f)),λτ' H' q=>⟨n-(i+1),∅,A0,rfl,q⟩,λx H3 y=>?_⟩;obtain⟨rfl,rfl⟩:=hy i H2 x H3 A0 hs y;show tt (τ.set 0 (some (v i))) _ _;rw[hτ];have hτ':∀w:Option V,(τ0.set 0 (some (v i))).set 0 w=τ0.set 0 w:=λw=>by rw[List.set_set]
  refine ht i _ _ A0 hs λH4 s4=>?_;cases hb:b i with
  | false=>
   rw[lT mQ];refine⟨hτ',hs.trans s4,?_⟩;rw[s4 _ _ Ar,t8,tO];simp[hb]
  | true=>
   rw[lU rfl];refine he i _ _ A0 hb (hs.trans s4) λH5 s5=>?_;refine⟨_,s5 _ _ (s4 _ _ Ar),?_,hτ',?_,?_⟩
   .rw[lZ];have:=pW b (List.range i);rw[rW]at this;exact DB ∅
   .intro c o hc;have:c≠acc:=mM hc ha;rw[lR this];exact s5 _ _ (s4 _ _ (hs _ _ hc))
   .rw[mq,t8,tO];simp[hb]
 .have e:i=n:=by lia
  subst e;exact .inl ⟨hst H2 hs,hQ acc H2 hs ha Ar⟩
def fk.range {lo:Int}{n:Nat}(b:Nat->Bool)(f:Nat->V)(hz:n<=1000)
  (ht:∀(i:Nat) H' Q',i<n->e8 H H'->(∀H'',e8 H' H''->Q' (b i) H'')->tt (τ0.set 0 (some (.int (lo+i)))) H' Q')
  (he:∀(i:Nat) H' Q',i<n->b i=true->e8 H H'->(∀H'',e8 H' H''->Q' (f i) H'')->te (τ0.set 0 (some (.int (lo+i)))) H' Q')
  (hQ:∀p H',e8 H H'->H p=none->H' p=some (.lst (((List.range n).filter b).map f))->Q (.ref p) H'):fk (ug lo n) τ0 (qp 0) tt te H Q:=
 .gen (λi=>.int (lo+i)) b f hz (λi _ h _=>h) (λ_ _=>mC _) (λi H' x H3 _ _ y=>y) ht he hQ
def gt:((List.range n).filter λ_=>true).map f=(List.range n).map f:=by rw[List.filter_eq_self.mpr (λ_ _=>rfl)]
def fk.rangeA {lo:Int}{n:Nat}(f:Nat->V)(hz:n<=1000)
  (he:∀(i:Nat) H' Q',i<n->e8 H H'->(∀H'',e8 H' H''->Q' (f i) H'')->te (τ0.set 0 (some (.int (lo+i)))) H' Q')
  (hQ:∀p H',e8 H H'->H p=none->H' p=some (.lst ((List.range n).map f))->Q (.ref p) H'):fk (ug lo n) τ0 (qp 0) jl te H Q:=
 .range (λ_=>true) f hz (λi H' Q' _ _ q=>q H' (e8.refl _)) (λi H' Q' hi _=>he i H' Q' hi) λp H' s n e=>hQ p H' s n (by rw[e,gt])
def fk.text (b:Nat->Bool)(f:Nat->V)(hz:l.length<=1000)
  (ht:∀i H' Q' (h:i<l.length),e8 H H'->(∀H'',e8 H' H''->Q' (b i) H'')->tt (τ0.set 0 (some (tx [l.getD i 0]))) H' Q')
  (he:∀i H' Q' (h:i<l.length),b i=true->e8 H H'->(∀H'',e8 H' H''->Q' (f i) H'')->te (τ0.set 0 (some (tx [l.getD i 0]))) H' Q')
  (hQ:∀p H',e8 H H'->H p=none->H' p=some (.lst (((List.range l.length).filter b).map f))->Q (.ref p) H'):fk (vi l) τ0 (qp 0) tt te H Q:=
 .gen (λi=>tx [l.getD i 0]) b f hz (λi _ h _=>h) (λ_ _=>mC _) (λi H' x H3 _ _ y=>by obtain⟨e,c,hc,rfl⟩:=y;refine⟨e,?_⟩;rw[nN,hc];rfl) ht he hQ
end
theorem Cs:∀ {vs:IJ},vs.all pA=true->deqs (vs.map DT.f) (vs.map DT.f)=true
 | [],_=>by unfold deqs;rfl
 | v::vs,h=>by rw[List.all_cons,nY]at h;rw[oP];unfold deqs;rw[Cs h.2];unfold oj;rw[Ho h.1];rfl
def ownL {K:Frag}{H:Hp}{a:AD}{vs:IJ}(h:m8 K H a vs)(hf:vs.all pA=true):HQ K H (.l (vs.map DT.f)) (.ref a):=⟨ja h hf,by unfold oj;exact Cs hf,by unfold qr;rw[Db];decide⟩
def ownT {K:Frag}{H:Hp}{a:AD}{vs:IJ}(h:oA K H a vs)(hf:vs.all pA=true):HQ K H (.t (vs.map DT.f)) (.ref a):=⟨jm h hf,by unfold oj;exact Cs hf,by unfold qr;rw[Db];decide⟩
def Zp2 {t:SetTable}{n:Nat}:(t.orStandIn n).led=t.led/\((t.orStandIn n).plain=true->t.plain=true):=by
 unfold SetTable.orStandIn;split
 .exact⟨rfl,id⟩
 .exact⟨rfl,λh=>by cases h⟩
def Zn3:(layNew t es h x).2.1.led=t.led/\((layNew t es h x).2.1.plain=true->t.plain=true):=by
 unfold layNew;split
 .rename_i slot wd _
  exact Zp2 (t:=(t.put slot).1)
 .exact⟨rfl,λh=>by cases h⟩
def Zmx {mask finger moves:Nat}{led plain:Bool}{hs:Array Int}{t':SetTable}{order:Array Nat}(e:SetTable.laid mask finger moves led plain hs=some (t',order)):t'.led=led/\t'.plain=plain:=by
 unfold SetTable.laid at e;cases hq:SetTable.layClean mask hs with
 | none=>rw[hq]at e;cases e
 | some ow=>
  rw[hq]at e;have e':=Option.some.inj e;obtain⟨z,_⟩:=Prod.mk.inj e';subst z;exact⟨rfl,rfl⟩
def ZkK:(relayAll t es n).2.1.led=t.led/\((relayAll t es n).2.1.plain=true->t.plain=true):=by
 unfold relayAll;split
 .rename_i t' order q
  obtain⟨h1,h2⟩:=Zmx q;dsimp only;split
  .exact⟨h1,λh=>by rw[<-h2];exact h⟩
  .exact⟨rfl,λh=>by cases h⟩
 .exact⟨rfl,λh=>by cases h⟩
def f9 (P:AG)(w:AI)(h:Heap)(a:AD)(ls:lX)(led:Bool):Prop:=
 ∃(o:Obj) (es:Array (Int×Value)) (ep:Nat) (t:SetTable) (ms:lX),h.get? a=some o/\o.ExactSet/\o.data=.set es ep t/\ElemsOf (nW P w) es.toList/\t.fits es.size=true /\
  t.led=led/\(t.plain=true->es.size=0)/\ms.Perm ls/\fi (ms.map tx) (es.toList.map (·.2))/\es.size<scanBound
def f9.keep (x:f9 P w h a ls led)(k:∀o,h.get? a=some o->h'.get? a=some o):f9 P w h' a ls led:=by obtain⟨o,es,ep,t,ms,h1,r⟩:=x;exact⟨o,es,ep,t,ms,k o h1,r⟩
def f9.typ {P:AG}{w:AI}{s:AE}{a:AD}{ls:lX}{led:Bool}(x:f9 P w s.heap a ls led):s.TypeIs (.ref a) "set":=by obtain⟨o,es,ep,t,ms,h1,h2,_⟩:=x;exact⟨o,h1,h2.1⟩
noncomputable def gA (ls:lX)(l:lN):lX:=if l∈ls then ls else ls++[l]
def Zrn (r:ft v u)(hv:∃m,v=tx m):ux (Sum.inr (⟨l.toArray⟩:Str):mh) u=decide (v=tx l):=by
 obtain⟨m,rfl⟩:=hv;obtain⟨t,rfl⟩:=r;rw[vj];simp only[ux,Value.isStrOf];by_cases h:m=l
 .subst h;simp
 .have:¬(⟨m.toArray⟩:Str)=⟨l.toArray⟩:=λe=>h (xH.mp (IF V.str e));rw[IB h];simp[this]
theorem Iq {l:lN}:∀ {ms:lX} {es:List (Int×Value)},fi (ms.map tx) (es.map (·.2))->((∃e∈es,ux (Sum.inr (⟨l.toArray⟩:Str):mh) e.2=true)↔l∈ms)
 | [],[],_=>by simp
 | [],_::_,r=>by cases r
 | _::_,[],r=>by cases r
 | m::ms,e::es,r=>by
  cases r with
  | cons r1 r2=>
   have ih:=Iq (l:=l) r2;have q:=Zrn (l:=l) r1 ⟨m,rfl⟩;rw[vj]at q;constructor
   .rintro⟨x,hx,hk⟩;rcases m6.mp hx with z | z
    .subst z;rw[q]at hk;exact m6.mpr (.inl (IC hk).symm)
    .exact m6.mpr (.inr (ih.mp ⟨x,z,hk⟩))
   .intro h;rcases m6.mp h with z | z
    .exact⟨e,o7,by rw[q];exact IA z.symm⟩
    .obtain⟨x,hx,hk⟩:=ih.mpr z;exact⟨x,oV _ hx,hk⟩
def CU (p:us'.Perm us):∀ {ms:lX},fi (ms.map tx) us->∃ms':lX,ms'.Perm ms/\fi (ms'.map tx) us':=by
 induction p with
 | nil=>intro ms r;exact⟨ms,.refl _,r⟩
 | cons x _ ih=>
  intro ms r;cases ms with
  | nil=>cases r
  | cons m ms=>
   cases r with
   | cons r1 r2=>
    obtain⟨ms',p',r'⟩:=ih r2;exact⟨m::ms',p'.cons _,.cons r1 r'⟩
 | swap x y l=>
  intro ms r
  match ms,r with
  | m1::m2::ms,.cons r1 (.cons r2 r3)=>exact⟨m2::m1::ms,.swap _ _ _,.cons r2 (.cons r1 r3)⟩
 | trans _ _ ih1 ih2=>
  intro ms r;obtain⟨m1,p1,r1⟩:=ih2 r;obtain⟨m2,p2,r2⟩:=ih1 r1;exact⟨m2,p2.trans p1,r2⟩
section
def Ew {g:Bool->Sem Unit}(hg:∀(b:Bool) (s_1:AE) (Q':Unit->AE->Prop),Q' () s_1->wpAny (model prog w) A (g b) Q' E s_1){a:AD}{o:Obj}{es:Array (Int×Value)}{ep:Nat}{t:SetTable}
  (ho:s.heap.get? a=some o) (hd:o.data=.set es ep t) {e1:Array (Int×Value)} {t2:SetTable} (hb:e1.size<scanBound) (hf:t2.fits e1.size=true) {wd:Bool} {R:Option Bool->AE->Prop}
  (h:∀h' e2 t3 ep',Heap.SameBut a s.heap h'->h'.get? a=some { o with data:=.set e2 ep' t3 }->e2.toList.Perm e1.toList->t3.fits e2.size=true->t3.led=t2.led->(t3.plain=true->t2.plain=true)->R (some true) { s with heap:=h' }):
  wpAny (model prog w) A (do
   storeSet a e1 t2
   if (!wd&&t2.tooFull)=true then do
    g (relayAll t2 e1 (SetTable.grown e1.size)).2.2;storeSet a (relayAll t2 e1 (SetTable.grown e1.size)).1 (relayAll t2 e1 (SetTable.grown e1.size)).2.1;pure (some true)
   else pure (some true)) R E s:=by
 have put:∀ {h:Heap} {ob:Obj} {xs ys:Array (Int×Value)} {n:Nat} {t t':SetTable},h.get? a=some ob->ob.data=.set xs n t->(h.update a (Obj.putSet ys t')).get? a=some { ob with data:=.set ys (n+1) t' }:=λ{h ob xs ys n t t'} h1 h2=>by
  have q:=vk (Obj.putSet ys t') h1 (by rw[putSet_of ys t' h2];rfl)
  rwa [putSet_of ys t' h2]at q
 have hs1:=pZ s.heap a (Obj.putSet e1 t2);have g1:=put (ys:=e1) (t':=t2) ho hd;refine lP (wpAny_storeSet_of ho hd ?_ (fits_of_scanBound hb));split
 .have p:=relayAll_perm t2 e1 (SetTable.grown e1.size);have f:=relayAll_fits t2 e1 (SetTable.grown e1.size);have tm:=ZkK (t:=t2) (es:=e1) (n:=SetTable.grown e1.size);have z:(relayAll t2 e1 (SetTable.grown e1.size)).1.size=e1.size:=by rw[<-oB,p.length_eq,oB]
  refine lP (hg _ _ _ (lP (wpAny_storeSet_of g1 rfl (mf ?_) (fits_of_scanBound (by rw[z];exact hb)))));exact h _ _ _ _ (hs1.trans (pZ _ a _)) (put (ob:={ o with data:=.set e1 (ep+1) t2 }) g1 rfl) p f tm.1 tm.2
 .exact mf (h _ _ _ _ hs1 g1 (.refl _) hf rfl id)
def ZmK (hS:f9 prog w s.heap a ls led)(hn:ls.length+1<scanBound)
  (h:∀h' b,Heap.SameBut a s.heap h'->f9 prog w h' a (gA ls l) led->Q b { s with heap:=h' }):
  wpAny (model prog w) A (setAddHashed a (.str ⟨l.toArray⟩ tk) (iG w (Sum.inr ⟨l.toArray⟩))) Q E s:=by
 obtain⟨o,es,ep,t,ms,ho,hex,hd,hel,hf,hled,hpl,hp,hv,hb⟩:=hS;have hkey:(nW prog w).is (Sum.inr (⟨l.toArray⟩:Str)) (.str ⟨l.toArray⟩ tk)=true:=by exact Im prog w _ _
 have hsc:(Value.str ⟨l.toArray⟩ tk).scannable=true:=rfl;have Aq:es.size=ls.length:=by have q:=hv.length;rw[lZ,lZ]at q;rw[<-oB,<-q,hp.length_eq]
 have mem:=Iq (l:=l) hv;have hl:l∈ms↔l∈ls:=hp.mem_iff;unfold setAddHashed setAddHashedIn;refine pU (lP (wU ho hd hf ?_));dsimp only;rw[byScan_of hsc hb hel,lU rfl];unfold setAddByScan;refine lP (lP (rG (lP (wpAny_setScan_of (knd:=nW prog w) (k:=Sum.inr (⟨l.toArray⟩:Str)) hkey ho hd hf hel ?_))));cases hr:List.findIdx? (λe=>(nW prog w).is (Sum.inr (⟨l.toArray⟩:Str)) e.2) es.toList with
 | some j=>
  dsimp only;obtain⟨hj,hpj,_⟩:=List.findIdx?_eq_some_iff_getElem.mp hr;have hin:l∈ls:=hl.mp (mem.mp ⟨es.toList[j],rq hj,hpj⟩);refine mf (mf ?_);have q:=h s.heap false (Heap.SameBut.refl a s.heap) (by unfold gA;rw[lU hin];exact⟨o,es,ep,t,ms,ho,hex,hd,hel,hf,hled,hpl,hp,hv,hb⟩)
  exact q
 | none=>
  dsimp only;have hnin:l∉ls:=λz=>by obtain⟨e,he,hk⟩:=mem.mpr (hl.mpr z);have q:=List.findIdx?_eq_none_iff.mp hr e he;rw[show (nW prog w).is (Sum.inr (⟨l.toArray⟩:Str)) e.2=true from hk]at q;cases q
  have lp:=layNew_perm t es (iG w (Sum.inr ⟨l.toArray⟩)) (.str ⟨l.toArray⟩ tk);have lf:=layNew_fits t es (iG w (Sum.inr ⟨l.toArray⟩)) (.str ⟨l.toArray⟩ tk);have lt:=Zn3 (t:=t) (es:=es) (h:=iG w (Sum.inr ⟨l.toArray⟩)) (x:=.str ⟨l.toArray⟩ tk);show wpAny _ A (match layNew t es (iG w (Sum.inr ⟨l.toArray⟩)) (.str ⟨l.toArray⟩ tk) with | (es,t,wasDummy,gave)=>_) _ _ _;generalize hL:layNew t es (iG w (Sum.inr ⟨l.toArray⟩)) (.str ⟨l.toArray⟩ tk)=L at lp lf lt ⊢;obtain⟨e1,t1,wd,gave⟩:=L;dsimp only at lp lf lt ⊢;rw[tF]at lp;have sz1:e1.size=ls.length+1:=by rw[<-oB,lp.length_eq,mP,oB,Aq];rfl
  have gw:∀(b:Bool) (s_1:AE) (Q':Unit->AE->Prop),Q' () s_1->wpAny (model prog w) A (match b with | true=>rule "set.scan.the-table-gave-way" | false=>pure ()) Q' E s_1:=
   λb s_1 Q' hq=>by cases b<;>first | exact mf hq | exact rG hq
  refine lP (gw _ _ _ ?_);have fin:∀(t2:SetTable),t2.fits e1.size=true->t2.led=t1.led->t2.plain=false->∀h' e2 t3 ep',Heap.SameBut a s.heap h'->h'.get? a=some { o with data:=.set e2 ep' t3 }->e2.toList.Perm e1.toList->t3.fits e2.size=true->t3.led=t2.led->(t3.plain=true->t2.plain=true)->Q true { s with heap:=h' }:=by
   intro t2 f2 l2 p2 h' e2 t3 ep' sb hg pm f3 l3 p3;refine h h' true sb ?_;have pall:=pm.trans lp;obtain⟨ms',pm',hv'⟩:=CU (us:=(es.toList++[(iG w (Sum.inr ⟨l.toArray⟩),Value.str ⟨l.toArray⟩ tk)]).map (·.2)) (us':=e2.toList.map (·.2)) (pall.map _) (ms:=ms++[l]) (by rw[qj,qj];exact hv.append (.cons ⟨tk,rfl⟩ .nil))
   unfold gA;rw[lT hnin];refine⟨_,e2,ep',t3,ms',hg,hex,rfl,((hel.push (knd:=nW prog w) hkey hsc).perm pall),f3,l3.trans (l2.trans (lt.1.trans hled)),λz=>by rw[p2]at p3;exact IG (p3 z) mQ,pm'.trans (hp.append_right [l]),hv',?_⟩;rw[<-oB,pm.length_eq,oB,sz1];exact hn
  split
  .refine lP ?_;rw[hashByValue_scannable 8 hsc];refine mf ?_;refine Ew gw ho hd (by rw[sz1];exact hn) ?_ λh' e2 t3 ep' q1 q2 q3 q4 q5 q6=>?_
   .exact SetTable.fits_plain_off lf
   .exact mf (fin _ (SetTable.fits_plain_off lf) rfl rfl h' e2 t3 ep' q1 q2 q3 q4 q5 q6)
  .rename_i hnp
   have hnp':t1.plain=false:=by simpa using hnp
   refine lP (mf ?_);rw[lU rfl];refine Ew gw ho hd (by rw[sz1];exact hn) lf λh' e2 t3 ep' q1 q2 q3 q4 q5 q6=>mf (fin _ lf rfl hnp' h' e2 t3 ep' q1 q2 q3 q4 q5 q6)
end
def dd (val:Nat->lN)(i:Nat):lX:=((List.range i).map val).foldl gA []
def BQ:dd val (i+1)=gA (dd val i) (val i):=by unfold dd;rw[t8,qj,List.foldl_append];rfl
def ZlR:(gA ls l).length<=ls.length+1:=by
 unfold gA;split
 .lia
 .simp
theorem Hu {val:Nat->lN}:∀i,(dd val i).length<=i
 | 0=>mC _
 | i+1=>by
  rw[BQ];have h1:=Hu (val:=val) i;have h2:=ZlR (ls:=dd val i) (l:=val i)
  lia
theorem yq {val:Nat->lN}:∀i,(dd val i).Nodup
 | 0=>by simp[dd]
 | i+1=>by
  rw[BQ];unfold gA;split
  .exact yq i
  .rename_i h
   rw[vI];refine⟨yq i,{},?_⟩;intro a ha b hb e;have:b=val i:=by simpa using hb
   subst e this;exact h ha
section
variable {prog:AG}{w:AI}{A:AH}{R:Result->AE->Prop}{I:AD}{fp wr:List AD}{G:Array GenState->Array GenState->Prop}{n:Nat}{Pi:Nat->Value->Prop}{St:Nat->AE->Prop}
def ZkR (W:WalksS prog w A.in1 I fp wr G n Pi St)(S:AD)(hSf:S∉fp)(val:Nat->lN)(hval:∀i v,Pi i v->∃t,v=.str ⟨(val i).toArray⟩ t)(hb:n+1<scanBound){led:Bool}:
  ∀(k i:Nat) (s:AE),n-i=k->i<=n->St i s->f9 prog w s.heap S (dd val i) led->(∀s',Moved (S::wr) G s s'->f9 prog w s'.heap S (dd val n) led->R (.ok (.ret .none)) s') ->
   codeAny (model prog w) A (.builtin "set.update.loop" ⟨[.ref S,.ref I],[]⟩) R s:=by
 have nw:S∉wr:=λh=>hSf (W.sub _ h);have up:∀b∈wr,b∈S::wr:=λb hb=>oV _ hb;intro k;induction k with
 | zero=>
  intro i s hk hi st hS hR;have e:i=n:=by lia
  subst e;refine codeAny_builtin F.entry_set_update_loop ?_;rw[sP F.plain_set_update_loop _];show wpAny _ A.in1 (pyNext (.ref I) >>= λr=>_) _ _ s;refine lP (W.done s _ _ st λs' hm=>?_);exact mf (hR s' (hm.mono up) (hS.keep λo e=>hm.heap S o nw e))
 | succ k ih=>
  intro i s hk hi st hS hR;have A0:i<n:=by lia
  refine codeAny_builtin F.entry_set_update_loop ?_;rw[sP F.plain_set_update_loop _];show wpAny _ A.in1 (pyNext (.ref I) >>= λr=>_) _ _ s;refine lP (W.item i s _ _ A0 st λv s1 hP st1 hm=>?_);obtain⟨tk,rfl⟩:=hval i v hP;have hS1:f9 prog w s1.heap S (dd val i) led:=hS.keep λo e=>hm.heap S o nw e;show wpAny _ A.in1 (holding [Value.str ⟨(val i).toArray⟩ tk] (setAdd S (.str ⟨(val i).toArray⟩ tk)) >>= λ_=>_) _ _ s1;refine lP (pU ?_);unfold setAdd;refine pU (lP (wpAny_pyHash_str ?_));refine ZmK (s:={ s1 with toks:=s1.toks+1 }) (l:=val i) hS1 (by have:=Hu (val:=val) i;lia) λh' b sb hS2=>?_;rw[<-BQ]at hS2;refine mf ⟨plainId_quiet F.plain_set_update_loop _,ih (i+1) _ ∅ A0 (W.frame _ s1 _ _ st1 (sw _) λb hb o e=>(sb.2 b λz=>hSf (z▸hb)).trans e) hS2 λs2 hm2 hS3=>?_⟩;exact hR s2 (Moved.trans W.gtrans ((hm.mono up).then_heap (sw _) λb o hb e=>(sb.2 b λz=>hb (z▸o7)).trans e) hm2) hS3
end
def yn {i:Nat}{u:Value}:∀ {vs:IJ} {us:AC} ,fi vs us->us[i]?=some u->∃v,vs[i]?=some v/\ft v u:=by
 induction i with
 | zero=>
  intro vs us r e;cases r with
  | nil=>cases e
  | cons r1 _=>cases e;exact⟨_,rfl,r1⟩
 | succ i ih=>
  intro vs us r e;cases r with
  | nil=>cases e
  | cons _ r2=>exact ih r2 e
structure iK (prog:AG)(w:AI)(x:Value)(s:AE)(T:String)(n:Nat)(val:Nat->lN):Prop where
 ty:∀s1:AE,(∀b o,s.heap.get? b=some o->s1.heap.get? b=some o)->s1.TypeIs x T
 go:∀(A:AH) (s1:AE) (Q:mY) (E:mY),A.handled=none->(∀b o,s.heap.get? b=some o->s1.heap.get? b=some o) ->
  (∀(h2:Heap) (I:AD) (fp wr:List AD) (Pi:Nat->Value->Prop) (St:Nat->Heap->Prop),(∀A':AH,A'.handled=none->Walks prog w A' I fp wr n Pi St)->St 0 h2 ->
   (∀b∈fp,b<s.heap.objs.size\/s1.heap.objs.size<=b)->(∀b∈wr,s1.heap.objs.size<=b)->(∀b o,s1.heap.get? b=some o->h2.get? b=some o)->(∀i v,Pi i v->∃t,v=.str ⟨(val i).toArray⟩ t)->Q (.ref I) { s1 with heap:=h2 }) ->
  wpAny (model prog w) A (pyIter x) Q E s1
def ZgK {prog:AG}{w:AI}{s:AE}{l:AD}{us:AC}{ls:lX}(hl:s.heap.IsList l us.toArray)(r:fi (ls.map tx) us):iK prog w (.ref l) s "list" ls.length (λi=>ls.getD i []) where
 ty:=λs1 k=>by obtain⟨o,ho,hc,_⟩:=hl;exact⟨o,k _ _ ho,hc⟩
 go:=λA s1 Q E hh k h=>by
  obtain⟨o,ho,hc,hr⟩:=id hl;have hl1:s1.heap.IsList l us.toArray:=⟨o,k _ _ ho,hc,hr⟩;have A0:=mL ho;have hlt1:=mL (k _ _ ho);have Aq:us.toArray.size=ls.length:=by rw[nP,<-r.length,lZ]
  refine vS hl1 ?_;have W:∀A':AH,A'.handled=none->Walks prog w A' s1.heap.objs.size [s1.heap.objs.size,l] [s1.heap.objs.size] ls.length (λi v=>us.toArray[i]?=some v) (λi h=>h.IsListIter s1.heap.objs.size l i/\h.IsList l us.toArray):=λA' hA=>by
   have q:=Walks.list (prog:=prog) (w:=w) hA s1.heap.objs.size l (nM hlt1) us.toArray
   rwa [Aq]at q
  refine h _ _ _ _ _ _ W ⟨⟨_,nV _ rfl,rfl,rfl⟩,hl1.push _⟩ (λb hb=>?_) (λb hb=>?_) (λb o e=>mR _ e) (λi v e=>?_)
  .rcases m6.mp hb with z | z
   .exact .inr (uO z.symm)
   .have z:b=l:=by simpa using z
    rw[z];exact .inl A0
  .have z:b=s1.heap.objs.size:=by simpa using hb
   exact uO z.symm
  .have e':us[i]?=some v:=by simpa using e
   obtain⟨v',hv',rv⟩:=yn r e';rw[om]at hv';cases q:ls[i]? with
   | none=>rw[q]at hv';cases hv'
   | some m=>
    rw[q]at hv';cases hv';obtain⟨t,rfl⟩:=rv;exact⟨t,by rw[nN,q];rfl⟩
def ZgJ {prog:AG}{w:AI}{s:AE}{l:lN}{t:Tok}:iK prog w (.str ⟨l.toArray⟩ t) s "str" l.length (λi=>[l.getD i 0]) where
 ty:=λs1 _=>typeIs_str s1 _ _
 go:=λA s1 Q E hh k h=>by
  have Aq:(⟨l.toArray⟩:Str).cps.size=l.length:=by show l.toArray.size=_;simp
  have item:∀(i:Nat) (v:Value),(∃c u,(⟨l.toArray⟩:Str).cps[i]?=some c/\v=.str ⟨#[c]⟩ u)->∃t,v=.str ⟨[l.getD i 0].toArray⟩ t:=by
   rintro i v ⟨c,u,e,rfl⟩;have e':l[i]?=some c:=by simpa using e
   exact⟨u,by rw[nN,e'];rfl⟩
  refine wpAny_pyIter_str λo St W st=>?_;rw[Aq]at W;refine h _ _ _ _ _ _ W st (λb hb=>.inr ?_) (λb hb=>?_) (λb o e=>mR _ e) (λi v ⟨c,u,e,e2⟩=>item i v ⟨c,u,e,e2⟩)
  .have z:b=s1.heap.objs.size:=by simpa using hb
   exact uO z.symm
  .have z:b=s1.heap.objs.size:=by simpa using hb
   exact uO z.symm
section
abbrev vp (led:Bool):Obj:={ cls:=.type "set",dict:=none,data:=.set #[] 0 (.fresh 0 0 led) }
def Zi6 (ho:h.get? a=some (vp led)):f9 prog w h a [] led:=
 ⟨_,#[],0,_,[],ho,⟨rfl,rfl,rfl⟩,rfl,λe he=>by simp at he,rfl,rfl,λ_=>rfl,.refl _,.nil,by show 0<4096;decide⟩
def o3 (w:AI):Bool:=w.params.followText "set-order"
def ZmI (a:Value){Q₁:mY}(h:Q₁ (.ref s.heap.objs.size) { s with heap:=s.heap.push (vp (!o3 w)) }):
  codeAny (model prog w) A (.call (.builtin "set.__new__") ⟨[.type "set",a],[]⟩) (wants Q₁ E) s:=by
 refine codeAny_of_tree ?_;show wpAny _ A.in1 (checkBuiltinCall "set.__new__" ⟨[.type "set",a],[]⟩ >>= λ_=>again (.builtin "set.__new__" ⟨[.type "set",a],[]⟩)) _ _ s;refine lP (wpAny_of_eq (F.newCall_set_1 a) (mf ⟨plainId_quiet F.plain_set_new _,codeAny_builtin F.entry_set_new ?_⟩));rw[sP F.plain_set_new _];unfold Builtin.«set.__new__» Builtin.Frozenset.newClass;have hsub:=sub_set_self;obtain⟨hp,g,d,tk,os⟩:=s;dsimp only
 wp_walk
 refine wF (mf ?_);dsimp only;simp only[newObj];exact lP (wpAny_alloc (mf (mf h)))
set_option maxHeartbeats 3200000 in
def Ea (hh:A.handled=none) (W:iK prog w x s T n val) (t1:isSubtype (.type T) (.type "set")=pure false) (t2:isSubtype (.type T) (.type "frozenset")=pure false)
  (t3:(Value.type T == Value.type "dict")=false) (hb:n+1<scanBound)
  (h:∀(h':Heap) (tk:Nat),f9 prog w h' s.heap.objs.size (dd val n) (!o3 w)->(∀b o,s.heap.get? b=some o->h'.get? b=some o)->s.toks<=tk->Q (.ref s.heap.objs.size) { s with heap:=h',toks:=tk }):
  wpAny (model prog w) A (call (.type "set") [x]) Q E s:=by
 obtain⟨c,tl,hmro⟩:=F.called_set.mro;have hmade:=F.called_set.made;have hsub:=F.called_set.sub;refine tE (codeAny_of_tree ?_);show wpAny _ _ (callAny (.type "set") _) _ _ _;refine mf ⟨Code.quiet_builtin _ nofun,codeAny_builtin F.entry_type_call ?_⟩;rw[Around.under_plain (weight_type_call_type "set" [x] []) rfl];have h1:=F.called_set.notType;have h2:=F.called_set.canCreate;have hct:=F.typeCall_set_1 x;repeat (any_goals (first | assumption | wp_step))
 refine codeAny_mono (ZmI x (E:=E) (Q₁:=λob s_1=>ob=.ref s.heap.objs.size/\s_1={ s with heap:=s.heap.push (vp (!o3 w)) }) ⟨rfl,rfl⟩) λr s_1 hr=>?_;cases r with
 | error e=>exact hr
 | ok fl=>
  cases fl with
  | ret ob=>
   obtain⟨rfl,rfl⟩:=hr;have hS:(s.heap.push (vp (!o3 w))).get? s.heap.objs.size=some (vp (!o3 w)):=nV _ rfl;have hT:Shared.TypeIs { s with heap:=s.heap.push (vp (!o3 w)) } (.ref s.heap.objs.size) "set":=⟨_,hS,rfl⟩;have hli:=F.called_set.init.lookup;have hbi:=F.called_set.init.bind (.ref s.heap.objs.size);have keep1:∀b o,s.heap.get? b=some o->(s.heap.push (vp (!o3 w))).get? b=some o:=λb o e=>mR _ e;repeat (any_goals (first | assumption | wp_step))
   refine codeAny_mono (codeAny_call_builtin (R:=wants (λr s_2=>r=.none/\∃h' tk,s_2={ s with heap:=h',toks:=tk }/\f9 prog w h' s.heap.objs.size (dd val n) (!o3 w)/\(∀b o,s.heap.get? b=some o->h'.get? b=some o)/\s.toks<=tk) E)
    F.called_set.init.plain F.entry_set_init (check_set_init_1 hT ?_)) λr9 s_2 hr9=>?_
   .have hTx:=W.ty { s with heap:=s.heap.push (vp (!o3 w)) } keep1;unfold Builtin.«set.__init__» noKeywords Builtin.Frozenset.updateFrom;generalize hPI:pyIter=PI
    wp_walk
    subst hPI;refine W.go _ _ _ _ (by simp[hh]) keep1 λh2 I fp wr Pi St Wk st f1 f2 k2 hval=>?_;refine lP (wpAny_runValue ?_);have hSf:s.heap.objs.size∉fp:=λz=>by
     rcases f1 _ z with q | q
     .exact o4 _ q
     .rw[rZ]at q;exact IG q (Nat.not_succ_le_self _)
    refine ZkR ((Wk A.in1.in1.in1 (by simp[hh])).toS) s.heap.objs.size hSf val hval hb (n-0) 0 _ ∅ (nO _) st (Zi6 (k2 _ _ hS)) λs' hm hS'=>?_;obtain⟨h',g',d',tk',os'⟩:=s';have eg:g'=s.gens:=hm.gens;have ed:d'=s.drawn:=hm.drawn;have eo:os'=s.os:=hm.os;have et:s.toks<=tk':=hm.toks;subst eg ed eo;refine mf ?_;refine mf ⟨rfl,h',tk',rfl,hS',λb o e=>?_,et⟩;have A0:=mL e;refine hm.heap b o (λz=>?_) (k2 b o (keep1 b o e));rcases m6.mp z with q | q
    .rw[q]at A0;exact o4 _ A0
    .have q2:=f2 b q;rw[rZ]at q2;exact IG (ot A0 (Nat.le_of_succ_le q2)) (o4 _)
   .cases r9 with
    | error e=>exact hr9
    | ok fl9=>
     cases fl9 with
     | ret r=>
      obtain⟨rfl,h',tk,rfl,hS',hk',htk⟩:=hr9;repeat (any_goals (first | assumption | wp_step))
      exact h _ _ hS' hk' htk
     | _=>exact hr9.elim
  | _=>exact hr.elim
end
theorem DA {α:Type}:∀(xs:List α) (i:Nat) (h:i<xs.length),(xs[i]::xs.eraseIdx i).Perm xs
 | x::xs,0,_=>.refl _
 | x::xs,i+1,h=>by
  have hi:i<xs.length:=by simpa using h
  have ih:=DA xs i hi;show (xs[i]::x::xs.eraseIdx i).Perm (x::xs);exact(List.Perm.swap _ _ _).trans (ih.cons x)
section
def iM (hn:n≠0)(h:∀i d,i<n->Q i { s with drawn:=d }):wpAny M A (choose src n) Q E s:=λΓ p hΓ=>by unfold choose;rw[Sem.wp_choose];exact⟨hn,h _ _ (Nat.mod_lt _ (Nat.pos_of_ne_zero hn))⟩
theorem Ib {α:Type}:∀(n:Nat) (xs:List α) (s:AE) (Q:List α->AE->Prop),xs.length=n->(∀ys d,ys.Perm xs->Q ys { s with drawn:=d })->wpAny M A (drawOrder n xs) Q E s
 | 0,xs,s,Q,hl,h=>by
  have e:xs=[]:=yd hl;subst e;unfold drawOrder;exact mf (h [] s.drawn (.refl _))
 | n+1,[],s,Q,hl,h=>by cases hl
 | n+1,x::xs,s,Q,hl,h=>by
  unfold drawOrder;refine lP (iM {} λi d hi=>?_);have e:(x::xs)[i]?=some (x::xs)[i]:=mT hi;rw[e];dsimp only;refine lP (Ib n ((x::xs).eraseIdx i) _ _ ?_ λys d' p=>mf ?_)
  .rw[List.length_eraseIdx_of_lt hi,hl];rfl
  .refine h _ d' ((List.Perm.cons _ p).trans ?_);exact DA _ _ hi
end
def Zex:entryFor table "set.__iter__"=some Builtin.«frozenset.__iter__»:=entryFor_alias (id':="frozenset.__iter__") (by kernel_rfl) rfl nofun (by kernel_rfl)
def vN:Slot "set_iterator" "__next__" "set_iterator.__next__":=
 .of (owner:="set_iterator") (n:="__next__") (by rw[typeLookup_type,builtinLookup_eq_fast];kernel_rfl) nofun nofun nofun
  (by first | exact .inl nofun | exact .inr nofun) (by rw[isSubtype_type];kernel_rfl)
def GF:entryFor table "set_iterator.__next__"=some Builtin.«set_iterator.__next__»:=entryFor_of_fast (by kernel_rfl)
def EI (a:Value):argsOk "set_iterator.__next__" ⟨[a],[]⟩:=by unfold argsOk;kernel_rfl
section
def ia (h:Heap)(I S:AD)(first:Value)(i n ep:Nat):Prop:=∃o,h.get? I=some o/\o.cls=.type "set_iterator"/\o.data=.fields #[first,.int i 0,.ref S,.int n 0,.int ep 0]
def ZnI {t:SetTable}{n:Nat}(hf:t.fits n=true):(t.place.size != n || decide (t.fill>t.mask))=false:=by simp only[SetTable.fits,nY,IH,II]at hf;simp[hf.1,Nat.not_lt.mpr hf.2]
def Zls (ho:s.heap.get? S=some o)(hex:o.ExactSet)(hd:o.data=.set es ep t)(hf:t.fits es.size=true)(hz:es.size<=sizeLine)
  (h0:(o3 w=true\/(t.plain=true\/es.size<=1))->Q (.ref s.heap.objs.size) { s with heap:=s.heap.push { cls:=.type "set_iterator",data:=.fields #[.int 0 0,.int 0 0,.ref S,.int es.size 0,.int ep 0] } })
  (h1:∀(ps:lN) (d:Drawn),ps.Perm (List.range es.size)->Q (.ref (s.heap.objs.size+1)) { s with drawn:=d,heap:=(Heap.push s.heap { cls:=.type "tuple",data:=.seq (ps.map (λi=>Value.int ((i:Nat):Int) 0)).toArray }).push { cls:=.type "set_iterator",data:=.fields #[.ref s.heap.objs.size,.int 0 0,.ref S,.int es.size 0,.int ep 0] } }):wpAny (model prog w) A (pyIter (.ref S)) Q E s:=by
 have hT:s.TypeIs (.ref S) "set":=⟨o,ho,hex.1⟩;refine wpAny_pyIter_slot hT F.slot_set_iter (yW F.slot_set_iter hT Zex ?_ (F.args_set_iter_1 _));unfold Builtin.«frozenset.__iter__» Builtin.Frozenset.sizeOf setDrawn setsByText
 wp_walk
 rw[hd];dsimp only;rw[ZnI hf];rw[lT mQ];refine mf (mf (mf ?_));refine lP (lP (wU ho hd hf ?_));dsimp only;refine lP (lP (wF (mf (mf ?_))));show wpAny _ _ (if (!o3 w&&(!t.plain&&decide (es.size>1)))=true then _ else _) _ _ _;split
 .refine lP (Ib es.size (List.range es.size) _ _ {} λps d p=>?_);refine lP ?_;simp only[newTuple];refine uD ?_ (by show (List.map _ ps).toArray.size<=sizeLine;rw[nP,lZ,p.length_eq,rW];exact hz);refine lP (wpAny_setEpoch_of (mR _ ho) hd hf (lP (uD (mf ⟨_,rfl,"set_iterator",_,⟨_,nV _ rfl,rfl⟩,vN.lookup,?_⟩))));have q:=h1 ps d p;rw[rZ];exact q
 .rename_i hb
  refine lP (mf ?_);refine lP (wpAny_setEpoch_of ho hd hf (lP (uD (mf ⟨_,rfl,"set_iterator",_,⟨_,nV _ rfl,rfl⟩,vN.lookup,h0 ?_⟩))));cases h:o3 w with
  | true=>exact .inl rfl
  | false=>
   refine .inr ?_;cases h':t.plain with
   | true=>exact .inl rfl
   | false=>
    rw[h,h']at hb;simp at hb;exact .inr hb
end
section
variable {prog:AG}{w:AI}{A:AH}{E:mY}{s:AE}{I S:AD}{o:Obj}{es:Array (Int×Value)}{ep i n:Nat}{t:SetTable}
def ia.typ (h:ia s.heap I S first i n ep):s.TypeIs (.ref I) "set_iterator":=let ⟨o,h1,h2,_⟩:=h;⟨o,h1,h2⟩
abbrev ZpT (I S:AD)(slot i ep:Nat):Sem PySem.Fin:=do
 match <-setNext S slot i ep with
 | some (x,next)=>do
  setField (.ref I) 0 (rawInt (next:Nat))
  setField (.ref I) 1 (rawInt ((i:Int)+1))
  ret x
 | none=>do
  setField (.ref I) 2 Value.none
  raiseNew (<-newExc (Value.type "StopIteration") [])
abbrev ZnR (I S:AD)(first:Value)(i ep:Nat):Sem PySem.Fin:=do
 match <-seqItems? first with
 | some places=>match places[i]? with
  | some (.int place _)=>do
   let x <-setNextDrawn S place.toNat ep
   setField (.ref I) 1 (rawInt ((i:Int)+1))
   ret x
  | some _=>unsupported "internal:set_iterator"
  | none=>do
   setField (.ref I) 0 (rawInt 0)
   setField (.ref I) 2 Value.none
   raiseNew (<-newExc (Value.type "StopIteration") [])
 | _=>unsupported "internal:set_iterator"
abbrev Dl (prog:AG)(w:AI)(A:AH)(Q:Option Value->AE->Prop)(E:mY)(fin:PySem.Fin)(s':AE):Prop:=∃v,fin=Fin.done (Flow.ret v)/\Q (some v) s'
abbrev B8 (prog:AG)(w:AI)(A:AH)(Q:Option Value->AE->Prop)(E:mY)(e:Value)(s':AE):Prop:=
 wpAny (model prog w) A (do let b <-isInstance e (Value.type "StopIteration");if b=true then pure none else throw e) Q E s'
def zP (hi:ia s.heap I S (.int (slot:Nat) 0) i es.size ep)(ho:s.heap.get? S=some o)(hd:o.data=.set es ep t)(hf:t.fits es.size=true)
  (h:wpAny (model prog w) A.in1 (ZpT I S slot i ep) (Dl prog w A Q E) (B8 prog w A Q E) s):wpAny (model prog w) A (pyNext (.ref I)) Q E s:=by
 obtain⟨oi,hoi,hci,hdi⟩:=id hi;unfold pyNext;refine lP (vo (wpAny_callSpecial?_slot (name:=Str.ofString "__next__") hi.typ vN (yW vN hi.typ GF ?_ (EI _))));unfold Builtin.«set_iterator.__next__»
 wp_walk
 rw[hdi];dsimp only;refine mf ?_;dsimp only;refine lP (wpAny_setEntries_of ho hd hf ?_)
 (try dsimp only)
 rw[lT {}];refine pG h (λfin s' q=>?_) λe s' q=>q;obtain⟨v,rfl,q⟩:=q;exact⟨v,rfl,mf q⟩
def Hf (hi:ia s.heap I S (.ref tp) i es.size ep)(ho:s.heap.get? S=some o)(hd:o.data=.set es ep t)(hf:t.fits es.size=true)
  (h:wpAny (model prog w) A.in1 (ZnR I S (.ref tp) i ep) (Dl prog w A Q E) (B8 prog w A Q E) s):wpAny (model prog w) A (pyNext (.ref I)) Q E s:=by
 obtain⟨oi,hoi,hci,hdi⟩:=id hi;unfold pyNext;refine lP (vo (wpAny_callSpecial?_slot (name:=Str.ofString "__next__") hi.typ vN (yW vN hi.typ GF ?_ (EI _))));unfold Builtin.«set_iterator.__next__»
 wp_walk
 rw[hdi];dsimp only;refine mf ?_;dsimp only;refine lP (wpAny_setEntries_of ho hd hf ?_)
 (try dsimp only)
 rw[lT {}];refine pG h (λfin s' q=>?_) λe s' q=>q;obtain⟨v,rfl,q⟩:=q;exact⟨v,rfl,mf q⟩
def C6 (hh:A.handled=none)(hQ:∀h',(∀b o,s.heap.get? b=some o->h'.get? b=some o)->Q none { s with heap:=h' }):
  wpAny (model prog w) A.in1 (do raiseNew (<-newExc (Value.type "StopIteration") [])) (Dl prog w A Q E) (B8 prog w A Q E) s:=by
 refine lP ?_;simp only[newExc,newTuple];refine lP (uD ?_ (by size_fits));refine lP (m:=firstArgMember _ _) (wpAny_of_eq (a:=Value.none) (by first | rfl | (simp only[firstArgMember];rfl)) ?_);refine uD ?_ (by size_fits);simp only[raiseNew];refine lP (wpAny_handled ?_);rw[show A.in1.handled=none from hh];refine lP (mf (wpAny_throw ?_));refine lP (wpAny_isInstance (T:="StopIteration") (b:=true) ⟨_,nV _ rfl,rfl⟩ isSubtype_stop ?_);exact mf (hQ _ λb o e=>mR _ (mR _ e))
def wQ {h:Heap} {v:Value} {k:Nat} {oi:Obj} {vs:Array Value} (hoi:h.get? I=some oi) (hci:oi.cls=.type "set_iterator") (hdi:oi.data=.fields vs):
  ∃o',(h.update I (Obj.mapFields (·.setIfInBounds k v))).get? I=some o'/\o'.cls=.type "set_iterator"/\o'.data=.fields (vs.setIfInBounds k v):=
 ⟨_,vk _ hoi (Obj.isFreed_of_fields (yj hdi _)),(Obj.cls_mapFields ..).trans hci,yj hdi _⟩
def F9 (ho:s.heap.get? S=some o)(hd:o.data=.set es ep t)(hf:t.fits es.size=true)(hb:o3 w=true)
  (h:Q (((pickOrder (w.params.setOrder S ep) es)[i]?).map λe=>(e.2,slot)) s):wpAny (model prog w) A (setNext S slot i ep) Q E s:=by
 unfold setNext;refine lP (wU ho hd hf ?_);dsimp only;unfold setsByText;refine lP (lP (wF (mf ?_)));show wpAny _ _ (if o3 w=true then _ else _) _ _ _;rw[hb,lU rfl,lT {}];unfold setWalk;refine lP (lP (wU ho hd hf ?_));dsimp only;unfold setsByText;refine lP (lP (wF (mf ?_)));show wpAny _ _ (if o3 w=true then _ else _) _ _ _;rw[hb,lU rfl];exact lP (wF (mf (mf h)))
def Ei (ho:s.heap.get? S=some o)(hd:o.data=.set es ep t)(hf:t.fits es.size=true)(hb:o3 w=false)(hl:t.led=true)(h1:es.size<=1)
  (h:Q (match es[SetTable.below t.place slot]?,t.place[SetTable.below t.place slot]? with | some (_,x),some j=>some (x,j+1) | _,_=>none) s):wpAny (model prog w) A (setNext S slot i ep) Q E s:=by
 unfold setNext;refine lP (wU ho hd hf ?_);dsimp only;unfold setsByText;refine lP (lP (wF (mf ?_)));show wpAny _ _ (if o3 w=true then _ else (if (!t.plain&&decide (es.size>1))=true then _ else _)) _ _ _;have hn:¬es.size>1:=by lia
 rw[hb,lT mQ,IB hn,uv,lT mQ];show wpAny _ _ ((if (!t.led&&!es.isEmpty)=true then (do let _ <-(unsupported "set:maker-not-led":Sem Unit);pure ()) else pure ()) >>= λ_=>_) _ _ _;rw[hl,Bool.not_true,rX,lT mQ];exact lP (mf (mf h))
end
theorem G5 {α:Type}{next:Nat->Nat}:∀(Ay k:Nat) (left:List α) (out:Array α),left.length=Ay->(pickOrder.go next Ay k left out).toList.Perm (out.toList++left)
 | 0,k,left,out,h=>by
  have e:left=[]:=yd h;subst e;unfold pickOrder.go;simp
 | Ay+1,k,left,out,h=>by
  have A0:next k % left.length<left.length:=Nat.mod_lt _ ∅
  unfold pickOrder.go;rw[mT A0];dsimp only;refine(G5 Ay (k+1) _ _ (by rw[List.length_eraseIdx_of_lt A0,h];rfl)).trans ?_;rw[tF,pQ];exact(DA left _ A0).append_left _
def BL:(pickOrder next xs).toList.Perm xs.toList:=by unfold pickOrder;have:=G5 (next:=next) xs.size 0 xs.toList #[] {};simpa using this
def Fr:Slot "set_iterator" "__iter__" "set_iterator.__iter__":=
 .of (owner:="set_iterator") (n:="__iter__") (by rw[typeLookup_type,builtinLookup_eq_fast];kernel_rfl) nofun nofun nofun (by first | exact .inl nofun | exact .inr nofun) (by rw[isSubtype_type];kernel_rfl)
def Zc6:entryFor table "set_iterator.__iter__"=some Builtin.«dict_keyiterator.__iter__»:=entryFor_alias (id':="dict_keyiterator.__iter__") (by kernel_rfl) rfl nofun (by kernel_rfl)
def Zdn (a:Value):argsOk "set_iterator.__iter__" ⟨[a],[]⟩:=by unfold argsOk;kernel_rfl
section
def Df (hi:ia s.heap I S first i n ep)(h:Q (.ref I) s):wpAny (model prog w) A (pyIter (.ref I)) Q E s:=by refine wpAny_pyIter_slot hi.typ Fr (yW Fr hi.typ Zc6 ?_ (Zdn _));show wpAny _ _ (ret (.ref I)) _ _ s;exact mf ⟨_,rfl,"set_iterator",_,hi.typ,vN.lookup,h⟩
def Bh (sb:Heap.SameBut I h h')(hne:S≠I)(ho:h.get? S=some o):h'.get? S=some o:=(sb.2 S hne).trans ho
def Zi1 (hh:A.handled=none)(hne:S≠I)(hd:o.data=.set es ep t)(hf:t.fits es.size=true)(hb:o3 w=true):
  Walks prog w A I [I,S] [I] es.size (λi v=>(((pickOrder (w.params.setOrder S ep) es).toList).map (·.2))[i]?=some v) (λi h=>ia h I S (.int ((0:Nat):Int) 0) i es.size ep/\h.get? S=some o) where
 sub:=λb hb=>by simp at hb;simp[hb]
 frame:=λi h h' ⟨⟨oi,h1,r⟩,h2⟩ hk=>⟨⟨oi,hk I {} _ h1,r⟩,hk S {} _ h2⟩
 item:=λi s Q E hi ⟨st,ho⟩ hQ=>by
  have hl:(pickOrder (w.params.setOrder S ep) es).size=es.size:=by rw[<-oB,BL.length_eq,oB]
  have he:(pickOrder (w.params.setOrder S ep) es)[i]?=some (pickOrder (w.params.setOrder S ep) es)[i]:=by simp[hl,hi]
  refine zP st ho hd hf (lP (F9 ho hd hf hb ?_));rw[he];dsimp only[Option.map_some];obtain⟨oi,g1,g2,g3⟩:=id st;refine lP (sA g1 g3 {} ?_);obtain⟨o1,k1,k2,k3⟩:=wQ (v:=rawInt ((0:Nat):Int)) (k:=0) g1 g2 g3;refine lP (sA k1 k3 {} ?_);obtain⟨o2,m1,m2,m3⟩:=wQ (v:=rawInt ((i:Int)+1)) (k:=1) k1 k2 k3;have sb:=(pZ s.heap I (Obj.mapFields (·.setIfInBounds 0 (rawInt ((0:Nat):Int))))).trans (pZ _ I (Obj.mapFields (·.setIfInBounds 1 (rawInt ((i:Int)+1)))));refine mf ⟨_,rfl,hQ _ _ s.toks ?_ ⟨⟨o2,m1,m2,?_⟩,Bh sb hne ho⟩ λb o hb e=>(sb.2 b (~~~hb)).trans e⟩
  .rw[om,qL,he];rfl
  .rw[m3];simp[rawInt]
 done:=λs Q E ⟨st,ho⟩ hQ=>by
  have hl:(pickOrder (w.params.setOrder S ep) es).size=es.size:=by rw[<-oB,BL.length_eq,oB]
  have he:(pickOrder (w.params.setOrder S ep) es)[es.size]?=none:=by simp[hl]
  refine zP st ho hd hf (lP (F9 ho hd hf hb ?_));rw[he];dsimp only[Option.map_none];obtain⟨oi,g1,g2,g3⟩:=id st;refine lP (sA g1 g3 {} ?_);have sb:=pZ s.heap I (Obj.mapFields (·.setIfInBounds 2 Value.none));exact C6 (A:=A) hh λh' k=>hQ h' s.toks λb o hb e=>k b o ((sb.2 b (~~~hb)).trans e)
 self:=λi s Q E ⟨st,_⟩ hQ=>Df st hQ
def w6 (t:SetTable)(i:Nat):Nat:=if i=0 then 0 else t.place.getD 0 0+1
def ZiV:SetTable.below xs 0=0:=by
 unfold SetTable.below;have all:∀Ay hi,SetTable.below.go xs 0 Ay 0 hi=0:=by
  intro Ay;induction Ay with
  | zero=>intro hi;unfold SetTable.below.go;rfl
  | succ f ih=>
   intro hi;unfold SetTable.below.go;split
   .rw[lT (Nat.not_lt_zero _)];exact ih _
   .rfl
 exact all _ _
def ZkD:SetTable.below #[j] (j+1)=1:=by unfold SetTable.below;show SetTable.below.go #[j] (j+1) 1 0 1=1;unfold SetTable.below.go;simp[SetTable.below.go]
def ZoQ (h:xs.size=1):∃j,xs=#[j]:=by
 obtain⟨l⟩:=xs
 match l,h with
 | [j],_=>exact⟨j,rfl⟩
def Zi2 (hh:A.handled=none)(hne:S≠I)(hd:o.data=.set es ep t)(hf:t.fits es.size=true)(hb:o3 w=false)(hl:t.led=true)(h1:es.size<=1):
  Walks prog w A I [I,S] [I] es.size (λi v=>(es.toList.map (·.2))[i]?=some v) (λi h=>ia h I S (.int ((w6 t i:Nat):Int) 0) i es.size ep/\h.get? S=some o) where
 sub:=λb hb=>by simp at hb;simp[hb]
 frame:=λi h h' ⟨⟨oi,h1,r⟩,h2⟩ hk=>⟨⟨oi,hk I {} _ h1,r⟩,hk S {} _ h2⟩
 item:=λi s Q E hi ⟨st,ho⟩ hQ=>by
  have i0:i=0:=by lia
  subst i0;have ps:t.place.size=es.size:=by have:=hf;simp only[SetTable.fits,nY,IH]at this;exact this.1
  have he:es[0]?=some es[0]:=by simp[hi]
  have hp:t.place[0]?=some (t.place.getD 0 0):=by
   have:0<t.place.size:=by lia
   simp[this]
  refine zP st ho hd hf (lP (Ei ho hd hf hb hl h1 ?_));rw[show w6 t 0=0 from rfl,ZiV,he,hp];dsimp only;obtain⟨oi,g1,g2,g3⟩:=id st;refine lP (sA g1 g3 {} ?_);obtain⟨o1,k1,k2,k3⟩:=wQ (v:=rawInt ((t.place.getD 0 0+1:Nat):Int)) (k:=0) g1 g2 g3;refine lP (sA k1 k3 {} ?_);obtain⟨o2,m1,m2,m3⟩:=wQ (v:=rawInt (((0:Nat):Int)+1)) (k:=1) k1 k2 k3;have sb:=(pZ s.heap I (Obj.mapFields (·.setIfInBounds 0 (rawInt ((t.place.getD 0 0+1:Nat):Int))))).trans (pZ _ I (Obj.mapFields (·.setIfInBounds 1 (rawInt (((0:Nat):Int)+1)))));refine mf ⟨_,rfl,hQ _ _ s.toks ?_ ⟨⟨o2,m1,m2,?_⟩,Bh sb hne ho⟩ λb o hb e=>(sb.2 b (~~~hb)).trans e⟩
  .rw[om,qL,he];rfl
  .rw[m3];simp[rawInt,w6]
 done:=λs Q E ⟨st,ho⟩ hQ=>by
  have ps:t.place.size=es.size:=by have:=hf;simp only[SetTable.fits,nY,IH]at this;exact this.1
  have hn:es[SetTable.below t.place (w6 t es.size)]?=none:=by
   have hz:es.size=0\/es.size=1:=by lia
   rcases hz with z | z
   .simp[z]
   .have e1:∃j,t.place=#[j]:=by
     have:t.place.size=1:=by lia
     exact ZoQ this
    obtain⟨j,ej⟩:=e1;have:w6 t es.size=j+1:=by unfold w6;rw[lT ∅,ej];rfl
    rw[this,ej,ZkD];simp[z]
  refine zP st ho hd hf (lP (Ei ho hd hf hb hl h1 ?_));rw[hn];dsimp only;obtain⟨oi,g1,g2,g3⟩:=id st;refine lP (sA g1 g3 {} ?_);have sb:=pZ s.heap I (Obj.mapFields (·.setIfInBounds 2 Value.none));exact C6 (A:=A) hh λh' k=>hQ h' s.toks λb o hb e=>k b o ((sb.2 b (~~~hb)).trans e)
 self:=λi s Q E ⟨st,_⟩ hQ=>Df st hQ
def Ziz (ho:s.heap.get? S=some o)(hd:o.data=.set es ep t)(hf:t.fits es.size=true)(he:es[p]?=some e)(h:Q e.2 s):wpAny (model prog w) A (setNextDrawn S p ep) Q E s:=by unfold setNextDrawn;refine lP (wU ho hd hf ?_);dsimp only;rw[lT {},he];exact mf h
def ZgI {tp:AD}{ps:lN}(hh:A.handled=none)(hne:S≠I)(hnt:tp≠I)(hd:o.data=.set es ep t)(hf:t.fits es.size=true)(hp:ps.Perm (List.range es.size)):
  Walks prog w A I [I,S,tp] [I] es.size (λi v=>(ps.map λp=>(es.getD p (0,.none)).2)[i]?=some v) (λi h=>ia h I S (.ref tp) i es.size ep/\h.get? S=some o/\h.get? tp=some { cls:=.type "tuple",data:=.seq (ps.map (λi=>Value.int ((i:Nat):Int) 0)).toArray }) where
 sub:=λb hb=>by simp at hb;simp[hb]
 frame:=λi h h' ⟨⟨oi,h1,r⟩,h2,h3⟩ hk=>⟨⟨oi,hk I {} _ h1,r⟩,hk S {} _ h2,hk tp {} _ h3⟩
 item:=λi s Q E hi ⟨st,ho,ht⟩ hQ=>by
  have hl:ps.length=es.size:=by rw[hp.length_eq,rW]
  have hi':i<ps.length:=by lia
  have hpi:ps[i]?=some ps[i]:=mT hi';have A0:ps[i]<es.size:=oY.mp (hp.mem_iff.mp (rq hi'));have he:es[ps[i]]?=some es[ps[i]]:=by simp[A0]
  refine Hf st ho hd hf (lP (xq ht rfl ?_));dsimp only;have hx:((ps.map (λi=>Value.int ((i:Nat):Int) 0)).toArray)[i]?=some (Value.int ((ps[i]:Nat):Int) 0):=by simp[hpi]
  rw[hx];dsimp only;refine lP (Ziz ho hd hf he ?_);obtain⟨oi,g1,g2,g3⟩:=id st;refine lP (sA g1 g3 {} ?_);obtain⟨o2,m1,m2,m3⟩:=wQ (v:=rawInt ((i:Int)+1)) (k:=1) g1 g2 g3;have sb:=pZ s.heap I (Obj.mapFields (·.setIfInBounds 1 (rawInt ((i:Int)+1))));refine mf ⟨_,rfl,hQ _ _ s.toks ?_ ⟨⟨o2,m1,m2,?_⟩,Bh sb hne ho,Bh sb hnt ht⟩ λb o hb e=>(sb.2 b (~~~hb)).trans e⟩
  .rw[om,hpi];simp[A0]
  .rw[m3];simp[rawInt]
 done:=λs Q E ⟨st,ho,ht⟩ hQ=>by
  have hl:ps.length=es.size:=by rw[hp.length_eq,rW]
  refine Hf st ho hd hf (lP (xq ht rfl ?_));dsimp only;have hx:((ps.map (λi=>Value.int ((i:Nat):Int) 0)).toArray)[es.size]?=none:=by simp[hl]
  rw[hx];dsimp only;obtain⟨oi,g1,g2,g3⟩:=id st;refine lP (sA g1 g3 {} ?_);obtain⟨o1,k1,k2,k3⟩:=wQ (v:=rawInt 0) (k:=0) g1 g2 g3;refine lP (sA k1 k3 {} ?_);have sb:=(pZ s.heap I (Obj.mapFields (·.setIfInBounds 0 (rawInt 0)))).trans (pZ _ I (Obj.mapFields (·.setIfInBounds 2 Value.none)));exact C6 (A:=A) hh λh' k=>hQ h' s.toks λb o hb e=>k b o ((sb.2 b (~~~hb)).trans e)
 self:=λi s Q E ⟨st,_⟩ hQ=>Df st hQ
end
def Zgj:typeLookup (.type "set") "__len__"=pure (some (.builtin "set.__len__")):=by rw[typeLookup_type,builtinLookup_eq_fast];kernel_rfl
section
def Zif {es:Array (Int×Value)}{ps:lN}(hp:ps.Perm (List.range es.size)):(ps.map λp=>(es.getD p (0,.none)).2).Perm (es.toList.map (·.2)):=by
 have q:=hp.map (λp=>(es.getD p (0,.none)).2);refine q.trans (.of_eq ?_);apply qZ
 .simp
 .intro n h1 h2;have hn:n<es.size:=by simpa using h2
  simp[hn]
def ZiH (hS:f9 prog w s.heap S ls (!o3 w))
  (h:∀(h2:Heap) (d:Drawn) (I:AD) (fp:List AD) (vs:AC) (ms:lX) (St:Nat->Heap->Prop),(∀A':AH,A'.handled=none->Walks prog w A' I fp [I] ls.length (λi v=>vs[i]?=some v) St)->St 0 h2 ->
   (∀b∈fp,b=S\/s.heap.objs.size<=b)->s.heap.objs.size<=I->(∀b o,s.heap.get? b=some o->h2.get? b=some o)->ms.Perm ls->fi (ms.map tx) vs->Q (.ref I) { s with heap:=h2,drawn:=d }):
  wpAny (model prog w) A (pyIter (.ref S)) Q E s:=by
 obtain⟨o,es,ep,t,ms,ho,hex,hd,hel,hf,hled,hpl,hp,hv,hb⟩:=hS;have Aq:es.size=ls.length:=by have q:=hv.length;rw[lZ,lZ]at q;rw[<-oB,<-q,hp.length_eq]
 have A0:=mL ho;refine Zls ho hex hd hf (fits_of_scanBound hb) (λhc=>?_) λps d pp=>?_
 .have nI:S≠s.heap.objs.size:=nM A0;have st:(s.heap.push ({ cls:=.type "set_iterator",data:=.fields #[.int 0 0,.int 0 0,.ref S,.int es.size 0,.int ep 0] }:Obj)).get? s.heap.objs.size=some { cls:=.type "set_iterator",data:=.fields #[.int 0 0,.int 0 0,.ref S,.int es.size 0,.int ep 0] }:=nV _ rfl;have fp:∀b∈[s.heap.objs.size,S],b=S\/s.heap.objs.size<=b:=λb hb=>by
   rcases m6.mp hb with z | z
   .exact .inr (uO z.symm)
   .exact .inl (~~~z)
  cases hby:o3 w with
  | true=>
   obtain⟨ms',p',r'⟩:=CU ((BL (next:=w.params.setOrder S ep) (xs:=es)).map (·.2)) hv;have W:∀A':AH,A'.handled=none->_:=λA' hA=>Zi1 (prog:=prog) (w:=w) (A:=A') (I:=s.heap.objs.size) (S:=S) (o:=o) hA nI hd hf hby;rw[Aq]at W;exact h _ s.drawn _ _ _ ms' _ W ⟨⟨_,st,rfl,by rw[Aq];rfl⟩,mR _ ho⟩ fp (mC _) (λb o e=>mR _ e) (p'.trans hp) r'
  | false=>
   have h1:es.size<=1:=by
    rcases hc with z | z | z
    .rw[hby]at z;cases z
    .rw[hpl z];exact nO _
    .exact z
   have hl:t.led=true:=by rw[hled,hby];rfl
   have W:∀A':AH,A'.handled=none->_:=λA' hA=>Zi2 (prog:=prog) (w:=w) (A:=A') (I:=s.heap.objs.size) (S:=S) (o:=o) hA nI hd hf hby hl h1;rw[Aq]at W;exact h _ s.drawn _ _ _ ms _ W ⟨⟨_,st,rfl,by rw[Aq];rfl⟩,mR _ ho⟩ fp (mC _) (λb o e=>mR _ e) hp hv
 .have nI:S≠s.heap.objs.size+1:=nM (wj A0);have nT:s.heap.objs.size≠s.heap.objs.size+1:=nM (Nat.lt_succ_self _);obtain⟨ms',p',r'⟩:=CU (Zif pp) hv;have W:∀A':AH,A'.handled=none->_:=λA' hA=>ZgI (prog:=prog) (w:=w) (A:=A') (I:=s.heap.objs.size+1) (S:=S) (o:=o) (tp:=s.heap.objs.size) hA nI nT hd hf pp;rw[Aq]at W;refine h _ d _ _ _ ms' _ W ⟨⟨{ cls:=.type "set_iterator",data:=.fields #[.ref s.heap.objs.size,.int 0 0,.ref S,.int es.size 0,.int ep 0] },?_,rfl,by rw[Aq];rfl⟩,mR _ (mR _ ho),mR _ (nV _ rfl)⟩ ?_ (sw _) (λb o e=>mR _ (mR _ e)) (p'.trans hp) r'
  .rw[<-rZ];exact nV _ rfl
  .intro b hb;rcases m6.mp hb with z | z
   .exact .inr (by rw[z];exact sw _)
   .rcases m6.mp z with z | z
    .exact .inl z
    .have z:b=s.heap.objs.size:=by simpa using z
     exact .inr (uO z.symm)
def Zhj (hh:A.handled=none)(hS:f9 prog w s.heap S ls (!o3 w))(hn:ls.length<=sizeLine)
  (hQ:∀(s':AE) (vs:AC) (ms:lX),(∀b o,s.heap.get? b=some o->s'.heap.get? b=some o)->s'.gens=s.gens->s'.os=s.os->ms.Perm ls->fi (ms.map tx) vs->Q vs s'):wpAny (model prog w) A (collect (.ref S)) Q E s:=by
 unfold collect;refine lP (wpAny_runValue (codeAny_builtin F.entry_proto_collect ?_));rw[sP F.plain_proto_collect _];show wpAny _ A.in1 (newList [] >>= λl=>again (.builtin "list.__iadd__" ⟨[l,.ref S],[]⟩)) _ _ s;refine lP (uD (mf ⟨plainId_quiet F.plain_list_iadd _,codeAny_builtin F.entry_list_iadd ?_⟩));rw[sP F.plain_list_iadd _];generalize hH:s.heap.push { cls:=.type "list",data:=.seq ([]:AC).toArray }=H;have hHs:H.objs.size=s.heap.objs.size+1:=by rw[<-hH,rZ]
 have hL:H.get? s.heap.objs.size=some { cls:=.type "list",data:=.seq ([]:AC).toArray }:=hH▸nV _ rfl;have k1:∀b o,s.heap.get? b=some o->H.get? b=some o:=λb o e=>hH▸mR _ e;have hS1:f9 prog w H S ls (!o3 w):=hS.keep λo e=>k1 S o e;have hT:Shared.TypeIs { s with heap:=H } (.ref S) "set":=hS1.typ (s:={ s with heap:=H });have nS:S≠s.heap.objs.size:=by obtain⟨o,_,_,_,_,ho,_⟩:=hS;exact nM (mL ho)
 show wpAny _ A.in1 (Builtin.List.listExtendWith (.ref s.heap.objs.size) (.ref S) (.ref s.heap.objs.size)) _ _ { s with heap:=H };unfold Builtin.List.listExtendWith;refine lP (wpAny_typeOf hT ?_);have h1:Builtin.List.listSameRef (.ref s.heap.objs.size) (.ref S)=false:=by simp[Builtin.List.listSameRef,mH nS]
 have h2:(Value.type "set" == Value.type "list")=false:=by decide
 have h3:(Value.type "set" == Value.type "tuple")=false:=by decide
 simp only[h1,h2,h3,Bool.or_false,vR,if_false];refine lP (ZiH (s:={ s with heap:=H }) hS1 λh2' d I fp vs ms St W st hfp hI k2 hp hv=>?_);have hT2:Shared.TypeIs { s with heap:=h2',drawn:=d } (.ref S) "set":=(hS1.keep λo e=>k2 S o e).typ (s:={ s with heap:=h2',drawn:=d });refine lP (pU ?_);unfold Builtin.List.listLengthHint;refine lP (wpAny_specialOf hT2 Zgj ?_)
 wp_delta
 refine lP (wpAny_isInstance (T:="set") (v:=.ref S) (b:=true) hT2 (by rw[isSubtype_type];kernel_rfl) ?_);show wpAny _ A.in1 (typeOf (Value.ref S) >>= λr=>_) _ _ _;refine lP (wpAny_typeOf hT2 ?_);refine mf ?_;rw[lU ⋯];refine lP (rG ?_);have hL2:h2'.get? s.heap.objs.size=some { cls:=.type "list",data:=.seq ([]:AC).toArray }:=k2 _ _ hL;refine lP ?_;show wpAny _ A.in1 (updateSeq s.heap.objs.size (·.push .none) >>= λ_=>updateSeq s.heap.objs.size (·.pop)) _ _ _;refine lP (wpAny_updateSeq hL2 rfl ?_);have hL3:=vk (Obj.mapSeq (·.push Value.none)) hL2 rfl;refine wpAny_updateSeq hL3 rfl ?_;have hL4:=vk (Obj.mapSeq (·.pop)) hL3 rfl;have oth:∀b o,b≠s.heap.objs.size->h2'.get? b=some o->((h2'.update s.heap.objs.size (Obj.mapSeq (·.push Value.none))).update s.heap.objs.size (Obj.mapSeq (·.pop))).get? b=some o:=
  λb o hb e=>(tZ _ _ (mH hb)).trans ((tZ _ _ (mH hb)).trans e)
 have hle:s.heap.objs.size+1<=I:=by rw[<-hHs];exact hI
 have hSf:s.heap.objs.size∉fp:=λz=>by
  rcases hfp _ z with q | q
  .exact nS q.symm
  .have q':H.objs.size<=s.heap.objs.size:=q;rw[hHs]at q';exact IG q' (Nat.not_succ_le_self _)
 refine mf ⟨plainId_quiet F.plain_extend_loop _,codeAny_extend_loopS (W A.in1 hh).toS hn _ hSf _ ls.length 0 _ _ _ rfl (nO _) ((W A.in1 hh).frame 0 h2' _ st λb hb o e=>oth b o (λz=>hSf (z▸hb)) e) hL4 (ItemsOf.nil _) λs' acc' c' hm hS' Ar=>?_⟩;show wpAny _ A (load s.heap.objs.size >>= λr=>_) _ _ s';refine lP (wpAny_load hS' ?_);have hvs:acc'.toList=vs:=by
  have hl:vs.length=ls.length:=by rw[<-hv.length,lZ,hp.length_eq]
  apply vX;intro j;rw[qL];by_cases hj:j<ls.length
  .have hj':j<acc'.size:=by rw[Ar.1];exact hj
   have e:acc'[j]?=some acc'[j]:=by simp[hj']
   rw[e,Ar.2 j _ e]
  .rw[Array.getElem?_eq_none (by rw[Ar.1];lia),tI ∅]
 have done:=hQ s' vs ms (λb o e=>by
  have A0:=mL e;refine hm.heap b o (λz=>?_) (oth b o (nM A0) (k2 b o (k1 b o e)));rcases m6.mp z with q | q
  .rw[q]at A0;exact o4 _ A0
  .have q:b=I:=by simpa using q
   rw[q]at A0;exact IG A0 (Nat.not_lt.mpr (Nat.le_of_succ_le hle))) hm.gens hm.os hp hv
 rw[<-hvs]at done;exact mf done
end
noncomputable def ri (a b:lN):Bool:=!decide (b<a)
def qM (ls:lX):lX:=ls.mergeSort ri
def uc:ri a b=true↔a<=b:=by unfold ri;rw[Bool.not_eq_true',ID];exact List.not_lt
def u0 (ls:lX):(qM ls).Perm ls:=List.mergeSort_perm _ _
def zG (ls:lX):(qM ls).Pairwise (λa b=>ri a b=true):=
 List.pairwise_mergeSort (le:=ri) (λa b c h1 h2=>uc.mpr (List.le_trans (uc.mp h1) (uc.mp h2))) (λa b=>Bool.or_eq_true_iff.mpr ((List.le_total a b).imp uc.mpr uc.mpr)) ls
def Di (p:ms.Perm ls)(h:ms.Pairwise (λa b=>ri a b=true)):ms=qM ls:=
 List.Perm.eq_of_pairwise (λa b _ _ h1 h2=>List.le_antisymm (uc.mp h1) (uc.mp h2)) h (zG ls) (p.trans (u0 ls).symm)
def ZgP (p:ms.Perm ls):qM ms=qM ls:=Di ((u0 ms).trans p) (zG ms)
theorem E8:∀ {us:AC} {ss:AJ},StrsAre us ss->fi ((ss.map λx=>x.cps.toList).map tx) us
 | _,_,.nil=>.nil
 | _,_,.cons x t h=>.cons ⟨t,rfl⟩ (E8 h)
def Ze3:∀ {ss:AJ},sortedS ss=true->(ss.map λx=>x.cps.toList).Pairwise (λa b=>ri a b=true):=by
 have ris:∀(p:Str) (l:AJ),risingS p l=true->((p::l).map λx=>x.cps.toList).Pairwise (λa b=>ri a b=true):=by
  intro p l;induction l generalizing p with
  | nil=>intro _;simp
  | cons x r ih=>
   intro h;have h':(!ltCps x.cps.toList p.cps.toList&&risingS x r)=true:=h;rw[nY,ltCps_eq]at h';have q:=ih x h'.2;rw[oP,sW];refine⟨λb hb=>?_,q⟩;have hx:ri p.cps.toList x.cps.toList=true:=h'.1;rw[oP]at hb q;rcases m6.mp hb with z | z
   .rw[z];exact hx
   .exact uc.mpr (List.le_trans (uc.mp hx) (uc.mp ((sW.mp q).1 b z)))
 intro ss h;cases ss with
 | nil=>simp
 | cons x r=>exact ris x r h
def Zjf {us:AC}{ls:lX}(r:fi (ls.map tx) us):StrsAre us (ls.map λl=>(⟨l.toArray⟩:Str)):=Fz r
def ZlP (ls:lX):(ls.map λl=>(⟨l.toArray⟩:Str)).map (λx=>x.cps.toList)=ls:=by
 rw[oX]
 conv=>rhs;rw[<-List.map_id ls]
 apply yw;intro l _;simp
section
end
structure qF (B:Heap)(l:List Env)(e:AD)(C:Value)(d:Option AD)(fl:Value)(h:Heap):Prop where
 st:B.StaysIn h
 ne:B.get? e=none
 fr:h.FunFrames B l
 tr:∃oe vs T oT ts,h.get? e=some oe/\oe.cls=C/\oe.dict=d/\oe.data=.fields vs/\vs[1]?=some (.ref T)/\B.get? T=none/\T≠e/\h.get? T=some oT/\oT.data=.fields ts/\ts[3]?=some fl
def ZlH (o:Obj)(f:Array Value->Array Value):(o.mapFields f).dict=o.dict:=by obtain⟨c,d,dt,sl⟩:=o;cases dt<;>rfl
section
variable {M:Model}{A:AH}{E:mY}{s:AE}{B:Heap}{env:Env}{outer:List Env}{L e:AD}{C:Value}{d:Option AD}{Q:Unit->AE->Prop}
def D5 (hfr:A.frames=some (env::outer))(hl:s.heap.FunFrames B (env::outer))(hf:env.frame=some L)(he:s.heap.get? e=some oe)(hkb:B.StaysIn s.heap)(hen:B.get? e=none)
  (hc:oe.cls=C) (hdd:oe.dict=d) (hd:oe.data=.fields vs) (hsz:1<vs.size) (h:∀h',qF B (env::outer) e C d (rawInt L) h'->s.heap.UpToSlots h'->Q () { s with heap:=h' }):
  wpAny M A (do let a <-frameOf env;let pl <-entryPlaceOf L hadNext;let b <-EntryCells.newEntry head a .none (rawInt L) .none pl;setField (.ref e) 1 b) Q E s:=by
 have hene:e∉(env::outer).filterMap (·.frame):=λhm=>by obtain⟨_,o,ho,hnf⟩:=hl.mem hm;rw[he]at ho;cases ho;exact hnf vs hd
 refine lP (wpAny_frameOf_fun hfr hl hf λh1 hs=>lP (wpAny_entryPlaceOf λpl hpl=>?_));unfold EntryCells.newEntry newFields;refine lP (uD ?_ (hpl.sizeOk5 _ _ _ _ _));have e1:h1.get? e=some oe:=(hs.2.1 e hene).trans he;have k1:B.StaysIn h1:=λb o hbo=>(hs.2.1 b λhm=>by rw[(hl.mem hm).1]at hbo;cases hbo).trans (hkb b o hbo);generalize eT:({ cls:=.type "traceback",dict:=none,data:=.fields ([head,.ref L,.none,rawInt L,.none]++(if pl.isEmpty then List.replicate 6 Value.none else pl)).toArray }:Obj)=oT;have e2:(h1.push oT).get? e=some oe:=mR _ e1;refine sA e2 hd hsz ?_;have nT:h1.objs.size≠e:=Nat.ne_of_gt (mL e1);have d3:=yj hd (·.setIfInBounds 1 (Value.ref h1.objs.size));have e3:=vk (Obj.mapFields (·.setIfInBounds 1 (Value.ref h1.objs.size))) e2 (Obj.isFreed_of_fields d3);have t3:((h1.push oT).update e (Obj.mapFields (·.setIfInBounds 1 (Value.ref h1.objs.size)))).get? h1.objs.size=some oT:=by rw[tZ _ _ (mH nT)];refine nV _ ?_;rw[<-eT];rfl
 have keep:∀b o,b≠e->h1.get? b=some o->((h1.push oT).update e (Obj.mapFields (·.setIfInBounds 1 (Value.ref h1.objs.size)))).get? b=some o:=λb o hb q=>by rw[tZ _ _ (mH hb)];exact mR _ q
 have nrec:∀b o,s.heap.get? b=some o->(∀vs,o.data≠.fields vs)->b≠e:=λb o q n z=>by rw[z,he]at q;cases q;exact n vs hd
 have dT:oT.data=.fields ([head,.ref L,.none,rawInt L,.none]++(if pl.isEmpty then List.replicate 6 Value.none else pl)).toArray:=by rw[<-eT]
 refine h _ ⟨λb o q=>keep b o (λz=>by rw[z,hen]at q;cases q) (k1 b o q),hen,hl.of_keeps λb o q n=>?_,_,_,h1.objs.size,oT,_,e3,(Obj.cls_mapFields _ _).trans hc,(ZlH _ _).trans hdd,d3,?_,k1.fresh,nT,t3,dT,?_⟩ λb o q n=>?_
 .obtain⟨sl,q2⟩:=hs.2.2 b o q;exact⟨_,keep b _ (nrec b o q n) q2,rfl⟩
 .simp[hsz]
 .simp
 .obtain⟨sl,q2⟩:=hs.2.2 b o q;exact⟨sl,keep b _ (nrec b o q n) q2⟩
def Ziy (hfr:A.frames=some (env::outer))(hl:s.heap.FunFrames B (env::outer))(hf:env.frame=some L)(he:s.heap.get? e=some oe)(hkb:B.StaysIn s.heap)(hen:B.get? e=none)
  (hc:oe.cls=C) (hdd:oe.dict=d) (hd:oe.data=.fields vs) (h1:vs[1]?=some .none) (h:∀h',qF B (env::outer) e C d (rawInt L) h'->s.heap.UpToSlots h'->Q () { s with heap:=h' }):wpAny M A (noteFrame (.ref e) env) Q E s:=by
 unfold noteFrame;simp only[hf];refine lP (wpAny_field he hd h1 ?_);rw[lT ⋯];exact D5 hfr hl hf he hkb hen hc hdd hd (xR.mp h1).1 h
def Go (hfr:A.frames=some (env::outer))(hf:env.frame=some L)(x:qF B (env::outer) e C d .none s.heap)(h:∀h',qF B (env::outer) e C d (rawInt L) h'->s.heap.UpToSlots h'->Q () { s with heap:=h' }):
  wpAny M A (noteFrame (.ref e) env) Q E s:=by
 obtain⟨hkb,hen,hl,oe,vs,T,oT,ts,he,hc,hdd,hd,h1,hnT,hTe,hT,hdT,h3⟩:=x;unfold noteFrame;simp only[hf];refine lP (wpAny_field he hd h1 ?_);rw[lU (show (Value.ref T != Value.none)=true from by simp)];refine lP (wpAny_field hT hdT h3 ?_);rw[lT (show ¬((Value.none == rawInt L)=true) from by simp[rawInt])];refine lP (sA hT hdT (xR.mp h3).1 ?_);have oth:∀b,b≠T->(s.heap.update T (Obj.mapFields (·.setIfInBounds 3 Value.none))).get? b=s.heap.get? b:=λb hb=>tZ _ _ (mH hb);have nrec:∀b o,s.heap.get? b=some o->(∀vs,o.data≠.fields vs)->b≠T:=λb o q n z=>by rw[z,hT]at q;cases q;exact n ts hdT
 refine D5 (s:={ s with heap:=s.heap.update T (Obj.mapFields (·.setIfInBounds 3 Value.none)) }) hfr (hl.of_keeps λb o q n=>⟨o,(oth b (nrec b o q n)).trans q,rfl⟩) hf ((oth e (mH hTe)).trans he)
  (λb o q=>(oth b λz=>by rw[z,hnT]at q;cases q).trans (hkb b o q)) hen hc hdd hd (xR.mp h1).1 λh' y u=>h h' y λb o q n=>u b o ((oth b (nrec b o q n)).trans q) n
def zV (x:qF B l e C d fl s.heap)(h:∀h',qF B l e C d .none h'->s.heap.UpToSlots h'->Q () { s with heap:=h' }):wpAny M A (setFlight (.ref e) none) Q E s:=by
 obtain⟨hkb,hen,hl,oe,vs,T,oT,ts,he,hc,hdd,hd,h1,hnT,hTe,hT,hdT,h3⟩:=x;have hz:3<ts.size:=(xR.mp h3).1;have oth:∀b,b≠T->(s.heap.update T (Obj.mapFields (·.setIfInBounds 3 ((none:Option AD).elim Value.none λf=>rawInt f)))).get? b=s.heap.get? b:=λb hb=>tZ _ _ (mH hb);have nrec:∀b o,s.heap.get? b=some o->(∀vs,o.data≠.fields vs)->b≠T:=λb o q n z=>by rw[z,hT]at q;cases q;exact n ts hdT
 unfold setFlight;refine lP (wpAny_field he hd h1 ?_);rw[lU (show (Value.ref T != Value.none)=true from by simp)];refine sA hT hdT hz (h _ ⟨λb o q=>(oth b λz=>by rw[z,hnT]at q;cases q).trans (hkb b o q),hen,hl.of_keeps λb o q n=>⟨o,(oth b (nrec b o q n)).trans q,rfl⟩,oe,vs,T,_,_,(oth e (mH hTe)).trans he,hc,hdd,hd,h1,hnT,hTe,
  vk _ hT (Obj.isFreed_of_fields (yj hdT _)),yj hdT _,by simp[hz]⟩ λb o q n=>⟨o.slots,(oth b (nrec b o q n)).trans q⟩)
def qF.pop (x:qF B (env::outer) e C d fl h):qF B outer e C d fl h:=⟨x.st,x.ne,x.fr.2.2,x.tr⟩
def Zg3 (hfr:A.frames=some (env::outer))(hl:s.heap.FunFrames B (env::outer))(hf:env.frame=some L)(he:s.heap.get? e=some oe)(hkb:B.StaysIn s.heap)(hen:B.get? e=none)
  (hc:oe.cls=C) (hdd:oe.dict=d) (hd:oe.data=.fields vs) (h1:vs[1]?=some .none) (h:∀h',qF B outer e C d .none h'->s.heap.UpToSlots h'->Q () { s with heap:=h' }):wpAny M A (leaving env (.ref e)) Q E s:=by
 unfold leaving;refine lP (Ziy hfr hl hf he hkb hen hc hdd hd h1 λh1 x1 u1=>zV (s:={ s with heap:=h1 }) x1 λh2 x2 u2=>h h2 x2.pop (u1.trans u2))
def ZiE (hfr:A.frames=some (env::outer))(hf:env.frame=some L)(x:qF B (env::outer) e C d .none s.heap)(h:∀h',qF B outer e C d .none h'->s.heap.UpToSlots h'->Q () { s with heap:=h' }):wpAny M A (leaving env (.ref e)) Q E s:=by unfold leaving;refine lP (Go hfr hf x λh1 x1 u1=>zV (s:={ s with heap:=h1 }) x1 λh2 x2 u2=>h h2 x2.pop (u1.trans u2))
end
open PySem.W (Frag findIn typeIn mroIn clsIn InstAt Looks)
noncomputable def xr (a C:AD)(d:Option AD):HO:=.ext λh=>∃(o:Obj) (vs:Array Value),h.get? a=some o/\o.cls=.ref C/\o.dict=d/\o.data=.fields vs
def Gz (h1:h.get? e=some o)(h2:o.cls=.ref C)(h3:o.dict=d)(h4:o.data=.fields vs):fJ P w H h e (xr e C d):=
 ⟨⟨o,vs,h1,h2,h3,h4⟩,⟨o,h1⟩,λg1 g2 ⟨o',vs',q1,q⟩ k=>⟨o',vs',k _ q1,q⟩⟩
inductive ig (H:Hp) (e C:AD):List (Str×V)->Prop where
 | un {fs:List (Str×V)}:rN H e C fs->ig H e C fs
 | bare:H e=some (xr e C none)->ig H e C []
 | full {d:AD} {fs:List (Str×V)}:H e=some (xr e C (some d))->H d=some (wP d fs)->d≠e->ig H e C fs
section
def Zjs (hh:A.handled=none)
  (h:wpAny M A x (λv s_1=>∃(e t:AD) (od:Option AD) (sl:Array (Option Value)) (C:AD) (nm q:Str) (N:AD) (bs bm:AC) (Ax:Bool) (sn:AJ) (sub:AC) (ab:Bool) (col:Option Bool) (dd:Option AD) (k0 k1 k2 k3 k5:Option Value) (newId:String),v=.ref e/\bm.contains (.type "BaseException")=true /\
   s_1.heap.get? C=some (excClassObj nm q C N bs bm Ax sn sub ab col dd k0 k1 k2 k3 k5 newId)/\s_1.heap.get? e=some { cls:=.ref C,dict:=od,data:=.fields #[.ref t,.none,.none,.none,.bool false,.none],slots:=sl }/\E (.ref e) s_1) E s):wpAny M A (raiseStmt env (some x) none) Q E s:=by
 unfold raiseStmt;refine lP (pG h (λv s_1 h9=>?_) λ_ _ x=>x);obtain⟨e,t,od,sl,C,nm,q,N,bs,bm,Ax,sn,sub,ab,col,dd,k0,k1,k2,k3,k5,newId,rfl,hbase,hC,he,hE⟩:=h9;have hcB:(Value.ref C::bm).contains (.type "BaseException")=true:=by rw[rB,hbase,Bool.or_true]
 obtain⟨hp,g,d,tk,os⟩:=s_1;repeat (first | with_reducible refine tL he ?_ | with_reducible refine tL hC ?_ | (with_reducible refine yI hC ?_;rw[hcB]) | wp_step)
 exact wpAny_raiseNew_none hh hE
end
def qk (P:AG)(w:AI):sC:=λouter H s E ev s'=>∃(e C:AD) (d:Option AD) (H':Hp) (h1 B:Heap),ev=.ref e/\s'.os=s.os/\AllBare s'.gens/\Un (oz outer) [] H H' s.heap h1/\nZ P w H' h1/\H' e=some (xr e C d) /\
 (∀b o,h1.get? b=some o->b≠e->((∃u,H' b=some u)\/((∃o',s.heap.get? b=some o')/\b∉oz outer))->B.get? b=some o)/\qF B outer e (.ref C) d .none s'.heap/\h1.UpToSlots s'.heap/\E (.ref C) (some e) H'
def i9 (X:Cx)(Ex:XK):Prop:=∀(Ao:AA) (U:St) (H:Hp) (s:AE) (e C:AD) (d:Option AD),lO X Ao U H s->H e=some (xo e C d)->Ex (.ref C) (some e) (upd H e (xr e C d))->X.xe (.ref e) s
def lO.raised (I:lO X Ao U H s)(h:H e=some (xo e C d)):lO X Ao U (upd H e (xr e C d)) s:=by obtain⟨o,t,h1,h2,h3,h4⟩:=uR I h;exact I.write (x:=e) (e:=e) (o:=xr e C d) (h':=s.heap) (t':=s.toks) (by rw[h];exact trivial) (.inl rfl) (λb u _ q=>q) ⟨o,h1⟩ (Gz h1 h2 h3 h4)
def ZnA (e:(hideAll h as).get? b=some o):h.get? b=some o:=of_hideAll _ e
def FS {P:AG}{w:AI}{K:Frag}{mg:AB}{base:Heap}{N:AJ}{qual:Str}{scope:Scope}{f:AD}{cd:Value}{A:AH}{outer:List Env}{s0:AE}{H0:Hp}{E:XK}:
  i9 (gE (qk P w) P w K mg base N qual scope f cd A outer s0 H0 E) E:=by
 intro Ao U H s e C d I he hE;obtain⟨o,t,h1,h2,h3,h4⟩:=uR I he;have J:=I.raised he;generalize hX:gE (qk P w) P w K mg base N qual scope f cd A outer s0 H0 E=X at I J ⊢;have eA:X.A=A.deeper (envOfC qual scope s0.heap.objs.size f cd):=by rw[<-hX];rfl
 have eS:X.stack=envOfC qual scope s0.heap.objs.size f cd::outer:=by rw[<-hX];rfl
 have eF:X.fs=oz outer:=by rw[<-hX];rfl
 have e0:X.s_0=s0:=by rw[<-hX];rfl
 have eH:X.H_0=H0:=by rw[<-hX];rfl
 have eX:X.ex=[]:=by rw[<-hX];rfl
 have eL:X.env=envOfC qual scope s0.heap.objs.size f cd:=by rw[<-hX];rfl
 have ePr:X.prog=P:=by rw[<-hX];rfl
 have eW:X.w=w:=by rw[<-hX];rfl
 have hxe:∀ev s',wpAny (model P w) (A.deeper (envOfC qual scope s0.heap.objs.size f cd)) (leaving (envOfC qual scope s0.heap.objs.size f cd) ev) (λ_ s''=>qk P w outer H0 s0 E ev s'') (λe' s''=>qk P w outer H0 s0 E e' s'') s'->X.xe ev s':=by intro ev s' z;rw[<-hX];exact z
 refine hxe _ _ ?_;have hfr:(A.deeper (envOfC qual scope s0.heap.objs.size f cd)).frames=some (envOfC qual scope s0.heap.objs.size f cd::outer):=by rw[<-eA,<-eS];exact I.ok.frames
 have stk:s.heap.FunFrames X.base X.stack:=I.stack;have hin:∀env∈X.stack,∀a,env.frame=some a->a∈oz X.stack++[e]:=λenv henv a ha=>wv _ (List.mem_filterMap.mpr ⟨env,henv,ha⟩);have ff:=PySem.W.funFrames_hide (as:=oz X.stack++[e]) stk hin;rw[eS]at ff;have stays:(hideAll s.heap (oz (envOfC qual scope s0.heap.objs.size f cd::outer)++[e])).StaysIn s.heap:=λb o q=>ZnA q;refine Zg3 (B:=hideAll s.heap (oz (envOfC qual scope s0.heap.objs.size f cd::outer)++[e])) (L:=s0.heap.objs.size) hfr ff rfl h1 stays (hideAll_none _ {}) h2 h3 h4 {} λh' fl up=>?_;have os:s.os=s0.os:=by rw[<-e0];exact I.os
 have un:Un (oz outer) [] H0 (upd H e (xr e C d)) s0.heap s.heap:=by
  have:=J.base
  rwa [eF,eX,eH,e0]at this
 have ok:nZ P w (upd H e (xr e C d)) s.heap:=by
  have:=J.hok
  rwa [ePr,eW]at this
 refine⟨e,C,d,upd H e (xr e C d),s.heap,_,rfl,os,I.bare,un,ok,mq,λb o hb hne hc=>?_,fl,up,hE⟩;refine hideAll_get _ hb λz=>?_;rcases nJ.mp z with z | z
 .have z':b∈oz X.stack:=by rw[eS];exact z
  rcases hc with⟨u,hu⟩|⟨⟨o',ho'⟩,hn⟩
  .rw[J.stkFree b z']at hu;cases hu
  .rcases m6.mp (I.stkSub b z') with q | q
   .rw[q,eL]at ho';exact IG (mL ho') (o4 _)
   .rw[eF]at q;exact hn q
 .exact hne (~~~z)
def Gh (K:Frag)(Ex:XK)(te:TE):TS:=λ_ U H=>te U H λv H1=>∃e C d,v=.ref e/\H1 e=some (xo e C d)/\Xm K C/\Ex (.ref C) (some e) (upd H1 e (xr e C d))
def Fb (hR:i9 X Ex)(hc:X.calm=true)(he:PE X e te):PS X (.Raise (some e) none pos) (Gh X.K Ex te):=by intro Ao s U H D I h;rw[arm_exec_Raise];show wpAny _ X.A (do standAt pos;raiseStmt X.env (some (do let v <-eval e X.env;standAt pos;pure v)) none) _ _ s;refine lP (wpAny_standAt ?_);refine Zjs (I.ok.hd hc) (lP (mB (he Ao s U H _ I h) λv s1 ⟨x,H1,I1,r1,a,C,d,ex,hx,m,q⟩=>lP (wpAny_standAt (mf ?_))));subst ex;obtain rfl:v=Value.ref a:=r1;obtain⟨o,t,h1,h2,h3,h4⟩:=uR I1 hx;obtain⟨nm,q',N,bs,bm,Ax,sn,sub,ab,col,dd,k0,k1,k2,k3,k5,hl,hxm⟩:=m.parts;obtain⟨oc,odi,oda,osl⟩:=o;dsimp only at h2 h3 h4;subst h2 h3 h4;have hb:(Value.ref C::bm).contains (.type "BaseException")=true:=wZ nofun hxm;rw[rB]at hb;refine⟨a,t,_,_,C,nm,q',N,bs,bm,Ax,sn,sub,ab,col,dd,k0,k1,k2,k3,k5,_,rfl,?_,I1.kIn _ _ hl,h1,hR Ao U H1 s1 a C _ I1 hx q⟩;have z:(Value.type "BaseException" == Value.ref C)=false:=rfl;rw[z,Bool.false_or]at hb;exact hb
section
variable {P:AG}{w:AI}{K:Frag}{mg:AB}{base:Heap}
def qh.okX {x qual:Str}{st:Stmt}{f:AD}{fd:AF}{N ps:AJ}{k:Nat}{sp:Sp}(F:qh K x qual st f fd)(S:fg N ps (pT st))
  (hbody:∀(Ap:Value) (A:AH) (outer:List Env) (s:AE) (H:Hp) (vs:IJ) (Q:VK) (E:XK),fX k (A.deeper (envOfC qual (pT st) s.heap.objs.size f Ap))->sp vs H Q E ->
   ∃t,ql (gE (qk P w) P w K mg base N qual (pT st) f Ap A outer s H E) (rP st) t/\t { nx:=λ_ H'=>Q .non H',rt:=Q } (start N vs) H)(len:∀vs H Q E,sp vs H Q E->vs.length=ps.length:=by walk_at "ln"):fB P w K mg base (qk P w) (k+1) f fd ps sp:=by
 obtain⟨oc,od,kV,doc,pm,an,Ap,ct,osl,rfl,lk,hcd⟩:=F.ex;exact BY lk hcd S len λA outer s H vs Q E hr hsp=>hbody Ap A outer s H vs Q E hr hsp
end
abbrev TX:=St->Hp->VK->XK->Prop
def Hm (X:Cx)(e:Expr)(t:TX):Prop:=∀(Ao:AA) (s:AE) (U:St) (H:Hp) (Q:VK) (E:XK),lO X Ao U H s->t U H Q E ->
 wpAny (model X.prog X.w) X.A (eval e X.env) (EP X Ao U Q) (λev s'=>∃H2 s2,lO X Ao U H2 s2/\qk X.prog X.w X.stack H2 s2 E ev s') s
abbrev yC:=gz->(St->XK)->St->Hp->Prop
def XH (X:Cx)(Ao:AA)(Ex:St->XK)(ev:Value)(s':AE):Prop:=∃U' H2 s2,lO X Ao U' H2 s2/\qk X.prog X.w X.stack H2 s2 (Ex U') ev s'
def DV (X:Cx)(st:Stmt)(t:yC):Prop:=∀(Ao:AA) (s:AE) (U:St) (H:Hp) (D:gz) (Ex:St->XK),lO X Ao U H s->t D Ex U H->wpAny (model X.prog X.w) X.A (exec st X.env) (SP X Ao D) (XH X Ao Ex) s
def PSsx (X:Cx)(st:List Stmt)(t:yC):Prop:=∀(Ao:AA) (s:AE) (U:St) (H:Hp) (D:gz) (Ex:St->XK),lO X Ao U H s->t D Ex U H->wpAny (model X.prog X.w) X.A (execs st X.env) (SP X Ao D) (XH X Ao Ex) s
section
def ZmZ (F:fB X.prog X.w X.K X.mg X.base (qk X.prog X.w) k f fd ps sp)(hr:fX k X.A)(hb:gb X.K fd ps ds)(hd:fi Az ds)
  (I:lO X Ao U H s) (r:fi vs us) (h:sp (vs++Az) H Q E):wpAny (model X.prog X.w) X.A (call (.ref f) us) (EP X Ao U Q) (λev s'=>∃H2 s2,lO X Ao U H2 s2/\qk X.prog X.w X.stack H2 s2 E ev s') s:=by
 have r2:fi (vs++Az) (us++ds):=r.append hd;have hl:(us++ds).length=ps.length:=by rw[<-r2.length];exact F.len _ _ _ _ h
 refine tE (codeAny_mono (F.run X.A X.stack s H ⟨us,[]⟩ (us++ds) (vs++Az) Q E hr I.env0 (hb s us I.kIn hl) r2 h) λr s' hq=>?_);cases r with
 | error e=>exact⟨H,s,I,hq⟩
 | ok fl=>
  cases fl with
  | ret u=>exact I.after hq
  | next=>exact False.elim hq
  | brk=>exact False.elim hq
  | cont=>exact False.elim hq
def EM (sp:Sp)(Az:IJ)(t:TA):TX:=λU H Q E=>t U H λvs H1=>sp (vs++Az) H1 Q E
def Zk1 (F:fB X.prog X.w X.K X.mg X.base (qk X.prog X.w) k f fd ps sp)(hr:fX k X.A)(hg:Gl X x)(hm:X.mg x=some (.ref f))(hk:keepIn X.K (.ref f)=true)(hb:gb X.K fd ps ds)(hd:fi Az ds)
  (ha:PA X.nox (e::es) t) (hdb:(x == ("__debug__":Str))=false:=by decide) (he:starEach (e::es) X.env=(false,eval e X.env)::starEach es X.env:=by rfl) (hpl:(backTo pos (starEach es X.env)).any (·.1)=false:=by rfl):
  Hm X (.Call (.Name x p) (e::es) [] pos) (EM sp Az t):=by
 intro Ao s U H Q E I h;refine vn (u6 I hg hm ?_ hdb);refine w8 (h₀:=X.base) I.ok.mod.kin hk (pG (ha pos Ao s U H _ (I.wish _) h) (λus s1 ⟨vs,H1,I1,r,q⟩=>⟨I1.kIn,?_⟩) λ_ _ z=>False.elim z) he hpl;exact ZmZ F hr hb hd I1.unwish r q
def Ij (i:Nat)(te:TX):yC:=λD Ex U H=>te U H (λy H1=>D.nx (U.set i (some y)) H1) (Ex U)
def Zm1 (hN:X.N.Nodup)(hi:X.N[i]?=some x)(hx:vY X.env.scope x)(he:Hm X e te)(hs:swapsWith e (some (.Name x pos')) pos.line X.env=pure false:=by rfl)(hf:X.fn x=true\/X.env.scope.names.lookup x=some .local:=by first | exact .inl rfl | exact .inr rfl | assumption):
  DV X (.Assign [.Name x pos'] e pos) (Ij i te):=by
 intro Ao s U H D Ex I h;refine wpAny_Assign_Name (pG (he Ao s U H _ _ I h) (λv s1 ⟨y,H1,I1,r1,q1⟩=>?_) λev s' ⟨H2,s2,I2,q⟩=>⟨U,H2,s2,I2,q⟩) hs;exact yh I1 hN hi hx r1 (λs2 I2=>⟨_,H1,I2,q1⟩) hf
def Zk0 {st:Stmt}{t:yC}(h1:DV X st t):PSsx X [st] t:=by
 intro Ao s U H D Ex I h;refine wpAny_execs_cons (mB (h1 Ao s U H D Ex I h) λf s1 q=>?_);cases f with
 | next=>exact wN q
 | ret v=>exact q
 | brk=>exact q
 | cont=>exact q
end
section
variable {X:Cx}{Ao:AA}{U:St}{H H':Hp}{s s1:AE}{e C:AD}{d:Option AD}{h1 h5 B:Heap}
def ZiR (I:lO X Ao U H s)(os:s1.os=s.os)(bare:AllBare s1.gens)(un:Un (oz X.stack) [] H H' s.heap h1)(ok:nZ X.prog X.w H' h1)(he:H' e=some (xr e C d))
  (kept:∀b o,h1.get? b=some o->b≠e->((∃u,H' b=some u)\/((∃o',s.heap.get? b=some o')/\b∉oz X.stack))->B.get? b=some o) (fl:qF B X.stack e (.ref C) d .none h5) (up:h1.UpToSlots h5):
  lO X Ao U H' { s1 with heap:=h5 }:=by
 have ne:∀b o,s.heap.get? b=some o->H b=none->b≠e:=λb o q n z=>by have:=un.free b o q n {};rw[z,he]at this;cases this
 have keep:∀b o,s.heap.get? b=some o->H b=none->b∉oz X.stack->h5.get? b=some o:=λb o q n nf=>
  fl.st b o (kept b o (un.keep b o q n nf {}) (ne b o q n) (.inr ⟨⟨o,q⟩,nf⟩))
 have slot:∀b o,s.heap.get? b=some o->H b=none->b∈oz X.stack->∃sl,h5.get? b=some { o with slots:=sl }:=λb o q n hf=>by obtain⟨sl,q1⟩:=un.slot b o q n hf {};obtain⟨_,o',ho',hnf⟩:=I.stack.mem hf;rw[q]at ho';cases ho';obtain⟨sl2,q2⟩:=up b _ q1 hnf;exact⟨sl2,q2⟩
 have xi:∀c u,(∃v,H' c=some v)->h1.get? c=some u->c≠e->h5.get? c=some u:=λc u hv q n=>fl.st c u (kept c u q n (.inl hv));refine I.call' (s':={ s1 with heap:=h5 }) (ch:=[]) os ⟨λb o q n nf _=>keep b o q n nf,λb o q n hf _=>slot b o q n hf,λb o q n _=>un.free b o q n {},λb o q _=>?_,un.tups,un.frzs,un.tbls⟩ (λb ob hb=>?_) bare (λb hb=>by cases hb)
 .by_cases hbe:b=e
  .obtain⟨oe,vs,T,oT,ts,h1,_⟩:=fl.tr;exact⟨oe,by rw[hbe];exact h1⟩
  .cases hH:H b with
   | none=>
    by_cases hf:b∈oz X.stack
    .obtain⟨sl,q2⟩:=slot b o q hH hf;exact⟨_,q2⟩
    .exact⟨o,keep b o q hH hf⟩
   | some u=>
    obtain⟨o',q1⟩:=un.there b o q {};by_cases hf:b∈oz X.stack
    .rw[I.stkFree b hf]at hH;cases hH
    .exact⟨o',fl.st b o' (kept b o' q1 hbe (.inr ⟨⟨o,q⟩,hf⟩))⟩
 .by_cases hbe:b=e
  .subst hbe;rw[he]at hb;cases hb;obtain⟨oe,vs,T,oT,ts,g1,g2,g3,g4,_⟩:=fl.tr;exact Gz g1 g2 g3 g4
  .refine(ok b ob hb).stay (λc u hc q=>xi c u ?_ q ?_) (λ_ q=>q) λ_ _ q=>q
   .rcases hc with z | z
    .exact⟨ob,z▸hb⟩
    .exact⟨_,z⟩
   .rintro rfl;rcases hc with z | z
    .exact hbe z.symm
    .rw[he]at z;cases z
end
noncomputable def sux (X:Cx)(e:AD):Cx:={ X with A:=X.A.mark (some (.ref e)),calm:=false,xe:=λ_ _=>False }
section
def lO.sux (I:lO X Ao U H s)(e:AD):lO (L2.sux X e) Ao U H s:=
 ⟨⟨I.ok.mod,I.ok.kind,I.ok.glob,I.ok.blt,I.ok.above,I.ok.inj,I.ok.has,I.ok.cab,(λz=>by cases z),I.ok.frames,I.ok.stk,I.ok.exf,I.ok.bs,I.ok.bsz,I.ok.noex,I.ok.exfs,I.ok.funs,I.ok.frf⟩,I.os,I.bare,I.base,I.loc,I.cell,I.free,I.freeC,I.pin,I.hok,I.len⟩
def lO.unsux (hh:X.calm=true->X.A.handled=none)(I:lO (L2.sux X e) Ao U H s):lO X Ao U H s:=
 ⟨⟨I.ok.mod,I.ok.kind,I.ok.glob,I.ok.blt,I.ok.above,I.ok.inj,I.ok.has,I.ok.cab,hh,I.ok.frames,I.ok.stk,I.ok.exf,I.ok.bs,I.ok.bsz,I.ok.noex,I.ok.exfs,I.ok.funs,I.ok.frf⟩,I.os,I.bare,I.base,I.loc,I.cell,I.free,I.freeC,I.pin,I.hok,I.len⟩
def lO.unbind (I:lO X Ao U H s)(hN:X.N.Nodup)(hi:X.N[i]?=some x)(hm:∀(i:Nat) (x:Str) (v:V),X.N[i]?=some x->U[i]?=some (some v)->wz X.env.scope x->∃u,ft v u/\Look X.env s.heap m x u)
  (hn':h'.Ns X.env.locals (λy=>if y=x then v else m y)) (hs:Heap.SameBut X.env.locals s.heap h'):lO X Ao (U.set i none) H { s with heap:=h',toks:=t' }:=by
 obtain⟨m0,hn,_⟩:=id I.loc;obtain⟨oL,_,_,hoL,_⟩:=id hn;have ab:∀b o,X.s_0.heap.get? b=some o->b≠X.env.locals:=λb o e=>nM (ot (mL e) I.ok.above);refine⟨I.ok,I.os,I.bare,⟨λb o e n hb hx=>(hs.2 b (ab b o e)).trans (I.base.keep b o e n hb hx),λb o e n hb hx=>?_,I.base.free,λb o e hx=>?_,I.base.tups,I.base.frzs,I.base.tbls⟩,⟨_,hn',λj y v' e1 e2 e3=>?_⟩,λy c e=>?_,I.free,I.freeC,λp hp=>?_,λb ob e=>?_,~~~I.len⟩
 .obtain⟨sl,e1⟩:=I.base.slot b o e n hb hx;exact⟨sl,(hs.2 b (ab b o e)).trans e1⟩
 .obtain⟨o',e1⟩:=I.base.there b o e hx;exact⟨o',(hs.2 b (ab b o e)).trans e1⟩
 .have hj:j≠i:=by
   rintro rfl;by_cases hl:j<U.length
   .rw[List.getElem?_set_self hl]at e2;cases e2
   .rw[List.set_eq_of_length_le (Nat.le_of_not_lt hl),tI (Nat.le_of_not_lt hl)]at e2;cases e2
  rw[List.getElem?_set_ne (mH hj)]at e2;obtain⟨u',r',q⟩:=hm j y v' e1 e2 e3;refine⟨u',r',?_⟩;rcases q with⟨k,e⟩|⟨k,c,e,z⟩
  .refine .inl ⟨k,?_⟩;have:y≠x:=λe=>hj (Cp hN e1 (e▸hi));simp[this,e]
  .exact .inr ⟨k,c,e,z.sameBut hs (I.cne y c e)⟩
 .obtain⟨w',z⟩:=I.cell y c e;exact⟨w',z.sameBut hs (I.cne y c e)⟩
 .obtain⟨e,n,ne,nf,d⟩:=I.pin p hp;exact⟨(hs.2 p.1 ne).trans e,n,ne,nf,d⟩
 .refine(I.hok b ob e).stay (λc w' hc q=>(hs.2 c ?_).trans q) (λ_ q=>q) λ_ _ q=>q;rintro rfl;rcases hc with z | hc
  .rw[<-z,I.free]at e;cases e
  .rw[I.free]at hc;cases hc
end
abbrev TH:=Addr->AD->gz->St->Hp->Prop
def zT (X:Cx)(hs:List ExceptHandler)(th:TH):Prop:=∀(Ao:AA) (s:AE) (U:St) (H:Hp) (D:gz) (e C:AD) (d:Option AD) (B:Heap),(∀h5,qF B X.stack e (.ref C) d .none h5->s.heap.UpToSlots h5->lO X Ao U H { s with heap:=h5 })->H e=some (xr e C d)->qF B X.stack e (.ref C) d .none s.heap->th e C D U H ->
 wpAny (model X.prog X.w) X.A (handleBy (.ref e) X.env hs) (SP X Ao D) X.xe s
def Dk (i:Nat)(D:gz):gz:={ nx:=λU H=>D.nx (U.set i none) H,rt:=D.rt,bk:=λU H=>D.bk (U.set i none) H,ct:=λU H=>D.ct (U.set i none) H }
def Hk (K:Frag)(C0:AD)(i:Nat)(ts:TS)(tr:TH):TH:=λe C D U H=>∃b,exmOne K (.ref C) (.ref C0)=some b/\if b=true then ts (Dk i D) (U.set i (some (.ref e))) H else tr e C D U H
def jn:TH:=λ_ _ _ _ _=>False
def ZoD:zT X [] jn:=λ_ _ _ _ _ _ _ _ _ _ _ _ h=>h.elim
def ZjX (h1:h.get? e=some o)(h2:o.cls=.ref C):Looks M h (typeOf (.ref e)) (.ref C):=by
 intro A Q E s k q;have h1':=k _ _ h1;obtain⟨hp,g,d,tk,os⟩:=s;unfold typeOf;repeat (first | (with_reducible refine tL h1' ?_;rw[h2]) | wp_step)
 exact q
section
variable {X:Cx}{x n:Str}{np pos:Pos}{b_0:Stmt}{suite:List Stmt}{f8:List ExceptHandler}{ts:TS}{tr:TH}{C0:AD}{i:Nat}
def ZqL (hc:X.calm=true->X.A.handled=none)(hg:Gl X x)(hm:X.mg x=some (.ref C0))(hN:X.N.Nodup)(hi:X.N[i]?=some n)(hl:X.env.scope.names.lookup n=some .local)(hs:∀e,ql (sux X e) (b_0::suite) ts)(hr:zT X f8 tr)
  (hdb:(x == ("__debug__":Str))=false:=by decide):zT X (.ExceptHandler (some (.Name x np)) (some n) (b_0::suite) pos::f8) (Hk X.K C0 i ts tr):=by
 intro Ao s U H D e C d B cv he fl h;obtain⟨b,hb,h⟩:=h;have I:lO X Ao U H s:=cv s.heap fl (Heap.UpToSlots.refl _);have J:=I.sux e;refine wpAny_handleBy_cons (codeAny_handlers_test (u6 (X:=sux X e) J hg hm ?_ hdb)) (by intro q;cases q);obtain⟨oe,vs,T,oT,tt,g1,g2,_⟩:=id fl.tr;refine(PySem.W.exm_one (M:=model X.prog X.w) I.kIn (ZjX g1 g2) hb).here ?_;have hp:(X.env.scope.kind == .class || (X.env.scope.kind == .module&&X.env.locals != X.env.globals))=false:=by rw[I.ok.kind];rfl
 cases b with
 | false=>exact hr Ao s U H D e C d B cv he fl h
 | true=>
  refine codeAny_handlers_suite_as (zV fl λh6 fl6 up6=>?_);have J6:=(cv h6 fl6 up6).sux e;refine yh (X:=sux X e) (i:=i) J6 hN hi (.inl hl) (v:=.ref e) rfl (λs7 I7=>?_) (.inr hl);refine pG (hs e Ao s7 _ H (Dk i D) I7 h) (λf s8 q=>?_) λ_ _ z=>False.elim z;have goes:∀ {U8:St} {H8:Hp} {Q:Unit->AE->Prop} (I8:lO (sux X e) Ao U8 H8 s8),(∀s9,lO X Ao (U8.set i none) H8 s9->Q () s9)->wpAny (model X.prog X.w) X.A (do bindName X.env n .none;unbindBehindTheSuite X.env n pos) Q X.xe s8:=λ{U8 H8 Q} I8 k=>by have I9:=I8.unsux hc;obtain⟨m,hn,hm'⟩:=I9.loc;exact wpAny_nameGoes_keeps hl hn hp λh' v hn' sb=>k _ (I9.unbind hN hi hm' hn' sb)
  cases f with
  | next=>
   obtain⟨U8,H8,I8,q8⟩:=q;exact goes I8 λs9 I9=>⟨_,H8,I9,q8⟩
  | brk=>
   obtain⟨U8,H8,I8,q8⟩:=q;exact goes I8 λs9 I9=>⟨_,H8,I9,q8⟩
  | cont=>
   obtain⟨U8,H8,I8,q8⟩:=q;exact goes I8 λs9 I9=>⟨_,H8,I9,q8⟩
  | ret u=>
   obtain⟨v,U8,H8,I8,r8,q8⟩:=q;exact goes I8 λs9 I9=>⟨v,_,H8,I9,r8,q8⟩
def tTry (tb:yC)(th:TH):TS:=λD U H=>tb D (λU' cls oe H'=>∃e C,cls=.ref C/\oe=some e/\th e C D U' H') U H
def ZoB (hst:X.stack=X.env::X.outer)(hfr:X.env.frame=some X.env.locals)(hb:PSsx X body tb)(hh:zT X (h₀::hs) th):
  PS X (.Try body (h₀::hs) [] [] pos) (tTry tb th):=by
 intro Ao s U H D I h;refine wpAny_Try_except (pG (hb Ao s U H D _ I h) (λf s1 q=>?_) λev s1 q=>?_)
 .cases f with
  | next=>exact wN q
  | ret v=>exact q
  | brk=>exact q
  | cont=>exact q
 .obtain⟨U',H2,s2,I2,e,C,d,H',h1,B,rfl,os,bare,un,ok,he,kept,fl,up,e',C',ec,ee,hth⟩:=q;cases ec;cases ee;have fr:X.A.frames=some (X.env::X.outer):=by rw[<-hst];exact I.ok.frames
  rw[hst]at fl;refine Go fr hfr fl λh4 fl4 up4=>zV (s:={ s1 with heap:=h4 }) fl4 λh5 fl5 up5=>?_;rw[<-hst]at fl5;exact hh Ao { s1 with heap:=h5 } U' H' D e C d B (λh6 fl6 up6=>ZiR (s1:=s1) I2 os bare un ok he kept fl6 (up.trans (up4.trans (up5.trans up6)))) he fl5 hth
end
open PySem.W (Frag findIn specialIn typeIn mroIn clsIn subIn kitOne kitCls InstAt Looks)
section
def Fa (I:lO X Ao U H s)(h:H e=some (xr e C d)):∃(o:Obj) (vs:Array Value),s.heap.get? e=some o/\o.cls=.ref C/\o.dict=d/\o.data=.fields vs:=(I.hok e _ h).1
def ig.inst (I:lO X Ao U H s)(x:ig H e C fs):∃(ox:Obj) (od:Option Obj),InstAt s.heap e ox C od/\∀name,∃r,(match od with | some o=>lookIn name o | none=>some none)=some r/\gi (fs.lookup name) r:=by
 cases x with
 | un h=>exact h.inst I
 | bare h=>
  obtain⟨o,vs,h1,h2,h3,h4⟩:=Fa I h;exact⟨o,none,⟨h1,h2,by unfold notCls;rw[h4],by rw[h3];trivial⟩,λname=>⟨none,rfl,by trivial⟩⟩
 | @full d _ h h' hne=>
  obtain⟨o,vs,h1,h2,h3,h4⟩:=Fa I h;obtain⟨⟨_,mA,hn,hr,_⟩,_⟩:=I.hok d _ h';obtain⟨od,hod,hl⟩:=CA hn;exact⟨o,some od,⟨h1,h2,by unfold notCls;rw[h4],by rw[h3];exact hod⟩,λname=>⟨mA name,hl name,hr name⟩⟩
def Zp0 (I:lO X Ao U H s)(x:ig H e C fs)(c:Xc X.K C)(n:fF X.K C f)(l:fs.lookup f=some v)(h:∀u s',lO X Ao U H s'->ft v u->Q u s'):wpAny (model X.prog X.w) A (getAttr (.ref e) f b) Q E s:=by
 obtain⟨ox,od,J,hr⟩:=x.inst I;obtain⟨r,hl,ro⟩:=hr f;rw[l]at ro;obtain⟨u,rfl,ru⟩:=gi.some_of ro;refine Zid I.kIn J c ?_ (Gv ru) (h u _ (I.tok _) ru);cases od with
 | none=>cases hl
 | some o=>exact findObj_own c.hd n rfl hl
end
def D9 (K:Frag)(ta:TE)(f:Str):TE:=λU H Q=>ta U H λx H1=>∃e C fs v,x=.ref e/\ig H1 e C fs/\Xc K C/\fF K C f/\fs.lookup f=some v/\Q v H1
def Ct {X:Cx}{K:Frag}{e:Expr}{f:Str}{pos:Pos}{ta:TE}(hK:X.K=K)(he:PE X e ta)(hb:attributeBase e f X.env (eval e X.env)=eval e X.env):PE X (.Attribute e f pos) (D9 K ta f):=by subst hK;intro Ao s U H Q I h;refine Fg hb (mB (he Ao s U H _ I h) λu s1 zz=>?_);obtain⟨x,H1,I1,rx,a,C,fs,v,ex,xa,c,n,l,q⟩:=zz;subst ex;obtain rfl:u=Value.ref a:=rx;exact Zp0 I1 xa c n l λu' s2 I2 ru=>⟨v,H1,I2,ru,q⟩
inductive BJ (K:Frag) (H:Hp):V->Value->Prop where
 | ty {x:V} {t:Value} (h:xy K H x t):BJ K H x t
 | exc {e C:AD} {fs:List (Str×V)} (x:ig H e C fs) (i:Xi K C):BJ K H (.ref e) (.ref C)
def u4 {X:Cx}{K:Frag}(hK:X.K=K):pR X (.builtin "isinstance") (λxs H Q=>∃x c t k b,xs=[x,c]/\clsV c=some k/\BJ K H x t/\kitOne K t k=some b/\Q (.bl b) H):=by
 subst hK;rintro Ao s U H xs us Q I r ⟨x,c,t,k,b,rfl,hk,ty,e,q⟩;cases ty with
 | ty h=>exact Zhl Ao s U H _ us Q I r ⟨x,c,t,k,b,rfl,hk,h,e,q⟩
 | exc xa i=>
  obtain⟨u,v,rfl,ru,rv⟩:=r.two;have hv:v=k:=by
   cases c with
   | ref a=>cases hk;exact rv
   | ty n=>cases hk;exact rv
   | _=>cases hk
  subst hv;cases ru;obtain⟨ox,od,J,_⟩:=xa.inst I;exact qJ (Gi i) I.kIn J e (λz=>nomatch z) λtk=>⟨.bl b,H,I.tok _,rfl,q⟩
def En {K:Frag} {C D:AD} {m1 m2:AC} {b:Bool} (c:gT K C m1) (d:gT K D m2) (hb:m2.contains (.type "BaseException")=true) (h:m1.contains (.ref D)=b):exmOne K (.ref C) (.ref D)=some b:=by
 obtain⟨cd,e1,e2⟩:=c.cd;obtain⟨cd',e3,e4⟩:=d.cd;have hs:PySem.W.subIn K (.ref D) (.type "BaseException")=some true:=by unfold PySem.W.subIn mroIn;dsimp only;rw[e3,sj,e4,d.ne,hb];rfl
 unfold exmOne;rw[lU (by rw[hs];rfl)];unfold PySem.W.kitCls;dsimp only;rw[e3,d.ty];simp only[Option.isSome_some,sS,beq_self_eq_true,if_true];unfold PySem.W.subIn mroIn;dsimp only;rw[e1,sj,e2,c.ne,h];rfl
open PySem.W (Frag)
theorem fJ.there {P:AG}{w:AI}{H:Hp}{h:Heap}{a:AD}:∀ {o:HO},fJ P w H h a o->∃u,h.get? a=some u
 | .lst _,x=>by obtain⟨_,_,_,_,e⟩:=x;exact⟨_,e⟩
 | .tup _,x=>by obtain⟨_,_,_,ob,e,_⟩:=x;exact⟨_,e⟩
 | .dK _,x=>by obtain⟨_,_,_,_,ob,_,_,e,_⟩:=x;exact⟨_,e⟩
 | .dT _,x=>by obtain⟨_,_,_,_,ob,_,_,e,_⟩:=x;exact⟨_,e⟩
 | .set _ _,x=>by obtain⟨ob,_,_,_,e,_⟩:=x;exact⟨_,e⟩
 | .ins _ _ _,x=>by obtain⟨_,_,_,e,_⟩:=x;exact⟨_,e⟩
 | .own _,x=>x
 | .xd _,x=>by obtain⟨_,⟨ob,_,_,e,_⟩,_⟩:=x;exact⟨_,e⟩
 | .met _ _,x=>⟨_,x⟩
 | .rng _ _,x=>by obtain⟨_,_,_,e⟩:=x;exact⟨_,e⟩
 | .frz _ _,x=>⟨_,x.1⟩
 | .tbl _,x=>⟨_,x⟩
 | .ext _,x=>x.2.1
def nZ.none_of (ok:nZ P w H h)(n:h.get? a=none):H a=none:=by
 cases q:H a with
 | none=>rfl
 | some o=>
  obtain⟨u,hu⟩:=(ok a o q).there;rw[n]at hu;cases hu
def lO.laid2 (I:lO X Ao U H s)(os:s'.os=s.os)(hg:s'.gens=s.gens)(k:∀b u,s.heap.get? b=some u->s'.heap.get? b=some u)(nw:s.heap.get? a=none)
  (new:fJ X.prog X.w (upd H a o) s'.heap a o):lO X Ao U (upd H a o) s':=by
 have hn:=I.hok.none_of nw;have ne:∀b u,s.heap.get? b=some u->b≠a:=λb u q z=>by rw[z,nw]at q;cases q
 have neH:∀b u,H b=some u->b≠a:=λb u q=>mM q hn;refine I.call' (ch:=[]) os ⟨λb u q _ _ _=>k b u q,λb u q _ _ _=>⟨u.slots,k b u q⟩,λb u q n _=>by rw[lR (ne b u q)];exact n,λb u q _=>⟨u,k b u q⟩,λb xs q=>by rw[lR (neH b _ q)];exact q,λb u v q=>by rw[lR (neH b _ q)];exact q,λb ps q=>⟨#[],by rw[lR (neH b _ q),Array.append_empty];exact q⟩⟩
  (λb u q=>?_) (by rw[hg];exact I.bare) (λb hb=>by cases hb)
 by_cases hb:b=a
 .subst hb;rw[mq]at q;cases q;exact new
 .rw[lR hb]at q;exact(I.hok b u q).stay (λc w' _ q=>k c w' q) (λc q=>by rw[lR (neH c _ q)];exact q) λc xs q=>by rw[lR (neH c _ q)];exact q
section
noncomputable def fK (l:lN):lX:=l.map λc=>[c]
def Zg7 (h:ItemsOf (SignAt ⟨l.toArray⟩) acc (⟨l.toArray⟩:Str).cps.size):fi ((fK l).map tx) acc.toList:=by
 obtain⟨h1,h2⟩:=h;have hl:(⟨l.toArray⟩:Str).cps.size=l.length:=by show l.toArray.size=_;simp
 rw[hl]at h1;have gen:∀(l:lN) (us:AC),us.length=l.length->(∀(j:Nat) (v:Value),us[j]?=some v->∃(c:Nat) (u:Tok),l[j]?=some c/\v=Value.str ⟨#[c]⟩ u)->fi ((fK l).map tx) us:=by
  intro l;induction l with
  | nil=>
   intro us hl _;have:us=[]:=yd hl;subst this;exact .nil
  | cons c l ih=>
   intro us hl h;cases us with
   | nil=>cases hl
   | cons u us=>
    obtain⟨c',t,e,rfl⟩:=h 0 u rfl;cases e;refine .cons ⟨t,rfl⟩ (ih us (~~~hl) λj v e=>h (j+1) v e)
 refine gen l acc.toList (by rw[oB,h1]) λj v e=>?_;rw[qL]at e;obtain⟨c,u,e1,e2⟩:=h2 j v e;exact⟨c,u,~~~e1,e2⟩
def Dg (hc:X.calm=true):pR X (.type "list") (λxs H Q=>∃l,xs=[tx l]/\l.length<=1000/\fY ((fK l).map tx) H Q):=by
 rintro Ao s U H xs us Q I r ⟨l,rfl,hz,q⟩;obtain⟨u,rfl,t,rfl⟩:=r.one;have hl:(⟨l.toArray⟩:Str).cps.size=l.length:=by show l.toArray.size=_;simp
 refine call_list_str (I.ok.hd hc) _ t (λh' tk acc c k e it=>?_) (by rw[hl];exact Nat.le_of_lt (DB hz));refine⟨.ref s.heap.objs.size,_,I.laid (t':=tk) k (mC _) ?_,rfl,q _ I.fresh⟩;exact⟨by unfold fK;rw[lZ,lZ];exact Nat.le_of_lt (DB hz),acc.toList,c,Zg7 it,by rw[Br];exact e⟩
def Zkz (hc:X.calm=true):pR X (.builtin "all") (λxs H Q=>∃(a:AD) (bs:List Bool),xs=[.ref a]/\H a=some (.lst (bs.map V.bl))/\Q (.bl (bs.all id)) H):=by
 rintro Ao s U H xs us Q I r ⟨a,bs,rfl,ha,q⟩;obtain⟨u,rfl,ru⟩:=r.one;cases ru;obtain⟨_,its,n,r',Aq,e⟩:=I.lstM ha;have hl:s.heap.IsList a its.toArray:=y9 e;have hne:a≠s.heap.objs.size:=nM (mL e);refine call_all_walkS (vS hl ?_);have hL:its.toArray.size=bs.length:=by rw[nP,<-r'.length,lZ]
 have W:=(Walks.list (prog:=X.prog) (w:=X.w) (A:=X.A.in1) (~~~I.ok.hd hc) s.heap.objs.size a hne its.toArray).toS;refine⟨s.heap.objs.size,_,_,_,_,_,_,λi=>bs.getD i true,rfl,W,⟨⟨_,nV _ rfl,rfl,rfl⟩,hl.push _⟩,?_,λs' hm=>?_⟩
 .intro i v s Q E hv hQ;have e':its[i]?=some v:=by simpa using hv
  obtain⟨x,hx,rx⟩:=yn r' e';rw[om]at hx;cases hb:bs[i]? with
  | none=>rw[hb]at hx;cases hx
  | some b=>
   rw[hb]at hx;cases hx;obtain rfl:v=Value.bool b:=rx;have:bs.getD i true=b:=by rw[nN,hb];rfl
   have hQ':Q (bs.getD i true) s:=hQ;rw[this]at hQ';exact uz hQ'
 .have ea:(List.range its.toArray.size).all (λi=>bs.getD i true)=bs.all id:=by
   rw[hL];rw[pO,qE,qE];constructor
   .intro h b hb;obtain⟨i,hi,rfl⟩:=qS hb;have:=h i (oY.mpr hi);rw[nN,mT hi]at this;exact this
   .intro h i hi;have hi:=oY.mp hi;rw[nN,mT hi];exact h _ (rq hi)
  rw[ea];have I2:lO X Ao U H s':=I.call' (ch:=[]) hm.os (Un.kept λb o q=>hm.heap b o (λz=>?_) (mR _ q)) (I.hok.kept λb o q=>hm.heap b o (λz=>?_) (mR _ q)) (by rw[show s'.gens=s.gens from hm.gens];exact I.bare) (λb hb=>by cases hb)
  .exact⟨.bl _,H,I2,rfl,q⟩
  .have z:b=s.heap.objs.size:=by simpa using z
   rw[z]at q;exact IG (mL q) (o4 _)
  .have z:b=s.heap.objs.size:=by simpa using z
   rw[z]at q;exact IG (mL q) (o4 _)
noncomputable def kR (P:AG)(w:AI)(a:AD)(ls:lX):HO:=.ext λh=>f9 P w h a ls (!o3 w)
def Zmw (x:f9 P w h a ls (!o3 w)):fJ P w H h a (kR P w a ls):=by obtain⟨o,es,ep,t,ms,h1,r⟩:=id x;exact⟨x,⟨o,h1⟩,λg1 g2 y k=>y.keep k⟩
def pz (ls:lX):lX:=ls.foldl gA []
def Bb:dd (λi=>ls.getD i []) ls.length=pz ls:=by
 unfold dd pz;congr 1;apply qZ
 .simp
 .intro n h1 h2;simp[h2]
def Da (hc:X.calm=true):pR X (.type "set") (λxs H Q=>∃ls:lX,ls.length<=1000/\((∃l,xs=[tx l]/\ls=fK l)\/∃a,xs=[.ref a]/\m8 X.K H a (ls.map tx))/\∀p,H p=none->Q (.ref p) (upd H p (kR X.prog X.w p (pz ls)))):=by
 rintro Ao s U H xs us Q I r ⟨ls,hz,hx,q⟩;have hb:ls.length+1<scanBound:=by show _<4096;lia
 have fin:∀(h':Heap) (tk:Nat),f9 X.prog X.w h' s.heap.objs.size (pz ls) (!o3 X.w)->(∀b o,s.heap.get? b=some o->h'.get? b=some o)->EP X Ao U Q (.ref s.heap.objs.size) { s with heap:=h',toks:=tk }:=λh' tk hS k=>
  ⟨.ref s.heap.objs.size,_,I.laid (t':=tk) k (mC _) (Zmw hS),rfl,q _ I.fresh⟩
 rcases hx with⟨l,rfl,rfl⟩|⟨a,rfl,hq⟩
 .obtain⟨u,rfl,t,rfl⟩:=r.one;have hl:(fK l).length=l.length:=by unfold fK;rw[lZ]
  have e0:dd (λi=>[l.getD i 0]) l.length=pz (fK l):=by
   unfold dd pz fK;congr 1;apply qZ
   .simp
   .intro n h1 h2;have:n<l.length:=by simpa using h2
    simp[this]
  refine Ea (I.ok.hd hc) (ZgJ (prog:=X.prog) (w:=X.w) (s:=s) (l:=l) (t:=t)) F.sub_str_set F.sub_str_frozenset ⋯ (by rw[<-hl];exact hb) λh' tk hS k _=>?_;rw[e0]at hS;exact fin h' tk hS k
 .obtain⟨u,rfl,ru⟩:=r.one;cases ru;obtain⟨its,rv,p,_⟩:=I.list hq;refine Ea (I.ok.hd hc) (ZgK (prog:=X.prog) (w:=X.w) (s:=s) p.isList rv) F.sub_list_set F.sub_list_frozenset ⋯ hb λh' tk hS k _=>?_;rw[Bb]at hS;exact fin h' tk hS k
end
def on (h:x=⟨l.toArray⟩):PE X (.Constant (.str x) j pos) (tC (tx l)):=by subst h;exact ZoG
def Zk4 (hg:Gl X x) (hm:∃t,X.mg x=some (.str y t)) (hd:(x == ("__debug__":Str))=false:=by decide):PE X (.Name x pos) (tC (.str y)):=by obtain⟨t,h⟩:=hm;exact wk hg h ⟨t,rfl⟩ hd
def uC (hg:Gl X x) (hm:∃t,X.mg x=some (.int y t)) (hd:(x == ("__debug__":Str))=false:=by decide):PE X (.Name x pos) (tC (.int y)):=by obtain⟨t,h⟩:=hm;exact wk hg h ⟨t,rfl⟩ hd
section
variable {CX:sC}{P:AG}{w:AI}{K:ma}{mg:AB}{base:Heap}{N:AJ}{qual:Str}{scope:Scope}{f:AD}{cd:Value}{A:AH}{outer:List Env}{s:AE}{H:Hp}{E:XK}{X:Cx}{e:AD}
def cxPr:(gE CX P w K mg base N qual scope f cd A outer s H E).prog=P:=rfl
def cxWo:(gE CX P w K mg base N qual scope f cd A outer s H E).w=w:=rfl
def suxK:(sux X e).K=X.K:=rfl
def Zp8:(sux X e).prog=X.prog:=rfl
def Zp7:(sux X e).w=X.w:=rfl
end
open PySem.W (Frag KeqHits)
section
end
open PySem.W (Frag)
def Zm8 {P:AG}{w:AI}{K:Frag}{mg:AB}{base:Heap}{N:AJ}{qual:Str}{scope:Scope}{f:AD}{cd:Value}{A:AH}{outer:List Env}{s0:AE}{H0:Hp}{E:XK}:
  rQ (qk P w) (gE (qk P w) P w K mg base N qual scope f cd A outer s0 H0 E) E:=by
 intro Ao U H s ev s' I hx;generalize hX:gE (qk P w) P w K mg base N qual scope f cd A outer s0 H0 E=X at I hx ⊢;have eA:X.A=A.deeper (envOfC qual scope s0.heap.objs.size f cd):=by rw[<-hX];rfl
 have eS:X.stack=envOfC qual scope s0.heap.objs.size f cd::outer:=by rw[<-hX];rfl
 have eF:X.fs=oz outer:=by rw[<-hX];rfl
 have e0:X.s_0=s0:=by rw[<-hX];rfl
 have eH:X.H_0=H0:=by rw[<-hX];rfl
 have eX:X.ex=[]:=by rw[<-hX];rfl
 have ePr:X.prog=P:=by rw[<-hX];rfl
 have eW:X.w=w:=by rw[<-hX];rfl
 have hxe:∀ev s',wpAny (model P w) (A.deeper (envOfC qual scope s0.heap.objs.size f cd)) (leaving (envOfC qual scope s0.heap.objs.size f cd) ev) (λ_ s''=>qk P w outer H0 s0 E ev s'') (λe' s''=>qk P w outer H0 s0 E e' s'') s'->X.xe ev s':=by intro ev s' z;rw[<-hX];exact z
 obtain⟨e,C,d,H',h1,B,rfl,hos,hbare,un,ok,he,kept,fl,up,hE⟩:=hx;refine hxe _ _ ?_;have hfr:(A.deeper (envOfC qual scope s0.heap.objs.size f cd)).frames=some (envOfC qual scope s0.heap.objs.size f cd::outer):=by rw[<-eA,<-eS];exact I.ok.frames
 have J:lO X Ao U H' { s' with heap:=h1 }:=I.call' (s':={ s' with heap:=h1 }) (ch:=[]) hos un (by rw[ePr,eW];exact ok) hbare (λb hb=>by cases hb);rw[eS]at fl;refine ZiE hfr rfl fl λh' fl' up'=>?_;have os:s'.os=s0.os:=by rw[hos,<-e0];exact I.os
 have un':Un (oz outer) [] H0 H' s0.heap h1:=by
  have:=J.base
  rwa [eF,eX,eH,e0]at this
 refine⟨e,C,d,H',h1,B,rfl,os,hbare,un',ok,he,λb o hb hne hc=>?_,fl',up.trans up',hE⟩;rcases hc with hu | ⟨⟨o',ho'⟩,hn⟩
 .exact kept b o hb hne (.inl hu)
 .refine kept b o hb hne (.inr ⟨?_,λz=>?_⟩)
  .have:=I.base;rw[eF,eX,eH,e0]at this;exact this.there b o' ho' {}
  .rw[eS]at z;have z':b=s0.heap.objs.size\/b∈oz outer:=by have:=z;unfold oz at this;rw[List.filterMap_cons]at this;simpa [envOfC,oz] using this
   rcases z' with z' | z'
   .rw[z']at ho';exact IG (mL ho') (o4 _)
   .exact hn z'
section
end
section
end
def Itz (K:ma)(a b:AD):It:=
  ⟨λi H=>∃xs ys x y,oA K H a xs/\oA K H b ys/\xs.length=ys.length/\xs[i]?=some x/\ys[i]?=some y,
   λi H v H'=>∃p x y,H p=none/\v=.ref p/\H'=upd H p (.tup [x,y])/\(∀xs,oA K H a xs->xs[i]?=some x)/\∀ys,oA K H b ys->ys[i]?=some y,
   λi H=>∃xs ys,oA K H a xs/\oA K H b ys/\xs.length=ys.length/\xs.length=i⟩
section
end
section
end
section
def D4 (l m:lN):Bool:=decide (m.length<=l.length)&&decide (l.drop (l.length-m.length)=m)
noncomputable def ic (l:lN)(n:Int):lN:=(List.replicate n.toNat l).flatten
theorem FY (a:Array Nat):∀(n:Nat) (acc:Array Nat),((List.replicate n a).foldl (·++·) acc).toList=acc.toList++(List.replicate n a.toList).flatten
 | 0,acc=>by simp
 | n+1,acc=>by rw[List.replicate_succ,vL,FY a n,List.replicate_succ];simp
def Zpa (l:lN)(n:Int):Txt.mul ⟨l.toArray⟩ n=⟨(ic l n).toArray⟩:=by
 unfold Txt.mul ic;by_cases h1:n<1
 .rw[lU h1];have:n.toNat=0:=by lia
  rw[this];rfl
 .rw[lT h1];split
  .rename_i h
   rw[Bool.or_eq_true]at h;rcases h with h | h
   .have:n=1:=by simpa using h
    subst this;simp
   .have:l=[]:=by have:=beq_iff_eq.mp h;rw[uq]at this;exact tR.mp this
    subst this;simp
  .congr 1;apply Array.ext';rw[FY];simp
def ZjC:oh X (binaryOp .Mult) (λx y H Q=>∃l n,x=tx l/\y=.int n/\0<=n/\n<=1000/\l.length<=1000/\Q (tx (ic l n)) H):=by
 rintro Ao s U H x y v u Q I rx ry ⟨l,n,rfl,rfl,h0,h1,h2,q⟩;obtain⟨t,rfl⟩:=rx;obtain⟨t',rfl⟩:=ry;have e1:(⟨l.toArray⟩:Str).length=l.length:=uq l;refine SB.mul ⟨?_,λa b=>?_,λa b=>?_⟩ λt2 k=>?_
 .simp only[Bool.or_eq_false_iff,ID];lia
 .rw[e1];have e3:(1000:Int)<=(2 ^ 63-1)/n:=by
   rw[Int.le_ediv_iff_mul_le ∅]
   lia
  lia
 .rw[e1];have:l.length*n.toNat<=1000*1000:=vy h2 ∅;unfold Builtin.Str.tooLong;simp only[ID];rw[sizeLine_eq]
  lia
 .rw[Zpa];exact⟨tx _,H,I.tok _,⟨_,rfl⟩,q⟩
end
open PySem.W (Frag)
def B5 {X:Cx} {K:Frag} {T id:String} {name:Str} {o e:Expr} {es:List Expr} {to:TE} {t:TA} {Au Aw:Pos} {r:V->IJ->Hp->VK->Prop} (hK:X.K=K) (pa:PlainAttrs T) (slot:Slot T name id) (hty:typeOf (.builtin id)=pure (.type "method_descriptor")) (hm:Dn X id r) (ho:PE X o to) (ha:PA X (e::es) t)
  (hbase:attributeBase o name X.env (eval o X.env)=eval o X.env:=by rfl)
  (hfew:((backTo Aw (starEach (e::es) X.env)).all (λx=>!x.1)&&(backToKw Aw (keywordEach [] X.env)).all (λx=>x.1.isSome)&&decide ((e::es).length+([]:List Keyword).length+(if ([]:List Keyword).isEmpty then 0 else 1)<30))=true:=by rfl)
  (hline:(Au.endLine == Aw.line)=true:=by rfl) (hs:starEach (e::es) X.env=(false,eval e X.env)::starEach es X.env:=by rfl) (hplain:(backTo Aw (starEach es X.env)).any (·.1)=false:=by rfl):PE X (.Call (.Attribute o name Au) (e::es) [] Aw) (Ck K T r to t):=by
 subst hK;exact rj pa slot hty hm ho ha hbase hfew hline hs hplain
def Ip (w:lN)(e z:Nat):lN:=(w.drop (e-z)).take z
def Fh (he:e<=w.length):D4 (w.take e) m=true↔m.length<=e/\Ip w e m.length=m:=by
 unfold D4 Ip;have hl:(w.take e).length=e:=by rw[nG];lia
 rw[nY,Iz,Iz,hl];constructor
 .rintro⟨h1,h2⟩;refine⟨h1,?_⟩;rw[xn]at h2;have:e-(e-m.length)=m.length:=by lia
  rw[this]at h2;exact h2
 .rintro⟨h1,h2⟩;refine⟨h1,?_⟩;rw[xn];have:e-(e-m.length)=m.length:=by lia
  rw[this];exact h2
def DN:TS:=λ_ _ _=>False
def sv {X:Cx}{st:Stmt}:PS X st DN:=λ_ _ _ _ _ _ h=>h.elim
section
def HV (hg:Gl X x) (hm:X.mg x=some (.ref L)) (cr:gH X.K L "__init__" (.ref f)) (F:fB X.prog X.w X.K X.mg X.base CX k f fd ps sp) (hr:fX k X.A) (hk:keepIn X.K (.ref f)=true) (hb:gb X.K fd ps ds) (hd:fi Az ds) (hx:rQ CX X E)
  (ha:PA X (e::es) t) (hdb:(x == ("__debug__":Str))=false:=by decide) (hst:starEach (e::es) X.env=(false,eval e X.env)::starEach es X.env:=by rfl) (hpl:(backTo pos (starEach es X.env)).any (·.1)=false:=by rfl)
  (ht:eval (.Call (.Attribute (.Name x np) "__init__" Au) (e::es) [] pos) X.env=(do
   let ov <-eval (.Name x np) X.env
   standAt Au.atName
   let (f,first) <-holding [ov] (getMethod ov "__init__" pl)
   callWith pos f first (backTo pos (starEach (e::es) X.env)) (backToKw pos (keywordEach [] X.env))):=by rfl):PE X (.Call (.Attribute (.Name x np) "__init__" Au) (e::es) [] pos) (zp sp Az E t):=by
 intro Ao s U H Q I h;refine zg (pl:=pl) (u6 I hg hm ?_ hdb) ht;refine method_cls I.kIn cr.sp (cls_value I.kIn cr.rd cr.fd cr.hn ?_);refine w8 (first:=[]) (h₀:=X.base) I.ok.mod.kin hk (mB (ha pos Ao _ U H _ (I.tok _) h) λus s1 ⟨vs,H1,I1,r,q⟩=>⟨I1.kIn,?_⟩) hst hpl;exact zU F hr hb hd hx I1 r q
end
def gy (c:TT)(tb:TS)(D:gz)(U:St)(H:Hp):Prop:=CO c tb D U H
def Zm0:CO c tb D U H=gy c tb D U H:=rfl
def gy.by (Pv:St->Hp->Prop)(μ:St->Hp->Nat)(h0:Pv U H)
  (hs:∀U H,Pv U H->∃b:Bool,(∀Q:Bool->Hp->Prop,(∀H1,e8 H H1->Q b H1)->c U H Q)/\∀H1,e8 H H1->if b=true then tb { D with nx:=λU' H'=>Pv U' H'/\μ U' H'<μ U H,ct:=λU' H'=>Pv U' H'/\μ U' H'<μ U H,bk:=D.nx } U H1 else D.nx U H1):gy c tb D U H:=by
 refine⟨λm U H=>m=μ U H/\Pv U H,⟨_,rfl,h0⟩,?_⟩;rintro m U H ⟨rfl,p⟩;obtain⟨b,hc,hb⟩:=hs U H p;refine hc _ λH1 s1=>?_;have q:=hb H1 s1;cases b with
 | true=>exact⟨_,λU' H' ⟨p',l⟩=>⟨_,l,rfl,p'⟩,q⟩
 | false=>exact q
def fL (l:lN)(n:Nat):lX:=qM (pz ((List.range (l.length+1-n)).map λi=>(l.drop i).take n))
theorem Hd {x:lN}:∀(ls acc:lX),x∈ls.foldl gA acc↔x∈acc\/x∈ls
 | [],acc=>by simp
 | y::ls,acc=>by
  rw[vL,Hd ls];have h:x∈gA acc y↔x∈acc\/x=y:=by
   unfold gA;split
   .rename_i h
    constructor
    .exact .inl
    .rintro (q | q)
     .exact q
     .rw[q];exact h
   .rw[nJ,mU]
  rw[h,m6,or_assoc]
def CI:x∈pz ls↔x∈ls:=by unfold pz;rw[Hd];simp
def ZjN (ls:lX):(pz ls).Nodup:=by rw[<-Bb];exact yq _
open PySem.W (Frag)
def nB (l w:lN)(i:Nat):Prop:=i+w.length<=l.length/\(l.drop i).take w.length=w
def mj (w l:lN):Prop:=∃i,nB l w i
def yK (l w:lN)(i:Nat):StrLaws.At ⟨l.toArray⟩ ⟨w.toArray⟩ (⟨l.toArray⟩:Str).length i↔nB l w i:=by
 have e1:(⟨l.toArray⟩:Str).length=l.length:=uq l;have e2:(⟨w.toArray⟩:Str).length=w.length:=uq w;unfold StrLaws.At nB Builtin.Str.subAt;rw[e1,e2];refine and_congr_right λh=>?_;have e3:l.toArray.extract i (i+w.length)=((l.drop i).take w.length).toArray:=by
  apply Array.ext';simp only[List.extract_toArray,List.extract_eq_take_drop];have:i+w.length-i=w.length:=by lia
  rw[this]
 show (l.toArray.extract i (i+w.length) == w.toArray)=true↔_;rw[e3,IH];exact⟨λz=>by simpa using IF Array.toList z,λz=>by rw[z]⟩
def nB.nil (l:lN):nB l [] 0:=⟨{},{}⟩
def mj.nil (l:lN):mj [] l:=⟨0,nB.nil l⟩
def mj.len (h:mj w l):w.length<=l.length:=by obtain⟨i,h,_⟩:=h;lia
def mj.mem (h:mj w l){c:Nat}(hc:c∈w):c∈l:=by obtain⟨i,_,h⟩:=h;rw[<-h]at hc;exact pJ (o9 hc)
def mj.refl (l:lN):mj l l:=⟨0,{},{}⟩
def nB.trans (h1:nB v u i)(h2:nB w v j):nB w u (j+i):=by
 obtain⟨a1,b1⟩:=h1;obtain⟨a2,b2⟩:=h2;refine⟨∅,?_⟩;have e:(w.drop (j+i)).take u.length=((((w.drop j).take v.length).drop i).take u.length):=by
  rw[xn,rH,sQ];congr 1
  lia
 rw[e,b2,b1]
def mj.trans (h1:mj u v)(h2:mj v w):mj u w:=by obtain⟨i,h1⟩:=h1;obtain⟨j,h2⟩:=h2;exact⟨_,h1.trans h2⟩
def Bi (w:lN):mj w.tail w:=by
 cases w with
 | nil=>exact mj.nil _
 | cons c w=>exact⟨1,by simp;lia,{}⟩
def Bq (w:lN):mj w.dropLast w:=⟨0,{},by rw[rK,qm,x8]⟩
def HD (h:mj v w)(hl:v.length<w.length):mj v w.dropLast\/mj v w.tail:=by
 obtain⟨i,h1,h2⟩:=h;cases i with
 | zero=>
  refine .inl ⟨0,by rw[qm];lia,?_⟩;rw[rK]at h2 ⊢;rw[x8,sQ];have:min v.length (w.length-1)=v.length:=by lia
  rw[this];exact h2
 | succ i=>
  refine .inr ⟨i,by rw[we];lia,?_⟩;rw[List.drop_tail];exact h2
def xF (h:mj v w)(hl:w.length<=v.length):v=w:=by
 obtain⟨i,h1,h2⟩:=h;have hi:i=0:=by lia
 subst hi;rw[rK,qH hl]at h2;exact h2.symm
def uK (hn:n<=l.length+1):x∈fL l n↔x.length=n/\mj x l:=by
 unfold fL;rw[(u0 _).mem_iff,CI,nj];constructor
 .rintro⟨i,hi,rfl⟩;have hi:=oY.mp hi;have hl:((l.drop i).take n).length=n:=by rw[nG,oZ];lia
  exact⟨hl,i,∅,by rw[hl]⟩
 .rintro⟨rfl,i,h1,h2⟩;exact⟨i,oY.mpr ∅,h2⟩
def DU (l:lN)(n:Nat):(fL l n).length<=l.length+1:=by
 unfold fL;rw[(u0 _).length_eq];have:∀(ls acc:lX),(ls.foldl gA acc).length<=acc.length+ls.length:=by
  intro ls;induction ls with
  | nil=>intro acc;simp
  | cons x ls ih=>
   intro acc;rw[vL];refine mO (ih _) ?_;unfold gA;split<;>simp<;>lia
 have h:=this ((List.range (l.length+1-n)).map λi=>(l.drop i).take n) [];rw[lZ,rW]at h;unfold pz;simp only[wB]at h
 lia
def rp (sh st:lX)(h:lN)(c:Nat):Bool:=decide ((h++[c]).tail∈sh)&&!decide (h++[c]∈st)
def uH (sh st:lX)(m h:lN):lX:=(m.filter (rp sh st h)).map λc=>h++[c]
def ui (sh st:lX)(m:lN):lX:=sh.flatMap (uH sh st m)
def uA (l m:lN)(i:Nat):lX:=(List.range i).flatMap λk=>ui (fL l k) (fL l (k+1)) m
def m5 (l m:lN):lX:=uA l m (l.length+1)
def Ir (l m:lN)(i:Nat):uA l m (i+1)=uA l m i++ui (fL l i) (fL l (i+1)) m:=by unfold uA;rw[t8,yE,List.flatMap_singleton]
def HK (sh st:lX)(m h:lN):(uH sh st m h).length<=m.length:=by unfold uH;rw[lZ];exact pW _ _
theorem xv {α β:Type}{f:α->List β}{b:Nat}(h:∀x,(f x).length<=b):∀l:List α,(l.flatMap f).length<=l.length*b
 | []=>by simp
 | x::l=>by
  rw[List.flatMap_cons,mP,oN,Nat.succ_mul];have:=h x;have:=xv h l
  lia
def Zj4 (sh st:lX)(m:lN):(ui sh st m).length<=sh.length*m.length:=xv (HK sh st m) sh
def CH {sh st:lX}{m w:lN}:w∈ui sh st m↔∃h c,h∈sh/\c∈m/\w=h++[c]/\w.tail∈sh/\w∉st:=by
 unfold ui uH rp;simp only[uN,nj,pD,nY,Bool.not_eq_true',Iz,ID];constructor
 .rintro⟨h,hh,c,⟨hc,h1,h2⟩,rfl⟩;exact⟨h,c,hh,hc,rfl,h1,h2⟩
 .rintro⟨h,c,hh,hc,rfl,h1,h2⟩;exact⟨h,hh,c,⟨hc,h1,h2⟩,rfl⟩
structure io (l w:lN):Prop where
 ne:w≠[]
 init:mj w.dropLast l
 tail:mj w.tail l
 no:¬mj w l
def pM:w∈m5 l m↔io l w/\∃c∈m,w.getLast?=some c:=by
 unfold m5 uA;rw[uN];constructor
 .rintro⟨k,hk,hw⟩;have hk:=oY.mp hk;obtain⟨h,c,h1,hc,rfl,h3,h4⟩:=CH.mp hw;rw[uK ∅]at h1 h3;refine⟨⟨{},~~~h1.2,h3.2,λz=>h4 ((uK ∅).mpr ⟨by simp[h1.1],z⟩)⟩,c,hc,{}⟩
 .rintro⟨⟨ne,hi,ht,hn⟩,c,hc,hl⟩;have e:w.dropLast++[c]=w:=by rw[vt ne]at hl;have h:=yR ne;rw[Option.some.inj hl]at h;exact h
  have Aq:w.dropLast.length=w.length-1:=qm;have h1:1<=w.length:=rR.mpr ne;refine⟨w.length-1,oY.mpr (by have:=hi.len;lia),CH.mpr ⟨w.dropLast,c,?_,hc,e.symm,?_,?_⟩⟩
  .rw[uK (by have:=hi.len;lia)];exact⟨Aq,hi⟩
  .rw[uK (by have:=hi.len;lia)];exact⟨we,ht⟩
  .rw[uK (by have:=hi.len;lia)];exact λz=>hn z.2
def Zfk:∀(n:Nat) (w:lN),w.length=n->(∀c∈w,c∈m)->¬mj w l->∃v,v∈m5 l m/\mj v w:=by
 intro n;induction n with
 | zero=>
  intro w hw _ hn;have:w=[]:=tR.mp hw;rw[this]at hn;exact IG (mj.nil l) hn
 | succ n ih=>
  intro w hw hm hn;have ne:w≠[]:=λe=>by rw[e]at hw;simp at hw
  by_cases hi:mj w.dropLast l
  .by_cases ht:mj w.tail l
   .refine⟨w,pM.mpr ⟨⟨ne,hi,ht,hn⟩,w.getLast ne,hm _ (List.getLast_mem ne),vt ne⟩,mj.refl w⟩
   .obtain⟨v,h1,h2⟩:=ih w.tail (by rw[we];lia) (λc hc=>hm c (List.mem_of_mem_tail hc)) ht;exact⟨v,h1,h2.trans (Bi w)⟩
  .obtain⟨v,h1,h2⟩:=ih w.dropLast (by rw[qm];lia) (λc hc=>hm c (o9 (by rw[<-x8];exact hc))) hi;exact⟨v,h1,h2.trans (Bq w)⟩
def im (h:H e=none)(s:e8 H H2):e8 H (upd H2 e o'):=λb u hb=>by
 have:b≠e:=λz=>by rw[z,h]at hb;cases hb
 rw[lR this];exact s _ _ hb
section
end
section
variable {tt:TT}{te:TE}{Q:VK}{τ0:St}{H:Hp}{K:Frag}{a:AD}{xs:IJ}
def fk.dataF (b:Nat->Bool)(D:Hp->V->Nat->Prop)(mono:∀H H' y i,(∀c us,H c=some (.tup us)->H' c=some (.tup us))->D H y i->D H' y i)(hz:xs.length<=100000)(hx:m8 K H a xs)
  (ht:∀i H' Q' (h:i<xs.length),e8 H H'->(∀H'',e8 H' H''->Q' (b i) H'')->tt (τ0.set 0 (some (xs.getD i .non))) H' Q')
  (he:∀i H' Q' (h:i<xs.length),b i=true->e8 H H'->(∀y H'',e8 H' H''->D H'' y i->Q' y H'')->te (τ0.set 0 (some (xs.getD i .non))) H' Q')
  (hQ:∀p ys H',e8 H H'->H p=none->H' p=some (.lst ys)->ys.length=((List.range xs.length).filter b).length->(∀(k:Nat) (y:V),ys[k]?=some y->∃i,((List.range xs.length).filter b)[k]?=some i/\D H' y i)->Q (.ref p) H'):fk (t7 K a) τ0 (qp 0) tt te H Q:=by
 intro acc ha;refine⟨λi m τ H2=>i<=xs.length/\m=xs.length-i/\(∀w:Option V,τ.set 0 w=τ0.set 0 w)/\e8 H H2/\∃ys,H2 acc=some (.lst ys)/\ys.length=((List.range i).filter b).length/\∀(k:Nat) (y:V),ys[k]?=some y->∃j,((List.range i).filter b)[k]?=some j/\D H2 y j,
  ⟨xs.length,nO _,rfl,λ_=>rfl,oR ha,[],mq,rfl,λi y h=>by simp at h⟩,?_⟩
 rintro i m τ H2 ⟨hi,rfl,hτ,hs,ys,Ar,Aq,hall⟩;by_cases A0:i<xs.length
 .refine .inr ⟨⟨xs,xs[i],hs.seq hx,by simp[A0]⟩,λτ' H'=>(∀w:Option V,τ'.set 0 w=τ0.set 0 w)/\e8 H H'/\∃ys,H' acc=some (.lst ys)/\ys.length=((List.range (i+1)).filter b).length/\∀(k:Nat) (y:V),ys[k]?=some y->∃j,((List.range (i+1)).filter b)[k]?=some j/\D H' y j,λτ' H' q=>⟨xs.length-(i+1),∅,A0,rfl,q⟩,λx H3 y=>?_⟩;obtain⟨rfl,y⟩:=y;have ex:x=xs.getD i .non:=by rw[nN,y xs (hs.seq hx)];rfl
  subst ex;show tt (τ.set 0 (some (xs.getD i .non))) _ _;rw[hτ];have hτ':∀w:Option V,(τ0.set 0 (some (xs.getD i .non))).set 0 w=τ0.set 0 w:=λw=>by rw[List.set_set]
  refine ht i _ _ A0 hs λH4 s4=>?_;cases hb:b i with
  | false=>
   rw[lT mQ];have ef:(List.range (i+1)).filter b=(List.range i).filter b:=by rw[t8,tO];simp[hb]
   refine⟨hτ',hs.trans s4,ys,s4 _ _ Ar,by rw[ef];exact Aq,λk y hy=>?_⟩;obtain⟨j,h1,h2⟩:=hall k y hy;exact⟨j,by rw[ef];exact h1,mono _ _ _ _ (λc us e=>s4 _ _ e) h2⟩
  | true=>
   rw[lU rfl];have ef:(List.range (i+1)).filter b=(List.range i).filter b++[i]:=by rw[t8,tO];simp[hb]
   have fl:=pW b (List.range i);rw[rW]at fl;refine he i _ _ A0 hb (hs.trans s4) λy H5 s5 hD=>⟨ys,s5 _ _ (s4 _ _ Ar),by rw[Aq,sizeLine_eq];lia,hτ',im ha ((hs.trans s4).trans s5),ys++[y],mq,by rw[ef,mP,mP,Aq];rfl,λk z hz'=>?_⟩;have ne:∀c us,H5 c=some (.tup us)->upd H5 acc (.lst (ys++[y])) c=some (.tup us):=λc us h=>by rw[lR (λe=>by rw[e,s5 _ _ (s4 _ _ Ar)]at h;cases h)];exact h
   rw[ef];by_cases hk:k<ys.length
   .rw[py hk]at hz';obtain⟨j,h1,h2⟩:=hall k z hz';exact⟨j,by rw[py (by rw[<-Aq];exact hk)];exact h1,mono _ _ _ _ ne (mono _ _ _ _ (λc us e=>s5 _ _ (s4 _ _ e)) h2)⟩
   .rw[qu ∅]at hz';have hk':k-ys.length=0:=by
     rcases Nat.eq_zero_or_pos (k-ys.length) with h | h
     .exact h
     .rw[tI (by simp;lia)]at hz';cases hz'
    rw[hk']at hz';cases hz';exact⟨i,by rw[qu (by rw[<-Aq];lia),<-Aq,hk'];rfl,mono _ _ _ _ ne hD⟩
 .have e:i=xs.length:=by lia
  subst e;exact .inl ⟨⟨xs,hs.seq hx,mC _⟩,hQ acc ys H2 hs ha Ar Aq hall⟩
end
section
variable {tt:TT}{te:TE}{Q:VK}{τ0:St}{H:Hp}{K:Frag}{a:AD}{xs:IJ}
def fk.listM (b:Nat->Bool)(f:Nat->V)(hz:xs.length<=100000)(hx:m8 K H a xs)
  (ht:∀i H' Q' (h:i<xs.length),e8 H H'->(∀H'',e8 H' H''->Q' (b i) H'')->tt (τ0.set 0 (some (xs.getD i .non))) H' Q')
  (he:∀i H' Q' (h:i<xs.length),b i=true->e8 H H'->(∀H'',e8 H' H''->Q' (f i) H'')->te (τ0.set 0 (some (xs.getD i .non))) H' Q')
  (hQ:∀p H',e8 H H'->H p=none->H' p=some (.lst (((List.range xs.length).filter b).map f))->Q (.ref p) H'):fk (t7 K a) τ0 (qp 0) tt te H Q:=
 .dataF b (λ_ y i=>y=f i) (λ_ _ _ _ _ h=>h) hz hx ht (λi H' Q' h hb s q=>he i H' Q' h hb s λH'' s2=>q _ H'' s2 rfl) λp ys H' s n e el al=>hQ p H' s n (by rw[e];congr 2;refine qZ (by rw[lZ];exact el) λk h1 h2=>?_;obtain⟨j,hj,e⟩:=al k _ (mT h1);rw[e,List.getElem_map,(mX.mp hj).2])
def fk.tupsM (P:Nat->IJ->Prop)(hz:xs.length<=100000)(hx:m8 K H a xs)
  (he:∀i H' Q' (h:i<xs.length),e8 H H'->(∀p vs H'',e8 H' H''->H'' p=some (.tup vs)->P i vs->Q' (.ref p) H'')->te (τ0.set 0 (some (xs.getD i .non))) H' Q')
  (hQ:∀p ys H',e8 H H'->H p=none->H' p=some (.lst ys)->ys.length=xs.length->(∀i y,ys[i]?=some y->∃t vs,y=.ref t/\H' t=some (.tup vs)/\P i vs)->Q (.ref p) H'):fk (t7 K a) τ0 (qp 0) jl te H Q:=
 .dataF (λ_=>true) (λH y i=>∃t vs,y=.ref t/\H t=some (.tup vs)/\P i vs) (λ_ _ _ _ k ⟨t,vs,e,h,p⟩=>⟨t,vs,e,k _ _ h,p⟩) hz hx (λi H' Q' _ _ q=>q H' (e8.refl _)) (λi H' Q' h _ s q=>he i H' Q' h s λp vs H'' s2 e hp=>q _ H'' s2 ⟨p,vs,rfl,e,hp⟩) λp ys H' s n e el al=>by have fa:(List.range xs.length).filter (λ_=>true)=List.range xs.length:=List.filter_eq_self.mpr λ_ _=>rfl;rw[fa]at el al;rw[rW]at el;refine hQ p ys H' s n e el λi y hy=>?_;obtain⟨j,hj,h⟩:=al i y hy;rw[List.getElem?_range (by have:=(mX.mp hy).1;lia)]at hj;cases hj;exact h
end
section
end
def EN:XK:=λ_ _ _=>False
def Zm9:rQ (qk X.prog X.w) X EN:=by intro _ _ _ _ _ _ _ h;obtain⟨_,_,_,_,_,_,_,_,_,_,_,_,_,_,_,z⟩:=h;exact z.elim
section
end
section
def ZnX:HO->Prop
 | .tup _=>False
 | .tbl _=>False
 | .own _=>False
 | _=>True
def lO.shift (I:lO X Ao U H s)(ha:H a=some u)(hu:ZnX u)(hf:∀o v,X.H_0 a≠some (.frz o v))(new:fJ X.prog X.w (upd H a u') s.heap a u'):lO X Ao U (upd H a u') s:=by
 have nn:∀b,H b=none->b≠a:=λb n z=>by rw[z,ha]at n;cases n
 refine⟨I.ok,I.os,I.bare,⟨I.base.keep,I.base.slot,λb o e n hx=>?_,I.base.there,λb xs e=>?_,λb o v e=>?_,λb ps e=>?_⟩,I.loc,I.cell,?_,λx c e=>?_,λp hp=>?_,λb ob e=>?_,I.len⟩
 .have:=I.base.free b o e n hx;rw[lR (nn b this)];exact this
 .have:=I.base.tups b xs e;have ne:b≠a:=λz=>by rw[z,ha]at this;cases this;exact hu
  rw[lR ne];exact this
 .have ne:b≠a:=λz=>hf o v (by rw[<-z];exact e);rw[lR ne];exact I.base.frzs b o v e
 .obtain⟨m,q⟩:=I.base.tbls b ps e;have ne:b≠a:=λz=>by rw[z,ha]at q;cases q;exact hu
  exact⟨m,by rw[lR ne];exact q⟩
 .rw[lR (nn _ I.free)];exact I.free
 .rw[lR (nn _ (I.freeC x c e))];exact I.freeC x c e
 .obtain⟨e,n,r⟩:=I.pin p hp;exact⟨e,by rw[lR (nn _ n)];exact n,r⟩
 .by_cases hb:b=a
  .subst hb;rw[mq]at e;cases e;exact new
  .rw[lR hb]at e;refine(I.hok b ob e).stay (λ_ _ _ q=>q) (λc q=>?_) λc xs q=>?_
   .have ne:c≠a:=λz=>by rw[z,ha]at q;cases q;exact hu
    rw[lR ne];exact q
   .have ne:c≠a:=λz=>by rw[z,ha]at q;cases q;exact hu
    rw[lR ne];exact q
def lO.notFrz (I:lO X Ao U H s)(ha:H a=some u)(hu:∀o v,u≠.frz o v):∀o v,X.H_0 a≠some (.frz o v):=λo v e=>by have:=I.base.frzs a o v e;rw[ha]at this;exact hu o v (Option.some.inj this)
def lO.freezeD (I:lO X Ao U H s)(ha:H a=some (.dK kvs)):∃o es ep,o.data=.dict es ep/\s.heap.get? a=some o/\lO X Ao U (upd H a (.frz o (.dK kvs))) s:=by obtain⟨z,y,vs,r,ob,es,ep,e,c⟩:=I.hok a _ ha;refine⟨ob,es,ep,c.2.1,e,I.shift ha trivial (I.notFrz ha λo v q=>by cases q) ⟨e,z,y,vs,r,ob,es,ep,e,c⟩⟩
def lO.thawD (I:lO X Ao U H s)(ha:H a=some (.frz o (.dK kvs)))(hf:∀o v,X.H_0 a≠some (.frz o v)):lO X Ao U (upd H a (.dK kvs)) s:=by obtain⟨e,z,y,vs,r,c⟩:=I.hok a _ ha;exact I.shift ha trivial hf ⟨z,y,vs,r,c⟩
end
def HX (h:(nW P w).is k u=true):ft (kV k) u:=by
 cases k with
 | inl i=>
  have h':(intKind P w).is i u=true:=h;cases u<;>first | (exact IG h' mQ) | skip
  rename_i j t
  have e:(i == j)=true\/(j == i)=true:=by first | exact .inl h' | exact .inr h'
  rcases e with e | e
  .exact⟨t,by rw[beq_iff_eq.mp e]⟩
  .exact⟨t,by rw[beq_iff_eq.mp e]⟩
 | inr x=>
  have h':(strKind P w).is x u=true:=h;cases u<;>first | (exact IG h' mQ) | skip
  rename_i j t
  have e:(x == j)=true\/(j == x)=true:=by first | exact .inl h' | exact .inr h'
  rcases e with e | e
  .exact⟨t,by rw[beq_iff_eq.mp e]⟩
  .exact⟨t,by rw[beq_iff_eq.mp e]⟩
def A2 (o:Obj)(kvs:List (mh×V))(a:AD):It:=
 ⟨λi H=>H a=some (.frz o (.dK kvs))/\i<kvs.length,λi H x H'=>H'=H/\∃p,kvs[i]?=some p/\x=kV p.1,λi H=>H a=some (.frz o (.dK kvs))/\kvs.length<=i⟩
def KV.getK (r:KV kvs vs):∀ {i:Nat} {p:mh×V},kvs[i]?=some p->∃v,vs[i]?=some (p.1,v):=by
 intro i p h;have hk:=r.keys;have hl:=r.length;have hi:i<vs.length:=by rw[<-hl];exact(mX.mp h).1
 have e1:(kvs.map (·.1))[i]?=some p.1:=by rw[om,h];rfl
 rw[hk,om,mT hi]at e1;refine⟨vs[i].2,?_⟩;rw[mT hi];have:vs[i].1=p.1:=Option.some.inj e1;rw[<-this]
def Zja {P:AG}{w:AI}{K:ma}{tg:Expr}{o:Obj}{es:Array DictEntry}{ep:Nat}{kvs:List (mh×V)}(a it:AD)(hd:o.data=.dict es ep):iC P w K tg (A2 o kvs a) [it] it (λi h=>h.IsKeyIter it a i kvs.length ep) where
 mem:=by simp
 obj:=λi h st b hb=>by
  have e:b=it:=by simpa using hb
  subst e;obtain⟨o,e,c,d⟩:=st;exact⟨o,e,λv z=>by rw[d]at z;cases z⟩
 keep:=λi h h' st k=>let ⟨o,ho,r⟩:=st;⟨o,k it {} o ho,r⟩
 item:=by intro X hP hw hK hc i Ao s U H E I hf st hg;subst hP hw hK;obtain⟨ha,hi⟩:=hg;obtain⟨e,z,y,vs,r,o',es',ep',e',c1,c2,c3⟩:=I.hok a _ ha;rw[e]at e';cases e';rw[hd]at c2;cases c2;obtain⟨v,hv⟩:=r.getK (mT hi);obtain⟨f0,f1,f2,f3,f4,f5⟩:=hf it {};rw[r.length]at st;refine wpAny_pyNext_dict_item st ⟨o,es,e,c1,hd,c3⟩ hv λkey h' hk st' sb=>?_;have I1:lO X Ao U H { s with heap:=h' }:=I.turned (t':=s.toks) (λb o hb e=>(sb.2 b hb).trans e) f0 f1 f3 f4 f5;obtain⟨oi,ei,ci,di⟩:=id st';rw[<-r.length]at st';exact⟨key,rfl,wM (s:={ s with heap:=h' }) ei ci di ⋯ ⟨kV kvs[i].1,H,I1,HX hk,⟨rfl,_,mT hi,rfl⟩,st',λb hb=>(hf b hb).1⟩⟩
 done:=by intro X hP hw hK hc i Ao s U H E I hf st hg;subst hP hw hK;obtain⟨ha,hi⟩:=hg;obtain⟨e,z,y,vs,r,o',es',ep',e',c1,c2,c3⟩:=I.hok a _ ha;rw[e]at e';cases e';rw[hd]at c2;cases c2;obtain⟨f0,f1,f2,f3,f4,f5⟩:=hf it {};rw[r.length]at st hi;exact wpAny_pyNext_dict_end (I.ok.hd hc) st ⟨o,es,e,c1,hd,c3⟩ (tI hi) λh' eb=>⟨rfl,I.turned (t':=s.toks) (λb o hb e=>eb b o hb e) f0 f1 f3 f4 f5⟩
 self:=λ_ _ _ _ _ st h=>wpAny_pyIter_keyiter st h
section
def GZ (td:TE):TI:=λU H R=>td U H λx H1=>∃a kvs,x=.ref a/\H1 a=some (.dK kvs)/\∀o,R (A2 o kvs a) (upd H1 a (.frz o (.dK kvs)))
def x9 (hl:PE X l tl):PI X tg l (GZ tl):=by
 intro Ao s U H R I h;refine mB (hl Ao s U H _ I h) λv s1 zz=>?_;obtain⟨x,H1,I1,r1,q1⟩:=zz;obtain⟨a,kvs,e,hq,q⟩:=q1;subst e;cases r1;obtain⟨z,y,vs,r,_⟩:=id (I1.hok a _ hq);obtain⟨o,es,ep,hd,ho,I2⟩:=I1.freezeD hq;obtain⟨_,z2,y2,vs2,r2,o',es',ep',e',c1,c2,c3⟩:=I2.hok a _ mq;rw[ho]at e';cases e';rw[hd]at c2;cases c2;refine wpAny_pyIter_dict y2 ⟨o,es,ho,c1,hd,c3⟩ ?_;refine⟨s1.heap.objs.size,[s1.heap.objs.size],_,_,_,rfl,I2.kept (t':=s1.toks) λb o e=>mR _ e,Zja (kvs:=kvs) a _ hd,⟨_,nV _ rfl,rfl,by rw[r2.length];rfl⟩,λb hb=>?_,q o⟩;have e:b=s1.heap.objs.size:=by simpa using hb
 subst e;exact I2.fpOk (mC _) (I2.hok.fresh (mC _))
def zh (a:AD)(P:Hp->Prop)(H':Hp):Prop:=∃o kvs,H' a=some (.frz o (.dK kvs))/\P (upd H' a (.dK kvs))
noncomputable def thD (a:AD)(D:gz):gz:={ nx:=λU H=>zh a (D.nx U) H,rt:=λv H=>zh a (D.rt v) H,bk:=λU H=>zh a (D.bk U) H,ct:=λU H=>zh a (D.ct U) H }
def FV (ts:TS):TS:=λD U H=>∃a kvs,H a=some (.dK kvs)/\ts (thD a D) U H
def xz {st:Stmt}{ts:TS}(h:PS X st ts):PS X st (FV ts):=by
 intro Ao s U H D I ⟨a,kvs,ha,hh⟩;have nf:=I.notFrz ha λo v q=>by cases q
 refine pG (h Ao s U H _ I hh) (λf s1 q=>?_) λ_ _ z=>z;cases f with
 | next=>obtain⟨U1,H1,I1,o,k1,e1,q1⟩:=q;exact⟨U1,_,I1.thawD e1 nf,q1⟩
 | brk=>obtain⟨U1,H1,I1,o,k1,e1,q1⟩:=q;exact⟨U1,_,I1.thawD e1 nf,q1⟩
 | cont=>obtain⟨U1,H1,I1,o,k1,e1,q1⟩:=q;exact⟨U1,_,I1.thawD e1 nf,q1⟩
 | ret u=>obtain⟨v,U1,H1,I1,r,o,k1,e1,q1⟩:=q;exact⟨v,U1,_,I1.thawD e1 nf,r,q1⟩
end
section
def fA.dict (Pv:Nat->St->Hp->Prop)(h0:Pv 0 U H)(hl:∀i U H,Pv i U H->H a=some (.frz o (.dK kvs)))
  (hs:∀i p U H,kvs[i]?=some p->Pv i U H->g (kV p.1) U H λU2 H2=>tb { D with nx:=Pv (i+1),ct:=Pv (i+1),bk:=D.nx } U2 H2) (hd:∀U H,Pv kvs.length U H->D.nx U H):fA (A2 o kvs a) g tb D U H:=by
 refine⟨λi m U H=>m=kvs.length-i/\i<=kvs.length/\Pv i U H,⟨kvs.length,{},nO _,h0⟩,?_⟩;rintro i m U H ⟨rfl,hi,p⟩;have q:=hl i U H p;by_cases A0:i<kvs.length
 .refine .inr ⟨⟨q,A0⟩,Pv (i+1),λU' H' p'=>⟨kvs.length-(i+1),∅,rfl,A0,p'⟩,λx H' y=>?_⟩;obtain⟨e,p2,e2,e3⟩:=y;subst e e3;exact hs i p2 U _ e2 p
 .have e:i=kvs.length:=by lia
  subst e;exact .inl ⟨⟨q,mC _⟩,hd U H p⟩
end
def e8.thaw (ha:H a=some (.dK kvs))(s:e8 (upd H a (.frz o (.dK kvs))) H2):e8 H (upd H2 a (.dK kvs)):=λb u hb=>by
 by_cases e:b=a
 .rw[e]at hb ⊢;rw[mq,<-hb,ha]
 .rw[lR e];exact s b u (by rw[lR e];exact hb)
end L2
namespace L2
open PySem PySem.Spec PyProof.Rows PySem.W
theorem HH (ns:List Int):∀j,j<=ns.length->preSum (λi=>ns.getD i 0) j=(ns.take j).sum
 | 0,_=>by simp[preSum]
 | j+1,h=>by
  have e:ns.take (j+1)=ns.take j++[ns[j]]:=by rw[List.take_succ,mT ∅];rfl
  rw[preSum,HH ns j ∅,e,List.sum_append,nN,mT ∅];simp
section
end
end L2
namespace L2
open PySem PySem.Spec PyProof.Rows
section
end
end L2
namespace L2
open PySem PySem.Spec PyProof.Rows PySem.W
def KV.getV (r:KV kvs vs):∀ {i:Nat} {p:mh×V},kvs[i]?=some p->∃v,vs[i]?=some (p.1,v)/\ft p.2 v:=by
 induction r with
 | nil=>intro i p h;simp at h
 | cons hd _ ih=>
  intro i p h;cases i with
  | zero=>
   rename_i p0 q0 _ _ _
   have h:p0=p:=by simpa using h
   subst h;exact⟨q0.2,by show some q0=some (p0.1,q0.2);rw[hd.1],hd.2⟩
  | succ i=>
   obtain⟨v,h1,h2⟩:=ih (~~~h);exact⟨v,~~~h1,h2⟩
noncomputable def Dp (o:Obj)(kvs:List (mh×V))(a:AD):It:=
 ⟨λi H=>H a=some (.frz o (.dK kvs))/\i<kvs.length,λi H x H'=>H'=H/\∃p,kvs[i]?=some p/\x=p.2,λi H=>H a=some (.frz o (.dK kvs))/\kvs.length<=i⟩
def Iti (o:Obj)(kvs:List (mh×V))(a:AD):It:=
 ⟨λi H=>H a=some (.frz o (.dK kvs))/\i<kvs.length,λi H x H'=>∃t p,H t=none/\x=.ref t/\H'=upd H t (.tup [kV p.1,p.2])/\kvs[i]?=some p,λi H=>H a=some (.frz o (.dK kvs))/\kvs.length<=i⟩
def ZgL {P:AG}{w:AI}{K:ma}{tg:Expr}{o:Obj}{es:Array DictEntry}{ep:Nat}{kvs:List (mh×V)}(a it:AD)(hd:o.data=.dict es ep):iC P w K tg (Dp o kvs a) [it] it (λi h=>h.IsValIter it a i kvs.length ep) where
 mem:=by simp
 obj:=λi h st b hb=>by
  have e:b=it:=by simpa using hb
  subst e;obtain⟨o,e,c,d⟩:=st;exact⟨o,e,λv z=>by rw[d]at z;cases z⟩
 keep:=λi h h' st k=>let ⟨o,ho,r⟩:=st;⟨o,k it {} o ho,r⟩
 item:=by intro X hP hw hK hc i Ao s U H E I hf st hg;subst hP hw hK;obtain⟨ha,hi⟩:=hg;obtain⟨e,z,y,vs,r,o',es',ep',e',c1,c2,c3⟩:=I.hok a _ ha;rw[e]at e';cases e';rw[hd]at c2;cases c2;obtain⟨v,hv,rv⟩:=KV.getV r (mT hi);obtain⟨f0,f1,f2,f3,f4,f5⟩:=hf it {};rw[r.length]at st;refine wpAny_pyNext_values_item st ⟨o,es,e,c1,hd,c3⟩ hv λh' st' sb=>?_;have I1:lO X Ao U H { s with heap:=h' }:=I.turned (t':=s.toks) (λb o hb e=>(sb.2 b hb).trans e) f0 f1 f3 f4 f5;obtain⟨oi,ei,ci,di⟩:=id st';rw[<-r.length]at st';exact⟨v,rfl,wM (s:={ s with heap:=h' }) ei ci di ⋯ ⟨kvs[i].2,H,I1,rv,⟨rfl,_,mT hi,rfl⟩,st',λb hb=>(hf b hb).1⟩⟩
 done:=by intro X hP hw hK hc i Ao s U H E I hf st hg;subst hP hw hK;obtain⟨ha,hi⟩:=hg;obtain⟨e,z,y,vs,r,o',es',ep',e',c1,c2,c3⟩:=I.hok a _ ha;rw[e]at e';cases e';rw[hd]at c2;cases c2;obtain⟨f0,f1,f2,f3,f4,f5⟩:=hf it {};rw[r.length]at st hi;exact wpAny_pyNext_values_end (I.ok.hd hc) st ⟨o,es,e,c1,hd,c3⟩ (tI hi) λh' eb=>⟨rfl,I.turned (t':=s.toks) (λb o hb e=>eb b o hb e) f0 f1 f3 f4 f5⟩
 self:=λ_ _ _ _ _ st h=>wpAny_pyIter_valiter st h
section
def Gw (td:TE):TI:=λU H R=>td U H λx H1=>∃a kvs,x=.ref a/\H1 a=some (.dK kvs)/\∀o,R (Dp o kvs a) (upd H1 a (.frz o (.dK kvs)))
def Zjx (ho:PE X o td) (hbase:attributeBase o "values" X.env (eval o X.env)=eval o X.env:=by rfl) (hline:(ap.endLine == cp.line)=true:=by rfl):PI X tg (.Call (.Attribute o "values" ap) [] [] cp) (Gw td):=by
 intro Ao s U H R I h;refine yu (T:="dict") (id:="dict.values") hbase rfl hline xT PySem.F.slot_dict_values PySem.F.type_dict_values (mB (ho Ao s U H _ I h) λu s1 zz=>?_);obtain⟨x,H1,I1,rx,a,kvs,ex,ha,q⟩:=zz;subst ex;obtain rfl:u=Value.ref a:=rx;obtain⟨hz,hd,vs,r,dd⟩:=wS I1.hok ha;obtain⟨ob,es,ep,e1,e2,e3,e4⟩:=id dd;refine⟨dd.typeIs,λb z=>?_,?_⟩
 .cases z;exact⟨ob,e1,e2.2.1⟩
 refine method_meetsIn PySem.F.slot_dict_values PySem.F.entry_dict_values rfl (PySem.evalArgs_none ⟨rfl,dd.typeIs,PySem.F.args_dict_values_1 _,_,meets_dict_values _ a hd,⟨vs,dd⟩,?_⟩);obtain⟨o2,es2,ep2,hd2,ho2,I2⟩:=I1.freezeD ha;rw[e1]at ho2;cases ho2;rw[e3]at hd2;cases hd2;generalize hg2:s1.heap.push { cls:=.type "dict_values",data:=.fields #[.ref a] }=g2;have k2:∀b o,s1.heap.get? b=some o->g2.get? b=some o:=λb o e=>by rw[<-hg2];exact mR _ e
 have vw:g2.IsValuesView s1.heap.objs.size a:=⟨_,by rw[<-hg2];exact nV _ rfl,rfl,rfl⟩;have I3:lO X Ao U (upd H1 a (.frz ob (.dK kvs))) { s1 with heap:=g2 }:=I2.kept (t':=s1.toks) k2;refine wpAny_pyIter_values (s:={ s1 with heap:=g2 }) vw (show g2.DictAt (nW X.prog X.w) a vs ep from⟨ob,es,k2 _ _ e1,e2,e3,e4⟩) ?_;refine⟨g2.objs.size,[g2.objs.size],_,_,_,rfl,I3.kept (t':=s1.toks) λb o e=>mR _ e,ZgL (kvs:=kvs) a _ e3,⟨_,nV _ rfl,rfl,by rw[r.length];rfl⟩,λb hb=>?_,q ob⟩;have e:b=g2.objs.size:=by simpa using hb
 subst e;exact I3.fpOk (mC _) (I3.hok.fresh (mC _))
end
section
end
section
end
def Zkv (hc:X.calm=true):pR X (.builtin "sum") (λxs H Q=>∃(a:AD) (ns:List Int),xs=[.ref a]/\H a=some (.lst (ns.map V.int))/\Q (.int ns.sum) H):=by
 rintro Ao s U H xs us Q I r ⟨a,ns,rfl,ha,q⟩;obtain⟨u,rfl,ru⟩:=r.one;cases ru;obtain⟨_,its,n,r2,Aq,eo⟩:=I.lstM ha;have hl:its.length=ns.length:=by rw[<-r2.length,lZ]
 have hI:s.heap.IsList a its.toArray:=y9 eo;have lt:a<s.heap.objs.size:=mL eo;have hh:X.A.in1.handled=none:=by simpa using I.ok.hd hc
 refine call_sum_walkAnyS (vS hI ?_);refine⟨s.heap.objs.size,_,_,_,its.toArray.size,_,_,λi=>ns.getD i 0,rfl,(Walks.list (prog:=X.prog) (w:=X.w) (A:=X.A.in1) hh s.heap.objs.size a (nM lt) its.toArray).toS,⟨⟨_,nV _ rfl,rfl,rfl⟩,hI.push _⟩,λb hb=>?_,λi v hv=>?_,λs' t' hm=>?_⟩
 .show b<(s.heap.push _).objs.size;rw[size_push'];rcases m6.mp hb with e | hb
  .rw[e];exact Nat.lt_succ_self _
  .rw[mU.mp hb];exact wj lt
 .have hv:its[i]?=some v:=by simpa using hv
  have hi:=(mX.mp hv).1;obtain⟨x,hx,rx⟩:=yn r2 hv;rw[om,mT ∅]at hx;have hx:V.int ns[i]=x:=Option.some.inj hx;subst hx;obtain⟨t,rfl⟩:=rx;exact⟨t,by show Value.int ns[i] t=Value.int (ns.getD i 0) t;rw[nN,mT ∅];rfl⟩
 .have hk:∀b o,s.heap.get? b=some o->s'.heap.get? b=some o:=λb o e=>
   hm.heap b o (λhI=>IG (mL e) (by rw[mU.mp hI];exact o4 _)) (mR _ e)
  rw[Moved.eq_with hm,nP,hl,HH ns _ (mC _),pK];exact⟨.int ns.sum,H,I.kept (t':=s'.toks) hk,⟨t',rfl⟩,q⟩
end L2
namespace L2
open PySem PySem.Spec PyProof.Rows
open PySem.W (Frag)
section
end
def DJ {K:Frag}{H:Hp}{Q:VK}{a b:AD}{vs:IJ}(h1:oA K H a vs)(h2:oA K H b vs)(hf:vs.all pA=true)(q:Q (.bl true) H):gV K false (.ref a) (.ref b) H Q:=
 .inr ⟨_,_,jm h1 hf,jm h2 hf,λz=>mQ z.1,(ownT h1 hf).2.2,by rw[(ownT h1 hf).2.1];exact q⟩
theorem EO:∀ {vs:IJ} {us:AC},vs.length=us.length->(∀(i:Nat) (x:V) (u:Value),vs[i]?=some x->us[i]?=some u->ft x u)->fi vs us
 | [],[],_,_=>.nil
 | [],_::_,h,_=>by simp at h
 | _::_,[],h,_=>by simp at h
 | x::vs,u::us,h,r=>.cons (r 0 x u rfl rfl) (EO (~~~h) λi y v h1 h2=>r (i+1) y v h1 h2)
section
end
def lV (l:lN):mh:=.inr ⟨l.toArray⟩
def xD (l:lN):kV (lV l)=tx l:=rfl
section
end
open PySem.W (Frag)
noncomputable def gc (w l:lN):Bool:=(List.range (l.length+1)).any λi=>decide (i+w.length<=l.length)&&decide ((l.drop i).take w.length=w)
def qI:gc w l=true↔mj w l:=by
 unfold gc mj nB;rw[se];constructor
 .rintro⟨i,_,h⟩;rw[nY,II,II]at h;exact⟨i,h⟩
 .rintro⟨i,h1,h2⟩;refine⟨i,oY.mpr ∅,?_⟩;rw[nY,II,II];exact⟨h1,h2⟩
def BP:gc w l=false↔¬mj w l:=by rw[<-qI,Bool.not_eq_true]
def Iw (w l:lN):(!(Builtin.Str.occurrences ⟨l.toArray⟩ ⟨w.toArray⟩ 0 (⟨l.toArray⟩:Str).length 1).isEmpty)=gc w l:=by rw[pO,StrLaws.found_iff,qI];exact⟨λ⟨i,h⟩=>⟨i,(yK l w i).mp h⟩,λ⟨i,h⟩=>⟨i,(yK l w i).mpr h⟩⟩
section
def Bf:oh X (compareOp .In) (λx y H Q=>∃w l,x=tx w/\y=tx l/\Q (.bl (gc w l)) H):=by rintro Ao s U H x y v u Q I rx ry ⟨w,l,rfl,rfl,q⟩;refine FU Ao s U H _ _ v u Q I rx ry ⟨_,_,rfl,rfl,?_⟩;rw[Iw];exact q
def Fe:oh X (compareOp .NotIn) (λx y H Q=>∃w l,x=tx w/\y=tx l/\Q (.bl (!gc w l)) H):=by rintro Ao s U H x y v u Q I rx ry ⟨w,l,rfl,rfl,q⟩;refine HI Ao s U H _ _ v u Q I rx ry ⟨_,_,rfl,rfl,?_⟩;rw[Iw];exact q
end
section
def Zky (hc:X.calm=true):pR X (.builtin "any") (λxs H Q=>∃(a:AD) (bs:List Bool),xs=[.ref a]/\H a=some (.lst (bs.map V.bl))/\Q (.bl (bs.any id)) H):=by
 rintro Ao s U H xs us Q I r ⟨a,bs,rfl,ha,q⟩;obtain⟨u,rfl,ru⟩:=r.one;cases ru;obtain⟨_,its,n,r',Aq,e⟩:=I.lstM ha;have hl:s.heap.IsList a its.toArray:=y9 e;have hne:a≠s.heap.objs.size:=nM (mL e);refine call_any_walkS (vS hl ?_);have hL:its.toArray.size=bs.length:=by rw[nP,<-r'.length,lZ]
 have W:=(Walks.list (prog:=X.prog) (w:=X.w) (A:=X.A.in1) (~~~I.ok.hd hc) s.heap.objs.size a hne its.toArray).toS;refine⟨s.heap.objs.size,_,_,_,_,_,_,λi=>bs.getD i true,rfl,W,⟨⟨_,nV _ rfl,rfl,rfl⟩,hl.push _⟩,?_,λs' hm=>?_⟩
 .intro i v s Q E hv hQ;have e':its[i]?=some v:=by simpa using hv
  obtain⟨x,hx,rx⟩:=yn r' e';rw[om]at hx;cases hb:bs[i]? with
  | none=>rw[hb]at hx;cases hx
  | some b=>
   rw[hb]at hx;cases hx;obtain rfl:v=Value.bool b:=rx;have:bs.getD i true=b:=by rw[nN,hb];rfl
   have hQ':Q (bs.getD i true) s:=hQ;rw[this]at hQ';exact uz hQ'
 .have ea:(List.range its.toArray.size).any (λi=>bs.getD i true)=bs.any id:=by
   rw[hL];rw[pO,se,se];constructor
   .rintro⟨i,hi,h⟩;have hi:=oY.mp hi;rw[nN,mT hi]at h;exact⟨_,rq hi,h⟩
   .rintro⟨b,hb,h⟩;obtain⟨i,hi,rfl⟩:=qS hb;refine⟨i,oY.mpr hi,?_⟩;rw[nN,mT hi];exact h
  rw[ea];have I2:lO X Ao U H s':=I.call' (ch:=[]) hm.os (Un.kept λb o q=>hm.heap b o (λz=>?_) (mR _ q)) (I.hok.kept λb o q=>hm.heap b o (λz=>?_) (mR _ q)) (by rw[show s'.gens=s.gens from hm.gens];exact I.bare) (λb hb=>by cases hb)
  .exact⟨.bl _,H,I2,rfl,q⟩
  .have z:b=s.heap.objs.size:=by simpa using z
   rw[z]at q;exact IG (mL q) (o4 _)
  .have z:b=s.heap.objs.size:=by simpa using z
   rw[z]at q;exact IG (mL q) (o4 _)
end
section
def ZlK (I:lO X Ao U H s)(e:H a=some (.dK kvs))(e2:H b=some (.dK more))(ne:a≠b)(hz:kvs.length+more.length<=sizeLine)(h:∀s',lO X Ao U (upd H a (.dK (oO kvs more))) s'->Q .none s'):
  wpAny (model X.prog X.w) A (call (.builtin "dict.update") [.ref a,.ref b]) Q E s:=by
 obtain⟨z,hd,vs,rel,dd⟩:=wS I.hok e;obtain⟨z2,hd2,vs2,rel2,dd2⟩:=wS I.hok e2;have l1:=rel.length;have l2:=rel2.length;refine call_meetsIn PySem.F.slot_dict_update dd.typeIs PySem.F.entry_dict_update (PySem.F.args_dict_update_2 _ _) (meets_dict_update (nW X.prog X.w) a b ne hd2) ⟨vs,vs2,dd,dd2,∅,λh' dd' dd2' hs=>h _ ?_⟩;have he:∃q,h'.get? a=some q:=let ⟨q,_,_,hq,_⟩:=dd';⟨q,hq⟩;exact xu (t':=s.toks) I (by rw[e];exact True.intro) hs he (yc (mO (vZ more kvs) hz) hd (rel2.merge rel) dd')
def FX (td ty:TE):TE:=λU H Q=>td U H λx H1=>∃a,x=.ref a/\x6 H1 a/\ty U H1 λy H2=>∃b kvs more,y=.ref b/\H2 a=some (.dK kvs)/\H2 b=some (.dK more)/\a≠b/\kvs.length+more.length<=sizeLine/\Q .non (upd H2 a (.dK (oO kvs more)))
def Zit (ho:PE X o td) (he:PE X e ty) (m:M1 X o "update" Au e Aw):PE X (.Call (.Attribute o "update" Au) [e] [] Aw) (FX td ty):=by intro Ao s U H Q I h;refine yu m.base m.few m.line xT PySem.F.slot_dict_update PySem.F.type_dict_update (mB (ho Ao s U H _ I h) λu s1 zz=>?_);obtain⟨x,H1,I1,rx,a,ex,d,q1⟩:=zz;subst ex;obtain rfl:u=Value.ref a:=rx;obtain⟨t1,t2,_⟩:=Bw I1 d;refine⟨t1,t2,?_⟩;rw[m.trees];refine xC rfl (x0 (uj (mB (he Ao s1 U H1 _ I1 q1) λiv s2 ⟨y,H2,I2,ry,b,kvs,more,ey,ea,eb,ne,hz,q2⟩=>vD ?_)));subst ey;obtain rfl:iv=Value.ref b:=ry;exact ZlK I2 ea eb ne hz λs3 I3=>⟨.non,_,I3,rfl,q2⟩
end
section
variable {prog:AG}{w:AI}{A:AH}{E:mY}{s:AE}{l I S:AD}{ns:List Int}{vs:AC}{R:Result->AE->Prop}{Q:mY}{d:Value}
def kF (ns:List Int)(i n:Nat):Prop:=∀j,j<n->ns.getD j 0<=ns.getD i 0
def BM {i:Nat}{v:Value}(rv:fi (ns.map V.int) vs)(e:vs[i]?=some v):∃t,v=.int (ns.getD i 0) t:=by
 obtain⟨x,hx,rx⟩:=yn rv e;rw[om]at hx;cases hm:ns[i]? with
 | none=>rw[hm]at hx;cases hx
 | some m=>
  rw[hm]at hx;cases hx;obtain⟨t,rfl⟩:=rx;exact⟨t,by rw[nN,hm];rfl⟩
end
section
end
def CQ:mroOf (.type "dict")=pure [.type "dict",.type "object"]:=by rw[mroOf_type];kernel_rfl
def Zet:typeLookup (.type "dict") "__new__"=pure (some (.builtin "dict.__new__")):=by rw[typeLookup_type,builtinLookup_eq_fast];kernel_rfl
def ZiS:TypeCalled "dict" "dict.__new__" "dict.__init__":=
 ⟨nofun,nofun,⟨_,_,CQ⟩,madeBy_type CQ Zet nofun,nofun,by rw[isSubtype_type];kernel_rfl,F.slot_dict_init⟩
def ZfK (a:Value):checkTypeCall "dict" ⟨[a],[]⟩=pure ():=by kernel_rfl
def ZgW (a:Value):checkBuiltinCall "dict.__new__" ⟨[.type "dict",a],[]⟩=pure ():=by kernel_rfl
def Zfw:entryFor table "dict.__new__"=some Builtin.«dict.__new__»:=entryFor_of_tree (by kernel_rfl)
def GJ:plainId "dict.__new__"=true:=by decide +kernel
def Gf:entryFor table "dict.update.loop"=some Builtin.«dict.update.loop»:=entryFor_of_tree (by kernel_rfl)
def Bn:plainId "dict.update.loop"=true:=by decide +kernel
def ZfL:isSubtype (.type "dict") (.type "dict")=pure true:=by rw[isSubtype_type];kernel_rfl
def ZjR:typeLookup (.type "list") "keys"=pure none:=by rw[typeLookup_type,builtinLookup_eq_fast];kernel_rfl
abbrev ik:Obj:={ cls:=.type "dict",data:=.dict #[] }
section
def ZnN (a:Value){Q₁:mY}(h:Q₁ (.ref s.heap.objs.size) { s with heap:=s.heap.push ik }):
  codeAny (model prog w) A (.call (.builtin "dict.__new__") ⟨[.type "dict",a],[]⟩) (wants Q₁ E) s:=by
 refine codeAny_of_tree ?_;show wpAny _ A.in1 (checkBuiltinCall "dict.__new__" ⟨[.type "dict",a],[]⟩ >>= λ_=>again (.builtin "dict.__new__" ⟨[.type "dict",a],[]⟩)) _ _ s;refine lP (wpAny_of_eq (ZgW a) (mf ⟨plainId_quiet GJ _,codeAny_builtin Zfw ?_⟩));rw[sP GJ _];unfold Builtin.«dict.__new__»;have hsub:=ZfL;have hmro:=CQ;obtain⟨hp,g,d,tk,os⟩:=s;dsimp only
 wp_walk
 exact h
def ZjS (hx:s.heap.get? a=some o) (hc:o.cls=.type "list") (hdat:o.data=.seq xs k) (hd:o.dict=none) (hA:A.handled=none)
  (h:∀h' tk,(∀b ob,s.heap.get? b=some ob->h'.get? b=some ob)->Q none { s with heap:=h',toks:=tk }):
  wpAny (model prog w) A (getAttr? (.ref a) "keys") Q E s:=by
 obtain⟨c,dct,dat,sl⟩:=o;simp only at hc hdat hd;subst hc hdat hd;obtain⟨hp,g,d,tk,os⟩:=s;have hT:∀tk',(⟨hp,g,d,tk',os⟩:AE).TypeIs (.ref a) "list":=λ_=>⟨_,hx,rfl⟩;have f1:=sub_AttributeError;have f3:=F.slot_list_getattribute.lookup;have f4:=F.slot_list_getattribute.bind (.ref a);have f5:=am_list_getattr_none;unfold getAttr? getAttrBy? getAttrBy;repeat (any_goals (first | assumption | exact hT _ | ((with_reducible show wpAny _ _ (call (Value.builtin "list.__getattribute__") _ _) _ _ _);refine call_meets F.slot_list_getattribute (hT _) am_entry_list_getattribute (F.args_list_getattribute_2 _ _) (meets_getattribute_miss_list a xs k sl "keys" _ ZjR nofun) ⟨hx,hA,λh' tk' e hx'=>?_⟩) | wp_step))
 obtain⟨t',u',he⟩:=hx'.there;show wpAny _ _ (getattributeRaised _ _ _ _ _ _ _) _ _ _;unfold getattributeRaised;repeat (any_goals (first | assumption | wp_step))
 exact h _ _ hx'.keeps
def hW (P:AG)(w:AI)(h:Heap)(u:Value)(x:mh×Value):Prop:=∃b kv,u=.ref b/\h.IsTuple b #[kv,x.2]/\(nW P w).is x.1 kv=true
def hW.keep {h h':Heap}{u:Value}{x:mh×Value}{d It l:AD}{i:Nat}{kvs:List (mh×Value)}(p:hW prog w h u x)(hd:h.DictOf (nW prog w) d kvs)(hi:h.IsListIter It l i)(k:∀b o,b≠d->b≠It->h.get? b=some o->h'.get? b=some o):hW prog w h' u x:=by
 obtain⟨b,kv,rfl,⟨o,ho,hc,r⟩,hk⟩:=p;obtain⟨od,_,_,hod,hcd,_⟩:=hd;obtain⟨oi,hoi,hci,_⟩:=hi;refine⟨b,kv,rfl,⟨o,k b o (λz=>?_) (λz=>?_) ho,hc,r⟩,hk⟩
 .subst z;rw[ho]at hod;cases hod;have:=hcd.1;rw[hc]at this;exact IG this ⋯
 .subst z;rw[ho]at hoi;cases hoi;rw[hc]at hci;exact IG hci ⋯
def Zfi (kvs:List (mh×Value))(k:mh)(v:Value):(stored kvs k v).length<=kvs.length+1:=by unfold stored;split<;>simp
def ZlI {R:Result->AE->Prop}{l It d:AD}{us:AC}(hh:A.handled=none)(n1:It≠d)(n2:l≠d)(n3:l≠It):∀(xs:List (mh×Value)) (i:Nat) (n:Int) (tk:Tok) (s:AE) (kvs:List (mh×Value)),i+xs.length=us.length ->
  (∀j x,xs[j]?=some x->∃u,us[i+j]?=some u/\hW prog w s.heap u x)->s.heap.IsListIter It l i->s.heap.IsList l us.toArray->s.heap.DictOf (nW prog w) d kvs->kvs.length+xs.length<=sizeLine ->
  (∀h' tk',(∀b o,b≠d->b≠It->s.heap.get? b=some o->h'.get? b=some o)->h'.DictOf (nW prog w) d (xs.foldl (λa x=>stored a x.1 x.2) kvs)->R (.ok (.ret .none)) { s with heap:=h',toks:=tk' }) ->
  codeAny (model prog w) A (.builtin "dict.update.loop" ⟨[.ref d,.ref It,.int n tk,.none],[]⟩) R s:=by
 intro xs;induction xs with
 | nil=>
  intro i n tk s kvs hl hx hi hL hD hz hR;refine codeAny_builtin Gf ?_;rw[sP Bn _];show wpAny _ A.in1 (pyNext (.ref It) >>= λr=>_) _ _ s;refine lP (wpAny_pyNext_list_end (by simp[hh]) hi hL (by simp at hl;simp[hl]) λh' eb=>?_);dsimp only;unfold Builtin.Dict.addKeywords
  wp_walk
  exact hR h' _ (λb o hb hi e=>eb b o hi e) (hD.extBut eb (mH n1))
 | cons x xs ih=>
  intro i n tk s kvs hl hx hi hL hD hz hR;refine codeAny_builtin Gf ?_;rw[sP Bn _];show wpAny _ A.in1 (pyNext (.ref It) >>= λr=>_) _ _ s;obtain⟨u,hu,pu⟩:=hx 0 x rfl;refine lP (z4 hi hL (x:=u) (~~~hu) λh1 hi1 sb1=>?_);have pu1:=pu.keep hD hi (h':=h1) (λb o _ hb e=>(sb1.2 b hb).trans e);obtain⟨b,kv,rfl,hb,hk⟩:=pu1;have hT:Shared.TypeIs { s with heap:=h1 } (.ref b) "tuple":=hb.typeIs;have hD1:h1.DictOf (nW prog w) d kvs:=hD.sameBut sb1 (mH n1);have hL1:h1.IsList l us.toArray:=(let ⟨o,ho,r⟩:=hL;⟨o,(sb1.2 l n3).trans ho,r⟩);dsimp only;refine lP (pU (lP (wpAny_tryCatch ?_)));unfold Builtin.Dict.pairItems;refine lP (wpAny_typeOf hT ?_);rw[lU ⋯];obtain⟨o,ho,hc,nn,hd⟩:=hb;refine lP (xq ho hd (mf ?_));show wpAny _ _ (holding [kv,x.2] (dictSet d kv x.2)) _ _ _;have hz':kvs.length+(xs.length+1)<=sizeLine:=hz;refine pU (wpAny_dictSet_pairs hk hD1 (λh2 hD2 sb2=>?_) (hsz:=by lia));have k2:∀b o,b≠d->b≠It->s.heap.get? b=some o->h2.get? b=some o:=λb o z1 z2 e=>(sb2.2 b z1).trans ((sb1.2 b z2).trans e);refine mf ⟨plainId_quiet Bn _,ih (i+1) _ _ _ _ (by have:i+(xs.length+1)=us.length:=hl;lia) (λj y hy=>?_) ?_ ?_ hD2 ?_ (λh' tk' kp hD'=>hR h' tk' (λb o z1 z2 e=>kp b o z1 z2 (k2 b o z1 z2 e)) hD')⟩
  .obtain⟨u2,hu2,p2⟩:=hx (j+1) y hy;exact⟨u2,by rw[<-hu2];congr 1;lia,p2.keep hD hi k2⟩
  .obtain⟨oi,hoi,r⟩:=hi1;exact⟨oi,(sb2.2 It n1).trans hoi,r⟩
  .obtain⟨ol,hol,r⟩:=hL1;exact⟨ol,(sb2.2 l n2).trans hol,r⟩
  .have:=Zfi kvs x.1 x.2
   lia
def ZlJ {a:AD} {us:AC} {o:Obj} {nn:Nat} {xs:List (mh×Value)} {Q:mY} (hh:A.handled=none) (ho:s.heap.get? a=some o) (hc:o.cls=.type "list") (hdat:o.data=.seq us.toArray nn) (hd:o.dict=none) (hl:us.length=xs.length)
  (hx:∀(j:Nat) (x:mh×Value),xs[j]?=some x->∃u,us[j]?=some u/\hW prog w s.heap u x) (hz:xs.length<=sizeLine)
  (h:∀h' tk',(∀b o,s.heap.get? b=some o->h'.get? b=some o)->h'.DictOf (nW prog w) s.heap.objs.size (xs.foldl (λa x=>stored a x.1 x.2) [])->Q (.ref s.heap.objs.size) { s with heap:=h',toks:=tk' }):
  wpAny (model prog w) A (call (.type "dict") [.ref a]) Q E s:=by
 refine callType_codes (Q₁:=λobj s_1=>obj=.ref s.heap.objs.size/\s_1={ s with heap:=s.heap.push ik }) ZiS (ZfK _) F.entry_dict_init (ZnN _ ⟨rfl,rfl⟩) λobj s_1 h9=>?_;obtain⟨rfl,rfl⟩:=h9;have lt:=mL ho;have hS:(s.heap.push ik).get? s.heap.objs.size=some ik:=nV _ rfl;have hT:Shared.TypeIs { s with heap:=s.heap.push ik } (.ref s.heap.objs.size) "dict":=⟨_,hS,rfl⟩;refine⟨hT,F.args_dict_init_2 _ _,?_⟩;unfold Builtin.«dict.__init__» Builtin.Dict.selfAndRest;refine lP (lP (wpAny_notOrdered_dict hT ?_));show wpAny _ _ (pure (s.heap.objs.size,[Value.ref a])) _ _ _;refine mf ?_;show wpAny _ _ (Builtin.Dict.updateFrom "dict.__init__" s.heap.objs.size (.ref a) [] .none) _ _ _;unfold Builtin.Dict.updateFrom;have ho1:(s.heap.push ik).get? a=some o:=mR _ ho;have hTl:Shared.TypeIs { s with heap:=s.heap.push ik } (.ref a) "list":=⟨_,ho1,hc⟩;refine lP (wpAny_typeOf hTl ?_);rw[lU ⋯];refine lP (ZjS ho1 hc hdat hd (by simp[hh]) λh2 tk2 k2=>?_);rw[lU (show (none:Option Value).isNone=true from rfl)];refine lP (rG ?_);have hL2:h2.IsList a us.toArray:=⟨o,k2 _ _ ho1,hc,nn,hdat⟩;have lt2:s.heap.objs.size<h2.objs.size:=mL (k2 _ _ hS);have la2:a<h2.objs.size:=mL (k2 _ _ ho1);show wpAny _ _ (pyIter (.ref a) >>= λit=>again (.builtin "dict.update.loop" ⟨[.ref s.heap.objs.size,it,rawInt 0,.none],[]⟩)) _ _ _;refine lP (vS hL2 ?_);have k3:∀b o,s.heap.get? b=some o->(h2.push { cls:=.type "list_iterator",data:=.fields #[.ref a,.int 0 0] }).get? b=some o:=λb o e=>mR _ (k2 b o (mR _ e));have hD3:(h2.push { cls:=.type "list_iterator",data:=.fields #[.ref a,.int 0 0] }).DictOf (nW prog w) s.heap.objs.size []:=by obtain⟨od,es,ep,hod,r⟩:=Heap.DictOf.new (knd:=nW prog w) s.heap;exact⟨od,es,ep,mR _ (k2 _ _ hod),r⟩
 refine mf ⟨plainId_quiet Bn _,ZlI (by simp[hh]) (Nat.ne_of_gt lt2) (nM lt) (nM la2) xs 0 _ _ _ [] (by rw[hl];simp) (λj x hj=>?_) ⟨_,nV _ rfl,rfl,rfl⟩ (hL2.push _) hD3 (~~~hz) λh' tk' kp hD'=>?_⟩
 .obtain⟨u,hu,b,kv,rfl,⟨ob,hob,r⟩,hk⟩:=hx j x hj;exact⟨_,~~~hu,b,kv,rfl,⟨ob,k3 _ _ hob,r⟩,hk⟩
 .refine⟨rfl,h h' tk' (λb o e=>kp b o (nM (mL e)) (λz=>?_) (k3 b o e)) hD'⟩;have z1:=mL e;rw[z]at z1;exact IG (Nat.lt_trans z1 lt2) (o4 _)
end
section
def DW (H:Hp)(ys:IJ)(xs:List (mh×V)):Prop:=ys.length=xs.length/\∀(i:Nat) (y:V),ys[i]?=some y->∃(x:mh×V) (b:AD),xs[i]?=some x/\y=.ref b/\H b=some (.tup [kV x.1,x.2])
def rDct:IJ->Hp->VK->Prop:=λvs H Q=>∃p ys xs,vs=[.ref p]/\H p=some (.lst ys)/\DW H ys xs/\∀d,H d=none->Q (.ref d) (upd H d (.dK (oO [] xs)))
theorem E5 {Ao:AA}{U:St}{H:Hp}{s:AE}(I:lO X Ao U H s):∀(xs:List (mh×V)) (ys:IJ) (its:AC),fi ys its->DW H ys xs->∃vs:List (mh×Value),KV xs vs/\∀(j:Nat) (x:mh×Value),vs[j]?=some x->∃u,its[j]?=some u/\hW X.prog X.w s.heap u x
 | [],ys,its,r,⟨hl,hx⟩=>⟨[],.nil,λj x h=>by simp at h⟩
 | x::xs,ys,its,r,⟨hl,hx⟩=>by
  cases r with
  | nil=>simp at hl
  | @cons y u ys its ry r=>
   obtain⟨x',b,e1,rfl,hb⟩:=hx 0 y rfl;cases e1;obtain rfl:u=Value.ref b:=ry;obtain⟨its2,r2,hT,_⟩:=I.tuple (a:=b) (xs:=[kV x.1,x.2]) (.inl (.inl hb));obtain⟨k',v',rfl,rk,rv⟩:∃k' v',its2=[k',v']/\ft (kV x.1) k'/\ft x.2 v':=by
    cases r2 with
    | cons p q=>
     cases q with
     | cons p' q'=>cases q';exact⟨_,_,rfl,p,p'⟩
   obtain⟨vs,hv,hp⟩:=E5 I xs ys its r ⟨~~~hl,λi z hz=>by obtain⟨x2,b2,h1,h2⟩:=hx (i+1) z hz;exact⟨x2,b2,h1,h2⟩⟩
   refine⟨(x.1,v')::vs,.cons ⟨rfl,rv⟩ hv,λj z hz=>?_⟩;cases j with
   | zero=>
    cases hz;exact⟨_,rfl,b,k',rfl,hT,tz rk⟩
   | succ j=>exact hp j z hz
def ZlO (hc:X.calm=true):pR X (.type "dict") rDct:=by
 rintro Ao s U H vs us Q I r ⟨p,ys,xs,rfl,hp,hx,q⟩;obtain⟨u,rfl,ru⟩:=r.one;cases ru;obtain⟨its,rv,⟨o,n,ho,hcl,hd,hs⟩,hz⟩:=I.list (a:=p) (xs:=ys) (.inl (.inl hp));obtain⟨vs,hv,hP⟩:=E5 I xs ys its rv hx;have l1:=rv.length;have l2:=hv.length;have l3:=hx.1;refine ZlJ (I.ok.hd hc) ho hcl hs hd ∅ hP ∅ λh' tk' kp hD=>?_;refine⟨.ref s.heap.objs.size,_,I.laid (t':=tk') kp (mC _) (yc (kvs:=oO [] xs) ?_ ?_ (KV.merge hv .nil) hD),rfl,q _ I.fresh⟩
 .have:=vZ xs [];simp only[wB]at this
  lia
 .exact beq_eq_false_iff_ne.mpr (mH (nM I.big))
end
end L2
namespace L2
open PySem PySem.Spec PyProof.Rows PySem.W
section
variable {prog:AG}{w:AI}{A:AH}{E:mY}{s:AE}{l I S:AD}{ns:List Int}{vs:AC}{R:Result->AE->Prop}{Q:mY}
def ZjT (hh:A.handled=none)(rv:fi (ns.map V.int) vs)(hl:s.heap.IsList l vs.toArray)(lI:l≠I)(lS:l≠S)(SI:S≠I)
  (hR:∀i v h' k,vs[i]?=some v->kF ns i vs.length->(∀b o,b≠I->b≠S->s.heap.get? b=some o->h'.get? b=some o)->R (.ok (.ret v)) { s with heap:=h',toks:=k }):
  ∀(r j i:Nat) (h:Heap) (tk:Nat) (vb:Value) (c:Nat),vs.length-(j+1)=r->j+1<=vs.length->(∀b o,b≠I->b≠S->s.heap.get? b=some o->h.get? b=some o) ->
   h.get? S=some (seqObj "list" #[vb,vb] c)->h.IsListIter I l (j+1)->vs[i]?=some vb->i<=j->kF ns i (j+1) ->
   codeAny (model prog w) A (.builtin "max.loop" ⟨[.ref I,.none,.ref S],[]⟩) R { s with heap:=h,toks:=tk }:=by
 have nm:(toString "max"++toString ".loop":String)="max.loop":=by decide
 have hh1:A.in1.handled=none:=by simpa using hh
 have hla:∀h:Heap,(∀b o,b≠I->b≠S->s.heap.get? b=some o->h.get? b=some o)->h.IsList l vs.toArray:=λh k=>hl.at λo e=>k l o lI lS e;intro r;induction r with
 | zero=>
  intro j i h tk vb c hr hj kp oS it hvb hij hb;refine codeAny_builtin PySem.F.entry_max_loop ?_;rw[sP vJ _];show wpAny _ A.in1 (seqItems? (.ref S) >>= _) _ _ _;refine lP (xq oS rfl ?_);show wpAny _ A.in1 (tryCatch (pyNext (.ref I)) _ >>= _) _ _ _;refine lP (wpAny_tryCatch (wpAny_pyNext_list_end hh1 it (hla h kp) (by simp;lia) λh' k'=>?_));show wpAny _ A.in1 (updateSeq S (λ_=>#[]) >>= _) _ _ _;refine lP (wpAny_updateSeq (k' S _ SI oS) rfl (lP (wpAny_letGo (mf ?_))));refine hR i vb _ _ hvb (λj' hj'=>hb j' ∅) λb o n1 n2 e=>?_;exact((pZ h' S _).2 b n2).trans (k' b o n1 (kp b o n1 n2 e))
 | succ r ih=>
  intro j i h tk vb c hr hj kp oS it hvb hij hb;have A0:j+1<vs.length:=by lia
  refine codeAny_builtin PySem.F.entry_max_loop ?_;rw[sP vJ _];show wpAny _ A.in1 (seqItems? (.ref S) >>= _) _ _ _;refine lP (xq oS rfl ?_);show wpAny _ A.in1 (tryCatch (pyNext (.ref I)) _ >>= _) _ _ _;have hv:vs[j+1]?=some vs[j+1]:=mT A0;generalize vs[j+1]=v at hv;refine lP (wpAny_tryCatch (z4 it (hla h kp) (x:=v) (~~~hv) λh' it' k'=>?_));show wpAny _ A.in1 (tryCatch (holding [v,v] (richCompare .Gt v vb >>= _)) _ >>= _) _ _ _;refine lP (wpAny_tryCatch (pU (lP (CmpOf.ints_gt (prog:=prog) (w:=w) (A:=A.in1) (P:=λi v=>∃t,v=.int (ns.getD i 0) t) (λi=>ns.getD i 0) (λi v h=>h) (j+1) i _ _ _ _ _ (BM rv hv) (BM rv hvb) ?_))));refine lP (pU (uz (lP (wpAny_letGo (mf ?_)))));have oS':h'.get? S=some (seqObj "list" #[vb,vb] c):=(k'.2 S SI).trans oS;have kp':∀b o,b≠I->b≠S->s.heap.get? b=some o->h'.get? b=some o:=λb o n1 n2 e=>(k'.2 b n1).trans (kp b o n1 n2 e);by_cases lt:ns.getD i 0<ns.getD (j+1) 0
  .rw[lU (~~~lt)];refine lP (wpAny_updateSeq oS' rfl (lP (wpAny_letGo ?_)));rw[nm];have sb:=pZ h' S (Obj.mapSeq λ_=>#[v,v]);refine mf ⟨plainId_quiet vJ _,ih (j+1) (j+1) _ _ v _ ∅ A0 (λb o n1 n2 e=>(sb.2 b n2).trans (kp' b o n1 n2 e)) (get?_update_seq oS' λ_=>#[v,v]) (it'.at λo e=>(sb.2 I SI.symm).trans e) hv (mC _) λj' hj'=>?_⟩;by_cases e:j'=j+1
   .subst e;exact Int.le_refl _
   .have:=hb j' ∅
    lia
  .rw[lT (~~~lt)];refine lP (wpAny_letGo ?_);rw[nm];refine mf ⟨plainId_quiet vJ _,ih (j+1) i _ _ vb c ∅ A0 kp' oS' it' hvb ∅ λj' hj'=>?_⟩;by_cases e:j'=j+1
   .subst e;lia
   .exact hb j' ∅
def ZiW (a:Value):argsOk "max" ⟨[a],[]⟩:=by unfold argsOk;kernel_rfl
def maxL (hh:A.handled=none)(rv:fi (ns.map V.int) vs)(hl:s.heap.IsList l vs.toArray)
  (hQ:∀i v h' k,vs[i]?=some v->kF ns i vs.length->(∀b o,s.heap.get? b=some o->h'.get? b=some o)->Q v { s with heap:=h',toks:=k }) (hne:0<vs.length):
  wpAny (model prog w) A (call (.builtin "max") [.ref l] []) Q E s:=by
 have nm:(toString "max"++toString ".loop":String)="max.loop":=by decide
 have hh1:A.in1.handled=none:=by simpa using hh
 obtain⟨ol,hol,_⟩:=id hl;have ll:l<s.heap.objs.size:=mL hol;refine kmb_tree PySem.F.kind_max PySem.F.plain_max PySem.F.entry_max (ZiW _) ?_;show wpAny _ A.in1 (Builtin.Builtins.bindParams "max" ["key","default"] 0 ⟨[],[]⟩ >>= _) _ _ s;refine lP (wpAny_of_eq (show Builtin.Builtins.bindParams "max" ["key","default"] 0 ⟨[],[]⟩=pure [none,none] from rfl) (lP (mf (lP (vS hl (lP (uD ?_)))))));rw[nm];refine mf ⟨plainId_quiet vJ _,?_⟩;generalize gI:(s.heap.push { cls:=.type "list_iterator",data:=.fields #[.ref l,.int 0 0] })=h1;have z1:h1.objs.size=s.heap.objs.size+1:=by rw[<-gI];exact size_push' ..
 have k0:∀b o,s.heap.get? b=some o->(h1.push (seqObj "list" #[] 0)).get? b=some o:=λb o e=>mR _ (by rw[<-gI];exact mR _ e);have oI:(h1.push (seqObj "list" #[] 0)).IsListIter s.heap.objs.size l 0:=⟨_,mR _ (by rw[<-gI];exact nV _ rfl),rfl,rfl⟩;have oS:(h1.push (seqObj "list" #[] 0)).get? h1.objs.size=some (seqObj "list" #[] 0):=nV _ rfl;have SI:h1.objs.size≠s.heap.objs.size:=by lia
 refine codeAny_builtin PySem.F.entry_max_loop ?_;rw[sP vJ _];show wpAny _ A.in1 (seqItems? (.ref h1.objs.size) >>= _) _ _ _;refine lP (xq oS rfl ?_);show wpAny _ A.in1 (tryCatch (pyNext (.ref s.heap.objs.size)) _ >>= _) _ _ _;have hv:vs[0]?=some vs[0]:=mT hne;generalize vs[0]=v at hv;refine lP (wpAny_tryCatch (z4 oI (hl.at λo e=>k0 l o e) (x:=v) (~~~hv) λh' it' k'=>?_));have oS':h'.get? h1.objs.size=some (seqObj "list" #[] 0):=(k'.2 _ SI).trans oS;show wpAny _ A.in1 (updateSeq h1.objs.size (λ_=>#[v,v]) >>= _) _ _ _;refine lP (wpAny_updateSeq oS' rfl ?_);rw[nm];have sb:=pZ h' h1.objs.size (Obj.mapSeq λ_=>#[v,v]);refine mf ⟨plainId_quiet vJ _,ZjT hh rv hl (nM ll) (nM (by rw[z1];exact wj ll)) SI (λi v h'' k e b kp=>hQ i v h'' k e b λc o q=>kp c o (λz=>?_) (λz=>?_) q) _ 0 0 _ _ v _ rfl hne (λb o n1 n2 e=>?_) (get?_update_seq oS' λ_=>#[v,v]) (it'.at λo e=>(sb.2 _ SI.symm).trans e) hv (mC _) λj' hj'=>?_⟩
 .rw[z]at q;exact IG (mL q) (o4 _)
 .have y:=mL q;rw[z,z1]at y;exact IG y (Nat.not_lt.mpr (sw _))
 .exact(sb.2 b n2).trans ((k'.2 b n1).trans (k0 b o e))
 .have e:j'=0:=by lia
  subst e;exact Int.le_refl _
end
def Zkw (hc:X.calm=true):pR X (.builtin "max") (λxs H Q=>∃(a:AD) (ns:List Int),xs=[.ref a]/\H a=some (.lst (ns.map V.int))/\ns≠[]/\∀r,r∈ns->(∀x∈ns,x<=r)->Q (.int r) H):=by
 rintro Ao s U H xs us Q I r ⟨a,ns,rfl,hH,hne,q⟩;obtain⟨u,rfl,ru⟩:=r.one;cases ru;obtain⟨_,its,k,r,Aq,eo⟩:=I.lstM hH;have hn:its.length=ns.length:=by rw[<-r.length,lZ]
 have np:0<ns.length:=rR.mpr hne;refine maxL (I.ok.hd hc) r (y9 eo) (λi v h' k ev lb kp=>?_) ∅;obtain⟨t2,rfl⟩:=BM r ev;have hi:i<ns.length:=by rw[<-hn];exact(mX.mp ev).1
 refine⟨.int (ns.getD i 0),_,I.kept (t':=k) kp,⟨t2,rfl⟩,q _ ?_ λx hx=>?_⟩
 .rw[nN,mT hi];exact rq hi
 .obtain⟨j,hj,rfl⟩:=zM.mp hx;have:=lb j (by rw[hn];exact hj)
  rwa [nN,mT hj]at this
end L2
namespace L2
open PySem PySem.Spec PyProof.Rows
def gn (a b:lN):Prop:=a.length<b.length\/(a.length=b.length/\a<b)
theorem GH:∀ {a b:lN} {x y:lN},a.length=b.length->a<b->a++x<b++y
 | [],[],_,_,_,h=>by cases h
 | [],_::_,_,_,e,_=>by simp at e
 | _::_,[],_,_,e,_=>by simp at e
 | c::a,d::b,x,y,e,h=>by
  rw[yg,yg];cases h with
  | rel h=>exact List.Lex.rel h
  | cons h=>exact List.Lex.cons (GH (~~~e) h)
theorem E7:∀(a:lN) {c d:Nat},c<d->a++[c]<a++[d]
 | [],_,_,h=>List.Lex.rel h
 | _::a,_,_,h=>List.Lex.cons (E7 a h)
theorem Dy:∀(a b:lN),a<b\/a=b\/b<a
 | [],[]=>.inr (.inl rfl)
 | [],_::_=>.inl .nil
 | _::_,[]=>.inr (.inr .nil)
 | c::a,d::b=>by
  rcases Nat.lt_trichotomy c d with h | h | h
  .exact .inl (List.Lex.rel h)
  .subst h;rcases Dy a b with h | h | h
   .exact .inl (List.Lex.cons h)
   .exact .inr (.inl (by rw[h]))
   .exact .inr (.inr (List.Lex.cons h))
  .exact .inr (.inr (List.Lex.rel h))
def ZfG (l:lN)(n:Nat):(fL l n).Pairwise (· < ·):=by
 have h1:(fL l n).Pairwise (λa b=>ri a b=true):=zG _;have h2:(fL l n).Nodup:=(u0 _).nodup_iff.mpr (by rw[<-Bb];exact yq _);refine(h1.and h2).imp ?_;rintro a b ⟨x,y⟩;have x':¬b<a:=by simpa [ri] using x
 rcases Dy a b with z | z | z
 .exact z
 .exact IG z y
 .exact IG z x'
def ua (hm:m.Pairwise (· < ·)):(m5 l m).Pairwise gn:=by
 unfold m5 uA;have len:∀k w,k<=l.length->w∈ui (fL l k) (fL l (k+1)) m->w.length=k+1:=λk w hk hw=>by obtain⟨h,c,h1,_,rfl,_⟩:=CH.mp hw;rw[uK ∅]at h1;rw[mP,h1.1];rfl
 rw[List.pairwise_flatMap];refine⟨λk hk=>?_,?_⟩
 .have hk:=oY.mp hk;unfold ui;rw[List.pairwise_flatMap];refine⟨λh hh=>?_,?_⟩
  .unfold uH;rw[tV];exact(hm.filter _).imp λ{c d} hcd=>.inr ⟨{},E7 h hcd⟩
  .refine List.Pairwise.imp_of_mem ?_ (ZfG l k);intro a b ha hb hab x hx y hy;have la:=((uK (l:=l) ∅).mp ha).1;have lb:=((uK (l:=l) ∅).mp hb).1;unfold uH at hx hy;obtain⟨c,_,rfl⟩:=nj.mp hx;obtain⟨d,_,rfl⟩:=nj.mp hy;exact .inr ⟨by simp[la,lb],GH (by rw[la,lb]) hab⟩
 .refine List.Pairwise.imp_of_mem ?_ List.pairwise_lt_range;intro i j hi hj hij x hx y hy;have hi:=oY.mp hi;have hj:=oY.mp hj;exact .inl (by rw[len i x ∅ hx,len j y ∅ hy];lia)
def yP:¬gn a a:=λh=>h.elim (λh=>o4 _ h) λh=>List.lt_irrefl _ h.2
def BG (hm:m.Pairwise (· < ·)):(m5 l m).Nodup:=by unfold List.Nodup;exact(ua hm).imp λ{a b} h e=>by subst e;exact yP h
theorem xM {α:Type}[DecidableEq α]:∀(l m:List α),l.Nodup->(∀x∈l,x∈m)->l.length<=m.length
 | [],m,_,_=>nO _
 | x::l,m,nd,h=>by
  have hx:=h x o7;have nd':=rM.mp nd;have:=xM l (m.erase x) nd'.2 λy hy=>(List.mem_erase_of_ne (λe=>by rw[e]at hy;exact nd'.1 hy)).mpr (h y (oV _ hy));rw[List.length_erase_of_mem hx]at this;have pos:0<m.length:=List.length_pos_of_mem hx;rw[oN]
  lia
def Ga (hu:nB l u i)(hv:nB l v j)(e:i+u.length=j+v.length)(hl:v.length<=u.length):v=u.drop (u.length-v.length):=by
 obtain⟨a1,a2⟩:=hu;obtain⟨b1,b2⟩:=hv;have hj:j=i+(u.length-v.length):=by lia
 rw[<-a2,nG,oZ,re ∅,xn,rH,<-hj];rw[show u.length-(u.length-v.length)=v.length by lia];exact b2.symm
def Dj (h:mj u l)(k:Nat):mj (u.drop k) l:=by
 obtain⟨i,h1,h2⟩:=h;by_cases hk:k<=u.length
 .refine⟨i+k,by rw[oZ];lia,?_⟩;rw[oZ];have:(l.drop (i+k)).take (u.length-k)=((l.drop i).take u.length).drop k:=by rw[xn,rH]
  rw[this,h2]
 .rw[sH ∅];exact mj.nil l
def xY (h:w.getLast?=some c):w=w.dropLast++[c]:=by
 have ne:w≠[]:=λe=>by rw[e]at h;cases h
 rw[vt ne]at h;have h2:=yR ne;rw[Option.some.inj h]at h2;exact h2.symm
def EZ (hw:io l w)(hv:io l v)(cw:w.getLast?=some c)(cv:v.getLast?=some c)(iw:nB l w.dropLast i)(jv:nB l v.dropLast j)(e:i+w.dropLast.length=j+v.dropLast.length)(hl:v.length<=w.length):v=w:=by
 have ew:=xY cw;have ev:=xY cv;have lw:w.dropLast.length=w.length-1:=qm;have lv:v.dropLast.length=v.length-1:=qm;have w1:1<=w.length:=rR.mpr hw.ne;have v1:1<=v.length:=rR.mpr hv.ne;have s:=Ga iw jv e ∅;rw[show w.dropLast.length-v.dropLast.length=w.length-v.length by lia]at s;have h2:(w.dropLast++[c]).drop (w.length-v.length)=w.dropLast.drop (w.length-v.length)++[c]:=uF ∅;have vs:v=w.drop (w.length-v.length):=by have h3:v.dropLast++[c]=w.dropLast.drop (w.length-v.length)++[c]:=IF (·++[c]) s;rw[<-h2,<-ew,<-ev]at h3;exact h3
 by_cases eq:v.length=w.length
 .rw[vs,eq,tU];rfl
 .exfalso;apply hv.no;have:v=w.tail.drop (w.length-v.length-1):=by rw[<-List.drop_one,rH,show 1+(w.length-v.length-1)=w.length-v.length by lia];exact vs
  rw[this];exact Dj hw.tail _
noncomputable def gv (l w:lN):Nat:=((List.range (l.length+1)).find? λe=>(List.range (l.length+1)).any λi=>decide (i+w.dropLast.length=e)&&decide (i+w.dropLast.length<=l.length)&&decide ((l.drop i).take w.dropLast.length=w.dropLast)).getD 0
def wH (h:mj w.dropLast l):∃i,nB l w.dropLast i/\gv l w=i+w.dropLast.length:=by
 unfold gv;cases f:(List.range (l.length+1)).find? λe=>(List.range (l.length+1)).any λi=>decide (i+w.dropLast.length=e)&&decide (i+w.dropLast.length<=l.length)&&decide ((l.drop i).take w.dropLast.length=w.dropLast) with
 | none=>
  obtain⟨i,h1,h2⟩:=h;have:=List.find?_eq_none.mp f (i+w.dropLast.length) (oY.mpr ∅);exfalso;apply this;rw[se];exact⟨i,oY.mpr ∅,by rw[IA rfl,IA h1,IA h2];rfl⟩
 | some e=>
  have:=List.find?_some f;rw[se]at this;obtain⟨i,_,hi⟩:=this;simp only[nY,Iz]at hi;exact⟨i,⟨hi.1.2,hi.2⟩,hi.1.1.symm⟩
theorem wR {α β:Type}{f:α->β}:∀ {l:List α},l.Nodup->(∀x∈l,∀y∈l,f x=f y->x=y)->(l.map f).Nodup
 | [],_,_=>by simp
 | x::l,nd,h=>by have nd':=rM.mp nd;rw[oP,rM];refine⟨λz=>?_,wR nd'.2 λa ha b hb=>h a (oV _ ha) b (oV _ hb)⟩;obtain⟨y,hy,e⟩:=nj.mp z;have:=h y (oV _ hy) x o7 e;rw[this]at hy;exact nd'.1 hy
def ZiF (hm:m.Pairwise (· < ·)):(m5 l m).length<=m.length*(l.length+1):=by
 have nd:=BG (l:=l) hm;have inj:∀x∈m5 l m,∀y∈m5 l m,(x.getLast?,gv l x)=(y.getLast?,gv l y)->x=y:=by
  intro x hx y hy e;obtain⟨mx,c,hc,cx⟩:=pM.mp hx;obtain⟨my,d,hd,cy⟩:=pM.mp hy;have e1:x.getLast?=y.getLast?:=IF Prod.fst e;have e2:gv l x=gv l y:=IF Prod.snd e;obtain⟨i,hi,ei⟩:=wH mx.init;obtain⟨j,hj,ej⟩:=wH my.init;have cy':y.getLast?=some c:=by rw[<-e1];exact cx
  rcases Nat.le_total y.length x.length with h | h
  .exact(EZ mx my cx cy' hi hj ∅ h).symm
  .exact EZ my mx cy' cx hj hi ∅ h
 have nd2:=wR (f:=λw:lN=>(w.getLast?,gv l w)) nd inj;have h:=xM _ (m.flatMap λc=>(List.range (l.length+1)).map λe=>(some c,e)) nd2 λp hp=>by obtain⟨w,hw,rfl⟩:=nj.mp hp;obtain⟨mw,c,hc,cw⟩:=pM.mp hw;obtain⟨i,hi,ei⟩:=wH mw.init;rw[uN];refine⟨c,hc,nj.mpr ⟨gv l w,oY.mpr (by have:=hi.1;lia),by rw[cw]⟩⟩
 rw[lZ]at h;have e:(m.flatMap λc=>(List.range (l.length+1)).map λe=>(some c,e)).length=m.length*(l.length+1):=by
  rw[List.length_flatMap];have:(m.map λc=>((List.range (l.length+1)).map λe=>(some c,e)).length)=List.replicate m.length (l.length+1):=by apply qZ {};intro i h1 h2;simp
  rw[this,List.sum_replicate_nat]
 rw[e]at h;exact h
noncomputable def sI:Bool->Keyed->Array Keyed->Nat->Nat->Nat->StateT SortSt Sem (Option Nat):=sortPriv% PySem.Builtin.gallop
noncomputable def kW (bey:Nat->StateT SortSt Sem (Option Bool)) (n h:Nat):StateT SortSt Sem (Option Nat):=do
  let mut la:=0
  let mut o:=1
  let mut lo:=0
  let mut hi:=0
  let some rt <-bey h | return none
  if rt then
   let mx:=n-h
   for _ in [0:n] do
    if o>=mx then break
    let some mo <-bey (h+o) | return none
    if !mo then break
    la:=o
    o:=2*o+1
   lo:=h+la+1
   hi:=h+min o mx
  else
   let mx:=h+1
   for _ in [0:n] do
    if o>=mx then break
    let some fo <-bey (h-o) | return none
    if fo then break
    la:=o
    o:=2*o+1
   lo:=h+1-min o mx
   hi:=h-la
  for _ in [0:n] do
   if lo>=hi then break
   let m:=lo+(hi-lo)/2
   let some mo <-bey m | return none
   if mo then lo:=m+1 else hi:=m
  return some hi
noncomputable def lJ (lf:Bool) (ky:Keyed) (ar:Array Keyed) (bs:Nat) (i:Nat):StateT SortSt Sem (Option Bool):=do
 let x <-elem' ar (bs+i)
 if lf then lt' x ky else return (<-lt' ky x).map (!·)
def ZpF (lf:Bool)(ky:Keyed)(ar:Array Keyed)(bs n h:Nat):sI lf ky ar bs n h=kW (lJ lf ky ar bs) n h:=rfl
noncomputable def kD (bey:Nat->StateT SortSt Sem (Option Bool)) (n l0 h0:Nat):StateT SortSt Sem (Option Nat):=do
  let mut lo:=l0
  let mut hi:=h0
  for _ in [0:n] do
   if lo>=hi then break
   let m:=lo+(hi-lo)/2
   let some mo <-bey m | return none
   if mo then lo:=m+1 else hi:=m
  return some hi
section
variable {M:Model}{A:AH}{E:mY}{s:AE}{bey:Nat->StateT SortSt Sem (Option Bool)}{B:Nat->Bool}{n h:Nat}{st:SortSt}{Q:Option Nat->SortSt->Prop}
noncomputable def ir (B:Nat->Bool) (n lo hi:Nat):Prop:=(∀i,i<lo->B i=true)/\∀i,hi<=i->i<n->B i=false
def ZnC {lo hi:Nat}(hb:∀i (Q:Option Bool->SortSt->Prop),i<n->Q (some (B i)) st->wpS M A E s (bey i) Q st)(mono:∀i j,i<=j->j<n->B j=true->B i=true)(h1:lo<=hi)(h2:hi<=n)(hp:ir B n lo hi)
  (q:∀k,k<=n->ir B n k k->Q (some k) st):wpS M A E s (kD bey n lo hi) Q st:=by
 unfold kD;refine mD (pX (qy (I:=λi c st'=>st'=st/\∃lo hi,c=(none,lo,hi)/\lo<=hi/\hi<=n/\hi-lo<=n-i/\ir B n lo hi) (Q:=λc st'=>st'=st/\∃k,c=(none,k,k)/\k<=n/\ir B n k k) ?step ?fin ⟨rfl,lo,hi,rfl,h1,h2,∅,hp⟩) ?post)
 case step=>
  rintro i c st' _ hi' ⟨rfl,lo,hi,rfl,h1,h2,h3,hp⟩;dsimp only;by_cases hl:lo>=hi
  .have e:lo=hi:=by lia
   subst e;rw[lU hl];exact mI ⟨rfl,lo,rfl,h2,hp⟩
  .rw[lT hl];have hm1:lo<=lo+(hi-lo)/2:=by lia
   have hm2:lo+(hi-lo)/2<hi:=by lia
   generalize lo+(hi-lo)/2=m at hm1 hm2;refine mD (hb m _ ∅ ?_);cases hB:B m with
   | true=>exact mI ⟨rfl,m+1,hi,rfl,∅,h2,∅,λi hi=>mono i m ∅ ∅ hB,hp.2⟩
   | false=>
    refine mI ⟨rfl,lo,m,rfl,∅,∅,∅,hp.1,λi hi hn=>?_⟩;cases hx:B i with
    | false=>rfl
    | true=>rw[mono m i hi hn hx]at hB;cases hB
 case fin=>
  rintro c st' ⟨rfl,lo,hi,rfl,h1,h2,h3,hp⟩;have e:lo=hi:=by lia
  subst e;exact⟨rfl,lo,rfl,h2,hp⟩
 case post=>
  rintro c st' ⟨rfl,k,rfl,hk,hp⟩;exact mI (q k hk hp)
def ZnD (hh:h<n)
  (hb:∀i (Q:Option Bool->SortSt->Prop),i<n->Q (some (B i)) st->wpS M A E s (bey i) Q st) (mono:∀i j,i<=j->j<n->B j=true->B i=true)
  (q:∀k,k<=n->ir B n k k->Q (some k) st):wpS M A E s (kW bey n h) Q st:=by
 have anti:∀ {i j},B i=false->i<=j->j<n->B j=false:=λ{i j} h1 h2 h3=>by
  cases hx:B j with
  | false=>rfl
  | true=>rw[mono i j h2 h3 hx]at h1;cases h1
 have jp:∀lo hi,lo<=hi->hi<=n->ir B n lo hi->wpS M A E s (kD bey n lo hi) Q st:=λlo hi a b c=>ZnC hb mono a b c q;unfold kW;refine mD (hb h _ hh ?_);cases hB:B h with
 | true=>
  dsimp only;rw[lU rfl];refine mD (pX (qy (I:=λi c st'=>st'=st/\∃la o,c=(none,la,o)/\i<o/\la<o/\h+la<n/\B (h+la)=true) (Q:=λc st'=>st'=st/\∃la o,c=(none,la,o)/\la<o/\h+la<n/\B (h+la)=true/\(n-h<=o\/B (h+o)=false)) ?step ?fin ⟨rfl,0,1,rfl,∅,∅,∅,hB⟩) ?post)
  case step=>
   rintro i c st' _ hi' ⟨rfl,la,o,rfl,h1,h2,h3,h4⟩;dsimp only;by_cases hl:o>=n-h
   .rw[lU hl];exact mI ⟨rfl,la,o,rfl,h2,h3,h4,.inl hl⟩
   .rw[lT hl];refine mD (hb (h+o) _ ∅ ?_);cases hx:B (h+o) with
    | false=>exact mI ⟨rfl,la,o,rfl,h2,h3,h4,.inr hx⟩
    | true=>exact mI ⟨rfl,o,2*o+1,rfl,∅,∅,∅,hx⟩
  case fin=>
   rintro c st' ⟨rfl,la,o,rfl,h1,h2,h3,h4⟩;exact⟨rfl,la,o,rfl,h2,h3,h4,.inl ∅⟩
  case post=>
   rintro c st' ⟨rfl,la,o,rfl,h2,h3,h4,h5⟩;refine jp (h+la+1) (h+min o (n-h)) ∅ ∅ ⟨λi hi=>mono i (h+la) ∅ h3 h4,λi hi hn=>?_⟩;rcases h5 with h5 | h5
   .lia
   .exact anti h5 ∅ hn
 | false=>
  dsimp only;rw[lT mQ];refine mD (pX (qy (I:=λi c st'=>st'=st/\∃la o,c=(none,la,o)/\i<o/\la<o/\la<=h/\B (h-la)=false) (Q:=λc st'=>st'=st/\∃la o,c=(none,la,o)/\la<o/\la<=h/\B (h-la)=false/\(h+1<=o\/(o<=h/\B (h-o)=true))) ?step2 ?fin2 ⟨rfl,0,1,rfl,∅,∅,∅,hB⟩) ?post2)
  case step2=>
   rintro i c st' _ hi' ⟨rfl,la,o,rfl,h1,h2,h3,h4⟩;dsimp only;by_cases hl:o>=h+1
   .rw[lU hl];exact mI ⟨rfl,la,o,rfl,h2,h3,h4,.inl hl⟩
   .rw[lT hl];refine mD (hb (h-o) _ ∅ ?_);cases hx:B (h-o) with
    | true=>exact mI ⟨rfl,la,o,rfl,h2,h3,h4,.inr ⟨∅,hx⟩⟩
    | false=>exact mI ⟨rfl,o,2*o+1,rfl,∅,∅,∅,hx⟩
  case fin2=>
   rintro c st' ⟨rfl,la,o,rfl,h1,h2,h3,h4⟩;exact⟨rfl,la,o,rfl,h2,h3,h4,.inl ∅⟩
  case post2=>
   rintro c st' ⟨rfl,la,o,rfl,h2,h3,h4,h5⟩;refine jp (h+1-min o (h+1)) (h-la) ∅ ∅ ⟨λi hi=>?_,λi hi hn=>anti h4 hi hn⟩;rcases h5 with h5 | ⟨h5,h6⟩
   .lia
   .exact mono i (h-o) ∅ ∅ h6
end
structure qO (D:Keyed->Prop)(L:Keyed->Keyed->Bool):Prop where
 asym:∀x y,D x->D y->L x y=true->L y x=false
 tr:∀x y z,D x->D y->D z->L y x=false->L z y=false->L z x=false
abbrev Le (L:Keyed->Keyed->Bool)(x y:Keyed):Prop:=L y x=false
structure MS (D:Keyed->Prop)(L:Keyed->Keyed->Bool)(T:List Keyed)(o x y:List Keyed):Prop where
 perm:(o++(x++y)).Perm T
 so:o.Pairwise (Le L)
 ox:∀u∈o,∀v∈x,Le L u v
 oy:∀u∈o,∀v∈y,Le L u v
 sx:x.Pairwise (Le L)
 sy:y.Pairwise (Le L)
section
def MS.movX (h:MS D L T o (p++x) y)(hp:∀u∈p,∀v∈y,Le L u v):MS D L T (o++p) x y:=by
 obtain⟨h1,h2,h3,h4,h5,h6⟩:=h;rw[sZ]at h5;refine⟨by simpa [pQ] using h1,sZ.mpr ⟨h2,h5.1,λu hu v hv=>h3 u hu v (by simp[hv])⟩,?_,?_,h5.2.1,h6⟩
 .intro u hu v hv;rcases nJ.mp hu with hu | hu
  .exact h3 u hu v (by simp[hv])
  .exact h5.2.2 u hu v hv
 .intro u hu v hv;rcases nJ.mp hu with hu | hu
  .exact h4 u hu v hv
  .exact hp u hu v hv
def MS.swap (h:MS D L T o x y):MS D L T o y x:=
 ⟨(List.Perm.append_left o List.perm_append_comm).trans h.perm,h.so,h.oy,h.ox,h.sy,h.sx⟩
def MS.movY (h:MS D L T o x (p++y))(hp:∀u∈p,∀v∈x,Le L u v):MS D L T (o++p) x y:=(h.swap.movX hp).swap
def MS.fin (h:MS D L T o x []):(o++x).Perm T/\(o++x).Pairwise (Le L):=
 ⟨~~~h.perm,sZ.mpr ⟨h.so,h.sx,h.ox⟩⟩
def MS.all (h:MS D L T o x y)(hxy:∀u∈x,∀v∈y,Le L u v):(o++x++y).Perm T/\(o++x++y).Pairwise (Le L):=by have:=(MS.movX (x:=[]) (~~~h) hxy).swap.fin;simpa using this
end
noncomputable def CP:Array Keyed->Array Keyed->StateT SortSt Sem (Array Keyed):=sortPriv% PySem.Builtin.mergeLo
abbrev og (st:SortSt)(g:Nat):SortSt:=SortSt.mk' (kindOf st) (arrOf st) (pendingOf st) g (failedOf st)
noncomputable def iV (g:Nat):StateT SortSt Sem Unit:=modify λs=>og s g
noncomputable def mLoB (p q:Array Keyed):StateT SortSt Sem (Array Keyed):=do
 rule "list.sort.merge-lo"
 let tt:=p.size+q.size
 let dn (o:Array Keyed) (i j:Nat):=o++p.extract i p.size++q.extract j q.size
 let lp (o:Array Keyed) (i j:Nat):=o++q.extract j q.size++p.extract i p.size
 let mut o:Array Keyed:=#[<-elem' q 0]
 let mut i:=0
 let mut j:=1
 if j == q.size then return dn o i j
 if i+1 == p.size then return lp o i j
 let mut mg:=gallopOf (<-get)
 for _ in [0:tt] do
  let mut ca:=0
  let mut cb:=0
  for _ in [0:tt] do
   let some wn <-lt' (<-elem' q j) (<-elem' p i) | return dn o i j
   if wn then
    o:=o.push (<-elem' q j);j:=j+1;cb:=cb+1;ca:=0
    if j == q.size then return dn o i j
    if cb>=mg then break
   else
    o:=o.push (<-elem' p i);i:=i+1;ca:=ca+1;cb:=0
    if i+1 == p.size then return lp o i j
    if ca>=mg then break
  rule "list.sort.gallop"
  mg:=mg+1
  for _ in [0:tt] do
   if mg>1 then mg:=mg-1
   iV mg
   let some k <-sI false (<-elem' q j) p i (p.size-i) 0 | return dn o i j
   ca:=k
   if k>0 then
    o:=o++p.extract i (i+k);i:=i+k
    if i+1 == p.size then return lp o i j
    if i == p.size then return dn o i j
   o:=o.push (<-elem' q j);j:=j+1
   if j == q.size then return dn o i j
   let some k <-sI true (<-elem' p i) q j (q.size-j) 0 | return dn o i j
   cb:=k
   if k>0 then
    o:=o++q.extract j (j+k);j:=j+k
    if j == q.size then return dn o i j
   o:=o.push (<-elem' p i);i:=i+1
   if i+1 == p.size then return lp o i j
   if ca<7&&cb<7 then break
  mg:=mg+1
  iV mg
 unsupported "internal:list.sort.merge-bound"
def Zpd (p q:Array Keyed):CP p q=mLoB p q:=rfl
section
noncomputable def gg (M:Model) (A:AH) (E:mY) (s:AE) (D:Keyed->Prop) (L:Keyed->Keyed->Bool) (kd:SortKind):Prop:=
 ∀(st:SortSt) (x y:Keyed) (Q:Option Bool->SortSt->Prop),kindOf st=kd->D x->D y->Q (some (L x y)) st->wpS M A E s (lt' x y) Q st
def pE {ar:Array Keyed}{i:Nat}{x:Keyed}{Q:Keyed->SortSt->Prop}{st:SortSt}(h:ar[i]?=some x)(q:Q x st):wpS M A E s (elem' ar i) Q st:=by rw[elem'_eq,h];exact mI q
def ww (hC:qO D L)(hP:gg M A E s D L kd){lf:Bool}{ky:Keyed}{ar:Array Keyed}{bs n h:Nat}{st:SortSt}{Q:Option Nat->SortSt->Prop}(hk:kindOf st=kd)
  (hn:bs+n<=ar.size) (hh:h<n) (hy:D ky) (hd:∀u∈ar.toList,D u) (hs:((ar.toList.drop bs).take n).Pairwise (Le L))
  (q:∀k,k<=n->(∀u∈((ar.toList.drop bs).take n).take k,if lf then L u ky=true else Le L u ky)->(∀u∈((ar.toList.drop bs).take n).drop k,if lf then Le L ky u else L ky u=true)->Q (some k) st):
  wpS M A E s (sI lf ky ar bs n h) Q st:=by
 rw[ZpF];obtain⟨xs,hxs⟩:∃xs,xs=(ar.toList.drop bs).take n:=⟨_,rfl⟩;rw[<-hxs]at hs q;have Aq:xs.length=n:=by rw[hxs,nG,oZ,oB];lia
 have hat:∀i (hi:i<xs.length),ar[bs+i]?=some xs[i]:=by intro i hi;have:xs[i]?=some xs[i]:=mT hi;rw[<-this,hxs,wW,lU ∅,vq,qL]
 have hdx:∀u∈xs,D u:=λu hu=>hd u (pJ (o9 (hxs▸hu)));refine ZnD (B:=λi=>if hi:i<xs.length then (if lf then L xs[i] ky else !L ky xs[i]) else false) hh ?_ ?_ ?_
 .intro i Q hi hq;have hi':i<xs.length:=by lia
  rw[dif_pos hi']at hq;refine mD (pE (hat i hi') ?_);have hD:=hdx _ (rq hi');cases lf with
  | true=>exact hP st _ _ _ hk hD hy hq
  | false=>exact mD (hP st _ _ _ hk hy hD (mI hq))
 .intro i j hij hj;have hj':j<xs.length:=by lia
  have hi':i<xs.length:=by lia
  rw[dif_pos hj',dif_pos hi'];by_cases e:i=j
  .subst e;exact id
  .have hle:Le L xs[i] xs[j]:=vU.mp hs i j hi' hj' ∅;have hDi:=hdx _ (rq hi');have hDj:=hdx _ (rq hj');cases lf with
   | true=>
    rw[lU rfl,lU rfl];intro h1;cases h2:L xs[i] ky with
    | true=>rfl
    | false=>rw[hC.tr ky _ _ hy hDi hDj h2 hle]at h1;cases h1
   | false=>
    rw[lT mQ,lT mQ];intro h1;rw[Bool.not_eq_true']at h1 ⊢;exact hC.tr _ _ ky hDi hDj hy hle h1
 .intro k hk' hp;refine q k hk' (λu hu=>?_) (λu hu=>?_)
  .obtain⟨i,hi,rfl⟩:=qS hu;rw[nG]at hi;have:=hp.1 i ∅;dsimp only at this;rw[dif_pos ∅]at this;rw[yQ];cases lf with
   | true=>exact this
   | false=>simpa using this
  .obtain⟨i,hi,rfl⟩:=qS hu;rw[oZ]at hi;have:=hp.2 (k+i) ∅ ∅;dsimp only at this;rw[dif_pos ∅]at this;rw[List.getElem_drop];cases lf with
   | true=>exact this
   | false=>simpa using this
end
abbrev wA:=Option (Array Keyed)×Array Keyed×Nat×Nat×Nat×Nat×Nat
noncomputable def uT (p q o:Array Keyed) (i j:Nat):Array Keyed:=o++p.extract i p.size++q.extract j q.size
noncomputable def yT (p q o:Array Keyed) (i j:Nat):Array Keyed:=o++q.extract j q.size++p.extract i p.size
noncomputable def zJ (p q o:Array Keyed) (i j mg ca cb:Nat):StateT SortSt Sem (ForInStep wA):=do
 let e <-elem' p i
 if (i+1+1 == p.size)=true then pure (ForInStep.done (some (yT p q (o.push e) (i+1) j),o.push e,i+1,j,mg,ca,cb))
 else if (decide (ca<7)&&decide (cb<7))=true then pure (ForInStep.done (none,o.push e,i+1,j,mg,ca,cb))
 else pure (ForInStep.yield (none,o.push e,i+1,j,mg,ca,cb))
noncomputable def zW (p q o:Array Keyed) (i j mg ca cb:Nat):StateT SortSt Sem (ForInStep wA):=do
 let e <-elem' q j
 if (j+1 == q.size)=true then pure (ForInStep.done (some (uT p q (o.push e) i (j+1)),o.push e,i,j+1,mg,ca,cb))
 else do
  let some k <-sI true (<-elem' p i) q (j+1) (q.size-(j+1)) 0 | pure (ForInStep.done (some (uT p q (o.push e) i (j+1)),o.push e,i,j+1,mg,ca,cb))
  if k>0 then
   if (j+1+k == q.size)=true then pure (ForInStep.done (some (uT p q (o.push e++q.extract (j+1) (j+1+k)) i (j+1+k)),o.push e++q.extract (j+1) (j+1+k),i,j+1+k,mg,ca,k))
   else zJ p q (o.push e++q.extract (j+1) (j+1+k)) i (j+1+k) mg ca k
  else zJ p q (o.push e) i (j+1) mg ca k
noncomputable def yk (p q o:Array Keyed) (i j mg ca cb:Nat):StateT SortSt Sem (ForInStep wA):=do
 iV mg
 let some k <-sI false (<-elem' q j) p i (p.size-i) 0 | pure (ForInStep.done (some (uT p q o i j),o,i,j,mg,ca,cb))
 if k>0 then
  if (i+k+1 == p.size)=true then pure (ForInStep.done (some (yT p q (o++p.extract i (i+k)) (i+k) j),o++p.extract i (i+k),i+k,j,mg,k,cb))
  else if (i+k == p.size)=true then pure (ForInStep.done (some (uT p q (o++p.extract i (i+k)) (i+k) j),o++p.extract i (i+k),i+k,j,mg,k,cb))
  else zW p q (o++p.extract i (i+k)) (i+k) j mg k cb
 else zW p q o i j mg k cb
section
variable {M:Model}{A:AH}{E:mY}{s:AE}{D:Keyed->Prop}{L:Keyed->Keyed->Bool}{kd:SortKind}{p q:Array Keyed}{T:List Keyed}{st:SortSt}
structure tX (D:Keyed->Prop)(L:Keyed->Keyed->Bool)(p q:Array Keyed)(T:List Keyed)(o:Array Keyed)(i j:Nat):Prop where
 ms:MS D L T o.toList (p.toList.drop i) (q.toList.drop j)
 li:i+1<p.size
 lj:j<q.size
noncomputable def gQ (L:Keyed->Keyed->Bool) (T:List Keyed) (z:Array Keyed):Prop:=z.toList.Perm T/\z.toList.Pairwise (Le L)
def uU (h:p[i]?=some e):p.toList.drop i=e::p.toList.drop (i+1):=by obtain⟨hi,rfl⟩:=xR.mp h;rw[<-Array.getElem_toList];exact List.drop_eq_getElem_cons (~~~hi)
def at? (h:i<p.size):∃e,p[i]?=some e/\e∈p.toList:=⟨p[i],getElem?_pos p i h,{}⟩
def ZlG (p q o:Array Keyed)(i j:Nat):(uT p q o i j).toList=o.toList++p.toList.drop i++q.toList.drop j:=by unfold uT;rw[sD,sD,si,si,List.extract,List.extract,qH {},qH {}]
def Zll (p q o:Array Keyed)(i j:Nat):(yT p q o i j).toList=o.toList++q.toList.drop j++p.toList.drop i:=by unfold yT;rw[sD,sD,si,si,List.extract,List.extract,qH {},qH {}]
def Gj (p:Array Keyed)(i k:Nat):(p.extract i (i+k)).toList=(p.toList.drop i).take k:=by simp[si,List.extract]
def Gm (l:List Keyed)(i k:Nat):l.drop i=(l.drop i).take k++l.drop (i+k):=by rw[<-rH,qU]
structure xj (D:Keyed->Prop)(L:Keyed->Keyed->Bool)(p q:Array Keyed):Prop where
 dp:∀u∈p.toList,D u
 dq:∀u∈q.toList,D u
 sp:p.toList.Pairwise (Le L)
 sq:q.toList.Pairwise (Le L)
 last:∀u∈q.toList,∀v∈p.toList.drop (p.size-1),L u v=true
def xj.fin_lp (hH:xj D L p q)(hC:qO D L)(h:MS D L T o.toList (p.toList.drop i) (q.toList.drop j))(e:i+1=p.size):gQ L T (yT p q o i j):=by
 unfold gQ;rw[Zll];refine h.swap.all λu hu v hv=>?_;have hu:=pJ hu;have e':i=p.size-1:=by lia
 subst e';exact hC.asym _ _ (hH.dq u hu) (hH.dp v (pJ hv)) (hH.last u hu v hv)
def A7 (h:MS D L T o.toList (p.toList.drop i) (q.toList.drop j))(e:j=q.size):gQ L T (uT p q o i j):=by unfold gQ;rw[ZlG];have e2:q.toList.drop j=[]:=sH (by simp;lia);rw[e2]at h ⊢;simpa using h.fin
noncomputable def yx (D:Keyed->Prop) (L:Keyed->Keyed->Bool) (p q:Array Keyed) (T:List Keyed) (w:Nat) (c:wA):Prop:=
 ∃r o i j mg ca cb,c=(r,o,i,j,mg,ca,cb)/\((∃z,r=some z/\gQ L T z)\/(r=none/\tX D L p q T o i j/\w<=i+j))
noncomputable def xX (D:Keyed->Prop) (L:Keyed->Keyed->Bool) (p q:Array Keyed) (T:List Keyed) (w:Nat) (c:wA):Prop:=
 ∃o i j mg ca cb,c=(none,o,i,j,mg,ca,cb)/\tX D L p q T o i j/\w<=i+j
noncomputable def CG (D:Keyed->Prop) (L:Keyed->Keyed->Bool) (p q:Array Keyed) (T:List Keyed) (w:Nat) (st:SortSt) (r:ForInStep wA) (st':SortSt):Prop:=
 (∃g,st'=og st g)/\match r with | .done c=>yx D L p q T w c | .yield c=>xX D L p q T w c
def E1 (hH:xj D L p q)(hC:qO D L)(hi:i+1<p.size)(hj:j<q.size)(hw:w<=i+1+j)(h:MS D L T o.toList (p.toList.drop i) (q.toList.drop j))
  (hle:∀u∈(p.toList.drop i).take 1,∀v∈q.toList.drop j,Le L u v):wpS M A E s (zJ p q o i j mg ca cb) (CG D L p q T w st) (og st g):=by
 obtain⟨e,he,hm⟩:=at? (p:=p) (i:=i) ∅;have hd:=uU he;have h2:MS D L T (o.push e).toList (p.toList.drop (i+1)) (q.toList.drop j):=by rw[tF];rw[hd]at h hle;exact MS.movX (p:=[e]) h (λu hu v hv=>hle u (~~~hu) v hv)
 unfold zJ;refine mD (pE he ?_);by_cases c1:i+1+1=p.size
 .rw[lU (~~~c1)];exact mI ⟨⟨g,rfl⟩,_,_,_,_,_,_,_,rfl,.inl ⟨_,rfl,hH.fin_lp hC h2 c1⟩⟩
 .rw[lT (~~~c1)];have hI:tX D L p q T (o.push e) (i+1) j:=⟨h2,∅,hj⟩;split
  .exact mI ⟨⟨g,rfl⟩,_,_,_,_,_,_,_,rfl,.inr ⟨rfl,hI,hw⟩⟩
  .exact mI ⟨⟨g,rfl⟩,_,_,_,_,_,_,rfl,hI,hw⟩
def HM (hH:xj D L p q)(hC:qO D L)(hP:gg M A E s D L kd)(hk:kindOf st=kd)(hi:i+1<p.size)(hj:j<q.size)(hw:w<=i+1+j)(h:MS D L T o.toList (p.toList.drop i) (q.toList.drop j))
  (hle:∀u∈(q.toList.drop j).take 1,∀v∈p.toList.drop i,Le L u v):wpS M A E s (zW p q o i j mg ca cb) (CG D L p q T w st) (og st g):=by
 obtain⟨e,he,hm⟩:=at? (p:=q) (i:=j) hj;obtain⟨x,hx,hxm⟩:=at? (p:=p) (i:=i) ∅;have hd:=uU he;have h2:MS D L T (o.push e).toList (p.toList.drop i) (q.toList.drop (j+1)):=by rw[tF];rw[hd]at h hle;exact MS.movY (p:=[e]) h (λu hu v hv=>hle u (~~~hu) v hv)
 unfold zW;refine mD (pE he ?_);by_cases c1:j+1=q.size
 .rw[lU (~~~c1)];exact mI ⟨⟨g,rfl⟩,_,_,_,_,_,_,_,rfl,.inl ⟨_,rfl,A7 h2 c1⟩⟩
 .rw[lT (~~~c1)];refine mD (pE hx ?_);have et:(q.toList.drop (j+1)).take (q.size-(j+1))=q.toList.drop (j+1):=qH {};refine mD (ww hC hP (by exact hk) ∅ ∅ (hH.dp x hxm) hH.dq (by rw[et];exact h2.sy) ?_);rw[et];intro k hkn ha hb;replace ha:∀u∈(q.toList.drop (j+1)).take k,L u x=true:=ha;replace hb:∀u∈(q.toList.drop (j+1)).drop k,Le L x u:=hb;dsimp only;have hpd:=uU hx;have hsx:=h2.sx;rw[hpd,sW]at hsx;have xle:∀v∈p.toList.drop i,Le L x v:=by
   intro v hv;rw[hpd]at hv;rcases m6.mp hv with rfl | hv
   .cases hx:L v v with
    | false=>exact hx
    | true=>exact hC.asym v v (hH.dp v hxm) (hH.dp v hxm) hx
   .exact hsx.1 v hv
  have h3:MS D L T (o.push e++q.extract (j+1) (j+1+k)).toList (p.toList.drop i) (q.toList.drop (j+1+k)):=by rw[sD,Gj];rw[Gm q.toList (j+1) k]at h2;refine h2.movY λu hu v hv=>?_;have hDu:=hH.dq u (pJ (o9 hu));exact hC.tr u x v hDu (hH.dp x hxm) (hH.dp v (pJ hv)) (hC.asym u x hDu (hH.dp x hxm) (ha u hu)) (xle v hv)
  have hle2:∀u∈(p.toList.drop i).take 1,∀v∈q.toList.drop (j+1+k),Le L u v:=by
   intro u hu v hv;rw[hpd]at hu;have:u=x:=by simpa using hu
   subst this;exact hb v (by rwa [rH])
  by_cases hk0:k>0
  .rw[lU hk0];by_cases c2:j+1+k=q.size
   .rw[lU (~~~c2)];exact mI ⟨⟨g,rfl⟩,_,_,_,_,_,_,_,rfl,.inl ⟨_,rfl,A7 h3 c2⟩⟩
   .rw[lT (~~~c2)];exact E1 hH hC hi ∅ ∅ h3 hle2
  .rw[lT hk0];have:k=0:=by lia
   subst this;exact E1 hH hC hi ∅ ∅ h2 hle2
def Zpi (hH:xj D L p q)(hC:qO D L)(hP:gg M A E s D L kd)(hk:kindOf st=kd)(hw:w<=i+1+j)(hI:tX D L p q T o i j):
  wpS M A E s (yk p q o i j mg ca cb) (CG D L p q T w st) (og st g):=by
 obtain⟨h,hi,hj⟩:=hI;obtain⟨x,hx,hxm⟩:=at? (p:=q) (i:=j) hj;have hqd:=uU hx;have hsy:=h.sy;rw[hqd,sW]at hsy;have xle:∀v∈q.toList.drop j,Le L x v:=by
  intro v hv;rw[hqd]at hv;rcases m6.mp hv with rfl | hv
  .cases hx:L v v with
   | false=>exact hx
   | true=>exact hC.asym v v (hH.dq v hxm) (hH.dq v hxm) hx
  .exact hsy.1 v hv
 unfold yk;refine mD (rV ?_);refine mD (pE hx ?_);have et:(p.toList.drop i).take (p.size-i)=p.toList.drop i:=qH {};refine mD (ww hC hP (by exact hk) ∅ ∅ (hH.dq x hxm) hH.dp (by rw[et];exact h.sx) ?_);rw[et];intro k hkn ha hb;replace ha:∀u∈(p.toList.drop i).take k,Le L u x:=ha;replace hb:∀u∈(p.toList.drop i).drop k,L x u=true:=hb;dsimp only;have h3:MS D L T (o++p.extract i (i+k)).toList (p.toList.drop (i+k)) (q.toList.drop j):=by rw[sD,Gj];rw[Gm p.toList i k]at h;refine h.movX λu hu v hv=>?_;exact hC.tr u x v (hH.dp u (pJ (o9 hu))) (hH.dq x hxm) (hH.dq v (pJ hv)) (ha u hu) (xle v hv)
 have hle2:∀u∈(q.toList.drop j).take 1,∀v∈p.toList.drop (i+k),Le L u v:=by
  intro u hu v hv;rw[hqd]at hu;have:u=x:=by simpa using hu
  subst this;have hv':v∈(p.toList.drop i).drop k:=by rwa [rH]
  exact hC.asym u v (hH.dq u hxm) (hH.dp v (pJ hv)) (hb v hv')
 have hlast:i+k≠p.size:=by
  intro e;obtain⟨y,hy,hym⟩:=at? (p:=p) (i:=p.size-1) ∅;have hyd:=uU hy;have h5:=hH.last x hxm y (by rw[hyd];simp);have hy2:y∈(p.toList.drop i).take k:=by
   rw[qH (by simp;lia)];have:y∈p.toList.drop (p.size-1):=by rw[hyd];simp
   rw[show p.size-1=i+(p.size-1-i) by lia,<-rH]at this;exact pJ this
  have h6:=ha y hy2;rw[show L x y=false from h6]at h5;cases h5
 by_cases hk0:k>0
 .rw[lU hk0];by_cases c2:i+k+1=p.size
  .rw[lU (~~~c2)];exact mI ⟨⟨_,rfl⟩,_,_,_,_,_,_,_,rfl,.inl ⟨_,rfl,hH.fin_lp hC h3 c2⟩⟩
  .rw[lT (~~~c2),lT (~~~hlast)];exact HM hH hC hP hk ∅ hj ∅ h3 hle2
 .rw[lT hk0];have:k=0:=by lia
  subst this;exact HM hH hC hP hk hi hj hw h hle2
def xx {β γ:Type}{r:Std.Legacy.Range}{i:β}{F:Nat->β->StateT SortSt Sem (ForInStep β)}{G:β->StateT SortSt Sem γ}{M:Model}{A:AH}{E:mY}{s:AE}{Q:γ->SortSt->Prop}{st:SortSt}(h:let F':=F;let G':=G;wpS M A E s (forIn r i F' >>= G') Q st):wpS M A E s (forIn r i F >>= G) Q st:=h
def Zpc (hH:xj D L p q)(hC:qO D L)(hP:gg M A E s D L kd)(hk:kindOf st=kd)(hp:0<p.size)(hq:0<q.size)
  (h0:∀u∈q.toList.take 1,∀v∈p.toList,Le L u v) (hQ:∀z g,gQ L (p.toList++q.toList) z->Q z (og st g)):wpS M A E s (CP p q) Q st:=by
 rw[Zpd];unfold mLoB;obtain⟨e,he,hm⟩:=at? (p:=q) (i:=0) hq;have hd:q.toList=e::q.toList.drop 1:=by simpa using uU he
 have h1:MS D L (p.toList++q.toList) (#[e]:Array Keyed).toList (p.toList.drop 0) (q.toList.drop 1):=by have:MS D L (p.toList++q.toList) [] p.toList ([e]++q.toList.drop 1):=⟨by rw[hd];simp,List.Pairwise.nil,{},{},hH.sp,by have:=hH.sq;rw[hd]at this;exact this⟩;refine this.movY λu hu v hv=>h0 u ?_ v hv;rw[hd];simpa using hu
 refine mD (wpS_lift (rG ⟨rfl,?_⟩));refine mD (pE he ?_);by_cases c1:1=q.size
 .rw[lU (~~~c1)];exact mI (hQ _ _ (A7 h1 c1))
 rw[lT (~~~c1)];by_cases c2:0+1=p.size
 .rw[lU (~~~c2)];exact mI (hQ _ _ (hH.fin_lp hC h1 c2))
 rw[lT (~~~c2)];refine mD (wpS_get ?_);have hI:tX D L p q (p.toList++q.toList) #[e] 0 1:=⟨h1,∅,∅⟩;generalize p.toList++q.toList=T at hI hQ;refine xx ?_;intro F1 G1;refine mD (pX (qy (I:=λx c st'=>∃g,st'=og st g/\∃o i j mg,c=(none,o,i,j,mg)/\tX D L p q T o i j/\x<=i+j)
  (Q:=λc st'=>∃g,st'=og st g/\∃z o i j mg,c=(some z,o,i,j,mg)/\gQ L T z) ?step ?fin ⟨gallopOf st,rfl,_,_,_,_,rfl,hI,∅⟩) ?post)
 case post=>
  rintro c st' ⟨g,rfl,z,o,i,j,mg,rfl,hz⟩;exact mI (hQ z g hz)
 case fin=>
  rintro c st' ⟨g,rfl,o,i,j,mg,rfl,hI,hx⟩;have:=hI.li;have:=hI.lj
  lia
 case step=>
  rintro x c st' _ hx ⟨g,rfl,o,i,j,mg,rfl,hI,hxi⟩;dsimp only[F1];refine xx ?_;intro F2 G2;refine mD (pX (qy (I:=λy c st'=>st'=og st g/\∃o i j ca cb,c=(none,o,i,j,ca,cb)/\tX D L p q T o i j/\y+x<=i+j)
   (Q:=λc st'=>st'=og st g/\∃r o i j ca cb,c=(r,o,i,j,ca,cb)/\((∃z,r=some z/\gQ L T z)\/(r=none/\tX D L p q T o i j/\x+1<=i+j))) ?s1 ?f1 ⟨rfl,_,_,_,_,_,rfl,hI,∅⟩) ?p1)
  case f1=>
   rintro c st' ⟨rfl,o,i,j,ca,cb,rfl,hI,hx⟩;have:=hI.li;have:=hI.lj
   lia
  case s1=>
   rintro y c st' _ hy ⟨rfl,o,i,j,ca,cb,rfl,hI,hxi⟩;obtain⟨h,hi,hj⟩:=hI;obtain⟨u,hu,hum⟩:=at? (p:=q) (i:=j) hj;obtain⟨v,hv,hvm⟩:=at? (p:=p) (i:=i) ∅;have hDu:=hH.dq u hum;have hDv:=hH.dp v hvm;have hqd:=uU hu;have hpd:=uU hv;have hsx:=h.sx;have hsy:=h.sy;rw[hpd,sW]at hsx;rw[hqd,sW]at hsy;dsimp only[F2];refine mD (pE hu (mD (pE hv (mD (hP _ _ _ _ hk hDu hDv ?_)))));dsimp only;cases hL:L u v with
   | true=>
    rw[lU rfl];refine mD (pE hu ?_);have h2:MS D L T (o.push u).toList (p.toList.drop i) (q.toList.drop (j+1)):=by
     rw[tF];rw[hqd]at h;refine MS.movY (p:=[u]) h λa ha b hb=>?_;have ha:a=u:=by simpa using ha
     subst ha;have hav:Le L a v:=hC.asym _ _ hDu hDv hL;rw[hpd]at hb;rcases m6.mp hb with rfl | hb
     .exact hav
     .exact hC.tr a v b hDu hDv (hH.dp b (pJ hb)) hav (hsx.1 b hb)
    by_cases c3:j+1=q.size
    .rw[lU (~~~c3)];exact mI ⟨rfl,_,_,_,_,_,_,rfl,.inl ⟨_,rfl,A7 h2 c3⟩⟩
    .rw[lT (~~~c3)];have hI:tX D L p q T (o.push u) i (j+1):=⟨h2,hi,∅⟩;split
     .exact mI ⟨rfl,_,_,_,_,_,_,rfl,.inr ⟨rfl,hI,∅⟩⟩
     .exact mI ⟨rfl,_,_,_,_,_,rfl,hI,∅⟩
   | false=>
    rw[lT mQ];refine mD (pE hv ?_);have h2:MS D L T (o.push v).toList (p.toList.drop (i+1)) (q.toList.drop j):=by
     rw[tF];rw[hpd]at h;refine MS.movX (p:=[v]) h λa ha b hb=>?_;have ha:a=v:=by simpa using ha
     subst ha;rw[hqd]at hb;rcases m6.mp hb with rfl | hb
     .exact hL
     .exact hC.tr a u b hDv hDu (hH.dq b (pJ hb)) hL (hsy.1 b hb)
    by_cases c3:i+1+1=p.size
    .rw[lU (~~~c3)];exact mI ⟨rfl,_,_,_,_,_,_,rfl,.inl ⟨_,rfl,hH.fin_lp hC h2 c3⟩⟩
    .rw[lT (~~~c3)];have hI:tX D L p q T (o.push v) (i+1) j:=⟨h2,∅,hj⟩;split
     .exact mI ⟨rfl,_,_,_,_,_,_,rfl,.inr ⟨rfl,hI,∅⟩⟩
     .exact mI ⟨rfl,_,_,_,_,_,rfl,hI,∅⟩
  case p1=>
   rintro c st' ⟨rfl,r,o,i,j,ca,cb,rfl,⟨z,rfl,hz⟩|⟨rfl,hI,hw⟩⟩
   .exact mI ⟨g,rfl,z,o,i,j,mg,rfl,hz⟩
   .dsimp only[G2];refine mD (wpS_lift (rG ⟨rfl,?_⟩));refine xx ?_;intro F3 G3;refine mD (pX (qy (I:=λy c st'=>(∃g,st'=og st g)/\xX D L p q T (y+(x+1)) c)
     (Q:=λc st'=>(∃g,st'=og st g)/\yx D L p q T (x+1) c) ?s2 ?f2 ⟨⟨g,rfl⟩,_,_,_,_,_,_,rfl,hI,∅⟩) ?p2)
    case f2=>
     rintro c st' ⟨_,o,i,j,mg,ca,cb,rfl,hI,hx⟩;have:=hI.li;have:=hI.lj
     lia
    case p2=>
     rintro c st' ⟨⟨g,rfl⟩,r,o,i,j,mg,ca,cb,rfl,⟨z,rfl,hz⟩|⟨rfl,hI,hw⟩⟩
     .exact mI ⟨g,rfl,z,o,i,j,mg,rfl,hz⟩
     .exact mD (rV (mI ⟨_,rfl,_,_,_,_,rfl,hI,hw⟩))
    case s2=>
     rintro y c st' _ hy ⟨⟨g,rfl⟩,o,i,j,mg,ca,cb,rfl,hI,hw⟩;have key:∀mg,wpS M A E s (yk p q o i j mg ca cb) (λr st'=>match r with | .done c'=>(∃g,st'=og st g)/\yx D L p q T (x+1) c' | .yield c'=>(∃g,st'=og st g)/\xX D L p q T (y+1+(x+1)) c') (og st g):=by
      intro mg;refine pX (Zpi (w:=y+1+(x+1)) hH hC hP hk ∅ hI) ?_;rintro r st' ⟨hg,hr⟩;cases r with
      | done c=>
       obtain⟨r,o,i,j,mg,ca,cb,rfl,h | ⟨rfl,hI,hw⟩⟩:=hr
       .exact⟨hg,r,o,i,j,mg,ca,cb,rfl,.inl h⟩
       .exact⟨hg,none,o,i,j,mg,ca,cb,rfl,.inr ⟨rfl,hI,∅⟩⟩
      | yield c=>exact⟨hg,hr⟩
     have key2:wpS M A E s (if mg>1 then yk p q o i j (mg-1) ca cb else yk p q o i j mg ca cb) (λr st'=>match r with | .done c'=>(∃g,st'=og st g)/\yx D L p q T (x+1) c' | .yield c'=>(∃g,st'=og st g)/\xX D L p q T (y+1+(x+1)) c') (og st g):=by
      split
      .exact key _
      .exact key _
     refine pX (Q:=λr st'=>match r with | .done c'=>(∃g,st'=og st g)/\yx D L p q T (x+1) c' | .yield c'=>(∃g,st'=og st g)/\xX D L p q T (y+1+(x+1)) c') ?_ (λr st' hr=>by cases r<;>exact hr);by_cases hmg:mg>1
     .dsimp only[F3];rw[lU hmg];exact key (mg-1)
     .dsimp only[F3];rw[lT hmg];exact key mg
end
noncomputable def BW:Array Keyed->Array Keyed->StateT SortSt Sem (Array Keyed):=sortPriv% PySem.Builtin.mergeHi
noncomputable def mHiB (p q:Array Keyed):StateT SortSt Sem (Array Keyed):=do
 rule "list.sort.merge-hi"
 let tt:=p.size+q.size
 let dn (o:Array Keyed) (i j:Nat):=p.extract 0 i++q.extract 0 j++o.reverse
 let fb (o:Array Keyed) (i j:Nat):=q.extract 0 j++p.extract 0 i++o.reverse
 let mut i:=p.size-1
 let mut j:=q.size
 let mut o:Array Keyed:=#[<-elem' p i]
 if i == 0 then return dn o i j
 if j == 1 then return fb o i j
 let mut mg:=gallopOf (<-get)
 for _ in [0:tt] do
  let mut ca:=0
  let mut cb:=0
  for _ in [0:tt] do
   let some wn <-lt' (<-elem' q (j-1)) (<-elem' p (i-1)) | return dn o i j
   if wn then
    i:=i-1;o:=o.push (<-elem' p i);ca:=ca+1;cb:=0
    if i == 0 then return dn o i j
    if ca>=mg then break
   else
    j:=j-1;o:=o.push (<-elem' q j);cb:=cb+1;ca:=0
    if j == 1 then return fb o i j
    if cb>=mg then break
  rule "list.sort.gallop"
  mg:=mg+1
  for _ in [0:tt] do
   if mg>1 then mg:=mg-1
   iV mg
   let some a <-sI false (<-elem' q (j-1)) p 0 i (i-1) | return dn o i j
   let k:=i-a
   ca:=k
   if k>0 then
    o:=o++(p.extract a i).reverse;i:=a
    if i == 0 then return dn o i j
   j:=j-1;o:=o.push (<-elem' q j)
   if j == 1 then return fb o i j
   let some a <-sI true (<-elem' p (i-1)) q 0 j (j-1) | return dn o i j
   let k:=j-a
   cb:=k
   if k>0 then
    o:=o++(q.extract a j).reverse;j:=a
    if j == 1 then return fb o i j
    if j == 0 then return dn o i j
   i:=i-1;o:=o.push (<-elem' p i)
   if i == 0 then return dn o i j
   if ca<7&&cb<7 then break
  mg:=mg+1
  iV mg
 unsupported "internal:list.sort.merge-bound"
def Zpf (p q:Array Keyed):BW p q=mHiB p q:=rfl
abbrev wp:=Option (Array Keyed)×Nat×Nat×Array Keyed×Nat×Nat×Nat
noncomputable def u7 (p q o:Array Keyed) (i j:Nat):Array Keyed:=p.extract 0 i++q.extract 0 j++o.reverse
noncomputable def yF (p q o:Array Keyed) (i j:Nat):Array Keyed:=q.extract 0 j++p.extract 0 i++o.reverse
noncomputable def BA (p q o:Array Keyed) (i j mg ca cb:Nat):StateT SortSt Sem (ForInStep wp):=do
 let e <-elem' p (i-1)
 if (i-1 == 0)=true then pure (ForInStep.done (some (u7 p q (o.push e) (i-1) j),i-1,j,o.push e,mg,ca,cb))
 else if (decide (ca<7)&&decide (cb<7))=true then pure (ForInStep.done (none,i-1,j,o.push e,mg,ca,cb))
 else pure (ForInStep.yield (none,i-1,j,o.push e,mg,ca,cb))
noncomputable def Bj (p q o:Array Keyed) (i j mg ca cb:Nat):StateT SortSt Sem (ForInStep wp):=do
 let e <-elem' q (j-1)
 if (j-1 == 1)=true then pure (ForInStep.done (some (yF p q (o.push e) i (j-1)),i,j-1,o.push e,mg,ca,cb))
 else do
  let some a <-sI true (<-elem' p (i-1)) q 0 (j-1) (j-1-1) | pure (ForInStep.done (some (u7 p q (o.push e) i (j-1)),i,j-1,o.push e,mg,ca,cb))
  if j-1-a>0 then
   if (a == 1)=true then pure (ForInStep.done (some (yF p q (o.push e++(q.extract a (j-1)).reverse) i a),i,a,o.push e++(q.extract a (j-1)).reverse,mg,ca,j-1-a))
   else if (a == 0)=true then pure (ForInStep.done (some (u7 p q (o.push e++(q.extract a (j-1)).reverse) i a),i,a,o.push e++(q.extract a (j-1)).reverse,mg,ca,j-1-a))
   else BA p q (o.push e++(q.extract a (j-1)).reverse) i a mg ca (j-1-a)
  else BA p q (o.push e) i (j-1) mg ca (j-1-a)
noncomputable def DM (p q o:Array Keyed) (i j mg ca cb:Nat):StateT SortSt Sem (ForInStep wp):=do
 iV mg
 let some a <-sI false (<-elem' q (j-1)) p 0 i (i-1) | pure (ForInStep.done (some (u7 p q o i j),i,j,o,mg,ca,cb))
 if i-a>0 then
  if (a == 0)=true then pure (ForInStep.done (some (u7 p q (o++(p.extract a i).reverse) a j),a,j,o++(p.extract a i).reverse,mg,i-a,cb))
  else Bj p q (o++(p.extract a i).reverse) a j mg (i-a) cb
 else Bj p q o i j mg (i-a) cb
section
variable {M:Model}{A:AH}{E:mY}{s:AE}{D:Keyed->Prop}{L:Keyed->Keyed->Bool}{kd:SortKind}{p q:Array Keyed}{T:List Keyed}{st:SortSt}
noncomputable abbrev Fl (L:Keyed->Keyed->Bool):Keyed->Keyed->Bool:=λx y=>L y x
def Eg {l:List Keyed}:l.reverse.Pairwise (Le (Fl L))↔l.Pairwise (Le L):=by rw[List.pairwise_reverse]
abbrev MR (D:Keyed->Prop)(L:Keyed->Keyed->Bool)(T:List Keyed)(p q o:Array Keyed)(i j:Nat):Prop:=MS D (Fl L) T o.toList (p.toList.take i).reverse (q.toList.take j).reverse
structure uh (D:Keyed->Prop)(L:Keyed->Keyed->Bool)(p q:Array Keyed)(T:List Keyed)(o:Array Keyed)(i j:Nat):Prop where
 ms:MR D L T p q o i j
 li:0<i
 lj:1<j
 hi:i<=p.size
 hj:j<=q.size
structure wu (D:Keyed->Prop)(L:Keyed->Keyed->Bool)(p q:Array Keyed):Prop where
 dp:∀u∈p.toList,D u
 dq:∀u∈q.toList,D u
 sp:p.toList.Pairwise (Le L)
 sq:q.toList.Pairwise (Le L)
 first:∀u∈q.toList.take 1,∀v∈p.toList,L u v=true
def wG (hi:0<i)(h:p[i-1]?=some e):p.toList.take i=p.toList.take (i-1)++[e]:=by obtain⟨i,rfl⟩:∃k,i=k+1:=⟨i-1,∅⟩;rw[Nat.add_sub_cancel]at h ⊢;rw[List.take_succ,qL,h];rfl
def zZ (hi:0<i)(h:p[i-1]?=some e):(p.toList.take i).reverse=[e]++(p.toList.take (i-1)).reverse:=by rw[wG hi h,List.reverse_append];rfl
def GK (l:List Keyed){a i:Nat}(h:a<=i):(l.take i).reverse=((l.take i).drop a).reverse++(l.take a).reverse:=by
 rw[<-List.reverse_append];congr 1;have:l.take a=(l.take i).take a:=by rw[sQ,re h]
 rw[this,qU]
def HB (p:Array Keyed)(a i:Nat):(p.extract a i).reverse.toList=((p.toList.take i).drop a).reverse:=by rw[Array.toList_reverse,si,List.extract,xn]
def ZlF (p q o:Array Keyed)(i j:Nat):(u7 p q o i j).toList=p.toList.take i++q.toList.take j++o.toList.reverse:=by unfold u7;rw[sD,sD,si,si,Array.toList_reverse,List.extract,List.extract];simp
def ZlB (p q o:Array Keyed)(i j:Nat):(yF p q o i j).toList=q.toList.take j++p.toList.take i++o.toList.reverse:=by unfold yF;rw[sD,sD,si,si,Array.toList_reverse,List.extract,List.extract];simp
def EL {l m:List Keyed}(h:l.Perm T/\l.Pairwise (Le (Fl L)))(e:m=l.reverse):m.Perm T/\m.Pairwise (Le L):=by subst e;refine⟨(List.reverse_perm l).trans h.1,?_⟩;rw[List.pairwise_reverse];exact h.2
def zq (h:MR D L T p q o i j)(e:i=0):gQ L T (u7 p q o i j):=by unfold gQ;rw[ZlF];subst e;have h':=h.swap;exact EL (l:=o.toList++(q.toList.take j).reverse) (MS.fin (D:=D) (~~~h')) {}
def wu.fin_fb (hH:wu D L p q)(hC:qO D L)(h:MR D L T p q o i j)(e:j=1):gQ L T (yF p q o i j):=by unfold gQ;rw[ZlB];subst e;refine EL (h.all λu hu v hv=>?_) {};have hu:u∈p.toList:=o9 (tP.mp hu);have hv:=tP.mp hv;exact hC.asym v u (hH.dq v (o9 hv)) (hH.dp u hu) (hH.first v hv u hu)
noncomputable def zk (D:Keyed->Prop) (L:Keyed->Keyed->Bool) (p q:Array Keyed) (T:List Keyed) (w:Nat) (c:wp):Prop:=
 ∃r o i j mg ca cb,c=(r,i,j,o,mg,ca,cb)/\((∃z,r=some z/\gQ L T z)\/(r=none/\uh D L p q T o i j/\i+j<=w))
noncomputable def By (D:Keyed->Prop) (L:Keyed->Keyed->Bool) (p q:Array Keyed) (T:List Keyed) (w:Nat) (c:wp):Prop:=
 ∃o i j mg ca cb,c=(none,i,j,o,mg,ca,cb)/\uh D L p q T o i j/\i+j<=w
noncomputable def B4 (D:Keyed->Prop) (L:Keyed->Keyed->Bool) (p q:Array Keyed) (T:List Keyed) (w:Nat) (st:SortSt) (r:ForInStep wp) (st':SortSt):Prop:=
 (∃g,st'=og st g)/\match r with | .done c=>zk D L p q T w c | .yield c=>By D L p q T w c
def Fv (hH:wu D L p q)(hi:0<i)(hip:i<=p.size)(hj:1<j)(hjq:j<=q.size)(hw:i-1+j<=w)(h:MR D L T p q o i j)
  (hle:∀u∈(p.toList.take i).drop (i-1),∀v∈q.toList.take j,Le L v u):wpS M A E s (BA p q o i j mg ca cb) (B4 D L p q T w st) (og st g):=by
 obtain⟨e,he,hm⟩:=at? (p:=p) (i:=i-1) ∅;have hd:=zZ hi he;have h2:MR D L T p q (o.push e) (i-1) j:=by
  unfold MR at h ⊢;rw[tF];rw[hd]at h;refine MS.movX h λu hu v hv=>?_;have hu:u=e:=by simpa using hu
  subst hu;refine hle u ?_ v (tP.mp hv);rw[wG hi he,uF (by simp;lia)];simp
 unfold BA;refine mD (pE he ?_);by_cases c1:i-1=0
 .rw[lU (~~~c1)];exact mI ⟨⟨g,rfl⟩,_,_,_,_,_,_,_,rfl,.inl ⟨_,rfl,zq h2 c1⟩⟩
 .rw[lT (~~~c1)];have hI:uh D L p q T (o.push e) (i-1) j:=⟨h2,∅,hj,∅,hjq⟩;split
  .exact mI ⟨⟨g,rfl⟩,_,_,_,_,_,_,_,rfl,.inr ⟨rfl,hI,hw⟩⟩
  .exact mI ⟨⟨g,rfl⟩,_,_,_,_,_,_,rfl,hI,hw⟩
def g9 (hC:qO D L){v:Keyed}(h:D v):Le L v v:=by
 cases hx:L v v with
 | false=>exact hx
 | true=>exact hC.asym v v h h hx
def Bd (hC:qO D L)(hd:∀u∈p.toList,D u)(hs:p.toList.Pairwise (Le L)){i:Nat}{x:Keyed}(hi:0<i)(hx:p[i-1]?=some x)(hm:x∈p.toList):∀v∈p.toList.take i,Le L v x:=by
 intro v hv;have h2:=hs.sublist (vm i p.toList);rw[wG hi hx]at h2 hv;rcases nJ.mp hv with hv | hv
 .exact(sZ.mp h2).2.2 v hv x {}
 .have:v=x:=by simpa using hv
  subst this;exact g9 hC (hd v hm)
def Cc (hi:0<i)(hip:i<=p.size)(hx:p[i-1]?=some x):u∈(p.toList.take i).drop (i-1)↔u=x:=by rw[wG hi hx,uF (by simp;lia),sH (by simp;lia)];simp
def FW (hH:wu D L p q)(hC:qO D L)(hP:gg M A E s D L kd)(hk:kindOf st=kd)(hi:0<i)(hip:i<=p.size)(hj:1<j)(hjq:j<=q.size)(hw:i-1+j<=w)
  (h:MR D L T p q o i j) (hle:∀v∈(q.toList.take j).drop (j-1),∀u∈p.toList.take i,Le L u v):wpS M A E s (Bj p q o i j mg ca cb) (B4 D L p q T w st) (og st g):=by
 obtain⟨e,he,hm⟩:=at? (p:=q) (i:=j-1) ∅;obtain⟨x,hx,hxm⟩:=at? (p:=p) (i:=i-1) ∅;have h2:MR D L T p q (o.push e) i (j-1):=by
  unfold MR at h ⊢;rw[tF];rw[zZ ∅ he]at h;refine MS.movY h λu hu v hv=>?_;have hu:u=e:=by simpa using hu
  exact hle u ((Cc ∅ hjq he).mpr hu) v (tP.mp hv)
 unfold Bj;refine mD (pE he ?_);by_cases c1:j-1=1
 .rw[lU (~~~c1)];exact mI ⟨⟨g,rfl⟩,_,_,_,_,_,_,_,rfl,.inl ⟨_,rfl,hH.fin_fb hC h2 c1⟩⟩
 .rw[lT (~~~c1)];refine mD (pE hx ?_);refine mD (ww hC hP (by exact hk) ∅ ∅ (hH.dp x hxm) hH.dq (by rw[rK];exact hH.sq.sublist (vm _ _)) ?_);rw[rK];intro a hkn ha hb;replace ha:∀u∈(q.toList.take (j-1)).take a,L u x=true:=ha;replace hb:∀u∈(q.toList.take (j-1)).drop a,Le L x u:=hb;rw[sQ,re hkn]at ha;dsimp only;have xge:=Bd hC hH.dp hH.sp hi hx hxm;have h3:MR D L T p q (o.push e++(q.extract a (j-1)).reverse) i a:=by unfold MR at h2 ⊢;rw[sD,HB];rw[GK q.toList hkn]at h2;refine h2.movY λu hu v hv=>?_;have hu:=tP.mp hu;have hv:=tP.mp hv;exact hC.tr v x u (hH.dp v (o9 hv)) (hH.dp x hxm) (hH.dq u (o9 (pJ hu))) (xge v hv) (hb u hu)
  have hle2:∀u∈(p.toList.take i).drop (i-1),∀v∈q.toList.take a,Le L v u:=by intro u hu v hv;have:=(Cc hi hip hx).mp hu;subst this;exact hC.asym v u (hH.dq v (o9 hv)) (hH.dp u hxm) (ha v hv)
  have ha0:a≠0:=by
   rintro rfl;obtain⟨y,hy,hym⟩:=at? (p:=q) (i:=0) ∅;have hyq:q.toList.take 1=[y]:=by have:=wG (p:=q) (i:=1) ∅ hy;simpa using this
   have h5:=hH.first y (by rw[hyq];simp) x hxm
   have h6:y∈q.toList.take (j-1):=by
    have:q.toList.take 1=(q.toList.take (j-1)).take 1:=by rw[sQ,re ∅]
    rw[this]at hyq;exact o9 (i:=1) (by rw[hyq];simp)
   rw[show L y x=false from hb y h6]at h5;cases h5
  by_cases hk0:j-1-a>0
  .rw[lU hk0];by_cases c2:a=1
   .rw[lU (~~~c2)];exact mI ⟨⟨g,rfl⟩,_,_,_,_,_,_,_,rfl,.inl ⟨_,rfl,hH.fin_fb hC h3 c2⟩⟩
   .rw[lT (~~~c2),lT (~~~ha0)];exact Fv hH hi hip ∅ ∅ ∅ h3 hle2
  .rw[lT hk0];have:a=j-1:=by lia
   subst this;exact Fv hH hi hip ∅ ∅ ∅ h2 hle2
def ZpD (hH:wu D L p q)(hC:qO D L)(hP:gg M A E s D L kd)(hk:kindOf st=kd)(hw:i-1+j<=w)(hI:uh D L p q T o i j):
  wpS M A E s (DM p q o i j mg ca cb) (B4 D L p q T w st) (og st g):=by
 obtain⟨h,hi,hj,hip,hjq⟩:=hI;obtain⟨x,hx,hxm⟩:=at? (p:=q) (i:=j-1) ∅;unfold DM;refine mD (rV ?_);refine mD (pE hx ?_);refine mD (ww hC hP (by exact hk) ∅ ∅ (hH.dq x hxm) hH.dp (by rw[rK];exact hH.sp.sublist (vm _ _)) ?_);rw[rK];intro a hkn ha hb;replace ha:∀u∈(p.toList.take i).take a,Le L u x:=ha;replace hb:∀u∈(p.toList.take i).drop a,L x u=true:=hb;rw[sQ,re hkn]at ha;dsimp only;have xge:=Bd hC hH.dq hH.sq ∅ hx hxm;have h3:MR D L T p q (o++(p.extract a i).reverse) a j:=by unfold MR at h ⊢;rw[sD,HB];rw[GK p.toList hkn]at h;refine h.movX λu hu v hv=>?_;have hu:=tP.mp hu;have hv:=tP.mp hv;have hDu:=hH.dp u (o9 (pJ hu));exact hC.tr v x u (hH.dq v (o9 hv)) (hH.dq x hxm) hDu (xge v hv) (hC.asym x u (hH.dq x hxm) hDu (hb u hu))
 have hle2:∀v∈(q.toList.take j).drop (j-1),∀u∈p.toList.take a,Le L u v:=by intro v hv u hu;have:=(Cc ∅ hjq hx).mp hv;subst this;exact ha u hu
 by_cases hk0:i-a>0
 .rw[lU hk0];by_cases c2:a=0
  .rw[lU (~~~c2)];exact mI ⟨⟨_,rfl⟩,_,_,_,_,_,_,_,rfl,.inl ⟨_,rfl,zq h3 c2⟩⟩
  .rw[lT (~~~c2)];exact FW hH hC hP hk ∅ ∅ hj hjq ∅ h3 hle2
 .rw[lT hk0];have:a=i:=by lia
  subst this;exact FW hH hC hP hk hi hip hj hjq hw h hle2
def Zpe (hH:wu D L p q)(hC:qO D L)(hP:gg M A E s D L kd)(hk:kindOf st=kd)(hp:0<p.size)(hq:0<q.size)
  (h0:∀u∈p.toList.drop (p.size-1),∀v∈q.toList,Le L v u) (hQ:∀z g,gQ L (p.toList++q.toList) z->Q z (og st g)):wpS M A E s (BW p q) Q st:=by
 rw[Zpf];unfold mHiB;obtain⟨e,he,hm⟩:=at? (p:=p) (i:=p.size-1) ∅;have hd:p.toList=p.toList.take (p.size-1)++[e]:=by
  have:=wG hp he
  rwa [qH {}]at this
 have h1:MR D L (p.toList++q.toList) p q #[e] (p.size-1) q.size:=by
  unfold MR;have e2:(q.toList.take q.size)=q.toList:=qH {};rw[e2];have:MS D (Fl L) (p.toList++q.toList) [] ([e]++(p.toList.take (p.size-1)).reverse) q.toList.reverse:=by
   have e3:[e]++(p.toList.take (p.size-1)).reverse=p.toList.reverse:=by
    conv=>rhs;rw[hd]
    simp
   rw[e3];exact⟨by simpa using (List.reverse_perm _).append (List.reverse_perm _),List.Pairwise.nil,{},{},Eg.mpr hH.sp,Eg.mpr hH.sq⟩
  refine this.movX λu hu v hv=>h0 u ?_ v (tP.mp hv);have hu:u=e:=by simpa using hu
  subst hu;rw[hd,uF {}];simp
 refine mD (wpS_lift (rG ⟨rfl,?_⟩));refine mD (pE he ?_);by_cases c1:p.size-1=0
 .rw[lU (~~~c1)];exact mI (hQ _ _ (zq h1 c1))
 rw[lT (~~~c1)];by_cases c2:q.size=1
 .rw[lU (~~~c2)];exact mI (hQ _ _ (hH.fin_fb hC h1 c2))
 rw[lT (~~~c2)];refine mD (wpS_get ?_);have hI:uh D L p q (p.toList++q.toList) #[e] (p.size-1) q.size:=⟨h1,∅,∅,∅,∅⟩;generalize p.toList++q.toList=T at hI hQ;refine xx ?_;intro F1 G1;refine mD (pX (qy (a:=0) (b:=p.size+q.size) (I:=λx c st'=>∃g,st'=og st g/\∃o i j mg,c=(none,i,j,o,mg)/\uh D L p q T o i j/\x+(i+j)<=p.size+q.size)
  (Q:=λc st'=>∃g,st'=og st g/\∃z o i j mg,c=(some z,i,j,o,mg)/\gQ L T z) ?step ?fin ⟨gallopOf st,rfl,#[e],p.size-1,q.size,gallopOf st,rfl,hI,∅⟩) ?post)
 case post=>
  rintro c st' ⟨g,rfl,z,o,i,j,mg,rfl,hz⟩;exact mI (hQ z g hz)
 case fin=>
  rintro c st' ⟨g,rfl,o,i,j,mg,rfl,hI,hx⟩;have:=hI.li;have:=hI.lj
  lia
 case step=>
  rintro x c st' _ hx ⟨g,rfl,o,i,j,mg,rfl,hI,hxi⟩;dsimp only[F1];refine xx ?_;intro F2 G2;refine mD (pX (qy (I:=λy c st'=>st'=og st g/\∃o i j ca cb,c=(none,i,j,o,ca,cb)/\uh D L p q T o i j/\y+x+(i+j)<=p.size+q.size)
   (Q:=λc st'=>st'=og st g/\∃r o i j ca cb,c=(r,i,j,o,ca,cb)/\((∃z,r=some z/\gQ L T z)\/(r=none/\uh D L p q T o i j/\x+1+(i+j)<=p.size+q.size))) ?s1 ?f1 ⟨rfl,_,_,_,_,_,rfl,hI,∅⟩) ?p1)
  case f1=>
   rintro c st' ⟨rfl,o,i,j,ca,cb,rfl,hI,hx⟩;have:=hI.li;have:=hI.lj
   lia
  case s1=>
   rintro y c st' _ hy ⟨rfl,o,i,j,ca,cb,rfl,hI,hxi⟩;obtain⟨h,hi,hj,hip,hjq⟩:=hI;obtain⟨u,hu,hum⟩:=at? (p:=q) (i:=j-1) ∅;obtain⟨v,hv,hvm⟩:=at? (p:=p) (i:=i-1) ∅;have hDu:=hH.dq u hum;have hDv:=hH.dp v hvm;have uge:=Bd hC hH.dq hH.sq ∅ hu hum;have vge:=Bd hC hH.dp hH.sp hi hv hvm;dsimp only[F2];refine mD (pE hu (mD (pE hv (mD (hP _ _ _ _ hk hDu hDv ?_)))));dsimp only;cases hL:L u v with
   | true=>
    rw[lU rfl];refine mD (pE hv ?_);have h2:MR D L T p q (o.push v) (i-1) j:=by
     unfold MR at h ⊢;rw[tF];rw[zZ hi hv]at h;refine MS.movX h λa ha b hb=>?_;have ha:a=v:=by simpa using ha
     subst ha;have hb:=tP.mp hb;exact hC.tr b u a (hH.dq b (o9 hb)) hDu hDv (uge b hb) (hC.asym _ _ hDu hDv hL)
    by_cases c3:i-1=0
    .rw[lU (~~~c3)];exact mI ⟨rfl,_,_,_,_,_,_,rfl,.inl ⟨_,rfl,zq h2 c3⟩⟩
    .rw[lT (~~~c3)];have hI:uh D L p q T (o.push v) (i-1) j:=⟨h2,∅,∅,∅,∅⟩;split
     .exact mI ⟨rfl,_,_,_,_,_,_,rfl,.inr ⟨rfl,hI,∅⟩⟩
     .exact mI ⟨rfl,_,_,_,_,_,rfl,hI,∅⟩
   | false=>
    rw[lT mQ];refine mD (pE hu ?_);have h2:MR D L T p q (o.push u) i (j-1):=by
     unfold MR at h ⊢;rw[tF];rw[zZ ∅ hu]at h;refine MS.movY h λa ha b hb=>?_;have ha:a=u:=by simpa using ha
     subst ha;have hb:=tP.mp hb;exact hC.tr b v a (hH.dp b (o9 hb)) hDv hDu (vge b hb) hL
    by_cases c3:j-1=1
    .rw[lU (~~~c3)];exact mI ⟨rfl,_,_,_,_,_,_,rfl,.inl ⟨_,rfl,hH.fin_fb hC h2 c3⟩⟩
    .rw[lT (~~~c3)];have hI:uh D L p q T (o.push u) i (j-1):=⟨h2,∅,∅,∅,∅⟩;split
     .exact mI ⟨rfl,_,_,_,_,_,_,rfl,.inr ⟨rfl,hI,∅⟩⟩
     .exact mI ⟨rfl,_,_,_,_,_,rfl,hI,∅⟩
  case p1=>
   rintro c st' ⟨rfl,r,o,i,j,ca,cb,rfl,⟨z,rfl,hz⟩|⟨rfl,hI,hw⟩⟩
   .exact mI ⟨g,rfl,z,o,i,j,mg,rfl,hz⟩
   .dsimp only[G2];refine mD (wpS_lift (rG ⟨rfl,?_⟩));refine xx ?_;intro F3 G3;refine mD (pX (qy (I:=λy c st'=>(∃g,st'=og st g)/\By D L p q T (p.size+q.size-y-(x+1)) c)
     (Q:=λc st'=>(∃g,st'=og st g)/\zk D L p q T (p.size+q.size-(x+1)) c) ?s2 ?f2 ⟨⟨g,rfl⟩,_,_,_,_,_,_,rfl,hI,∅⟩) ?p2)
    case f2=>
     rintro c st' ⟨_,o,i,j,mg,ca,cb,rfl,hI,hx⟩;have:=hI.li;have:=hI.lj
     lia
    case p2=>
     rintro c st' ⟨⟨g,rfl⟩,r,o,i,j,mg,ca,cb,rfl,⟨z,rfl,hz⟩|⟨rfl,hI,hw⟩⟩
     .exact mI ⟨g,rfl,z,o,i,j,mg,rfl,hz⟩
     .exact mD (rV (mI ⟨_,rfl,o,i,j,mg+1,rfl,hI,by have:=hI.li;lia⟩))
    case s2=>
     rintro y c st' _ hy ⟨⟨g,rfl⟩,o,i,j,mg,ca,cb,rfl,hI,hw⟩;have key:∀mg,wpS M A E s (DM p q o i j mg ca cb) (λr st'=>match r with | .done c'=>(∃g,st'=og st g)/\zk D L p q T (p.size+q.size-(x+1)) c' | .yield c'=>(∃g,st'=og st g)/\By D L p q T (p.size+q.size-(y+1)-(x+1)) c') (og st g):=by
      intro mg;have:=hI.li;refine pX (ZpD (w:=p.size+q.size-(y+1)-(x+1)) hH hC hP hk ∅ hI) ?_;rintro r st' ⟨hg,hr⟩;cases r with
      | done c=>
       obtain⟨r,o,i,j,mg,ca,cb,rfl,h | ⟨rfl,hI,hw⟩⟩:=hr
       .exact⟨hg,r,o,i,j,mg,ca,cb,rfl,.inl h⟩
       .exact⟨hg,none,o,i,j,mg,ca,cb,rfl,.inr ⟨rfl,hI,∅⟩⟩
      | yield c=>exact⟨hg,hr⟩
     refine pX (Q:=λr st'=>match r with | .done c'=>(∃g,st'=og st g)/\zk D L p q T (p.size+q.size-(x+1)) c' | .yield c'=>(∃g,st'=og st g)/\By D L p q T (p.size+q.size-(y+1)-(x+1)) c') ?_ (λr st' hr=>by cases r<;>exact hr);by_cases hmg:mg>1
     .dsimp only[F3];rw[lU hmg];exact key (mg-1)
     .dsimp only[F3];rw[lT hmg];exact key mg
end
noncomputable def mAtB (i:Nat):StateT SortSt Sem Bool:=do
 let v <-get
 let (some (sa,na,pw),some (sb,nb,_)):=((pendingOf v)[i]?,(pendingOf v)[i+1]?) | unsupported "internal:list.sort.pending"
 set (setPending v (((pendingOf v).setIfInBounds i (sa,na+nb,pw)).eraseIdxIfInBounds (i+1)))
 let some k <-sI false (<-elem' (arrOf v) sb) (arrOf v) sa na 0 | return false
 let (sa,na):=(sa+k,na-k)
 if na == 0 then return true
 let some nb <-sI true (<-elem' (arrOf v) (sa+na-1)) (arrOf v) sb nb (nb-1) | return false
 if nb == 0 then return true
 let x:=(arrOf v).extract sa sb
 let y:=(arrOf v).extract sb (sb+nb)
 let mm <-if na<=nb then CP x y else BW x y
 modify λu=>setArr u (mm.toList.zipIdx.foldl (λa (p,j)=>a.setIfInBounds (sa+j) p) (arrOf u))
 return (failedOf (<-get)).isNone
def Zph (i:Nat):mergeAt' i=mAtB i:=rfl
def Zmu {M:Model}{A:AH}{E:mY}{s:AE}{U:Type}{v:U}{Q:PUnit->U->Prop}{st:U}(h:Q ⟨⟩ v):wpS M A E s (set v:StateT U Sem PUnit) Q st:=by unfold wpS;rw[StateT.run_set];exact mf ⟨rfl,h⟩
noncomputable def ko (a:Array Keyed) (b:Nat) (l:List Keyed):Array Keyed:=l.zipIdx.foldl (λa (p,j)=>a.setIfInBounds (b+j) p) a
theorem EK:∀(l:List Keyed) (n b:Nat) (a:Array Keyed) (x y z:List Keyed),a.toList=x++y++z->x.length=b+n->y.length=l.length ->
  ((l.zipIdx n).foldl (λa (p,j)=>a.setIfInBounds (b+j) p) a).toList=x++l++z
 | [],n,b,a,x,y,z,h,hx,hy=>by
  have:y=[]:=tR.mp hy;subst this;simpa using h
 | e::l,n,b,a,x,y,z,h,hx,hy=>by
  cases y with
  | nil=>simp at hy
  | cons f y=>
   rw[List.zipIdx_cons,vL];have:=EK l (n+1) b (a.setIfInBounds (b+n) e) (x++[e]) y z (by rw[Array.toList_setIfInBounds,h,<-hx,pQ,yg,List.set_append_right _ _ (mC _),tU];simp) (by simp;lia) (~~~hy)
   rw[this];simp
def Zjt (h:a.toList=x++y++z)(hx:x.length=b)(hy:y.length=l.length):(ko a b l).toList=x++l++z:=
 EK l 0 b a x y z h ∅ hy
section
variable {M:Model}{A:AH}{E:mY}{s:AE}{D:Keyed->Prop}{L:Keyed->Keyed->Bool}{kd:SortKind}{st:SortSt}
def slice {a:Array Keyed}{x y z:List Keyed}{b n:Nat}(h:a.toList=x++y++z)(hb:b=x.length)(hn:n=y.length):(a.toList.drop b).take n=y:=by rw[h,hb,hn,pQ,List.drop_left,List.take_left]
def Zpg (hC:qO D L)(hP:gg M A E s D L kd)(hk:kindOf st=kd)(hf:failedOf st=none)
  (ha:(arrOf st).toList=W++X++Y++Z) (hd:∀u∈(arrOf st).toList,D u) (hX:X≠[]) (hY:Y≠[]) (sX:X.Pairwise (Le L)) (sY:Y.Pairwise (Le L))
  (h1:(pendingOf st)[i]?=some (W.length,X.length,pw)) (h2:(pendingOf st)[i+1]?=some (W.length+X.length,Y.length,pw2))
  (hQ:∀(V:List Keyed) (a:Array Keyed) g,a.toList=W++V++Z->V.Perm (X++Y)->V.Pairwise (Le L)->Q true (SortSt.mk' kd a (((pendingOf st).setIfInBounds i (W.length,X.length+Y.length,pw)).eraseIdxIfInBounds (i+1)) g none)):
  wpS M A E s (mergeAt' i) Q st:=by
 rw[Zph];unfold mAtB;refine mD (wpS_get ?_);rw[h1,h2];dsimp only;refine mD (Zmu ?_);have hsz:(arrOf st).size=W.length+X.length+Y.length+Z.length:=by rw[<-oB,ha];simp;lia
 have hXp:0<X.length:=rR.mpr hX;have hYp:0<Y.length:=rR.mpr hY;have dX:∀u∈X,D u:=λu hu=>hd u (by rw[ha];simp[hu]);have dY:∀u∈Y,D u:=λu hu=>hd u (by rw[ha];simp[hu]);obtain⟨y0,Y',rfl⟩:∃y l,Y=y::l:=by cases Y with | nil=>exact IG rfl hY | cons y l=>exact⟨y,l,rfl⟩
 have hy0:(arrOf st)[W.length+X.length]?=some y0:=by rw[<-qL,ha,pQ,qu {}];simp
 have dy0:=dY y0 {};refine mD (pE hy0 ?_);have sl1:=slice (a:=arrOf st) (x:=W) (y:=X) (z:=y0::Y'++Z) (b:=W.length) (n:=X.length) (by rw[ha];simp) rfl rfl;have sl2:=slice (a:=arrOf st) (x:=W++X) (y:=y0::Y') (z:=Z) (b:=W.length+X.length) (n:=(y0::Y').length) (by rw[ha]) {} rfl;refine mD (ww hC hP (by exact hk) ∅ hXp dy0 hd (by rw[sl1];exact sX) ?_);rw[sl1];intro k hkn ha1 hb1;replace ha1:∀u∈X.take k,Le L u y0:=ha1;replace hb1:∀u∈X.drop k,L y0 u=true:=hb1;dsimp only;have y0le:∀v∈y0::Y',Le L y0 v:=by
  intro v hv;rcases m6.mp hv with rfl | hv
  .exact g9 hC dy0
  .exact(sW.mp sY).1 v hv
 have X1Y:∀u∈X.take k,∀v∈y0::Y',Le L u v:=λu hu v hv=>hC.tr u y0 v (dX u (o9 hu)) dy0 (dY v hv) (ha1 u hu) (y0le v hv);by_cases c1:X.length-k=0
 .rw[lU (~~~c1)];refine mI ?_;have e:X.take k=X:=qH ∅;rw[e]at X1Y;have:=hQ (X++(y0::Y')) (arrOf st) (gallopOf st) (by rw[ha];simp) (List.Perm.refl _) (sZ.mpr ⟨sX,sY,X1Y⟩);rw[<-hk,<-hf]at this;exact this
 rw[lT (~~~c1)];obtain⟨xl,hxl⟩:∃xl,X[X.length-1]?=some xl:=⟨X[X.length-1],mT ∅⟩;have hxm:xl∈X:=oW hxl;have hxl2:xl∈X.drop k:=by refine oW (i:=X.length-1-k) ?_;rw[vq,<-hxl];congr 1;lia
 have hxa:(arrOf st)[W.length+k+(X.length-k)-1]?=some xl:=by rw[<-qL,ha,pQ,pQ,qu ∅,py ∅,<-hxl];congr 1;lia
 refine mD (pE hxa ?_);refine mD (ww hC hP (by exact hk) (by simp at hsz ⊢;lia) {} (dX xl hxm) hd (by rw[sl2];exact sY) ?_);rw[sl2];intro n hnn ha2 hb2;replace ha2:∀u∈(y0::Y').take n,L u xl=true:=ha2;replace hb2:∀u∈(y0::Y').drop n,Le L xl u:=hb2;dsimp only;have hn0:n≠0:=by rintro rfl;have h5:=hb1 xl hxl2;rw[show L y0 xl=false from hb2 y0 {}]at h5;cases h5
 rw[lT (~~~hn0)];obtain⟨x,hx⟩:∃x,x=(arrOf st).extract (W.length+k) (W.length+X.length):=⟨_,rfl⟩;obtain⟨y,hy⟩:∃y,y=(arrOf st).extract (W.length+X.length) (W.length+X.length+n):=⟨_,rfl⟩;have xL:x.toList=X.drop k:=by rw[hx,si,List.extract];exact slice (x:=W++X.take k) (z:=y0::Y'++Z) (by rw[ha];simp only[pQ];rw[<-pQ (X.take k),qU]) (by rw[mP,nG,re hkn]) (by rw[oZ];lia)
 have yL:y.toList=(y0::Y').take n:=by rw[hy,si,List.extract];exact slice (x:=W++X) (z:=(y0::Y').drop n++Z) (by rw[ha];simp only[pQ];rw[<-pQ (List.take n _),qU]) (by rw[mP]) (by rw[nG,re hnn];lia)
 have xS:x.size=X.length-k:=by rw[<-oB,xL,oZ]
 have yS:y.size=n:=by rw[<-oB,yL,nG,re hnn]
 have y1:y.toList.take 1=[y0]:=by rw[yL,sQ,re ∅];simp
 have xd:∀v∈x.toList.drop (x.size-1),v=xl:=by
  intro v hv;rw[xL,xS,rH]at hv;have:X.drop (k+(X.length-k-1))=[xl]:=by obtain⟨h5,h6⟩:=mX.mp hxl;rw[show k+(X.length-k-1)=X.length-1 by lia,List.drop_eq_getElem_cons h5,h6,sH ∅]
  rw[this]at hv;simpa using hv
 have dx:∀u∈x.toList,D u:=λu hu=>dX u (pJ (xL▸hu));have dy:∀u∈y.toList,D u:=λu hu=>dY u (o9 (yL▸hu));have sx:x.toList.Pairwise (Le L):=by rw[xL];exact sX.sublist (List.drop_sublist _ _)
 have sy:y.toList.Pairwise (Le L):=by rw[yL];exact sY.sublist (vm _ _)
 have y0x:∀v∈x.toList,L y0 v=true:=λv hv=>hb1 v (xL▸hv);have yxl:∀u∈y.toList,L u xl=true:=λu hu=>ha2 u (yL▸hu);have main:∀(z:Array Keyed) g,gQ L (x.toList++y.toList) z->wpS M A E s (do
   modify λu=>setArr u (ko (arrOf u) (W.length+k) z.toList)
   return (failedOf (<-get)).isNone) Q (og (setPending st (((pendingOf st).setIfInBounds i (W.length,X.length+(y0::Y').length,pw)).eraseIdxIfInBounds (i+1))) g):=by
  rintro z g ⟨hz1,hz2⟩;refine mD (rV (mD (wpS_get (mI ?_))));show Q (failedOf st).isNone _;rw[hf];have hzl:(X.drop k++(y0::Y').take n).length=z.toList.length:=by rw[hz1.length_eq,xL,yL]
  have hp:(ko (arrOf st) (W.length+k) z.toList).toList=W++(X.take k++z.toList++(y0::Y').drop n)++Z:=by
   rw[Zjt (x:=W++X.take k) (y:=X.drop k++(y0::Y').take n) (z:=(y0::Y').drop n++Z) (by rw[ha];simp only[pQ];rw[<-pQ (List.take n _),qU,<-pQ (X.take k),qU]) (by rw[mP,nG,re hkn]) hzl]
   simp only[pQ]
  have zm:∀v∈z.toList,v∈X.drop k\/v∈(y0::Y').take n:=λv hv=>by have:=hz1.mem_iff.mp hv;rw[xL,yL]at this;exact nJ.mp this
  have dxl:=dX xl hxm;have:=hQ (X.take k++z.toList++(y0::Y').drop n) _ g hp ?_ ?_
  .rw[<-hk,<-hf]at this;exact this
  .have e1:(X.take k++z.toList++(y0::Y').drop n).Perm (X.take k++(X.drop k++(y0::Y').take n)++(y0::Y').drop n):=by refine List.Perm.append_right _ (List.Perm.append_left _ ?_);rw[xL,yL]at hz1;exact hz1
   refine e1.trans (List.Perm.of_eq ?_);rw[<-pQ,qU,pQ,qU]
  .have zY2:∀u∈z.toList,∀v∈(y0::Y').drop n,Le L u v:=by
    intro u hu v hv;rcases zm u hu with h | h
    .have hux:Le L u xl:=by
      have e5:X=X.take (X.length-1)++[xl]:=by
       obtain⟨h5,h6⟩:=mX.mp hxl
       conv=>lhs;rw[<-qU (X.length-1) X,List.drop_eq_getElem_cons h5,h6,sH ∅]
      have hu':u∈X:=pJ h;rw[e5]at sX hu';rcases nJ.mp hu' with hu' | hu'
      .exact(sZ.mp sX).2.2 u hu' xl {}
      .have:u=xl:=by simpa using hu'
       subst this;exact g9 hC dxl
     exact hC.tr u xl v (dX u (pJ h)) dxl (dY v (pJ hv)) hux (hb2 v hv)
    .have e5:=sY;rw[<-qU n (y0::Y')]at e5;exact(sZ.mp e5).2.2 u h v hv
   rw[sZ,sZ];refine⟨⟨sX.sublist (vm _ _),hz2,λu hu v hv=>?_⟩,sY.sublist (List.drop_sublist _ _),λu hu v hv=>?_⟩
   .rcases zm v hv with h | h
    .have e5:=sX;rw[<-qU k X]at e5;exact(sZ.mp e5).2.2 u hu v h
    .exact X1Y u hu v (o9 h)
   .rcases nJ.mp hu with hu | hu
    .exact X1Y u hu v (pJ hv)
    .exact zY2 u hu v hv
 have xp:0<x.size:=by lia
 have yp:0<y.size:=by lia
 rw[<-hx,<-hy];by_cases c3:X.length-k<=n
 .rw[lU c3];refine mD (Zpc (st:=setPending st _) ⟨dx,dy,sx,sy,λu hu v hv=>by rw[xd v hv];exact yxl u hu⟩ hC hP (by exact hk) xp yp (λu hu v hv=>?_) λz g hz=>main z g hz);have hu:u=y0:=by rw[y1]at hu;simpa using hu
  subst hu;exact hC.asym u v dy0 (dx v hv) (y0x v hv)
 .rw[lT c3];refine mD (Zpe (st:=setPending st _) ⟨dx,dy,sx,sy,λu hu v hv=>by rw[y1]at hu;rw[show u=y0 by simpa using hu];exact y0x v hv⟩ hC hP (by exact hk) xp yp (λu hu v hv=>?_) λz g hz=>main z g hz);rw[xd u hu];exact hC.asym v xl (dy v hv) (dX xl hxm) (yxl v hv)
end
abbrev gu (L:Keyed->Keyed->Bool):Prop:=qO (λ_=>True) L
def gu.to (h:gu L):qO D L:=⟨λx y _ _=>h.asym x y trivial trivial,λx y z _ _ _=>h.tr x y z trivial trivial trivial⟩
def gu.rf (h:gu L)(x:Keyed):Le L x x:=g9 h trivial
def gu.le (h:gu L){x y:Keyed}(e:L x y=true):Le L x y:=h.asym x y trivial trivial e
def gu.t (h:gu L){x y z:Keyed}(e:Le L x y)(f:Le L y z):Le L x z:=h.tr x y z trivial trivial trivial e f
def gu.lt_le (h:gu L){x y z:Keyed}(e:L x y=true)(f:Le L y z):L x z=true:=by
 cases hx:L x z with
 | true=>rfl
 | false=>rw[h.tr y z x trivial trivial trivial f hx]at e;cases e
noncomputable def mW (a:Array Keyed) (i:Nat):Keyed:=(a[i]?).getD (.none,.none)
def Dh (h:a[i]?=b[j]?):mW a i=mW b j:=by unfold mW;rw[h]
noncomputable def g8 (L:Keyed->Keyed->Bool) (a:Array Keyed) (l h:Nat):Prop:=∀i j,l<=i->i<=j->j<h->Le L (mW a i) (mW a j)
noncomputable def gU (L:Keyed->Keyed->Bool) (a:Array Keyed) (l h:Nat):Prop:=∀i j,l<=i->i<=j->j<h->Le L (mW a j) (mW a i)
structure fM (lo:Nat)(a b:Array Keyed):Prop where
 perm:b.Perm a
 pre:∀k,k<lo->b[k]?=a[k]?
def fM.rf (lo:Nat)(a:Array Keyed):fM lo a a:=⟨Array.Perm.refl _,λ_ _=>rfl⟩
def fM.tr {lo:Nat}{a b c:Array Keyed}(h:fM lo a b)(k:fM lo b c):fM lo a c:=⟨k.perm.trans h.perm,λi hi=>(k.pre i hi).trans (h.pre i hi)⟩
def fM.sz {lo:Nat}{a b:Array Keyed}(h:fM lo a b):b.size=a.size:=h.perm.size_eq
def fM.d {lo:Nat}{a b:Array Keyed}{D:Keyed->Prop}(h:fM lo a b)(hd:∀u∈a.toList,D u):∀u∈b.toList,D u:=λu hu=>hd u ((BE.mp h.perm).mem_iff.mp hu)
def Gu (hs:src<xs.size)(hd:d<=src)(k:Nat):
  mW (bubble xs src d) k=if k=src-d then mW xs src else if src-d<k/\k<=src then mW xs (k-1) else mW xs k:=by
 have e:=getElem?_bubble hs d hd k;repeat' split
 all_goals (refine Dh (e.trans ?_);first | rw[lU (by assumption)] | (rw[lT (by assumption)];first | rw[lU (by assumption)] | rw[lT (by assumption)]))
def B6 (hj:j<=xs.size)(k:Nat):
  mW (mirror xs i j ((j-i)/2)) k=if i<=k/\k<j then mW xs (i+j-1-k) else mW xs k:=by
 have e:=getElem?_mirror_all (i:=i) hj k;split
 .exact Dh (e.trans (lU (by assumption)))
 .exact Dh (e.trans (lT (by assumption)))
def fM.bub {lo src d:Nat}{a:Array Keyed}(hs:src<a.size)(hd:lo+d<=src):fM lo a (bubble a src d):=
 ⟨bubble_perm _ _ _,λk hk=>by rw[getElem?_bubble hs d ∅,lT ∅,lT ∅]⟩
def fM.mir {lo i j:Nat}{a:Array Keyed}(hj:j<=a.size)(hl:lo<=i):fM lo a (mirror a i j ((j-i)/2)):=
 ⟨mirror_perm _ _ _ _,λk hk=>by rw[getElem?_mirror_all hj,lT ∅]⟩
section
variable {M:Model}{A:AH}{E:mY}{s:AE}{D:Keyed->Prop}{L:Keyed->Keyed->Bool}{kd:SortKind}{st:SortSt}
def yB (hP:gg M A E s D L kd)(hk:kindOf st=kd)(hd:∀u∈a.toList,D u)(hi:i<a.size)(hj:j<a.size)
  (q:Q (some (L (mW a i) (mW a j))) (setArr st a)):wpS M A E s (ltAt' i j) Q (setArr st a):=by
 obtain⟨x,hx,hxm⟩:=at? hi;obtain⟨y,hy,hym⟩:=at? hj;have ex:mW a i=x:=by unfold mW;rw[hx];rfl
 have ey:mW a j=y:=by unfold mW;rw[hy];rfl
 rw[ex,ey]at q;rw[ltAt'_eq];refine mD (wpS_get ?_);exact mD (pE hx (mD (pE hy (hP _ _ _ _ hk (hd x hxm) (hd y hym) q))))
def ZnT {a:Array Keyed}{lo n ok:Nat}{Q:Bool->SortSt->Prop}(hC:gu L)(hP:gg M A E s D L kd)(hk:kindOf st=kd)(hd:∀u∈a.toList,D u)(hn:lo+n<=a.size)(hok:ok<=n)
  (hs:g8 L a lo (lo+ok)) (h:∀b,fM lo a b->g8 L b lo (lo+n)->Q true (setArr st b)):wpS M A E s (binarySort' lo n ok) Q (setArr st a):=by
 rw[binarySort'_eq];refine mD (pX (qy (I:=λk c st'=>c=(none,())/\∃b,st'=setArr st b/\fM lo a b/\g8 L b lo (lo+min k n))
  (Q:=λc st'=>c=(none,())/\∃b,st'=setArr st b/\fM lo a b/\g8 L b lo (lo+n)) ?step ?fin ?init) ?post)
 case post=>
  rintro c st' ⟨rfl,b,rfl,hb,hs'⟩;exact mI (h b hb hs')
 case init=>
  refine⟨rfl,a,rfl,fM.rf _ _,λi j hl hij hj=>?_⟩;by_cases h1:ok=0
  .have:i=j:=by lia
   subst this;exact hC.rf _
  .exact hs i j hl hij ∅
 case fin=>
  rintro c st' ⟨hc,b,hst,hb,hs'⟩;refine⟨hc,b,hst,hb,?_⟩
  rwa [show min (max (max ok 1) n) n=n by lia]at hs'
 case step=>
  rintro k c st' hak hkn ⟨rfl,b,rfl,hb,hs'⟩;rw[show min k n=k by lia]at hs';have hsz:=hb.sz;have hdb:=hb.d hd;refine mD (pX (qy (I:=λx c st''=>st''=setArr st b/\∃l r,c=(none,l,r)/\l<=r/\r<=k/\r-l<=k-x /\
    (∀i,lo<=i->i<lo+l->Le L (mW b i) (mW b (lo+k)))/\(∀i,lo+r<=i->i<lo+k->L (mW b (lo+k)) (mW b i)=true))
   (Q:=λc st''=>st''=setArr st b/\∃l r,c=(none,l,r)/\l<=k /\
    (∀i,lo<=i->i<lo+l->Le L (mW b i) (mW b (lo+k)))/\(∀i,lo+l<=i->i<lo+k->L (mW b (lo+k)) (mW b i)=true)) ?istep ?ifin ?iinit) ?ipost)
  case iinit=>exact⟨rfl,0,k,rfl,∅,∅,∅,λi h1 hi=>by lia,λi h1 h2=>by lia⟩
  case ifin=>
   rintro c st'' ⟨rfl,l,r,rfl,hlr,hrk,hm,hlo,hhi⟩;have:l=r:=by lia
   subst this;exact⟨rfl,l,l,rfl,hrk,hlo,hhi⟩
  case istep=>
   rintro x c st'' _ hxk ⟨rfl,l,r,rfl,hlr,hrk,hm,hlo,hhi⟩;dsimp only;by_cases hge:l>=r
   .rw[lU hge];have:l=r:=by lia
    subst this;exact mI ⟨rfl,l,l,rfl,hrk,hlo,hhi⟩
   .rw[lT hge];refine mD (yB hP hk hdb ∅ ∅ ?_);cases hless:L (mW b (lo+k)) (mW b (lo+(l+r)/2)) with
    | true=>exact mI ⟨rfl,l,(l+r)/2,rfl,∅,∅,∅,hlo,λi h1 h2=>hC.lt_le hless (hs' _ _ ∅ h1 h2)⟩
    | false=>exact mI ⟨rfl,(l+r)/2+1,r,rfl,∅,∅,∅,λi h0 h1=>hC.t (hs' i (lo+(l+r)/2) h0 ∅ ∅) hless,hhi⟩
  case ipost=>
   rintro c st'' ⟨rfl,l,r,rfl,hlk,hlo,hhi⟩;show wpS _ _ _ _ (do moveDown' (lo+k) (lo+l);pure (ForInStep.yield (none,()))) _ _;rw[moveDown'_eq];have hks:lo+k<b.size:=by lia
   refine mD (rV (mI ⟨rfl,bubble b (lo+k) (lo+k-(lo+l)),rfl,hb.tr (fM.bub hks ∅),?_⟩));rw[show min (k+1) n=k+1 by lia];intro i j hl hij hj;rw[Gu hks ∅,Gu hks ∅,show lo+k-(lo+k-(lo+l))=lo+l by lia];repeat' split
   all_goals first
    | (exfalso;lia)
    | exact hC.rf _
    | exact hlo _ ∅ ∅
    | exact hC.le (hhi _ ∅ ∅)
    | exact hs' _ _ ∅ ∅ ∅
end
noncomputable def iP (lo a nr:Nat):StateT SortSt Sem AscSt:=
 forIn [a:nr] ((none,a):AscSt) λ_ c=>do
  let x <-ltAt' (lo+c.snd) (lo+c.snd-1)
  match x with
  | some sm=>if sm=true then pure (ForInStep.done (none,c.snd)) else pure (ForInStep.yield (none,c.snd+1))
  | _=>pure (ForInStep.done (some none,c.snd))
noncomputable def iu (lo n nr:Nat):StateT SortSt Sem (Option Nat):=do
 reverseSlice' lo (lo+n)
 let c <-iP lo n nr
 match c.fst with
 | some r=>pure r
 | none=>pure (some c.snd)
noncomputable def jq (lo n nr:Nat):StateT SortSt Sem DescSt:=
 forIn [n:nr] ((none,n,0):DescSt) λ_ c=>do
  let x <-ltAt' (lo+c.snd.fst) (lo+c.snd.fst-1)
  match x with
  | some sm=>
   if sm=true then
    if c.snd.snd>0 then do
     reverseSlice' (lo+c.snd.fst-(c.snd.snd+1)) (lo+c.snd.fst)
     pure (ForInStep.yield (none,c.snd.fst+1,0))
    else pure (ForInStep.yield (none,c.snd.fst+1,0))
   else do
    let y <-ltAt' (lo+c.snd.fst-1) (lo+c.snd.fst)
    match y with
    | some lg=>
     if lg=true then pure (ForInStep.done (none,c.snd.fst,c.snd.snd))
     else pure (ForInStep.yield (none,c.snd.fst+1,c.snd.snd+1))
    | _=>pure (ForInStep.done (some none,c.snd.fst,c.snd.snd))
  | _=>pure (ForInStep.done (some none,c.snd.fst,c.snd.snd))
section
variable {M:Model}{A:AH}{E:mY}{s:AE}{D:Keyed->Prop}{L:Keyed->Keyed->Bool}{kd:SortKind}{st:SortSt}
noncomputable def wK (L:Keyed->Keyed->Bool) (x y:Keyed):Prop:=Le L x y/\Le L y x
def yy (q:Q () (setArr st (mirror a i j ((j-i)/2)))):wpS M A E s (reverseSlice' i j) Q (setArr st a):=by rw[reverseSlice'_eq];exact rV q
def Ht {a:Array Keyed}{lo n0 nr:Nat}{Q:AscSt->SortSt->Prop}(hC:gu L)(hP:gg M A E s D L kd)(hk:kindOf st=kd)(hd:∀u∈a.toList,D u)(hn:lo+nr<=a.size)(h1:1<=n0)(hnn:n0<=nr)
  (hs:g8 L a lo (lo+n0)) (h:∀n,n0<=n->n<=nr->g8 L a lo (lo+n)->(n=nr\/L (mW a (lo+n)) (mW a (lo+n-1))=true)->Q (none,n) (setArr st a)):wpS M A E s (iP lo n0 nr) Q (setArr st a):=by
 unfold iP;refine qy (I:=λx c st'=>st'=setArr st a/\c=(none,x)/\g8 L a lo (lo+x)) ?step ?fin ⟨rfl,rfl,hs⟩
 case fin=>
  rintro c st' ⟨rfl,rfl,hs'⟩;rw[show max n0 nr=nr by lia]at hs' ⊢;exact h nr hnn (mC _) hs' (.inl rfl)
 case step=>
  rintro x c st' hax hxn ⟨rfl,rfl,hs'⟩;dsimp only;refine mD (yB hP hk hd ∅ ∅ ?_);cases hl:L (mW a (lo+x)) (mW a (lo+x-1)) with
  | true=>exact mI (h x hax ∅ hs' (.inr hl))
  | false=>
   refine mI ⟨rfl,rfl,λi j hli hij hj=>?_⟩;by_cases hjx:j<lo+x
   .exact hs' i j hli hij hjx
   .have hj':j=lo+x:=by lia
    subst hj';by_cases hi':i=lo+x
    .subst hi';exact hC.rf _
    .exact hC.t (hs' i (lo+x-1) hli ∅ ∅) hl
def zj {a:Array Keyed}{lo n nr:Nat}{Q:Option Nat->SortSt->Prop}(hC:gu L)(hP:gg M A E s D L kd)(hk:kindOf st=kd)(hd:∀u∈a.toList,D u)(hn:lo+nr<=a.size)(h1:1<=n)(hnn:n<=nr)
  (hs:gU L a lo (lo+n)) (h:∀b m,fM lo a b->1<=m->m<=nr->g8 L b lo (lo+m)->Q (some m) (setArr st b)):wpS M A E s (iu lo n nr) Q (setArr st a):=by
 unfold iu;refine mD (yy ?_);have hK:fM lo a (mirror a lo (lo+n) ((lo+n-lo)/2)):=fM.mir ∅ (mC _);refine mD (Ht hC hP hk (hK.d hd) (by rw[hK.sz];exact hn) h1 hnn ?_ λm hm1 hm2 hsm _=>mI (h _ m hK ∅ hm2 hsm));intro i j hli hij hj;rw[B6 ∅,B6 ∅,lU ∅,lU ∅];exact hs _ _ ∅ ∅ ∅
def Bc (hC:gu L)(hj:j<=a.size)(he:∀k,i<=k->k<j->wK L (mW a k) (mW a (j-1)))(k:Nat):wK L (mW (mirror a i j ((j-i)/2)) k) (mW a k):=by
 rw[B6 hj];split
 .have e1:=he (i+j-1-k) ∅ ∅;have e2:=he k ∅ ∅;exact⟨hC.t e1.1 e2.2,hC.t e2.1 e1.2⟩
 .exact⟨hC.rf _,hC.rf _⟩
def gU.eqv (hC:gu L)(hs:gU L a l h)(he:∀k,wK L (mW b k) (mW a k)):gU L b l h:=
 λi j h1 h2 h3=>hC.t (he j).1 (hC.t (hs i j h1 h2 h3) (he i).2)
def gU.more (hC:gu L)(hs:gU L a l x)(hle:l<x->Le L (mW a x) (mW a (x-1))):gU L a l (x+1):=by
 intro i j hli hij hj;by_cases hjx:j<x
 .exact hs i j hli hij hjx
 .have hj':j=x:=by lia
  subst hj';by_cases hi':i=j
  .subst hi';exact hC.rf _
  .exact hC.t (hle ∅) (hs i (j-1) hli ∅ ∅)
def GV {a:Array Keyed}{lo n nr:Nat}{Q:DescSt->SortSt->Prop}(hC:gu L)(hP:gg M A E s D L kd)(hk:kindOf st=kd)(hd:∀u∈a.toList,D u)(hn:lo+nr<=a.size)(h1:1<=n)(hnn:n<=nr)
  (hs:gU L a lo (lo+n))
  (h:∀b m nq,fM lo a b->n<=m->m<=nr->gU L b lo (lo+m)->nq+1<=m->(∀i,lo+m-(nq+1)<=i->i<lo+m->wK L (mW b i) (mW b (lo+m-1)))->Q (none,m,nq) (setArr st b)):
  wpS M A E s (jq lo n nr) Q (setArr st a):=by
 unfold jq;refine qy (I:=λx c st'=>∃b nq,st'=setArr st b/\c=(none,x,nq)/\fM lo a b/\gU L b lo (lo+x)/\nq+1<=x /\
   (∀i,lo+x-(nq+1)<=i->i<lo+x->wK L (mW b i) (mW b (lo+x-1)))) ?step ?fin ⟨a,0,rfl,rfl,fM.rf _ _,hs,∅,λi h1 h2=>by rw[show i=lo+n-1 by lia];exact⟨hC.rf _,hC.rf _⟩⟩
 case fin=>
  rintro c st' ⟨b,nq,rfl,rfl,hK,hs',hq,he⟩;rw[show max n nr=nr by lia]at hs' hq he ⊢;exact h b nr nq hK hnn (mC _) hs' hq he
 case step=>
  rintro x c st' hax hxn ⟨b,nq,rfl,rfl,hK,hs',hq,he⟩;have hbs:=hK.sz;have hdb:=hK.d hd;dsimp only;refine mD (yB hP hk hdb ∅ ∅ ?_);cases hl:L (mW b (lo+x)) (mW b (lo+x-1)) with
  | true=>
   have hmore:gU L b lo (lo+x+1):=hs'.more hC λ_=>hC.le hl;dsimp only;by_cases hq0:nq>0
   .rw[lU rfl,lU hq0];refine mD (yy (mI ⟨_,0,rfl,rfl,hK.tr (fM.mir ∅ ∅),hmore.eqv hC (Bc hC ∅ he),∅,λi h1 h2=>?_⟩));rw[show i=lo+(x+1)-1 by lia];exact⟨hC.rf _,hC.rf _⟩
   .rw[lU rfl,lT hq0];refine mI ⟨b,0,rfl,rfl,hK,hmore,∅,λi h1 h2=>?_⟩;rw[show i=lo+(x+1)-1 by lia];exact⟨hC.rf _,hC.rf _⟩
  | false=>
   dsimp only;rw[lT mQ];refine mD (yB hP hk hdb ∅ ∅ ?_);cases hg:L (mW b (lo+x-1)) (mW b (lo+x)) with
   | true=>exact mI (h b x nq hK hax ∅ hs' hq he)
   | false=>
    refine mI ⟨b,nq+1,rfl,rfl,hK,hs'.more hC λ_=>hg,∅,λi h1 h2=>?_⟩;rw[show lo+(x+1)-1=lo+x by lia];by_cases hix:i=lo+x
    .subst hix;exact⟨hC.rf _,hC.rf _⟩
    .have e:=he i ∅ ∅;exact⟨hC.t e.1 hl,hC.t hg e.2⟩
def ZnQ {a:Array Keyed}{lo nr:Nat}{Q:Option Nat->SortSt->Prop}(hC:gu L)(hP:gg M A E s D L kd)(hk:kindOf st=kd)(hd:∀u∈a.toList,D u)(hn:lo+nr<=a.size)(h1:1<=nr)
  (h:∀b m,fM lo a b->1<=m->m<=nr->g8 L b lo (lo+m)->Q (some m) (setArr st b)):wpS M A E s (countRun' lo nr) Q (setArr st a):=by
 rw[countRun'_eq];refine mD (pX (Ht (Q:=λc st'=>∃n,c=(none,n)/\st'=setArr st a/\1<=n/\n<=nr/\g8 L a lo (lo+n)/\(n=nr\/L (mW a (lo+n)) (mW a (lo+n-1))=true)) hC hP hk hd hn (mC 1) h1 (λi j hl hij hj=>by have:i=j:=∅;subst this;exact hC.rf _) λn a1 a2 a3 a4=>⟨n,rfl,rfl,a1,a2,a3,a4⟩) ?_);rintro c st' ⟨n,rfl,rfl,hn1,hn2,hsn,hor⟩;dsimp only;by_cases hnn:n=nr
 .rw[lU (~~~hnn)];exact mI (h a n (fM.rf _ _) hn1 hn2 hsn)
 .rw[lT (~~~hnn)];have A0:=hor.resolve_left hnn;by_cases hgt:n>1
  .rw[lU hgt];refine mD (yB hP hk hd ∅ ∅ ?_);cases hrose:L (mW a lo) (mW a (lo+n-1)) with
   | true=>
    dsimp only;rw[lU rfl];exact mI (h a n (fM.rf _ _) hn1 hn2 hsn)
   | false=>
    dsimp only;rw[lT mQ];have hall:∀k,lo<=k->k<lo+n->wK L (mW a k) (mW a (lo+n-1)):=by intro k hk1 hk2;have a1:=hsn lo k ∅ hk1 hk2;have a2:=hsn k (lo+n-1) hk1 ∅ ∅;exact⟨a2,hC.t hrose a1⟩
    have hsd:gU L a lo (lo+(n+1)):=by refine gU.more hC (λi j h1 h2 h3=>?_) λ_=>hC.le A0;replace h3:j<lo+n:=h3;exact hC.t (hall j ∅ h3).1 (hall i h1 ∅).2
    have hK:fM lo a (mirror a lo (lo+n) ((lo+n-lo)/2)):=fM.mir ∅ (mC _);refine mD (yy ?_);obtain⟨b,hb,hKb,hsb⟩:∃b,b=mirror a lo (lo+n) ((lo+n-lo)/2)/\fM lo a b/\gU L b lo (lo+(n+1)):=⟨_,rfl,hK,hsd.eqv hC (Bc hC ∅ hall)⟩;rw[<-hb];have hbs:=fM.sz hKb;refine mD (wpS_lift (rG ⟨rfl,?_⟩));refine mD (GV hC hP hk (fM.d hKb hd) ∅ ∅ ∅ hsb λc m nq hK hm1 hm2 hs' hq he=>?_);have hcs:=hK.sz;have hdc:=hK.d (fM.d hKb hd);dsimp only;by_cases hq0:nq>0
    .rw[lU hq0];have hK2:fM lo c (mirror c (lo+m-(nq+1)) (lo+m) ((lo+m-(lo+m-(nq+1)))/2)):=fM.mir ∅ ∅;refine mD (yy ?_);refine Eq.mp ?_ (zj (Q:=Q) hC hP hk (hK2.d hdc) (by rw[hK2.sz];lia) ∅ hm2 (hs'.eqv hC (Bc hC ∅ he)) λd k hc=>h d k (fM.tr hKb (hK.tr (hK2.tr hc))));refine IF (λm=>wpS _ _ _ _ m _ _) ?_;unfold iu iP;refine IF _ (funext λ_=>IF _ (funext λc=>?_));obtain⟨r3,n3⟩:=c;cases r3<;>rfl
    .rw[lT hq0];refine Eq.mp ?_ (zj (Q:=Q) hC hP hk hdc ∅ ∅ hm2 hs' λd k hc=>h d k (fM.tr hKb (hK.tr hc)));refine IF (λm=>wpS _ _ _ _ m _ _) ?_;unfold iu iP;refine IF _ (funext λ_=>IF _ (funext λc=>?_));obtain⟨r3,n3⟩:=c;cases r3<;>rfl
  .rw[lT hgt];obtain⟨b,hb,hKb,hsb⟩:∃b,b=a/\fM lo a b/\gU L b lo (lo+(n+1)):=⟨_,rfl,fM.rf _ _,gU.more hC (λi j h1 h2 h3=>by replace h3:j<lo+n:=h3;rw[show i=j by lia];exact hC.rf _) λ_=>hC.le A0⟩
   rw[<-hb];have hbs:=fM.sz hKb;refine mD (wpS_lift (rG ⟨rfl,?_⟩));refine mD (GV hC hP hk (fM.d hKb hd) ∅ ∅ ∅ hsb λc m nq hK hm1 hm2 hs' hq he=>?_);have hcs:=hK.sz;have hdc:=hK.d (fM.d hKb hd);dsimp only;by_cases hq0:nq>0
   .rw[lU hq0];have hK2:fM lo c (mirror c (lo+m-(nq+1)) (lo+m) ((lo+m-(lo+m-(nq+1)))/2)):=fM.mir ∅ ∅;refine mD (yy ?_);refine Eq.mp ?_ (zj (Q:=Q) hC hP hk (hK2.d hdc) (by rw[hK2.sz];lia) ∅ hm2 (hs'.eqv hC (Bc hC ∅ he)) λd k hc=>h d k (fM.tr hKb (hK.tr (hK2.tr hc))));refine IF (λm=>wpS _ _ _ _ m _ _) ?_;unfold iu iP;refine IF _ (funext λ_=>IF _ (funext λc=>?_));obtain⟨r3,n3⟩:=c;cases r3<;>rfl
   .rw[lT hq0];refine Eq.mp ?_ (zj (Q:=Q) hC hP hk hdc ∅ ∅ hm2 hs' λd k hc=>h d k (fM.tr hKb (hK.tr hc)));refine IF (λm=>wpS _ _ _ _ m _ _) ?_;unfold iu iP;refine IF _ (funext λ_=>IF _ (funext λc=>?_));obtain⟨r3,n3⟩:=c;cases r3<;>rfl
end
noncomputable def Pd (L:Keyed->Keyed->Bool):Nat->List (Nat×Nat×Nat)->List (List Keyed)->Prop
 | _,[],[]=>True
 | o,t::ps,r::rs=>t.1=o/\t.2.1=r.length/\r≠[]/\r.Pairwise (Le L)/\Pd L (o+r.length) ps rs
 | _,_,_=>False
section
variable {M:Model}{A:AH}{E:mY}{s:AE}{D:Keyed->Prop}{L:Keyed->Keyed->Bool}{kd:SortKind}{st:SortSt}
theorem Pd.len:∀ {ps:List (Nat×Nat×Nat)} {rs:List (List Keyed)} {o:Nat},Pd L o ps rs->ps.length=rs.length
 | [],[],_,_=>rfl
 | t::ps,r::rs,o,h=>by have:=Pd.len h.2.2.2.2;simp[this]
 | [],_::_,_,h=>h.elim
 | _::_,[],_,h=>h.elim
theorem Pd.le:∀ {ps:List (Nat×Nat×Nat)} {rs:List (List Keyed)} {o:Nat},Pd L o ps rs->ps.length<=rs.flatten.length
 | [],[],_,_=>by simp
 | t::ps,r::rs,o,h=>by
  have h1:=Pd.le h.2.2.2.2;have h2:=rR.mpr h.2.2.1;rw[xZ,mP,oN];lia
 | [],_::_,_,h=>h.elim
 | _::_,[],_,h=>h.elim
theorem Pd.app:∀ {ps:List (Nat×Nat×Nat)} {rs:List (List Keyed)} {o:Nat} {t:Nat×Nat×Nat} {r:List Keyed},Pd L o ps rs->t.1=o+rs.flatten.length->t.2.1=r.length->r≠[]->r.Pairwise (Le L)->Pd L o (ps++[t]) (rs++[r])
 | [],[],o,t,r,_,h1,h2,h3,h4=>⟨~~~h1,h2,h3,h4,trivial⟩
 | t::ps,r::rs,o,t',r',h,h1,h2,h3,h4=>⟨h.1,h.2.1,h.2.2.1,h.2.2.2.1,Pd.app h.2.2.2.2 (by rw[h1,xZ,mP];lia) h2 h3 h4⟩
 | [],_::_,_,_,_,h,_,_,_,_=>h.elim
 | _::_,[],_,_,_,h,_,_,_,_=>h.elim
theorem Pd.pow:∀ {ps qs:List (Nat×Nat×Nat)} {rs:List (List Keyed)} {o:Nat},Pd L o ps rs->ps.map (λt=>(t.1,t.2.1))=qs.map (λt=>(t.1,t.2.1))->Pd L o qs rs
 | [],qs,[],_,_,e=>by
  have:qs=[]:=by simpa using e.symm
  subst this;trivial
 | t::ps,qs,r::rs,o,h,e=>by
  cases qs with
  | nil=>simp at e
  | cons u qs=>
   simp only[oP,List.cons.injEq,Prod.mk.injEq]at e;exact⟨e.1.1▸h.1,e.1.2▸h.2.1,h.2.2.1,h.2.2.2.1,Pd.pow h.2.2.2.2 e.2⟩
 | [],_,_::_,_,h,_=>h.elim
 | _::_,_,[],_,h,_=>h.elim
theorem Pd.pick:∀ {ps:List (Nat×Nat×Nat)} {rs:List (List Keyed)} {o i:Nat},Pd L o ps rs->i+1<ps.length ->
  ∃ra X Y rb pw pw2,rs=ra++X::Y::rb/\ps[i]?=some (o+ra.flatten.length,X.length,pw)/\ps[i+1]?=some (o+ra.flatten.length+X.length,Y.length,pw2)/\X≠[]/\Y≠[]/\X.Pairwise (Le L)/\Y.Pairwise (Le L) /\
   ∀V:List Keyed,V.length=X.length+Y.length->V.Pairwise (Le L)->Pd L o ((ps.set i (o+ra.flatten.length,X.length+Y.length,pw)).eraseIdx (i+1)) (ra++V::rb)
 | t::u::ps,r::r2::rs,o,0,h,_=>by
  obtain⟨a1,a2,a3,a4,b1,b2,b3,b4,b5⟩:=h;obtain⟨t1,t2,t3⟩:=t;obtain⟨u1,u2,u3⟩:=u;dsimp only at a1 a2 b1 b2;subst a1 a2 b1 b2;refine⟨[],r,r2,rs,t3,u3,rfl,{},{},a3,b3,a4,b4,λV hV hs=>?_⟩;refine⟨{},~~~hV.symm,?_,hs,?_⟩
  .intro e;rw[e]at hV;have:=rR.mpr a3;simp at hV;lia
  .rw[hV,<-Nat.add_assoc];exact b5
 | t::ps,r::rs,o,i+1,h,hi=>by
  obtain⟨a1,a2,a3,a4,a5⟩:=h;obtain⟨ra,X,Y,rb,pw,pw2,h1,h2,h3,h4,h5,h6,h7,h8⟩:=Pd.pick a5 (i:=i) (~~~hi);refine⟨r::ra,X,Y,rb,pw,pw2,by rw[h1];rfl,?_,?_,h4,h5,h6,h7,λV hV hs=>?_⟩
  .rw[List.getElem?_cons_succ,h2,xZ,mP,Nat.add_assoc]
  .rw[List.getElem?_cons_succ,h3,xZ,mP,Nat.add_assoc o]
  .have:=h8 V hV hs;rw[List.set_cons_succ,List.eraseIdx_cons_succ,xZ,mP,<-Nat.add_assoc];exact⟨a1,a2,a3,a4,this⟩
 | [_],[_],_,0,_,h=>by simp at h
 | [],_,_,_,_,h=>by simp at h
 | _::_,[],_,_,h,_=>h.elim
 | _::_::_,[_],_,0,h,_=>h.2.2.2.2.elim
 | [_],_::_::_,_,0,h,_=>h.2.2.2.2.elim
structure SI (L:Keyed->Keyed->Bool)(kd:SortKind)(a0:List Keyed)(n:Nat)(Z:List Keyed)(st:SortSt):Prop where
 kind:kindOf st=kd
 fail:failedOf st=none
 perm:(arrOf st).toList.Perm a0
 runs:∃rs:List (List Keyed),(arrOf st).toList=rs.flatten++Z/\rs.flatten.length=n/\Pd L 0 (pendingOf st).toList rs
def SI.merge (hC:gu L)(hP:gg M A E s D L kd)(hd:∀u∈a0,D u)(h:SI L kd a0 n Z st)(hi:i+1<(pendingOf st).size)
  (q:∀st',SI L kd a0 n Z st'->(pendingOf st').size+1=(pendingOf st).size->Q true st'):wpS M A E s (mergeAt' i) Q st:=by
 obtain⟨h1,h2,h3,rs,h4,h5,h6⟩:=h;obtain⟨ra,X,Y,rb,pw,pw2,rfl,p1,p2,p3,p4,p5,p6,p7⟩:=h6.pick (i:=i) (~~~hi);rw[Nat.zero_add]at p1 p2;have ha:(arrOf st).toList=ra.flatten++X++Y++(rb.flatten++Z):=by rw[h4];simp
 refine Zpg hC.to hP h1 h2 ha (λu hu=>hd u (h3.mem_iff.mp hu)) p3 p4 p5 p6 (by rw[<-qL];exact p1) (by rw[<-qL];exact p2) λV a g hV hp hs=>?_;have hl:=hp.length_eq;rw[mP]at hl;refine q _ ⟨rfl,rfl,?_,ra++V::rb,?_,?_,?_⟩ ?_
 .show a.toList.Perm a0;refine List.Perm.trans ?_ h3;rw[hV,ha];have:=(List.Perm.append_left ra.flatten hp).append_right (rb.flatten++Z);simpa using this
 .show a.toList=_;rw[hV];simp
 .rw[<-h5];simp[hl];lia
 .show Pd L 0 (Array.eraseIdxIfInBounds _ _).toList _;have:=p7 V hl hs;rw[Nat.zero_add]at this;rw[Array.toList_eraseIdxIfInBounds,Array.toList_setIfInBounds];exact this
 .show (Array.eraseIdxIfInBounds _ _).size+1=_;rw[<-oB,Array.toList_eraseIdxIfInBounds,Array.toList_setIfInBounds,List.length_eraseIdx_of_lt (~~~hi),List.length_set,oB]
  lia
end
def fM.pref {lo:Nat}{a b:Array Keyed}{F Z:List Keyed}(h:fM lo a b)(ha:a.toList=F++Z)(hF:F.length=lo):b.toList=F++b.toList.drop lo:=by
 have e:b.toList.take lo=F:=by
  refine vX λi=>?_;rw[wW];by_cases hi:i<lo
  .rw[lU hi,qL,h.pre i hi,<-qL,ha,py ∅]
  .rw[lT hi,tI ∅]
 conv=>lhs;rw[<-qU lo b.toList,e]
def g8.pw {L:Keyed->Keyed->Bool}{b:Array Keyed}{lo m:Nat}(h:g8 L b lo (lo+m)):((b.toList.drop lo).take m).Pairwise (Le L):=by
 rw[vU];intro i j hi hj hij;rw[nG,oZ,oB]at hi hj;have e:∀k (hk:k<((b.toList.drop lo).take m).length),mW b (lo+k)=((b.toList.drop lo).take m)[k]:=by intro k hk;rw[nG,oZ,oB]at hk;unfold mW;rw[getElem?_pos b (lo+k) ∅];simp
 rw[<-e i (by simp;lia),<-e j (by simp;lia)];exact h _ _ ∅ ∅ ∅
section
variable {M:Model}{A:AH}{E:mY}{s:AE}{D:Keyed->Prop}{L:Keyed->Keyed->Bool}{kd:SortKind}{st:SortSt}
def SI.push {a0 R Z:List Keyed}{lo n p:Nat}(h:SI L kd a0 lo (R++Z) st)(h1:R.length=n)(h2:R≠[])(h3:R.Pairwise (Le L)):SI L kd a0 (lo+n) Z (setPending st ((pendingOf st).push (lo,n,p))):=by
 obtain⟨a1,a2,a3,rs,a4,a5,a6⟩:=h;refine⟨a1,a2,a3,rs++[R],?_,?_,?_⟩
 .show (arrOf st).toList=_;rw[a4];simp
 .simp[a5,h1]
 .show Pd L 0 ((pendingOf st).push (lo,n,p)).toList _;rw[tF];exact a6.app (by simp[a5]) h1.symm h2 h3
def ZiA (g:α->β)(f:α->α)(h:∀x,g (f x)=g x)(l:List α)(k:Nat):(l.modify k f).map g=l.map g:=by
 refine vX λi=>?_;rw[om,om,List.getElem?_modify];cases l[i]? with
 | none=>rfl
 | some x=>by_cases e:k=i<;>simp[e,h]
def SI.pow {a0 Z:List Keyed}{lo k w:Nat}(h:SI L kd a0 lo Z st):SI L kd a0 lo Z (setPending st ((pendingOf st).modify k λx=>(x.1,x.2.1,w))):=by obtain⟨a1,a2,a3,rs,a4,a5,a6⟩:=h;refine⟨a1,a2,a3,rs,a4,a5,?_⟩;show Pd L 0 ((pendingOf st).modify k _).toList _;rw[Array.toList_modify];exact a6.pow (ZiA (λt=>(t.1,t.2.1)) (λx=>(x.1,x.2.1,w)) (λ_=>rfl) _ _).symm
def Fw (hC:gu L)(hP:gg M A E s D L kd)(hd:∀u∈a0,D u)(hk:kindOf st=kd)(hf:failedOf st=none)(hpe:pendingOf st=#[])(ha:(arrOf st).toList=a0)
  (q:∀st',(arrOf st').toList.Perm a0->(arrOf st').toList.Pairwise (Le L)->failedOf st'=none->Q () st'):wpS M A E s sortRuns' Q st:=by
 rw[sortRuns'_eq];refine mD (wpS_get ?_);dsimp only;obtain⟨N,hN⟩:∃N,N=(arrOf st).size:=⟨_,rfl⟩;have hN':a0.length=N:=by rw[hN,<-ha,oB]
 rw[<-hN];have hSI:SI L kd a0 0 a0 st:=⟨hk,hf,by rw[ha],[],~~~ha,rfl,by rw[hpe];trivial⟩;refine mD (pX (qy (a:=0) (b:=N) (I:=λx c st'=>∃lo Z,c=(none,lo)/\SI L kd a0 lo Z st'/\x<=lo/\lo<=N)
  (Q:=λc st'=>∃Z,c=(none,N)/\SI L kd a0 N Z st') ?step ?fin ⟨0,a0,rfl,hSI,∅,∅⟩) ?post)
 case fin=>
  rintro c st' ⟨lo,Z,rfl,hS,hx,hl⟩;have:lo=N:=by lia
  subst this;exact⟨Z,rfl,hS⟩
 case post=>
  rintro c st' ⟨Z,rfl,hS⟩;have hZ:∀st',SI L kd a0 N Z st'->Z=[]:=by intro st' hS;obtain⟨h1,h2,h3,rs,h4,h5,h6⟩:=hS;have:=h3.length_eq;rw[h4,mP,h5,hN']at this;exact tR.mp ∅
  dsimp only;refine mD (pX (qy (a:=0) (b:=N) (I:=λx c st'=>c=(none,())/\SI L kd a0 N Z st'/\(pendingOf st').size+x<=N)
   (Q:=λc st'=>c=(none,())/\SI L kd a0 N Z st'/\(pendingOf st').size<=1) ?s2 ?f2 ⟨rfl,hS,?_⟩) ?p2)
  case f2=>
   rintro c st' ⟨rfl,hS,hx⟩;exact⟨rfl,hS,∅⟩
  case p2=>
   rintro c st' ⟨rfl,hS,hx⟩;obtain⟨h1,h2,h3,rs,h4,h5,h6⟩:=hS;have:=hZ st' ⟨h1,h2,h3,rs,h4,h5,h6⟩;subst this;refine mI (q st' h3 ?_ h2);have hl:=h6.len;rw[oB]at hl;rw[h4,sM];cases rs with
   | nil=>exact List.Pairwise.nil
   | cons r rs=>
    cases rs with
    | nil=>
     cases hps:(pendingOf st').toList with
     | nil=>rw[hps]at h6;exact h6.elim
     | cons t ps=>rw[hps]at h6;simpa using h6.2.2.2.1
    | cons r2 rs=>simp at hl;lia
  case s2=>
   rintro x c st' _ hx ⟨rfl,hS,hpx⟩;refine mD (wpS_get ?_);by_cases hp1:(pendingOf st').size<=1
   .rw[lU hp1];exact mI ⟨rfl,hS,hp1⟩
   .rw[lT hp1];refine mD (hS.merge hC hP hd ?_ λst2 hS2 hp2=>?_)
    .have hle:∀(c:Prop) [Decidable c] (k:Nat),(if c then k-1 else k)<=k:=λc _ k=>by split<;>lia
     exact Nat.lt_of_le_of_lt (yO (hle _ _)) ∅
    .exact mI ⟨rfl,hS2,∅⟩
  .obtain⟨h1,h2,h3,rs,h4,h5,h6⟩:=hS;have:=h6.le;rw[oB]at this
   lia
 case step=>
  rintro x c st' _ hx ⟨lo,Z,rfl,hS,hxl,hl⟩;dsimp only;by_cases hlo:lo>=N
  .rw[lU hlo];have:lo=N:=by lia
   subst this;exact mI ⟨Z,rfl,hS⟩
  rw[lT hlo];obtain⟨h1,h2,h3,rs,h4,h5,h6⟩:=hS;have hsz:(arrOf st').size=N:=by rw[<-oB,h3.length_eq,hN']
  have hda:∀u∈(arrOf st').toList,D u:=λu hu=>hd u (h3.mem_iff.mp hu);refine mD (Eq.mp (IF (λv=>wpS M A E s (countRun' lo (N-lo)) _ v) (show setArr st' (arrOf st')=st' from rfl)) (ZnQ hC hP h1 hda ∅ ∅ λb m hK hm1 hm2 hsm=>?_));dsimp only;have hbz:=hK.sz;by_cases hmr:m<minRun' N N 0
  .rw[lU hmr];obtain⟨n,hn⟩:∃n,n=min (N-lo) (minRun' N N 0):=⟨_,rfl⟩;rw[<-hn];refine mD (wpS_lift (rG ⟨rfl,?_⟩));refine mD (ZnT hC hP h1 (hK.d hda) ∅ ∅ hsm λb2 hK2 hs2=>?_);rw[lT {}];have hKb:=hK.tr hK2;have hn1:1<=n:=by lia
   have hn2:n<=N-lo:=by lia
   have hbz2:=fM.sz hKb;have hb1:=fM.pref hKb h4 h5;obtain⟨R,hR⟩:∃R,R=(List.drop lo (Array.toList b2)).take n:=⟨_,rfl⟩;obtain⟨Z2,hZ2⟩:∃Z2,Z2=(List.drop lo (Array.toList b2)).drop n:=⟨_,rfl⟩;have hRZ:(List.drop lo (Array.toList b2))=R++Z2:=by rw[hR,hZ2,qU]
   have hRl:R.length=n:=by rw[hR,nG,oZ,oB];lia
   have hRn:R≠[]:=by intro e;rw[e]at hRl;simp at hRl;lia
   have hRs:R.Pairwise (Le L):=by rw[hR];exact g8.pw hs2
   have hS:SI L kd a0 lo (R++Z2) (setArr st' b2):=⟨h1,h2,(BE.mp (fM.perm hKb)).trans h3,rs,by rw[<-hRZ];exact hb1,h5,h6⟩;refine mD (wpS_get ?_);cases hb:(pendingOf (setArr st' b2)).back? with
   | none=>
    dsimp only;exact mD (rV (mI ⟨lo+n,Z2,rfl,hS.push hRl hRn hRs,∅,∅⟩))
   | some t=>
    obtain⟨s1,n1,p1⟩:=t;dsimp only;refine mD (pX (qy (a:=0) (b:=N) (I:=λy c st2=>c=(none,())/\SI L kd a0 lo (R++Z2) st2) (Q:=λc st2=>c=(none,())/\SI L kd a0 lo (R++Z2) st2) ?_ (λ_ _ h=>h) ⟨rfl,hS⟩) ?_)
    .rintro y c st2 _ _ ⟨hc,hS2⟩;subst hc;refine mD (wpS_get ?_);by_cases hp:(pendingOf st2).size>1
     .rw[lU hp];obtain⟨t,ht⟩:∃t,(pendingOf st2)[(pendingOf st2).size-2]?=some t:=⟨_,getElem?_pos _ _ ∅⟩;obtain⟨t1,t2,t3⟩:=t;rw[ht];dsimp only;split
      .exact mI ⟨rfl,hS2⟩
      .exact mD (hS2.merge hC hP hd ∅ λst3 hS3 _=>mI ⟨rfl,hS3⟩)
     .rw[lT hp];exact mI ⟨rfl,hS2⟩
    .rintro c st2 ⟨hc,hS2⟩;subst hc;exact mD (rV (mD (rV (mI ⟨lo+n,Z2,rfl,hS2.pow.push hRl hRn hRs,∅,∅⟩))))
  .rw[lT hmr];have hKb:=hK;have hbz2:=fM.sz hKb;have hb1:=fM.pref hKb h4 h5;obtain⟨R,hR⟩:∃R,R=(List.drop lo (Array.toList b)).take m:=⟨_,rfl⟩;obtain⟨Z2,hZ2⟩:∃Z2,Z2=(List.drop lo (Array.toList b)).drop m:=⟨_,rfl⟩;have hRZ:(List.drop lo (Array.toList b))=R++Z2:=by rw[hR,hZ2,qU]
   have hRl:R.length=m:=by rw[hR,nG,oZ,oB];lia
   have hRn:R≠[]:=by intro e;rw[e]at hRl;simp at hRl;lia
   have hRs:R.Pairwise (Le L):=by rw[hR];exact g8.pw hsm
   have hS:SI L kd a0 lo (R++Z2) (setArr st' b):=⟨h1,h2,(BE.mp (fM.perm hKb)).trans h3,rs,by rw[<-hRZ];exact hb1,h5,h6⟩;refine mD (wpS_get ?_);cases hb:(pendingOf (setArr st' b)).back? with
   | none=>
    dsimp only;exact mD (rV (mI ⟨lo+m,Z2,rfl,hS.push hRl hRn hRs,∅,∅⟩))
   | some t=>
    obtain⟨s1,n1,p1⟩:=t;dsimp only;refine mD (pX (qy (a:=0) (b:=N) (I:=λy c st2=>c=(none,())/\SI L kd a0 lo (R++Z2) st2) (Q:=λc st2=>c=(none,())/\SI L kd a0 lo (R++Z2) st2) ?_ (λ_ _ h=>h) ⟨rfl,hS⟩) ?_)
    .rintro y c st2 _ _ ⟨hc,hS2⟩;subst hc;refine mD (wpS_get ?_);by_cases hp:(pendingOf st2).size>1
     .rw[lU hp];obtain⟨t,ht⟩:∃t,(pendingOf st2)[(pendingOf st2).size-2]?=some t:=⟨_,getElem?_pos _ _ ∅⟩;obtain⟨t1,t2,t3⟩:=t;rw[ht];dsimp only;split
      .exact mI ⟨rfl,hS2⟩
      .exact mD (hS2.merge hC hP hd ∅ λst3 hS3 _=>mI ⟨rfl,hS3⟩)
     .rw[lT hp];exact mI ⟨rfl,hS2⟩
    .rintro c st2 ⟨hc,hS2⟩;subst hc;exact mD (rV (mD (rV (mI ⟨lo+m,Z2,rfl,hS2.pow.push hRl hRn hRs,∅,∅⟩))))
end
noncomputable def i8 (κ:KeyKind) (p:Keyed):κ.α:=(κ.keyOf p.1).getD κ.dflt
noncomputable def Bo (κ:KeyKind) (x y:Keyed):Bool:=κ.blt (i8 κ x) (i8 κ y)
def Znq (κ:KeyKind):gu (Bo κ):=
 ⟨λx y _ _ h=>KeyOrd.klt_asymm (O:=κ.toKeyOrd) h,λx y z _ _ _ h1 h2=>KeyOrd.kle_trans (O:=κ.toKeyOrd) h1 h2⟩
section
def Zlk (hO:κ.OneLt):gg (model prog w) A E s (λp=>∃a,κ.keyOf p.1=some a) (Bo κ) oneType':=by
 rintro st ⟨x,p⟩ ⟨y,r⟩ Q hk ⟨a,ha⟩ ⟨b,hb⟩ q;have e:Bo κ (x,p) (y,r)=κ.blt a b:=by unfold Bo i8;rw[ha,hb];rfl
 rw[e]at q;rw[lt'_eq];refine mD (wpS_get ?_);rw[hk,keyLt'_oneType];exact mD (wpS_lift (vo (hO prog w A _ s x y a b ha hb ⟨rfl,mI q⟩)))
def ZkO {a0:Array Keyed}{st:SortSt}{Q:Unit->SortSt->Prop}(hO:κ.OneLt)(h0:KeysOf κ a0)(hk:kindOf st=oneType')(hf:failedOf st=none)(hp:pendingOf st=#[])(ha:arrOf st=a0)
  (q:∀st',(arrOf st').Perm a0->failedOf st'=none->SortedToK κ (arrOf st') a0.size->Q () st'):wpS (model prog w) A E s sortRuns' Q st:=by
 refine Fw (a0:=a0.toList) (Znq κ) (Zlk hO) h0 hk hf hp (by rw[ha]) λst' p1 p2 p3=>q st' (BE.mpr p1) p3 ?_;have hsz:(arrOf st').size=a0.size:=by rw[<-oB,p1.length_eq,oB]
 intro i j hij hj;have hK:∀k (hk:k<(arrOf st').size),KK κ (arrOf st') k=i8 κ ((arrOf st').toList[k]'(~~~hk)):=by intro k hk;unfold KK i8;rw[getElem?_pos _ k hk];rfl
 rw[hK i ∅,hK j ∅];by_cases e:i=j
 .subst e;exact KeyOrd.kle_refl _
 .exact vU.mp p2 i j (by simp;lia) (by simp;lia) ∅
end
section
def ZkN (hO:κ.OneLt) {a:AD} {vs:AC} {n:Nat} {P:Fin->AE->Prop} (ho:s.heap.get? a=some (seqObj "list" vs.toArray n))
  (h0:KeysOf κ (pairsOf vs)) (hkk:∀x y r,vs=x::y::r->keyKind' (x::y::r).toArray=pure oneType') (hN:vs.length<=sizeLine)
  (h:∀v:SortSt,(arrOf v).Perm (pairsOf vs)->SortedToK κ (arrOf v) (pairsOf vs).size->P (.done (.ret .none)) { s with heap:=sortedHeap s.heap a vs ((arrOf v).map (·.2)) }):
  wpAny (model prog w) A (Builtin.«list.sort» ⟨[.ref a],[]⟩) P E s:=by
 by_cases h64:vs.length<64
 .exact list_sort_treeK hO ho h0 hkk h64 h
 obtain⟨x,y,r,hv⟩:∃x y r,vs=x::y::r:=by
  match vs,h64 with
  | x::y::r,_=>exact⟨x,y,r,rfl⟩
  | [x],h=>simp at h
  | [],h=>simp at h
 have h2:¬vs.toArray.size<2:=by rw[nP];lia
 have A0:a<s.heap.objs.size:=mL ho;have up:=get?_update_seq ho (λ_=>#[]);generalize hep:(if (#[]:Array Value).size == vs.toArray.size then n else n+1)=ep at up;have up3:(((s.heap.update a (Obj.mapSeq λ_=>#[])).push (seqObj "tuple" vs.toArray 0)).push (seqObj "list" #[] 0)).get? a=some (seqObj "list" #[] ep):=by
  rw[Heap.get?_push_ne,Heap.get?_push_ne]
  .exact up
  .rw[Heap.size_update];exact nM A0
  .rw[size_push',Heap.size_update];exact nM (wj A0)
 rw[list_sort_plain];refine lP (listItems_at ho rfl (lP (listUpdate_at ho rfl (lP (seqEpoch_at up rfl (lP (wpAny_newTuple (lP (wpAny_newList (pU ?_)))))) ) (hsz:=by rw[nP];exact hN))));dsimp only;rw[lT h2,lT h2];have hk1:keyKind' vs.toArray=pure oneType':=by rw[hv];exact hkk x y r hv
 rw[hk1];refine lP (mf (lP (pG (ZkO hO h0 (st:=SortSt.mk' oneType' (pairsOf vs) #[] 7 none) (Q:=λ_ v=>(arrOf v).Perm (pairsOf vs)/\failedOf v=none/\SortedToK κ (arrOf v) (pairsOf vs).size) rfl rfl rfl rfl λv p1 p2 p3=>⟨p1,p2,p3⟩) ?_ λ_ _ e=>e)));rintro⟨⟨⟩,v⟩ s2 ⟨rfl,p1,p2,p3⟩;dsimp only;refine lP (seqEpoch_at up3 rfl (lP (listUpdate_at up3 rfl ?_ (hsz2:=?_))))
 .rw[p2,bne_self_eq_false];exact mf (h v p1 p3)
 .rw[Array.size_map,p1.size_eq,pairsOf_size];lia
end
section
def Zik {vs:AC}{ms:lX}{Q:mY}(hv:fi (ms.map tx) vs)(h64:ms.length<=sizeLine)
  (h:∀(h':Heap) (us:AC) (e:Nat),(∀b o,s.heap.get? b=some o->h'.get? b=some o)->h'.get? s.heap.objs.size=some { cls:=.type "list",data:=.seq us.toArray e }->fi ((qM ms).map tx) us->Q (.ref s.heap.objs.size) { s with heap:=h' }):
  wpAny (model prog w) A (do let l <-newList vs;let _ <-holding [l] (call (.builtin "list.sort") [l] []);ret l) (λfin s'=>∃v,fin=Fin.done (Flow.ret v)/\Q v s') E s:=by
 have hS:=Zjf hv;have Aq:vs.length<=sizeLine:=by rw[<-hv.length,lZ];exact h64
 refine lP (wpAny_newList ?_ ?_)
 .have hoL:(s.heap.push (seqObj "list" vs.toArray 0)).get? s.heap.objs.size=some (seqObj "list" vs.toArray 0):=nV _ rfl;refine lP (pU (yW slot_list_sort ⟨_,hoL,rfl⟩ entry_list_sort (ZkN strKind_oneLt hoL hS.keysOf (λv_1 v_2 f8 e=>keyKind_strs (by rw[<-e];exact hS)) Aq λst' a1 a2=>⟨_,rfl,?_⟩) (args_list_sort _)));obtain⟨ss',b1,b2,b3⟩:=sorted_out_str hS a1 a2;obtain⟨e,he⟩:=sortedHeap_at (out:=(arrOf st').map (·.2)) hoL;refine mf ⟨_,rfl,h _ ((arrOf st').map (·.2)).toList e (λb o q=>?_) ?_ ?_⟩
  .have A0:=mL q;have hlt':b<(s.heap.push (seqObj "list" vs.toArray 0)).objs.size:=by rw[rZ];exact wj A0
   exact(sortedHeap_old (nM A0) hlt').trans (mR _ q)
  .have q:((arrOf st').map (·.2)).toList.toArray=(arrOf st').map (·.2):=Br;rw[q];exact he
  .have p1:(ss'.map λx=>x.cps.toList).Perm ms:=by
    have:=b2.map (λx:Str=>x.cps.toList)
    rwa [ZlP]at this
   have e1:=Di p1 (Ze3 b3);rw[<-e1];exact E8 b1
 .exact Aq
def ZgN (hh:A.handled=none)(hS:f9 prog w s.heap S ls (!o3 w))(h64:ls.length<=sizeLine)
  (h:∀(s':AE) (a:AD) (us:AC) (e:Nat),s.heap.get? a=none->(∀b o,s.heap.get? b=some o->s'.heap.get? b=some o)->s'.gens=s.gens->s'.os=s.os->s'.heap.get? a=some { cls:=.type "list",data:=.seq us.toArray e }->fi ((qM ls).map tx) us->Q (.ref a) s'):
  wpAny (model prog w) A (call (.builtin "sorted") [.ref S]) Q E s:=by
 refine Calls.call_function_entry kind_sorted plain_sorted entry_sorted (args_sorted1 _) ?_;unfold Builtin.«sorted»;refine lP (m:=checkCount "sorted" 1 1 _) (mf ?_);refine lP (Zhj (by first | exact hh | simpa using hh) hS h64 λs' vs ms k1 hg ho hp hv=>?_);have hl:ms.length<=sizeLine:=by rw[hp.length_eq];exact h64
 refine Zik hv hl λh' us e k2 he r=>?_;rw[ZgP hp]at r;exact h _ _ us e (by
  cases q:s.heap.get? s'.heap.objs.size with
  | none=>rfl
  | some o=>exact IG (mL (k1 _ _ q)) (o4 _)) (λb o q=>k2 b o (k1 b o q)) hg ho he r
end
section
end
def Zgf (b:Bool)(x y:Value):keyLt' (tuples' b) x y=(do
  let xs <-Builtin.List.listItems x
  let ys <-Builtin.List.listItems y
  for ((p,r),i) in (xs.toList.zip ys.toList).zipIdx do
   if !(<-eqBool p r) then return <-oneLt' (b&&i == 0) p r
  return xs.size<ys.size):=rfl
noncomputable def fZ (h:Heap):Value->Int×lN
 | .ref a=>match h.get? a with
  | some o=>match o.data with
   | .seq xs _=>match xs.toList with
    | [.int n _,.str w _]=>(n,w.cps.toList)
    | _=>(0,[])
   | _=>(0,[])
  | none=>(0,[])
 | _=>(0,[])
noncomputable def qG (a b:Int×lN):Bool:=decide (a.1<b.1) || (a.1 == b.1&&decide (a.2<b.2))
noncomputable def wg (h:Heap) (x y:Keyed):Bool:=qG (fZ h x.1) (fZ h y.1)
def BO:qG a b=true↔a.1<b.1\/(a.1=b.1/\a.2<b.2):=by unfold qG;simp
def D7:qG b a=false↔a.1<b.1\/(a.1=b.1/\¬b.2<a.2):=by
 rw[<-Bool.not_eq_true,BO];constructor
 .intro h;by_cases e:a.1=b.1
  .exact .inr ⟨e,λk=>h (.inr ⟨e.symm,k⟩)⟩
  .exact .inl (by
    have:¬b.1<a.1:=λk=>h (.inl k)
    lia)
 .rintro (h | ⟨h,k⟩) (l | ⟨l,m⟩)
  .lia
  .lia
  .lia
  .exact k m
def Zno (h:Heap):gu (wg h):=by
 refine⟨λx y _ _ e=>?_,λx y z _ _ _ e f=>?_⟩
 .unfold wg at e ⊢;rw[BO]at e;rw[D7];rcases e with e | ⟨e,f⟩
  .exact .inl e
  .exact .inr ⟨e,List.lt_asymm f⟩
 .unfold wg at e f ⊢;rw[D7]at e f ⊢;rcases e with e | ⟨e,e2⟩<;>rcases f with f | ⟨f,f2⟩
  .exact .inl ∅
  .exact .inl ∅
  .exact .inl ∅
  .exact .inr ⟨∅,List.not_lt.mpr (List.le_trans (List.not_lt.mp e2) (List.not_lt.mp f2))⟩
noncomputable def rh (h:Heap) (v:Value) (n:Int) (c:lN):Prop:=∃a t w u e,v=.ref a/\h.get? a=some (seqObj "tuple" #[.int n t,.str w u] e)/\w.cps.toList=c
def rh.key (k:rh h v n c):fZ h v=(n,c):=by obtain⟨a,t,w,u,e,rfl,ho,rfl⟩:=k;unfold fZ;dsimp only;rw[ho]
section
def Zix (h:Q (decide (a.cps.toList<b.cps.toList)) s):wpAny (model prog w) A (oneLt' false (.str a t) (.str b u)) Q E s:=by rw[oneLt'_eq];simp only[vR,if_false];refine lP (wpAny_richCompare_same (typeIs_str s a t) (typeIs_str s b u) slot_str_lt (call_str_lt ⟨(λz=>nomatch z),?_⟩));exact uz h
def Zlj:gg (model prog w) A E s (λp=>∃n c,rh s.heap p.1 n c) (wg s.heap) (tuples' true):=by
 rintro st ⟨x,p⟩ ⟨y,r⟩ Q hk ⟨n,c,hx⟩ ⟨m,d,hy⟩ q;have e:wg s.heap (x,p) (y,r)=qG (n,c) (m,d):=by unfold wg;rw[hx.key,hy.key]
 rw[e]at q;obtain⟨a,t,v,u,ep,rfl,ho,rfl⟩:=hx;obtain⟨b,t2,v2,u2,ep2,rfl,ho2,rfl⟩:=hy;rw[lt'_eq];refine mD (wpS_get ?_);rw[hk,Zgf];refine mD (wpS_lift (vo (lP (listItems_at ho rfl (lP (listItems_at ho2 rfl ?_))))));show wpAny _ _ (forIn [((Value.int n t,Value.int m t2),0),((Value.str v u,Value.str v2 u2),1)] _ _ >>= _) _ _ _;rw[List.forIn_cons];refine lP (lP (lP (wpAny_eqBool_int ?_)));by_cases hnm:n=m
 .subst hnm;rw[lT {}];refine mf ?_;dsimp only;rw[List.forIn_cons];refine lP (lP (eqBool_str ?_));by_cases hv:v=v2
  .subst hv;rw[lT {}];refine mf ?_;dsimp only;rw[List.forIn_nil];refine mf ?_;dsimp only;refine mf ⟨rfl,mI ?_⟩;have:qG (n,v.cps.toList) (n,v.cps.toList)=false:=by unfold qG;simp[List.lt_irrefl]
   rw[this]at q;simpa using q
  .rw[lU (~~~hv)];refine lP (Zix (mf (mf ?_)));dsimp only;refine mf ⟨rfl,mI ?_⟩;have:qG (n,v.cps.toList) (n,v2.cps.toList)=decide (v.cps.toList<v2.cps.toList):=by unfold qG;simp
   rw[this]at q;exact q
 .rw[lU (~~~hnm)];refine lP (oneLt_int (mf (mf ?_)));dsimp only;refine mf ⟨rfl,mI ?_⟩;have:qG (n,v.cps.toList) (m,v2.cps.toList)=decide (n<m):=by unfold qG;simp[hnm]
  rw[this]at q;exact q
end
structure Lin {α:Type}(lt:α->α->Bool):Prop where
 asym:∀a b,lt a b=true->lt b a=false
 trans:∀a b c,lt a b=true->lt b c=true->lt a c=true
 tri:∀a b,lt a b=false->lt b a=false->a=b
section
end
section
theorem Gp:∀ {vs:AC} {Q:List (Option Value)->AE->Prop},(∀v∈vs,∃n c,rh s.heap v n c) ->
  (∀us:AC,us.length=vs.length->(∀u∈us,∃n t,u=.int n t)->Q (us.map some) s)->wpAny (model prog w) A (vs.mapM firstOfTuple') Q E s
 | [],Q,_,q=>by rw[List.mapM_nil];exact mf (q [] rfl {})
 | v::vs,Q,h,q=>by
  obtain⟨n,c,a,t,x,u,e,rfl,ho,rfl⟩:=h v {};rw[List.mapM_cons];refine lP ?_;show wpAny _ _ (do
   if (<-typeOf (.ref a)) != .type "tuple" then return none
   return (<-Builtin.List.listItems (.ref a))[0]?) _ _ _
  refine lP (wpAny_typeOf_ref ho ?_);rw[lT (show ¬((Value.type "tuple" != Value.type "tuple")=true) by decide)];refine lP (listItems_at ho rfl (mf ?_));refine lP (Gp (λv hv=>h v (by simp[hv])) λus hl hu=>mf ?_);refine q (.int n t::us) (by simp[hl]) λu hu'=>?_;rcases m6.mp hu' with rfl | hu'
  .exact⟨n,t,rfl⟩
  .exact hu u hu'
def Zg6 (hv:∀v∈vs,∃n c,rh s.heap v n c)(hne:vs≠[])(q:Q (tuples' true) s):wpAny (model prog w) A (keyKind' vs.toArray) Q E s:=by
 rw[keyKind'_eq,List.mapM_toArray,map_eq_pure_bind,bind_assoc];refine lP (Gp hv λus hl hu=>?_);rw[pure_bind,lU {}];refine lP (rG ?_);have hI:IntsAre us (us.map numOf):=intsAre_map us hu;have e1:((us.map some).toArray.filterMap id)=us.toArray:=by simp
 rw[e1,oneTypeOnly'_eq,List.mapM_toArray,mapM_typeOf_ints hI];cases us with
 | nil=>
  cases vs with
  | nil=>exact IG rfl hne
  | cons v vs=>simp at hl
 | cons u us=>
  simp only[map_pure,pure_bind];have h0:(List.map (λ_=>Value.type "int") (u::us)).toArray[0]?=some (Value.type "int"):=by simp
  have hall:((List.map (λ_=>Value.type "int") (u::us)).toArray.all λz=>z == Value.type "int")=true:=by rw[List.all_toArray,List.all_map,qE];exact λ_ _=>rfl
  rw[h0];simp only[hall,if_true,pure_bind];exact mf q
end
section
end
section
end
noncomputable def tY (l w:lN):Nat:=((List.range (l.length+1)).find? λi=>decide (i+w.length<=l.length)&&decide ((l.drop i).take w.length=w)).getD 0
def D1 (h:nB l w i)(hm:∀j,j<i->¬nB l w j):tY l w=i:=by
 unfold tY;have:((List.range (l.length+1)).find? λi=>decide (i+w.length<=l.length)&&decide ((l.drop i).take w.length=w))=some i:=by
  rw[List.find?_range_eq_some];refine⟨by rw[IA h.1,IA h.2];rfl,oY.mpr (by have:=h.1;lia),λj hj=>?_⟩;rw[Bool.not_eq_true',Bool.and_eq_false_iff,ID,ID];by_cases c:j+w.length<=l.length
  .exact .inr λz=>hm j hj ⟨c,z⟩
  .exact .inl c
 rw[this];rfl
def Ha (h1:gn a b)(h2:gn b a):False:=by
 rcases h1 with h1 | ⟨h1,k1⟩<;>rcases h2 with h2 | ⟨h2,k2⟩
 .lia
 .lia
 .lia
 .exact List.lt_asymm k1 k2
theorem y6:∀ {a b:lX},a.Pairwise gn->b.Pairwise gn->(∀x,x∈a↔x∈b)->a=b
 | [],[],_,_,_=>rfl
 | [],y::b,_,_,h=>by have:=(h y).mpr o7;cases this
 | x::a,[],_,_,h=>by have:=(h x).mp o7;cases this
 | x::a,y::b,ha,hb,h=>by
  have pa:=sW.mp ha;have pb:=sW.mp hb;have e:x=y:=by
   rcases m6.mp ((h x).mp o7) with z | z
   .exact z
   .rcases m6.mp ((h y).mpr o7) with z2 | z2
    .exact z2.symm
    .exact(Ha (pb.1 x z) (pa.1 y z2)).elim
  subst e;congr 1;refine y6 pa.2 pb.2 λz=>?_;constructor
  .intro hz;rcases m6.mp ((h z).mp (oV _ hz)) with e | e
   .rw[e]at hz;exact(yP (pa.1 x hz)).elim
   .exact e
  .intro hz;rcases m6.mp ((h z).mpr (oV _ hz)) with e | e
   .rw[e]at hz;exact(yP (pb.1 x hz)).elim
   .exact e
def qd (e:lV x=lV y):x=y:=by unfold lV at e;injection e with e;injection e with e;injection e
def qc (s L:lN):Prop:=(∃c,L=s++[c])\/∃c,L=c::s
def qc.len (h:qc s L):L.length=s.length+1:=by rcases h with⟨c,rfl⟩|⟨c,rfl⟩<;>simp
def qc.inf (h:qc s L):mj s L:=by
 rcases h with⟨c,rfl⟩|⟨c,rfl⟩
 .have:=Bq (s++[c]);rwa [vB]at this
 .exact Bi (c::s)
def pi (s L w:lN):Prop:=mj w L/\¬mj w s
def pi.ne (h:pi s L w):w≠[]:=λe=>h.2 (e▸mj.nil s)
def wE (l:lN)(k:Nat):mj (l.take k) l:=⟨0,by rw[nG];lia,by rw[rK,List.take_eq_take_iff,nG];lia⟩
def DE (l:lN)(k:Nat):mj (l.drop k) l:=by
 by_cases h:k<=l.length
 .exact⟨k,by rw[oZ];lia,by rw[pK]⟩
 .rw[sH ∅];exact mj.nil l
def zu (h:qc s L)(f:pi s L w):((∃c,L=s++[c])/\w=L.drop (L.length-w.length))\/((∃c,L=c::s)/\w=L.take w.length):=by
 obtain⟨⟨i,h1,h2⟩,hn⟩:=f;rcases h with⟨c,rfl⟩|⟨c,rfl⟩
 .refine .inl ⟨⟨c,rfl⟩,?_⟩;rw[mP,oC]at h1 ⊢;have hi:i+w.length=s.length+1:=by
   by_cases z:i+w.length<=s.length
   .refine IG ⟨i,z,?_⟩ hn;rw[uF ∅,xw (by rw[oZ];lia)]at h2;exact h2
   .lia
  have e:s.length+1-w.length=i:=by lia
  rw[e];rw[qH (by rw[oZ,mP,oC];lia)]at h2;exact h2.symm
 .refine .inr ⟨⟨c,rfl⟩,?_⟩;cases i with
  | zero=>rw[rK]at h2;exact h2.symm
  | succ i=>
   refine IG ⟨i,?_,?_⟩ hn
   .rw[oN]at h1;lia
   .rw[List.drop_succ_cons]at h2;exact h2
def EE (h:qc s L):pi s L w↔(∃k,1<=k/\k<=L.length/\(w=L.take k\/w=L.drop (L.length-k)))/\¬mj w s:=by
 constructor
 .intro f;have h1:1<=w.length:=rR.mpr f.ne;refine⟨⟨w.length,h1,f.1.len,?_⟩,f.2⟩;rcases zu h f with⟨_,e⟩|⟨_,e⟩
  .exact .inr e
  .exact .inl e
 .rintro⟨⟨k,_,_,rfl | rfl⟩,hn⟩
  .exact⟨wE _ _,hn⟩
  .exact⟨DE _ _,hn⟩
def Hi (h:qc s L)(fu:pi s L u)(fv:pi s L v)(hl:u.length<=v.length):mj u v:=by
 have l1:=fu.1.len;have l2:=fv.1.len;rcases zu h fu with⟨⟨c,e⟩,eu⟩|⟨⟨c,e⟩,eu⟩
 .rcases zu h fv with⟨_,ev⟩|⟨⟨d,e2⟩,ev⟩
  .have:u=v.drop (v.length-u.length):=by
    have:v.drop (v.length-u.length)=L.drop (L.length-u.length):=by
     conv=>lhs;rw[ev]
     rw[rH,oZ];congr 1
     lia
    rw[this];exact eu
   rw[this];exact DE _ _
  .
   have hv:v.length=L.length:=by
    by_cases z:v.length=L.length
    .exact z
    .exfalso;refine fv.2 ?_;have:v=s.take v.length:=by
      conv=>lhs;rw[ev,e]
      rw[xw];have:=h.len;lia
     rw[this];exact wE _ _
   have:v=L:=by rw[ev,hv,pK]
   rw[this];exact fu.1
 .rcases zu h fv with⟨⟨d,e2⟩,ev⟩|⟨_,ev⟩
  .have hv:v.length=L.length:=by
    by_cases z:v.length=L.length
    .exact z
    .exfalso;refine fv.2 ?_;have:v=s.drop (s.length-v.length):=by
      have h3:=h.len
      conv=>lhs;rw[ev,e]
      have e4:(c::s).length-v.length=(s.length-v.length)+1:=by rw[oN];lia
      rw[e4,List.drop_succ_cons]
     rw[this];exact DE _ _
   have:v=L:=by rw[ev,hv,tU,rK]
   rw[this];exact fu.1
  .have:u=v.take u.length:=by
    have:v.take u.length=L.take u.length:=by
     conv=>lhs;rw[ev]
     rw[sQ];congr 1
     lia
    rw[this];exact eu
   rw[this];exact wE _ _
def ZnF (h:qc s L)(fu:pi s L u)(fv:pi s L v)(hl:u.length=v.length):u=v:=xF (Hi h fu fv ∅) ∅
def B2 (h:qc s L)(f0:pi s L w0)(hm:∀w,pi s L w->¬gn w w0)(w:lN):io s w/\mj w L↔w=w0:=by
 have sh:∀w,pi s L w->w0.length<=w.length:=λw f=>by
  by_cases z:w.length<w0.length
  .exact IG (.inl z) (hm w f)
  .lia
 have ne:=f0.ne;have l1:1<=w0.length:=rR.mpr ne;constructor
 .rintro⟨ms,hi⟩;have fw:pi s L w:=⟨hi,ms.no⟩;have hc:=Hi h f0 fw (sh w fw);by_cases z:w0.length<w.length
  .rcases HD hc z with k | k
   .exact IG (k.trans ms.init) f0.2
   .exact IG (k.trans ms.tail) f0.2
  .exact(xF hc ∅).symm
 .rintro rfl;have small:∀u,mj u L->u.length<w.length->mj u s:=λu hu hl=>by
   by_cases z:mj u s
   .exact z
   .have:=sh u ⟨hu,z⟩;lia
  exact⟨⟨ne,small _ ((Bq w).trans f0.1) (by rw[qm];lia),small _ ((Bi w).trans f0.1) (by rw[we];lia),f0.2⟩,f0.1⟩
noncomputable def iB (s w:lN)[Decidable (mj w.dropLast s)]:lN:=if mj w.dropLast s then w.tail else w.dropLast
instance (w l:lN):Decidable (mj w l):=decidable_of_iff (∃i,i<l.length+1/\i+w.length<=l.length/\(l.drop i).take w.length=w) ⟨λ⟨i,_,h⟩=>⟨i,h⟩,λ⟨i,h⟩=>⟨i,by have:=h.1;lia,h⟩⟩
def Opn (s L m w:lN):Prop:=∃sh c,pi s L sh/\c∈m/\(w=sh++[c]\/w=c::sh)/\io L w
def Znb (h:qc s L)(hm:∀x∈L,x∈m):Opn s L m w↔w∈m5 L m/\w∉m5 s m:=by
 constructor
 .rintro⟨sh,c,f,hc,e,ms⟩;refine⟨pM.mpr ⟨ms,?_⟩,λhw=>?_⟩
  .rcases e with rfl | rfl
   .exact⟨c,hc,{}⟩
   .refine⟨sh.getLast f.ne,hm _ (f.1.mem (List.getLast_mem _)),?_⟩;rw[vt {},List.getLast_cons f.ne]
  .have k:=(pM.mp hw).1;rcases e with rfl | rfl
   .exact f.2 (by have:=k.init;rwa [vB]at this)
   .exact f.2 k.tail
 .rintro⟨hw,hn⟩;obtain⟨ms,c,hc,hl⟩:=pM.mp hw;have ns:¬mj w s:=λz=>ms.no (z.trans h.inf);have hn':¬(mj w.dropLast s/\mj w.tail s):=λ⟨a,b⟩=>hn (pM.mpr ⟨⟨ms.ne,a,b,ns⟩,c,hc,hl⟩);by_cases z:mj w.dropLast s
  .have z2:¬mj w.tail s:=λk=>hn' ⟨z,k⟩;have f:pi s L w.tail:=⟨ms.tail,z2⟩
   match w,ms,f with
   | d::r,ms,f=>
    have f:pi s L r:=f;refine⟨r,d,f,?_,.inr rfl,ms⟩
    match r,f.ne with
    | e::r,_=>exact hm _ (ms.init.mem {})
  .refine⟨w.dropLast,c,⟨ms.init,z⟩,hc,.inl ?_,ms⟩;rw[vt ms.ne]at hl;have h2:=yR ms.ne;rw[Option.some.inj hl]at h2;exact h2.symm
def ZoM (h:qc s L)(f:pi s L sh)(e:w=sh++[c]\/w=c::sh)(ms:io L w):iB s w=sh:=by
 unfold iB;rcases e with rfl | rfl
 .rw[vB,lT f.2]
 .by_cases z:mj (c::sh).dropLast s
  .rw[lU z];rfl
  .rw[lT z];exact ZnF h ⟨ms.init,z⟩ f (by rw[qm];simp)
def Fj (h:qc s L)(f0:pi s L w0)(hmn:∀w,pi s L w->¬gn w w0)(hw:w∈m5 s m):w∈m5 L m↔w≠w0:=by
 obtain⟨ms,hc⟩:=pM.mp hw;constructor
 .rintro k rfl;exact(pM.mp k).1.no ((B2 h f0 hmn w).mpr rfl).2
 .intro k;have ni:¬mj w L:=λz=>k ((B2 h f0 hmn w).mp ⟨ms,z⟩);exact pM.mpr ⟨⟨ms.ne,ms.init.trans h.inf,ms.tail.trans h.inf,ni⟩,hc⟩
def ZnJ (h:qc s L)(hm:∀x∈L,x∈m)(f0:pi s L w0)(hmn:∀w,pi s L w->¬gn w w0):w0∈m5 s m:=by have k:=(B2 h f0 hmn w0).mpr rfl;exact pM.mpr ⟨k.1,w0.getLast k.1.ne,hm _ (k.2.mem (List.getLast_mem _)),vt _⟩
noncomputable def ib (s L m:lN):lX:=(m5 L m).filter λw=>decide (w∉m5 s m)
noncomputable def iX (s L m:lN):lX:=(m5 s m).filter λw=>decide (w∉m5 L m)
def Dc:w∈ib s L m↔w∈m5 L m/\w∉m5 s m:=by unfold ib;simp
def Cv:w∈iX s L m↔w∈m5 s m/\w∉m5 L m:=by unfold iX;simp
def ZlA (h:qc s L)(hm:∀x∈L,x∈m)(hr:m.Pairwise (· < ·))(f0:pi s L w0)(hmn:∀w,pi s L w->¬gn w w0):iX s L m=[w0]:=by
 refine y6 ((ua hr).filter _) {} λw=>?_;rw[Cv,mU];constructor
 .rintro⟨a,b⟩;by_cases z:w=w0
  .exact z
  .exact IG ((Fj h f0 hmn a).mpr z) b
 .rintro rfl;have k:=ZnJ h hm f0 hmn;exact⟨k,λz=>(Fj h f0 hmn k).mp z rfl⟩
def Dd {ws ws':lX}(pm:ws'.Perm ws)(pw:ws'.Pairwise λa b=>¬gn b a)(nd:ws.Nodup):ws'.Pairwise gn:=by
 refine(pw.and (pm.nodup_iff.mpr nd)).imp ?_;rintro a b ⟨h1,h2⟩;rcases Nat.lt_trichotomy a.length b.length with z | z | z
 .exact .inl z
 .rcases Dy a b with k | k | k
  .exact .inr ⟨z,k⟩
  .exact IG k h2
  .exact IG (.inr ⟨z.symm,k⟩) h1
 .exact IG (.inl z) h1
def zX {ws:lX}(h:ws.Pairwise gn):ws.Nodup:=h.imp λhab e=>by rw[e]at hab;exact yP hab
def Znu {old new came gone ws':lX}(ho:old.Pairwise gn)(hn:new.Pairwise gn)(hc:∀w,w∈came↔w∈new/\w∉old)(nc:came.Nodup)(hg:∀w,w∈gone↔w∈old/\w∉new)(pm:ws'.Perm (old.filter (λw=>decide (w∉gone))++came))(pw:ws'.Pairwise λa b=>¬gn b a):ws'=new:=by
 have nd:(old.filter (λw=>decide (w∉gone))++came).Nodup:=by rw[vI];refine⟨(zX ho).filter _,nc,λa ha b hb e=>?_⟩;subst e;exact((hc a).mp hb).2 (pD.mp ha).1
 refine y6 (Dd pm pw nd) hn λw=>?_;rw[pm.mem_iff,nJ,pD,hc,Iz,hg];constructor
 .rintro (⟨a,b⟩|⟨a,b⟩)
  .by_cases z:w∈new
   .exact z
   .exact IG ⟨a,z⟩ b
  .exact a
 .intro a;by_cases z:w∈old
  .exact .inl ⟨z,λk=>k.2 a⟩
  .exact .inr ⟨a,z⟩
def Zlp (hm:m.Pairwise (· < ·)):m5 [] m=fK m:=by
 unfold fK;refine y6 (ua hm) ?_ λw=>?_
 .rw[tV];exact hm.imp λh=>.inr ⟨rfl,List.Lex.rel h⟩
 .rw[pM,nj];constructor
  .rintro⟨ms,c,hc,hl⟩;have h:=ms.init.len;rw[qm,wB]at h;have h1:1<=w.length:=rR.mpr ms.ne
   match w,h,h1,hl with
   | [d],_,_,hl=>exact⟨c,hc,~~~hl.symm⟩
  .rintro⟨c,hc,rfl⟩;exact⟨⟨{},mj.nil _,mj.nil _,λz=>by have:=z.len;simp at this⟩,c,hc,rfl⟩
def Av (W:lX)(w:lN):Prop:=∀v∈W,¬mj v w
def gN (W:lX)(u:lN):Prop:=u=[]\/∃v∈W,∃k,k<v.length/\u=v.take k
def rO (W:lX)(u e:lN):Prop:=∃d,d<=u.length/\e=u.drop d/\gN W e/\∀j,j<d->¬gN W (u.drop j)
def Av.inf (h:Av W w)(hu:mj u w):Av W u:=λv hv hi=>h v hv (hi.trans hu)
def BC (a b:lN):mj a (a++b):=⟨0,by rw[mP];lia,by rw[rK,List.take_left]⟩
def Gy (hu:Av W u)(he:rO W u e)(x:lN):Av W (u++x)↔Av W (e++x):=by
 obtain⟨d,hd,rfl,hs,hm⟩:=he;have ed:(u++x).drop d=u.drop d++x:=uF hd;constructor
 .intro h;refine h.inf ?_;rw[<-ed];by_cases z:d<=(u++x).length
  .exact⟨d,by rw[oZ];lia,by rw[pK]⟩
  .rw[sH ∅];exact mj.nil _
 .rintro h v hv ⟨i,h1,h2⟩;rw[mP]at h1;by_cases c1:i+v.length<=u.length
  .refine hu v hv ⟨i,c1,?_⟩;rw[uF ∅,xw (by rw[oZ];lia)]at h2;exact h2
  .by_cases c2:d<=i
   .refine h v hv ⟨i-d,?_,?_⟩
    .rw[mP,oZ];lia
    .rw[<-ed,rH];have:d+(i-d)=i:=by lia
     rw[this];exact h2
   .refine hm i ∅ (.inr ⟨v,hv,u.length-i,∅,?_⟩);rw[<-h2,sQ];have e1:min (u.length-i) v.length=u.length-i:=by lia
    rw[e1,uF ∅,xw (by rw[oZ];exact mC _),qH (by rw[oZ];exact mC _)]
def iH (W:lX):Prop:=∀v∈W,∀w∈W,mj v w->v=w
def ZmE (ha:iH W)(hn:∀v∈W,v≠[]){u:lN}(h:gN W u):Av W u:=by
 rintro v hv hi;rcases h with rfl | ⟨w,hw,k,hk,rfl⟩
 .have:=hi.len;exact hn v hv (tR.mp (~~~this))
 .have hl:=hi.len;rw[nG]at hl;have e:=ha v hv w hw (hi.trans (wE w k));rw[e]at hl
  lia
def Fx (W:lX)(u:lN):∃e,rO W u e:=by
 classical
 have:∃d,gN W (u.drop d):=⟨u.length,.inl (sH (mC _))⟩;obtain⟨d,hd,hm⟩:∃d,gN W (u.drop d)/\∀j,j<d->¬gN W (u.drop j):=by
  obtain⟨d,hd⟩:=this;induction d using Nat.strongRecOn with
  | _ d ih=>
   by_cases c:∃j,j<d/\gN W (u.drop j)
   .obtain⟨j,hj,hs⟩:=c;exact ih j hj hs
   .exact⟨d,hd,λj hj hs=>c ⟨j,hj,hs⟩⟩
 refine⟨u.drop d,d,?_,rfl,hd,hm⟩;by_cases z:d<=u.length
 .exact z
 .exact IG (.inl (sH (mC _))) (hm u.length ∅)
def Zka (h1:rO W u e)(h2:rO W u f):e=f:=by
 obtain⟨d,_,rfl,hs,hm⟩:=h1;obtain⟨d2,_,rfl,hs2,hm2⟩:=h2;have:d=d2:=by
  rcases Nat.lt_trichotomy d d2 with z | z | z
  .exact IG hs (hm2 d z)
  .exact z
  .exact IG hs2 (hm d2 z)
 rw[this]
def wO (he:rO W (u++[c]) e):Av W (u++c::x)↔Av W (u++[c])/\Av W (e++x):=by
 have e1:u++c::x=(u++[c])++x:=by simp
 constructor
 .intro h;have h1:Av W (u++[c]):=h.inf (by rw[e1];exact BC _ _);exact⟨h1,(Gy h1 he x).mp (by rw[<-e1];exact h)⟩
 .rintro⟨h1,h2⟩;rw[e1];exact(Gy h1 he x).mpr h2
noncomputable abbrev Wd:=lN
def tH (o:Wd->List Wd)(P:List Wd)(s:Wd):Nat:=((o s).filter λt=>decide (t∉P)).length
def EH:tH o P s=0↔∀t∈o s,t∈P:=by unfold tH;rw[tR,zI];simp
def ji:tH o [] s=(o s).length:=by unfold tH;simp
def CC (h:r∉P):tH o (P++[r]) s+(o s).count r=tH o P s:=by
 unfold tH;induction o s with
 | nil=>simp
 | cons t ts ih=>
  rw[List.count_cons,vE,vE];by_cases e:t=r
  .subst e;have h1:decide (t∉P++[t])=false:=by simp
   have h2:decide (t∉P)=true:=by simpa using h
   rw[h1,h2];simp only[vR,if_false,if_true,beq_self_eq_true,oN]
   lia
  .have h3:decide (t∉P++[r])=decide (t∉P):=by simp[e]
   rw[h3,lT (show ¬(t == r)=true by simpa using e)];split<;>(try simp only[oN])<;>lia
structure KI (N:List Wd)(o:Wd->List Wd)(n:Nat)(es:List Wd)(f:Wd->Nat):Prop where
 le:n<=es.length
 nd:es.Nodup
 sub:∀s∈es,s∈N
 left:∀s∈N,f s=tH o (es.take n) s
 zero:∀s∈N,s∈es↔f s=0
 ord:∀(k:Nat) (s:Wd),es[k]?=some s->∀t∈o s,t∈es.take k
structure KJ (N:List Wd)(o:Wd->List Wd)(n:Nat)(r:Wd)(S:List Wd)(j:Nat)(es:List Wd)(f:Wd->Nat):Prop where
 at_:es[n]?=some r
 src:∀s∈N,S.count s=(o s).count r
 nd:es.Nodup
 sub:∀s∈es,s∈N
 left:∀s∈N,f s+(S.take j).count s=tH o (es.take n) s
 zero:∀s∈N,s∈es↔f s=0
 ord:∀(k:Nat) (s:Wd),es[k]?=some s->∀t∈o s,t∈es.take k
def KI.start {N:List Wd}{o:Wd->List Wd}{f:Wd->Nat}(nd:N.Nodup)(hf:∀s∈N,f s=(o s).length):KI N o 0 (N.filter λs=>decide (f s=0)) f where
 le:=nO _
 nd:=nd.filter _
 sub:=λs h=>(pD.mp h).1
 left:=λs h=>by rw[sG,ji];exact hf s h
 zero:=λs h=>by simp[pD,h]
 ord:=λk s h t ht=>by
  have hm:=pD.mp (oW h);have z:f s=0:=by simpa using hm.2
  rw[hf s hm.1,tR]at z;rw[z]at ht;cases ht
def wJ {es:List Wd}{n:Nat}{r:Wd}(nd:es.Nodup)(h:es[n]?=some r):r∉es.take n:=by intro hm;obtain⟨k,hk,e⟩:=qS hm;rw[nG]at hk;rw[yQ]at e;obtain⟨hn,e2⟩:=mX.mp h;have:=(List.nodup_iff_pairwise_ne.mp nd);rw[vU]at this;exact this k n ∅ hn ∅ (by rw[e,e2])
def KI.enter (h:KI N o n es f)(hr:es[n]?=some r)(hS:∀s∈N,S.count s=(o s).count r):KJ N o n r S 0 es f:=
 ⟨hr,hS,h.nd,h.sub,λs hs=>by rw[sG,List.count_nil,Nat.add_zero];exact h.left s hs,h.zero,h.ord⟩
def uQ {es:List Wd}{n:Nat}{r:Wd}(h:es[n]?=some r):es.take (n+1)=es.take n++[r]:=by rw[x5,h];rfl
def KJ.leave {N:List Wd}{o:Wd->List Wd}{n:Nat}{es S:List Wd}{f:Wd->Nat}{r:Wd}(h:KJ N o n r S S.length es f):KI N o (n+1) es f where
 le:=(mX.mp h.at_).1
 nd:=h.nd
 sub:=h.sub
 left:=λs hs=>by
  have h1:=h.left s hs;have h2:=CC (o:=o) (s:=s) (wJ h.nd h.at_);rw[pK,h.src s hs]at h1;rw[uQ h.at_]
  lia
 zero:=h.zero
 ord:=h.ord
def Eb {S:List Wd}{j:Nat}{s t:Wd}(h:S[j]?=some s):(S.take (j+1)).count t=(S.take j).count t+if t=s then 1 else 0:=by
 rw[uQ h,List.count_append,List.count_singleton];by_cases e:t=s
 .subst e;simp
 .have:(s == t)=false:=by simpa using λz=>e z.symm
  rw[this,lT e];rfl
def KJ.pos (h:KJ N o n r S j es f)(hs:S[j]?=some s)(hN:s∈N):1<=f s:=by
 have h1:=h.left s hN;have h2:=CC (o:=o) (s:=s) (wJ h.nd h.at_);have h3:(S.take (j+1)).count s<=S.count s:=(vm _ _).count_le _;rw[Eb hs,lU rfl,h.src s hN]at h3
 lia
def KJ.next (h:KJ N o n r S j es f)(hs:S[j]?=some s)(hN:s∈N)(g:Wd->Nat)(hg:∀t,g t=if t=s then f s-1 else f t):
  (g s=0->KJ N o n r S (j+1) (es++[s]) g)/\(g s≠0->KJ N o n r S (j+1) es g):=by
 have p:=h.pos hs hN;have gs:g s=f s-1:=by rw[hg,lU rfl]
 have left:∀t∈N,g t+(S.take (j+1)).count t=tH o (es.take n) t:=λt ht=>by
  have h1:=h.left t ht;rw[Eb hs,hg];by_cases e:t=s
  .subst e;rw[lU rfl,lU rfl];lia
  .rw[lT e,lT e];lia
 have hn:=(mX.mp h.at_).1;have ns:s∉es:=λz=>by have:=(h.zero s hN).mp z;lia
 constructor
 .intro z;have tk:(es++[s]).take n=es.take n:=xw ∅;refine⟨by rw[py hn];exact h.at_,h.src,?_,?_,?_,?_,?_⟩
  .rw[vI];refine⟨h.nd,{},λa ha b hb=>?_⟩;rw[mU.mp hb];exact λe=>ns (e▸ha)
  .intro t ht;rcases nJ.mp ht with ht | ht
   .exact h.sub t ht
   .rw[mU.mp ht];exact hN
  .intro t ht;rw[tk];exact left t ht
  .intro t ht;rw[nJ,mU];by_cases e:t=s
   .subst e;simp[z]
   .rw[hg,lT e];constructor
    .rintro (k | k)
     .exact(h.zero t ht).mp k
     .exact IG k e
    .intro k;exact .inl ((h.zero t ht).mpr k)
  .intro k t hk u hu;by_cases c:k<es.length
   .rw[py c]at hk;rw[xw ∅];exact h.ord k t hk u hu
   .have kl:=(mX.mp hk).1;rw[mP,oC]at kl;have ke:k=es.length:=by lia
    subst ke;rw[qu (mC _),tU]at hk;cases hk;rw[List.take_left];have l:=left s hN;have c1:=CC (o:=o) (s:=s) (wJ h.nd h.at_);have c2:(S.take (j+1)).count s<=S.count s:=(vm _ _).count_le _;rw[h.src s hN]at c2;have c3:tH o (es.take n++[r]) s=0:=by lia
    rw[<-uQ h.at_]at c3;exact o9 (EH.mp c3 u hu)
 .intro z;refine⟨h.at_,h.src,h.nd,h.sub,left,λt ht=>?_,h.ord⟩;by_cases e:t=s
  .subst e;exact⟨λk=>IG k ns,λk=>IG k z⟩
  .rw[hg,lT e];exact h.zero t ht
def KI.stay (h:KI N o es.length es f){s:Wd}(hN:s∈N)(hs:s∉es):∃t∈o s,t∉es:=by have:=mt (h.zero s hN).mpr hs;rw[h.left s hN,pK,EH]at this;simpa using this
def Em {W:List Wd}{m:Wd}{es:List Wd}{o:Wd->List Wd}(hout:∀(s:Wd) (c:Nat),c∈m->Av W (s++[c])->∃e∈o s,rO W (s++[c]) e)(ord:∀(k:Nat) (s:Wd),es[k]?=some s->∀t∈o s,t∈es.take k):
  ∀(k:Nat) (s:Wd),es[k]?=some s->∀x:Wd,(∀c∈x,c∈m)->Av W (s++x)->x.length<=k:=by
 intro k;induction k using Nat.strongRecOn with
 | _ k ih=>
  intro s hs x hx ha;cases x with
  | nil=>exact nO _
  | cons c x=>
   have a1:Av W (s++[c]):=ha.inf (by
    have:s++c::x=(s++[c])++x:=by simp
    rw[this];exact BC _ _)
   obtain⟨e,he,hE⟩:=hout s c (hx c o7) a1;obtain⟨j,hj,ej⟩:=qS (ord k s hs e he);rw[nG]at hj;rw[yQ]at ej;have:=ih j ∅ e (mX.mpr ⟨∅,ej⟩) x (λd hd=>hx d (oV _ hd)) ((wO hE).mp ha).2;rw[oN]
   lia
theorem GQ {W:List Wd}{m:Wd}{es N:List Wd}{o:Wd->List Wd}(hin:∀s t,t∈o s->t∈N/\∃c∈m,Av W (s++[c])/\rO W (s++[c]) t)(hav:∀s∈N,Av W s)(stay:∀s∈N,s∉es->∃t∈o s,t∉es):
  ∀(n:Nat) (s:Wd),s∈N->s∉es->∃x:Wd,x.length=n/\(∀c∈x,c∈m)/\Av W (s++x)
 | 0,s,hN,_=>⟨[],rfl,λc hc=>(by cases hc),by rw[sM];exact hav s hN⟩
 | n+1,s,hN,hs=>by
  obtain⟨t,ht,nt⟩:=stay s hN hs;obtain⟨tN,c,hc,ha,he⟩:=hin s t ht;obtain⟨x,hl,hx,hax⟩:=GQ hin hav stay n t tN nt;refine⟨c::x,by rw[oN,hl],λd hd=>?_,(wO he).mpr ⟨ha,hax⟩⟩;rcases m6.mp hd with z | z
  .rw[z];exact hc
  .exact hx d z
structure LF (W:List Wd)(m s x:Wd):Prop where
 mem:∀c∈x,c∈m
 av:Av W (s++x)
 max:∀y:Wd,(∀c∈y,c∈m)->Av W (s++y)->y.length<=x.length
 fst:∀y:Wd,(∀c∈y,c∈m)->Av W (s++y)->y.length=x.length->¬y<x
structure PF (W:List Wd)(m s:Wd)(cs:lN)(x:Wd):Prop where
 mem:∀c∈x,c∈m
 av:Av W (s++x)
 max:∀(c:Nat) (y:Wd),c∈cs->(∀c∈y,c∈m)->Av W (s++c::y)->y.length+1<=x.length
 fst:∀(c:Nat) (y:Wd),c∈cs->(∀c∈y,c∈m)->Av W (s++c::y)->y.length+1=x.length->¬(c::y)<x
 hd:∀(b:Nat) (x':Wd),x=b::x'->b∈cs
def PF.start (h:Av W s):PF W m s [] []:=
 ⟨λc hc=>(by cases hc),(by rw[sM];exact h),λc y hc=>(by cases hc),λc y hc=>(by cases hc),λb x' e=>(by cases e)⟩
def PF.done (h:PF W m s cs x)(hc:∀c∈m,Av W (s++[c])->c∈cs):LF W m s x:=by
 have one:∀(c:Nat) (y:Wd),Av W (s++c::y)->Av W (s++[c]):=λc y ha=>ha.inf (by
  have:s++c::y=(s++[c])++y:=by simp
  rw[this];exact BC _ _)
 refine⟨h.mem,h.av,λy hy ha=>?_,λy hy ha e=>?_⟩
 .cases y with
  | nil=>exact nO _
  | cons c y=>exact h.max c y (hc c (hy c o7) (one c y ha)) (λd hd=>hy d (oV _ hd)) ha
 .cases y with
  | nil=>
   have:x=[]:=tR.mp e.symm;rw[this];exact List.lt_irrefl _
  | cons c y=>exact h.fst c y (hc c (hy c o7) (one c y ha)) (λd hd=>hy d (oV _ hd)) ha e
def PF.next (h:PF W m s cs x)(A0:∀d∈cs,d<c)(hcm:c∈m)(ha:Av W (s++[c]))(he:rO W (s++[c]) e)(hz:LF W m e z):
  (x.length<(c::z).length->PF W m s (cs++[c]) (c::z))/\(¬x.length<(c::z).length->PF W m s (cs++[c]) x):=by
 have lc:(c::z).length=z.length+1:=oN;constructor
 .intro lt;refine⟨λd hd=>?_,(wO he).mpr ⟨ha,hz.av⟩,λd y hd hy hax=>?_,λd y hd hy hax el=>?_,λb x' e=>?_⟩
  .rcases m6.mp hd with q | q
   .rw[q];exact hcm
   .exact hz.mem d q
  .rcases nJ.mp hd with q | q
   .have:=h.max d y q hy hax
    lia
   .rw[mU.mp q]at hax;have:=hz.max y hy ((wO he).mp hax).2
    lia
  .rcases nJ.mp hd with q | q
   .have:=h.max d y q hy hax
    lia
   .have ed:=mU.mp q;subst ed;intro hl;have:y<z:=by
     cases hl with
     | rel k=>exact IG k (o4 _)
     | cons k=>exact k
    exact hz.fst y hy ((wO he).mp hax).2 ∅ this
  .cases e;simp
 .intro lt;refine⟨h.mem,h.av,λd y hd hy hax=>?_,λd y hd hy hax el=>?_,λb x' e=>wv _ (h.hd b x' e)⟩
  .rcases nJ.mp hd with q | q
   .exact h.max d y q hy hax
   .rw[mU.mp q]at hax;have:=hz.max y hy ((wO he).mp hax).2
    lia
  .rcases nJ.mp hd with q | q
   .exact h.fst d y q hy hax el
   .have ed:=mU.mp q;subst ed;intro hl;cases hx:x with
    | nil=>rw[hx]at el;simp at el
    | cons b x'=>
     have bc:=A0 b (h.hd b x' hx);rw[hx]at hl;cases hl with
     | rel k=>exact IG (Nat.lt_trans k bc) (o4 _)
     | cons k=>exact IG bc (o4 _)
def LF.whole (h:LF W m [] x){c:Nat}(hc:c∈m):¬Av W (c::x)/\¬Av W (x++[c]):=by
 constructor
 .intro ha;have:=h.max (c::x) (λd hd=>by
   rcases m6.mp hd with z | z
   .rw[z];exact hc
   .exact h.mem d z) (by rw[List.nil_append];exact ha)
  rw[oN]at this
  lia
 .intro ha;have:=h.max (x++[c]) (λd hd=>by
   rcases nJ.mp hd with z | z
   .exact h.mem d z
   .rw[mU.mp z];exact hc) (by rw[List.nil_append];exact ha)
  rw[mP,oC]at this
  lia
def qb (ls:lX)(u:lN):Prop:=∃l∈ls,mj u l
structure gL (ls:lX)(m:lN)(ws:lX):Prop where
 nd:ws.Nodup
 iff:∀w,w∈ws↔w≠[]/\qb ls w.dropLast/\qb ls w.tail/\¬qb ls w/\∃c∈m,w.getLast?=some c
theorem Dm {α β:Type}{f:α->List β}{n:Nat}:∀ {l:List α},(∀x∈l,(f x).length<=n)->(l.flatMap f).length<=l.length*n
 | [],_=>by simp
 | x::l,h=>by
  rw[List.flatMap_cons,mP,oN,Nat.succ_mul];have:=h x o7;have:=Dm (l:=l) λy hy=>h y (oV _ hy)
  lia
def Fc (nw:w≠[])(nv:v≠[])(cw:w.getLast?=some c)(cv:v.getLast?=some c)(iw:nB l w.dropLast i)(jv:nB l v.dropLast j)(e:i+w.dropLast.length=j+v.dropLast.length)(hl:v.length<=w.length):v=w\/∃k,v=w.tail.drop k:=by
 have ew:=xY cw;have ev:=xY cv;have lw:w.dropLast.length=w.length-1:=qm;have lv:v.dropLast.length=v.length-1:=qm;have w1:1<=w.length:=rR.mpr nw;have v1:1<=v.length:=rR.mpr nv;have s:=Ga iw jv e ∅;rw[show w.dropLast.length-v.dropLast.length=w.length-v.length by lia]at s;have h2:(w.dropLast++[c]).drop (w.length-v.length)=w.dropLast.drop (w.length-v.length)++[c]:=uF ∅;have vs:v=w.drop (w.length-v.length):=by have h3:v.dropLast++[c]=w.dropLast.drop (w.length-v.length)++[c]:=IF (·++[c]) s;rw[<-h2,<-ew,<-ev]at h3;exact h3
 by_cases eq:v.length=w.length
 .left;rw[vs,eq,tU];rfl
 .right;refine⟨w.length-v.length-1,?_⟩;rw[<-List.drop_one,rH,show 1+(w.length-v.length-1)=w.length-v.length by lia];exact vs
def gL.count (h:gL ls m ws)(hn:∀l∈ls,l.length<=n):ws.length<=ls.length*(m.length*(n+1)):=by
 classical
 have h1:=xM ws (ls.flatMap λl=>ws.filter λw=>decide (mj w.dropLast l)) h.nd λw hw=>by obtain⟨_,⟨l,hl,hi⟩,_⟩:=(h.iff w).mp hw;exact uN.mpr ⟨l,hl,pD.mpr ⟨hw,IA hi⟩⟩
 refine mO h1 (Dm λl hl=>?_);have nd:(ws.filter λw=>decide (mj w.dropLast l)).Nodup:=h.nd.filter _;have inj:∀x∈ws.filter (λw=>decide (mj w.dropLast l)),∀y∈ws.filter (λw=>decide (mj w.dropLast l)),(x.getLast?,gv l x)=(y.getLast?,gv l y)->x=y:=by
  intro x hx y hy e;obtain⟨hx1,hx2⟩:=pD.mp hx;obtain⟨hy1,hy2⟩:=pD.mp hy;obtain⟨nx,_,tx_,ox,c,hc,cx⟩:=(h.iff x).mp hx1;obtain⟨ny,_,ty_,oy,d,hd,cy⟩:=(h.iff y).mp hy1;have e1:x.getLast?=y.getLast?:=IF Prod.fst e;have e2:gv l x=gv l y:=IF Prod.snd e;obtain⟨i,hi,ei⟩:=wH (IC hx2);obtain⟨j,hj,ej⟩:=wH (IC hy2);have cy':y.getLast?=some c:=by rw[<-e1];exact cx
  rcases Nat.le_total y.length x.length with g | g
  .rcases Fc nx ny cx cy' hi hj ∅ g with z | ⟨k,z⟩
   .exact z.symm
   .obtain⟨l',hl',hi'⟩:=tx_;exact IG ⟨l',hl',by rw[z];exact Dj hi' k⟩ oy
  .rcases Fc ny nx cy' cx hj hi ∅ g with z | ⟨k,z⟩
   .exact z
   .obtain⟨l',hl',hi'⟩:=ty_;exact IG ⟨l',hl',by rw[z];exact Dj hi' k⟩ ox
 have nd2:=wR (f:=λw:lN=>(w.getLast?,gv l w)) nd inj;have h2:=xM _ (m.flatMap λc=>(List.range (n+1)).map λe=>(some c,e)) nd2 λp hp=>by obtain⟨w,hw,rfl⟩:=nj.mp hp;obtain⟨hw1,hw2⟩:=pD.mp hw;obtain⟨_,_,_,_,c,hc,cw⟩:=(h.iff w).mp hw1;obtain⟨i,hi,ei⟩:=wH (IC hw2);rw[uN];refine⟨c,hc,nj.mpr ⟨gv l w,oY.mpr (by have:=hi.1;have:=hn l hl;lia),by rw[cw]⟩⟩
 rw[lZ]at h2;exact mO h2 (Dm λc _=>by rw[lZ,rW];exact mC _)
def gL.len (h:gL ls m ws)(hn:∀l∈ls,l.length<=n)(hw:w∈ws):w.length<=n+1:=by
 obtain⟨nw,⟨l,hl,hi⟩,_⟩:=(h.iff w).mp hw;have:=hi.len;have:=hn l hl;rw[qm]at *
 lia
def gL.mem (h:gL ls m ws)(hm:∀l∈ls,∀c∈l,c∈m)(hw:w∈ws):∀c∈w,c∈m:=by
 obtain⟨nw,⟨l,hl,hi⟩,_,_,d,hd,cd⟩:=(h.iff w).mp hw;intro c hc;rw[xY cd]at hc;rcases nJ.mp hc with z | z
 .exact hm l hl c (hi.mem z)
 .rw[mU.mp z];exact hd
theorem Zim (a g:AD):Builtin.«list.sort» ⟨[.ref a],[(Str.ofString "key",.ref g)]⟩=(do
  let its <-Builtin.List.listItems (.ref a)
  Builtin.List.listUpdate (.ref a) λ_=>#[]
  let be <-seqEpoch a
  let hd <-newTuple its.toList
  let ks <-newList []
  holding [hd,ks] do
   rule "list.sort.key"
   for x in its do
    match <-(call (.ref g) [x]).attempt with
    | .ok k=>Builtin.List.listUpdate ks (·.push k)
    | .error e=>
     rule "list.sort.key-raised"
     let md <-Builtin.List.listItems ks
     Builtin.List.listUpdate ks λ_=>#[]
     letGo md.toList.reverse [e]
     Builtin.List.listUpdate (.ref a) λ_=>its
     throw e
   let kys <-Builtin.List.listItems ks
   let kind <-if its.size<2 then pure general' else keyKind' kys
   let ((),v) <-(if its.size<2 then pure () else sortRuns').run (SortSt.mk' kind (kys.zip its) #[] 7 none)
   Builtin.List.listUpdate ks λ_=>#[]
   letGo ((arrOf v).map (·.1)).toList (failedOf v).toList
   let tch:=(<-seqEpoch a) != be
   Builtin.List.listUpdate (.ref a) λ_=>(arrOf v).map (·.2)
   if let some e:=failedOf v then rule "list.sort.comparison-raised";throw e
   if tch then rule "list.sort.modified";raiseError "ValueError" "list modified during sort"
   ret .none):=rfl
noncomputable def Kp (h g:Heap):Prop:=∀b o,h.get? b=some o->g.get? b=some o
noncomputable def ij (M:Model) (A:AH) (g:AD) (vs:AC) (kf:Value->Int×lN) (s:AE):Prop:=
 ∀(E:mY) (s':AE) (v:Value) (Q:mY),v∈vs->Kp s.heap s'.heap->s'.gens=s.gens->s'.os=s.os ->
  (∀(s2:AE) (k:Value),Kp s'.heap s2.heap->s2.gens=s'.gens->s2.os=s'.os->rh s2.heap k (kf v).1 (kf v).2->Q k s2)->wpAny M A (call (.ref g) [v]) Q E s'
def rh.kp (k:rh h v n c)(q:Kp h g):rh g v n c:=by obtain⟨a,t,w,u,e,h1,h2,h3⟩:=k;exact⟨a,t,w,u,e,h1,q _ _ h2,h3⟩
def rh.up {h:Heap} {v:Value} {n:Int} {c:lN} {K:AD} {xs:Array Value} {m:Nat} {f:Obj->Obj} (k:rh h v n c) (hK:h.get? K=some (seqObj "list" xs m)):rh (h.update K f) v n c:=by
 obtain⟨a,t,w,u,e,h1,h2,h3⟩:=k;refine⟨a,t,w,u,e,h1,?_,h3⟩;rw[(pZ h K f).2 a ?_]
 .exact h2
 .rintro rfl;rw[h2]at hK;have:=IF Obj.cls (Option.some.inj hK);exact IG (show Value.type "tuple"=Value.type "list" from this) ⋯
noncomputable def iD (h:Heap) (kf:Value->Int×lN) (ks vs:AC):Prop:=ks.length=vs.length/\∀(i:Nat) (k v:Value),ks[i]?=some k->vs[i]?=some v->rh h k (kf v).1 (kf v).2
section
theorem Fq {g K a:AD}{vs:AC}{kf:Value->Int×lN}{oa:Obj}{Q:PUnit->AE->Prop}{er:Value->Sem (ForInStep PUnit)}(hc:ij (model prog w) A g vs kf s)(hK0:s.heap.get? K=none)(ha0:a≠K)(hN:vs.length<=sizeLine)
  (q:∀(s2:AE) ks n,Kp s.heap s2.heap->s2.gens=s.gens->s2.os=s.os->s2.heap.get? K=some (seqObj "list" ks.toArray n)->iD s2.heap kf ks vs->s2.heap.get? a=some oa->Q ⟨⟩ s2):
  ∀(l dn ks:AC) (s':AE) (n:Nat),vs=dn++l->Kp s.heap s'.heap->s'.gens=s.gens->s'.os=s.os->s'.heap.get? K=some (seqObj "list" ks.toArray n)->iD s'.heap kf ks dn->s'.heap.get? a=some oa ->
   wpAny (model prog w) A (forIn l PUnit.unit λx _=>do
    match <-(call (.ref g) [x]).attempt with
    | .ok k=>do
     Builtin.List.listUpdate (.ref K) (·.push k)
     pure (ForInStep.yield PUnit.unit)
    | .error e=>er e) Q E s'
 | [],dn,ks,s',n,hv,h1,h2,h3,h4,h5,h6=>by
  rw[sM]at hv;subst hv;rw[List.forIn_nil];exact mf (q s' ks n h1 h2 h3 h4 h5 h6)
 | x::l,dn,ks,s',n,hv,h1,h2,h3,h4,h5,h6=>by
  rw[List.forIn_cons];refine lP (lP (vo (hc _ s' x _ (by rw[hv];simp) h1 h2 h3 λs2 k k1 k2 k3 k4=>?_)));have Aq:ks.length<vs.length:=by rw[h5.1,hv];simp
  have hK2:=k1 _ _ h4;refine lP (listUpdate_at hK2 rfl (mf ?_) (hsz:=by rw[nP];lia) (hsz2:=by rw[Array.size_push,nP];lia));dsimp only;have sb:=pZ s2.heap K (Obj.mapSeq λz=>z.push k);refine Fq hc hK0 ha0 hN q l (dn++[x]) (ks++[k]) _ _ (by rw[hv];simp) ?_ (k2.trans h2) (k3.trans h3) (by have:=get?_update_seq hK2 (λz=>z.push k);rw[List.push_toArray]at this;exact this) ?_ ?_
  .intro b o hb;refine(sb.2 b ?_).trans (k1 b o (h1 b o hb));rintro rfl;rw[hK0]at hb;cases hb
  .refine⟨by simp[h5.1],λi k' v' e1 e2=>?_⟩;by_cases hi:i<ks.length
   .rw[py hi]at e1;rw[py (by rw[<-h5.1];exact hi)]at e2;exact((h5.2 i k' v' e1 e2).kp k1).up hK2
   .have hi2:i=ks.length:=by have:=(mX.mp e1).1;simp at this;lia
    subst hi2;rw[qu (mC _),tU]at e1;rw[h5.1,qu (mC _),tU]at e2;cases e1;cases e2;exact k4.up hK2
  .exact(sb.2 a ha0).trans (k1 a oa h6)
end
section
def Ca (hk:iD h kf ks vs){p:Keyed}(hp:p∈ks.zip vs):fZ h p.1=kf p.2/\∃n c,rh h p.1 n c:=by
 obtain⟨i,hi,rfl⟩:=qS hp;rw[List.length_zip]at hi;have h1:i<ks.length:=by lia
 have h2:i<vs.length:=by lia
 have:=hk.2 i ks[i] vs[i] (mT h1) (mT h2);rw[List.getElem_zip];exact⟨this.key,_,_,this⟩
def Zil (hc:ij (model prog w) A g vs kf s0)(hb:Kp s0.heap s.heap)(hg:s.gens=s0.gens)(hos:s.os=s0.os)(ha0:s0.heap.get? a=none)
  (ho:s.heap.get? a=some (seqObj "list" vs.toArray n)) (hN:vs.length<=sizeLine)
  (h:∀(s':AE) (us:AC) (e:Nat),Kp s0.heap s'.heap->s'.gens=s0.gens->s'.os=s0.os->s'.heap.get? a=some (seqObj "list" us.toArray e)->us.Perm vs->us.Pairwise (λx y=>qG (kf y) (kf x)=false)->P (.done (.ret .none)) s'):
  wpAny (model prog w) A (Builtin.«list.sort» ⟨[.ref a],[(Str.ofString "key",.ref g)]⟩) P E s:=by
 have A0:a<s.heap.objs.size:=mL ho;have up:=get?_update_seq ho (λ_=>#[]);generalize hep:(if (#[]:Array Value).size == vs.toArray.size then n else n+1)=ep at up;obtain⟨h1,hh1⟩:∃h1,h1=s.heap.update a (Obj.mapSeq λ_=>#[]):=⟨_,rfl⟩;have k1:Kp s0.heap h1:=by
  intro b o q;rw[hh1,(pZ s.heap a _).2 b ?_]
  .exact hb b o q
  .rintro rfl;rw[ha0]at q;cases q
 rw[<-hh1]at up;obtain⟨K,hK⟩:∃K,K=(h1.push (seqObj "tuple" vs.toArray 0)).objs.size:=⟨_,rfl⟩;obtain⟨h3,hh3⟩:∃h3,h3=(h1.push (seqObj "tuple" vs.toArray 0)).push (seqObj "list" #[] 0):=⟨_,rfl⟩;have k3:Kp h1 h3:=λb o q=>by rw[hh3];exact mR _ (mR _ q)
 have oK:h3.get? K=some (seqObj "list" #[] 0):=by rw[hh3,hK];exact nV _ rfl
 have nK:s0.heap.get? K=none:=by
  cases z:s0.heap.get? K with
  | none=>rfl
  | some o=>
   have:=mL (k1 _ _ z);rw[hK,size_push']at this;exact IG this (Nat.not_lt.mpr (sw _))
 have aK:a≠K:=by rintro rfl;have h8:=mL up;rw[hK,size_push']at h8;exact IG h8 (Nat.not_lt.mpr (sw _))
 subst hK;rw[Zim];refine lP (listItems_at ho rfl (lP (listUpdate_at ho rfl ?_ (hsz:=by rw[nP];exact hN))));rw[<-hh1];refine lP (seqEpoch_at up rfl (lP (wpAny_newTuple (lP (wpAny_newList (pU ?_))))));refine lP (rG ?_);rw[List.forIn_toArray];show wpAny _ _ _ _ _ { s with heap:=(h1.push (seqObj "tuple" vs.toArray 0)).push (seqObj "list" #[] 0) };rw[<-hh3];refine lP (Fq hc nK aK hN ?_ vs [] [] { s with heap:=h3 } 0 rfl (λb o q=>k3 b o (k1 b o q)) hg hos oK ⟨rfl,λi k v e _=>by simp at e⟩ (k3 a _ up));intro s2 ks m j1 j2 j3 j4 j5 j6;dsimp only;refine lP (listItems_at j4 rfl ?_);have fin:∀v:SortSt,failedOf v=none->((arrOf v).map (·.2)).toList.Perm vs->((arrOf v).map (·.2)).toList.Pairwise (λx y=>qG (kf y) (kf x)=false) ->
   wpAny (model prog w) A (do
    Builtin.List.listUpdate (.ref (h1.push (seqObj "tuple" vs.toArray 0)).objs.size) λ_=>#[]
    letGo ((arrOf v).map (·.1)).toList (failedOf v).toList
    let tch:=(<-seqEpoch a) != ep
    Builtin.List.listUpdate (.ref a) λ_=>(arrOf v).map (·.2)
    if let some e:=failedOf v then rule "list.sort.comparison-raised";throw e
    if tch then rule "list.sort.modified";raiseError "ValueError" "list modified during sort"
    ret .none) P E s2:=by
  intro v f1 f2 f3;have hl:=j5.1;refine lP (listUpdate_at j4 rfl (lP (wpAny_letGo ?_)) (hsz:=by rw[nP];lia));have sb:=pZ s2.heap (h1.push (seqObj "tuple" vs.toArray 0)).objs.size (Obj.mapSeq λ_=>#[]);have a1:(s2.heap.update (h1.push (seqObj "tuple" vs.toArray 0)).objs.size (Obj.mapSeq λ_=>#[])).get? a=some (seqObj "list" #[] ep):=(sb.2 a aK).trans j6;refine lP (seqEpoch_at a1 rfl (lP (listUpdate_at a1 rfl ?_ (hsz2:=by
   have:=f2.length_eq;rw[oB]at this
   lia))))
  rw[f1,bne_self_eq_false];obtain⟨out,hout⟩:∃out,out=(arrOf v).map (·.2):=⟨_,rfl⟩;rw[<-hout]at f2 f3 ⊢;have a2:=get?_update_seq a1 (λ_=>out);generalize (if out.size == (#[]:Array Value).size then ep else ep+1)=e5 at a2;have e3:out.toList.toArray=out:=Br;refine mf (h _ out.toList e5 ?_ j2 j3 (by rw[e3];exact a2) f2 f3);intro b o q;refine((pZ _ a _).2 b ?_).trans ((sb.2 b ?_).trans (j1 b o q))
  .rintro rfl;rw[ha0]at q;cases q
  .rintro rfl;rw[nK]at q;cases q
 have zs:(ks.toArray.zip vs.toArray)=(ks.zip vs).toArray:=by simp
 have zm:((ks.zip vs).map (·.2))=vs:=List.map_snd_zip (by rw[j5.1];exact mC _);by_cases h2:vs.toArray.size<2
 .rw[lU h2,lU h2];refine lP (mf ?_);rw[StateT.run_pure];refine lP (mf ?_);refine fin (SortSt.mk' general' (ks.toArray.zip vs.toArray) #[] 7 none) rfl ?_ ?_
  .show ((ks.toArray.zip vs.toArray).map (·.2)).toList.Perm vs;rw[zs,Array.toList_map,zm]
  .show ((ks.toArray.zip vs.toArray).map (·.2)).toList.Pairwise _;rw[zs,Array.toList_map,zm]
   match vs,h2 with
   | [],_=>exact List.Pairwise.nil
   | [x],_=>exact List.pairwise_singleton _ _
   | _::_::_,h2=>simp at h2;lia
 .rw[lT h2,lT h2];have hne:ks≠[]:=by intro e;have:=j5.1;rw[e]at this;rw[nP,<-this]at h2;simp at h2
  refine lP (Zg6 (λv hv=>?_) hne ?_)
  .obtain⟨i,hi,rfl⟩:=qS hv;have h2:i<vs.length:=by rw[<-j5.1];exact hi
   exact⟨_,_,j5.2 i ks[i] vs[i] (mT hi) (mT h2)⟩
  .refine lP (pG (Fw (a0:=ks.zip vs) (st:=SortSt.mk' (tuples' true) (ks.toArray.zip vs.toArray) #[] 7 none) (Q:=λ_ v=>(arrOf v).toList.Perm (ks.zip vs)/\(arrOf v).toList.Pairwise (Le (wg s2.heap))/\failedOf v=none)
    (Zno _) Zlj (λu hu=>(Ca j5 hu).2) rfl rfl rfl (by show (ks.toArray.zip vs.toArray).toList=_;rw[zs]) λv p1 p2 p3=>⟨p1,p2,p3⟩) ?_ λ_ _ e=>e)
   rintro⟨⟨⟩,v⟩ s3 ⟨rfl,p1,p2,p3⟩;refine fin v p3 ?_ ?_
   .rw[Array.toList_map];have:=p1.map (λp:Keyed=>p.2);rw[zm]at this;exact this
   .rw[Array.toList_map,tV];refine p2.imp_of_mem λ{x y} hx hy e=>?_;have e1:=(Ca j5 (p1.mem_iff.mp hx)).1;have e2:=(Ca j5 (p1.mem_iff.mp hy)).1;have e':qG (fZ s3.heap y.1) (fZ s3.heap x.1)=false:=e;rw[e1,e2]at e';exact e'
end
noncomputable def Cz:Value->Int×lN
 | .str x _=>((x.length:Nat),x.cps.toList)
 | _=>(0,[])
abbrev xQ (x:Str)(p1 p2 p3 p4 p5:Pos)(k:Nat):Expr:=.Tuple [.Call (.Name "len" p1) [.Name x p2] [] p3,.Name x p4] k p5
structure jr (scope:Scope)(x:Str):Prop where
 kind:scope.kind=.function
 co:scope.isCoroutine=false
 gen:scope.isGenerator=false
 loc:scope.names.lookup x=some .local
 glb:scope.names.lookup ("len":Str)=some .globalImplicit
 nodbg:(x == ("__debug__":Str))=false
section
def ZkC (f:Str->Option NameKind){x:Str}{v:Value}(h:f x=some .local):bindL f [(x,v)] (λ_=>none) x=some v:=by unfold bindL bindL;rw[lU h,lU rfl]
def Znt 
  (ho:s.heap.get? g=some o) (hod:o.data=.func (kla_fn name qual params (xQ x p1 p2 p3 p4 p5 k) scope [] pm cv ctv)) (hcd:s.heap.CodeRec cv qual) (S:jr scope x)
  (hb:∀(s:AE) (u:Value),BindsTo s (kla_fn name qual params (xQ x p1 p2 p3 p4 p5 k) scope [] pm cv ctv) ⟨[u],[]⟩ [(x,u)]) (hroom:A.depth<recursionLimit) (hlim:s.heap.NoLimit)
  (hg:s.heap.Ns mainGlobals mg) (hgl:mg "len"=none) (hbn:s.heap.Ns builtinsNs mb) (hbb:mb "len"=bootBuiltins "len") (hv:∀v∈vs,∃y t,v=.str y t/\y.length<=sizeLine):ij (model prog w) A g vs Cz s:=by
 intro E s' v Q hvm hk hgen hos q;obtain⟨y,t,rfl,hy⟩:=hv v hvm;have hs:sizeLine=16777216:=sizeLine_eq;refine tE (PySem.W.kla_callFunE hroom (hk _ _ ho) hod S.co S.gen rfl (let ⟨c,oc,ws,tq,e1,e2,r⟩:=hcd;⟨c,oc,ws,tq,e1,hk _ _ e2,r⟩) (hb _ _ _ _ _ _ ?_));refine wpAny_newFunctionEnv_cells S.kind (λz hz=>.inl (by rw[mU.mp hz];exact S.loc)) λenv he s1 X=>?_;refine⟨(hlim.keeps hk).keeps X.toInCall.keep,PySem.W.kla_codeExpr ?_⟩;subst he;obtain⟨h1,tk1,e1⟩:=X.toInCall.same;have kp1:Kp s'.heap s1.heap:=X.toInCall.keep;have lnm:∀(pp:Pos) (B:AH) (E2:mY) (s2:AE) (Q2:mY),Kp s1.heap s2.heap->Q2 (.str y t) s2->wpAny (model prog w) B (eval (.Name x pp) (newEnv scope s'.heap.objs.size mainGlobals (cellsFrom (s'.heap.objs.size+1) scope.names []) (qual++".<locals>.") (some g) cv none builtinsNs)) Q2 E2 s2:=λpp B E2 s2 Q2 k2 q2=>
  wpAny_Name (wpAny_loadName_local S.kind S.loc (X.toInCall.ns.keeps k2) (by exact ZkC _ S.loc) q2) S.nodbg
 refine wpAny_Tuple_spliced ?_;show wpAny _ _ (spliced ((false,eval (.Call (.Name "len" p1) [.Name x p2] [] p3) _)::backTo p5 (starEach [.Name x p4] _))) _ _ s1;refine uj ?_;refine vn (Calls.Name_function_global S.kind S.glb (Calls.loadGlobal_builtin (v:=.builtin "len") (show s1.heap.Ns mainGlobals mg from(hg.keeps hk).keeps kp1) hgl (show s1.heap.Ns builtinsNs mb from(hbn.keeps hk).keeps kp1) (hbb.trans rfl) ?_) ⋯);refine Ce ?_ rfl rfl;show wpAny _ _ (spliced ((false,eval (.Name x p2) _)::backTo p3 (starEach [] _))) _ _ s1;refine uj (lnm p2 _ _ _ _ (λ_ _ e=>e) (vD ?_));refine len_str ∅ ?_;show wpAny _ _ (spliced ((false,eval (.Name x p4) _)::backTo p5 (starEach [] _))) _ _ _;refine uj (lnm p4 _ _ _ _ (λ_ _ e=>e) (vD ?_));refine⟨by rw[hs];show 2<=16777216;decide,?_⟩;rw[e1];refine q _ _ (λb o e=>mR _ (by have:=kp1 b o e;rw[e1]at this;exact this)) rfl rfl ⟨_,_,_,_,_,rfl,nV _ rfl,rfl⟩
end
def Zeo (a v:Value):argsOk "sorted" ⟨[a],[(Str.ofString "key",v)]⟩:=by unfold argsOk;kernel_rfl
def Zdb (a v:Value):argsOk "list.sort" ⟨[a],[(Str.ofString "key",v)]⟩:=by unfold argsOk;kernel_rfl
section
def ZgO (eo:s.heap.get? a=some (seqObj "list" its.toArray n)) (hc:ij (model prog w) A.in1.in1 g its kf s) (hN:its.length<=sizeLine)
  (h:∀(s':AE) (r:AD) (us:AC) (e:Nat),s.heap.get? r=none->Kp s.heap s'.heap->s'.gens=s.gens->s'.os=s.os->s'.heap.get? r=some (seqObj "list" us.toArray e)->us.Perm its->us.Pairwise (λx y=>qG (kf y) (kf x)=false)->Q (.ref r) s'):
  wpAny (model prog w) A (call (.builtin "sorted") [.ref a] [(Str.ofString "key",.ref g)]) Q E s:=by
 refine call_function_entry_kw kind_sorted plain_sorted entry_sorted (Zeo _ _) ?_;unfold Builtin.«sorted»;refine lP (m:=checkCount "sorted" 1 1 _) (mf ?_);refine lP (collect_list (y9 eo) ?_ hN);have sb:=pZ (s.heap.push (seqObj "list" #[] 0)) s.heap.objs.size (Obj.mapSeq (·++its.toArray));have k1:Kp s.heap ((s.heap.push (seqObj "list" #[] 0)).update s.heap.objs.size (Obj.mapSeq (·++its.toArray))):=λb o e=>(sb.2 b (nM (mL e))).trans (mR _ e);generalize ((s.heap.push (seqObj "list" #[] 0)).update s.heap.objs.size (Obj.mapSeq (·++its.toArray)))=g1 at k1 ⊢;have nw:s.heap.get? g1.objs.size=none:=by
  cases z:s.heap.get? g1.objs.size with
  | none=>rfl
  | some o=>exact IG (mL (k1 _ _ z)) (o4 _)
 refine lP (wpAny_newList ?_ hN);have hoL:(g1.push (seqObj "list" its.toArray 0)).get? g1.objs.size=some (seqObj "list" its.toArray 0):=nV _ rfl;refine lP (pU (wpAny_call_entry_kw slot_list_sort ⟨_,hoL,rfl⟩ entry_list_sort (Zil (s0:=s) hc (λb o e=>mR _ (k1 b o e)) rfl rfl nw hoL hN λs' us e k2 e1 e2 e3 e4 e5=>⟨_,rfl,?_⟩) (Zdb _ _)));exact mf ⟨_,rfl,h s' _ us e nw k2 e1 e2 e3 e4 e5⟩
end
end L2
namespace L2
open PySem PySem.Spec PyProof.Rows PySem.W
def sT:HO->Bool
 | .tbl _=>true
 | _=>false
def fQ (H H':Hp):Prop:=∀b o,H b=some o->sT o=false->H' b=some o
def fQ.refl (H:Hp):fQ H H:=λ_ _ e _=>e
def fQ.trans (a:fQ H H1)(b:fQ H1 H2):fQ H H2:=λc o e n=>b c o (a c o e n) n
def e8.l (s:e8 H H'):fQ H H':=λb o e _=>s b o e
def uu (c:AD)(q:Str):HO:=.ext λh=>h.CodeRec (.ref c) q
def ZlM (x:h.CodeRec (.ref c) q):fJ P w H h c (uu c q):=by obtain⟨c',o,vs,t,e,e1,r⟩:=id x;cases e;refine⟨x,⟨o,e1⟩,λh1 h2 x1 k=>?_⟩;obtain⟨c',o,vs,t,e,e1,r⟩:=x1;cases e;exact⟨c,o,vs,t,rfl,k _ e1,r⟩
def ge (H:Hp)(P:AD)(pos:Pos)(q:Str):Prop:=∃ps,H P=some (.tbl ps)/\TriplesOk ps.toList/\(codeAmong pos ps.toList=none\/∃c,codeAmong pos ps.toList=some (.ref c)/\H c=some (uu c q))
def ge.same (t:ge H P pos q)(s:e8 H H'):ge H' P pos q:=by obtain⟨ps,e,tr,h⟩:=t;exact⟨ps,s _ _ e,tr,h.imp id λ⟨c,e1,e2⟩=>⟨c,e1,s _ _ e2⟩⟩
def lK (h:H P=some (.tbl #[])):ge H P pos q:=⟨#[],h,trivial,.inl rfl⟩
def Zel {pos pos':Pos}{c:Value}(hne:pos'.line≠pos.line\/pos'.col≠pos.col)(l:AC)(h:TriplesOk l):codeAmong pos' (l++[rawInt pos.line,rawInt pos.col,c])=codeAmong pos' l:=by
 fun_induction TriplesOk l with
 | case1=>
  simp only[List.nil_append,codeAmong,rawInt];rw[lT];intro z;simp only[nY,IH]at z;rcases hne with n | n
  .exact n (by have:=z.1;lia)
  .exact n (by have:=z.2;lia)
 | case2 a t b u x f8 ih=>
  simp only[yg,codeAmong];rw[ih h]
 | case3 l h1 h2=>exact h.elim
def iy (pos:Pos)(H H':Hp):Prop:=fQ H H'/\∀(P':AD) (pos':Pos) (q':Str),(pos'.line≠pos.line\/pos'.col≠pos.col)->ge H P' pos' q'->ge H' P' pos' q'
def iy.then (s:iy pos H H1)(t:e8 H1 H2):iy pos H H2:=⟨s.1.trans t.l,λP' p' q' n T=>(s.2 P' p' q' n T).same t⟩
structure g7 (base:Heap)(mg:AB)(c P:AD):Prop where
 hd:CodeHd base c P
 bm:base.BuiltinsAt mg P
section
def lO.table (I:lO X Ao U H s)(hP:H P=some (.tbl ps))(hx:Heap.ExtBut P s.heap h')(hc:s.heap.objs.size<=c')(hr:h'.CodeRec (.ref c') q)(ht:h'.get? P=some (tabObj (ps++more))):
  lO X Ao U (upd (upd H P (.tbl (ps++more))) c' (uu c' q)) { s with heap:=h',toks:=t' }:=by
 have fc:H c'=none:=I.hok.fresh hc;have nPc:P≠c':=mM hP fc;have nt:∀ {b u},H b=some u->(∀ps,u≠.tbl ps)->b≠P:=λe n z=>by rw[z,hP]at e;exact n _ (Option.some.inj e).symm
 have nc:∀ {b u},H b=some u->b≠c':=λe=>mM e fc;have hz:∀ {b o},s.heap.get? b=some o->b≠c':=λe z=>IG (mL e) (by rw[z];exact Nat.not_lt.mpr hc);have nn:∀ {b},H b=none->b≠P:=λe z=>by rw[z,hP]at e;cases e
 refine I.call' (s':={ s with heap:=h',toks:=t' }) (ch:=[]) rfl ⟨λb o e n _ _=>hx b o (nn n) e,λb o e n _ _=>⟨o.slots,hx b o (nn n) e⟩,λb o e n _=>?_,λb o e _=>?_,λb xs e=>?_,λb o u e=>?_,λb qs e=>?_⟩ (λb u e=>?_) I.bare (λb z=>by cases z)
 .rw[lR (hz e),lR (nn n)];exact n
 .by_cases z:b=P
  .exact⟨_,by rw[z];exact ht⟩
  .exact⟨o,hx b o z e⟩
 .rw[lR (nc e),lR (nt e λ_ z=>by cases z)];exact e
 .rw[lR (nc e),lR (nt e λ_ z=>by cases z)];exact e
 .by_cases z:b=P
  .subst z;rw[hP]at e;cases e;exact⟨more,by rw[lR nPc,mq]⟩
  .exact⟨#[],by rw[lR (nc e),lR z,e];simp⟩
 .by_cases z1:b=c'
  .subst z1;rw[mq]at e;cases e;exact ZlM hr
  .rw[lR z1]at e;by_cases z2:b=P
   .subst z2;rw[mq]at e;cases e;exact ht
   .rw[lR z2]at e;refine(I.hok b u e).stay (λd v hd k=>?_) (λd k=>?_) λd xs k=>?_
    .refine hx d v ?_ k;rcases hd with rfl | hd
     .exact z2
     .exact nt hd λ_ z=>by cases z
    .rw[lR (nc k),lR (nt k λ_ z=>by cases z)];exact k
    .rw[lR (nc k),lR (nt k λ_ z=>by cases z)];exact k
def Zj1 (I:lO X Ao U H s)(L:g7 X.base X.mg c P)(hcode:X.env.code=.ref c)(hcl:closureFor scope X.env=pure clos)(hdef:defaultsOf params X.env=([],[]))
  (hq:X.env.qual++"<lambda>"=q) (T:ge H P pos q)
  (h:∀(H1:Hp) (h':Heap) (tk:Nat) (c':AD) (ctv:Value),iy pos H H1->ge H1 P pos q->(∀b,H1 b=none->H b=none)->lO X Ao U H1 { s with heap:=h',toks:=tk }->h'.CodeRec (.ref c') q->H1 c'=some (uu c' q)->Q (.ref h'.objs.size) { s with heap:=h'.push (kla_obj "<lambda>" q params body scope clos ((X.mg "__name__").getD .none) c' ctv),toks:=tk }):
  wpAny (model X.prog X.w) X.A (eval (.Lambda params body scope pos) X.env) Q E s:=by
 obtain⟨ps,hP,tr,hc⟩:=T;have gP:s.heap.get? P=some (tabObj ps):=I.hok P _ hP;have C:CodeHd s.heap c P:=L.hd.keeps I.bk;have hg:s.heap.Ns mainGlobals X.mg:=I.mod.glob.keeps I.bk;have hgP:mainGlobals≠P:=λz=>by obtain⟨o,es,ep,e,hd,_⟩:=hg;rw[z,gP]at e;cases e;cases hd
 have hbm:s.heap.BuiltinsAt X.mg P:=let ⟨bm,o,a1,a2,a3,a4,a5,r⟩:=L.bm;⟨bm,o,a1,a2,a3,a4,I.bk _ _ a5,r⟩;refine kla_eval hdef ?_;rw[hq];rcases hc with hn | ⟨c',hf,hc'⟩
 .refine kla_makeFunction hcl I.ok.glob hg hcode C gP tr hn hgP hbm λc' ctv h' tk hx hge A0 hrec htab=>?_;have fc:H c'=none:=I.hok.fresh hge;have J:=I.table (t':=tk) hP hx hge hrec htab;have nPc:P≠c':=mM hP fc;have el:(ps++#[rawInt pos.line,rawInt pos.col,Value.ref c']).toList=ps.toList++[rawInt pos.line,rawInt pos.col,.ref c']:=by simp
  refine h _ _ _ c' ctv ⟨λb o e n=>?_,λP' pos' q' hne T'=>?_⟩ ⟨_,by rw[lR nPc,mq],by rw[el];exact TriplesOk_snoc _ _ _ _ tr,.inr ⟨c',by rw[el];exact codeAmong_snoc _ tr hn,mq⟩⟩ (λb e=>?_) J hrec mq
  .rw[lR (mM e fc),lR (λz=>by rw[z,hP]at e;cases e;cases n)];exact e
  .obtain⟨ps',e1,t1,h1⟩:=T';have keep:∀d,H d=some (uu d q')->upd (upd H P (.tbl (ps++#[rawInt pos.line,rawInt pos.col,Value.ref c']))) c' (uu c' q) d=some (uu d q'):=λd e=>by rw[lR (mM e fc),lR (λz=>by rw[z,hP]at e;cases e)];exact e
   by_cases z:P'=P
   .subst z;rw[hP]at e1;cases e1;refine⟨_,by rw[lR nPc,mq],by rw[el];exact TriplesOk_snoc _ _ _ _ tr,?_⟩;rw[el,Zel hne _ tr];exact h1.imp id λ⟨d,f1,f2⟩=>⟨d,f1,keep d f2⟩
   .exact⟨ps',by rw[lR (mM e1 fc),lR z];exact e1,t1,h1.imp id λ⟨d,f1,f2⟩=>⟨d,f1,keep d f2⟩⟩
  .by_cases z1:b=c'
   .rw[z1];exact fc
   .rw[lR z1]at e;by_cases z2:b=P
    .rw[z2,mq]at e;cases e
    .rw[lR z2]at e;exact e
 .refine kla_makeFunctionHit hcl I.ok.glob hg hcode C gP tr hf hbm λctv h' tk hk hsz=>?_;have hrec:s.heap.CodeRec (.ref c') q:=(I.hok c' _ hc').1;exact h H _ _ c' ctv ⟨fQ.refl _,λ_ _ _ _ T=>T⟩ ⟨ps,hP,tr,.inr ⟨c',hf,hc'⟩⟩ (λb e=>e) (I.kept (t':=tk) hk) (hrec.keeps hk) hc'
def Zj2 (I:lO X Ao U H s)(L:g7 X.base X.mg c P)(hcode:X.env.code=.ref c)(hcl:closureFor scope X.env=pure [])(hdef:defaultsOf params X.env=([],[]))
  (hq:X.env.qual++"<lambda>"=q) (T:ge H P pos q)
  (h:∀(g:AD) (H1:Hp) (s1:AE) (cv ctv pm:Value),iy pos H H1->ge H1 P pos q->(∀b,H1 b=none->H b=none)->lO X Ao U H1 s1->s1.heap.get? g=some { cls:=.type "function",data:=.func (kla_fn "<lambda>" q params body scope [] pm cv ctv) }->s1.heap.CodeRec cv q->Q (.ref g) s1):
  wpAny (model X.prog X.w) X.A (eval (.Lambda params body scope pos) X.env) Q E s:=
 Zj1 I L hcode hcl hdef hq T λH1 h' tk c' ctv st t1 fr J hrec _=>h _ H1 _ (.ref c') ctv _ st t1 fr (J.kept (t':=tk) λb o e=>mR _ e) (nV _ rfl) (hrec.push _)
end
def ZiU:bootBuiltins "sorted"=some (.builtin "sorted"):=rfl
noncomputable def qX:Value->lN
 | .str x _=>x.cps.toList
 | _=>[]
theorem D0:∀ {ws:lX} {us:AC},fi (ws.map tx) us->ws=us.map qX/\(∀v∈us,∃y t,v=.str y t/\y.length=(qX v).length)
 | [],_,.nil=>⟨rfl,λv hv=>by cases hv⟩
 | w::ws,_,.cons ⟨t,e⟩ r=>by
  obtain⟨h1,h2⟩:=D0 (ws:=ws) r;subst e;refine⟨by rw[oP,<-h1];simp[qX],λv hv=>?_⟩;rcases m6.mp hv with rfl | hv
  .exact⟨_,t,rfl,by simp[qX,Str.length]⟩
  .exact h2 v hv
theorem Ii:∀(us:AC),(∀v∈us,∃y t,v=.str y t)->fi ((us.map qX).map tx) us
 | [],_=>.nil
 | v::us,h=>by obtain⟨y,t,rfl⟩:=h v o7;exact .cons ⟨t,by simp[qX]⟩ (Ii us λu hu=>h u (oV _ hu))
def F6 (P:AD)(lpos:Pos)(q:Str)(ta:TA):TE:=λU H Q=>ta U H λvs H1=>∃(a:AD) (ws:lX),vs=[.ref a]/\H1 a=some (.lst (ws.map tx))/\(∀w∈ws,w.length<=sizeLine)/\ge H1 P lpos q /\
 ∀(ws':lX) (r:AD) (H2:Hp),ws'.Perm ws->ws'.Pairwise (λa b=>¬gn b a)->iy lpos H1 H2->ge H2 P lpos q->H1 r=none->H2 r=some (.lst (ws'.map tx))->Q (.ref r) H2
def Znp:qG ((b.length:Nat),b) ((a.length:Nat),a)=false↔¬gn b a:=by
 rw[rE,Ne,BO];unfold gn;dsimp only;have e1:((b.length:Int)<(a.length:Int))↔b.length<a.length:=by lia
 have e2:((b.length:Int)=(a.length:Int))↔b.length=a.length:=by lia
 rw[e1,e2]
section
def Zk3 (hr:fX k X.A) (L:g7 X.base X.mg c P) (hcode:X.env.code=.ref c) (hg:Gl X "sorted") (hm:X.mg "sorted"=none) (Aq:X.mg "len"=none) (ha:PA X [e] ta) (hcl:closureFor scope X.env=pure []) (hdef:defaultsOf params X.env=([],[])) (hq:X.env.qual++"<lambda>"=q)
  (S:jr scope x) (hb:∀(s:AE) (u pm cv ctv:Value),BindsTo s (kla_fn "<lambda>" q params (xQ x p1 p2 p3 p4 p5 kk) scope [] pm cv ctv) ⟨[u],[]⟩ [(x,u)])
  (he:backTo pos (starEach [e] X.env)=(false,eval e X.env)::backTo pos (starEach [] X.env):=by rfl) (hpl:(backTo pos (starEach [e] X.env)).any (·.1)=false:=by rfl):
  PE X (.Call (.Name "sorted" p) [e] [⟨some "key",.Lambda params (xQ x p1 p2 p3 p4 p5 kk) scope lpos,kpos⟩] pos) (F6 P lpos q ta):=by
 intro Ao s U H Q I h;refine vn (vV I hg hm ZiU ?_);refine PyProof.Rows.callWith_kw (mB (ha pos Ao s U H _ I h) λus s1 zz=>?_) he hpl;obtain⟨vs,H1,I1,r1,q1⟩:=zz;obtain⟨a,ws,rfl,hH,hw,T,q⟩:=q1;show wpAny _ _ (evalAll ((do let v <-eval (.Lambda params (xQ x p1 p2 p3 p4 p5 kk) scope lpos) X.env;standAt pos;pure v)::[])) _ _ s1;refine wpAny_evalAll_cons (lP (Zj2 I1 L hcode hcl hdef hq T λg H2 s2 cv ctv pm sl T2 fr I2 ho hcd=>lP (wpAny_standAt (mf (wpAny_evalAll_nil ?_)))));obtain⟨u,rfl,ru⟩:=r1.one;cases ru;have hH2:=sl.1 _ _ hH rfl;obtain⟨hz,its,n,r,hlen',eo⟩:=I2.lstM hH2;obtain⟨ew,hs⟩:=D0 r;have hN:its.length<=sizeLine:=by rw[<-r.length];exact hz
 obtain⟨mb,b1,b2⟩:=I2.mod.blt;have key:=Znt (prog:=X.prog) (w:=X.w) (A:=X.A.in1.in1) (vs:=its) ho rfl hcd S (λs u=>hb s u pm cv ctv) (show X.A.depth<recursionLimit by have:=hr.dp;lia) (I2.mod.nolimit.keeps I2.bk) (I2.mod.glob.keeps I2.bk) Aq (b1.keeps I2.bk) (b2 _ ⋯) (λv hv=>by obtain⟨y,t,e1,e2⟩:=hs v hv;exact⟨y,t,e1,by rw[e2];exact hw _ (by rw[ew];exact tS hv)⟩)
 refine ZgO eo key hN λs' r' us e nr kp g1 o1 er pm2 pw=>?_;have hs2:∀v∈us,∃y t,v=.str y t/\y.length=(qX v).length:=λv hv=>hs v (pm2.mem_iff.mp hv);have rv:fi ((us.map qX).map tx) us:=Ii us λv hv=>let ⟨y,t,e,_⟩:=hs2 v hv;⟨y,t,e⟩;have hl2:us.length=its.length:=pm2.length_eq;have fr':H1 r'=none:=fr _ (I2.hok.none_of nr);have J:=I2.laid2 (s':=s') (a:=r') (o:=.lst ((us.map qX).map tx)) o1 g1 kp nr ⟨by rw[lZ,lZ];lia,us,e,rv,er⟩;have hr2:=I2.hok.none_of nr;refine⟨.ref r',_,J,rfl,q (us.map qX) r' _ (by rw[ew];exact pm2.map _) ?_ (sl.then (oR hr2)) (T2.same (oR hr2)) fr' mq⟩;rw[tV];refine pw.imp_of_mem λ{y z} hy hz e=>?_;rw[<-Znp];obtain⟨y1,t1,e1,e2⟩:=hs2 y hy;obtain⟨z1,t2,e3,e4⟩:=hs2 z hz;subst e1 e3;have f1:Cz (.str y1 t1)=((((qX (.str y1 t1)).length:Nat):Int),qX (.str y1 t1)):=by rw[<-e2];rfl
 have f2:Cz (.str z1 t2)=((((qX (.str z1 t2)).length:Nat):Int),qX (.str z1 t2)):=by rw[<-e4];rfl
 rw[f1,f2]at e;exact e
end
def ET (o:Obj):Bool:=match o.cls,o.data with
 | .none,.fields _=>true
 | _,_=>false
def zO (K:Frag):Bool:=K.all λp=>!ET p.2
def Zf4 {K:Frag}(h:zO K=true){b:AD}{o:Obj}(e:K.lookup b=some o):ET o=false:=by
 unfold zO at h;rw[qE]at h;have:∀(l:AA),l.lookup b=some o->(b,o)∈l:=λl=>by
  induction l with
  | nil=>intro e;cases e
  | cons q r ih=>
   intro e;obtain⟨b',o'⟩:=q;rw[sR]at e;by_cases z:b=b'
   .subst z;simp at e;subst e;exact o7
   .have z':(b == b')=false:=by simpa using z
    rw[z']at e;exact oV _ (ih e)
 have:=h _ (this K e);simpa using this
structure iF (mg:AB)(h:Heap)(n:Str)(c P:AD):Prop where
 fn:∃a o fd,mg n=some (.ref a)/\h.get? a=some o/\o.data=.func fd/\fd.code=.ref c
 code:h.IsCode c P #[]
 tab:h.TableAt c P #[]
def iF.codeEq (t:iF mg h n c P)(e1:mg n=some (.ref a))(e2:h.get? a=some o)(e3:o.data=.func fd):fd.code=.ref c:=by obtain⟨a',o',fd',f1,f2,f3,f4⟩:=t.fn;rw[e1]at f1;cases f1;rw[e2]at f2;cases f2;rw[e3]at f3;cases f3;exact f4
def Zj0 {P:AG}{w:AI}{K:ma}{mg mb:AB}{CX:sC}{k:Nat}{fa a:AD}{fd:AF}{x:Str}{sp:Sp}{s_1:AE}{vs:AC}{ns:List Int}{nms:AJ}{tb:Str->AD×AD}
  (KX:K.In s_1.heap) (hns:s_1.heap.Ns mainGlobals mg) (hb:s_1.heap.Ns builtinsNs mb) (hbb:∀x:Str,x≠"__name__"->mb x=bootBuiltins x) (hlim:s_1.heap.NoLimit) (hg:s_1.gens=#[])
  (ha:s_1.heap.get? a=some { cls:=.type "list",data:=.seq vs.toArray }) (hi:IntsAre vs ns) (hl:ns.length<=sizeLine) (hr:fX k callerA)
  (hT:∀n∈nms,iF mg s_1.heap n (tb n).1 (tb n).2) (hKt:zO K=true) (hbm:∃bm ob,mg "__builtins__"=some (.ref bm)/\bm≠builtinsNs/\s_1.heap.get? bm=some ob/\ob.cls=.type "module"/\ob.dict=some builtinsNs/\ob.data=.plain)
  (F:∀base:Heap,K.In base->base.Ns mainGlobals mg->(∀n∈nms,g7 base mg (tb n).1 (tb n).2)->fB P w K mg base CX k fa fd [x] sp) (hbind:∀(s:AE) (u:Value),BindsTo s fd ⟨[u],[]⟩ [(x,u)])
  (hsp:∀H:Hp,(∀n∈nms,H (tb n).2=some (.tbl #[]))->m8 K H a (ns.map V.int)->sp [.ref a] H (λv _=>v=.bl true) λ_ _ _=>False)
  (hCX:∀H e s',CX [] H s_1 (λ_ _ _=>False) e s'->False):
  codeAny (model P w) callerA (.call (.ref fa) ⟨[.ref a],[]⟩) (λr s'=>r=.ok (.ret (.bool true))/\OldK s_1.heap s'.heap/\s'.os=s_1.os/\AllBare s'.gens) s_1:=by
 have rv:=HU hi;have lenV:=hi.length;have hta:∀n∈nms,s_1.heap.get? (tb n).2=some (tabObj #[]):=λn hn=>(hT n hn).tab.2;have aP:∀n∈nms,(tb n).2≠a:=λn hn z=>by have e:=hta n hn;rw[z,ha]at e;have:=IF Obj.cls (Option.some.inj e);exact IG (show Value.type "list"=Value.none from this) {}
 let isP:AD->Prop:=λb=>∃n∈nms,(tb n).2=b
 have core:∀H:Hp,m8 K H a (ns.map V.int)->nZ P w H s_1.heap->(∀b,H b≠none->(b=a/\∃o xs,H b=some (.frz o (.lst xs)))\/(isP b/\H b=some (.tbl #[])))->(∀b,isP b->H b=some (.tbl #[]))->(H a≠none->K.lookup a=none) ->
   codeAny (model P w) callerA (.call (.ref fa) ⟨[.ref a],[]⟩) (λr s'=>r=.ok (.ret (.bool true))/\OldK s_1.heap s'.heap/\s'.os=s_1.os/\AllBare s'.gens) s_1:=by
  intro H hS hok hA hPt hK;have base_of:∀ {b:AD} {o:Obj},s_1.heap.get? b=some o->H b=none->(ip s_1.heap H).get? b=some o:=λe n=>Zlu e n;have noT:∀ {b:AD} {o:Obj},s_1.heap.get? b=some o->o≠tabObj #[]->o.cls≠.type "list"->H b=none:=λ{b o} e n1 n2=>by
   cases q:H b with
   | none=>rfl
   | some u=>
    rcases hA b (by rw[q];simp) with⟨e',_⟩|⟨⟨n,hn,e'⟩,_⟩
    .subst e';rw[ha]at e;cases e;exact IG rfl n2
    .subst e';rw[hta n hn]at e;cases e;exact IG rfl n1
  have noA:∀ {b:AD} {o:Obj} {es:Array DictEntry} {ep:Nat},s_1.heap.get? b=some o->o.data=.dict es ep->H b=none:=λ{b o es ep} e d=>by
   cases q:H b with
   | none=>rfl
   | some u=>
    rcases hA b (by rw[q];simp) with⟨e',_⟩|⟨⟨n,hn,e'⟩,_⟩
    .subst e';rw[ha]at e;cases e;have d':Data.seq vs.toArray _=Data.dict es ep:=d;cases d'
    .subst e';rw[hta n hn]at e;cases e;cases d
  have nsK:∀ {b:AD} {m:AB},s_1.heap.Ns b m->(ip s_1.heap H).Ns b m:=λ{b m} ⟨o,es,ep,e,d,r⟩=>⟨o,es,ep,base_of e (noA e d),d,r⟩;have hKb:K.In (ip s_1.heap H):=λb o e=>base_of (KX b o e) (by
   cases q:H b with
   | none=>rfl
   | some u=>
    rcases hA b (by rw[q];simp) with⟨e',_⟩|⟨⟨n,hn,e'⟩,_⟩
    .subst e';rw[hK (by rw[q];simp)]at e;cases e
    .subst e';have e1:=KX _ _ e;rw[hta n hn]at e1;have e2:=Zf4 hKt e;rw[<-Option.some.inj e1]at e2;cases e2)
  have hM:Mod K mg (ip s_1.heap H):=⟨hKb,nsK hns,⟨mb,nsK hb,hbb⟩,let ⟨mc,h1,h2⟩:=hlim;⟨mc,nsK h1,h2⟩⟩;have e0:iL P w K mg (ip s_1.heap H) callerA [] s_1 H:=⟨rfl,hM,λb o e=>Znk e,uO (Zke _ _),trivial,λb hb=>IG (show b∈([]:List AD) from hb) {},hok,.of_eq hg⟩;have hL:∀n∈nms,g7 (ip s_1.heap H) mg (tb n).1 (tb n).2:=λn hn=>by
   obtain⟨bm,ob,b1,b2,b3,b4,b5,b6⟩:=hbm;obtain⟨oc,vc,file,tf,flags,tg,inF,text,tt,c1,c2,c3,r⟩:=CodeHd.of (hT n hn).code (hT n hn).tab;refine⟨⟨oc,vc,file,tf,flags,tg,inF,text,tt,base_of c1 (noT c1 (λz=>by rw[z]at c2;cases c2) (λz=>by rw[c2]at z;exact IG z ⋯)),c2,c3,r⟩,bm,ob,b1,b2,λz=>?_,λz=>?_,base_of b3 (noT b3 (λz=>by rw[z]at b4;cases b4) (λz=>by rw[b4]at z;exact IG z ⋯)),b4,b5,b6⟩
   .obtain⟨o,es,ep,e,d,_⟩:=hns;rw[<-z,b3]at e;cases e;rw[b6]at d;cases d
   .rw[z,hta n hn]at b3;cases b3;cases b4
  refine codeAny_mono ((F _ hKb (nsK hns) hL).run callerA [] s_1 H ⟨[.ref a],[]⟩ [.ref a] [.ref a] _ _ hr e0 (hbind s_1 (.ref a)) (.cons rfl .nil) (hsp H (λn hn=>hPt _ ⟨n,hn,rfl⟩) hS)) λr s' h=>?_;cases r with
  | error e=>exact(hCX H e s' h).elim
  | ok fl=>
   cases fl with
   | next=>exact False.elim h
   | brk=>exact False.elim h
   | cont=>exact False.elim h
   | ret u=>
    obtain⟨v,H',os,bare,un,hok',r',q⟩:=h;have q':v=.bl true:=q;subst q';obtain rfl:u=Value.bool true:=r';refine⟨rfl,⟨λb o e=>?_,λb o e=>un.there b o e {}⟩,os,bare⟩;cases q:H b with
    | none=>exact .inl (un.keep b o e q (by intro z;exact IG (show b∈([]:List AD) from z) {}) {})
    | some u=>
     rcases hA b (by rw[q];simp) with⟨_,ob,xs,z⟩|⟨⟨n,hn,e'⟩,z⟩
     .have z2:=un.frzs b ob _ z;obtain⟨e1,_⟩:=hok b _ z;obtain⟨e2,_⟩:=hok' b _ z2;rw[e]at e1;cases e1;exact .inl e2
     .obtain⟨more,z2⟩:=un.tbls b _ z;have e1:s_1.heap.get? b=some (tabObj #[]):=hok b _ z;have e2:s'.heap.get? b=some (tabObj (#[]++more)):=hok' b _ z2;rw[e]at e1;cases e1;exact .inr (.inl ⟨by rw[<-e'];exact(hT n hn).tab.isCodeTable,rfl,#[],more,rfl,e2⟩)
 cases hk:K.lookup a with
 | some o=>
  have e:=KX a o hk;rw[ha]at e;cases e
  haveI:DecidablePred isP:=λ_=>Classical.propDecidable _
  refine core (λb=>if isP b then some (.tbl #[]) else none) (.inr ⟨_,vs.toArray,_,hk,rfl,rfl,rfl,by rw[nP,lenV];exact hl,~~~rv⟩) (λb u z=>?_) (λb z=>?_) (λb hb=>lU hb) λz=>?_
  .by_cases hb:isP b
   .have z':=(lU hb).symm.trans z;cases z';obtain⟨n,hn,rfl⟩:=hb;exact hta n hn
   .have z':=(lT hb).symm.trans z;cases z'
  .by_cases hb:isP b
   .exact .inr ⟨hb,lU hb⟩
   .exact IG (lT hb) z
  .have:¬isP a:=λ⟨n,hn,e⟩=>aP n hn e;exact IG (lT this) z
 | none=>
  haveI:DecidablePred isP:=λ_=>Classical.propDecidable _
  refine core (λb=>if b=a then some (.frz { cls:=.type "list",data:=.seq vs.toArray } (.lst (ns.map V.int))) else if isP b then some (.tbl #[]) else none) (.inl (.inr ⟨{ cls:=.type "list",data:=.seq vs.toArray },lU rfl⟩)) (λb u z=>?_) (λb z=>?_) (λb hb=>?_) λ_=>hk
  .by_cases hb:b=a
   .have z':=(lU hb).symm.trans z;cases z';subst hb;exact⟨ha,by rw[lZ];exact hl,vs,_,rv,ha⟩
   .have z':=(lT hb).symm.trans z;by_cases hp:isP b
    .have z2:=(lU hp).symm.trans z';cases z2;obtain⟨n,hn,rfl⟩:=hp;exact hta n hn
    .have z2:=(lT hp).symm.trans z';cases z2
  .by_cases hb:b=a
   .exact .inl ⟨hb,_,_,lU hb⟩
   .by_cases hp:isP b
    .exact .inr ⟨hp,by rw[lT hb,lU hp]⟩
    .exact IG (by rw[lT hb,lT hp]) z
  .have nb:b≠a:=by obtain⟨n,hn,rfl⟩:=hb;exact aP n hn
   rw[lT nb,lU hb]
def lH {l:PySem.W.OpenLaw}{n k:Nat}{q:AG}{loose:AJ}{XP:(AB)->Heap->Prop}{YP:AI->Heap->Prop}{d:DefRec}{K:Params->ma}{CX:sC}{sp:ma->(Str->AD×AD)->Sp}{x:Str}(nms:AJ)
  (hn:l.most=some n) (hn2:n<=sizeLine) (hdf:d.params.defaults=[]) (hr:fX k callerA)
  (hY:∀(w:AI) (h:Heap),YP w h->(K w.params).In h) (hKt:∀P:Params,zO (K P)=true) (hnm:(nms.all λn=>(recsOf q).any λe=>e.name == n)=true)
  (F:∀(w:AI) (mg:AB) (fa:AD) (h:Heap) (tb:Str->AD×AD),(K w.params).In h->h.Ns mainGlobals mg->mg d.name=some (.ref fa)->(∀n∈nms,iF mg h n (tb n).1 (tb n).2) ->
   ∃fd:AF,(∀(s:AE) (u:Value),BindsTo s fd ⟨[u],[]⟩ [(x,u)]) /\
    ∀base:Heap,(K w.params).In base->base.Ns mainGlobals mg->(∀n∈nms,g7 base mg (tb n).1 (tb n).2)->fB l.prog w (K w.params) mg base CX k fa fd [x] (sp (K w.params) tb))
  (hsp:∀(K:ma) (tb:Str->AD×AD) (H:Hp) (a:AD) (ns:List Int),ns.length<=n->(∀n∈nms,H (tb n).2=some (.tbl #[]))->m8 K H a (ns.map V.int)->sp K tb [.ref a] H (λv _=>v=.bl true) λ_ _ _=>False)
  (hCX:∀(H:Hp) (s:AE) (e:Value) (s':AE),CX [] H s (λ_ _ _=>False) e s'->False):
  PySem.W.WalkO q loose XP YP l.row.toRowW d [] (λf vs=>PySem.call f vs):=by
 refine Att.attach_call hn hdf λw s_0 s_1 mg mb fa o pm cd doc a vs ns G Y ho hd hcd hmg hobj hints Aq hg=>?_;have KX:=hY w _ Y;have ex:∀n:Str,∃cp:AD×AD,n∈nms->iF mg s_1.heap n cp.1 cp.2:=λn=>by
  by_cases h:n∈nms
  .rw[qE]at hnm;have:=hnm n h;rw[se]at this;obtain⟨e,he,en⟩:=this;have en:e.name=n:=by simpa using en
   obtain⟨a',o',fd',c,P,h1,h2,h3,h4,h5,h6⟩:=G.T.tab e he;exact⟨(c,P),λ_=>⟨⟨a',o',fd',by rw[<-en];exact h1,h2,h3,h4⟩,h5,h6⟩⟩
  .exact⟨(0,0),λz=>IG z h⟩
 obtain⟨tb,htb⟩:=Classical.skolem.mp ex;obtain⟨fd,hb,hF⟩:=F w mg fa _ tb KX G.T.g hmg htb;exact Zj0 KX G.T.g G.T.b G.T.builtins G.T.nolimit hg hobj hints (mO Aq hn2) hr htb (hKt _) G.T.bmain hF hb (λH hP hS=>hsp (K w.params) tb H a ns Aq hP hS) λH e s'=>hCX H s_1 e s'
section
variable {P:AG}{w:AI}{K:ma}{mg:AB}{base:Heap}
def qh.okC {x qual:Str}{st:Stmt}{f:AD}{fd:AF}{N ps:AJ}{k:Nat}{sp:Sp}{c:Value}(F:qh K x qual st f fd)(hc:fd.code=c)(S:fg N ps (pT st))
  (body:∀(A:AH) (outer:List Env) (s:AE) (H:Hp) (vs:IJ) (Q:VK) (E:XK),fX k (A.deeper (envOfC qual (pT st) s.heap.objs.size f c))->sp vs H Q E ->
   ∃t,ql (gE mS P w K mg base N qual (pT st) f c A outer s H E).nox (rP st) t/\t { nx:=λ_ H'=>Q .non H',rt:=Q } (start N vs) H)(len:∀vs H Q E,sp vs H Q E->vs.length=ps.length:=by walk_at "ln"):fB P w K mg base mS (k+1) f fd ps sp:=by
 obtain⟨⟨oc,od,kV,doc,pm,an,Ap,ct,osl,rfl,l,cc⟩,_⟩:=F;obtain rfl:Ap=c:=hc;refine BY l cc S len λA outer s H vs Q E hr hsp=>?_;obtain⟨t,h,q⟩:=body A outer s H vs Q E hr hsp;exact⟨t,h.nox,q⟩
def qh.at {x qual:Str}{st:Stmt}{f:AD}{fd:AF}{h:Heap}(F:qh K x qual st f fd)(KX:K.In h):∃o,h.get? f=some o/\o.data=.func fd:=by obtain⟨⟨oc,od,kV,doc,pm,an,Ap,ct,osl,rfl,l,cc⟩,_⟩:=F;exact⟨_,KX _ _ l,rfl⟩
end
end L2
namespace L2
open PySem PySem.Spec PyProof.Rows
open PySem.W (Frag)
def Cm:yG X "str.find" (λx vs H Q=>∃l w,x=tx l/\vs=[tx w]/\∀r:Int,((r=-1/\¬mj w l)\/∃i:Nat,r=(i:Int)/\nB l w i/\∀j,j<i->¬nB l w j)->Q (.int r) H):=by
 rintro Ao s U H x vs v us Q I rx rv ⟨l,w,rfl,rfl,q⟩;obtain⟨t,rfl⟩:=rx;obtain⟨u,rfl,t',rfl⟩:=rv.one;refine SC.find ?_;refine⟨.int _,H,I.tok _,⟨_,rfl⟩,q _ ?_⟩;rcases find_whole (⟨l.toArray⟩:Str) ⟨w.toArray⟩ with⟨h1,h2⟩|⟨i,h1,h2,h3⟩
 .exact .inl ⟨h1,λ⟨i,hi⟩=>h2 i ((yK l w i).mpr hi)⟩
 .exact .inr ⟨i,h1,(yK l w i).mp h2,λj hj hA=>h3 j hj ((yK l w j).mpr hA)⟩
section
def fk.tup {K:Frag}{a:AD}{xs:IJ}(b:Nat->Bool)(f:Nat->V)(hz:xs.length<=1000)(hx:oA K H a xs)
  (ht:∀i H' Q' (h:i<xs.length),e8 H H'->(∀H'',e8 H' H''->Q' (b i) H'')->tt (τ0.set 0 (some (xs.getD i .non))) H' Q')
  (he:∀i H' Q' (h:i<xs.length),b i=true->e8 H H'->(∀H'',e8 H' H''->Q' (f i) H'')->te (τ0.set 0 (some (xs.getD i .non))) H' Q')
  (hQ:∀p H',e8 H H'->H p=none->H' p=some (.lst (((List.range xs.length).filter b).map f))->Q (.ref p) H'):fk (BT K a) τ0 (qp 0) tt te H Q:=
 .gen (λi=>xs.getD i .non) b f hz (λi H' h s=>⟨xs,xs[i],s.seqT hx,by simp[h]⟩) (λH' s=>⟨xs,s.seqT hx,mC _⟩) (λi H' x H3 h s y=>by obtain⟨e,y⟩:=y;refine⟨e,?_⟩;rw[nN,y xs (s.seqT hx)];rfl) ht he hQ
end
section
def Gx (tk tv:TE):TE:=λU H Q=>∀p,H p=none->tk U (upd H p (.dT [])) λx H1=>tv U H1 λy H2=>∃b ks,x=.ref b/\H2 b=some (.tup (ks.map kV))/\H2 p=some (.dT [])/\Q (.ref p) (upd H2 p (.dT [(ks,y)]))
def Zjy (hu:X.A.units+1<cLine)(hk:PE X k tk)(hv:PE X v tv):PE X (.Dict [some k] [v] pos) (Gx tk tv):=by
 intro Ao s U H Q I q;have hn:=I.hok.fresh (mC s.heap.objs.size);have I1:=I.laid (a:=s.heap.objs.size) (o:=.dT []) (h':=s.heap.push { cls:=.type "dict",data:=.dict #[] }) (t':=s.toks) (λ_ _ q=>mR _ q) (mC _) (ZlE s.heap I.big);have hl:(pairTrees [some k] [v] X.env pos).length=1:=pairTrees_length _ _ _ _ rfl rfl;rw[arm_eval_Dict,zip_pairTrees [some k] [v] X.env pos rfl rfl,dictDisplay_pairs _ (by intro e;rw[e]at hl;cases hl) (by rw[hl];decide)];refine lP (wpAny_standAt (lP ?_));unfold subDict;refine lP (wpAny_alloc ?_);refine lP (pU ?_);rw[lU (by rw[hl];decide)];refine lP (pairTrees_cons_walk (mB (hk Ao _ U _ _ I1 (q _ hn)) λu s1 ⟨x,H1,I2,rx,q1⟩=>mB (hv Ao s1 U H1 _ I2 q1) λw s2 ⟨y,H2,I3,ry,b,ks,ex,hb,hp,q2⟩=>pairTrees_nil_walk ?_));subst ex;obtain rfl:u=Value.ref b:=rx;refine pU ?_;simp only[List.forIn_cons,List.forIn_nil];obtain⟨z,hd,xs,rel,dd⟩:=Eo I3.hok hp;cases rel;refine lP (lP (lP (wpAny_dictSet_heap (hsz:=nO _) ?room (uk I3.hok hb) dd λh' dd' hs=>mf (mf (mf (mf (mf ⟨.ref s.heap.objs.size,_,?inv,rfl,q2⟩)))))))
 case room=>exact Nat.lt_of_le_of_lt (sw _) hu
 case inv=>
  obtain⟨qq,es,ep,hq,h2,h3,h4,_,h5⟩:=dd';have rel2:=KT.put (k:=ks) (.nil:KT H2 [] []) hb ry;refine xu I3 (by rw[hp];exact True.intro) hs ⟨qq,hq⟩ ⟨by rw[sizeLine_eq];show (1:Nat)<=16777216;decide,hd,_,rel2.keeps λc ys ec=>?_,qq,es,ep,hq,h2,h3,h4,h5⟩;rw[lR (Ff ec hp (λz=>nomatch z))];exact ec
end
end L2
namespace L2
open PySem PySem.Spec PyProof.Rows PySem.Builtin.Str
section
end
end L2
namespace L2
open PySem PySem.Spec PyProof.Rows
section
end
section
def Zgu (I:lO X Ao U H s)(e:H a=some (.dK kvs))(ry:ft (kV k) u)(rv:ft v w)(hz:kvs.length<sizeLine)
  (h1:∀x w' s',fh kvs k=some x->ft x w'->lO X Ao U H s'->Q w' s') (h2:fh kvs k=none->∀s',lO X Ao U (upd H a (.dK (fz kvs k v))) s'->Q w s'):
  wpAny (model X.prog X.w) A (call (.builtin "dict.setdefault") [.ref a,u,w]) Q E s:=by
 obtain⟨z,hd,vs,rel,dd⟩:=wS I.hok e;refine call_meetsIn PySem.F.slot_dict_setdefault dd.typeIs PySem.F.entry_dict_setdefault (PySem.F.args_dict_setdefault_3 _ _ _) (kt_meets_setdefault (nW X.prog X.w) a (tz ry) hd w) ⟨vs,dd,by rw[<-rel.length];exact z,λx hx=>?_,λhn h' dd' hs=>?_⟩
 .have r:=rel.val k;rw[hx]at r;cases hv:fh kvs k with
  | none=>rw[hv]at r;exact(by cases r)
  | some y=>rw[hv]at r;exact h1 y x _ hv (by first | exact r | cases r;assumption) (I.tok _)
 .have r:=rel.val k;rw[hn]at r;have hv:fh kvs k=none:=by
   cases hv:fh kvs k with
   | none=>rfl
   | some y=>rw[hv]at r;exact(by cases r)
  have he:∃q,h'.get? a=some q:=let ⟨q,_,_,hq,_⟩:=dd';⟨q,hq⟩;have hl:(fz kvs k v).length<=sizeLine:=by have:=sg kvs k v;lia
  exact h2 hv _ (xu I (by rw[e];exact True.intro) hs he (yc hl hd (rel.put k rv) dd'))
def GD (td ty tx:TE):TE:=λU H Q=>td U H λx H1=>∃a,x=.ref a/\x6 H1 a/\ty U H1 λy H2=>tx U H2 λz H3=>∃kvs k,H3 a=some (.dK kvs)/\y=kV k/\kvs.length<sizeLine /\
 (∀v,fh kvs k=some v->Q v H3)/\(fh kvs k=none->Q z (upd H3 a (.dK (fz kvs k z))))
def Zes {o e f:Expr} {td ty tx:TE} {Au Aw:Pos} (ho:PE X o td) (he:PE X e ty) (hf:PE X f tx) (m:M2 X o "setdefault" Au e f Aw):PE X (.Call (.Attribute o "setdefault" Au) [e,f] [] Aw) (GD td ty tx):=by
 intro Ao s U H Q I h;refine yu m.base m.few m.line xT PySem.F.slot_dict_setdefault PySem.F.type_dict_setdefault (mB (ho Ao s U H _ I h) λu s1 zz=>?_);obtain⟨x,H1,I1,rx,a,ex,d,q1⟩:=zz;subst ex;obtain rfl:u=Value.ref a:=rx;obtain⟨t1,t2,_⟩:=Bw I1 d;refine⟨t1,t2,?_⟩;rw[m.trees];refine xC rfl (x0 (uj (mB (he Ao s1 U H1 _ I1 q1) λiv s2 ⟨y,H2,I2,ry,q2⟩=>
  uj (mB (hf Ao s2 U H2 _ I2 q2) λfv s3 ⟨z,H3,I3,rz,kvs,k,ea,ey,hz,q3,q4⟩=>vD ?_))))
 subst ey;exact Zgu I3 ea ry rz hz (λx w' s' hv r I4=>⟨x,H3,I4,r,q3 x hv⟩) λhn s' I4=>⟨z,_,I4,rz,q4 hn⟩
end
end L2
namespace PySem
section
variable {prog:AG}{w:AI}{K:Type}[DecidableEq K]{knd:HeapKind prog w K}{A:AH}{E:mY}{s:AE}
end
end PySem
namespace L2
open PySem PySem.Spec PyProof.Rows
section
end
end L2
namespace L2
open PySem PySem.Spec PyProof.Rows PySem.W
section
end
section
end
end L2
namespace PySem
noncomputable def ju (h:Heap) (d:AD) (es:Array DictEntry) (ep:Nat):Prop:=∃o,h.get? d=some o/\o.ExactDict/\o.data=.dict es ep
section
def ju.at (x:ju h d es ep)(e:∀o,h.get? d=some o->h'.get? d=some o):ju h' d es ep:=let ⟨o,ho,r⟩:=x;⟨o,e _ ho,r⟩
end
end PySem
namespace L2
open PySem PySem.Spec PyProof.Rows PySem.W
def KT.at (r:KT H kvs xs):∀(i:Nat) (x:List mh×V) (u:List mh×AD×Value),kvs[i]?=some x->xs[i]?=some u->ft x.2 u.2.2:=by
 induction r with
 | nil=>intro i x u h;simp at h
 | cons hd _ ih=>
  intro i x u h1 h2;cases i with
  | zero=>
   have e1:=Option.some.inj h1;have e2:=Option.some.inj h2;rw[<-e1,<-e2];exact hd.2.2
  | succ i=>exact ih i x u (~~~h1) (~~~h2)
section
end
end L2
namespace L2
open PySem PySem.Spec PyProof.Rows
section
def fk.keys (b:Nat->Bool)(f:Nat->V)(hz:kvs.length<=100000)(hx:H a=some (.frz o (.dK kvs)))
  (ht:∀i p H' Q',kvs[i]?=some p->e8 H H'->(∀H'',e8 H' H''->Q' (b i) H'')->tt (τ0.set 0 (some (kV p.1))) H' Q')
  (he:∀i p H' Q',kvs[i]?=some p->b i=true->e8 H H'->(∀H'',e8 H' H''->Q' (f i) H'')->te (τ0.set 0 (some (kV p.1))) H' Q')
  (hQ:∀p H',e8 H H'->H p=none->H' p=some (.lst (((List.range kvs.length).filter b).map f))->Q (.ref p) H'):fk (A2 o kvs a) τ0 (qp 0) tt te H Q:=by
 intro acc ha;refine⟨λi m τ H2=>i<=kvs.length/\m=kvs.length-i/\(∀w:Option V,τ.set 0 w=τ0.set 0 w)/\e8 H H2/\H2 acc=some (.lst (((List.range i).filter b).map f)),⟨kvs.length,nO _,rfl,λ_=>rfl,oR ha,mq⟩,?_⟩;rintro i m τ H2 ⟨hi,rfl,hτ,hs,Ar⟩;by_cases A0:i<kvs.length
 .refine .inr ⟨⟨hs _ _ hx,A0⟩,λτ' H'=>(∀w:Option V,τ'.set 0 w=τ0.set 0 w)/\e8 H H'/\H' acc=some (.lst (((List.range (i+1)).filter b).map f)),λτ' H' q=>⟨kvs.length-(i+1),∅,A0,rfl,q⟩,λx H3 y=>?_⟩;obtain⟨rfl,p,hp,rfl⟩:=y;show tt (τ.set 0 (some (kV p.1))) _ _;rw[hτ];have hτ':∀w:Option V,(τ0.set 0 (some (kV p.1))).set 0 w=τ0.set 0 w:=λw=>by rw[List.set_set]
  refine ht i p _ _ hp hs λH4 s4=>?_;cases hb:b i with
  | false=>
   rw[lT mQ];refine⟨hτ',hs.trans s4,?_⟩;rw[s4 _ _ Ar,t8,tO];simp[hb]
  | true=>
   rw[lU rfl];refine he i p _ _ hp hb (hs.trans s4) λH5 s5=>⟨_,s5 _ _ (s4 _ _ Ar),?_,hτ',im ha ((hs.trans s4).trans s5),?_⟩
   .rw[lZ];have:=pW b (List.range i);rw[rW]at this;rw[sizeLine_eq];lia
   .rw[mq,t8,tO];simp[hb]
 .have e:i=kvs.length:=by lia
  subst e;exact .inl ⟨⟨hs _ _ hx,mC _⟩,hQ acc H2 hs ha Ar⟩
end
section
end
structure PAz (X:Cx)(es:List Expr)(t:TA):Prop where
 h:PA X es t
instance (l w:lN) (i:Nat):Decidable (nB l w i):=by unfold nB;infer_instance
def pH (l S:lN)(c:Nat):lN:=(S.filter λs=>decide (l[s]?=some c)).map (· + 1)
def pN (l:lN):lN:=(List.range (l.length+1)).filter λi=>decide (∀j,j<i->¬nB l (l.drop i) j)
def pP (l w:lN):lN:=((pN l).filter λi=>decide (nB l w i)).map (· + w.length)
def Zlz (h:i∈pN l):i<=l.length:=by
 have:=oY.mp (pD.mp h).1
 lia
def EG (l:lN):pP l []=pN l:=by
 unfold pP;have e:(pN l).filter (λi=>decide (nB l [] i))=pN l:=List.filter_eq_self.mpr λi hi=>by have:=Zlz hi;exact IA ⟨~~~this,{}⟩
 rw[e];simp
def ZlQ:nB l (w++[c]) i↔nB l w i/\l[i+w.length]?=some c:=by
 unfold nB;rw[mP,oC];constructor
 .rintro⟨h1,h2⟩;have A0:i+w.length<l.length:=by lia
  have e:(l.drop i).take (w.length+1)=(l.drop i).take w.length++[l[i+w.length]]:=by rw[List.take_succ,vq,mT A0];rfl
  rw[e]at h2;have h3:=List.append_inj' h2 rfl;refine⟨⟨∅,h3.1⟩,?_⟩;rw[mT A0];have:=h3.2;injection this with a b;rw[a]
 .rintro⟨⟨h1,h2⟩,h3⟩;have A0:i+w.length<l.length:=(mX.mp h3).1;refine⟨∅,?_⟩;rw[List.take_succ,vq,h3,h2];rfl
def A8 (l w:lN)(c:Nat):pP l (w++[c])=pH l (pP l w) c:=by
 unfold pH pP;rw[List.filter_map,oX,List.filter_filter];have e:((pN l).filter λi=>decide (nB l (w++[c]) i))=(pN l).filter λa=>((λs=>decide (l[s]?=some c)) ∘ λx=>x+w.length) a&&decide (nB l w a):=by apply List.filter_congr;intro i _;rw[pO,nY,Iz,Iz,ZlQ];show _↔decide (l[i+w.length]?=some c)=true/\_;rw[Iz];exact And.comm
 rw[e];apply yw;intro i _;show i+(w++[c]).length=i+w.length+1;rw[mP,oC]
 lia
def Zlo (h:mj w l):∃i,nB l w i/\∀j,j<i->¬nB l w j:=by
 obtain⟨i,hi⟩:=h;induction i using Nat.strongRecOn with
 | _ i ih=>
  by_cases c:∃j,j<i/\nB l w j
  .obtain⟨j,hj,hA⟩:=c;exact ih j hj hA
  .exact⟨i,hi,λj hj hA=>c ⟨j,hj,hA⟩⟩
def Zhm (h:nB l w i)(hd:nB l (l.drop i) j):nB l w j:=by
 obtain⟨h1,h2⟩:=h;obtain⟨d1,d2⟩:=hd;rw[oZ]at d1 d2;refine⟨∅,?_⟩;have e:(l.drop j).take w.length=((l.drop j).take (l.length-i)).take w.length:=by rw[sQ,re ∅]
 rw[e,d2];exact h2
def DL:pP l w≠[]↔mj w l:=by
 constructor
 .intro h;unfold pP at h;have h':(pN l).filter (λi=>decide (nB l w i))≠[]:=λe=>h (by rw[e];rfl);obtain⟨i,hi⟩:=List.exists_mem_of_ne_nil _ h';exact⟨i,IC (pD.mp hi).2⟩
 .intro h;obtain⟨i,hi,hmin⟩:=Zlo h;have hle:i<=l.length:=by have:=hi.1;lia
  have hf:i∈pN l:=pD.mpr ⟨oY.mpr ∅,IA λj hj hd=>hmin j hj (Zhm hi hd)⟩;intro e;unfold pP at e;have:=List.map_eq_nil_iff.mp e;have hm:i∈(pN l).filter (λi=>decide (nB l w i)):=pD.mpr ⟨hf,IA hi⟩;rw[this]at hm;cases hm
def HR (l w:lN):(pP l w).length<=l.length+1:=by unfold pP pN;rw[lZ];refine mO (pW _ _) (mO (pW _ _) ?_);rw[rW];exact mC _
theorem yr {α:Type}[DecidableEq α]:∀(l m:List α),l.Nodup->(∀x∈l,x∈m)->l.length<=m.length
 | [],m,_,_=>nO _
 | x::l,m,nd,h=>by
  have hx:=h x o7;have nd':=rM.mp nd;have:=yr l (m.erase x) nd'.2 λy hy=>(List.mem_erase_of_ne (λe=>by rw[e]at hy;exact nd'.1 hy)).mpr (h y (oV _ hy));rw[List.length_erase_of_mem hx]at this;have pos:0<m.length:=List.length_pos_of_mem hx;rw[oN]
  lia
def xJ (l:lN):lX:=(List.range (l.length+1)).flatMap λi=>(List.range (l.length+1)).map λk=>(l.drop i).take k
def ZiX (l:lN):(xJ l).length=(l.length+1)*(l.length+1):=by
 unfold xJ;rw[List.length_flatMap];have e:((List.range (l.length+1)).map λi=>((List.range (l.length+1)).map λk=>(l.drop i).take k).length)=List.replicate (l.length+1) (l.length+1):=by apply qZ {};intro i h1 h2;simp
 rw[e,List.sum_replicate_nat]
def ZiB (h:mj w l):w∈xJ l:=by obtain⟨i,h1,h2⟩:=h;unfold xJ;rw[uN];refine⟨i,oY.mpr ∅,nj.mpr ⟨w.length,oY.mpr ∅,h2⟩⟩
def ZkW {l:lN}{sp:lX}(nd:sp.Nodup)(h:∀s∈sp,∃w,mj w l/\s=pP l w)(hl:l.length<=40):sp.length<=1681:=by
 have h1:=yr sp ((xJ l).map (pP l)) nd λs hs=>by obtain⟨w,hw,rfl⟩:=h s hs;exact tS (ZiB hw)
 rw[lZ,ZiX]at h1;have:(l.length+1)*(l.length+1)<=41*41:=vy ∅ ∅
 lia
def uZ (l:lN)(sp:lX)(s:lN)(c:Nat)(v:Option V):Prop:=(pH l s c=[]/\v=none)\/(pH l s c≠[]/\∃j:Nat,sp[j]?=some (pH l s c)/\v=some (.int (j:Int)))
def uZ.more {l s:lN}{sp more:lX}{c:Nat}{v:Option V}(h:uZ l sp s c v):uZ l (sp++more) s c v:=by
 rcases h with h | ⟨h1,j,h2,h3⟩
 .exact .inl h
 .exact .inr ⟨h1,j,by rw[py (mX.mp h2).1];exact h2,h3⟩
def Rd.same (h:Rd H a u)(s:e8 H H'):Rd H' a u:=h.elim (λh=>.inl (s _ _ h)) λ⟨o,h⟩=>.inr ⟨o,s _ _ h⟩
def iS (H:Hp)(l m:lN)(sp:lX)(i:Nat)(y:V):Prop:=∃(t d:AD) (w:lN) (kvs:List (mh×V)),y=.ref t/\H t=some (.tup [tx w,.ref d])/\Rd H d (.dK kvs)/\mj w l/\w.length<=l.length/\sp[i]?=some (pP l w)/\∀c∈m,uZ l sp (pP l w) c (fh kvs (lV [c]))
structure gK (H:Hp)(l m:lN)(sp:lX)(ys:IJ):Prop where
 first:sp[0]?=some (pN l)
 len:ys.length=sp.length
 nd:sp.Nodup
 rooms:∀i y,ys[i]?=some y->iS H l m sp i y
def iS.same (h:iS H l m sp i y)(s:e8 H H'):iS H' l m sp i y:=by obtain⟨t,d,w,kvs,e,h1,h2,r⟩:=h;exact⟨t,d,w,kvs,e,s _ _ h1,Rd.same h2 s,r⟩
def gK.same (h:gK H l m sp ys)(s:e8 H H'):gK H' l m sp ys:=⟨h.first,h.len,h.nd,λi y e=>(h.rooms i y e).same s⟩
def Zlc {α:Type}{sp:List α}(nd:sp.Nodup){i j:Nat}{s:α}(h1:sp[i]?=some s)(h2:sp[j]?=some s):i=j:=by
 obtain⟨a1,e1⟩:=mX.mp h1;obtain⟨a2,e2⟩:=mX.mp h2;have z:=vU.mp nd;rcases Nat.lt_trichotomy i j with h | h | h
 .exact IG (e1.trans e2.symm) (z i j a1 a2 h)
 .exact h
 .exact IG (e2.trans e1.symm) (z j i a2 a1 h)
section
end
section
end
section
end
end L2
namespace L2
open PySem PySem.Spec PyProof.Rows PySem.W
section
end
end L2
namespace L2
open PySem PySem.Spec PyProof.Rows
open PySem.W (Frag)
section
end
end L2
namespace L2
open PySem PySem.Spec PyProof.Rows
def wT (t:TS):TS:=t
def mE {X:Cx}{st:List Stmt}{t:TS}(h:ql X st t):ql X st (wT t):=h
def ou (h:t D U H):wT t D U H:=h
section
end
section
end
def nQ (S:List AD)(H H':Hp):Prop:=∀b o,H b=some o->b∉S->sT o=false->H' b=some o
def fQ.chg (s:fQ H H'):nQ S H H':=λb o e _ t=>s b o e t
def e8.chg (s:e8 H H'):nQ S H H':=λb o e _ _=>s b o e
def nQ.trans (a:nQ S H H1)(b:nQ S H1 H2):nQ S H H2:=λc o e n t=>b c o (a c o e n t) n t
def nQ.upd (h:a∈S):nQ S H (upd H a o):=λb u e n _=>by rw[lR (show b≠a from λz=>n (by rw[z];exact h))];exact e
def nQ.mono (h:nQ S H H')(k:∀b∈S,b∈S'):nQ S' H H':=λb o e n t=>h b o e (λz=>n (k b z)) t
def nQ.l (h:nQ [] H H'):fQ H H':=λb o e t=>h b o e {} t
def Nw (H:Hp)(r:AD):Prop:=∀o,H r=some o->sT o=true
def Nw.of (h:H r=none):Nw H r:=λo e=>by rw[h]at e;cases e
def Nw.ne (n:Nw H r)(h:H b=some o)(t:sT o=false):b≠r:=λz=>by rw[z]at h;rw[n o h]at t;cases t
def Nw.l (n:Nw H1 r)(s:fQ H H1):Nw H r:=λo e=>by
 cases t:sT o with
 | true=>rfl
 | false=>rw[<-t];exact n o (s r o e t)
def Nw.same (n:Nw H1 r)(s:e8 H H1):Nw H r:=n.l s.l
def Nw.chg (n:Nw H1 r)(c:nQ S H H1)(hS:∀b∈S,∃o,H1 b=some o/\sT o=false):Nw H r:=λo e=>by
 by_cases z:r∈S
 .obtain⟨u,hu,tu⟩:=hS r z;exact IG rfl (n.ne hu tu)
 .cases t:sT o with
  | true=>rfl
  | false=>rw[<-t];exact n o (c r o e z t)
def zn:HO->Bool
 | .ext _=>true
 | _=>false
def ge.upd (T:ge H P pos q)(h:H a=some o)(t:sT o=false)(x:zn o=false):ge (L2.upd H a o') P pos q:=by
 obtain⟨ps,e,tr,hc⟩:=T;refine⟨ps,?_,tr,hc.imp id ?_⟩
 .rw[lR (λz=>by rw[z,h]at e;cases e;cases t)];exact e
 .rintro⟨c,e1,e2⟩;refine⟨c,e1,?_⟩;rw[lR (λz=>by rw[z,h]at e2;unfold uu at e2;cases e2;cases x)];exact e2
def RowA (H:Hp)(y:V)(r:lN×IJ):Prop:=∃a b,y=.ref a/\H a=some (.tup [tx r.1,.ref b])/\H b=some (.tup r.2)
def gD (H:Hp)(ys:IJ)(rs:List (lN×IJ)):Prop:=ys.length=rs.length/\∀(i:Nat) (y:V),ys[i]?=some y->∃r,rs[i]?=some r/\RowA H y r
def gD.chg (h:gD H ys rs)(c:nQ S H H')(hS:∀b∈S,∀us,H b≠some (.tup us)):gD H' ys rs:=by refine⟨h.1,λi y hy=>?_⟩;obtain⟨r,hr,a,b,e,h1,h2⟩:=h.2 i y hy;exact⟨r,hr,a,b,e,c _ _ h1 (λz=>hS _ z _ h1) rfl,c _ _ h2 (λz=>hS _ z _ h2) rfl⟩
def gD.l (h:gD H ys rs)(s:fQ H H'):gD H' ys rs:=h.chg (S:=[]) s.chg {}
theorem Iu {K:ma}{H:Hp}:∀ {ds:List DT} {vs:IJ},vs.length=ds.length->(∀(i:Nat) (v:V),vs[i]?=some v->∃d,ds[i]?=some d/\fC K H d v)->DatsOk K H ds vs
 | [],[],_,_=>by unfold DatsOk;rfl
 | [],_::_,h,_=>by simp at h
 | _::_,[],h,_=>by simp at h
 | d::ds,v::vs,h,g=>by unfold DatsOk;obtain⟨d',e,hd⟩:=g 0 v rfl;cases e;exact⟨v,vs,rfl,hd,Iu (~~~h) λi u hu=>g (i+1) u hu⟩
theorem G8 {n:Nat}:∀ {ds:List DT},(∀d∈ds,qr d<=n)->deps ds<=n
 | [],_=>by unfold deps;exact nO _
 | d::ds,h=>by unfold deps;exact Nat.max_le.mpr ⟨h d o7,G8 λe he=>h e (oV _ he)⟩
def sU (rs:lN)(s L m:lN):List (lN×IJ):=(ib s L m).map λw=>(w,[tx rs,tx (iB s w),.int (tY L (iB s w):Nat)])
def ub (rs:lN)(s L m:lN):List (lN×IJ):=(iX s L m).map λw=>(w,[tx rs,.int (tY L w:Nat)])
noncomputable def FP:lN:=[112,117,116]
noncomputable def DROP:lN:=[100,114,111,112]
def uS (d:Bool×Nat):IJ:=[tx (if d.1 then FP else DROP),tx [d.2]]
def fV (H:Hp)(ts:IJ)(ds:List (Bool×Nat)):Prop:=ts.length=ds.length/\∀(i:Nat) (y:V),ts[i]?=some y->∃d,ds[i]?=some d/\∃t,y=.ref t/\H t=some (.tup (uS d))
def fV.chg (h:fV H ts ds)(c:nQ S H H')(hS:∀b∈S,∀us,H b≠some (.tup us)):fV H' ts ds:=by refine⟨h.1,λi y hy=>?_⟩;obtain⟨d,hd,t,e,ht⟩:=h.2 i y hy;exact⟨d,hd,t,e,c _ _ ht (λz=>hS _ z _ ht) rfl⟩
def fV.snoc (h:fV H ts ds)(ht:H t=some (.tup (uS d))):fV H (ts++[.ref t]) (ds++[d]):=by
 refine⟨by rw[mP,mP,h.1];rfl,λi y hy=>?_⟩;by_cases z:i<ts.length
 .rw[py z]at hy;obtain⟨d',hd,r⟩:=h.2 i y hy;exact⟨d',by rw[py (by rw[<-h.1];exact z)];exact hd,r⟩
 .rw[qu ∅]at hy;have e:i-ts.length=0:=by
   rcases Nat.eq_zero_or_pos (i-ts.length) with q | q
   .exact q
   .rw[tI (by simp;lia)]at hy;cases hy
  rw[e]at hy;cases hy;refine⟨d,?_,t,rfl,ht⟩;rw[qu (by rw[<-h.1];lia),<-h.1,e];rfl
def fV.init (h:fV H ts (ds++[d])):∃ts' t,ts=ts'++[.ref t]/\H t=some (.tup (uS d))/\fV H ts' ds:=by
 have hl:ts.length=ds.length+1:=by rw[h.1];simp
 have ne:ts≠[]:=λe=>by rw[e]at hl;simp at hl
 have e:=yR ne;have hlast:ts[ds.length]?=some (ts.getLast ne):=by
  rw[List.getLast_eq_getElem,mT ∅];congr 2
  lia
 obtain⟨d',hd,t,et,ht⟩:=h.2 _ _ hlast;rw[qu (mC _),tU]at hd;cases hd;refine⟨ts.dropLast,t,by rw[<-et];exact e.symm,ht,by rw[qm];lia,λi y hy=>?_⟩;rw[x8,wW]at hy;by_cases z:i<ts.length-1
 .rw[lU z]at hy;obtain⟨d',hd,r⟩:=h.2 i y hy;rw[py ∅]at hd;exact⟨d',hd,r⟩
 .rw[lT z]at hy;cases hy
def xG (d:Bool×Nat):DT:=.t ((uS d).map .f)
def fV.dat {K:ma}{H:Hp}{ts:IJ}{ds:List (Bool×Nat)}(h:fV H ts ds):DatsOk K H (ds.map xG) ts:=by refine Iu (by rw[lZ];exact h.1) λi y hy=>?_;obtain⟨d,hd,t,rfl,ht⟩:=h.2 i y hy;exact⟨xG d,by rw[om,hd];rfl,jm (.mk ht) rfl⟩
def Zkm (d:Bool×Nat):qr (xG d)<=1:=by unfold xG qr;rw[Db];exact mC _
inductive qC (m:lN):List (Bool×Nat)->lN->Prop
 | nil:qC m [] []
 | put {ds:List (Bool×Nat)} {l:lN} {c:Nat} (h:qC m ds l) (hc:c∈m) (hl:l.length<40):qC m (ds++[(true,c)]) (l++[c])
 | drop {ds:List (Bool×Nat)} {l:lN} {c:Nat} (h:qC m ds (c::l)):qC m (ds++[(false,c)]) l
def qC.len (h:qC m ds l):l.length<=40:=by
 induction h with
 | nil=>simp
 | put h hc hl ih=>simp;lia
 | drop h ih=>simp at ih;lia
def qC.mem (h:qC m ds l):∀x∈l,x∈m:=by
 induction h with
 | nil=>intro x hx;cases hx
 | put h hc hl ih=>
  intro x hx;rcases nJ.mp hx with hx | hx
  .exact ih x hx
  .rw[mU.mp hx];exact hc
 | drop h ih=>exact λx hx=>ih x (oV _ hx)
def qC.last (h:qC m ds' l)(ne:ds'≠[]):∃ds c,(ds'=ds++[(true,c)]/\∃l0,l=l0++[c]/\qC m ds l0)\/(ds'=ds++[(false,c)]/\qC m ds (c::l)):=by
 cases h with
 | nil=>exact IG rfl ne
 | put h hc hl=>exact⟨_,_,.inl ⟨rfl,_,rfl,h⟩⟩
 | drop h=>exact⟨_,_,.inr ⟨rfl,h⟩⟩
def sF (l m:lN)(la da:AD):List (Str×V):=[("own_text",tx l),("own_kinds",tx m),("own_lacking",.ref la),("own_deeds",.ref da)]
def f_tk:¬(("own_text":Str)="own_kinds"):=by decide +kernel
def jN:¬(("own_text":Str)="own_lacking"):=by decide +kernel
def f_td:¬(("own_text":Str)="own_deeds"):=by decide +kernel
def jK:¬(("own_kinds":Str)="own_lacking"):=by decide +kernel
def f_kd:¬(("own_kinds":Str)="own_deeds"):=by decide +kernel
def f_ld:¬(("own_lacking":Str)="own_deeds"):=by decide +kernel
def FB:fO f v ((f,x)::r)=(f,v)::r:=by unfold fO;rw[lU rfl]
def vf (h:¬g=f):fO f v ((g,x)::r)=(g,x)::fO f v r:=by
 conv=>lhs;unfold fO
 rw[lT h]
def ZmX:fO "own_text" (tx l') (sF l m la da)=sF l' m la da:=FB
def ZmY:fO "own_lacking" (.ref la') (sF l m la da)=sF l m la' da:=by unfold sF;rw[vf jN,vf jK,FB]
def Ih:fO "own_deeds" (.ref da) (fO "own_lacking" (.ref la) (fO "own_kinds" (tx m) (fO "own_text" (tx l) [])))=sF l m la da:=by have e2:∀(f:Str) (v:V),fO f v []=[(f,v)]:=λ_ _=>rfl;rw[e2,vf f_tk,e2,vf jN,vf jK,e2,vf f_td,vf f_kd,vf f_ld,e2];rfl
def yJ:sF l m la da=fO "own_deeds" (.ref da) (fO "own_lacking" (.ref la) (fO "own_kinds" (tx m) (fO "own_text" (tx l) []))):=Ih.symm
def su:(sF l m la da).lookup ("own_text":Str)=some (tx l):=by rw[yJ,oQ,lT f_td,oQ,lT jN,oQ,lT f_tk,oQ,lU rfl]
def B1:(sF l m la da).lookup ("own_kinds":Str)=some (tx m):=by rw[yJ,oQ,lT f_kd,oQ,lT jK,oQ,lU rfl]
def ER:(sF l m la da).lookup ("own_lacking":Str)=some (.ref la):=by rw[yJ,oQ,lT f_ld,oQ,lU rfl]
def xc:(sF l m la da).lookup ("own_deeds":Str)=some (.ref da):=by rw[yJ,oQ,lU rfl]
def ZqE {l m:lN} {la da:AD} {x:Str} (h1:¬x="own_text") (h2:¬x="own_kinds") (h3:¬x="own_lacking") (h4:¬x="own_deeds"):(sF l m la da).lookup x=none:=by rw[yJ,oQ,lT h4,oQ,lT h3,oQ,lT h2,oQ,lT h1];rfl
noncomputable def LETx:lN:=[97,98,99,100,101,102,103,104,105,106,107,108,109,110,111,112,113,114,115,116,117,118,119,120,121,122]
def iskx (l:lN):Bool:=decide (1<=l.length)&&decide (l.length<=4)&&(l.all λc=>LETx.contains c)&&decide (fK l=qM (pz (fK l)))
def vd (C:AD)(H:Hp)(p la da:AD)(l m:lN):Prop:=∃dx,H p=some (.ins C dx (sF l m la da))
structure ii (m:lN):Prop where
 k:iskx m=true
 m1:1<=m.length
 m4:m.length<=4
 rise:m.Pairwise (· < ·)
structure fE (C:AD)(H:Hp)(p la da:AD)(l m:lN)(ds:List (Bool×Nat)):Prop where
 fld:vd C H p la da l m
 lack:H la=some (.lst ((m5 l m).map tx))
 deed:∃ts,H da=some (.lst ts)/\fV H ts ds
 run:qC m ds l
 ok:ii m
 ne:la≠da
def fE.chg (h:fE C H p la da l m ds)(c:nQ S H H')(hS:∀b∈S,∀us,H b≠some (.tup us))(n1:p∉S)(n2:la∉S)(n3:da∉S):fE C H' p la da l m ds:=by obtain⟨⟨dx,f⟩,k,⟨ts,d1,d2⟩,r,o,n⟩:=h;exact⟨⟨dx,c _ _ f n1 rfl⟩,c _ _ k n2 rfl,⟨ts,c _ _ d1 n3 rfl,d2.chg c hS⟩,r,o,n⟩
def fE.l {C:AD}{H H':Hp}{p la da:AD}{l m:lN}{ds:List (Bool×Nat)}(h:fE C H p la da l m ds)(s:fQ H H'):fE C H' p la da l m ds:=h.chg (S:=[]) s.chg {} {} {} {}
def fE.same {C:AD}{H H':Hp}{p la da:AD}{l m:lN}{ds:List (Bool×Nat)}(h:fE C H p la da l m ds)(s:e8 H H'):fE C H' p la da l m ds:=h.l s.l
def fE.upd {C:AD}{H:Hp}{p la da a:AD}{l m:lN}{ds:List (Bool×Nat)}{xs:IJ}{o:HO}(h:fE C H p la da l m ds)(e:H a=some (.lst xs))(n2:a≠la)(n3:a≠da):fE C (L2.upd H a o) p la da l m ds:=by obtain⟨dx,f⟩:=h.fld;exact h.chg (S:=[a]) (nQ.upd {}) (λb hb us z=>by rw[mU.mp hb,e]at z;cases z) (λz=>by rw[mU.mp z,e]at f;cases f) (λz=>n2 (mU.mp z).symm) (λz=>n3 (mU.mp z).symm)
structure iq (H H2:Hp)(t c g la:AD)(rc rg:List (lN×IJ)):Prop where
 tup:H2 t=some (.tup [.ref c,.ref g])
 came:∃ys,H2 c=some (.lst ys)/\gD H2 ys rc
 went:∃zs,H2 g=some (.lst zs)/\gD H2 zs rg
 nc:Nw H c
 ng:Nw H g
 nl:Nw H la
 ncg:c≠g
 ncl:c≠la
 ngl:g≠la
section
end
section
end
section
end
section
def B7 (hc:X.calm=true):pR X (.builtin "sorted") (λxs H Q=>∃a ls,xs=[.ref a]/\H a=some (kR X.prog X.w a ls)/\ls.length<=sizeLine/\fY ((qM ls).map tx) H Q):=by
 rintro Ao s U H xs us Q I r ⟨a,ls,rfl,ha,h64,q⟩;obtain⟨u,rfl,ru⟩:=r.one;cases ru;have hS:f9 X.prog X.w s.heap a ls (!o3 X.w):=(I.hok a _ ha).1;refine ZgN (I.ok.hd hc) hS h64 λs' b us e nw k hg ho hb rv=>?_;have hl:(qM ls).length<=sizeLine:=by rw[(u0 ls).length_eq];exact h64
 exact⟨.ref b,_,I.laid2 (o:=.lst ((qM ls).map tx)) ho hg k nw ⟨by rw[lZ];exact hl,us,e,rv,hb⟩,rfl,q b (I.hok.none_of nw)⟩
def ZiT (hc:X.calm=true):pR X (.type "list") (λxs H Q=>∃a kvs,xs=[.ref a]/\Rd H a (.dK kvs)/\fY (kvs.map λp=>kV p.1) H Q):=by
 rintro Ao s U H xs us Q I r ⟨a,kvs,rfl,ha,q⟩;obtain⟨u,rfl,ru⟩:=r.one;cases ru;obtain⟨z,y,vs,rr,o,es,ep,eo⟩:=ha.ok I.hok;have hm:s.heap.DictAt (nW X.prog X.w) a vs ep:=⟨o,es,eo⟩;have hl:vs.length<=sizeLine:=by rw[<-rr.length];exact z
 refine PySem.W.kdl_call (PySem.W.kdl_dict y) (I.ok.hd hc) hm hl λh' tk acc' c' hk hS Ar=>?_;have hv:fi (kvs.map λp=>kV p.1) acc'.toList:=by
  have e1:(kvs.map λp=>kV p.1)=(vs.map λp=>kV p.1):=by
   have e2:(kvs.map λp=>kV p.1)=(kvs.map (·.1)).map kV:=by rw[oX];rfl
   have e3:(vs.map λp=>kV p.1)=(vs.map (·.1)).map kV:=by rw[oX];rfl
   rw[e2,e3,rr.keys]
  rw[e1];refine EO (by rw[lZ];exact(Array.length_toList.trans Ar.1).symm) λi x u h1 h2=>?_;rw[qL]at h2;obtain⟨k,v,e,hk⟩:=Ar.2 i u h2;rw[om,e]at h1;cases h1;exact HX hk
 exact⟨.ref s.heap.objs.size,_,I.laid (t':=tk) (o:=.lst (kvs.map λp=>kV p.1)) hk (mC _) ⟨by rw[lZ];exact z,acc'.toList,c',hv,by rw[Br];exact hS⟩,rfl,q _ I.fresh⟩
end
end L2
set_option maxHeartbeats 400000000
namespace Pk92
open PySem L2
noncomputable def top (i:Nat):Stmt:=PySem.Challenge.pw_lackword_k92_whole_strips_and_lists.main.body.getD i (.Pass ⟨0,0,0,0⟩)
abbrev kZ:Stmt:=top 18
abbrev jA:Stmt:=top 19
abbrev kU:Stmt:=top 20
abbrev jy:Stmt:=top 21
abbrev kT:Stmt:=top 22
abbrev lB:Stmt:=top 23
abbrev kG:Stmt:=top 24
abbrev kI:Stmt:=top 27
abbrev jO:Stmt:=top 28
abbrev ly:Stmt:=top 30
abbrev jU:Stmt:=top 36
abbrev kc:Stmt:=top 37
abbrev kX:Stmt:=top 39
abbrev jH:Stmt:=top 40
abbrev jR:Stmt:=top 41
abbrev jC:Stmt:=top 42
abbrev jT:Stmt:=top 43
abbrev jx:Stmt:=top 45
abbrev jB:Stmt:=top 46
abbrev jX:Stmt:=top 47
abbrev jE:Stmt:=top 49
abbrev jF:Stmt:=top 50
abbrev kN:Stmt:=top 51
abbrev kJ:Stmt:=top 54
abbrev jw:Stmt:=top 56
abbrev ka:Stmt:=top 57
abbrev jM:Stmt:=top 58
abbrev kq:Stmt:=top 61
abbrev ku:Stmt:=top 62
abbrev j9:Stmt:=top 63
abbrev lu:Stmt:=top 64
abbrev lE:Stmt:=top 65
abbrev kz:Stmt:=top 66
abbrev kA:Stmt:=top 67
abbrev kK:Stmt:=top 69
abbrev kM:Stmt:=top 70
abbrev kQ:Stmt:=top 71
abbrev kg:Stmt:=top 72
abbrev k9:Stmt:=top 73
abbrev jP:Stmt:=top 74
abbrev jt:Stmt:=top 75
abbrev jS:Stmt:=top 76
abbrev kP:Stmt:=top 77
abbrev Cw:Stmt:=top 78
abbrev CV:Stmt:=fG (top 5) 0
abbrev Gk:Stmt:=fG (top 6) 0
abbrev CK:Stmt:=fG (top 7) 0
abbrev GM:Stmt:=fG (top 8) 0
abbrev lA:Stmt:=fG (top 31) 0
abbrev kH:Stmt:=fG (top 31) 2
abbrev js:Stmt:=fG (top 31) 3
abbrev jW:Stmt:=fG (top 31) 4
abbrev j0:Stmt:=fG (top 31) 7
abbrev jI:Stmt:=fG (top 31) 8
abbrev kE:Stmt:=fG (top 32) 0
abbrev lh:Stmt:=fG (top 52) 0
abbrev jY:Stmt:=fG (top 52) 3
abbrev jJ:Stmt:=fG (top 52) 5
abbrev kB:Stmt:=fG (top 59) 0
abbrev jD:Stmt:=fG (top 59) 1
abbrev jL:Stmt:=fG (top 59) 2
abbrev j7:Stmt:=fG (top 59) 3
abbrev j8:Stmt:=fG (top 59) 4
abbrev lD:Stmt:=fG (top 59) 5
abbrev k7:Stmt:=fG (top 59) 6
abbrev kC:Stmt:=fG (top 59) 7
abbrev jZ:Stmt:=fG (top 59) 8
set_option genInjectivity false
structure Ad where
 (c_K2 c_LG c_LN c_LY c_LE c_MB c_LX c_LF c_LZ ag ak aj ai bq br bt bu bv bw ba bb bz bA bd bB bC bD bE bF bG bH bI f_K8 f_LA f_LH f_K4 f_KZ f_K6 f_KO f_K9 f_LV f_L0 f_K5 f_LO f_LB f_MA f_LQ f_ME f_L2 f_LJ f_LM f_LD f_KN f_KK f_LC f_L5 f_L3 f_LR f_LU f_L6 f_L8 f_LS f_L1 f_L7 f_K7 f_LL f_LK f_LI f_MD f_LP f_LT f_LW f_L9 f_L4 f_both f_law t_K9 k_K9:AD)
 (az aH aF aD bT bU bV bW bX bY bZ ce cf cj ck cn cq cu cz cA cB cC cD d_K8 d_LA d_LH d_K4 d_KZ d_K6 d_KO d_K9 d_LV d_L0 d_K5 d_LO d_LB d_MA d_LQ d_ME d_L2 d_LJ d_LM d_LD d_KN d_KK d_LC d_L5 d_L3 d_LR d_LU d_L6 d_L8 d_LS d_L1 d_L7 d_K7 d_LL d_LK d_LI d_MD d_LP d_LT d_LW d_L9 d_L4 d_MC d_law:AF)
structure Txt (K:ma)(mg:AB)(a:Ad):Prop where
 c6:DF K mg "has_only" kZ a.f_K8 a.d_K8 ["text","letters"]
 dm:DF K mg "is_kinds" jA a.f_LA a.d_LA ["thing"]
 c7:DF K mg "is_word" kU a.f_LH a.d_LH ["thing","kinds","most"]
 c9:DF K mg "is_letter" jy a.f_K4 a.d_K4 ["thing","kinds"]
 cN:DF K mg "need_kinds" kT a.f_KZ a.d_KZ ["thing"]
 cQ:DF K mg "need_word" lB a.f_K6 a.d_K6 ["thing","kinds","most"]
 cV:DF K mg "need_letter" kG a.f_KO a.d_KO ["thing","kinds"]
 cP:DF K mg "in_order" kI a.f_K9 a.d_K9 ["words"]
 dW:DF K mg "pieces" jO a.f_LV a.d_LV ["text","length"]
 eC:DF K mg "lacking_among" ly a.f_L0 a.d_L0 ["shorter","standing","kinds"]
 db:DF K mg "need_list" jU a.f_K5 a.d_K5 ["words","kinds"]
 dG:DF K mg "avoids" kc a.f_LO a.d_LO ["words","word"]
 du:DF K mg "refuse_inside" kX a.f_LB a.d_LB ["words"]
 eD:DF K mg "stems_of" jH a.f_MA a.d_MA ["words"]
 dZ:DF K mg "ending_stem" jR a.f_LQ a.d_LQ ["stems","text"]
 eM:DF K mg "ways_between" jC a.f_ME a.d_ME ["words","kinds"]
 eE:DF K mg "stems_that_end" jT a.f_L2 a.d_L2 ["ways"]
 dH:DF K mg "longest_word" jx a.f_LJ a.d_LJ ["ways","ended"]
 dI:DF K mg "refuse_split" jB a.f_LM a.d_LM ["words","kinds","text"]
 cR:DF K mg "strip_of" jX a.f_LD a.d_LD ["words","kinds"]
 cW:DF K mg "first_spots" jE a.f_KN a.d_KN ["text"]
 cS:DF K mg "spots_behind" jF a.f_KK a.d_KK ["text","spots","letter"]
 dv:DF K mg "rooms_of" kN a.f_LC a.d_LC ["text","kinds"]
 eG:DF K mg "lacks" kJ a.f_L5 a.d_L5 ["text","word"]
 d8:DF K mg "fresh_words" jw a.f_L3 a.d_L3 ["lesser","longer"]
 dJ:DF K mg "filled" ka a.f_LR a.d_LR ["lesser","longer","reason"]
 dL:DF K mg "opened" jM a.f_LU a.d_LU ["lesser","longer","kinds","reason"]
 df:DF K mg "_law_cell_at" kq a.f_L6 a.d_L6 ["_law_script","_law_k"]
 cM:DF K mg "_law_mixed" ku a.f_L8 a.d_L8 ["_law_cell","_law_k"]
 d0:DF K mg "_law_kinds" j9 a.f_LS a.d_LS ["_law_cell"]
 em:DF K mg "_law_drawn" lu a.f_L1 a.d_L1 ["_law_cell","_law_by_digits","_law_kinds_here","_law_many"]
 dO:DF K mg "_law_text" lE a.f_L7 a.d_L7 ["_law_cell","_law_way","_law_kinds_here","_law_most"]
 dc:DF K mg "_law_stretches" kz a.f_K7 a.d_K7 ["_law_text_here"]
 dk:DF K mg "_law_missing" kA a.f_LL a.d_LL ["_law_texts","_law_kinds_here"]
 cT:DF K mg "_law_stands" kK a.f_LK a.d_LK ["_law_one","_law_word"]
 c8:DF K mg "_law_avoids" kM a.f_LI a.d_LI ["_law_words","_law_word"]
 eB:DF K mg "_law_good" kQ a.f_MD a.d_MD ["_law_kinds_here","_law_text_here"]
 dM:DF K mg "_law_caught" kg a.f_LP a.d_LP ["_law_words","_law_kinds_here"]
 d5:DF K mg "_law_split" k9 a.f_LT a.d_LT ["_law_words","_law_kinds_here","_law_one","_law_other"]
 dN:DF K mg "_law_walked" jP a.f_LW a.d_LW ["_law_text_here","_law_kinds_here","_law_words"]
 eI:DF K mg "_law_moved" jt a.f_L9 a.d_L9 ["_law_script","_law_kinds_here","_law_text_here"]
 eJ:DF K mg "_law_given_back" jS a.f_L4 a.d_L4 ["_law_text_here","_law_kinds_here"]
 eN:DF K mg "_law_both" kP a.f_both a.d_MC ["_law_one","_law_other","_law_kinds_here"]
 eO:DF K mg "law" Cw a.f_law a.d_law ["_law_script"]
 cF:mg "LackError"=some (.ref a.c_K2)
 x_K2:Xm K a.c_K2
 xi_K2:Xi K a.c_K2
 k_K2:gT K a.c_K2 [.ref a.c_K2,.type "ValueError",.type "Exception",.type "BaseException",.type "object"]
 i_K2:findIn K (.ref a.c_K2) "__init__"=some (some (.builtin "ValueError.__init__"))
 r_K2:gH K a.c_K2 "__init__" (.builtin "ValueError.__init__")
 m_LG:mg "TooLong"=some (.ref a.c_LG)
 bS:Xm K a.c_LG
 bJ:Xi K a.c_LG
 bf:gT K a.c_LG [.ref a.c_LG,.ref a.c_K2,.type "ValueError",.type "Exception",.type "BaseException",.type "object"]
 i_LG:findIn K (.ref a.c_LG) "__init__"=some (some (.ref a.ag))
 cI:isFn K (.ref a.ag)=true
 aI:fF K a.c_LG "word"
 fi_LG:qh K "__init__" "TooLong.__init__" CV a.ag a.az
 b_LG:gb K a.az ["self","word"] []
 m_LN:mg "Inside"=some (.ref a.c_LN)
 x_LN:Xm K a.c_LN
 xi_LN:Xi K a.c_LN
 cG:gT K a.c_LN [.ref a.c_LN,.ref a.c_K2,.type "ValueError",.type "Exception",.type "BaseException",.type "object"]
 i_LN:findIn K (.ref a.c_LN) "__init__"=some (some (.ref a.ak))
 fn_LN:isFn K (.ref a.ak)=true
 a7:fF K a.c_LN "one"
 aW:fF K a.c_LN "other"
 fi_LN:qh K "__init__" "Inside.__init__" Gk a.ak a.aH
 b_LN:gb K a.aH ["self","one","other"] []
 m_LY:mg "Split"=some (.ref a.c_LY)
 bg:Xm K a.c_LY
 bh:Xi K a.c_LY
 bi:gT K a.c_LY [.ref a.c_LY,.ref a.c_K2,.type "ValueError",.type "Exception",.type "BaseException",.type "object"]
 i_LY:findIn K (.ref a.c_LY) "__init__"=some (some (.ref a.aj))
 cJ:isFn K (.ref a.aj)=true
 aR:fF K a.c_LY "one"
 aM:fF K a.c_LY "other"
 fi_LY:qh K "__init__" "Split.__init__" CK a.aj a.aF
 b_LY:gb K a.aF ["self","one","other"] []
 m_LE:mg "Endless"=some (.ref a.c_LE)
 x_LE:Xm K a.c_LE
 xi_LE:Xi K a.c_LE
 cH:gT K a.c_LE [.ref a.c_LE,.ref a.c_K2,.type "ValueError",.type "Exception",.type "BaseException",.type "object"]
 i_LE:findIn K (.ref a.c_LE) "__init__"=some (some (.ref a.ai))
 fn_LE:isFn K (.ref a.ai)=true
 aX:fF K a.c_LE "head"
 aZ:fF K a.c_LE "lap"
 fi_LE:qh K "__init__" "Endless.__init__" GM a.ai a.aD
 b_LE:gb K a.aD ["self","head","lap"] []
 m_MB:mg "Band"=some (.ref a.c_MB)
 cE:gH K a.c_MB "__init__" (.ref a.bq)
 cl_MB:rC K a.c_MB
 m_LX:mg "Plain"=some (.ref a.c_LX)
 cr_LX:gH K a.c_LX "__init__" (.ref a.ba)
 aY:rC K a.c_LX
 bK:Mk K a.c_LX a.ba
 aE:gM K a.c_LX "words" a.bu
 aB:gM K a.c_LX "laid_out" a.bt
 aJ:gM K a.c_LX "reach" a.bv
 aG:gM K a.c_LX "lacking" a.bw
 aA:fF K a.c_LX "own_text"
 aC:fF K a.c_LX "own_kinds"
 aN:fF K a.c_LX "own_lacking"
 aS:fF K a.c_LX "own_deeds"
 aT:fF K a.c_LX "own_rooms"
 ty_LX:∀ {H:Hp} {x dx:AD} {fs:List (Str×V)},H x=some (.ins a.c_LX dx fs)->gW K H (.ref x) (.ref a.c_LX)
 m_LF:mg "Machine"=some (.ref a.c_LF)
 cr_LF:gH K a.c_LF "__init__" (.ref a.bb)
 a8:rC K a.c_LF
 bL:Mk K a.c_LF a.bb
 a9:gM K a.c_LF "room_of" a.bA
 bM:gM K a.c_LF "led" a.bz
 aQ:fF K a.c_LF "own_text"
 aq:fF K a.c_LF "own_kinds"
 aL:fF K a.c_LF "own_lacking"
 aO:fF K a.c_LF "own_deeds"
 aw:fF K a.c_LF "own_rooms"
 ty_LF:∀ {H:Hp} {x dx:AD} {fs:List (Str×V)},H x=some (.ins a.c_LF dx fs)->gW K H (.ref x) (.ref a.c_LF)
 m_LZ:mg "Strip"=some (.ref a.c_LZ)
 cr_LZ:gH K a.c_LZ "__init__" (.ref a.bd)
 ae:rC K a.c_LZ
 bN:Mk K a.c_LZ a.bd
 ao:gM K a.c_LZ "text" a.br
 bO:gM K a.c_LZ "deeds" a.bC
 bj:gM K a.c_LZ "lacking" a.bB
 bP:gM K a.c_LZ "put" a.bD
 bQ:gM K a.c_LZ "drop" a.bE
 bR:gM K a.c_LZ "back" a.bF
 bn:gM K a.c_LZ "grow" a.bG
 bo:gM K a.c_LZ "shrink" a.bH
 bp:gM K a.c_LZ "change" a.bI
 aa:fF K a.c_LZ "own_text"
 ah:fF K a.c_LZ "own_kinds"
 af:fF K a.c_LZ "own_lacking"
 ad:fF K a.c_LZ "own_deeds"
 aU:fF K a.c_LZ "own_rooms"
 ty_LZ:∀ {H:Hp} {x dx:AD} {fs:List (Str×V)},H x=some (.ins a.c_LZ dx fs)->gW K H (.ref x) (.ref a.c_LZ)
 cY:MF K "__init__" "Band.__init__" lA a.bq a.bT ["self","text","kinds"]
 cZ:MF K "text" "Band.text" kH a.br a.bU ["self"]
 de:MF K "laid_out" "Band.laid_out" js a.bt a.bV ["self","length"]
 dh:MF K "words" "Band.words" jW a.bu a.bW ["self","length"]
 dP:MF K "reach" "Band.reach" j0 a.bv a.bX ["self"]
 dw:MF K "lacking" "Band.lacking" jI a.bw a.bY ["self"]
 dQ:MF K "__init__" "Plain.__init__" kE a.ba a.bZ ["self","text","kinds"]
 dz:MF K "__init__" "Machine.__init__" lh a.bb a.ce ["self","text","kinds"]
 dD:MF K "led" "Machine.led" jY a.bz a.cf ["self","room","letter"]
 cO:MF K "room_of" "Machine.room_of" jJ a.bA a.cj ["self","word"]
 dR:MF K "__init__" "Strip.__init__" kB a.bd a.ck ["self","kinds"]
 cX:MF K "lacking" "Strip.lacking" jD a.bB a.cn ["self"]
 dE:MF K "deeds" "Strip.deeds" jL a.bC a.cq ["self"]
 d7:MF K "put" "Strip.put" j7 a.bD a.cu ["self","letter"]
 dS:MF K "drop" "Strip.drop" j8 a.bE a.cz ["self"]
 dU:MF K "back" "Strip.back" lD a.bF a.cA ["self"]
 dj:MF K "grow" "Strip.grow" k7 a.bG a.cB ["self","longer"]
 c4:MF K "shrink" "Strip.shrink" kC a.bH a.cC ["self","lesser"]
 c5:MF K "change" "Strip.change" jZ a.bI a.cD ["self","text","came","went"]
 nd:[a.c_K2,a.c_LG,a.c_LN,a.c_LY,a.c_LE].Nodup
 cK:mg "len"=none
 cU:mg "range"=none
 dC:mg "enumerate"=none
 cL:mg "isinstance"=none
 eU:mg "all"=none
 eV:mg "max"=none
 dF:mg "list"=none
 eK:mg "tuple"=none
 eP:mg "set"=none
 dB:mg "sorted"=none
 eQ:mg "str"=none
 eR:mg "dict"=none
 eY:mg "sum"=none
 eZ:mg "any"=none
 aV:mg "ValueError"=none
 c_KD:∃t,mg "SMALL_LETTERS"=some (.str (Str.ofString "abcdefghijklmnopqrstuvwxyz") t)
 c_KS:∃t,mg "MOST_KINDS"=some (.int 4 t)
 c_KC:∃t,mg "MOST_IN_STRIP"=some (.int 40 t)
 c_KR:∃t,mg "MOST_ASKED"=some (.int 60 t)
 c_KT:∃t,mg "MOST_WORDS"=some (.int 200 t)
 c_KG:∃t,mg "MOST_IN_LIST"=some (.int 41 t)
 bl:∀(s:AE) (u:Value),BindsTo s a.d_law ⟨[u],[]⟩ [("_law_script",u)]
structure TL (K:ma)(mg:AB)(base:Heap)(a:Ad)(tb:Str->AD×AD):Prop extends Txt K mg a where
 L_in_order:g7 base mg a.k_K9 a.t_K9
 cd_K9:a.d_K9.code=.ref a.k_K9
 e_K9:a.t_K9=(tb "in_order").2
def lenA {P:AC->Prop}(h:∀a,P [a]):∀us:AC,us.length=1->P us:=by
 intro us ee;cases us with
 | nil=>cases ee
 | cons a us=>
  cases us with
  | nil=>exact h a
  | cons _ _=>cases ee
local macro_rules | `(tactic| walk_at "b1") => `(tactic| (intro _ _ _ _ _ _; refine lenA ?_; intros; rfl))
def lenB {P:AC->Prop}(h:∀a b,P [a,b]):∀us:AC,us.length=2->P us:=by
 intro us ee;cases us with
 | nil=>cases ee
 | cons a us=>
  cases us with
  | nil=>cases ee
  | cons b us=>
   cases us with
   | nil=>exact h a b
   | cons _ _=>cases ee
local macro_rules | `(tactic| walk_at "b2") => `(tactic| (intro _ _ _ _ _ _; refine lenB ?_; intros; rfl))
local macro_rules | `(tactic| eq_refl) => `(tactic| walk_at "b2")
def lenC {P:AC->Prop}(h:∀a b c,P [a,b,c]):∀us:AC,us.length=3->P us:=by
 intro us ee;cases us with
 | nil=>cases ee
 | cons a us=>
  cases us with
  | nil=>cases ee
  | cons b us=>
   cases us with
   | nil=>cases ee
   | cons c us=>
    cases us with
    | nil=>exact h a b c
    | cons _ _=>cases ee
local macro_rules | `(tactic| walk_at "b3") => `(tactic| (intro _ _ _ _ _ _; refine lenC ?_; intros; rfl))
def lenD {P:AC->Prop}(h:∀a b c d,P [a,b,c,d]):∀us:AC,us.length=4->P us:=by
 intro us ee;cases us with
 | nil=>cases ee
 | cons a us=>
  cases us with
  | nil=>cases ee
  | cons b us=>
   cases us with
   | nil=>cases ee
   | cons c us=>
    cases us with
    | nil=>cases ee
    | cons d us=>
     cases us with
     | nil=>exact h a b c d
     | cons _ _=>cases ee
local macro_rules | `(tactic| walk_at "b4") => `(tactic| (intro _ _ _ _ _ _; refine lenD ?_; intros; rfl))
theorem txt_mk (X:K.In h)(G:h.Ns mainGlobals mg){c_K2 c_LG ag c_LN ak c_LY aj c_LE ai bq br bt bu bv bw ba bb bz bA bd bB bC bD bE bF bG bH bI c_MB c_LX c_LF c_LZ f_K8 f_LA f_LH f_K4 f_KZ f_K6 f_KO f_K9 f_LV f_L0 f_K5 f_LO f_LB f_MA f_LQ f_ME f_L2 f_LJ f_LM f_LD f_KN f_KK f_LC f_L5 f_L3 f_LR f_LU f_L6 f_L8 f_LS f_L1 f_L7 f_K7 f_LL f_LK f_LI f_MD f_LP f_LT f_LW f_L9 f_L4 f_both f_law t_K9 k_K9:AD}{az aH aF aD bT bU bV bW bX bY bZ ce cf cj ck cn cq cu cz cA cB cC cD d_K8 d_LA d_LH d_K4 d_KZ d_K6 d_KO d_K9 d_LV d_L0 d_K5 d_LO d_LB d_MA d_LQ d_ME d_L2 d_LJ d_LM d_LD d_KN d_KK d_LC d_L5 d_L3 d_LR d_LU d_L6 d_L8 d_LS d_L1 d_L7 d_K7 d_LL d_LK d_LI d_MD d_LP d_LT d_LW d_L9 d_L4 d_MC d_law:AF}{tk_KD tk_KS tk_KC tk_KR tk_KT tk_KG:Tok}
  (Al:XG K "LackError" c_K2 [.ref c_K2,.type "ValueError",.type "Exception",.type "BaseException",.type "object"])
  (i_K2:findIn K (.ref c_K2) "__init__"=some (some (.builtin "ValueError.__init__")))
  (rs_K2:specialIn K (.ref c_K2) "__getattribute__"=some (some (.builtin "type.__getattribute__")))
  (rr_K2:readsIn K c_K2 (.type "type")=true)
  (rf_K2:findCls K (.ref c_K2) (.type "type") "__init__"=some (.val (.builtin "ValueError.__init__")))
  (An:XG K "TooLong" c_LG [.ref c_LG,.ref c_K2,.type "ValueError",.type "Exception",.type "BaseException",.type "object"])
  (i_LG:findIn K (.ref c_LG) "__init__"=some (some (.ref ag)))
  (AU:MG K "__init__" "TooLong.__init__" CV ag az)
  (aI:findIn K (.ref c_LG) "word"=some none)
  (Ak:XG K "Inside" c_LN [.ref c_LN,.ref c_K2,.type "ValueError",.type "Exception",.type "BaseException",.type "object"])
  (i_LN:findIn K (.ref c_LN) "__init__"=some (some (.ref ak)))
  (AS:MG K "__init__" "Inside.__init__" Gk ak aH)
  (a7:findIn K (.ref c_LN) "one"=some none)
  (aW:findIn K (.ref c_LN) "other"=some none)
  (Am:XG K "Split" c_LY [.ref c_LY,.ref c_K2,.type "ValueError",.type "Exception",.type "BaseException",.type "object"])
  (i_LY:findIn K (.ref c_LY) "__init__"=some (some (.ref aj)))
  (AT:MG K "__init__" "Split.__init__" CK aj aF)
  (aR:findIn K (.ref c_LY) "one"=some none)
  (aM:findIn K (.ref c_LY) "other"=some none)
  (Aj:XG K "Endless" c_LE [.ref c_LE,.ref c_K2,.type "ValueError",.type "Exception",.type "BaseException",.type "object"])
  (i_LE:findIn K (.ref c_LE) "__init__"=some (some (.ref ai)))
  (AR:MG K "__init__" "Endless.__init__" GM ai aD)
  (aX:findIn K (.ref c_LE) "head"=some none)
  (aZ:findIn K (.ref c_LE) "lap"=some none)
  (ow_hn:specialIn K (.builtin "object.__class__") "__get__"=some (some (.builtin "getset_descriptor.__get__")))
  (ow_tk:takesIn K (.builtin "object.__class__")=some true)
  (a_MB:nsIn K mainGlobals "Band"=some (some (.ref c_MB)))
  (pg_MB:plainGet K c_MB Str.empty=true)
  (hd_MB:hasDictIn K c_MB=true)
  (po_MB:plainOver K c_MB=true)
  (sa_MB:findIn K (.ref c_MB) "__setattr__"=some (some (.builtin "object.__setattr__")))
  (rs_MB:specialIn K (.ref c_MB) "__getattribute__"=some (some (.builtin "type.__getattribute__")))
  (rr_MB:readsIn K c_MB (.type "type")=true)
  (rf_MB:findCls K (.ref c_MB) (.type "type") "__init__"=some (.val (.ref bq)))
  (a_LX:nsIn K mainGlobals "Plain"=some (some (.ref c_LX)))
  (pg_LX:plainGet K c_LX Str.empty=true)
  (hd_LX:hasDictIn K c_LX=true)
  (po_LX:plainOver K c_LX=true)
  (sa_LX:findIn K (.ref c_LX) "__setattr__"=some (some (.builtin "object.__setattr__")))
  (rs_LX:specialIn K (.ref c_LX) "__getattribute__"=some (some (.builtin "type.__getattribute__")))
  (rr_LX:readsIn K c_LX (.type "type")=true)
  (rf_LX:findCls K (.ref c_LX) (.type "type") "__init__"=some (.val (.ref ba)))
  (bK:makesIn K c_LX=true)
  (in_LX:findIn K (.ref c_LX) "__init__"=some (some (.ref ba)))
  (kc_LX:keepIn K (.ref c_LX)=true)
  (ha_LX:findIn K (.ref c_LX) "__class__"=some (some (.builtin "object.__class__")))
  (mo_LX:mroIn K c_LX (.type "object")=some true)
  (aE:findIn K (.ref c_LX) "words"=some (some (.ref bu)))
  (aB:findIn K (.ref c_LX) "laid_out"=some (some (.ref bt)))
  (aJ:findIn K (.ref c_LX) "reach"=some (some (.ref bv)))
  (aG:findIn K (.ref c_LX) "lacking"=some (some (.ref bw)))
  (aA:findIn K (.ref c_LX) "own_text"=some none)
  (aC:findIn K (.ref c_LX) "own_kinds"=some none)
  (aN:findIn K (.ref c_LX) "own_lacking"=some none)
  (aS:findIn K (.ref c_LX) "own_deeds"=some none)
  (aT:findIn K (.ref c_LX) "own_rooms"=some none)
  (a_LF:nsIn K mainGlobals "Machine"=some (some (.ref c_LF)))
  (pg_LF:plainGet K c_LF Str.empty=true)
  (hd_LF:hasDictIn K c_LF=true)
  (po_LF:plainOver K c_LF=true)
  (sa_LF:findIn K (.ref c_LF) "__setattr__"=some (some (.builtin "object.__setattr__")))
  (rs_LF:specialIn K (.ref c_LF) "__getattribute__"=some (some (.builtin "type.__getattribute__")))
  (rr_LF:readsIn K c_LF (.type "type")=true)
  (rf_LF:findCls K (.ref c_LF) (.type "type") "__init__"=some (.val (.ref bb)))
  (bL:makesIn K c_LF=true)
  (in_LF:findIn K (.ref c_LF) "__init__"=some (some (.ref bb)))
  (kc_LF:keepIn K (.ref c_LF)=true)
  (ha_LF:findIn K (.ref c_LF) "__class__"=some (some (.builtin "object.__class__")))
  (mo_LF:mroIn K c_LF (.type "object")=some true)
  (a9:findIn K (.ref c_LF) "room_of"=some (some (.ref bA)))
  (bM:findIn K (.ref c_LF) "led"=some (some (.ref bz)))
  (aQ:findIn K (.ref c_LF) "own_text"=some none)
  (aq:findIn K (.ref c_LF) "own_kinds"=some none)
  (aL:findIn K (.ref c_LF) "own_lacking"=some none)
  (aO:findIn K (.ref c_LF) "own_deeds"=some none)
  (aw:findIn K (.ref c_LF) "own_rooms"=some none)
  (a_LZ:nsIn K mainGlobals "Strip"=some (some (.ref c_LZ)))
  (pg_LZ:plainGet K c_LZ Str.empty=true)
  (hd_LZ:hasDictIn K c_LZ=true)
  (po_LZ:plainOver K c_LZ=true)
  (sa_LZ:findIn K (.ref c_LZ) "__setattr__"=some (some (.builtin "object.__setattr__")))
  (rs_LZ:specialIn K (.ref c_LZ) "__getattribute__"=some (some (.builtin "type.__getattribute__")))
  (rr_LZ:readsIn K c_LZ (.type "type")=true)
  (rf_LZ:findCls K (.ref c_LZ) (.type "type") "__init__"=some (.val (.ref bd)))
  (bN:makesIn K c_LZ=true)
  (in_LZ:findIn K (.ref c_LZ) "__init__"=some (some (.ref bd)))
  (kc_LZ:keepIn K (.ref c_LZ)=true)
  (ha_LZ:findIn K (.ref c_LZ) "__class__"=some (some (.builtin "object.__class__")))
  (mo_LZ:mroIn K c_LZ (.type "object")=some true)
  (ao:findIn K (.ref c_LZ) "text"=some (some (.ref br)))
  (bO:findIn K (.ref c_LZ) "deeds"=some (some (.ref bC)))
  (bj:findIn K (.ref c_LZ) "lacking"=some (some (.ref bB)))
  (bP:findIn K (.ref c_LZ) "put"=some (some (.ref bD)))
  (bQ:findIn K (.ref c_LZ) "drop"=some (some (.ref bE)))
  (bR:findIn K (.ref c_LZ) "back"=some (some (.ref bF)))
  (bn:findIn K (.ref c_LZ) "grow"=some (some (.ref bG)))
  (bo:findIn K (.ref c_LZ) "shrink"=some (some (.ref bH)))
  (bp:findIn K (.ref c_LZ) "change"=some (some (.ref bI)))
  (aa:findIn K (.ref c_LZ) "own_text"=some none)
  (ah:findIn K (.ref c_LZ) "own_kinds"=some none)
  (af:findIn K (.ref c_LZ) "own_lacking"=some none)
  (ad:findIn K (.ref c_LZ) "own_deeds"=some none)
  (aU:findIn K (.ref c_LZ) "own_rooms"=some none)
  (AK:MG K "__init__" "Band.__init__" lA bq bT)
  (AO:MG K "text" "Band.text" kH br bU)
  (AM:MG K "laid_out" "Band.laid_out" js bt bV)
  (AQ:MG K "words" "Band.words" jW bu bW)
  (AN:MG K "reach" "Band.reach" j0 bv bX)
  (AL:MG K "lacking" "Band.lacking" jI bw bY)
  (AY:MG K "__init__" "Plain.__init__" kE ba bZ)
  (AV:MG K "__init__" "Machine.__init__" lh bb ce)
  (AW:MG K "led" "Machine.led" jY bz cf)
  (AX:MG K "room_of" "Machine.room_of" jJ bA cj)
  (Af:MG K "__init__" "Strip.__init__" kB bd ck)
  (Ag:MG K "lacking" "Strip.lacking" jD bB cn)
  (Ab:MG K "deeds" "Strip.deeds" jL bC cq)
  (Ah:MG K "put" "Strip.put" j7 bD cu)
  (Ac:MG K "drop" "Strip.drop" j8 bE cz)
  (AZ:MG K "back" "Strip.back" lD bF cA)
  (Ae:MG K "grow" "Strip.grow" k7 bG cB)
  (Ai:MG K "shrink" "Strip.shrink" kC bH cC)
  (Aa:MG K "change" "Strip.change" jZ bI cD)
  (nd:[c_K2,c_LG,c_LN,c_LY,c_LE].Nodup)
  (c6:DG K "has_only" kZ f_K8 d_K8)
  (dm:DG K "is_kinds" jA f_LA d_LA)
  (c7:DG K "is_word" kU f_LH d_LH)
  (c9:DG K "is_letter" jy f_K4 d_K4)
  (cN:DG K "need_kinds" kT f_KZ d_KZ)
  (cQ:DG K "need_word" lB f_K6 d_K6)
  (cV:DG K "need_letter" kG f_KO d_KO)
  (cP:DG K "in_order" kI f_K9 d_K9)
  (dW:DG K "pieces" jO f_LV d_LV)
  (eC:DG K "lacking_among" ly f_L0 d_L0)
  (db:DG K "need_list" jU f_K5 d_K5)
  (dG:DG K "avoids" kc f_LO d_LO)
  (du:DG K "refuse_inside" kX f_LB d_LB)
  (eD:DG K "stems_of" jH f_MA d_MA)
  (dZ:DG K "ending_stem" jR f_LQ d_LQ)
  (eM:DG K "ways_between" jC f_ME d_ME)
  (eE:DG K "stems_that_end" jT f_L2 d_L2)
  (dH:DG K "longest_word" jx f_LJ d_LJ)
  (dI:DG K "refuse_split" jB f_LM d_LM)
  (cR:DG K "strip_of" jX f_LD d_LD)
  (cW:DG K "first_spots" jE f_KN d_KN)
  (cS:DG K "spots_behind" jF f_KK d_KK)
  (dv:DG K "rooms_of" kN f_LC d_LC)
  (eG:DG K "lacks" kJ f_L5 d_L5)
  (d8:DG K "fresh_words" jw f_L3 d_L3)
  (dJ:DG K "filled" ka f_LR d_LR)
  (dL:DG K "opened" jM f_LU d_LU)
  (df:DG K "_law_cell_at" kq f_L6 d_L6)
  (cM:DG K "_law_mixed" ku f_L8 d_L8)
  (d0:DG K "_law_kinds" j9 f_LS d_LS)
  (em:DG K "_law_drawn" lu f_L1 d_L1)
  (dO:DG K "_law_text" lE f_L7 d_L7)
  (dc:DG K "_law_stretches" kz f_K7 d_K7)
  (dk:DG K "_law_missing" kA f_LL d_LL)
  (cT:DG K "_law_stands" kK f_LK d_LK)
  (c8:DG K "_law_avoids" kM f_LI d_LI)
  (eB:DG K "_law_good" kQ f_MD d_MD)
  (dM:DG K "_law_caught" kg f_LP d_LP)
  (d5:DG K "_law_split" k9 f_LT d_LT)
  (dN:DG K "_law_walked" jP f_LW d_LW)
  (eI:DG K "_law_moved" jt f_L9 d_L9)
  (eJ:DG K "_law_given_back" jS f_L4 d_L4)
  (eN:DG K "_law_both" kP f_both d_MC)
  (eO:DG K "law" Cw f_law d_law)
  (cK:nsIn K mainGlobals "len"=some none)
  (cU:nsIn K mainGlobals "range"=some none)
  (dC:nsIn K mainGlobals "enumerate"=some none)
  (cL:nsIn K mainGlobals "isinstance"=some none)
  (eU:nsIn K mainGlobals "all"=some none)
  (eV:nsIn K mainGlobals "max"=some none)
  (dF:nsIn K mainGlobals "list"=some none)
  (eK:nsIn K mainGlobals "tuple"=some none)
  (eP:nsIn K mainGlobals "set"=some none)
  (dB:nsIn K mainGlobals "sorted"=some none)
  (eQ:nsIn K mainGlobals "str"=some none)
  (eR:nsIn K mainGlobals "dict"=some none)
  (eY:nsIn K mainGlobals "sum"=some none)
  (eZ:nsIn K mainGlobals "any"=some none)
  (aV:nsIn K mainGlobals "ValueError"=some none)
  (c_KD:nsIn K mainGlobals "SMALL_LETTERS"=some (some (.str (Str.ofString "abcdefghijklmnopqrstuvwxyz") tk_KD)))
  (c_KS:nsIn K mainGlobals "MOST_KINDS"=some (some (.int 4 tk_KS)))
  (c_KC:nsIn K mainGlobals "MOST_IN_STRIP"=some (some (.int 40 tk_KC)))
  (c_KR:nsIn K mainGlobals "MOST_ASKED"=some (some (.int 60 tk_KR)))
  (c_KT:nsIn K mainGlobals "MOST_WORDS"=some (some (.int 200 tk_KT)))
  (c_KG:nsIn K mainGlobals "MOST_IN_LIST"=some (some (.int 41 tk_KG))):∃a,Txt K mg a/\a.t_K9=t_K9/\a.k_K9=k_K9:=by
 obtain⟨_,_,_,_,_,_,_,_,_,rfl,_⟩:=id eO.2.ex;refine⟨{ c_K2,ag,az,c_LG,ak,aH,c_LN,aj,aF,c_LY,ai,aD,c_LE,c_MB,c_LX,c_LF,c_LZ,bq,bT,br,bU,bt,bV,bu,bW,bv,bX,bw,bY,ba,bZ,bb,ce,bz,cf,bA,cj,bd,ck,bB,cn,bC,cq,bD,cu,bE,cz,bF,cA,bG,cB,bH,cC,bI,cD,f_K8,d_K8,f_LA,d_LA,f_LH,d_LH,f_K4,d_K4,f_KZ,d_KZ,f_K6,d_K6,f_KO,d_KO,f_K9,d_K9,f_LV,d_LV,f_L0,d_L0,f_K5,d_K5,f_LO,d_LO,f_LB,d_LB,f_MA,d_MA,f_LQ,d_LQ,f_ME,d_ME,f_L2,d_L2,f_LJ,d_LJ,f_LM,d_LM,f_LD,d_LD,f_KN,d_KN,f_KK,d_KK,f_LC,d_LC,f_L5,d_L5,f_L3,d_L3,f_LR,d_LR,f_LU,d_LU,f_L6,d_L6,f_L8,d_L8,f_LS,d_LS,f_L1,d_L1,f_L7,d_L7,f_K7,d_K7,f_LL,d_LL,f_LK,d_LK,f_LI,d_LI,f_MD,d_MD,f_LP,d_LP,f_LT,d_LT,f_LW,d_LW,f_L9,d_L9,f_L4,d_L4,f_both,d_MC,f_law,t_K9,k_K9,d_law:=_ },{ c6:=nE X G c6 (by eq_refl),dm:=nE X G dm (by walk_at "b1"),c7:=nE X G c7 (by walk_at "b3"),c9:=nE X G c9 (by eq_refl),cN:=nE X G cN (by walk_at "b1"),cQ:=nE X G cQ (by walk_at "b3"),cV:=nE X G cV (by eq_refl),cP:=nE X G cP (by walk_at "b1"),dW:=nE X G dW (by eq_refl),eC:=nE X G eC (by walk_at "b3"),db:=nE X G db (by eq_refl),dG:=nE X G dG (by eq_refl),du:=nE X G du (by walk_at "b1"),eD:=nE X G eD (by walk_at "b1"),dZ:=nE X G dZ (by eq_refl),eM:=nE X G eM (by eq_refl),eE:=nE X G eE (by walk_at "b1"),dH:=nE X G dH (by eq_refl),dI:=nE X G dI (by walk_at "b3"),cR:=nE X G cR (by eq_refl),cW:=nE X G cW (by walk_at "b1"),cS:=nE X G cS (by walk_at "b3"),dv:=nE X G dv (by eq_refl),eG:=nE X G eG (by eq_refl),d8:=nE X G d8 (by eq_refl),dJ:=nE X G dJ (by walk_at "b3"),dL:=nE X G dL (by walk_at "b4"),df:=nE X G df (by eq_refl),cM:=nE X G cM (by eq_refl),d0:=nE X G d0 (by walk_at "b1"),em:=nE X G em (by walk_at "b4"),dO:=nE X G dO (by walk_at "b4"),dc:=nE X G dc (by walk_at "b1"),dk:=nE X G dk (by eq_refl),cT:=nE X G cT (by eq_refl),c8:=nE X G c8 (by eq_refl),eB:=nE X G eB (by eq_refl),dM:=nE X G dM (by eq_refl),d5:=nE X G d5 (by walk_at "b4"),dN:=nE X G dN (by walk_at "b3"),eI:=nE X G eI (by walk_at "b3"),eJ:=nE X G eJ (by eq_refl),eN:=nE X G eN (by walk_at "b3"),eO:=nE X G eO (by walk_at "b1"),cF:=qK X G Al.a,x_K2:=Al.m,xi_K2:=Al.i,k_K2:=Al.k,i_K2,r_K2:=⟨rs_K2,rr_K2,rf_K2,rfl⟩,m_LG:=qK X G An.a,bS:=An.m,bJ:=An.i,bf:=An.k,i_LG,cI:=AU.2,aI,fi_LG:=AU.1,b_LG:=AU.1.binds (by eq_refl),m_LN:=qK X G Ak.a,x_LN:=Ak.m,xi_LN:=Ak.i,cG:=Ak.k,i_LN,fn_LN:=AS.2,a7,aW,fi_LN:=AS.1,b_LN:=AS.1.binds (by walk_at "b3"),m_LY:=qK X G Am.a,bg:=Am.m,bh:=Am.i,bi:=Am.k,i_LY,cJ:=AT.2,aR,aM,fi_LY:=AT.1,b_LY:=AT.1.binds (by walk_at "b3"),m_LE:=qK X G Aj.a,x_LE:=Aj.m,xi_LE:=Aj.i,cH:=Aj.k,i_LE,fn_LE:=AR.2,aX,aZ,fi_LE:=AR.1,b_LE:=AR.1.binds (by walk_at "b3"),m_MB:=qK X G a_MB,cE:=⟨rs_MB,rr_MB,rf_MB,rfl⟩,cl_MB:=⟨pg_MB,hd_MB,po_MB,sa_MB⟩,m_LX:=qK X G a_LX,cr_LX:=⟨rs_LX,rr_LX,rf_LX,rfl⟩,aY:=⟨pg_LX,hd_LX,po_LX,sa_LX⟩,bK:=⟨bK,in_LX,AY.2,kc_LX⟩,aE:=⟨aE,AQ.2,AQ.1.kp⟩,aB:=⟨aB,AM.2,AM.1.kp⟩,aJ:=⟨aJ,AN.2,AN.1.kp⟩,aG:=⟨aG,AL.2,AL.1.kp⟩,aA,aC,aN,aS,aT,ty_LX:=λe=>.ins e ⟨pg_LX,hd_LX,po_LX,sa_LX⟩ ha_LX ow_hn ow_tk mo_LX,m_LF:=qK X G a_LF,cr_LF:=⟨rs_LF,rr_LF,rf_LF,rfl⟩,a8:=⟨pg_LF,hd_LF,po_LF,sa_LF⟩,bL:=⟨bL,in_LF,AV.2,kc_LF⟩,a9:=⟨a9,AX.2,AX.1.kp⟩,bM:=⟨bM,AW.2,AW.1.kp⟩,aQ,aq,aL,aO,aw,ty_LF:=λe=>.ins e ⟨pg_LF,hd_LF,po_LF,sa_LF⟩ ha_LF ow_hn ow_tk mo_LF,m_LZ:=qK X G a_LZ,cr_LZ:=⟨rs_LZ,rr_LZ,rf_LZ,rfl⟩,ae:=⟨pg_LZ,hd_LZ,po_LZ,sa_LZ⟩,bN:=⟨bN,in_LZ,Af.2,kc_LZ⟩,ao:=⟨ao,AO.2,AO.1.kp⟩,bO:=⟨bO,Ab.2,Ab.1.kp⟩,bj:=⟨bj,Ag.2,Ag.1.kp⟩,bP:=⟨bP,Ah.2,Ah.1.kp⟩,bQ:=⟨bQ,Ac.2,Ac.1.kp⟩,bR:=⟨bR,AZ.2,AZ.1.kp⟩,bn:=⟨bn,Ae.2,Ae.1.kp⟩,bo:=⟨bo,Ai.2,Ai.1.kp⟩,bp:=⟨bp,Aa.2,Aa.1.kp⟩,aa,ah,af,ad,aU,ty_LZ:=λe=>.ins e ⟨pg_LZ,hd_LZ,po_LZ,sa_LZ⟩ ha_LZ ow_hn ow_tk mo_LZ,cY:=qg AK (by walk_at "b3"),cZ:=qg AO (by walk_at "b1"),de:=qg AM (by eq_refl),dh:=qg AQ (by eq_refl),dP:=qg AN (by walk_at "b1"),dw:=qg AL (by walk_at "b1"),dQ:=qg AY (by walk_at "b3"),dz:=qg AV (by walk_at "b3"),dD:=qg AW (by walk_at "b3"),cO:=qg AX (by eq_refl),dR:=qg Af (by eq_refl),cX:=qg Ag (by walk_at "b1"),dE:=qg Ab (by walk_at "b1"),d7:=qg Ah (by eq_refl),dS:=qg Ac (by walk_at "b1"),dU:=qg AZ (by walk_at "b1"),dj:=qg Ae (by eq_refl),c4:=qg Ai (by eq_refl),c5:=qg Aa (by walk_at "b4"),nd,cK:=qR X G cK,cU:=qR X G cU,dC:=qR X G dC,cL:=qR X G cL,eU:=qR X G eU,eV:=qR X G eV,dF:=qR X G dF,eK:=qR X G eK,eP:=qR X G eP,dB:=qR X G dB,eQ:=qR X G eQ,eR:=qR X G eR,eY:=qR X G eY,eZ:=qR X G eZ,aV:=qR X G aV,c_KD:=⟨_,qK X G c_KD⟩,c_KS:=⟨_,qK X G c_KS⟩,c_KC:=⟨_,qK X G c_KC⟩,c_KR:=⟨_,qK X G c_KR⟩,c_KT:=⟨_,qK X G c_KT⟩,c_KG:=⟨_,qK X G c_KG⟩,bl:=λs u=>.of_eq rfl },rfl,rfl⟩
end Pk92
namespace Pk92
open PySem L2
def Fm {v:V}{p:V->Prop}:(∃u,some (some v)=some (some u)/\p u)=p v:=
 propext ⟨λ⟨_,e,h⟩=>by cases e;exact h,λh=>⟨v,rfl,h⟩⟩
def jQ (h:C a b/\Q (g a b) H):rT C g (tx a) (tx b) H Q:=h
noncomputable def lpos:Pos:=⟨79,29,79,59⟩
noncomputable def lq:Str:="in_order.<locals>.<lambda>"
noncomputable def qY:lN:=[97,98,99,100,101,102,103,104,105,106,107,108,109,110,111,112,113,114,115,116,117,118,119,120,121,122]
def rD (l:lN):Bool:=decide (1<=l.length)&&decide (l.length<=4)&&(l.all λc=>qY.contains c)&&decide (fK l=qM (pz (fK l)))
noncomputable def uL (l m:lN)(most:Int):Bool:=decide ((l.length:Int)<=most)&&l.all λc=>m.contains c
def uJ:lN->lN->Bool
 | _,[]=>true
 | last,c::r=>decide (c∈qY)&&decide (last < [c])&&uJ [c] r
def zt (l:lN):Bool:=decide (1<=l.length)&&decide (l.length<=4)&&uJ [] l
def CM {a b:Nat}:([a] < [b])↔a<b:=by
 constructor
 .intro h;cases h with
  | rel h=>exact h
  | cons h=>cases h
 .exact λh=>List.Lex.rel h
theorem EU:∀(l:lN) (d:Nat),uJ [d] l=true↔(∀c∈l,c∈qY)/\(d::l).Pairwise (· < ·)
 | [],d=>by simp[uJ]
 | c::r,d=>by
  rw[uJ,nY,nY,Iz,Iz,CM,EU r c];simp only[sW,m6,forall_eq_or_imp];constructor
  .rintro⟨⟨h1,h2⟩,h3,h4,h5⟩;exact⟨⟨h1,h3⟩,⟨h2,λx hx=>Nat.lt_trans h2 (h4 x hx)⟩,h4,h5⟩
  .rintro⟨⟨h1,h3⟩,⟨h2,_⟩,h4,h5⟩;exact⟨⟨h1,h2⟩,h3,h4,h5⟩
def Cj (l:lN):uJ [] l=true↔(∀c∈l,c∈qY)/\l.Pairwise (· < ·):=by
 cases l with
 | nil=>simp[uJ]
 | cons c r=>
  rw[uJ,nY,nY,Iz,Iz,EU r c];simp only[m6,forall_eq_or_imp];constructor
  .rintro⟨⟨h1,_⟩,h3,h4⟩;exact⟨⟨h1,h3⟩,h4⟩
  .rintro⟨⟨h1,h3⟩,h4⟩;exact⟨⟨h1,{}⟩,h3,h4⟩
theorem Ic:∀(ls acc:lX),(acc++ls).Nodup->ls.foldl gA acc=acc++ls
 | [],acc,_=>by simp
 | x::ls,acc,h=>by
  have hx:¬x∈acc:=by rw[vI]at h;exact λhm=>h.2.2 x hm x o7 rfl
  rw[vL,gA,lT hx,Ic ls (acc++[x]) (~~~h)];simp
def ZgQ (h:l.Pairwise (· < ·)):(fK l).Nodup:=by unfold fK List.Nodup;rw[tV];exact h.imp λhab e=>by injection e with e;lia
def Zkr (ls:lX):(pz ls).Nodup:=by rw[<-Bb];exact yq _
def Zij (l:lN):fK l=qM (pz (fK l))↔l.Pairwise (· < ·):=by
 constructor
 .intro e;have h1:(fK l).Pairwise (λa b=>ri a b=true):=by rw[e];exact zG _
  have h2:(fK l).Nodup:=by rw[e];exact(u0 _).nodup_iff.mpr (Zkr _)
  unfold fK at h1;unfold fK List.Nodup at h2;rw[tV]at h1 h2;refine(h1.and h2).imp ?_;rintro a b ⟨x,y⟩;have y':a≠b:=λe=>y (by rw[e]);have x':¬([b] < [a]):=by simpa [ri] using x
  rw[CM]at x'
  lia
 .intro h;have e:pz (fK l)=fK l:=by unfold pz;rw[Ic _ _ (~~~ZgQ h)];simp
  rw[e];refine Di (List.Perm.refl _) ?_;unfold fK;rw[tV];refine h.imp λ{a b} hab=>?_;have:¬([b] < [a]):=by rw[CM];lia
  simpa [ri] using this
def EV (l:lN):rD l=zt l:=by
 have h1:(l.all λc=>qY.contains c)=decide (∀c∈l,c∈qY):=by rw[pO,qE,Iz];simp
 have h2:decide (fK l=qM (pz (fK l)))=decide (l.Pairwise (· < ·)):=by rw[pO,Iz,Iz,Zij]
 have h3:uJ [] l=(decide (∀c∈l,c∈qY)&&decide (l.Pairwise (· < ·))):=by rw[pO,nY,Iz,Iz,Cj]
 unfold rD zt;rw[h1,h2,h3,Bool.and_assoc]
def iU (l m:lN):((List.range l.length).map (λi=>decide (l.getD i 0∈m))).all id=l.all λc=>m.contains c:=by
 rw[pO,qE,qE];constructor
 .intro h c hc;obtain⟨i,hi,rfl⟩:=zM.mp hc;have:=h _ (tS (oY.mpr hi));simpa [nN,mT hi] using this
 .intro h b hb;obtain⟨i,hi,rfl⟩:=nj.mp hb;have hi:=oY.mp hi;have:=h _ (rq hi);simpa [nN,mT hi] using this
noncomputable def cell (ns:List Int)(k:Int):Int:=ns.getD k.toNat 0
def ZnV {ns:List Int}{k:Int}(h0:0<=k)(h1:k<ns.length):pC (ns.map V.int) k=some (.int (cell ns k)):=by
 have hk:k.toNat<ns.length:=by lia
 unfold pC rA cell;rw[lZ,lU h0,lU h1,sj,om,nN,mT hk];rfl
def qD (h:l.length<=1000):iZ K (tx l) H l.length:=by
 have e:(⟨l.toArray⟩:Str).length=l.length:=by simp[Str.length]
 have:l.length<=sizeLine:=mO h (by rw[sizeLine_eq];decide);exact⟨by rw[e];exact this,e.symm⟩
def cm (h:0<m)(h2:m<=2 ^ 64):jd (x % m) y:=.inl ⟨by have:=uE x (show m≠0 by lia);lia,by have:=u9 x h;lia⟩
def Bu:kitOne K t t=some true:=by unfold kitOne;simp
def D6 (h0:0<=i)(h1:i<xs.length):∃v,pC xs i=some v/\v∈xs:=by
 have hi:i.toNat<xs.length:=by lia
 refine⟨xs[i.toNat],?_,rq hi⟩;unfold pC rA;rw[lU h0,lU h1,sj,mT hi]
def uG (xs:lX):(xs.map tx).all pA=true:=by rw[qE];intro v hv;obtain⟨x,_,rfl⟩:=nj.mp hv;rfl
def fq (s:e8 H H2)(h:H e=none):e8 H (upd H2 e o'):=λb u hb=>by
 have:b≠e:=λz=>by rw[z,h]at hb;cases hb
 rw[lR this];exact s _ _ hb
def Be (p:α->Bool)(d:α)(ls:List α):((List.range ls.length).filter λi=>p (ls.getD i d)).map (λi=>ls.getD i d)=ls.filter p:=by
 have e:(List.range ls.length).map (λi=>ls.getD i d)=ls:=by
  apply qZ
  .simp
  .intro i h1 h2;simp[h2]
 have h:=List.filter_map (p:=p) (f:=λi=>ls.getD i d) (l:=List.range ls.length);rw[e]at h;rw[h];rfl
def tJ {ls:lX}{k:Nat}(h:k<ls.length):(ls.map tx).getD k V.non=tx (ls.getD k []):=by rw[nN,om,nN,mT h];rfl
def Bm {x:lN}{ls:lX}:zN (tx x) (ls.map tx)=decide (x∈ls):=by
 unfold zN;rw[pO,se,Iz];constructor
 .rintro⟨y,hy,e⟩;obtain⟨l,hl,rfl⟩:=nj.mp hy;rw[GW,Iz,xH]at e;rw[<-e];exact hl
 .intro h;exact⟨tx x,tS h,by rw[GW];exact IA rfl⟩
theorem HC:∀(xs ys:lX),deqs ((xs.map tx).map DT.f) ((ys.map tx).map DT.f)=decide (xs=ys)
 | [],[]=>by unfold deqs;rfl
 | [],y::ys=>by simp only[oP,vW];unfold deqs;rfl
 | x::xs,[]=>by simp only[oP,vW];unfold deqs;rfl
 | x::xs,y::ys=>by
  simp only[oP];unfold deqs;rw[HC xs ys];have e:oj (DT.f (tx x)) (DT.f (tx y))=decide (x=y):=by unfold oj;rw[<-vj];show ((⟨x.toArray⟩:Str) == ⟨y.toArray⟩)=_;rw[pO,IH,Iz];exact⟨λh=>by unfold tx;rw[h],λh=>by unfold tx at h;injection h⟩
  rw[e,pO,nY,Iz,Iz,Iz,List.cons.injEq]
def Zkt {ns:List Int}{lo hi:Option Int}{v:V}(h:v∈ie (ns.map V.int) lo hi):∃c,v=.int c:=by have h2:v∈ns.map V.int:=pJ (o9 h);obtain⟨c,_,rfl⟩:=nj.mp h2;exact⟨c,rfl⟩
def ZlL:(ie xs lo hi).length<=xs.length:=by
 unfold ie;rw[nG,oZ]
 lia
def Bx {K:ma}{H:Hp}{Q:VK}{a b:AD}{xs ys:lX}(h1:m8 K H a (xs.map tx))(h2:m8 K H b (ys.map tx))(q:Q (.bl (decide (xs=ys))) H):gV K false (.ref a) (.ref b) H Q:=
 .inr ⟨_,_,ja h1 (uG _),ja h2 (uG _),λz=>mQ z.1,(ownL h1 (uG _)).2.2,by unfold oj;rw[HC];exact q⟩
def Znr:V.str (Str.ofString "abcdefghijklmnopqrstuvwxyz")=tx qY:=IF V.str nofun
def ZnM (l:lN):(pz (fK l)).length<=l.length:=by
 have:∀(ls acc:lX),(ls.foldl gA acc).length<=acc.length+ls.length:=by
  intro ls;induction ls with
  | nil=>intro acc;simp
  | cons x ls ih=>
   intro acc;rw[vL];refine mO (ih _) ?_;unfold gA;split<;>simp<;>lia
 have h:=this (fK l) [];unfold pz;unfold fK at h ⊢;simpa using h
def iA (l:lN):(fK l).length=l.length:=by unfold fK;rw[lZ]
def iO (l m:lN):List (Str×V):=fO "own_kinds" (tx m) (fO "own_text" (tx l) [])
def kt:¬(("own_text":Str)="own_kinds"):=by decide +kernel
def ES:(iO l m).lookup ("own_text":Str)=some (tx l):=by unfold iO;rw[oQ,lT kt,oQ,lU rfl]
def ZiK:(iO l m).lookup ("own_kinds":Str)=some (tx m):=by unfold iO;rw[oQ,lU rfl]
def za {l m:lN} {x:Str} (h1:¬x="own_text") (h2:¬x="own_kinds"):(iO l m).lookup x=none:=by unfold iO;rw[oQ,lT h2,oQ,lT h1];rfl
def wY (C:AD)(H:Hp)(p:AD)(l m:lN):Prop:=∃dx,H p=some (.ins C dx (iO l m))
structure gx (l m:lN):Prop where
 k:rD m=true
 m1:1<=m.length
 m4:m.length<=4
 l40:l.length<=40
 mem:∀x∈l,x∈m
def FQ (ls:lX):(pz ls).length<=ls.length:=by
 have:∀(ls acc:lX),(ls.foldl gA acc).length<=acc.length+ls.length:=by
  intro ls;induction ls with
  | nil=>intro acc;simp
  | cons x ls ih=>
   intro acc;rw[vL];refine mO (ih _) ?_;unfold gA;split<;>simp<;>lia
 simpa [pz] using this ls []
def G9 (h:gx l m):uL l m 40=true:=by have h2:=h.l40;unfold uL;rw[nY,Iz,qE];exact⟨∅,λx hx=>by simpa using h.mem x hx⟩
def Zpq (h1:1<=m.length)(h4:m.length<=4)(hm:∀c∈m,c∈qY)(hp:m.Pairwise (· < ·)):rD m=true:=by rw[EV];unfold zt;rw[(Cj m).mpr ⟨hm,hp⟩];simp[h1,h4]
def Gb (l:lN){i:Int}(h:0<=i):oH l none (some i)=l.take i.toNat:=by obtain⟨k,rfl⟩:∃k:Nat,i=(k:Int):=⟨i.toNat,∅⟩;rw[wX,ve]
def ZnP (l:lN){i:Int}(h:0<=i):oH l (some i) none=l.drop i.toNat:=by obtain⟨k,rfl⟩:∃k:Nat,i=(k:Int):=⟨i.toNat,∅⟩;rw[vG,ve]
def iY {p q:Prop}[Decidable True](h:p):if True then p else q:=by rw[lU True.intro];exact h
def ZkY (l:lN)(n:Int):(ic l n).length=n.toNat*l.length:=by unfold ic;simp
def ZkX (h:x∈ic l n):x∈l:=by unfold ic at h;obtain⟨y,hy,hx⟩:=List.mem_flatten.mp h;rw[(List.mem_replicate.mp hy).2]at hx;exact hx
def z8 (h:Q (.bl true) H):gV K false (tx x) (tx x) H Q:=.inl ⟨rfl,by rw[lT mQ,IA rfl];exact h⟩
def eq_int (h:Q (.bl true) H):gV K false (.int x) (.int x) H Q:=.inl ⟨rfl,by rw[lT mQ,IA rfl];exact h⟩
def Dr (w:lN):oH w none (some (-1))=w.dropLast:=by
 unfold oH;have e1:HT.sIx w.length w.length (some (-1))=w.length-1:=by
  unfold HT.sIx;simp only[];rw[lU ⋯]
  lia
 have e2:HT.sIx w.length 0 none=0:=rfl;rw[e1,e2,rK,x8];rfl
def yX (w:lN):oH w (some 1) none=w.tail:=by have:=vG w 1;rw[List.drop_one]at this;exact this
def DC (hm:m.length<=4)(hl:l.length<=40)(hi:i<=41):(uA l m i).length<=6724:=by
 have h1:∀k,(ui (fL l k) (fL l (k+1)) m).length<=164:=λk=>mO (Zj4 _ _ _) (mO (vy (DU l k) hm) ∅);have h2:=xv (f:=λk=>ui (fL l k) (fL l (k+1)) m) h1 (List.range i);rw[rW]at h2;have:i*164<=41*164:=Nat.mul_le_mul_right _ hi;unfold uA
 lia
def vA (hl:l.length<=40)(h:w∈m5 l m):w.length<=41:=by
 have:=(pM.mp h).1.init.len;rw[qm]at this
 lia
def Bv (hlm:∀x∈l,x∈m)(h:w∈m5 l m):∀x∈w,x∈m:=by
 obtain⟨ms,c,hc,hlast⟩:=pM.mp h;have e:w.dropLast++[c]=w:=by rw[vt ms.ne]at hlast;have h:=yR ms.ne;rw[Option.some.inj hlast]at h;exact h
 intro x hx;rw[<-e]at hx;rcases nJ.mp hx with hx | hx
 .exact hlm x (ms.init.mem hx)
 .rw[mU.mp hx];exact hc
def vT {α:Type}{l:List α}{i:Nat}{x:α}(h:l[i]?=some x):l.take (i+1)=l.take i++[x]:=by rw[List.take_succ,h];rfl
def BS (h:x∈oH l lo hi):x∈l:=pJ (o9 h)
def zE (f:Str):IJ->List (Str×V):=λr=>fO f (r.getD 0 .non) []
def ZnE:(zE f vs).lookup f=some (vs.getD 0 .non):=by unfold zE;rw[oQ,lU rfl]
structure zo (m:lN):Prop where
 k:rD m=true
 m1:1<=m.length
 m4:m.length<=4
def B3 (h:(l.length:Int)<=most)(hm:∀x∈l,x∈m):uL l m most=true:=by unfold uL;rw[nY,Iz,qE];exact⟨h,λx hx=>by simpa using hm x hx⟩
def Gc (h:H e=none):e8 H (upd (upd H e o) e o'):=λb u hb=>by
 have:b≠e:=λz=>by rw[z,h]at hb;cases hb
 rw[lR this,lR this];exact hb
def EX (x:rN H e C fs):∃d,H e=some (xo e C d)/\ig (upd H e (xr e C d)) e C fs:=by
 cases x with
 | bare h=>exact⟨none,h,.bare mq⟩
 | @full d _ h1 h2 h3=>exact⟨some d,h1,.full mq (by rw[lR h3];exact h2) h3⟩
def ye (l x:lN):Bool:=!gc x l&&(gc x.tail l&&gc x.dropLast l)
def iI:pC (x::xs) 0=some x:=by unfold pC rA;rw[lU (Int.le_refl _),lU (by rw[oN];lia)];rfl
def Fi:∀k<26,qY.getD k 0=97+k:=by decide
def Zln (h1:97<=x)(h2:x<=122):x∈qY:=by
 have h:∀k,k<26->97+k∈qY:=by decide
 have h3:=h (x-97) ∅
 rwa [show 97+(x-97)=x by lia]at h3
def FR (h0:0<=i)(h1:i<m.length):pC m i=some (m.getD i.toNat 0):=by
 have h:i.toNat<m.length:=by lia
 unfold pC rA;rw[lU h0,lU h1,sj,nN,mT h];rfl
def Zie {G:Prop}{T C:Hp->Prop}(h1:(∀H7,C H7->T H7)->G)(h2:∀H7,C H7->T H7):G:=h1 h2
def xg (h:rD m=true):m.Pairwise (· < ·):=by rw[EV]at h;unfold zt at h;rw[nY]at h;exact((Cj m).mp h.2).2
def wD (l m:lN):Bool:=uL l m 1&&decide ((l.length:Int)=1)
def ZoK:
  PassesOwn (model (gE CX P w K mg base N qual scope f cd A outer s H E).prog (gE CX P w K mg base N qual scope f cd A outer s H E).w) (gE CX P w K mg base N qual scope f cd A outer s H E).A (gE CX P w K mg base N qual scope f cd A outer s H E).env (gE CX P w K mg base N qual scope f cd A outer s H E).xe:=PassesOwn.leaving
def zo.kinds (h:zo m):ii m:=⟨h.k,h.m1,h.m4,xg h.k⟩
def Znx (h:c∈m):wD [c] m=true:=by unfold wD;rw[B3 (by show ((1:Nat):Int)<=1;decide) (λx hx=>by rw[mU.mp hx];exact h)];rfl
def Hs (ne:x≠[]):ye l x=true↔io l x:=by
 unfold ye;rw[nY,nY,Bool.not_eq_true',BP,qI,qI];constructor
 .rintro⟨a,b,c⟩;exact⟨ne,c,b,a⟩
 .rintro⟨_,c,b,a⟩;exact⟨a,b,c⟩
def qo (L:lN)(i:Nat):lX:=(List.range i).flatMap λk=>[L.take (k+1),L.drop (L.length-(k+1))]
def Gr (L:lN)(i:Nat):qo L (i+1)=qo L i++[L.take (i+1),L.drop (L.length-(i+1))]:=by unfold qo;rw[t8,yE,List.flatMap_singleton]
theorem zK (L:lN):∀i,(qo L i).length=2*i
 | 0=>rfl
 | i+1=>by rw[Gr,mP,zK L i];simp;lia
def G0:w∈qo L i↔∃k,1<=k/\k<=i/\(w=L.take k\/w=L.drop (L.length-k)):=by
 unfold qo;rw[uN];constructor
 .rintro⟨k,hk,h⟩;have hk:=oY.mp hk;simp only[m6,List.not_mem_nil,or_false]at h;exact⟨k+1,∅,∅,h⟩
 .rintro⟨k,h1,h2,h⟩;refine⟨k-1,oY.mpr ∅,?_⟩;have e:k-1+1=k:=by lia
  rw[e];simpa using h
def FZ (h:gD H zs rs){i:Nat}(hi:i<zs.length):∃t u,zs.getD i .non=.ref t/\H t=some (.tup [tx ((rs.map (·.1)).getD i []),u]):=by obtain⟨r,hr,t,b,e,h1,_⟩:=h.2 i zs[i] (mT hi);refine⟨t,.ref b,by rw[nN,mT hi];exact e,?_⟩;rw[h1,nN,om,hr];rfl
def DR {rs:List (lN×IJ)}{n:Nat}(h:n=rs.length):((List.range n).filter λ_=>true).map (λi=>tx ((rs.map (·.1)).getD i []))=(rs.map (·.1)).map tx:=by
 subst h;rw[List.filter_eq_self.mpr (λ_ _=>rfl)];apply qZ {};intro i h1 h2;have hi:i<rs.length:=by simpa using h2
 simp[nN,mT hi]
def Zg4 {kvs:List (mh×V)}{k:mh}{v:V}(h:fh kvs k=some v):k∈kvs.map (·.1):=by
 unfold fh at h;obtain⟨p,hp,_⟩:=Option.map_eq_some_iff.mp h;have e:p.1=k:=by simpa using List.find?_some hp
 rw[<-e];exact tS (List.mem_of_find?_eq_some hp)
def Zlr (l:List (mh×V))(v:V)(h:k∈l.map (·.1)):(fz l k v).map (·.1)=l.map (·.1):=by
 unfold fz;have ha:(l.any λkv=>decide (kv.1=k))=true:=by obtain⟨p,hp,e⟩:=nj.mp h;exact se.mpr ⟨p,hp,IA e⟩
 rw[lU ha,oX];refine yw λp _=>?_;show (if p.1=k then (p.1,v) else p).1=p.1;split<;>rfl
structure DI (H:Hp)(s L rs:lN)(S:lN->Prop)(kvs:List (mh×V))(ws:lX):Prop where
 keys:kvs.map (·.1)=ws.map lV
 nd:ws.Nodup
 mem:∀w,w∈ws↔io L w/\S w
 val:∀w∈ws,∃b,fh kvs (lV w)=some (.ref b)/\H b=some (.tup [tx rs,tx (iB s w),.int (tY L (iB s w):Nat)])
def DI.grow (h:DI H s L rs S kvs ws)(sm:∀b us,H b=some (.tup us)->H' b=some (.tup us))(hS:∀w,io L w->(S w↔S' w)):DI H' s L rs S' kvs ws:=
 ⟨h.keys,h.nd,λw=>(h.mem w).trans ⟨λ⟨a,b⟩=>⟨a,(hS w a).mp b⟩,λ⟨a,b⟩=>⟨a,(hS w a).mpr b⟩⟩,λw hw=>let ⟨b,h1,h2⟩:=h.val w hw;⟨b,h1,sm _ _ h2⟩⟩
def DI.put (h:DI H s L rs S kvs ws)(mx:io L x)(hb:H b=some (.tup [tx rs,tx (iB s x),.int (tY L (iB s x):Nat)])):
  ∃ws',DI H s L rs (λw=>S w\/w=x) (fz kvs (lV x) (.ref b)) ws':=by
 by_cases hx:x∈ws
 .refine⟨ws,?_,h.nd,λw=>?_,λw hw=>?_⟩
  .rw[Zlr,h.keys];rw[h.keys];exact tS hx
  .rw[h.mem];constructor
   .rintro⟨a,c⟩;exact⟨a,.inl c⟩
   .rintro⟨a,c | rfl⟩
    .exact⟨a,c⟩
    .exact(h.mem w).mp hx
  .rw[qv];by_cases e:w=x
   .subst e;exact⟨b,by rw[lU rfl],hb⟩
   .rw[lT (λz=>e (qd z))];exact h.val w hw
 .have hv:fh kvs (lV x)=none:=by
   cases e:fh kvs (lV x) with
   | none=>rfl
   | some v=>
    exfalso;have:=Zg4 e;rw[h.keys]at this;obtain⟨y,hy,e2⟩:=nj.mp this;exact hx (qd e2▸hy)
  refine⟨ws++[x],?_,?_,λw=>?_,λw hw=>?_⟩
  .rw[yZ _ hv,qj,h.keys,qj];rfl
  .rw[vI];refine⟨h.nd,{},λa ha c hc e=>?_⟩;rw[mU.mp hc]at e;exact hx (e▸ha)
  .rw[nJ,mU,h.mem];constructor
   .rintro (⟨a,c⟩ | rfl)
    .exact⟨a,.inl c⟩
    .exact⟨mx,.inr rfl⟩
   .rintro⟨a,c | rfl⟩
    .exact .inl ⟨a,c⟩
    .exact .inr rfl
  .rw[qv];by_cases e:w=x
   .subst e;exact⟨b,by rw[lU rfl],hb⟩
   .rw[lT (λz=>e (qd z))];rcases nJ.mp hw with z | z
    .exact h.val w z
    .exact IG (mU.mp z) e
def ZkJ (T:ge H P pos q)(k:∀b o,H b=some o->b≠pd->H' b=some o)(h:H pd=some o0)(t:sT o0=false)(x:zn o0=false):ge H' P pos q:=by obtain⟨ps,e,tr,hc⟩:=T;refine⟨ps,k _ _ e (λz=>by rw[z,h]at e;cases e;cases t),tr,hc.imp id ?_⟩;rintro⟨c,e1,e2⟩;exact⟨c,e1,k _ _ e2 (λz=>by rw[z,h]at e2;unfold uu at e2;cases e2;cases x)⟩
def xN (rs s L m:lN):(sU rs s L m).map (·.1)=ib s L m:=by unfold sU;rw[oX];exact List.map_id' _
def y8 (rs s L m:lN):(ub rs s L m).map (·.1)=iX s L m:=by unfold ub;rw[oX];exact List.map_id' _
def wI (hm:m.length<=4)(hl:l.length<=40):(m5 l m).length<=6724:=DC hm hl ∅
def Bp 
  (hp:fE C H p la da l m ds) (c3:nQ [da] H H3) (d3:H3 da=some (.lst ts2)) (e3:fV H3 ts2 ds2) (ch:nQ [p] H3 H4) (f4:vd C H4 p la2 da l2 m) (l4:H4 la2=some (.lst ((m5 l2 m).map tx))) (an:iq H3 H4 t c g la2 rc rg) (run:qC m ds2 l2):
  nQ [p,da] H H4/\fE C H4 p la2 da l2 m ds2/\iq H H4 t c g la2 rc rg:=by
 obtain⟨⟨dx,f⟩,hk,⟨ts,d1,d2⟩,_,ok,nld⟩:=id hp;have npd:p≠da:=λz=>by rw[z,d1]at f;cases f
 have f3:=c3 _ _ f (~~~npd) rfl;have nw:∀r,Nw H3 r->Nw H r:=λr n=>n.chg c3 λb hb=>by obtain rfl:=mU.mp hb;exact⟨_,d3,rfl⟩
 refine⟨(c3.mono {}).trans (ch.mono {}),⟨f4,l4,⟨ts2,ch _ _ d3 (~~~mH npd) rfl,e3.chg ch λb hb us z=>by rw[mU.mp hb,f3]at z;cases z⟩,run,ok,mH (an.nl.ne d3 rfl)⟩,⟨an.tup,an.came,an.went,nw _ an.nc,nw _ an.ng,nw _ an.nl,an.ncg,an.ncl,an.ngl⟩⟩
def Zkn (ds:List (Bool×Nat)):qr (.l (ds.map xG))<=2:=by unfold qr;refine yO (G8 λd hd=>?_);obtain⟨x,_,rfl⟩:=nj.mp hd;exact Zkm x
noncomputable def G4 (x:Str):Bool:=!decide (x="own_text")&&!decide (x="own_kinds")&&!decide (x="own_lacking")&&!decide (x="own_deeds")
def sN (h:G4 x=true:=by decide +kernel):(sF l m la da).lookup x=none:=by unfold G4 at h;simp only[nY,Bool.not_eq_true',ID]at h;exact ZqE h.1.1.1 h.1.1.2 h.1.2 h.2
def rL (ws:lX)(w:lN):Bool:=!(ws.any λp=>gc p w)
def EJ {G:Prop}{T C:Int->Prop}(h1:(∀n,C n->T n)->G)(h2:∀n,C n->T n):G:=h1 h2
def Znm {K:ma}{H:Hp}{Q:VK}{a b:AD}{L:lX}(h1:m8 K H a (L.map tx))(h2:m8 K H b [])(q:Q (.bl (!L.isEmpty)) H):gV K true (.ref a) (.ref b) H Q:=
 .inr ⟨_,_,ja h1 (uG L),ja h2 rfl,λz=>mQ z.1,(ownL h1 (uG L)).2.2,by
  cases L with
  | nil=>exact q
  | cons x y=>exact q⟩
def vM (m:lN)(q:AD):List (Str×V):=fO "own_rooms" (.ref q) (fO "own_kinds" (tx m) [])
def krm:¬(("own_kinds":Str)="own_rooms"):=by decide +kernel
def Zha:(vM m q).lookup ("own_kinds":Str)=some (tx m):=by unfold vM;rw[oQ,lT krm,oQ,lU rfl]
def Zg9:(vM m q).lookup ("own_rooms":Str)=some (.ref q):=by unfold vM;rw[oQ,lU rfl]
def Bz {m:lN} {q:AD} {x:Str} (h1:¬x="own_rooms") (h2:¬x="own_kinds"):(vM m q).lookup x=none:=by unfold vM;rw[oQ,lT h1,oQ,lT h2];rfl
def hJ (C:AD)(H:Hp)(p:AD)(l m:lN)(sp:lX):Prop:=∃(dx q:AD) (ys:IJ),H p=some (.ins C dx (vM m q))/\H q=some (.lst ys)/\gK H l m sp ys
def hJ.same (r:hJ C H p l m sp)(s:e8 H H'):hJ C H' p l m sp:=by obtain⟨dx,q,ys,h1,h2,h3⟩:=r;exact⟨dx,q,ys,s _ _ h1,s _ _ h2,h3.same s⟩
def Zrr (l:lN)(sp:lX)(w:lN)(v:V):Prop:=(¬mj w l/\v=.non)\/(mj w l/\∃j:Nat,sp[j]?=some (pP l w)/\v=.int (j:Int))
def Gd (l:lN)(kvs:List (mh×V)):Prop:=(∀kv∈kvs,∃x:lN,kv.1=lV x/\mj x l)/\∀x:lN,(fh kvs (lV x)).isSome=gc x l
def gK.upd (h:gK H l m sp ys)(hp:H p=some (.ins C dx fs)):gK (upd H p o) l m sp ys:=by
 refine⟨h.first,h.len,h.nd,λi y e=>?_⟩;obtain⟨t,d,w,kvs,e1,h1,h2,r⟩:=h.rooms i y e;refine⟨t,d,w,kvs,e1,?_,?_,r⟩
 .rw[lR (λz=>by rw[z,hp]at h1;cases h1)];exact h1
 .have nz:d≠p:=λz=>by
   rcases h2 with h2 | ⟨o,h2⟩
   .rw[z,hp]at h2;cases h2
   .rw[z,hp]at h2;cases h2
  rcases h2 with h2 | ⟨o,h2⟩
  .exact .inl (by rw[lR nz];exact h2)
  .exact .inr ⟨o,by rw[lR nz];exact h2⟩
def ZiL (hi:i<=l.length)(h:(r=-1/\¬mj (l.drop i) l)\/∃k:Nat,r=(k:Int)/\nB l (l.drop i) k/\∀j,j<k->¬nB l (l.drop i) j):decide (V.int r=V.int (i:Nat))=decide (∀j,j<i->¬nB l (l.drop i) j):=by
 have hA:nB l (l.drop i) i:=by refine⟨by rw[oZ];lia,?_⟩;rw[pK]
 rw[pO,Iz,Iz];rcases h with⟨_,h⟩|⟨k,rfl,hk,hmin⟩
 .exact IG ⟨i,hA⟩ h
 .constructor
  .intro e;injection e with e;have:k=i:=by lia
   subst this;exact hmin
  .intro h2;have h3:¬k<i:=λz=>h2 k z hk;have h4:¬i<k:=λz=>hmin i z hA;have:k=i:=by lia
   rw[this]
def cut1 {l:lN}{s c:Nat}:decide (tx (oH l (some (s:Int)) (some ((s:Int)+1)))=tx [c])=decide (l[s]?=some c):=by
 have e:((s:Int)+1)=((s+1:Nat):Int):=by lia
 rw[vj,e,zH];have e2:s+1-s=1:=by lia
 rw[e2,pO,Iz,Iz];by_cases h:s<l.length
 .rw[mT h];have e3:(l.drop s).take 1=[l[s]]:=by rw[List.take_one,List.head?_drop,mT h];rfl
  rw[e3];constructor
  .intro z;injection z with z _;rw[z]
  .intro z;injection z with z;rw[z]
 .rw[tI ∅,sH ∅];simp
def Zew (S:lN)(p:Nat->Bool)(f:Nat->Nat):((List.range S.length).filter λi=>p (S.getD i 0)).map (λi=>V.int ((f (S.getD i 0):Nat):Int))=(((S.filter p).map f).map λ(i:Nat)=>V.int i):=by rw[<-Be p 0 S,oX,oX];rfl
def wE (h:mj w l)(k:Nat):mj (w.take k) l:=by
 obtain⟨i,h1,h2⟩:=h;have hl:(w.take k).length<=w.length:=by rw[nG];lia
 refine⟨i,∅,?_⟩;have e:(l.drop i).take (w.take k).length=((l.drop i).take w.length).take (w.take k).length:=by rw[sQ,re hl]
 rw[e,h2,nG];by_cases c:k<=w.length
 .rw[re c]
 .rw[Nat.min_eq_right ∅,pK,qH ∅]
def fZ (s:lN):List mh:=s.map λ(i:Nat)=>(Sum.inl ((i:Nat):Int):mh)
def Dw (s:lN):(fZ s).map kV=s.map λ(i:Nat)=>V.int i:=by unfold fZ;rw[oX];rfl
def Ec (h:fZ s=fZ t):s=t:=by unfold fZ at h;exact(List.map_inj_right (f:=λ(i:Nat)=>(Sum.inl ((i:Nat):Int):mh)) (λx y e=>by injection e with e;exact Int.ofNat.inj e)).mp h
def gF (sp:lX):List (List mh×V):=sp.zipIdx.map λp=>(fZ p.1,V.int ((p.2:Nat):Int))
def Fs (sp:lX):(gF sp).length=sp.length:=by unfold gF;simp
def Hw (h:s∉sp):fh (gF sp) (fZ s)=none:=by
 unfold fh;have:(gF sp).find? (λkv=>decide (kv.1=fZ s))=none:=by rw[List.find?_eq_none];intro kv hkv;unfold gF at hkv;obtain⟨p,hp,rfl⟩:=nj.mp hkv;have h1:=List.fst_mem_of_mem_zipIdx hp;intro z;have z:fZ p.1=fZ s:=IC z;exact h (by rw[<-Ec z];exact h1)
 first | (rw[this];rfl) | simp[this]
def Ik {sp:lX}{s:lN}{j:Nat}(nd:sp.Nodup)(h:sp[j]?=some s):fh (gF sp) (fZ s)=some (.int (j:Int)):=by
 have hj:=(mX.mp h).1;have hs:(gF sp).find? (λkv=>decide (kv.1=fZ s))=some (fZ s,.int (j:Int)):=by
  rw[List.find?_eq_some_iff_getElem];refine⟨{},j,by rw[Fs];exact hj,?_,λk hk=>?_⟩
  .unfold gF;rw[List.getElem_map,List.getElem_zipIdx];have:=(mX.mp h).2;simp[this]
  .unfold gF;rw[List.getElem_map,List.getElem_zipIdx];have hk':k<sp.length:=by lia
   simp only[Bool.not_eq_true',ID];intro z;have:=Ec z;exact IG (Zlc nd (mT hk') (by rw[this];exact h)) ∅
 unfold fh
 first | (rw[hs];rfl) | simp[hs]
def ZjL (h:s∉sp):fz (gF sp) (fZ s) (.int (sp.length:Int))=gF (sp++[s]):=by rw[yZ _ (Hw h)];unfold gF;rw[List.zipIdx_append,qj];simp
structure gZ (H:Hp)(ps pw pn:AD)(l:lN)(sp ws:lX)(ts:List AD):Prop where
 hs:H ps=some (.lst (ts.map V.ref))
 hw:H pw=some (.lst (ws.map tx))
 hn:H pn=some (.dT (gF sp))
 tl:ts.length=sp.length
 tt:∀(i:Nat) (t:AD) (s:lN),ts[i]?=some t->sp[i]?=some s->H t=some (.tup (s.map λ(i:Nat)=>V.int i))
 wl:ws.length=sp.length
 wt:∀(i:Nat) (w s:lN),ws[i]?=some w->sp[i]?=some s->s=pP l w/\mj w l
 nd:sp.Nodup
 f0:sp[0]?=some (pN l)
def gZ.same (r:gZ H ps pw pn l sp ws ts)(s:e8 H H'):gZ H' ps pw pn l sp ws ts:=
 ⟨s _ _ r.hs,s _ _ r.hw,s _ _ r.hn,r.tl,λi t u a b=>s _ _ (r.tt i t u a b),r.wl,r.wt,r.nd,r.f0⟩
def gZ.other (r:gZ H ps pw pn l sp ws ts)(h:H a=some o0)(hne:∀xs,o0≠.tup xs)(n1:ps≠a)(n2:pw≠a)(n3:pn≠a):gZ (upd H a o) ps pw pn l sp ws ts:=by refine⟨by rw[lR n1];exact r.hs,by rw[lR n2];exact r.hw,by rw[lR n3];exact r.hn,r.tl,λi t u x y=>?_,r.wl,r.wt,r.nd,r.f0⟩;have:=r.tt i t u x y;rw[lR (λz=>by rw[z,h]at this;exact hne _ (Option.some.inj this))];exact this
def gZ.push (r:gZ H ps pw pn l sp ws ts)(n1:ps≠pw)(n2:ps≠pn)(n3:pw≠pn)(hb:H tb=some (.tup (s.map λ(i:Nat)=>V.int i)))(hs:s∉sp)(e:s=pP l w)(hI:mj w l):
  gZ (upd (upd (upd H pn (.dT (fz (gF sp) (fZ s) (.int (sp.length:Int))))) ps (.lst (ts.map V.ref++[.ref tb]))) pw (.lst (ws.map tx++[tx w]))) ps pw pn l (sp++[s]) (ws++[w]) (ts++[tb]):=by
 have keep:∀t xs,H t=some (.tup xs)->upd (upd (upd H pn (.dT (fz (gF sp) (fZ s) (.int (sp.length:Int))))) ps (.lst (ts.map V.ref++[.ref tb]))) pw (.lst (ws.map tx++[tx w])) t=some (.tup xs):=λt xs h=>by rw[lR (λz=>by rw[z,r.hw]at h;cases h),lR (λz=>by rw[z,r.hs]at h;cases h),lR (λz=>by rw[z,r.hn]at h;cases h)];exact h
 refine⟨?_,?_,?_,?_,?_,?_,?_,?_,?_⟩
 .rw[lR n1,mq];simp
 .rw[mq];simp
 .rw[lR (mH n3),lR (mH n2),mq,ZjL hs]
 .rw[mP,mP,r.tl];rfl
 .intro i t u h1 h2;by_cases c:i<sp.length
  .rw[py (by rw[r.tl];exact c)]at h1;rw[py c]at h2;exact keep _ _ (r.tt i t u h1 h2)
  .have hi:i=sp.length:=by have:=(mX.mp h2).1;rw[mP,oC]at this;lia
   subst hi;rw[qu ∅]at h2;rw[qu (by rw[r.tl];lia),r.tl]at h1;simp at h1 h2;rw[<-h1,<-h2];exact keep _ _ hb
 .rw[mP,mP,r.wl];rfl
 .intro i v u h1 h2;by_cases c:i<sp.length
  .rw[py (by rw[r.wl];exact c)]at h1;rw[py c]at h2;exact r.wt i v u h1 h2
  .have hi:i=sp.length:=by have:=(mX.mp h2).1;rw[mP,oC]at this;lia
   subst hi;rw[qu ∅]at h2;rw[qu (by rw[r.wl];lia),r.wl]at h1;simp at h1 h2;rw[<-h1,<-h2];exact⟨e,hI⟩
 .rw[vI];exact⟨r.nd,{},λx hx y hy=>by rw[mU.mp hy];exact λz=>hs (by rw[<-z];exact hx)⟩
 .rw[py (mX.mp r.f0).1];exact r.f0
def gZ.le (r:gZ H ps pw pn l sp ws ts)(hl:l.length<=40):sp.length<=1681:=by refine ZkW r.nd (λs hs=>?_) hl;obtain⟨i,hi,rfl⟩:=zM.mp hs;have hw:ws[i]?=some (ws[i]'(by rw[r.wl];exact hi)):=mT _;obtain⟨a,b⟩:=r.wt i _ _ hw (mT hi);exact⟨_,b,a⟩
def gh (H:Hp)(P:AD->Prop)(l m:lN)(sp:lX)(i:Nat)(y:V):Prop:=∃(t d:AD) (w:lN) (kvs:List (mh×V)),y=.ref t/\H t=some (.tup [tx w,.ref d])/\H d=some (.dK kvs)/\P d/\mj w l/\w.length<=l.length/\sp[i]?=some (pP l w)/\∀c∈m,uZ l sp (pP l w) c (fh kvs (lV [c]))
def gh.same (h:gh H P l m sp i y)(s:e8 H H'):gh H' P l m sp i y:=by obtain⟨t,d,w,kvs,e,h1,h2,r⟩:=h;exact⟨t,d,w,kvs,e,s _ _ h1,s _ _ h2,r⟩
def gh.mono (h:gh H P l m sp i y)(f:∀d kvs,H d=some (.dK kvs)->P d->P' d):gh H P' l m sp i y:=by obtain⟨t,d,w,kvs,e,h1,h2,hp,r⟩:=h;exact⟨t,d,w,kvs,e,h1,h2,f d kvs h2 hp,r⟩
def gh.other (r:gh H P l m sp i y)(h:H a=some o0)(hne:∀xs,o0≠.tup xs)(hd:∀d,P d->d≠a\/∀kvs,o0≠.dK kvs):gh (upd H a o) P l m sp i y:=by
 obtain⟨t,d,w,kvs,e,h1,h2,hp,r⟩:=r;refine⟨t,d,w,kvs,e,?_,?_,hp,r⟩
 .rw[lR (λz=>by rw[z,h]at h1;exact hne _ (Option.some.inj h1))];exact h1
 .rw[lR (λz=>?_)]
  .exact h2
  .rcases hd d hp with k | k
   .exact k z
   .rw[z,h]at h2;exact k _ (Option.some.inj h2)
def gh.more {H:Hp}{P:AD->Prop}{l m:lN}{sp more:lX}{i:Nat}{y:V}(r:gh H P l m sp i y):gh H P l m (sp++more) i y:=by obtain⟨t,d,w,kvs,e,h1,h2,hp,a,b,c,f⟩:=r;exact⟨t,d,w,kvs,e,h1,h2,hp,a,b,by rw[py (mX.mp c).1];exact c,λx hx=>(f x hx).more⟩
def kTx1:lV [c]=lV [d]↔c=d:=⟨λe=>by unfold lV at e;injection e with e;injection e with e;injection e with e;injection e,λe=>by rw[e]⟩
def Zns:∀k<8,([97,98,99,100,101,102,103,104]:lN).getD k 0=97+k:=by decide
def Zny (h:s<=e)(he:e<=l.length):mj ((l.drop s).take (e-s)) l:=by
 refine⟨s,?_,?_⟩
 .rw[nG,oZ];lia
 .rw[nG,oZ,re ∅]
def Zpu (h:mj x l):∃s e,s<=e/\e<=l.length/\x=(l.drop s).take (e-s):=by obtain⟨i,h1,h2⟩:=h;exact⟨i,i+x.length,∅,h1,by rw[show i+x.length-i=x.length by lia];exact h2.symm⟩
def qd (e:lV x=lV y):x=y:=by unfold lV at e;injection e with e;injection e with e;injection e
def iE (l:lN)(kvs:List (mh×V)):Prop:=∀kv∈kvs,∃x:lN,kv.1=lV x/\mj x l
def iE.put (h:iE l kvs)(hx:mj x l):iE l (fz kvs (lV x) v):=by
 intro kv hkv;unfold fz at hkv;split at hkv
 .obtain⟨k0,h0,rfl⟩:=nj.mp hkv;obtain⟨y,e,hy⟩:=h k0 h0;refine⟨y,?_,hy⟩;show (if k0.1=lV x then (k0.1,v) else k0).1=lV y;split<;>exact e
 .rcases nJ.mp hkv with h1 | h1
  .exact h kv h1
  .rw[mU.mp h1];exact⟨x,rfl,hx⟩
def ut {kvs:List (mh×V)}{k k':mh}{v:V}(h:(fh kvs k').isSome=true\/k'=k):(fh (fz kvs k v) k').isSome=true:=by
 rw[qv];split
 .rfl
 .rcases h with h | h
  .exact h
  .exact IG h (by assumption)
def Zlq (h1:iE l kvs)(h0:(fh kvs (lV [])).isSome=true)(h2:∀s e,s<l.length->s<=e->e<=l.length->(fh kvs (lV ((l.drop s).take (e-s)))).isSome=true):Gd l kvs:=by
 refine⟨h1,λx=>?_⟩;rw[pO,qI];constructor
 .intro h;obtain⟨v,hv⟩:=Option.isSome_iff_exists.mp h;obtain⟨kv,hk,ek⟩:=nj.mp (HJ hv);obtain⟨y,ey,hy⟩:=h1 kv hk;rw[<-qd (ek.symm.trans ey)]at hy;exact hy
 .intro h;obtain⟨s,e,a,b,rfl⟩:=Zpu h;by_cases c:s<l.length
  .exact h2 s e c a b
  .have:(l.drop s).take (e-s)=[]:=by rw[sH ∅];simp
   rw[this];exact h0
def zr {kvs:List (mh×V)}{k:mh}(v:V)(hn:(kvs.map (·.1)).Nodup):((fz kvs k v).map (·.1)).Nodup:=by
 cases h:fh kvs k with
 | none=>exact Znn v hn h
 | some x=>
  have e:(fz kvs k v).map (·.1)=kvs.map (·.1):=by unfold fz;rw[lU (by obtain⟨kv,hk,ek⟩:=nj.mp (HJ h);exact se.mpr ⟨kv,hk,IA ek⟩),oX];refine yw λp _=>?_;show (if p.1=k then (p.1,v) else p).1=p.1;split<;>rfl
  rw[e];exact hn
def Hg (l:lN)(kvs:List (mh×V)):Prop:=Gd l kvs/\(kvs.map (·.1)).Nodup/\kvs.length<=4000
def gR (l:lN)(kvs:List (mh×V)):Prop:=iE l kvs/\(kvs.map (·.1)).Nodup
def gR.put (h:gR l kvs)(hx:mj x l):gR l (fz kvs (lV x) v):=⟨h.1.put hx,zr v h.2⟩
def TT (a:Ad)(H:Hp):Prop:=ge H a.t_K9 lpos lq/\True
def TT.same (t:TT a H)(s:e8 H H'):TT a H':=⟨t.1.same s,trivial⟩
def TT.upd (t:TT a H)(h:H b=some o)(n1:sT o=false)(n2:zn o=false):TT a (upd H b o'):=⟨t.1.upd h n1 n2,trivial⟩
def Zmv (T:TT a H)(k:∀b o,H b=some o->b≠pd->H' b=some o)(h:H pd=some o0)(t:sT o0=false)(x:zn o0=false):TT a H':=⟨ZkJ T.1 k h t x,trivial⟩
def i3 (a:Ad)(H:Hp)(p:AD)(l m:lN):Prop:=wY a.c_LX H p l m\/∃la da ds,fE a.c_LZ H p la da l m ds
def i3.l {a:Ad}{H H':Hp}{p:AD}{l m:lN}(h:i3 a H p l m)(s:fQ H H'):i3 a H' p l m:=by
 rcases h with⟨dx,h⟩|⟨la,da,ds,h⟩
 .exact .inl ⟨dx,s _ _ h rfl⟩
 .exact .inr ⟨la,da,ds,h.l s⟩
structure LsOk (xs:lX):Prop where
 srt:xs.Pairwise gn
 len:xs.length<=200
 w:∀w∈xs,1<=w.length/\w.length<=41
def vh (f g:Str):IJ->List (Str×V):=λr=>fO g (r.getD 1 .non) (fO f (r.getD 0 .non) [])
def Zrp (h:¬f=g):(vh f g vs).lookup f=some (vs.getD 0 .non):=by unfold vh;rw[oQ,lT h,oQ,lU rfl]
def Zro:(vh f g vs).lookup g=some (vs.getD 1 .non):=by unfold vh;rw[oQ,lU rfl]
def ud (h:l.length<=9000):iZ K (tx l) H l.length:=by
 have e:(⟨l.toArray⟩:Str).length=l.length:=by simp[Str.length]
 have:l.length<=sizeLine:=mO h (by rw[sizeLine_eq];decide);exact⟨by rw[e];exact this,e.symm⟩
structure GL (m:lN)(ws:lX):Prop where
 nd:ws.Nodup
 len:ws.length<=200
 ne:∀w∈ws,w≠[]
 w41:∀w∈ws,w.length<=41
 wm:∀w∈ws,∀c∈w,c∈m
def GL.perm (h:GL m ws)(p:vs.Perm ws):GL m vs:=
 ⟨p.nodup_iff.mpr h.nd,by rw[p.length_eq];exact h.len,λw hw=>h.ne w (p.mem_iff.mp hw),λw hw=>h.w41 w (p.mem_iff.mp hw),λw hw=>h.wm w (p.mem_iff.mp hw)⟩
def GL.stemAv (h:GL m ws)(ha:iH ws){u:lN}(hu:gN ws u):Av ws u:=ZmE ha h.ne hu
structure KO (m:lN):Prop where
 k:rD m=true
 m1:1<=m.length
 m4:m.length<=4
def vO:rL ws w=true↔Av ws w:=by unfold rL Av;rw[Bool.not_eq_true',List.any_eq_false];exact⟨λa v hv hi=>a v hv (qI.mpr hi),λa v hv hi=>a v hv (qI.mp hi)⟩
structure iJ (ws:lX)(kvs:List (mh×V)):Prop where
 key:∀kv∈kvs,∃u:lN,kv.1=lV u/\gN ws u
 has:∀u,gN ws u->(fh kvs (lV u)).isSome=true
 nd:(kvs.map (·.1)).Nodup
 len:kvs.length<=8201
def yz {kvs:List (mh×V)}{k:mh}(h:(fh kvs k).isSome=true):∃kv∈kvs,kv.1=k:=by
 unfold fh at h;cases e:kvs.find? λkv=>decide (kv.1=k) with
 | none=>rw[e]at h;cases h
 | some kv=>exact⟨kv,List.mem_of_find?_eq_some e,by simpa using List.find?_some e⟩
def iJ.iff (h:iJ ws kvs)(u:lN):(fh kvs (lV u)).isSome=true↔gN ws u:=by
 constructor
 .intro z;obtain⟨kv,hm,e⟩:=yz z;obtain⟨v,ev,hv⟩:=h.key kv hm;rw[qd (e.symm.trans ev)];exact hv
 .exact h.has u
def Zo8 (h:∀b:Bool,(b=true->x≠y)->Q (.bl b) H):gV K true (tx x) (tx y) H Q:=.inl ⟨rfl,by rw[lU rfl];exact h _ λz e=>by rw[e]at z;simp at z⟩
noncomputable def gY (ws:lX) (u:lN):lN:=Classical.choose (Fx ws u)
def xW (ws:lX)(u:lN):rO ws u (gY ws u):=Classical.choose_spec (Fx ws u)
def gp (ws:lX)(m u:lN):lN:=m.filter λc=>rL ws (u++[c])
noncomputable def oE (ws:lX) (m u:lN):List (Nat×lN):=(gp ws m u).map λc=>(c,gY ws (u++[c]))
noncomputable def fP (ws:lX) (m u:lN):lX:=(oE ws m u).map (·.2)
def gC (x:Nat×lN):mh×V:=(lV [x.1],tx x.2)
def gf (H:Hp)(p:AD)(kw:List (mh×V))(ws:lX)(m:lN)(ss:lX):Prop:=kw.length=ss.length/\∀(i:Nat) (u:lN),ss[i]?=some u->∃a,kw[i]?=some (lV u,.ref a)/\a≠p/\H a=some (.dK ((oE ws m u).map gC))
structure iz (ws ss:lX):Prop where
 nd:ss.Nodup
 iff:∀u,u∈ss↔gN ws u
 len:ss.length<=8201
structure iQ (ws:lX)(m:lN)(ss es:lX):Prop where
 nd:es.Nodup
 sub:∀s∈es,s∈ss
 stay:∀s∈ss,s∉es->∃t∈fP ws m s,t∉es
 ord:∀(k:Nat) (s:lN),es[k]?=some s->∀t∈fP ws m s,t∈es.take k
def gf.chg (h:gf H p kw ws m ss)(s:∀b o,b≠p->H b=some o->H' b=some o):gf H' p kw ws m ss:=⟨h.1,λi u hu=>by obtain⟨a,e,n,ha⟩:=h.2 i u hu;exact⟨a,e,n,s _ _ n ha⟩⟩
def gf.same (h:gf H p kw ws m ss)(s:e8 H H'):gf H' p kw ws m ss:=h.chg λb o _ e=>s b o e
def gf.snoc (h:gf H p kw ws m ss)(n:a≠p)(ha:H a=some (.dK ((oE ws m u).map gC))):gf H p (kw++[(lV u,.ref a)]) ws m (ss++[u]):=by
 refine⟨by rw[mP,mP,h.1,oC,oC],λi v hv=>?_⟩;by_cases c:i<ss.length
 .rw[py c]at hv;rw[py (by rw[h.1];exact c)];exact h.2 i v hv
 .have il:=(mX.mp hv).1;rw[mP,oC]at il;have e:i=ss.length:=by lia
  subst e;rw[qu (mC _),tU]at hv;cases hv;refine⟨a,?_,n,ha⟩;rw[<-h.1,qu (mC _),tU];rfl
def gf.keys (h:gf H p kw ws m ss):kw.map (·.1)=ss.map lV:=by
 apply vX;intro i;rw[om,om];cases e:ss[i]? with
 | none=>
  have:kw[i]?=none:=by rw[List.getElem?_eq_none_iff]at e ⊢;rw[h.1];exact e
  rw[this];rfl
 | some u=>
  obtain⟨a,e1,_⟩:=h.2 i u e;rw[e1];rfl
def Zo7 {α:Type}{es:List α}{n:Nat}{r:α}(nd:es.Nodup)(h:es[n]?=some r):r∉es.take n:=by intro hm;obtain⟨k,hk,e⟩:=qS hm;rw[nG]at hk;rw[yQ]at e;obtain⟨hn,e2⟩:=mX.mp h;have:=(List.nodup_iff_pairwise_ne.mp nd);rw[vU]at this;exact this k n ∅ hn ∅ (by rw[e,e2])
def Hc {kvs:List (mh×V)}{k:mh}(h:k∉kvs.map (·.1)):fh kvs k=none:=by
 cases e:fh kvs k with
 | none=>rfl
 | some v=>
  obtain⟨kv,hm,he⟩:=yz (kvs:=kvs) (k:=k) (by rw[e];rfl);exact IG (nj.mpr ⟨kv,hm,he⟩) h
theorem Ig:∀(xs acc:List (mh×V)),((acc++xs).map (·.1)).Nodup->oO acc xs=acc++xs
 | [],acc,_=>by rw[sM];rfl
 | x::xs,acc,h=>by
  have e:acc++x::xs=(acc++[x])++xs:=by simp
  have hx:x.1∉acc.map (·.1):=by rw[qj,vI]at h;exact λhm=>h.2.2 x.1 hm x.1 {} rfl
  have r:=Ig xs (acc++[x]) (by rw[<-e];exact h);rw[e,<-r];show oO (fz acc x.1 x.2) xs=_;rw[yZ _ (Hc hx)]
def HA (hm:m.Pairwise (· < ·)):(((oE ws m u).map gC).map (·.1)).Nodup:=by unfold oE gp;rw[oX,oX];have:(m.filter λc=>rL ws (u++[c])).Nodup:=(hm.imp λh=>nM h).filter _;refine wR this ?_;intro x _ y _ e;have e':lV [x]=lV [y]:=e;have:=qd e';simpa using this
def Zki (P:Nat->Bool)(g:Nat->α)(l:lN):((List.range l.length).filter λi=>P (l.getD i 0)).map (λi=>g (l.getD i 0))=(l.filter P).map g:=by
 have e:l=(List.range l.length).map λi=>l.getD i 0:=by apply qZ {};intro i h1 h2;simp[nN,h1]
 conv=>rhs;rw[e]
 rw[List.filter_map,oX];rfl
def uI {ws:lX}{i:Nat}{x:V}(h:(ws.map tx)[i]?=some x):∃y,ws[i]?=some y/\x=tx y:=by
 rw[om]at h;cases e:ws[i]? with
 | none=>rw[e]at h;cases h
 | some y=>rw[e]at h;cases h;exact⟨y,rfl,rfl⟩
structure gk (ws:lX)(i j:Nat)(kvs:List (mh×V)):Prop where
 key:∀kv∈kvs,∃u:lN,kv.1=lV u/\gN ws u
 nil:(fh kvs (lV [])).isSome=true
 has:∀(a:Nat) (w:lN),ws[a]?=some w->∀k,k<w.length->(a<i\/(a=i/\k<j))->(fh kvs (lV (w.take k))).isSome=true
 nd:(kvs.map (·.1)).Nodup
def BU {kvs:List (mh×V)}{k:mh}{v:V}{kv:mh×V}(h:kv∈fz kvs k v):kv.1=k\/∃p∈kvs,p.1=kv.1:=by
 unfold fz at h;split at h
 .obtain⟨p,hp,e⟩:=nj.mp h;split at e
  .exact .inr ⟨p,hp,by rw[<-e]⟩
  .exact .inr ⟨p,hp,by rw[<-e]⟩
 .rcases nJ.mp h with z | z
  .exact .inr ⟨kv,z,rfl⟩
  .rw[mU.mp z];exact .inl rfl
def gk.start (ws:lX):gk ws 0 0 (oO [] [(lV [],.bl true)]) where
 key:=λkv h=>by
  rcases BU (kvs:=[]) h with z | ⟨p,hp,_⟩
  .exact⟨[],z,.inl rfl⟩
  .cases hp
 nil:=ut (kvs:=[]) (.inr rfl)
 has:=λa w _ k _ h=>by rcases h with z | ⟨_,z⟩<;>lia
 nd:=zr (kvs:=[]) (.bl true) List.nodup_nil
def gk.put {ws:lX}{i j:Nat}{kvs:List (mh×V)}{w:lN}(h:gk ws i j kvs)(hw:ws[i]?=some w)(hj:j<w.length):gk ws i (j+1) (fz kvs (lV (w.take j)) (.bl true)) where
 key:=λkv hm=>by
  rcases BU hm with z | ⟨p,hp,e⟩
  .exact⟨w.take j,z,.inr ⟨w,oW hw,j,hj,rfl⟩⟩
  .obtain⟨u,e2,hu⟩:=h.key p hp;exact⟨u,e▸e2,hu⟩
 nil:=ut (.inl h.nil)
 has:=λa v hv k hk z=>by
  by_cases c:a<i\/(a=i/\k<j)
  .exact ut (.inl (h.has a v hv k hk c))
  .have ea:a=i:=by lia
   have ek:k=j:=by lia
   subst ea ek;rw[hw]at hv;cases hv;exact ut (.inr rfl)
 nd:=zr _ h.nd
def gk.one (h:gk ws i 0 kvs)(hw:ws[i]?=some w):gk ws i (1+0) kvs:=
 ⟨h.key,h.nil,λa v hv k hk z=>by
  by_cases c:a<i
  .exact h.has a v hv k hk (.inl c)
  .have ek:k=0:=by lia
   subst ek;rw[sG];exact h.nil,h.nd⟩
def gk.next (h:gk ws i j kvs)(hw:ws[i]?=some w)(hj:w.length<=j):gk ws (i+1) 0 kvs:=
 ⟨h.key,h.nil,λa v hv k hk z=>by
  refine h.has a v hv k hk ?_;by_cases c:a<i
  .exact .inl c
  .have ea:a=i:=by lia
   subst ea;rw[hw]at hv;cases hv;exact .inr ⟨rfl,∅⟩,h.nd⟩
def gk.done (h:gk ws ws.length 0 kvs)(hl:kvs.length<=8201):iJ ws kvs:=
 ⟨h.key,λu hu=>by
  rcases hu with rfl | ⟨v,hv,k,hk,rfl⟩
  .exact h.nil
  .obtain⟨a,ha,e⟩:=qS hv;exact h.has a v (mX.mpr ⟨ha,e⟩) k hk (.inl ha),h.nd,hl⟩
def gq (p:AD)(H H':Hp):Prop:=∀b o,b≠p->H b=some o->H' b=some o
def ZqD (s:e8 H H'):gq p H H':=λb o _ e=>s b o e
def gq.trans (s:gq p H H1)(t:gq p H1 H2):gq p H H2:=λb o n e=>t b o n (s b o n e)
def gq.updX (s:gq p H H'):gq p H (upd H' p o):=λb u n e=>by rw[lR n];exact s b u n e
def gq.updN (s:gq p H H')(h:H a=none):gq p H (upd H' a o):=λb u n e=>by rw[lR (mM e h)];exact s b u n e
def gq.same (s:gq p H H')(h:H p=some o)(h':H' p=some o):e8 H H':=λb u e=>by
 by_cases c:b=p
 .subst c;rw[h]at e;cases e;exact h'
 .exact s b u c e
noncomputable def edges (ws:lX) (m:lN) (ss:lX):List (lN×lN):=ss.flatMap λs=>(fP ws m s).map λr=>(r,s)
def fU (E:List (lN×lN))(r:lN):lX:=(E.filter λe=>decide (e.1=r)).map (·.2)
structure gj (H H':Hp)(pS pL:AD)(kS:List (mh×V))(E:List (lN×lN)):Prop where
 no:∀r,fh kS (lV r)=none->fU E r=[]
 yes:∀r v,fh kS (lV r)=some v->∃a,v=.ref a/\H a=none/\a≠pS/\a≠pL/\H' a=some (.lst ((fU E r).map tx))
 inj:∀r r' a,fh kS (lV r)=some (.ref a)->fh kS (lV r')=some (.ref a)->r=r'
 len:kS.length<=E.length
def xK (kL:List (mh×V))(ss:lX)(f:lN->Nat):Prop:=∀s∈ss,fh kL (lV s)=some (.int (f s:Nat))
def ZnG (Pv:Nat->St->Hp->Prop)(h0:Pv 0 U H)(hl:∀i U H,Pv i U H->H a=some (.frz o (.dK kvs)))
  (hs:∀i p U H,kvs[i]?=some p->Pv i U H->g p.2 U H λU2 H2=>tb { D with nx:=Pv (i+1),ct:=Pv (i+1),bk:=D.nx } U2 H2) (hd:∀U H,Pv kvs.length U H->D.nx U H):fA (Dp o kvs a) g tb D U H:=by
 refine⟨λi m U H=>m=kvs.length-i/\i<=kvs.length/\Pv i U H,⟨kvs.length,{},nO _,h0⟩,?_⟩;rintro i m U H ⟨rfl,hi,p⟩;have q:=hl i U H p;by_cases A0:i<kvs.length
 .refine .inr ⟨⟨q,A0⟩,Pv (i+1),λU' H' p'=>⟨kvs.length-(i+1),∅,rfl,A0,p'⟩,λx H' y=>?_⟩;obtain⟨e,p2,e2,e3⟩:=y;subst e e3;exact hs i p2 U _ e2 p
 .have e:i=kvs.length:=by lia
  subst e;exact .inl ⟨⟨q,mC _⟩,hd U H p⟩
theorem wC:∀ {kvs:List (mh×V)} {i:Nat} {k:mh} {v:V},(kvs.map (·.1)).Nodup->kvs[i]?=some (k,v)->fh kvs k=some v
 | [],i,k,v,_,h=>by simp at h
 | p::kvs,0,k,v,_,h=>by
  cases h;exact rS rfl
 | p::kvs,i+1,k,v,nd,h=>by rw[oP,rM]at nd;have h':kvs[i]?=some (k,v):=h;have:p.1≠k:=λe=>nd.1 (by rw[e];exact nj.mpr ⟨_,oW h',rfl⟩);rw[rY this];exact wC nd.2 h'
def gf.val (h:gf H p kw ws m ss)(nd:ss.Nodup)(hu:u∈ss):∃a,fh kw (lV u)=some (.ref a)/\a≠p/\H a=some (.dK ((oE ws m u).map gC)):=by obtain⟨i,hi,e⟩:=qS hu;obtain⟨a,h1,h2,h3⟩:=h.2 i u (mX.mpr ⟨hi,e⟩);refine⟨a,wC ?_ h1,h2,h3⟩;rw[h.keys];exact wR nd λx _ y _ e=>qd e
def xm (E:List (lN×lN))(r s x:lN):fU (E++[(r,s)]) x=if r=x then fU E x++[s] else fU E x:=by
 unfold fU;rw[tO,qj];by_cases e:r=x
 .simp[e]
 .simp[e]
def gj.keep (h:gj H H' pS pL kS E)(k:∀a xs,H' a=some (.lst xs)->H'' a=some (.lst xs)):gj H H'' pS pL kS E:=
 ⟨h.no,λr v hv=>let ⟨a,e,n,n1,n2,ha⟩:=h.yes r v hv;⟨a,e,n,n1,n2,k _ _ ha⟩,h.inj,h.len⟩
def gj.old {H H':Hp}{pS pL a:AD}{kS:List (mh×V)}{E:List (lN×lN)}{r s:lN}(h:gj H H' pS pL kS E)(hv:fh kS (lV r)=some (.ref a)):gj H (upd H' a (.lst ((fU E r).map tx++[tx s]))) pS pL kS (E++[(r,s)]) where
 no:=λx hx=>by
  have:r≠x:=λe=>by rw[e,hx]at hv;cases hv
  rw[xm,lT this];exact h.no x hx
 yes:=λx v hx=>by
  obtain⟨a',e,n,n1,n2,ha⟩:=h.yes x v hx;refine⟨a',e,n,n1,n2,?_⟩;by_cases c:r=x
  .subst c;rw[hv]at hx;cases hx;cases e;rw[mq,xm,lU rfl,qj];rfl
  .have:a'≠a:=λz=>c (h.inj r x a hv (by rw[hx,e,z]));rw[lR this,xm,lT c];exact ha
 inj:=h.inj
 len:=mO h.len (by rw[mP];lia)
def gj.new {H H' H'':Hp}{pS pL z:AD}{kS:List (mh×V)}{E:List (lN×lN)}{r s:lN}(h:gj H H' pS pL kS E)(hv:fh kS (lV r)=none)(nz:H z=none)(nz':H' z=none)(n1:z≠pS)(n2:z≠pL)
  (k:∀a xs,a≠z->H' a=some (.lst xs)->H'' a=some (.lst xs)) (hz:H'' z=some (.lst [tx s])):gj H H'' pS pL (fz kS (lV r) (.ref z)) (E++[(r,s)]) where
 no:=λx hx=>by
  rw[qv]at hx;split at hx
  .cases hx
  .rename_i c
   have:r≠x:=λe=>c (by rw[e]);rw[xm,lT this];exact h.no x hx
 yes:=λx v hx=>by
  rw[qv]at hx;by_cases c:x=r
  .subst c;rw[lU rfl]at hx;cases hx;refine⟨z,rfl,nz,n1,n2,?_⟩;rw[hz,xm,lU rfl,h.no x hv];rfl
  .rw[lT (λe=>c (qd e))]at hx;obtain⟨a',e,n,m1,m2,ha⟩:=h.yes x v hx;refine⟨a',e,n,m1,m2,?_⟩;rw[xm,lT (λe=>c e.symm)];exact k _ _ (λe=>by rw[e,nz']at ha;cases ha) ha
 inj:=λx y a hx hy=>by
  have look:∀x a,fh (fz kS (lV r) (.ref z)) (lV x)=some (.ref a)->(x=r/\a=z)\/(x≠r/\fh kS (lV x)=some (.ref a)/\a≠z):=λx a hx=>by
   rw[qv]at hx;by_cases c:x=r
   .rw[lU (by rw[c])]at hx;cases hx;exact .inl ⟨c,rfl⟩
   .rw[lT (λe=>c (qd e))]at hx;obtain⟨a',e,n,m1,m2,ha⟩:=h.yes x _ hx;cases e;exact .inr ⟨c,hx,λe=>by rw[e,nz']at ha;cases ha⟩
  rcases look x a hx with⟨e1,e2⟩|⟨e1,e2,e3⟩
  .rcases look y a hy with⟨f1,f2⟩|⟨f1,f2,f3⟩
   .rw[e1,f1]
   .exact IG e2 f3
  .rcases look y a hy with⟨f1,f2⟩|⟨f1,f2,f3⟩
   .exact IG f2 e3
   .exact h.inj x y a e2 f2
 len:=by
  have:=sg kS (lV r) (.ref z);have:=h.len;rw[mP,oC]
  lia
def ZmF (os:lX)(s r:lN):fU (os.map λt=>(t,s)) r=List.replicate (os.count r) s:=by
 unfold fU;induction os with
 | nil=>rfl
 | cons t os ih=>
  rw[oP,vE,List.count_cons];by_cases e:t=r
  .subst e;simp only[decide_true,if_true,beq_self_eq_true,oP,ih,List.replicate_succ]
  .have e':(t == r)=false:=by simpa using e
   simp only[IB e,vR,if_false,e',ih,Nat.add_zero]
def ZmG (E F:List (lN×lN))(r:lN):fU (E++F) r=fU E r++fU F r:=by unfold fU;rw[tO,qj]
def Et (h:s∈fU (edges ws m ss) r):s∈ss:=by unfold fU edges at h;obtain⟨e,he,rfl⟩:=nj.mp h;obtain⟨u,hu,ht⟩:=uN.mp (pD.mp he).1;obtain⟨t,_,rfl⟩:=nj.mp ht;exact hu
theorem D2 {ws:lX}{m r s:lN}:∀ {ss:lX},ss.Nodup->s∈ss->(fU (edges ws m ss) r).count s=(fP ws m s).count r
 | [],_,h=>by cases h
 | u::ss,nd,h=>by
  have e:fU (edges ws m (u::ss)) r=List.replicate ((fP ws m u).count r) u++fU (edges ws m ss) r:=by unfold edges;rw[List.flatMap_cons,ZmG,ZmF]
  have nd':=rM.mp nd;rw[e,List.count_append,List.count_replicate];by_cases c:u=s
  .subst c;have z:(fU (edges ws m ss) r).count u=0:=List.count_eq_zero.mpr λz=>nd'.1 (Et z);rw[z,lU {}];rfl
  .have hs:s∈ss:=by
    rcases m6.mp h with z | z
    .exact IG z.symm c
    .exact z
   rw[lT (~~~c),Nat.zero_add];exact D2 nd'.2 hs
def EY (m4:m.length<=4)(hl:ss.length<=8201):(edges ws m ss).length<=32804:=by
 have:(edges ws m ss).length<=ss.length*4:=xv (λs=>by unfold fP oE gp;rw[lZ,lZ,lZ];exact mO (pW _ _) m4) ss
 lia
def Zjj (E:List (lN×lN))(r:lN):(fU E r).length<=E.length:=by unfold fU;rw[lZ];exact pW _ _
def Dead (ws:lX)(m:lN)(k:Nat)(s:lN):Prop:=∀x:lN,(∀c∈x,c∈m)->Av ws (s++x)->x.length<k
def Zna (h:t∈fP ws m s):∃c∈m,Av ws (s++[c])/\rO ws (s++[c]) t:=by unfold fP oE gp at h;obtain⟨x,hx,rfl⟩:=nj.mp h;obtain⟨c,hc,rfl⟩:=nj.mp hx;have:=pD.mp hc;exact⟨c,this.1,vO.mp this.2,xW _ _⟩
def ZlC (h:rO ws u e):gN ws e:=let ⟨_,_,_,hs,_⟩:=h;hs
def ZiN (ws:lX)(m:lN)(ss:lX)(u:lN):edges ws m (ss++[u])=edges ws m ss++(fP ws m u).map λr=>(r,u):=by unfold edges;rw[yE];simp
def Iy {n:Nat}(h:Q (.bl (decide (n=0))) H):gV K false (.int (n:Int)) (.int 0) H Q:=.inl ⟨rfl,by
 rw[lT mQ];have:decide (V.int (n:Int)=V.int 0)=decide (n=0):=by
  rw[decide_eq_decide];constructor
  .intro e;injection e with e;lia
  .intro e;rw[e];rfl
 rw[this];exact h⟩
def GR (d:α)(P:α->Bool)(g:α->β)(l:List α):((List.range l.length).filter λi=>P (l.getD i d)).map (λi=>g (l.getD i d))=(l.filter P).map g:=by
 have e:l=(List.range l.length).map λi=>l.getD i d:=by apply qZ {};intro i h1 h2;simp[nN,h1]
 conv=>rhs;rw[e]
 rw[List.filter_map,oX];rfl
def GP {kvs:List (mh×V)}{k:mh}{v w:V}(h:fh kvs k=some w):(fz kvs k v).length=kvs.length:=by
 unfold fz;split
 .rw[lZ]
 .rename_i c
  obtain⟨kv,hm,e⟩:=yz (kvs:=kvs) (k:=k) (by rw[h];rfl);exact IG (se.mpr ⟨kv,hm,~~~e⟩) c
def BD:c∈gp ws m s↔c∈m/\Av ws (s++[c]):=by unfold gp;rw[pD,vO]
def qN (kvs:List (mh×V))(w:lN)(c:Nat):Bool:=!(fh kvs (lV (w++[c]))).isSome&&(fh kvs (lV ((w++[c]).drop 1))).isSome
def tD (kvs:List (mh×V))(m w:lN):lX:=(m.filter (qN kvs w)).map λc=>w++[c]
theorem FJ:∀ {kvs:List (mh×V)},(∀kv∈kvs,∃x:lN,kv.1=lV x)->∃ss:lX,ss.map lV=kvs.map (·.1)
 | [],_=>⟨[],rfl⟩
 | kv::kvs,h=>by obtain⟨ss,e⟩:=FJ (kvs:=kvs) λp hp=>h p (oV _ hp);obtain⟨x,ex⟩:=h kv o7;exact⟨x::ss,by rw[oP,oP,e,ex]⟩
def Zp9 (h:m8 K H a xs)(s:fQ H H'):m8 K H' a xs:=by
 rcases h with h | h
 .rcases h with h | ⟨o,h⟩
  .exact .inl (.inl (s _ _ h rfl))
  .exact .inl (.inr ⟨o,s _ _ h rfl⟩)
 .exact .inr h
def ZnL (h:KI ss (fP ws m) es.length es f):iQ ws m ss es:=⟨h.nd,h.sub,λs hs n=>h.stay hs n,h.ord⟩
def X2 (C:AD)(f g:Str)(E:XK)(H:Hp)(x y:lN):Prop:=∀e H2,e8 H H2->ig H2 e C (vh f g [tx x,tx y])->E (.ref C) (some e) H2
def ZpZ (ws ls:lX)(w:lN):Prop:=∃i:Nat,ls[i]?=some w/\Av ws w/\∀(j:Nat) (v:lN),j<i->ls[j]?=some v->¬Av ws v
def Znl (h:∀b:Bool,(b=true↔x≠y)->Q (.bl b) H):gV K true (tx x) (tx y) H Q:=.inl ⟨rfl,by rw[lU rfl];refine h _ ?_;rw[Bool.not_eq_true',ID,xH]⟩
def Endd (ws:lX)(m s:lN):Prop:=∃k,Dead ws m k s
def ZoL (hc:c∈m)(ha:Av ws (s++[c])):∃e∈fP ws m s,rO ws (s++[c]) e:=
 ⟨gY ws (s++[c]),by unfold fP oE;exact nj.mpr ⟨_,nj.mpr ⟨c,BD.mpr ⟨hc,ha⟩,rfl⟩,rfl⟩,xW _ _⟩
def Fh (lk:GL m ws)(an:iH ws)(sl:iz ws ss)(en:iQ ws m ss es){s:lN}(hs:gN ws s):s∈es↔Endd ws m s:=by
 constructor
 .intro h;obtain⟨k,hk,e⟩:=qS h;exact⟨k+1,λx hx ha=>Nat.lt_succ_of_le (Em (λs c hc ha=>ZoL hc ha) en.ord k s (mX.mpr ⟨hk,e⟩) x hx ha)⟩
 .rintro⟨k,hd⟩;refine yD λn=>?_;obtain⟨x,hl,hx,ha⟩:=GQ (W:=ws) (m:=m) (es:=es) (N:=ss) (o:=fP ws m) (λs t ht=>by obtain⟨c,hc,ha,he⟩:=Zna ht;exact⟨(sl.iff t).mpr (ZlC he),c,hc,ha,he⟩) (λs hs=>lk.stemAv an ((sl.iff s).mp hs)) en.stay k s ((sl.iff s).mpr hs) n
  have:=hd x hx ha
  lia
def XL2 (a:Ad)(C:AD)(f g:Str)(E:XK)(H:Hp)(x y:lN):Prop:=∀e H2,fQ H H2->TT a H2->ig H2 e C (vh f g [tx x,tx y])->E (.ref C) (some e) H2
def XL1 (a:Ad)(C:AD)(f:Str)(E:XK)(H:Hp)(x:lN):Prop:=∀e H2,fQ H H2->TT a H2->ig H2 e C (zE f [tx x])->E (.ref C) (some e) H2
def ZnK (h:∀b:Bool,(b=true↔x=y)->Q (.bl b) H):gV K false (tx x) (tx y) H Q:=.inl ⟨rfl,by rw[lT mQ];refine h _ ?_;rw[Iz,xH]⟩
def tagT (k:Nat):lN:=match k with
 | 0=>[105,110,115,105,100,101]
 | 1=>[101,110,100,108,101,115,115]
 | 2=>[108,111,110,103]
 | 3=>[115,112,108,105,116]
 | _=>[115,116,114,105,112]
def zF (d:gT K D m2):kitOne K (.type "NoneType") (.ref D)=some false:=by
 obtain⟨cd',e3,e4⟩:=d.cd;unfold kitOne;split
 .rename_i z
  have z':Value.type "NoneType"=Value.ref D:=by simpa using z
  cases z'
 .unfold PySem.W.kitCls;dsimp only;rw[e3,d.ty];simp only[Option.isSome_some,sS,beq_self_eq_true,if_true];rfl
structure x4 (ls:lX)(kvs:List (mh×V)):Prop where
 key:∀kv∈kvs,∃u:lN,kv.1=lV u
 iff:∀u,(fh kvs (lV u)).isSome=true↔qb ls u
 nd:(kvs.map (·.1)).Nodup
theorem Ed:∀(more kvs:List (mh×V)) (k:mh),(fh (oO kvs more) k).isSome=((fh kvs k).isSome || (fh more k).isSome)
 | [],kvs,k=>by show (fh kvs k).isSome=_;rw[show (fh ([]:List (mh×V)) k).isSome=false from rfl,Bool.or_false]
 | p::more,kvs,k=>by
  show (fh (oO (fz kvs p.1 p.2) more) k).isSome=_;rw[Ed more,qv];by_cases e:p.1=k
  .rw[rS e,lU e.symm];simp
  .rw[rY e,lT (λz=>e z.symm)]
theorem DO:∀(more kvs:List (mh×V)),(kvs.map (·.1)).Nodup->((oO kvs more).map (·.1)).Nodup
 | [],kvs,h=>h
 | p::more,kvs,h=>DO more (fz kvs p.1 p.2) (zr p.2 h)
theorem Gq:∀(more kvs:List (mh×V)),(∀kv∈kvs,∃u:lN,kv.1=lV u)->(∀kv∈more,∃u:lN,kv.1=lV u)->∀kv∈oO kvs more,∃u:lN,kv.1=lV u
 | [],kvs,h,_=>h
 | p::more,kvs,h,h2=>Gq more (fz kvs p.1 p.2) (λkv hk=>by
   rcases BU hk with z | ⟨q,hq,e⟩
   .rw[z];exact h2 p o7
   .rw[<-e];exact h q hq) (λkv hk=>h2 kv (oV _ hk))
def x4.more {ls:lX}{l:lN}{kvs more:List (mh×V)}(h:x4 ls kvs)(k:Hg l more):x4 (ls++[l]) (oO kvs more) where
 key:=Gq more kvs h.key λkv hk=>let ⟨x,e,_⟩:=k.1.1 kv hk;⟨x,e⟩
 iff:=λu=>by
  rw[Ed,Bool.or_eq_true,h.iff,k.1.2,qI];unfold qb;constructor
  .rintro (⟨x,hx,hi⟩ | hi)
   .exact⟨x,wv _ hx,hi⟩
   .exact⟨l,{},hi⟩
  .rintro⟨x,hx,hi⟩;rcases nJ.mp hx with z | z
   .exact .inl ⟨x,z,hi⟩
   .rw[mU.mp z]at hi;exact .inr hi
 nd:=DO more kvs h.nd
def Zlh (ok:KO m)(kn:x4 ls kvs){ss:lX}(hs:ss.map lV=kvs.map (·.1)):gL ls m (ss.flatMap (tD kvs m)):=by
 have nds:ss.Nodup:=by have:=kn.nd;rw[<-hs]at this;exact List.Pairwise.imp (λh e=>h (by rw[e])) (tV.mp this)
 have hm:m.Pairwise (· < ·):=xg ok.k;have mem:∀u,u∈ss↔qb ls u:=λu=>by
  rw[<-kn.iff];constructor
  .intro h;have:lV u∈kvs.map (·.1):=by rw[<-hs];exact tS h
   cases e:fh kvs (lV u) with
   | some v=>rfl
   | none=>
    obtain⟨kv,hk,ek⟩:=nj.mp this;obtain⟨i,hi,ei⟩:=qS hk;have:=wC (k:=lV u) (v:=kv.2) (i:=i) kn.nd (mX.mpr ⟨hi,by rw[ei,<-ek]⟩);rw[this]at e;cases e
  .intro h;obtain⟨kv,hk,ek⟩:=yz h;have:lV u∈ss.map lV:=by rw[hs,<-ek];exact tS hk
   obtain⟨x,hx,ex⟩:=nj.mp this;rw[<-qd ex];exact hx
 refine⟨?_,λw=>?_⟩
 .unfold List.Nodup;rw[List.pairwise_flatMap];refine⟨λu _=>?_,nds.imp λ{u v} huv x hx y hy e=>?_⟩
  .unfold tD;rw[tV];exact List.Pairwise.imp (λ{a b} (h:a<b) (e:u++[a]=u++[b])=>nM h (~~~e)) (hm.filter (qN kvs u))
  .unfold tD at hx hy;obtain⟨c,_,rfl⟩:=nj.mp hx;obtain⟨d,_,rfl⟩:=nj.mp hy;exact huv (List.append_inj_left' e rfl)
 .rw[uN];constructor
  .rintro⟨u,hu,hw⟩;unfold tD at hw;obtain⟨c,hc,rfl⟩:=nj.mp hw;obtain⟨hcm,hb⟩:=pD.mp hc;unfold qN at hb;rw[nY,Bool.not_eq_true',List.drop_one]at hb;refine⟨{},by rw[vB];exact(mem u).mp hu,(kn.iff _).mp hb.2,λk=>?_,c,hcm,{}⟩;rw[(kn.iff _).mpr k]at hb;exact IG hb.1 ⋯
  .rintro⟨_,hi,ht,hn,c,hc,hl⟩;obtain⟨u,rfl⟩:=List.getLast?_eq_some_iff.mp hl;rw[vB]at hi;refine⟨u,(mem u).mpr hi,?_⟩;unfold tD qN;refine nj.mpr ⟨c,pD.mpr ⟨hc,?_⟩,rfl⟩;rw[nY,Bool.not_eq_true',List.drop_one];exact⟨rE.mpr λk=>hn ((kn.iff _).mp k),(kn.iff _).mpr ht⟩
def xh (p:vs.Perm ws)(w:lN):Av vs w↔Av ws w:=⟨λh v hv=>h v (p.mem_iff.mpr hv),λh v hv=>h v (p.mem_iff.mp hv)⟩
def ZkH (p:vs.Perm ws)(h:iH vs):iH ws:=λv hv w hw=>h v (p.mem_iff.mpr hv) w (p.mem_iff.mpr hw)
def C3 (p:vs.Perm ws)(h:LF vs m s x):LF ws m s x:=
 ⟨h.mem,(xh p _).mp h.av,λy hy ha=>h.max y hy ((xh p _).mpr ha),λy hy ha=>h.fst y hy ((xh p _).mpr ha)⟩
def Bg (h:∀b:Bool,(b=true↔x=y)->Q (.bl b) H):gV K false (.int x) (.int y) H Q:=.inl ⟨rfl,by rw[lT mQ];refine h _ ?_;rw[Iz];exact⟨λe=>by injection e,λe=>by rw[e]⟩⟩
structure rJ (ls:lX)(m:lN)(ws:lX):Prop where
 gl:GL m ws
 an:iH ws
 av:∀w:lN,(∀c∈w,c∈m)->(Av ws w↔qb ls w)
 l60:∀l∈ls,l.length<=60
def rJ.perm (h:rJ ls m ws)(p:vs.Perm ws):rJ ls m vs:=
 ⟨h.gl.perm p,ZkH p.symm h.an,λw hw=>(xh p w).trans (h.av w hw),h.l60⟩
def qb.inf (h:qb ls w)(i:mj u w):qb ls u:=let ⟨l,hl,k⟩:=h;⟨l,hl,i.trans k⟩
theorem zS {ls ws:lX}{m:lN}(h:gL ls m ws)(h0:ls≠[]):∀(n:Nat) (w:lN),w.length=n->(∀c∈w,c∈m)->Av ws w->qb ls w
 | 0,w,hn,_,_=>by
  obtain⟨l,hl⟩:=List.exists_mem_of_ne_nil _ h0;rw[tR.mp hn];exact⟨l,hl,mj.nil l⟩
 | n+1,w,hn,hm,ha=>by
  have ne:w≠[]:=λe=>by rw[e]at hn;cases hn
  refine yD λno=>ha w ((h.iff w).mpr ⟨ne,zS h h0 n _ (by rw[qm];lia) (λc hc=>hm c (List.dropLast_subset _ hc)) (ha.inf (Bq w)),zS h h0 n _ (by rw[we];lia) (λc hc=>hm c (List.mem_of_mem_tail hc)) (ha.inf (Bi w)),no,w.getLast ne,hm _ (List.getLast_mem ne),by rw[vt ne]⟩) (mj.refl w)
def Cy {ls ws:lX}{m:lN}(h:gL ls m ws)(h0:ls≠[])(gl:GL m ws)(l60:∀l∈ls,l.length<=60):rJ ls m ws where
 gl:=gl
 l60:=l60
 an:=λv hv w hw hi=>yD λne=>by
  obtain⟨_,k1,k2,_⟩:=(h.iff w).mp hw;refine((h.iff v).mp hv).2.2.2.1 ?_;rcases HD hi (Nat.lt_of_le_of_ne hi.len λe=>ne (xF hi ∅)) with z | z
  .exact qb.inf k1 z
  .exact qb.inf k2 z
 av:=λw hw=>⟨zS h h0 _ w rfl hw,λk v hv hi=>((h.iff v).mp hv).2.2.2.1 (qb.inf k hi)⟩
def Zk7 {l m:lN}(hm:m.Pairwise (· < ·)):gL [l] m (m5 l m) where
 nd:=BG hm
 iff:=λw=>by have e:∀u,qb [l] u↔mj u l:=λu=>⟨λ⟨x,hx,k⟩=>by rw[mU.mp hx]at k;exact k,λk=>⟨l,mU.mpr rfl,k⟩⟩;rw[pM,e,e,e];exact⟨λ⟨k,c⟩=>⟨k.ne,k.init,k.tail,k.no,c⟩,λ⟨a,b,c,d,e⟩=>⟨⟨a,b,c,d⟩,e⟩⟩
inductive Cg (ws:lX) (m:lN):Nat->lN->lN->Prop
 | long {x:lN}:LF ws m [] x->40<x.length->Cg ws m 2 (x.take 41) []
 | split {x y:lN}:LF ws m [] x->x.length<=40->y∈m5 x m->Av ws y->Cg ws m 3 x y
 | strip {x:lN}:LF ws m [] x->x.length<=40->(∀w∈m5 x m,¬Av ws w)->Cg ws m 4 x []
def rJ.endd (h:rJ ls m ws):Endd ws m []:=⟨61,λx hx ha=>by
 obtain⟨l,hl,i⟩:=(h.av x hx).mp ha;have:=h.l60 l hl;have:=i.len
 lia⟩
def knS1:qb [l] u↔mj u l:=⟨λ⟨x,hx,k⟩=>by rw[mU.mp hx]at k;exact k,λk=>⟨l,mU.mpr rfl,k⟩⟩
def rJ.top (h:rJ ls m ws)(hl:l∈ls)(hm:∀c∈l,c∈m)(all:∀u,qb ls u->mj u l)(lf:LF ws m [] x):x=l:=by have k:=all x ((h.av x lf.mem).mp lf.av);exact xF k (lf.max l hm ((h.av l hm).mpr ⟨l,hl,mj.refl l⟩))
def Cg.top (c:Cg ws m k x y)(h:rJ ls m ws)(hl:l∈ls)(hm:∀c∈l,c∈m)(all:∀u,qb ls u->mj u l):(40<l.length/\k=2/\x=l.take 41)\/(l.length<=40/\k=4/\x=l/\y=[]):=by
 cases c with
 | long lf g=>have e:=h.top hl hm all lf;subst e;exact .inl ⟨g,rfl,rfl⟩
 | split lf g hy ha=>
  have e:=h.top hl hm all lf;subst e;exact IG (all y ((h.av y (Bv hm hy)).mp ha)) (pM.mp hy).1.no
 | strip lf g no=>have e:=h.top hl hm all lf;subst e;exact .inr ⟨g,rfl,rfl,rfl⟩
def Cg.two (c:Cg ws m k x y)(h:rJ [l1,l2] m ws)(h1:l1.length<=12)(h2:l2.length<=12)(m1:∀c∈l1,c∈m)(m2:∀c∈l2,c∈m)(n1:¬mj l1 l2)(n2:¬mj l2 l1):k=3/\LF ws m [] x/\x.length<=40/\y∈m5 x m/\Av ws y:=by
 have kx:∀ {x},LF ws m [] x->mj x l1\/mj x l2:=λlf=>by
  obtain⟨l,hl,i⟩:=(h.av _ lf.mem).mp lf.av;rcases m6.mp hl with e | e
  .rw[e]at i;exact .inl i
  .rw[mU.mp e]at i;exact .inr i
 have mx:∀ {x},LF ws m [] x->l1.length<=x.length/\l2.length<=x.length:=λlf=>⟨lf.max _ m1 ((h.av _ m1).mpr ⟨l1,{},mj.refl _⟩),lf.max _ m2 ((h.av _ m2).mpr ⟨l2,{},mj.refl _⟩)⟩;cases c with
 | long lf g=>rcases kx lf with i | i<;>(have:=i.len;lia)
 | split lf g hy ha=>exact⟨rfl,lf,g,hy,ha⟩
 | strip lf g no=>
  have z:∀ {l},(∀c∈l,c∈m)->l∈[l1,l2]->mj l x:=λhm hl=>yD λn=>by obtain⟨v,hv,i⟩:=Zfk _ _ rfl hm n;exact no v hv ((h.av v (λc hc=>hm c (i.mem hc))).mpr ⟨_,hl,i⟩)
  have z1:=z m1 {};have z2:=z m2 {};rcases kx lf with i | i
  .exact IG (xF i (mx lf).1▸z2) n2
  .exact IG (xF i (mx lf).2▸z1) n1
def ZjQ (h:gL ls m ws)(h0:ls≠[])(hm:1<=m.length)(l60:∀l∈ls,l.length<=60):ws≠[]:=λe=>by
 subst e;obtain⟨c,hc⟩:∃c,c∈m:=List.exists_mem_of_length_pos hm;obtain⟨l,hl,i⟩:=zS h h0 61 (List.replicate 61 c) {} (λx hx=>by rw[List.eq_of_mem_replicate hx];exact hc) (λv hv=>by cases hv);have e:=i.len;have:=l60 l hl;rw[List.length_replicate]at e
 lia
def Zfp (l:lN)(n:Nat):mj (l.take n) l:=by
 have:=BC (l.take n) (l.drop n)
 rwa [qU]at this
def seqI (C:St->Hp->Prop)(h1:∀T:TS,(∀U2 H2,C U2 H2->T D U2 H2)->iW s T D U H)(h2:∀U2 H2,C U2 H2->t D U2 H2):iW s (wT t) D U H:=h1 _ λ_ _ c=>ou (h2 _ _ c)
structure qV (a:Ad)(H:Hp)(p da pl pq:AD)(lw m:lN)(cs:IJ)(i:Nat)(la:AD)(l2:lN)(ds:List (Bool×Nat))(n:Nat):Prop where
 st:fE a.c_LZ H p la da l2 m ds
 ld:ds.length<=i
 tt:TT a H
 ln:H pl=some (.lst ((fK (lw.drop n)).map tx))
 cs:H pq=some (.lst cs)
 nl:pl≠la
def qV.same {a:Ad}{H H':Hp}{p da pl pq la:AD}{lw m l2:lN}{cs:IJ}{i n:Nat}{ds:List (Bool×Nat)}(h:qV a H p da pl pq lw m cs i la l2 ds n)(s:e8 H H'):qV a H' p da pl pq lw m cs i la l2 ds n:=⟨h.st.same s,h.ld,h.tt.same s,s _ _ h.ln,s _ _ h.cs,h.nl⟩
def qV.next {a:Ad}{H H':Hp}{p da pl pq la t c g la2:AD}{lw m l2 l3:lN}{cs:IJ}{i n:Nat}{ds ds2:List (Bool×Nat)}{rc rg:List (lN×IJ)}(h:qV a H p da pl pq lw m cs i la l2 ds n)(n1:pl≠p)(n2:pl≠da)(n3:pq≠p)(n4:pq≠da)(ch:nQ [p,da] H H')(st:fE a.c_LZ H' p la2 da l3 m ds2)(an:iq H H' t c g la2 rc rg)(tt:TT a H')(ld:ds2.length<=i+1):qV a H' p da pl pq lw m cs (i+1) la2 l3 ds2 n:=
 ⟨st,ld,tt,ch _ _ h.ln (by simp[n1,n2]) rfl,ch _ _ h.cs (by simp[n3,n4]) rfl,an.nl.ne h.ln rfl⟩
def Cr (C1 C2:Hp->Prop)(h:∀X Y:TS,(∀H',C1 H'->X D U H')->(∀H',C2 H'->Y D U H')->i5 c X Y D U H)(h1:∀H',C1 H'->s1 D U H')(h2:∀H',C2 H'->s2 D U H'):i5 c s1 s2 D U H:=h _ _ h1 h2
def Zlf (h1:m8 K H x ts)(h2:fV H ts ds)(h3:m8 K H y [])(qt:ds≠[]->Q (.bl true) H)(qf:ds=[]->Q (.bl false) H):gV K true (.ref x) (.ref y) H Q:=by
 refine .inr ⟨.l (ds.map xG),.l [],?_,?_,λz=>mQ z.1,mO (Zkn ds) ⋯,?_⟩
 .unfold fC;exact⟨x,ts,rfl,h1,h2.dat⟩
 .unfold fC;exact⟨y,[],rfl,h3,by unfold DatsOk;rfl⟩
 .cases ds with
  | nil=>exact qf rfl
  | cons d ds=>exact qt {}
def qV.l {a:Ad}{H H':Hp}{p da pl pq la:AD}{lw m l2:lN}{cs:IJ}{i n:Nat}{ds:List (Bool×Nat)}(h:qV a H p da pl pq lw m cs i la l2 ds n)(s:fQ H H')(t:TT a H'):qV a H' p da pl pq lw m cs i la l2 ds n:=⟨h.st.l s,h.ld,t,s _ _ h.ln rfl,s _ _ h.cs rfl,h.nl⟩
def ZpI (n:x≠y)(h:Q (.bl false) H):gV K false (tx x) (tx y) H Q:=.inl ⟨rfl,by rw[lT mQ,vj,IB n];exact h⟩
inductive sp_K8 (K:ma) (a:Ad) (vs:IJ) (H:Hp) (Q:VK) (E:XK):Prop
 | mk:∀l m,(vs=[tx l,tx m])->(l.length<=1000)->(∀H2,e8 H H2->Q (.bl (l.all λc=>m.contains c)) H2)->sp_K8 K a vs H Q E
inductive sp_LA (K:ma) (a:Ad) (vs:IJ) (H:Hp) (Q:VK) (E:XK):Prop
 | mk:∀l,(vs=[tx l])->(l.length<=1000)->(∀H2,e8 H H2->Q (.bl (rD l)) H2)->sp_LA K a vs H Q E
inductive sp_LH (K:ma) (a:Ad) (vs:IJ) (H:Hp) (Q:VK) (E:XK):Prop
 | mk:∀l m most,(vs=[tx l,tx m,.int most])->(l.length<=1000)->(∀H2,e8 H H2->Q (.bl (uL l m most)) H2)->sp_LH K a vs H Q E
inductive sp_KZ (K:ma) (a:Ad) (vs:IJ) (H:Hp) (Q:VK) (E:XK):Prop
 | mk:∀l,(vs=[tx l])->(l.length<=1000)->(rD l=true)->(∀H2,e8 H H2->Q .non H2)->sp_KZ K a vs H Q E
inductive sp_K6 (K:ma) (a:Ad) (vs:IJ) (H:Hp) (Q:VK) (E:XK):Prop
 | mk:∀l m most,(vs=[tx l,tx m,.int most])->(l.length<=1000)->(uL l m most=true)->(∀H2,e8 H H2->Q .non H2)->sp_K6 K a vs H Q E
inductive sp_LV (K:ma) (a:Ad) (vs:IJ) (H:Hp) (Q:VK) (E:XK):Prop
 | mk:∀(l:lN) (n:Nat),(vs=[tx l,.int n])->(l.length<=200)->(n<=l.length+1)->(l.length<n+63)->(∀p H2,e8 H H2->H p=none->H2 p=some (.lst ((fL l n).map tx))->Q (.ref p) H2)->sp_LV K a vs H Q E
inductive sp_L0 (K:ma) (a:Ad) (vs:IJ) (H:Hp) (Q:VK) (E:XK):Prop
 | mk:∀(b1 b2:AD) (sh st:lX) (m:lN),(vs=[.ref b1,.ref b2,tx m])->(H b1=some (.lst (sh.map tx)))->(H b2=some (.lst (st.map tx)))->(sh.length<=100)->(m.length<=4)->((∀w∈sh,w.length<=100))->(∀p H2,e8 H H2->H p=none->H2 p=some (.lst ((ui sh st m).map tx))->Q (.ref p) H2)->sp_L0 K a vs H Q E
inductive sp_KB (K:ma) (a:Ad) (vs:IJ) (H:Hp) (Q:VK) (E:XK):Prop
 | mk:∀(p:AD) (l m:lN) (n:Nat),(vs=[.ref p,.int n])->(wY a.c_LX H p l m)->(Q (tx l) H)->sp_KB K a vs H Q E
inductive sp_KQ (K:ma) (a:Ad) (vs:IJ) (H:Hp) (Q:VK) (E:XK):Prop
 | mk:∀(p:AD) (l m:lN) (n:Nat),(vs=[.ref p,.int n])->(wY a.c_LX H p l m)->(gx l m)->(n<=l.length+1)->(∀q H2,e8 H H2->H q=none->H2 q=some (.lst ((fL l n).map tx))->Q (.ref q) H2)->sp_KQ K a vs H Q E
inductive sp_KP (K:ma) (a:Ad) (vs:IJ) (H:Hp) (Q:VK) (E:XK):Prop
 | mk:∀(p:AD) (l m:lN),(vs=[.ref p])->(wY a.c_LX H p l m)->(gx l m)->(Q (.int ((l.length:Nat)+1)) H)->sp_KP K a vs H Q E
inductive sp_KF (K:ma) (a:Ad) (vs:IJ) (H:Hp) (Q:VK) (E:XK):Prop
 | mk:∀(p:AD) (l m:lN),(vs=[.ref p])->(wY a.c_LX H p l m)->(gx l m)->(∀q H2,e8 H H2->H2 q=some (.lst ((m5 l m).map tx))->Q (.ref q) H2)->sp_KF K a vs H Q E
inductive sp_L5 (K:ma) (a:Ad) (vs:IJ) (H:Hp) (Q:VK) (E:XK):Prop
 | mk:∀(l x:lN),(vs=[tx l,tx x])->(l.length<=1000)->(x.length<=1000)->(Q (.bl (ye l x)) H)->sp_L5 K a vs H Q E
inductive sp_L3 (K:ma) (a:Ad) (vs:IJ) (H:Hp) (Q:VK) (E:XK):Prop
 | mk:∀(s L:lN),(vs=[tx s,tx L])->(L.length<=41)->(qc s L)->(TT a H)->(∀(F:lX) (r:AD) (H2:Hp),F.Pairwise gn->(∀w,w∈F↔pi s L w)->fQ H H2->TT a H2->Nw H r->H2 r=some (.lst (F.map tx))->Q (.ref r) H2)->sp_L3 K a vs H Q E
inductive sp_LR (K:ma) (a:Ad) (vs:IJ) (H:Hp) (Q:VK) (E:XK):Prop
 | mk:∀(s L rs m:lN),(vs=[tx s,tx L,tx rs])->(L.length<=41)->(qc s L)->((∀x∈L,x∈m))->(m.Pairwise (· < ·))->(TT a H)->(∀(ys:IJ) (r:AD) (H2:Hp),fQ H H2->TT a H2->Nw H r->H2 r=some (.lst ys)->gD H2 ys (ub rs s L m)->Q (.ref r) H2)->sp_LR K a vs H Q E
inductive sp_LU (K:ma) (a:Ad) (vs:IJ) (H:Hp) (Q:VK) (E:XK):Prop
 | mk:∀(s L rs m:lN),(vs=[tx s,tx L,tx m,tx rs])->(L.length<=41)->(qc s L)->((∀x∈L,x∈m))->(m.Pairwise (· < ·))->(m.length<=4)->(TT a H)->(∀(ys:IJ) (r:AD) (H2:Hp),fQ H H2->TT a H2->Nw H r->H2 r=some (.lst ys)->gD H2 ys (sU rs s L m)->Q (.ref r) H2)->sp_LU K a vs H Q E
inductive sp_KE (K:ma) (a:Ad) (vs:IJ) (H:Hp) (Q:VK) (E:XK):Prop
 | mk:∀(p la da:AD) (l m:lN) (ds:List (Bool×Nat)),(vs=[.ref p])->(fE a.c_LZ H p la da l m ds)->(∀r,H r=none->Q (.ref r) (upd H r (.lst ((m5 l m).map tx))))->sp_KE K a vs H Q E
inductive sp_KM (K:ma) (a:Ad) (vs:IJ) (H:Hp) (Q:VK) (E:XK):Prop
 | mk:∀(p la da:AD) (l m:lN) (ds:List (Bool×Nat)),(vs=[.ref p])->(fE a.c_LZ H p la da l m ds)->(∀r ts,H r=none->fV H ts ds->Q (.ref r) (upd H r (.lst ts)))->sp_KM K a vs H Q E
inductive sp_KI (K:ma) (a:Ad) (vs:IJ) (H:Hp) (Q:VK) (E:XK):Prop
 | mk:∀(p la da c g:AD) (l l2 m:lN) (old new:lX) (ys zs:IJ) (rc rg:List (lN×IJ)),(vs=[.ref p,tx l2,.ref c,.ref g])->(vd a.c_LZ H p la da l m)->(H la=some (.lst (old.map tx)))->(H c=some (.lst ys))->(gD H ys rc)->(H g=some (.lst zs))->(gD H zs rg)->(old.Pairwise gn)->(new.Pairwise gn)->((rc.map (·.1)).Nodup)->((∀w,w∈rc.map (·.1)↔w∈new/\w∉old))->((∀w,w∈rg.map (·.1)↔w∈old/\w∉new))->(old.length<=9000)->(rc.length<=9000)->(rg.length<=9000)->((∀w∈old,w.length<=1000))->((∀w∈new,w.length<=1000))->(TT a H)->(∀(t la2:AD) (H2:Hp),nQ [p] H H2->vd a.c_LZ H2 p la2 da l2 m->Nw H la2->H2 la2=some (.lst (new.map tx))->H2 t=some (.tup [.ref c,.ref g])->TT a H2->Q (.ref t) H2)->sp_KI K a vs H Q E
inductive sp_KX (K:ma) (a:Ad) (vs:IJ) (H:Hp) (Q:VK) (E:XK):Prop
 | mk:∀(p la da:AD) (s L m:lN),(vs=[.ref p,tx L])->(vd a.c_LZ H p la da s m)->(H la=some (.lst ((m5 s m).map tx)))->(L.length<=40)->(qc s L)->((∀x∈L,x∈m))->(ii m)->(TT a H)->(∀(t c g la2:AD) (H2:Hp),nQ [p] H H2->vd a.c_LZ H2 p la2 da L m->H2 la2=some (.lst ((m5 L m).map tx))->iq H H2 t c g la2 (sU [102,105,114,115,116] s L m) (ub [115,116,97,110,100,115] s L m)->TT a H2->Q (.ref t) H2)->sp_KX K a vs H Q E
inductive sp_KJ (K:ma) (a:Ad) (vs:IJ) (H:Hp) (Q:VK) (E:XK):Prop
 | mk:∀(p la da:AD) (s L m:lN),(vs=[.ref p,tx s])->(vd a.c_LZ H p la da L m)->(H la=some (.lst ((m5 L m).map tx)))->(L.length<=40)->(qc s L)->((∀x∈L,x∈m))->(ii m)->(TT a H)->(∀(t c g la2:AD) (H2:Hp),nQ [p] H H2->vd a.c_LZ H2 p la2 da s m->H2 la2=some (.lst ((m5 s m).map tx))->iq H H2 t c g la2 (ub [115,116,111,111,100] s L m) (sU [108,97,115,116] s L m)->TT a H2->Q (.ref t) H2)->sp_KJ K a vs H Q E
inductive sp_K0 (K:ma) (a:Ad) (vs:IJ) (H:Hp) (Q:VK) (E:XK):Prop
 | mk:∀(p dx C:AD) (l m:lN),(vs=[.ref p,tx l,tx m])->((C=a.c_LX\/C=a.c_LZ))->(H p=some (.ins C dx []))->(∀H2,H2 p=some (.ins C dx (fO "own_kinds" (tx m) (fO "own_text" (tx l) [])))->(∀b o,H b=some o->b≠p->H2 b=some o)->Q .non H2)->sp_K0 K a vs H Q E
inductive sp_KU (K:ma) (a:Ad) (vs:IJ) (H:Hp) (Q:VK) (E:XK):Prop
 | mk:∀(p dx:AD) (l m:lN),(vs=[.ref p,tx l,tx m])->(H p=some (.ins a.c_LX dx []))->(gx l m)->(∀H2,wY a.c_LX H2 p l m->(∀b o,H b=some o->b≠p->H2 b=some o)->Q .non H2)->sp_KU K a vs H Q E
inductive sp_K4 (K:ma) (a:Ad) (vs:IJ) (H:Hp) (Q:VK) (E:XK):Prop
 | mk:∀l m,(vs=[tx l,tx m])->(l.length<=1000)->(∀H2,e8 H H2->Q (.bl (wD l m)) H2)->sp_K4 K a vs H Q E
inductive sp_KO (K:ma) (a:Ad) (vs:IJ) (H:Hp) (Q:VK) (E:XK):Prop
 | mk:∀l m,(vs=[tx l,tx m])->(l.length<=1000)->(wD l m=true)->(∀H2,e8 H H2->Q .non H2)->sp_KO K a vs H Q E
inductive sp_KY (K:ma) (a:Ad) (vs:IJ) (H:Hp) (Q:VK) (E:XK):Prop
 | mk:∀(p dx:AD) (m:lN),(vs=[.ref p,tx m])->(H p=some (.ins a.c_LZ dx []))->(zo m)->(∀la da H2,fE a.c_LZ H2 p la da [] m []->H la=none->H da=none->(∀b o,H b=some o->b≠p->H2 b=some o)->Q .non H2)->sp_KY K a vs H Q E
inductive sp_K3 (K:ma) (a:Ad) (vs:IJ) (H:Hp) (Q:VK) (E:XK):Prop
 | mk:∀(p la da:AD) (l m:lN) (ds:List (Bool×Nat)) (c0:Nat),(vs=[.ref p,tx [c0]])->(fE a.c_LZ H p la da l m ds)->(ds.length<=9000)->(TT a H)->(c0∈m)->(l.length<40)->(∀(t c g la2:AD) (H2:Hp),nQ [p,da] H H2->fE a.c_LZ H2 p la2 da (l++[c0]) m (ds++[(true,c0)])->iq H H2 t c g la2 (sU [102,105,114,115,116] l (l++[c0]) m) (ub [115,116,97,110,100,115] l (l++[c0]) m)->TT a H2->Q (.ref t) H2)->sp_K3 K a vs H Q E
inductive sp_KW (K:ma) (a:Ad) (vs:IJ) (H:Hp) (Q:VK) (E:XK):Prop
 | mk:∀(p la da:AD) (c0:Nat) (l0 m:lN) (ds:List (Bool×Nat)),(vs=[.ref p])->(fE a.c_LZ H p la da (c0::l0) m ds)->(ds.length<=9000)->(TT a H)->(∀(t c g la2:AD) (H2:Hp),nQ [p,da] H H2->fE a.c_LZ H2 p la2 da l0 m (ds++[(false,c0)])->iq H H2 t c g la2 (ub [115,116,111,111,100] l0 (c0::l0) m) (sU [108,97,115,116] l0 (c0::l0) m)->TT a H2->Q (.ref t) H2)->sp_KW K a vs H Q E
inductive sp_KV (K:ma) (a:Ad) (vs:IJ) (H:Hp) (Q:VK) (E:XK):Prop
 | mk:∀(p la da:AD) (l m:lN) (ds:List (Bool×Nat)),(vs=[.ref p])->(fE a.c_LZ H p la da l m ds)->(ds.length<=9000)->(TT a H)->(((∃ds0 c0 l0,ds=ds0++[(true,c0)]/\l=l0++[c0]/\∀(t c g la2:AD) (H2:Hp),nQ [p,da] H H2->fE a.c_LZ H2 p la2 da l0 m ds0->iq H H2 t c g la2 (ub [115,116,111,111,100] l0 (l0++[c0]) m) (sU [108,97,115,116] l0 (l0++[c0]) m)->TT a H2->Q (.ref t) H2)\/(∃ds0 c0,ds=ds0++[(false,c0)]/\∀(t c g la2:AD) (H2:Hp),nQ [p,da] H H2->fE a.c_LZ H2 p la2 da (c0::l) m ds0->iq H H2 t c g la2 (sU [102,105,114,115,116] l (c0::l) m) (ub [115,116,97,110,100,115] l (c0::l) m)->TT a H2->Q (.ref t) H2)))->sp_KV K a vs H Q E
inductive sp_K9 (K:ma) (a:Ad) (vs:IJ) (H:Hp) (Q:VK) (E:XK):Prop
 | mk:∀(p:AD) (ws:lX),(vs=[.ref p])->(H p=some (.lst (ws.map tx)))->((∀w∈ws,w.length<=1000))->(TT a H)->(∀(ws':lX) (r:AD) (H2:Hp),ws'.Perm ws->ws'.Pairwise (λa b=>¬gn b a)->fQ H H2->TT a H2->H r=none->H2 r=some (.lst (ws'.map tx))->Q (.ref r) H2)->sp_K9 K a vs H Q E
inductive sp_K1 (K:ma) (a:Ad) (vs:IJ) (H:Hp) (Q:VK) (E:XK):Prop
 | mk:∀(p la da:AD) (l m:lN) (ds:List (Bool×Nat)),(vs=[.ref p])->(fE a.c_LZ H p la da l m ds)->(Q (tx l) H)->sp_K1 K a vs H Q E
inductive sp_KN (K:ma) (a:Ad) (vs:IJ) (H:Hp) (Q:VK) (E:XK):Prop
 | mk:∀(l:lN),(vs=[tx l])->(l.length<=40)->(∀p H2,e8 H H2->H p=none->H2 p=some (.tup ((pN l).map λ(i:Nat)=>.int i))->Q (.ref p) H2)->sp_KN K a vs H Q E
inductive sp_KK (K:ma) (a:Ad) (vs:IJ) (H:Hp) (Q:VK) (E:XK):Prop
 | mk:∀(l S:lN) (c:Nat) (t:AD),(vs=[tx l,.ref t,tx [c]])->(l.length<=40)->(H t=some (.tup (S.map λ(i:Nat)=>.int i)))->(S.length<=41)->(∀p H2,e8 H H2->H p=none->H2 p=some (.tup ((pH l S c).map λ(i:Nat)=>.int i))->Q (.ref p) H2)->sp_KK K a vs H Q E
inductive sp_LC (K:ma) (a:Ad) (vs:IJ) (H:Hp) (Q:VK) (E:XK):Prop
 | mk:∀(l m:lN),(vs=[tx l,tx m])->(l.length<=40)->(m.length<=4)->((∀c∈l,c∈m))->(∀(p:AD) (sp:lX) (ys:IJ) (H2:Hp),e8 H H2->H p=none->H2 p=some (.lst ys)->gK H2 l m sp ys->Q (.ref p) H2)->sp_LC K a vs H Q E
inductive sp_KH (K:ma) (a:Ad) (vs:IJ) (H:Hp) (Q:VK) (E:XK):Prop
 | mk:∀(p dx:AD) (l m:lN),(vs=[.ref p,tx l,tx m])->(H p=some (.ins a.c_LF dx []))->(gx l m)->(∀sp H2,hJ a.c_LF H2 p l m sp->(∀b o,H b=some o->b≠p->H2 b=some o)->Q .non H2)->sp_KH K a vs H Q E
inductive sp_KL (K:ma) (a:Ad) (vs:IJ) (H:Hp) (Q:VK) (E:XK):Prop
 | mk:∀(p:AD) (l m:lN) (sp:lX) (i:Nat) (s:lN) (c:Nat),(vs=[.ref p,.int i,tx [c]])->(hJ a.c_LF H p l m sp)->(sp[i]?=some s)->(c∈m)->(∀o,uZ l sp s c o->Q (o.getD .non) H)->sp_KL K a vs H Q E
inductive sp_KA (K:ma) (a:Ad) (vs:IJ) (H:Hp) (Q:VK) (E:XK):Prop
 | mk:∀(p:AD) (l m:lN) (sp:lX) (w:lN),(vs=[.ref p,tx w])->(hJ a.c_LF H p l m sp)->(w.length<=60)->((∀c∈w,c∈m))->(∀v H2,e8 H H2->Zrr l sp w v->Q v H2)->sp_KA K a vs H Q E
inductive sp_L8 (K:ma) (a:Ad) (vs:IJ) (H:Hp) (Q:VK) (E:XK):Prop
 | mk:∀c k,(vs=[.int c,.int k])->(∀r:Int,0<=r->Q (.int r) H)->sp_L8 K a vs H Q E
inductive sp_L6 (K:ma) (a:Ad) (vs:IJ) (H:Hp) (Q:VK) (E:XK):Prop
 | mk:∀(b:AD) (ns:List Int) (k:Int),(vs=[.ref b,.int k])->(m8 K H b (ns.map V.int))->(0<=k)->(∀r:Int,Q (.int r) H)->sp_L6 K a vs H Q E
inductive sp_LS (K:ma) (a:Ad) (vs:IJ) (H:Hp) (Q:VK) (E:XK):Prop
 | mk:∀c:Int,(vs=[.int c])->(∀m:lN,rD m=true->1<=m.length->m.length<=4->Q (tx m) H)->sp_LS K a vs H Q E
inductive sp_LO (K:ma) (a:Ad) (vs:IJ) (H:Hp) (Q:VK) (E:XK):Prop
 | mk:∀(b:AD) (ws:lX) (w:lN),(vs=[.ref b,tx w])->(H b=some (.lst (ws.map tx)))->(ws.length<=1000)->(w.length<=1000)->(∀H2,e8 H H2->Q (.bl (rL ws w)) H2)->sp_LO K a vs H Q E
inductive sp_MA (K:ma) (a:Ad) (vs:IJ) (H:Hp) (Q:VK) (E:XK):Prop
 | mk:∀(b:AD) (ws:lX),(vs=[.ref b])->(H b=some (.lst (ws.map tx)))->(ws.length<=200)->((∀w∈ws,w.length<=41))->(∀(p:AD) (kvs:List (mh×V)) (H2:Hp),e8 H H2->H p=none->H2 p=some (.dK kvs)->iJ ws kvs->Q (.ref p) H2)->sp_MA K a vs H Q E
inductive sp_LQ (K:ma) (a:Ad) (vs:IJ) (H:Hp) (Q:VK) (E:XK):Prop
 | mk:∀(p:AD) (kvs:List (mh×V)) (ws:lX) (u:lN),(vs=[.ref p,tx u])->(Rd H p (.dK kvs))->(iJ ws kvs)->(u.length<=1000)->(∀e H2,e8 H H2->rO ws u e->Q (tx e) H2)->sp_LQ K a vs H Q E
inductive sp_L1 (K:ma) (a:Ad) (vs:IJ) (H:Hp) (Q:VK) (E:XK):Prop
 | mk:∀(c:Int) (d:Bool) (m:lN) (n:Int),(vs=[.int c,.bl d,tx m,.int n])->(1<=m.length)->(m.length<=4)->(0<=n)->(n<=60)->(∀l:lN,l.length=n.toNat->(∀x∈l,x∈m)->Q (tx l) H)->sp_L1 K a vs H Q E
inductive sp_K7 (K:ma) (a:Ad) (vs:IJ) (H:Hp) (Q:VK) (E:XK):Prop
 | mk:∀(l:lN),(vs=[tx l])->(l.length<=60)->(∀(p:AD) (kvs:List (mh×V)) (H2:Hp),e8 H H2->H p=none->H2 p=some (.dK kvs)->Hg l kvs->Q (.ref p) H2)->sp_K7 K a vs H Q E
inductive sp_K5 (K:ma) (a:Ad) (vs:IJ) (H:Hp) (Q:VK) (E:XK):Prop
 | mk:∀(b:AD) (ws:lX) (m:lN),(vs=[.ref b,tx m])->(H b=some (.lst (ws.map tx)))->(KO m)->(GL m ws)->(∀H2,e8 H H2->Q .non H2)->sp_K5 K a vs H Q E
inductive sp_ME (K:ma) (a:Ad) (vs:IJ) (H:Hp) (Q:VK) (E:XK):Prop
 | mk:∀(b:AD) (ws:lX) (m:lN),(vs=[.ref b,tx m])->(H b=some (.lst (ws.map tx)))->(KO m)->(GL m ws)->(∀(p:AD) (kw:List (mh×V)) (ss:lX) (H2:Hp),e8 H H2->H p=none->H2 p=some (.dK kw)->gf H2 p kw ws m ss->iz ws ss->Q (.ref p) H2)->sp_ME K a vs H Q E
inductive sp_L2 (K:ma) (a:Ad) (vs:IJ) (H:Hp) (Q:VK) (E:XK):Prop
 | mk:∀(p:AD) (kw:List (mh×V)) (ws ss:lX) (m:lN),(vs=[.ref p])->(H p=some (.dK kw))->(gf H p kw ws m ss)->(iz ws ss)->(KO m)->(GL m ws)->(∀(q:AD) (es:lX) (H2:Hp),e8 H H2->H q=none->H2 q=some (.lst (es.map tx))->iQ ws m ss es->Q (.ref q) H2)->sp_L2 K a vs H Q E
inductive sp_LJ (K:ma) (a:Ad) (vs:IJ) (H:Hp) (Q:VK) (E:XK):Prop
 | mk:∀(p q:AD) (kw:List (mh×V)) (ws ss es:lX) (m:lN),(vs=[.ref p,.ref q])->(H p=some (.dK kw))->(gf H p kw ws m ss)->(iz ws ss)->(KO m)->(GL m ws)->(iH ws)->(H q=some (.lst (es.map tx)))->(iQ ws m ss es)->([]∈es)->(∀x H2,e8 H H2->LF ws m [] x->Q (tx x) H2)->sp_LJ K a vs H Q E
inductive sp_LM (K:ma) (a:Ad) (vs:IJ) (H:Hp) (Q:VK) (E:XK):Prop
 | mk:∀(b:AD) (ws:lX) (m:lN) (x:lN),(vs=[.ref b,tx m,tx x])->(H b=some (.lst (ws.map tx)))->(GL m ws)->(gx x m)->(((∀w∈m5 x m,¬Av ws w)->∀H2,e8 H H2->Q .non H2))->(∀w,ZpZ ws (m5 x m) w->X2 a.c_LY "one" "other" E H x w)->sp_LM K a vs H Q E
inductive sp_LK (K:ma) (a:Ad) (vs:IJ) (H:Hp) (Q:VK) (E:XK):Prop
 | mk:∀(x y:lN),(vs=[tx x,tx y])->(x.length<=9000)->(y.length<=9000)->(Q (.bl (gc x y)) H)->sp_LK K a vs H Q E
inductive sp_LI (K:ma) (a:Ad) (vs:IJ) (H:Hp) (Q:VK) (E:XK):Prop
 | mk:∀(b:AD) (ws:lX) (w:lN),(vs=[.ref b,tx w])->(H b=some (.lst (ws.map tx)))->(ws.length<=1000)->((∀p∈ws,p.length<=9000))->(w.length<=9000)->(∀H2,e8 H H2->Q (.bl (rL ws w)) H2)->sp_LI K a vs H Q E
inductive sp_MD (K:ma) (a:Ad) (vs:IJ) (H:Hp) (Q:VK) (E:XK):Prop
 | mk:∀(m w:lN),(vs=[tx m,tx w])->(w.length<=1000)->(∀H2,e8 H H2->Q (.bl (w.all λc=>m.contains c)) H2)->sp_MD K a vs H Q E
inductive sp_LT (K:ma) (a:Ad) (vs:IJ) (H:Hp) (Q:VK) (E:XK):Prop
 | mk:∀(b:AD) (ws:lX) (m x y:lN),(vs=[.ref b,tx m,tx x,tx y])->(H b=some (.lst (ws.map tx)))->(GL m ws)->(KO m)->(x.length<=100)->(y.length<=100)->((∀c∈x,c∈m))->((∀c∈y,c∈m))->(¬mj y x)->(Av ws x)->(Av ws y)->((∀c∈m,¬Av ws (c::x)/\¬Av ws (x++[c])))->(∀H2,e8 H H2->Q (.bl true) H2)->sp_LT K a vs H Q E
inductive sp_LL (K:ma) (a:Ad) (vs:IJ) (H:Hp) (Q:VK) (E:XK):Prop
 | mk:∀(b:AD) (ls:lX) (m:lN),(vs=[.ref b,tx m])->(H b=some (.lst (ls.map tx)))->(KO m)->(ls.length<=2)->((∀l∈ls,l.length<=60))->(∀(q:AD) (ws:lX) (H2:Hp),e8 H H2->H q=none->H2 q=some (.lst (ws.map tx))->gL ls m ws->Q (.ref q) H2)->sp_LL K a vs H Q E
inductive sp_L7 (K:ma) (a:Ad) (vs:IJ) (H:Hp) (Q:VK) (E:XK):Prop
 | mk:∀(c d:Int) (m:lN) (mo:Int),(vs=[.int c,.int d,tx m,.int mo])->(1<=m.length)->(m.length<=4)->(12<=mo)->(mo<=40)->(∀l:lN,(l.length:Int)<=mo->(∀x∈l,x∈m)->Q (tx l) H)->sp_L7 K a vs H Q E
inductive sp_LB (K:ma) (a:Ad) (vs:IJ) (H:Hp) (Q:VK) (E:XK):Prop
 | mk:∀(b:AD) (ws:lX),(vs=[.ref b])->(H b=some (.lst (ws.map tx)))->(iH ws)->(∀H2,e8 H H2->Q .non H2)->sp_LB K a vs H Q E
inductive sp_LD (K:ma) (a:Ad) (vs:IJ) (H:Hp) (Q:VK) (E:XK):Prop
 | mk:∀(b:AD) (ls ws:lX) (m:lN),(vs=[.ref b,tx m])->(H b=some (.lst (ws.map tx)))->(KO m)->(rJ ls m ws)->(TT a H)->((∀x,Cg ws m 4 x []->∀H2,fQ H H2->TT a H2->Q (tx x) H2))->((∀x,Cg ws m 2 x []->XL1 a a.c_LG "word" E H x))->(∀x y,Cg ws m 3 x y->XL2 a a.c_LY "one" "other" E H x y)->sp_LD K a vs H Q E
inductive sp_LP (K:ma) (a:Ad) (vs:IJ) (H:Hp) (Q:VK) (E:XK):Prop
 | mk:∀(b:AD) (ls ws:lX) (m:lN),(vs=[.ref b,tx m])->(H b=some (.lst (ws.map tx)))->(KO m)->(rJ ls m ws)->(TT a H)->(∀(k:Nat) (x y:lN) (t:AD) (H2:Hp),Cg ws m k x y->fQ H H2->TT a H2->H2 t=some (.tup [tx (tagT k),tx x,tx y])->Q (.ref t) H2)->sp_LP K a vs H Q E
inductive sp_LW (K:ma) (a:Ad) (vs:IJ) (H:Hp) (Q:VK) (E:XK):Prop
 | mk:∀(b:AD) (l m:lN),(vs=[tx l,tx m,.ref b])->(H b=some (.lst ((m5 l m).map tx)))->(gx l m)->(TT a H)->(∀H2,fQ H H2->TT a H2->Q (.bl true) H2)->sp_LW K a vs H Q E
inductive sp_L4 (K:ma) (a:Ad) (vs:IJ) (H:Hp) (Q:VK) (E:XK):Prop
 | mk:∀(l m:lN),(vs=[tx l,tx m])->(KO m)->(l.length<=60)->((∀c∈l,c∈m))->(TT a H)->(∀H2,fQ H H2->TT a H2->Q (.bl true) H2)->sp_L4 K a vs H Q E
inductive sp_MC (K:ma) (a:Ad) (vs:IJ) (H:Hp) (Q:VK) (E:XK):Prop
 | mk:∀(l1 l2 m:lN),(vs=[tx l1,tx l2,tx m])->(KO m)->(l1.length<=60)->(l2.length<=60)->((∀c∈l1,c∈m))->((∀c∈l2,c∈m))->(TT a H)->(∀H2,fQ H H2->TT a H2->Q (.bl true) H2)->sp_MC K a vs H Q E
inductive sp_L9 (K:ma) (a:Ad) (vs:IJ) (H:Hp) (Q:VK) (E:XK):Prop
 | mk:∀(b:AD) (ns:List Int) (l m:lN),(vs=[.ref b,tx m,tx l])->(m8 K H b (ns.map V.int))->(ns.length<=63)->(KO m)->(l.length<=60)->((∀c∈l,c∈m))->(TT a H)->(∀H2,Q (.bl true) H2)->sp_L9 K a vs H Q E
def spLaw (K:ma)(tb:Str->AD×AD):Sp:=λvs H Q _=>∃(b:AD) (ns:List Int),vs=[.ref b]/\m8 K H b (ns.map V.int)/\ns.length<=63/\ge H (tb "in_order").2 lpos lq/\∀H2,Q (.bl true) H2
def sz (k:Nat)(h:k<=9000):k<=sizeLine:=mO h (by rw[sizeLine_eq];decide)
section
local macro_rules | `(tactic| walk_at "r0") => `(tactic| simp only [iW, jh, yt, Ft, jj, tC, qp, gNil, EB, tRet, i5, Eh, tB, tNot, tAnd, FE, GX, FO, HN, je, BR, ZqJ, ZqG, ZqI, ZqH, D8, zp, zf, Ef, GE, Ck, tBM0, FK, Ix, iR, jo, L2.start, cxK, bxK, cxPr, cxWo, suxK, Zp8, Zp7, Gh, tTry, EM, Ij, Hk, jn, Dk, D9, Ej, zC, ZqK, Zoz, FH, FM, DD, jG, DZ, Hx, gTup, pick, Option.bind_some, Option.bind_none, Option.join_some, Option.join_none, List.map_cons, List.map_nil, List.length_cons, List.length_nil, Nat.zero_add, Nat.reduceAdd, Nat.reduceSub, List.replicate_succ, List.replicate_zero, List.cons_append, List.nil_append, List.append_nil, List.getElem?_cons_zero, List.getElem?_cons_succ, List.set_cons_zero, List.set_cons_succ, q_I, q_I0, q_U, q_T, xE, lG, jz, Zm0, Ev, Ch, kY, sFld, DN, tAug, jc, E6, F6, F4, tDIn, Fp, FX, FV, GZ, Gx, Ep, HZ, FC, FN, GD, rDct, Gw, Fm, Fm])
local macro_rules | `(tactic| walk_at "r1") => do
 let some t <-Lean.Macro.expandMacro? (<-`(tactic| walk_at "r0")) | Lean.Macro.throwUnsupported
 match (⟨t⟩:Lean.TSyntax `tactic) with
 | `(tactic| simp only[$l,*])=>let d:=⟨l.elemsAndSeps⟩;`(tactic| dsimp only[$d,*])
 | _=>Lean.Macro.throwUnsupported
def Zlm (h:let T:=wT t;iW s T D U H):iW s (wT t) D U H:=h
local macro_rules | `(tactic| walk_at "rd") => `(tactic| ((try (with_reducible refine Zlm ?_; intro)); first | (walk_at "r1"; try walk_at "r0") | walk_at "r0"))
local macro_rules | `(tactic| omega) => `(tactic| walk_at "rd")
abbrev lL (k:Nat)(l:List Str)(s:Stmt):=fg l (l.take k) (pT s)
local macro_rules | `(tactic| walk_at "sc") => `(tactic| exact ⟨rfl, rfl, rfl, by decide +kernel, rfl, by decide +kernel, by decide +kernel⟩)
local macro_rules | `(tactic| grind) => `(tactic| walk_at "sc")
local macro_rules | `(tactic| walk_at "rd?") => `(tactic| (try walk_at "rd"))
local macro_rules | `(tactic| bv_omega) => `(tactic| walk_at "rd?")
local macro_rules | `(tactic| walk_at "g") => `(tactic| (refine ou ?_;walk_at "rd"))
local macro_rules | `(tactic| ac_rfl) => `(tactic| walk_at "g")
local macro_rules | `(tactic| walk_at "h") => `(tactic| (show wT _ _ _ _;walk_at "g"))
local macro_rules | `(tactic| walk_at "k") => `(tactic| (walk_at "rd?";walk_at "g"))
local macro_rules | `(tactic| walk_at "ln") => `(tactic| (intro _ _ _ _ h; rcases h with ⟨⟩; subst_vars; rfl))
def Zqx:lL 2 ["text","letters"] kZ:=by grind
def Zqw:lL 1 ["words"] kI:=by grind
def Zqb:lL 2 ["text","length"] jO:=by grind
def ya:lL 3 ["shorter","standing","kinds","found","head","letter","word"] ly:=by grind
def Zqc:lL 2 ["words","word"] kc:=by grind
def zx:lL 1 ["words","stems","word","size"] jH:=by grind
def Cb:lL 2 ["stems","text","start"] jR:=by grind
def tW:lL 1 ["ways","sources","left","stem","reached","ended","at"] jT:=by grind
def yb:lL 2 ["ways","ended","longest","stem","letter","word"] jx:=by grind
def Zqu:lL 1 ["self"] jD:=by grind
def Ze1:lL 3 ["self","one","other"] CK:=by grind
def ZqC:lL 3 ["self","text","kinds"] lA:=by grind
def Zqv:lL 2 ["self","length"] js:=by grind
def Zqn:lL 1 ["self"] j0:=by grind
def ZdR:lL 2 ["self","word"] CV:=by grind
def Zqp:lL 1 ["text"] jE:=by grind
def Zqs:lL 3 ["text","spots","letter"] jF:=by grind
def Zqh:lL 2 ["text","word"] kJ:=by grind
def Zqg:lL 2 ["_law_script","_law_k"] kq:=by grind
def Dt:lL 2 ["_law_cell","_law_k","_law_number"] ku:=by grind
def zD:lL 1 ["_law_text_here","_law_found","_law_start","_law_end"] kz:=by grind
def EW:lL 2 ["_law_one","_law_word","_law_at"] kK:=by grind
def Zqa:lL 2 ["_law_kinds_here","_law_text_here"] kQ:=by grind
def Zqq:lL 1 ["self"] jL:=by grind
def ZqB:lL 1 ["self"] kH:=by grind
def Zqr:lL 3 ["self","room","letter"] jY:=by grind
def Zqf:lL 1 ["thing"] jA:=by grind
def Zqe:lL 3 ["thing","kinds","most"] kU:=by grind
def zb:lL 2 ["words","kinds","stems","ways","stem","onward"] jC:=by grind
def Zqm:lL 2 ["self","length"] jW:=by grind
def uy:lL 2 ["text","kinds","spots","words","numbers","rooms","room","ways","letter","behind"] kN:=by grind
def CW:lL 2 ["lesser","longer","edges","size"] jw:=by grind
def xI:lL 1 ["_law_cell","_law_at","_law_found","_law_k"] j9:=by grind
def u5:lL 4 ["_law_cell","_law_by_digits","_law_kinds_here","_law_many","_law_text_here","_law_left","_law_k","_law_number"] lu:=by grind
def vK:lL 2 ["_law_texts","_law_kinds_here","_law_known","_law_text_here","_law_found","_law_word","_law_letter","_law_longer"] kA:=by grind
def Zqd:lL 2 ["_law_words","_law_word"] kM:=by grind
def Dq:lL 4 ["self","text","came","went","gone","kept"] jZ:=by grind
def Zqz:lL 2 ["thing","kinds"] jy:=by grind
def Zqi:lL 1 ["thing"] kT:=by grind
def Zqy:lL 3 ["thing","kinds","most"] lB:=by grind
def BI:lL 1 ["words","other","one"] kX:=by grind
def xf:lL 1 ["self","found","shorter","length","standing"] jI:=by grind
def DQ:lL 3 ["lesser","longer","reason","word"] ka:=by grind
def xB:lL 4 ["lesser","longer","kinds","reason","found","shorter","told","letter","word"] jM:=by grind
def vv:lL 4 ["_law_cell","_law_way","_law_kinds_here","_law_most","_law_many","_law_base","_law_text_here","_law_at"] lE:=by grind
def GS:lL 4 ["_law_words","_law_kinds_here","_law_one","_law_other","_law_longer"] k9:=by grind
def Zqo:lL 2 ["thing","kinds"] kG:=by grind
def Dv:lL 2 ["words","kinds","ahead","word"] jU:=by grind
def Zql:lL 3 ["self","text","kinds"] kE:=by grind
def Zqt:lL 3 ["self","text","kinds"] lh:=by grind
def C9:lL 2 ["self","lesser","came","went"] kC:=by grind
def CD:lL 2 ["self","longer","came","went"] k7:=by grind
def Zqj:lL 2 ["self","kinds"] kB:=by grind
def zd:lL 2 ["self","word","room","letter"] jJ:=by grind
def Zqk:lL 1 ["self"] j8:=by grind
def ED:lL 1 ["self","deed"] lD:=by grind
def ZqA:lL 2 ["self","letter"] j7:=by grind
def DS:lL 3 ["words","kinds","text","word"] jB:=by grind
def yU:lL 2 ["words","kinds","ordered","ways","ended","text"] jX:=by grind
def wx:lL 2 ["_law_words","_law_kinds_here","_law_text_here","_law_found","e"] kg:=by grind
def Do:lL 3 ["_law_text_here","_law_kinds_here","_law_words","_law_machine","_law_word"] jP:=by grind
def wV:lL 3 ["_law_script","_law_kinds_here","_law_text_here","_law_strip","_law_line","_law_k","_law_cell","_law_way"] jt:=by grind
def CN:lL 2 ["_law_text_here","_law_kinds_here","_law_words","_law_found"] jS:=by grind
def Cu:lL 3 ["_law_one","_law_other","_law_kinds_here","_law_words","_law_found"] kP:=by grind
def wq:lL 1 ["_law_script","_law_way","_law_kinds_here","_law_text_here","_law_other"] Cw:=by grind
variable (T:TL K mg base a tb)
include T
def Hy:fB P w K mg base mS 1 a.f_K8 a.d_K8 ["text","letters"] (sp_K8 K a):=by
 refine T.c6.u.ok Zqx (λAp A outer s H vs Q E hr h=>?_);obtain⟨l,m,rfl,hl,q⟩:=h;refine⟨_,(lY (mN (mZ (Zkz rfl) rfl T.eU ZpX (lM (qz (N:=["sign","letters"]) (ix:=[none,some 1]) rfl (pY rfl) rfl (uf (pv 0)) (λ_ _ _ _=>(m7 (i:=0) (show (["sign","letters"]:AJ).Nodup from by decide +kernel) rfl (Or.inl rfl) (Or.inr rfl))) (λ_ _ _ _=>sL) (λ_ _ _ _=>(pV Ziu (pv 0) (pv 1) rfl))) lQ)))),?_⟩;omega;refine⟨l,rfl,fk.text (λ_=>true) (λi=>.bl (decide (l.getD i 0∈m))) hl ?_ ?_ ?_⟩
 .intro i H1 Q1 hi s1 q1;exact q1 H1 (e8.refl _)
 .intro i H1 Q1 hi _ s1 q1;omega;exact⟨_,m,rfl,rfl,q1 H1 (e8.refl _)⟩
 .intro p H1 s1 n1 l1;refine⟨p,(List.range l.length).map (λi=>decide (l.getD i 0∈m)),rfl,?_,?_⟩
  .rw[l1,gt,oX];rfl
  .rw[iU];exact q H1 s1
def zY:fB P w K mg base mS 1 a.f_K9 a.d_K9 ["words"] (sp_K9 K a):=by refine T.cP.u.okC T.cd_K9 Zqw (λA outer s H vs Q E hr h=>?_);obtain⟨p,ws,rfl,hp,hw,tk,q⟩:=h;refine⟨_,(lY (mN (Zk3 (q:="in_order.<locals>.<lambda>") hr T.L_in_order rfl rfl T.dB T.cK (lM (pv 0) lQ) rfl rfl (by kernel_rfl) ⟨rfl,rfl,rfl,rfl,rfl,rfl⟩ (λ_ _ _ _ _=>.of_eq rfl)))),?_⟩;have sz:∀k:Nat,k<=1000->k<=sizeLine:=λk h=>mO h (by rw[sizeLine_eq];decide);omega;exact⟨p,ws,rfl,hp,λw h=>sz _ (hw w h),tk.1,λws' r H2 a b c d=>q ws' r H2 a b c.1 ⟨d,trivial⟩⟩
def ZqS:fB P w K mg base mS 1 a.f_LV a.d_LV ["text","length"] (sp_LV K a):=by
 refine T.dW.u.ok Zqb (λAp A outer s H vs Q E hr h=>?_);obtain⟨l,n,rfl,hl,hn,h63,q⟩:=h;refine⟨_,(lY (mN (mZ (B7 rfl) rfl T.dB Co (lM (sK (Da rfl) rfl T.eP BF (lM (qz (N:=["start","length","text"]) (ix:=[none,some 1,some 0]) rfl (pY rfl) rfl (xA rfl T.cU (lM (mJ pj (mJ Cq (mZ (nU (K:=K) rfl) rfl T.cK nR (lM (pv 0) lQ)) (pv 1)) me) lQ)) (λ_ _ _ _=>(m7 (i:=0) (show (["start","length","text"]:AJ).Nodup from by decide +kernel) rfl (Or.inl rfl) (Or.inr rfl))) (λ_ _ _ _=>sL) (λ_ _ _ _=>(oF oM (pv 2) (nX (pv 0)) (nX (mJ pj (pv 0) (pv 1)))))) lQ)) lQ)))),?_⟩;omega;have sz:l.length<=sizeLine:=mO hl (by rw[sizeLine_eq];decide);have ec:((l.length:Int)-(n:Nat)+1).toNat=l.length+1-n:=by lia
 refine⟨_,_,rfl,qD ∅,_,rfl,∅,∅,?_⟩;rw[ec];refine fk.rangeA (λi=>tx ((l.drop i).take n)) ∅ ?_ ?_
 .intro i H1 Q1 hi s1 q1;omega;refine⟨_,rfl,_,rfl,l,rfl,sz,?_⟩;have e1:(0+(i:Int))=((i:Nat):Int):=by lia
  have e2:((i:Nat):Int)+(n:Nat)=((i+n:Nat):Int):=by lia
  rw[e1,e2,zH];have e3:i+n-i=n:=by lia
  rw[e3];exact q1 H1 (e8.refl _)
 .intro p H1 s1 n1 l1;refine⟨(List.range (l.length+1-n)).map (λi=>(l.drop i).take n),by simp;lia,.inr ⟨p,rfl,.mk (by rw[l1,oX];rfl)⟩,λp2 n2=>⟨p2,_,rfl,mq,?_,fY.of λp3 H3 s3 n3 l3=>q p3 H3 (s1.trans ((oR n2).trans s3)) ((s1.trans (oR n2)).free n3) l3⟩⟩;refine mO (FQ _) ?_;rw[lZ,rW,sizeLine_eq]
  lia
def Zq5:fB P w K mg base mS 1 a.f_L0 a.d_L0 ["shorter","standing","kinds"] (sp_L0 K a):=by
 refine T.eC.u.ok ya (λAp A outer s H vs Q E hr h=>?_);obtain⟨b1,b2,sh,st,m,rfl,hb1,hb2,hsh,hm,hw,q⟩:=h;refine⟨_,(lW (mK (i:=3) ya.nd (qi lQ))
  (lW (oJ oq rfl (pB (K:=K) rfl (pv 0)) (m7 (i:=4) ya.nd rfl (Or.inl rfl))
  (lY (oJ oq rfl (uf (pv 2)) (m7 (i:=5) ya.nd rfl (Or.inl rfl))
  (lW (mK (i:=6) ya.nd (mJ qB (pv 4) (pv 5)))
  (lY (nA (PW.pt (uw (m9 (Ziv (K:=K) rfl) (oF oM (pv 6) (nX me) o5) (pv 0) rfl) (uM (m9 (Ds (K:=K) rfl) (pv 6) (pv 1) rfl)))) (lY (oG (rj rn tK tG sE (pv 3) (lM (pv 6) lQ)))) nD))))))
  (lY (mN (pv 3))))),?_⟩
 omega;refine⟨nO _,fY.of λpf H1 s1 nf lf=>⟨b1,rfl,⟨_,.mk (s1 _ _ hb1)⟩,fA.list (xs:=sh.map tx) (λi U H'=>∃v4 v5 v6,U=[some (.ref b1),some (.ref b2),some (tx m),some (.ref pf),v4,v5,v6]/\e8 H H'/\H' pf=some (.lst (((sh.take i).flatMap (uH sh st m)).map tx))) ⟨_,_,_,rfl,s1,lf⟩ (λi U H' _ ⟨_,_,_,_,s',_⟩=>.mk (s' _ _ hb1)) ?_ ?_⟩⟩
 .rintro i x U H2 hx ⟨v4,v5,v6,rfl,s2,l2⟩;obtain⟨h,hh,rfl⟩:∃h,sh[i]?=some h/\x=tx h:=by
   rw[om]at hx;cases e:sh[i]? with
   | none=>rw[e]at hx;cases hx
   | some h=>rw[e]at hx;exact⟨h,rfl,(Option.some.inj hx).symm⟩
  have hw1:=hw h (oW hh);have fl:=xv (f:=uH sh st m) (b:=4) (λx=>mO (HK _ _ _ _) hm) (sh.take i);have tl:(sh.take i).length<=100:=by rw[nG];lia
  omega;refine⟨m,rfl,fA.text (λj U H'=>∃v5 v6,U=[some (.ref b1),some (.ref b2),some (tx m),some (.ref pf),some (tx h),v5,v6]/\e8 H H'/\H' pf=some (.lst (((sh.take i).flatMap (uH sh st m)++((m.take j).filter (rp sh st h)).map (λc=>h++[c])).map tx))) ⟨_,_,rfl,s2,~~~l2⟩ ?_ ?_⟩
  .rintro j c U H3 hc ⟨v5,v6,rfl,s3,l3⟩;have fj:=pW (rp sh st h) (m.take j);rw[nG]at fj;have fe:(m.take (j+1)).filter (rp sh st h)=(m.take j).filter (rp sh st h)++if rp sh st h c=true then [c] else []:=by
    rw[vT hc,tO];congr 1;by_cases z:rp sh st h c=true
    .rw[lU z,List.filter_cons_of_pos z];rfl
    .rw[lT z,List.filter_cons_of_neg z];rfl
   rw[fe];omega;refine⟨by rw[sizeLine_eq];lia,_,rfl,_,rfl,by rw[mP,oC,sizeLine_eq];lia,?_⟩;rw[yX];refine⟨b1,_,rfl,.inl (.mk (s3 _ _ hb1)),rfl,uG _,?_⟩;rw[lT mQ,Bm];by_cases t1:(h++[c]).tail∈sh
   .rw[IA t1];refine gJ ⟨b2,_,rfl,.inl (.mk (s3 _ _ hb2)),rfl,uG _,?_⟩;rw[lU rfl,Bm];by_cases t2:h++[c]∈st
    .have e:¬rp sh st h c=true:=by unfold rp;rw[IA t2];simp
     rw[IA t2,Bool.not_true,lT e,sM];exact fS ⟨_,_,rfl,s3,l3⟩
    .have e:rp sh st h c=true:=by unfold rp;rw[IA t1,IB t2];rfl
     rw[IB t2,Bool.not_false,lU e];refine gJ ⟨.inl ⟨rfl,_,.mk l3⟩,pf,_,_,rfl,rfl,l3,by rw[lZ,mP,lZ,sizeLine_eq];lia,_,_,rfl,fq s3 nf,?_⟩;rw[mq];simp
   .have e:¬rp sh st h c=true:=by unfold rp;rw[IB t1];simp
    rw[IB t1,lT e,sM];exact fS (fS ⟨_,_,rfl,s3,l3⟩)
  .rintro U H3 ⟨v5,v6,rfl,s3,l3⟩;refine⟨_,_,_,rfl,s3,?_⟩;rw[l3,vT hh,yE,List.flatMap_singleton,pK];rfl
 .rintro U H2 ⟨v4,v5,v6,rfl,s2,l2⟩;omega;rw[lZ,pK]at l2;exact q pf H2 s2 nf l2
def DX:fB P w K mg base mS 1 a.f_LO a.d_LO ["words","word"] (sp_LO K a):=by
 refine T.dG.u.ok Zqc (λAp A outer s H vs Q E hr h=>?_);obtain⟨b,ws,w_,rfl,hb,hn,hw,q⟩:=h;refine⟨_,(lY (mN (ZoH (mZ (Zky rfl) rfl T.eZ ZpW (lM (qz (N:=["piece","word"]) (ix:=[none,some 1]) rfl (pY rfl) rfl (pB (K:=K) rfl (pv 0)) (λ_ _ _ _=>(m7 (i:=0) (show (["piece","word"]:AJ).Nodup from by decide +kernel) rfl (Or.inl rfl) (Or.inr rfl))) (λ_ _ _ _=>sL) (λ_ _ _ _=>(pV Bf (pv 0) (pv 1) rfl))) lQ))))),?_⟩;omega;refine⟨b,rfl,⟨_,.mk hb⟩,fk.listM (xs:=ws.map tx) (λ_=>true) (λi=>.bl (gc (ws.getD i []) w_)) (by rw[lZ];lia) (.mk hb) (λi H' Q' _ _ q=>q H' (e8.refl _)) ?_ ?_⟩
 .intro i H1 Q1 hi _ s1 q1;rw[lZ]at hi;rw[tJ hi];omega;exact⟨_,w_,rfl,rfl,q1 H1 (e8.refl _)⟩
 .intro p H1 s1 n1 l1;rw[gt,lZ]at l1;refine⟨p,ws.map λp=>gc p w_,rfl,?_,?_⟩
  .rw[l1,oX];congr 2;apply qZ {};intro i h1 h2;have hi:i<ws.length:=by simpa using h2
   simp[nN,mT hi]
  .have e:(ws.map λp=>gc p w_).any id=ws.any λp=>gc p w_:=by rw[List.any_map];rfl
   rw[e];exact q H1 s1
def ZqR:fB P w K mg base mS 1 a.f_MA a.d_MA ["words"] (sp_MA K a):=by
 refine T.eD.u.ok zx (λAp A outer s H vs Q E hr h=>?_);have hu1:=tM hr;obtain⟨b,ws,rfl,hb,hn,h41,q⟩:=h;refine⟨_,(lW (mK (i:=1) zx.nd (Hv (HW (on (l:=[]) nofun) qT F7) rfl rfl {} ⋯))
  (lW (oJ oq rfl (pB (K:=K) rfl (pv 0)) (m7 (i:=2) zx.nd rfl (Or.inl rfl))
  (lY (oJ oq rfl (zR rfl T.cU (lM me (lM (mZ (nU (K:=K) rfl) rfl T.cK nR (lM (pv 2) lQ)) lQ))) (m7 (i:=3) zx.nd rfl (Or.inl rfl))
  (lY (tQ hu1 (pv 1) (oF oM (pv 2) o5 (nX (pv 3))) qT rfl)))))
  (lY (mN (pv 1))))),?_⟩
 omega;intro p hp;have s1:e8 H (upd (upd H p (.dK [])) p (.dK (oO [] [(lV [],.bl true)]))):=Gc hp;have h1:upd (upd H p (.dK [])) p (.dK (oO [] [(lV [],.bl true)])) p=some (.dK (oO [] [(lV [],.bl true)])):=mq;refine⟨mq,[(lV [],.bl true)],rfl,by show (1:Nat)<=15;decide,b,rfl,⟨_,.mk (s1 _ _ hb)⟩,?_⟩;have k1:gk ws 0 0 (oO [] [(lV [],.bl true)]):=gk.start ws;have l1:(oO [] [(lV [],.bl true)]).length<=1:=vZ _ _;generalize oO [] [(lV [],.bl true)]=kv0 at s1 h1 k1 l1;generalize upd (upd H p (.dK [])) p (.dK kv0)=H1 at s1 h1;refine fA.list (xs:=ws.map tx) (λi U H'=>∃v2 v3 kvs,U=[some (.ref b),some (.ref p),v2,v3]/\e8 H H'/\H' p=some (.dK kvs)/\gk ws i 0 kvs/\kvs.length<=1+41*i) ⟨_,_,_,rfl,s1,h1,k1,∅⟩ (λi U H' _ ⟨_,_,_,_,s',_⟩=>.mk (s' _ _ hb)) ?_ ?_
 .rintro i x U H2 hx ⟨v2,v3,kvs,rfl,s2,h2,k2,n2⟩;obtain⟨w_,hw,rfl⟩:=uI hx;have w41:=h41 w_ (oW hw);have hi:=(mX.mp hw).1;omega;refine⟨_,_,rfl,qD ∅,_,_,rfl,⟨∅,∅,∅,∅⟩,?_⟩;refine fA.range (λj U H'=>∃v3 kvs,U=[some (.ref b),some (.ref p),some (tx w_),v3]/\e8 H H'/\H' p=some (.dK kvs)/\gk ws i (1+j) kvs/\kvs.length<=1+41*i+j) ⟨_,_,rfl,s2,h2,k2.one hw,∅⟩ ?_ ?_
  .rintro j U H3 hj ⟨v3,kvs,rfl,s3,h3,k3,n3⟩;have e1:(1+(j:Int))=((1+j:Nat):Int):=by lia
   have j41:j<=41:=by lia
   omega;refine⟨_,rfl,w_,rfl,sz _ ∅,?_⟩;rw[e1,wX];refine⟨p,_,rfl,gO.k (k:=lV (w_.take (1+j))) h3 (ot (show _<9000 by lia) (sz 9000 (mC _))),_,_,rfl,fq s3 hp,mq,?_,?_⟩
   .have:=k3.put hw (show 1+j<w_.length by lia);rw[show 1+(j+1)=1+j+1 by lia];exact this
   .have:=sg kvs (lV (w_.take (1+j))) (.bl true)
    lia
  .rintro U H3 ⟨v3,kvs,rfl,s3,h3,k3,n3⟩;exact⟨_,_,_,rfl,s3,h3,k3.next hw ∅,∅⟩
 .rintro U H2 ⟨v2,v3,kvs,rfl,s2,h2,k2,n2⟩;omega;rw[lZ]at k2 n2;exact q p kvs H2 s2 hp h2 (k2.done ∅)
def ZqV:fB P w K mg base mS 1 a.f_LQ a.d_LQ ["stems","text"] (sp_LQ K a):=by
 refine T.dZ.u.ok Cb (λAp A outer s H vs Q E hr h=>?_);have hu1:=tM hr;obtain⟨p,kvs,ws,u,rfl,hp,sd,hu,q⟩:=h;refine⟨_,(lW (mK (i:=2) Cb.nd me)
  (lW (C5 oq (yH (CY hu1 (oF oM (pv 1) (nX (pv 2)) o5) (pv 0)))
  (lY (HS (i:=2) Cb.nd rfl (Or.inl rfl) me FD)))
  (lY (mN (oF oM (pv 1) (nX (pv 2)) o5))))),?_⟩
 have sz:∀k:Nat,k<=1000->k<=sizeLine:=λk h=>mO h (by rw[sizeLine_eq];decide);omega;refine gy.by (λU H'=>∃d:Nat,U=[some (.ref p),some (tx u),some (.int d)]/\e8 H H'/\d<=u.length/\∀j,j<d->¬gN ws (u.drop j)) (λU H'=>match U with | [_,_,some (.int d)]=>u.length-d.toNat | _=>0) ⟨0,rfl,e8.refl _,nO _,λj h=>by lia⟩ ?_
 rintro U H1 ⟨d,rfl,s1,hd,nd⟩;refine⟨!(fh kvs (lV (u.drop d))).isSome,λQ' hq=>?_,λH2 s2=>?_⟩
 .omega;refine⟨_,rfl,u,rfl,sz _ hu,?_⟩;rw[vG];exact⟨p,_,rfl,.inl ⟨kvs,lV (u.drop d),hp.same s1,rfl,rfl⟩,hq H1 (e8.refl _)⟩
 .cases e:(fh kvs (lV (u.drop d))).isSome with
  | true=>
   refine fS ?_;omega;refine⟨_,rfl,u,rfl,sz _ hu,?_⟩;rw[vG];exact q _ H2 (s1.trans s2) ⟨d,hd,rfl,(sd.iff _).mp e,nd⟩
  | false=>
   refine gJ ?_;have ns:¬gN ws (u.drop d):=λz=>by rw[(sd.iff _).mpr z]at e;cases e
   have lt:d<u.length:=by
    by_cases c:d<u.length
    .exact c
    .exact IG (.inl (sH ∅)) ns
   omega;refine⟨_,_,rfl,rfl,⟨d+1,rfl,s1.trans s2,lt,λj hj=>?_⟩,?_⟩
   .by_cases c:j=d
    .subst c;exact ns
    .exact nd j ∅
   .show u.length-((d:Int)+1).toNat<u.length-(d:Int).toNat
    lia
def Zq4:fB P w K mg base mS 1 a.f_L2 a.d_L2 ["ways"] (sp_L2 K a):=by
 refine T.eE.u.ok tW (λAp A outer s H vs Q E hr h=>?_);have As:=hr.units;have hu1:=tM hr;obtain⟨p,kw,ws,ss,m,rfl,hp,wl,sl,ok,lk,q⟩:=h;refine⟨_,(lW (mK (i:=1) tW.nd vg)
  (mE (lW (yA (i:=2) tW.nd rfl (Or.inr rfl) vg)
  (lW (xz (oJ oq rfl (x9 (pv 0)) (m7 (i:=3) tW.nd rfl (Or.inl rfl))
  (mE (lW (tQ hu1 (pv 2) (pv 3) (mZ Zkx rfl T.cK nR (lM (sB hu1 (pv 0) (pv 3) (λ_ _=>rfl)) lQ)) rfl)
  (lY (xz (oJ oq rfl (Zjx (sB hu1 (pv 0) (pv 3) (λ_ _=>rfl))) (m7 (i:=4) tW.nd rfl (Or.inl rfl))
  (mE (lY (oG (rj rn tK tG sE (Zes (pv 1) (pv 4) (qi lQ) ⟨rfl,rfl,rfl,rfl⟩) (lM (pv 3) lQ))))))))))))
  (lW (xz (CF (i:=5) (N:=["stem","left"]) (ix:=[none,some 2]) rfl tW.nd rfl rfl rfl (pY rfl) rfl (x9 (pv 0)) (λ_ _ _ _=>(m7 (i:=0) (show (["stem","left"]:AJ).Nodup from by decide +kernel) rfl (Or.inl rfl) (Or.inr rfl))) (λ_ _ _ _=>(um (m9 (oU (K:=K) rfl As) (sB hu1 (pv 1) (pv 0) (λ_ _=>rfl)) me (mV _)))) (λ_ _ _ _=>(pv 0))))
  (mE (lW (mK (i:=6) tW.nd me)
  (mE (lW (C5 oq (m9 xO (pv 6) (mZ (nU (K:=K) rfl) rfl T.cK nR (lM (pv 5) lQ)) (mV _))
  (lW (mK (i:=4) tW.nd (ph (u8 (K:=K) rfl) (pv 5) (pv 6) (λ_ _=>rfl)))
  (mE (lW (oJ oq rfl (pB (K:=K) rfl (Zk5 hu1 (pv 1) (pv 4) (qi lQ) ⟨rfl,rfl,rfl,rfl⟩)) (m7 (i:=3) tW.nd rfl (Or.inl rfl))
  (lW (Zm2 hu1 (pv 2) (pv 3) me Zpv (λ_ _ _=>rfl))
  (mE (lY (nA (m9 (oU (K:=K) rfl As) (sB hu1 (pv 2) (pv 3) (λ_ _=>rfl)) me (mV _)) (mE (lY (oG (rj rn tK tG sE (pv 5) (lM (pv 3) lQ))))) nD)))))
  (mE (lY (HS (i:=6) tW.nd rfl (Or.inl rfl) me FD)))))))
  (lY (mN (pv 5)))))))))))),?_⟩
 have sz:∀k:Nat,k<=100000->k<=sizeLine:=λk h=>mO h (by rw[sizeLine_eq];decide);have m4:=ok.m4;have sl82:=sl.len;omega;intro pS nS;have s1:e8 H (upd H pS (.dK [])):=oR nS;have l1:upd H pS (.dK []) pS=some (.dK []):=mq;generalize upd H pS (.dK [])=H1 at s1 l1;ac_rfl;intro pL nL;have s2:e8 H1 (upd H1 pL (.dK [])):=oR nL;have l2:upd H1 pL (.dK []) pL=some (.dK []):=mq;have nL0:H pL=none:=s1.free nL;have nSL:pS≠pL:=mM l1 nL;generalize upd H1 pL (.dK [])=H2 at s2 l2;have s02:=s1.trans s2;have npS:p≠pS:=mM hp nS;have npL:p≠pL:=mM hp nL0;have hp2:=s02 _ _ hp;refine⟨p,kw,hp2,p,kw,rfl,hp2,λo=>fA.dict (λi U H'=>∃v3 v4 kS kL,U=[some (.ref p),some (.ref pS),some (.ref pL),v3,v4,none,none]/\gq p H H'/\H' p=some (.frz o (.dK kw))/\H' pS=some (.dK kS)/\gj H H' pS pL kS (edges ws m (ss.take i))/\H' pL=some (.dK kL)/\xK kL (ss.take i) (λs=>(fP ws m s).length)/\kL.length<=i) ⟨_,_,[],[],rfl,?_,mq,?_,?_,?_,?_,?_⟩ (λi U H' ⟨_,_,_,_,_,_,h,_⟩=>h) ?_ ?_⟩
 .exact(ZqD s02).updX
 .rw[lR (mH npS)];exact s2 _ _ l1
 .rw[sG];exact⟨λr _=>rfl,λr v h=>(by cases h),λr r' a h=>(by cases h),nO _⟩
 .rw[lR (mH npL)];exact l2
 .rw[sG];exact λs h=>(by cases h)
 .exact mC _
 .rintro i kv U H3 hkv ⟨v3,v4,kS,kL,rfl,s3,f3,h3,sr,hL3,la,nk⟩;have il:=(mX.mp hkv).1;have il2:i<ss.length:=by rw[<-wl.1];exact il
  obtain⟨u,hu⟩:∃u,ss[i]?=some u:=⟨_,mT (by rw[<-wl.1];exact il)⟩;obtain⟨au,ekv,na,hau⟩:=wl.2 i u hu;rw[hkv]at ekv;cases ekv;rw[xD];omega;ac_rfl;have mu:u∈ss:=oW hu;have v3:fh kw (lV u)=some (.ref au):=wC (by rw[wl.keys];exact wR sl.nd λx _ y _ e=>qd e) hkv;have au3:H3 au=some (.dK ((oE ws m u).map gC)):=s3 _ _ na hau;have nauS:au≠pS:=mM hau nS;have nauL:au≠pL:=mM hau nL0;have tk1:ss.take (i+1)=ss.take i++[u]:=uQ hu;have nui:u∉ss.take i:=wJ sl.nd hu;refine⟨p,.ref au,rfl,.inl ⟨kw,lV u,.inr ⟨o,f3⟩,rfl,v3.symm⟩,au,_,rfl,au3,pL,_,rfl,gO.k (k:=lV u) hL3 (ot (show _<100000 by lia) (sz 100000 (mC _))),?_⟩;have lo:((oE ws m u).map gC).length=(fP ws m u).length:=by unfold fP;rw[lZ,lZ]
  rw[lo];have la4:xK (fz kL (lV u) (.int ((fP ws m u).length:Nat))) (ss.take (i+1)) (λs=>(fP ws m s).length):=λs hs=>by
   rw[qv];by_cases e:s=u
   .rw[lU (by rw[e]),e]
   .rw[lT (λz=>e (qd z))];rw[tk1]at hs;rcases nJ.mp hs with z | z
    .exact la s z
    .exact IG (mU.mp z) e
  have nk4:(fz kL (lV u) (.int ((fP ws m u).length:Nat))).length<=i+1:=by
   have:=sg kL (lV u) (.int ((fP ws m u).length:Nat))
   lia
  have s4:gq p H (upd H3 pL (.dK (fz kL (lV u) (.int ((fP ws m u).length:Nat))))):=s3.updN nL0;have p4:upd H3 pL (.dK (fz kL (lV u) (.int ((fP ws m u).length:Nat)))) p=some (.frz o (.dK kw)):=by rw[lR npL];exact f3
  have S4:upd H3 pL (.dK (fz kL (lV u) (.int ((fP ws m u).length:Nat)))) pS=some (.dK kS):=by rw[lR nSL];exact h3
  have L4:upd H3 pL (.dK (fz kL (lV u) (.int ((fP ws m u).length:Nat)))) pL=some (.dK (fz kL (lV u) (.int ((fP ws m u).length:Nat)))):=mq;have sr4:gj H (upd H3 pL (.dK (fz kL (lV u) (.int ((fP ws m u).length:Nat))))) pS pL kS (edges ws m (ss.take i)):=sr.keep λa' xs e=>by
   have n':a'≠pL:=λz=>by rw[z,hL3]at e;cases e
   rw[lR n'];exact e
  have a4:upd H3 pL (.dK (fz kL (lV u) (.int ((fP ws m u).length:Nat)))) au=some (.dK ((oE ws m u).map gC)):=by rw[lR nauL];exact au3
  generalize upd H3 pL (.dK (fz kL (lV u) (.int ((fP ws m u).length:Nat))))=H4 at s4 p4 S4 L4 sr4 a4;generalize fz kL (lV u) (.int ((fP ws m u).length:Nat))=kL4 at la4 nk4 L4;refine⟨au,_,a4,p,.ref au,rfl,.inl ⟨kw,lV u,.inr ⟨o,p4⟩,rfl,v3.symm⟩,au,_,rfl,a4,λo1=>ZnG (λj U H'=>∃v4 kS,U=[some (.ref p),some (.ref pS),some (.ref pL),some (tx u),v4,none,none]/\(∀b x,b≠p->b≠au->H b=some x->H' b=some x)/\H' p=some (.frz o (.dK kw))/\H' au=some (.frz o1 (.dK ((oE ws m u).map gC)))/\H' pS=some (.dK kS)/\gj H H' pS pL kS (edges ws m (ss.take i)++((fP ws m u).take j).map λr=>(r,u))/\H' pL=some (.dK kL4)) ⟨_,kS,rfl,?_,?_,mq,?_,?_,?_⟩ (λj U H' ⟨_,_,_,_,_,h,_⟩=>h) ?_ ?_⟩
  .intro b x n1 n2 e;rw[lR n2];exact s4 b x n1 e
  .rw[lR (mH na)];exact p4
  .rw[lR (mH nauS)];exact S4
  .rw[sG,vW,sM];exact sr4.keep λa' xs e=>by
    have n':a'≠au:=λz=>by rw[z,a4]at e;cases e
    rw[lR n'];exact e
  .rw[lR (mH nauL)];exact L4
  .rintro j kv U H5 hkv2 ⟨v4,kS5,rfl,s5,p5,a5,S5,sr5,L5⟩;obtain⟨x,hx,rfl⟩:∃x,(oE ws m u)[j]?=some x/\kv=gC x:=by
    rw[om]at hkv2;cases e:(oE ws m u)[j]? with
    | none=>rw[e]at hkv2;cases hkv2
    | some x=>rw[e]at hkv2;cases hkv2;exact⟨x,rfl,rfl⟩
   have hr:(fP ws m u)[j]?=some x.2:=by unfold fP;rw[om,hx];rfl
   show qp 4 (tx x.2) _ _ _;generalize x.2=r at hr;omega;ac_rfl;have kl5:kS5.length<100000:=by
    have:=sr5.len;have e1:=EY (ws:=ws) (m:=m) (ss:=ss.take i) m4 (by rw[nG];lia);rw[mP,lZ,nG]at this;have e2:(fP ws m u).length<=4:=by unfold fP oE gp;rw[lZ,lZ];exact mO (pW _ _) m4
    lia
   have tj:((fP ws m u).take (j+1)).map (λr=>(r,u))=((fP ws m u).take j).map (λr=>(r,u))++[(r,u)]:=by rw[uQ hr,qj];rfl
   refine⟨pS,rfl,.inl ⟨kS5,.inl S5⟩,nO _,fY.of λz H6 s6 nz z6=>⟨kS5,lV r,s6 _ _ S5,rfl,ot kl5 (sz 100000 (mC _)),λv hv=>?_,λhv=>?_⟩⟩
   .obtain⟨a',rfl,na0,naS,naL,ha⟩:=sr5.yes r v hv;have ha6:=s6 _ _ ha;have sr6:=(sr5.keep (H'':=H6) λa xs e=>s6 _ _ e).old (s:=u) hv;refine⟨.inl ⟨rfl,_,.mk ha6⟩,a',_,tx u,rfl,rfl,ha6,?_,_,kS5,rfl,?_,?_,?_,?_,?_,?_⟩
    .rw[lZ];have e0:=Zjj (edges ws m (ss.take i)++((fP ws m u).take j).map λr=>(r,u)) r;have e1:=EY (ws:=ws) (m:=m) (ss:=ss.take i) m4 (by rw[nG];lia);have e2:(fP ws m u).length<=4:=by unfold fP oE gp;rw[lZ,lZ];exact mO (pW _ _) m4
     rw[mP,lZ,nG]at e0;exact ot (show _<100000 by lia) (sz 100000 (mC _))
    .intro b x n1 n2 e;rw[lR (mM e na0)];exact s6 _ _ (s5 b x n1 n2 e)
    .rw[lR (mM hp na0)];exact s6 _ _ p5
    .rw[lR (mM hau na0)];exact s6 _ _ a5
    .rw[lR (mH naS)];exact s6 _ _ S5
    .rw[tj,<-pQ];exact sr6
    .rw[lR (mH naL)];exact s6 _ _ L5
   .have nzS:pS≠z:=mM S5 nz;have nzL:pL≠z:=mM L5 nz;have nzp:p≠z:=mM p5 nz;have nza:au≠z:=mM a5 nz;have nzH:H z=none:=by
     cases e:H z with
     | none=>rfl
     | some x=>rw[s5 z x (mH nzp) (mH nza) e]at nz;cases nz
    have z7:upd H6 pS (.dK (fz kS5 (lV r) (.ref z))) z=some (.lst []):=by rw[lR (mH nzS)];exact z6
    refine⟨.inl ⟨rfl,_,.mk z7⟩,z,[],tx u,rfl,rfl,z7,sz 1 ⋯,_,fz kS5 (lV r) (.ref z),rfl,?_,?_,?_,?_,?_,?_⟩
    .intro b x n1 n2 e;rw[lR (mM e nzH),lR (mM e nS)];exact s6 _ _ (s5 b x n1 n2 e)
    .rw[lR nzp,lR npS];exact s6 _ _ p5
    .rw[lR nza,lR nauS];exact s6 _ _ a5
    .rw[lR nzS,mq]
    .rw[tj,<-pQ];refine sr5.new hv nzH nz (mH nzS) (mH nzL) (λa xs n e=>?_) mq;have e6:=s6 _ _ e;have nS':a≠pS:=λz=>by rw[z,S5]at e;cases e
     rw[lR n,lR nS'];exact e6
    .rw[lR nzL,lR (mH nSL)];exact s6 _ _ L5
  .rintro U H5 ⟨v4,kS5,rfl,s5,p5,a5,S5,sr5,L5⟩;have lo2:((oE ws m u).map gC).length=(fP ws m u).length:=lo;rw[lo2,pK,<-ZiN,<-tk1]at sr5;refine⟨o1,_,a5,_,_,kS5,kL4,rfl,?_,?_,?_,?_,?_,la4,nk4⟩
   .intro b x n e;by_cases c:b=au
    .subst c;rw[hau]at e;cases e;rw[mq]
    .rw[lR c];exact s5 b x n c e
   .rw[lR (mH na)];exact p5
   .rw[lR (mH nauS)];exact S5
   .exact sr5.keep λa' xs e=>by
     have n':a'≠au:=λz=>by rw[z,a5]at e;cases e
     rw[lR n'];exact e
   .rw[lR (mH nauL)];exact L5
 .rintro U H3 ⟨v3,v4,kS,kL,rfl,s3,f3,h3,sr,hL3,la,nk⟩;rw[wl.1,pK]at sr la;refine⟨o,kw,f3,?_⟩;omega;have s4:e8 H (upd H3 p (.dK kw)):=s3.updX.same hp mq;have S4:upd H3 p (.dK kw) pS=some (.dK kS):=by rw[lR (mH npS)];exact h3
  have L4:upd H3 p (.dK kw) pL=some (.dK kL):=by rw[lR (mH npL)];exact hL3
  have sr4:gj H (upd H3 p (.dK kw)) pS pL kS (edges ws m ss):=sr.keep λa' xs e=>by
   have n':a'≠p:=λz=>by rw[z,f3]at e;cases e
   rw[lR n'];exact e
  have p4:upd H3 p (.dK kw) p=some (.dK kw):=mq;generalize upd H3 p (.dK kw)=H4 at s4 S4 L4 sr4 p4;refine⟨p,kw,p4,p,kw,rfl,p4,λo2=>fk.keys (λi=>decide ((fP ws m (ss.getD i [])).length=0)) (λi=>tx (ss.getD i [])) (by rw[wl.1];lia) mq ?_ ?_ ?_⟩
  .intro i kv H5 Q5 hkv s5 q5;have il:=(mX.mp hkv).1;obtain⟨u,hu⟩:∃u,ss[i]?=some u:=⟨_,mT (by rw[<-wl.1];exact il)⟩;obtain⟨au,ekv,_⟩:=wl.2 i u hu;rw[hkv]at ekv;cases ekv;have gd:ss.getD i []=u:=by rw[nN,hu];rfl
   rw[gd]at q5;have L5:H5 pL=some (.dK kL):=s5 _ _ (by rw[lR (mH npL)];exact L4);rw[xD];omega;refine⟨pL,_,rfl,.inl ⟨kL,lV u,.inl L5,rfl,(la u (oW hu)).symm⟩,Iy (q5 H5 (e8.refl _))⟩
  .intro i kv H5 Q5 hkv _ s5 q5;have il:=(mX.mp hkv).1;obtain⟨u,hu⟩:∃u,ss[i]?=some u:=⟨_,mT (by rw[<-wl.1];exact il)⟩;obtain⟨au,ekv,_⟩:=wl.2 i u hu;rw[hkv]at ekv;cases ekv;have gd:ss.getD i []=u:=by rw[nN,hu];rfl
   rw[gd]at q5;rw[xD];omega;exact q5 H5 (e8.refl _)
  .intro pe H5 s5 n5 l5;rw[wl.1,GR [] (λs=>decide ((fP ws m s).length=0)) tx ss]at l5;have npe:pe≠p:=λz=>by rw[z,mq]at n5;cases n5
   have n4:H4 pe=none:=by rw[lR npe]at n5;exact n5
   have nH:H pe=none:=s4.free n4;have npeS:pS≠pe:=mM S4 n4;have npeL:pL≠pe:=mM L4 n4;have src_ne:∀r a,fh kS (lV r)=some (.ref a)->a≠pe:=λr a hv=>by obtain⟨a',e,_,_,_,ha⟩:=sr4.yes r _ hv;cases e;exact mM ha n4
   refine⟨o2,kw,s5 _ _ mq,?_⟩;have s46:e8 H4 (upd H5 p (.dK kw)):=e8.thaw p4 s5;have pe6:upd H5 p (.dK kw) pe=some (.lst ((ss.filter λs=>decide ((fP ws m s).length=0)).map tx)):=by rw[lR npe];exact l5
   generalize upd H5 p (.dK kw)=H6 at s46 pe6;omega;ac_rfl;ac_rfl;have k82:kL.length<=8201:=by rw[wl.1]at nk;lia
   refine gy.by (λU H'=>∃(v3 v4:Option V) (n:Nat) (es:List Wd) (f:Wd->Nat) (kL:List (mh×V)),U=[some (.ref p),some (.ref pS),some (.ref pL),v3,v4,some (.ref pe),some (.int n)]/\e8 H H'/\H' pS=some (.dK kS)/\gj H H' pS pL kS (edges ws m ss)/\H' pL=some (.dK kL)/\xK kL ss f/\kL.length<=8201/\H' pe=some (.lst (es.map tx))/\KI ss (fP ws m) n es f) (λU _=>match U with | [_,_,_,_,_,_,some (.int n)]=>ss.length-n.toNat | _=>0) ⟨_,_,0,_,λs=>(fP ws m s).length,kL,rfl,s4.trans s46,s46 _ _ S4,sr4.keep λa xs e=>s46 _ _ e,s46 _ _ L4,la,k82,pe6,KI.start sl.nd λs _=>rfl⟩ ?_
   rintro U H7 ⟨v3,v4,n,es,f,kL,rfl,s7,S7,sr7,L7,la7,kl7,e7,ki⟩;have esl:es.length<=ss.length:=yr es ss ki.nd ki.sub;refine⟨decide (n<es.length),λQ' hq=>?_,λH8 s8=>?_⟩
   .omega;refine⟨_,_,rfl,.inl ⟨_,.mk e7,rfl⟩,?_⟩;rw[lZ];have e:decide ((n:Int)<((es.length:Nat):Int))=decide (n<es.length):=by rw[decide_eq_decide];lia
    rw[e];exact hq H7 (e8.refl _)
   .by_cases c:n<es.length
    .rw[IA c];refine gJ ?_;omega;obtain⟨r,hr⟩:∃r,es[n]?=some r:=⟨_,mT c⟩;refine⟨pe,es.map tx,n,tx r,rfl,rfl,.mk (s8 _ _ e7),ZnU (by rw[om,hr];rfl),?_⟩;walk_at "h";have s08:=s7.trans s8;refine⟨pS,rfl,.inl ⟨kS,.inl (s8 _ _ S7)⟩,nO _,fY.of λz H9 s9 nz z9=>⟨_,.inl ⟨kS,lV r,.inl (s9 _ _ (s8 _ _ S7)),rfl,rfl⟩,?_⟩⟩;have s89:=s8.trans s9;have L9:=s89 _ _ L7;have e9:=s89 _ _ e7;have sr9:gj H H9 pS pL kS (edges ws m ss):=sr7.keep λa xs e=>s89 _ _ e;obtain⟨al,eal,hal,nalL,nalE⟩:∃al,((fh kS (lV r)).getD (.ref z))=.ref al/\H9 al=some (.lst ((fU (edges ws m ss) r).map tx))/\al≠pL/\al≠pe:=by
      cases hv:fh kS (lV r) with
      | none=>
       refine⟨z,rfl,?_,mH (mM (s8 _ _ L7) nz),mH (mM (s8 _ _ e7) nz)⟩;rw[sr9.no r hv];exact z9
      | some v=>
       obtain⟨a',rfl,h1,h2,h3,h4⟩:=sr9.yes r v hv;exact⟨a',rfl,h4,h3,src_ne r a' hv⟩
     rw[eal];have s09:=s7.trans s89;have kj:=ki.enter (S:=fU (edges ws m ss) r) hr (λs hs=>D2 sl.nd hs);refine⟨al,rfl,⟨_,.mk hal⟩,fA.list (xs:=(fU (edges ws m ss) r).map tx) (λj U H'=>∃(v3:Option V) (es:List Wd) (f:Wd->Nat) (kL:List (mh×V)),U=[some (.ref p),some (.ref pS),some (.ref pL),v3,some (tx r),some (.ref pe),some (.int n)]/\e8 H H'/\H' al=some (.lst ((fU (edges ws m ss) r).map tx))/\H' pS=some (.dK kS)/\gj H H' pS pL kS (edges ws m ss)/\H' pL=some (.dK kL)/\xK kL ss f/\kL.length<=8201/\H' pe=some (.lst (es.map tx))/\KJ ss (fP ws m) n r (fU (edges ws m ss) r) j es f) ⟨_,es,f,kL,rfl,s09,hal,s89 _ _ S7,sr9,L9,la7,kl7,e9,kj⟩ (λj U H' _ ⟨_,_,_,_,_,_,h,_⟩=>.mk h) ?_ ?_⟩
     .rintro j x U G1 hx ⟨v3,es,f,kL,rfl,g1,al1,S1,sr1,L1,la1,kl1,e1,kj⟩;obtain⟨s_,hs,rfl⟩:=uI hx;have ms:s_∈ss:=Et (oW hs);have fp:=kj.pos hs ms;have vs:=la1 s_ ms;omega;refine⟨pL,_,rfl,.inl ⟨kL,lV s_,.inl L1,rfl,vs.symm⟩,_,_,rfl,rfl,_,gO.k (k:=lV s_) L1 (ot (show _<100000 by lia) (sz 100000 (mC _))),?_⟩;have fe:((f s_:Nat):Int)-1=((f s_-1:Nat):Int):=by lia
      rw[fe];have g2:e8 H (upd G1 pL (.dK (fz kL (lV s_) (.int ((f s_-1:Nat):Int))))):=fq g1 nL0;have al2:upd G1 pL (.dK (fz kL (lV s_) (.int ((f s_-1:Nat):Int)))) al=some (.lst ((fU (edges ws m ss) r).map tx)):=by rw[lR nalL];exact al1
      have S2:upd G1 pL (.dK (fz kL (lV s_) (.int ((f s_-1:Nat):Int)))) pS=some (.dK kS):=by rw[lR nSL];exact S1
      have sr2:gj H (upd G1 pL (.dK (fz kL (lV s_) (.int ((f s_-1:Nat):Int))))) pS pL kS (edges ws m ss):=sr1.keep λa' xs e=>by
       have n':a'≠pL:=λz=>by rw[z,L1]at e;cases e
       rw[lR n'];exact e
      have L2:upd G1 pL (.dK (fz kL (lV s_) (.int ((f s_-1:Nat):Int)))) pL=some (.dK (fz kL (lV s_) (.int ((f s_-1:Nat):Int)))):=mq;have e2:upd G1 pL (.dK (fz kL (lV s_) (.int ((f s_-1:Nat):Int)))) pe=some (.lst (es.map tx)):=by rw[lR (mH npeL)];exact e1
      generalize upd G1 pL (.dK (fz kL (lV s_) (.int ((f s_-1:Nat):Int))))=G2 at g2 al2 S2 sr2 L2 e2;have kl2:(fz kL (lV s_) (.int ((f s_-1:Nat):Int))).length<=8201:=by rw[GP vs];exact kl1
      obtain⟨k0,k1⟩:=kj.next hs ms (λt=>if t=s_ then f s_-1 else f t) (λt=>rfl)
      have gs:(if s_=s_ then f s_-1 else f s_)=f s_-1:=lU rfl;have la2:xK (fz kL (lV s_) (.int ((f s_-1:Nat):Int))) ss (λt=>if t=s_ then f s_-1 else f t):=λt ht=>by
       show _=some (V.int ((if t=s_ then f s_-1 else f t:Nat):Int));rw[qv];by_cases e:t=s_
       .rw[lU (by rw[e]),lU e]
       .rw[lT (λz=>e (qd z)),lT e];exact la1 t ht
      have v2:fh (fz kL (lV s_) (.int ((f s_-1:Nat):Int))) (lV s_)=some (.int ((f s_-1:Nat):Int)):=by rw[qv,lU rfl]
      ac_rfl;refine⟨pL,_,rfl,.inl ⟨_,lV s_,.inl L2,rfl,v2.symm⟩,Iy (fT (λh0=>ou ?_) (λh0=>?_))⟩
      .have z0:f s_-1=0:=IC h0;have kj2:=k0 (gs.trans z0);have esl2:=yr es ss kj.nd kj.sub;omega;refine⟨.inl ⟨rfl,_,.mk e2⟩,pe,_,_,rfl,rfl,e2,by rw[lZ];exact ot (show _<100000 by lia) (sz 100000 (mC _)),_,es++[s_],_,_,rfl,fq g2 nH,by rw[lR nalE];exact al2,by rw[lR npeS];exact S2,?_,by rw[lR npeL];exact L2,la2,kl2,by rw[mq,qj];rfl,kj2⟩;refine⟨sr2.no,λr v hv=>?_,sr2.inj,sr2.len⟩;obtain⟨a',rfl,h1,h2,h3,h4⟩:=sr2.yes r v hv;exact⟨a',rfl,h1,h2,h3,by rw[lR (src_ne r a' hv)];exact h4⟩
      .have z0:f s_-1≠0:=λz=>h0 (IA z);exact⟨_,es,_,_,rfl,g2,al2,S2,sr2,L2,la2,kl2,e2,k1 (by rw[gs];exact z0)⟩
     .rintro U G1 ⟨v3,es,f,kL,rfl,g1,al1,S1,sr1,L1,la1,kl1,e1,kj⟩;rw[lZ]at kj;have ki':=kj.leave;ac_rfl;refine⟨_,rfl,_,_,rfl,rfl,⟨_,_,n+1,es,f,kL,rfl,g1,S1,sr1,L1,la1,kl1,e1,ki'⟩,?_⟩;show ss.length-((n:Int)+1).toNat<ss.length-(n:Int).toNat
      lia
    .rw[IB c];refine fS ?_;omega;have en:n=es.length:=by have:=ki.le;lia
     subst en;exact q pe es H8 (s7.trans s8) nH (s8 _ _ e7) (ZnL ki)
def ZqX:fB P w K mg base mS 1 a.f_LJ a.d_LJ ["ways","ended"] (sp_LJ K a):=by
 refine T.dH.u.ok yb (λAp A outer s H vs Q E hr h=>?_);have hu1:=tM hr;obtain⟨p,pq,kw,ws,ss,es,m,rfl,hp,wl,sl,ok,lk,an,hq,he,hnil,q⟩:=h;refine⟨_,(lW (mK (i:=2) yb.nd vg)
  (lW (oJ oq rfl (pB (K:=K) rfl (pv 1)) (m7 (i:=3) yb.nd rfl (Or.inl rfl))
  (mE (lW (tQ hu1 (pv 2) (pv 3) (on (l:=[]) nofun) rfl)
  (mE (lY (xz (oJ oq rfl (x9 (sB hu1 (pv 0) (pv 3) (λ_ _=>rfl))) (m7 (i:=4) yb.nd rfl (Or.inl rfl))
  (mE (lW (mK (i:=5) yb.nd (mJ qB (pv 4) (sB hu1 (pv 2) (sB hu1 (sB hu1 (pv 0) (pv 3) (λ_ _=>rfl)) (pv 4) (λ_ _=>rfl)) (λ_ _=>rfl))))
  (lY (nA (m9 tw (mZ (nU (K:=K) rfl) rfl T.cK nR (lM (pv 5) lQ)) (mZ (nU (K:=K) rfl) rfl T.cK nR (lM (sB hu1 (pv 2) (pv 3) (λ_ _=>rfl)) lQ)) (mV _)) (mE (lY (tQ hu1 (pv 2) (pv 3) (pv 5) rfl))) nD)))))))))))
  (mE (lY (mN (sB hu1 (pv 2) (on (l:=[]) nofun) (λ_ _=>rfl))))))),?_⟩
 have sz:∀k:Nat,k<=100000->k<=sizeLine:=λk h=>mO h (by rw[sizeLine_eq];decide);have m4:=ok.m4;have sl82:=sl.len;have esl:es.length<=ss.length:=yr es ss he.nd he.sub;omega;intro pl nl;have s1:e8 H (upd H pl (.dK [])):=oR nl;have l1:upd H pl (.dK []) pl=some (.dK []):=mq;generalize upd H pl (.dK [])=H1 at s1 l1;refine⟨pq,rfl,⟨_,.mk (s1 _ _ hq)⟩,fA.list (xs:=es.map tx) (λi U H'=>∃(v3 v4 v5:Option V) (kO:List (mh×V)),U=[some (.ref p),some (.ref pq),some (.ref pl),v3,v4,v5]/\e8 H H'/\H' pl=some (.dK kO)/\kO.length<=i/\∀s∈es.take i,∃x,fh kO (lV s)=some (tx x)/\LF ws m s x/\x.length<=8200) ⟨_,_,_,[],rfl,s1,l1,mC _,λs h=>by rw[sG]at h;cases h⟩ (λi U H' _ ⟨_,_,_,_,_,s',_⟩=>.mk (s' _ _ hq)) ?_ ?_⟩
 .rintro i x U H2 hx ⟨v3,v4,v5,kO,rfl,s2,l2,n2,la⟩;obtain⟨s_,hs,rfl⟩:=uI hx;have il:=(mX.mp hs).1;have ms:s_∈ss:=he.sub s_ (oW hs);have hst:=(sl.iff s_).mp ms;obtain⟨au,va,na,hau⟩:=wl.val sl.nd ms;have nal:au≠pl:=mM hau nl;have npl:p≠pl:=mM hp nl;have ni:s_∉es.take i:=wJ he.nd hs;omega;ac_rfl;refine⟨pl,_,rfl,gO.k (k:=lV s_) l2 (ot (show _<100000 by lia) (sz 100000 (mC _))),ou ?_⟩;have s3:e8 H (upd H2 pl (.dK (fz kO (lV s_) (tx [])))):=fq s2 nl;have l3:upd H2 pl (.dK (fz kO (lV s_) (tx []))) pl=some (.dK (fz kO (lV s_) (tx []))):=mq;have n3:(fz kO (lV s_) (tx [])).length<=i+1:=by
   have:=sg kO (lV s_) (tx [])
   lia
  have la3:∀s∈es.take i,∃x,fh (fz kO (lV s_) (tx [])) (lV s)=some (tx x)/\LF ws m s x/\x.length<=8200:=λs hs'=>by have:s≠s_:=λz=>ni (z▸hs');rw[qv,lT (λz=>this (qd z))];exact la s hs'
  have v3':fh (fz kO (lV s_) (tx [])) (lV s_)=some (tx []):=by rw[qv,lU rfl]
  generalize upd H2 pl (.dK (fz kO (lV s_) (tx [])))=H3 at s3 l3;generalize fz kO (lV s_) (tx [])=kO3 at l3 n3 la3 v3';omega;refine⟨au,_,s3 _ _ hau,p,.ref au,rfl,.inl ⟨kw,lV s_,.inl (s3 _ _ hp),rfl,va.symm⟩,au,_,rfl,s3 _ _ hau,λo=>fA.dict (λj U H'=>∃(v4 v5:Option V) (kO:List (mh×V)) (x:lN),U=[some (.ref p),some (.ref pq),some (.ref pl),some (tx s_),v4,v5]/\(∀b y,b≠au->H b=some y->H' b=some y)/\H' au=some (.frz o (.dK ((oE ws m s_).map gC)))/\H' pl=some (.dK kO)/\kO.length<=i+1/\(∀s∈es.take i,∃x,fh kO (lV s)=some (tx x)/\LF ws m s x/\x.length<=8200)/\fh kO (lV s_)=some (tx x)/\PF ws m s_ ((gp ws m s_).take j) x/\x.length<=8201) ⟨_,_,kO3,[],rfl,?_,mq,?_,n3,la3,v3',by rw[sG];exact PF.start (lk.stemAv an hst),nO _⟩ (λj U H' ⟨_,_,_,_,_,_,h,_⟩=>h) ?_ ?_⟩
  .intro b y n e;rw[lR n];exact s3 _ _ e
  .rw[lR (mH nal)];exact l3
  .rintro j kv U H4 hkv ⟨v4,v5,kO4,x,rfl,s4,a4,l4,n4,la4,v4',pw,xl⟩;obtain⟨c,hc,rfl⟩:∃c,(gp ws m s_)[j]?=some c/\kv=gC (c,gY ws (s_++[c])):=by
    unfold oE at hkv;rw[oX,om]at hkv;cases e:(gp ws m s_)[j]? with
    | none=>rw[e]at hkv;cases hkv
    | some c=>rw[e]at hkv;cases hkv;exact⟨c,rfl,rfl⟩
   have eo:gY ws (s_++[c])∈fP ws m s_:=by unfold fP oE;exact nj.mpr ⟨_,nj.mpr ⟨c,oW hc,rfl⟩,rfl⟩
   have et:=he.ord i s_ hs _ eo;obtain⟨z,vz,lz,lz40⟩:=la4 _ et;have hcm:=BD.mp (oW hc);have tk:(gp ws m s_).take (j+1)=(gp ws m s_).take j++[c]:=by rw[x5,hc];rfl
   have rise:∀d∈(gp ws m s_).take j,d<c:=λd hd=>by obtain⟨k,hk,e⟩:=qS hd;rw[nG]at hk;rw[yQ]at e;obtain⟨hj,e2⟩:=mX.mp hc;have pw':(gp ws m s_).Pairwise (· < ·):=(xg ok.k).filter _;rw[<-e,<-e2];exact vU.mp pw' k j ∅ hj ∅
   have vc:fh ((oE ws m s_).map gC) (lV [c])=some (tx (gY ws (s_++[c]))):=wC (HA (xg ok.k)) hkv;have p4:H4 p=some (.dK kw):=s4 _ _ (mH na) hp;obtain⟨w1,w2⟩:=pw.next rise hcm.1 hcm.2 (xW ws (s_++[c])) lz
   rw[<-tk]at w1 w2;show qp 4 (kV (lV [c])) _ _ _;rw[xD];omega;ac_rfl;refine⟨p,.ref au,rfl,.inl ⟨kw,lV s_,.inl p4,rfl,va.symm⟩,au,_,rfl,.inl ⟨_,lV [c],.inr ⟨o,a4⟩,rfl,vc.symm⟩,pl,_,rfl,.inl ⟨kO4,lV (gY ws (s_++[c])),.inl l4,rfl,vz.symm⟩,jQ ⟨sz _ (by rw[oC];lia),?_⟩⟩;refine⟨_,_,rfl,ud (by rw[mP,oC];lia),pl,_,rfl,.inl ⟨kO4,lV s_,.inl l4,rfl,v4'.symm⟩,_,_,rfl,ud ∅,fT (λh0=>ou ?_) (λh0=>?_)⟩
   .have lt:x.length<(c::z).length:=by have:=IC h0;rw[mP,oC]at this;rw[oN];lia
    omega;refine⟨pl,_,rfl,gO.k (k:=lV s_) l4 (ot (show _<100000 by lia) (sz 100000 (mC _))),_,_,fz kO4 (lV s_) (tx (c::z)),c::z,rfl,?_,by rw[lR nal];exact a4,mq,by rw[GP v4'];exact n4,λs hs'=>?_,by rw[qv,lU rfl],w1 lt,by rw[oN];lia⟩
    .intro b y n e;rw[lR (mM e nl)];exact s4 b y n e
    .have:s≠s_:=λz=>ni (z▸hs');rw[qv,lT (λz=>this (qd z))];exact la4 s hs'
   .have lt:¬x.length<(c::z).length:=λq=>h0 (IA (by rw[mP,oC];rw[oN]at q;lia));exact⟨_,_,kO4,x,rfl,s4,a4,l4,n4,la4,v4',w2 lt,xl⟩
  .rintro U H4 ⟨v4,v5,kO4,x,rfl,s4,a4,l4,n4,la4,v4',pw,xl⟩;have lo:((oE ws m s_).map gC).length=(gp ws m s_).length:=by unfold oE;rw[lZ,lZ]
   rw[lo,pK]at pw;have lf:=pw.done λc hc ha=>BD.mpr ⟨hc,ha⟩;have dp:=Em (W:=ws) (m:=m) (es:=es) (o:=fP ws m) (λs c hc ha=>⟨gY ws (s++[c]),by unfold fP oE;exact nj.mpr ⟨_,nj.mpr ⟨c,BD.mpr ⟨hc,ha⟩,rfl⟩,rfl⟩,xW _ _⟩) he.ord i s_ hs x lf.mem lf.av;refine⟨o,_,a4,_,_,_,kO4,rfl,?_,by rw[lR (mH nal)];exact l4,n4,λs hs'=>?_⟩
   .intro b y e;by_cases c:b=au
    .subst c;rw[hau]at e;cases e;rw[mq]
    .rw[lR c];exact s4 b y c e
   .rw[uQ hs]at hs';rcases nJ.mp hs' with z | z
    .exact la4 s z
    .rw[mU.mp z];exact⟨x,v4',lf,∅⟩
 .rintro U H2 ⟨v3,v4,v5,kO,rfl,s2,l2,n2,la⟩;rw[lZ,pK]at la;obtain⟨x,vx,lx,_⟩:=la [] hnil;omega;ac_rfl;exact⟨pl,_,rfl,.inl ⟨kO,lV [],.inl l2,rfl,vx.symm⟩,q x H2 s2 lx⟩
def Gs:fB P w K mg base mS 1 a.bB a.cn ["self"] (sp_KE K a):=by refine T.cX.u.ok Zqu (λAp A outer s H vs Q E hr h=>?_);obtain⟨p,la,da,l,m,ds,rfl,hp,q⟩:=h;refine⟨_,(lY (mN (sK (FG (K:=K) rfl) rfl T.dF v0 (lM (o6 (K:=K) rfl (pv 0) rfl) lQ)))),?_⟩;obtain⟨dx,f⟩:=hp.fld;omega;exact⟨p,_,dx,_,_,rfl,f,T.ae,T.af,ER,la,_,rfl,.inl (.mk hp.lack),q⟩
def Ze9:fB P w K mg base mS 1 a.aj a.aF ["self","one","other"] (Bl K a.c_LY 2 (vh "one" "other")):=by
 refine T.fi_LY.ok Ze1 (λAp A outer s H vs Q E hr h=>?_) (λvs H Q E h=>by obtain⟨e,r,rfl,hl,_⟩:=h;simp[hl])
 .obtain⟨e,r,rfl,hl,he,q⟩:=h;obtain⟨x,y,rfl⟩:∃x y,r=[x,y]:=by match r,hl with | [x,y],_=>exact⟨x,y,rfl⟩
  refine⟨_,(lW (oG (HF rfl T.cF T.r_K2 (lM (pv 0) (lM (on (l:=[116,119,111,32,119,111,114,100,115,32,97,118,111,105,100,32,116,104,101,32,108,105,115,116,32,97,110,100,32,115,116,97,110,100,32,116,111,103,101,116,104,101,114,32,105,110,32,110,111,32,119,111,114,100,32,116,104,97,116,32,100,111,101,115]) nofun) lQ))))
   (lW (C8 (pv 0) (pv 1) rfl)
   (lY (C8 (pv 0) (pv 2) rfl)))),?_⟩
  omega;refine⟨e,a.c_LY,none,_,rfl,he,T.bg,(by show 1<=1000;decide),e,a.c_LY,[],rfl,.bare he,T.bg.c,T.aR,(by show 0<1000;decide),λH1 x1 k1 d1=>?_⟩;have kk:∀b o,H b=some o->b≠e->H1 b=some o:=λb o hb hne=>k1 b o hb hne λd hd=>by rw[he]at hd;exact IG hd CZ
  refine⟨e,a.c_LY,_,rfl,x1,T.bg.c,T.aM,(by show 1<1000;decide),λH2 x2 k2 _=>?_⟩;refine q H2 x2 λb o hb hne=>k2 b o (kk b o hb hne) hne λd hd z=>?_;subst z;obtain⟨d',h1',h2'⟩:=d1;rw[h1']at hd;have e1:=Zn0 hd;subst e1;rcases h2' with z | z
  .rw[he]at z;exact CZ z
  .rw[hb]at z;cases z
def GU:fB P w K mg base mS 1 a.bq a.bT ["self","text","kinds"] (sp_K0 K a):=by
 refine T.cY.u.ok ZqC (λAp A outer s H vs Q E hr h=>?_);obtain⟨p,dx,C,l,m,rfl,hC,hp,q⟩:=h;refine⟨_,(lW (uW (pv 0) (pv 1) rfl)
  (lY (uW (pv 0) (pv 2) rfl))),?_⟩
 omega;rcases hC with rfl | rfl
 .exact⟨p,a.c_LX,dx,[],rfl,hp,T.aY,T.aA,(by show 0<1000;decide),p,a.c_LX,dx,_,rfl,mq,T.aY,T.aC,(by show 1<1000;decide),q _ mq (λb o e ne=>by rw[lR ne,lR ne];exact e)⟩
 .exact⟨p,a.c_LZ,dx,[],rfl,hp,T.ae,T.aa,(by show 0<1000;decide),p,a.c_LZ,dx,_,rfl,mq,T.ae,T.ah,(by show 1<1000;decide),q _ mq (λb o e ne=>by rw[lR ne,lR ne];exact e)⟩
def Zri:fB P w K mg base mS 1 a.bt a.bV ["self","length"] (sp_KB K a):=by refine T.de.u.ok Zqv (λAp A outer s H vs Q E hr h=>?_);obtain⟨p,l,m,n,rfl,hp,q⟩:=h;refine⟨_,(lY (mN (o6 (K:=K) rfl (pv 0) rfl))),?_⟩;obtain⟨dx,hp⟩:=hp;omega;exact⟨p,_,dx,_,_,rfl,hp,T.aY,T.aA,ES,q⟩
def Zra:fB P w K mg base mS 1 a.bv a.bX ["self"] (sp_KP K a):=by refine T.dP.u.ok Zqn (λAp A outer s H vs Q E hr h=>?_);obtain⟨p,l,m,rfl,hp,ok,q⟩:=h;refine⟨_,(lY (mN (mJ pj (mZ (nU (K:=K) rfl) rfl T.cK nR (lM (o6 (K:=K) rfl (pv 0) rfl) lQ)) me))),?_⟩;obtain⟨dx,hp⟩:=hp;have l40:=ok.l40;omega;exact⟨p,_,dx,_,_,rfl,hp,T.aY,T.aA,ES,_,_,rfl,qD ∅,q⟩
def Zd3:fB P w K mg base mS 1 a.ag a.az ["self","word"] (Bl K a.c_LG 1 (zE "word")):=by
 refine T.fi_LG.ok ZdR (λAp A outer s H vs Q E hr h=>?_) (λvs H Q E h=>by obtain⟨e,r,rfl,hl,_⟩:=h;simp[hl])
 .obtain⟨e,r,rfl,hl,he,q⟩:=h;obtain⟨x,rfl⟩:∃x,r=[x]:=by match r,hl with | [x],_=>exact⟨x,rfl⟩
  refine⟨_,(lW (oG (HF rfl T.cF T.r_K2 (lM (pv 0) (lM (on (l:=[97,32,119,111,114,100,32,119,105,116,104,32,116,111,111,32,109,97,110,121,32,108,101,116,116,101,114,115,32,97,118,111,105,100,115,32,116,104,101,32,108,105,115,116]) nofun) lQ))))
   (lY (C8 (pv 0) (pv 1) rfl))),?_⟩
  omega;refine⟨e,a.c_LG,none,_,rfl,he,T.bS,(by show 1<=1000;decide),e,a.c_LG,[],rfl,.bare he,T.bS.c,T.aI,(by show 0<1000;decide),λH1 x1 k1 _=>?_⟩;exact q H1 x1 λb o hb hne=>k1 b o hb hne λd hd=>by rw[he]at hd;exact IG hd CZ
def Zrc:fB P w K mg base mS 1 a.f_KN a.d_KN ["text"] (sp_KN K a):=by
 refine T.cW.u.ok Zqp (λAp A outer s H vs Q E hr h=>?_);have As:=hr.units;obtain⟨l,rfl,hl,q⟩:=h;refine⟨_,(lY (mN (sK (El (K:=K) rfl) rfl T.eK GT (lM (qz (N:=["spot","text"]) (ix:=[none,some 0]) rfl (pY rfl) rfl (xA rfl T.cU (lM (mJ pj (mZ (nU (K:=K) rfl) rfl T.cK nR (lM (pv 0) lQ)) me) lQ)) (λ_ _ _ _=>(m7 (i:=0) (show (["spot","text"]:AJ).Nodup from by decide +kernel) rfl (Or.inl rfl) (Or.inr rfl))) (λ_ _ _ _=>(um (m9 (oU (K:=K) rfl As) (B5 (K:=K) rfl PySem.F.plainAttrs_str PySem.F.slot_str_find PySem.F.type_str_find Cm (pv 1) (lM (oF oM (pv 1) (nX (pv 0)) o5) lQ)) (pv 0) (mV _)))) (λ_ _ _ _=>(pv 0))) lQ)))),?_⟩;have sz:∀k:Nat,k<=1000->k<=sizeLine:=λk h=>mO h (by rw[sizeLine_eq];decide);omega;refine⟨_,_,rfl,qD ∅,_,rfl,∅,∅,?_⟩;have e0:((l.length:Int)+1).toNat=l.length+1:=by lia
 rw[e0];refine fk.range (λi=>decide (∀j,j<i->¬nB l (l.drop i) j)) (λi=>.int ((i:Nat):Int)) ∅ ?_ ?_ ?_
 .intro i H1 Q1 hi s1 q1;have e1:(0+(i:Int))=((i:Nat):Int):=by lia
  omega;refine⟨rfl,_,rfl,l,rfl,sz _ ∅,l,_,rfl,rfl,λr hr=>.inl ⟨rfl,?_⟩⟩;rw[e1,vG]at hr;rw[lT mQ,e1,ZiL ∅ hr];exact q1 H1 (e8.refl _)
 .intro i H1 Q1 hi _ s1 q1;have e1:(0+(i:Int))=((i:Nat):Int):=by lia
  omega;rw[e1];exact q1 H1 (e8.refl _)
 .intro p H1 s1 n1 l1;exact⟨p,_,rfl,.inl ⟨.mk l1,λp2 n2=>q p2 _ (s1.trans (oR n2)) (s1.free n2) mq⟩⟩
def Zrf:fB P w K mg base mS 1 a.f_KK a.d_KK ["text","spots","letter"] (sp_KK K a):=by
 refine T.cS.u.ok Zqs (λAp A outer s H vs Q E hr h=>?_);have As:=hr.units;obtain⟨l,S,c,t,rfl,hl,ht,hS,q⟩:=h;refine⟨_,(lY (mN (sK (El (K:=K) rfl) rfl T.eK GT (lM (qz (N:=["spot","letter","text"]) (ix:=[none,some 2,some 0]) rfl (pY rfl) rfl (Zm3 (K:=K) rfl (pv 1)) (λ_ _ _ _=>(m7 (i:=0) (show (["spot","letter","text"]:AJ).Nodup from by decide +kernel) rfl (Or.inl rfl) (Or.inr rfl))) (λ_ _ _ _=>(um (m9 (oU (K:=K) rfl As) (oF oM (pv 2) (nX (pv 0)) (nX (mJ pj (pv 0) me))) (pv 1) (mV _)))) (λ_ _ _ _=>(mJ pj (pv 0) me))) lQ)))),?_⟩;have sz:∀k:Nat,k<=1000->k<=sizeLine:=λk h=>mO h (by rw[sizeLine_eq];decide);have gd:∀i,i<S.length->(S.map λ(i:Nat)=>V.int i).getD i .non=V.int ((S.getD i 0:Nat):Int):=λi hi=>by rw[nN,om,mT hi,nN,mT hi];rfl
 omega;refine⟨t,rfl,⟨_,.mk ht⟩,fk.tup (xs:=S.map λ(i:Nat)=>V.int i) (λi=>decide (l[S.getD i 0]?=some c)) (λi=>.int ((S.getD i 0+1:Nat):Int)) (by rw[lZ];lia) (.mk ht) ?_ ?_ ?_⟩
 .intro i H1 Q1 hi s1 q1;rw[lZ]at hi;rw[gd i hi];omega;refine⟨_,rfl,_,rfl,l,rfl,sz _ ∅,.inl ⟨rfl,?_⟩⟩;rw[lT mQ,cut1];exact q1 H1 (e8.refl _)
 .intro i H1 Q1 hi _ s1 q1;rw[lZ]at hi;rw[gd i hi];omega;exact q1 H1 (e8.refl _)
 .intro p H1 s1 n1 l1;rw[lZ,Zew S (λs=>decide (l[s]?=some c)) (· + 1)]at l1;exact⟨p,_,rfl,.inl ⟨.mk l1,λp2 n2=>q p2 _ (s1.trans (oR n2)) (s1.free n2) mq⟩⟩
def Zq2:fB P w K mg base mS 1 a.f_L5 a.d_L5 ["text","word"] (sp_L5 K a):=by
 refine T.eG.u.ok Zqh (λAp A outer s H vs Q E hr h=>?_);obtain⟨l,x,rfl,hl,hx,q⟩:=h;refine⟨_,(lY (mN (sV (pV Fe (pv 1) (pv 0) rfl) (sV (pV Bf (oF oM (pv 1) (nX me) o5) (pv 0) rfl) (vQ (pV Bf (oF oM (pv 1) o5 (nX (A9 A5 me))) (pv 0) rfl)))))),?_⟩;omega;have sx:x.length<=sizeLine:=mO hx (by rw[sizeLine_eq];decide);unfold ye at q;refine⟨x,l,rfl,rfl,fT (λh1=>⟨_,rfl,x,rfl,sx,_,l,rfl,rfl,fT (λh2=>⟨_,rfl,x,rfl,sx,_,l,rfl,rfl,?_⟩) (λh2=>?_)⟩) (λh1=>?_)⟩
 .rw[yX]at h2;rw[Dr];rw[h1,h2,sS,sS]at q;exact q
 .rw[yX]at h2;rw[h1,rE.mpr h2,rX,uv]at q;exact q
 .rw[rE.mpr h1,rX]at q;exact q
def yY:fB P w K mg base mS 1 a.f_L6 a.d_L6 ["_law_script","_law_k"] (sp_L6 K a):=by
 refine T.df.u.ok Zqg (λAp A outer s H vs Q E hr h=>?_);obtain⟨b,ns,k,rfl,hS,hk,q⟩:=h;refine⟨_,(mE (lW (nA (m9 xO (pv 1) (mZ (nU (K:=K) rfl) rfl T.cK nR (lM (pv 0) lQ)) (mV _)) (mE (lY (mN (ph (u8 (K:=K) rfl) (pv 0) (pv 1) (λ_ _=>rfl))))) nD)
  (lY (mN me)))),?_⟩
 omega;refine⟨_,_,rfl,.inl ⟨_,hS,rfl⟩,?_⟩;rw[lZ];refine fT (λh=>?_) (λh=>?_)
 .have h':k<ns.length:=IC h;exact⟨b,_,k,_,rfl,rfl,hS,ZnV hk h',q _⟩
 .exact q _
def qA:fB P w K mg base mS 1 a.f_L8 a.d_L8 ["_law_cell","_law_k"] (sp_L8 K a):=by
 refine T.cM.u.ok Dt (λAp A outer s H vs Q E hr h=>?_);obtain⟨c,k,rfl,q⟩:=h;refine⟨_,(lW (mK (i:=2) Dt.nd (mJ pI (mJ pj (mJ pj (mJ xb (mJ pI (pv 0) me) me) (mJ xb (pv 1) me)) me) me))
  (lW (mK (i:=2) Dt.nd (mJ pI (mJ pj (mJ pj (mJ xb (mJ pI (mJ xb (pv 2) (pv 2)) me) me) (mJ xb (pv 1) me)) me) me))
  (lY (mN (mJ pI (mJ xb (pv 2) (pv 2)) me))))),?_⟩
 omega;exact⟨⋯,.inr ⟨⋯,⋯⟩,.inr ⟨⋯,⋯⟩,⋯,cm ⋯ ⋯,⋯,.inr ⟨⋯,⋯⟩,.inr ⟨⋯,⋯⟩,⋯,cm ⋯ ⋯,⋯,q _ (uE _ ⋯)⟩
def Zrj:fB P w K mg base mS 1 a.f_K7 a.d_K7 ["_law_text_here"] (sp_K7 K a):=by
 refine T.dc.u.ok zD (λAp A outer s H vs Q E hr h=>?_);have hu1:=tM hr;obtain⟨l,rfl,hl,q⟩:=h;refine⟨_,(lW (mK (i:=1) zD.nd (Hv (HW (on (l:=[]) nofun) qT F7) rfl rfl {} ⋯))
  (lW (oJ oq rfl (xA rfl T.cU (lM (mZ (nU (K:=K) rfl) rfl T.cK nR (lM (pv 0) lQ)) lQ)) (m7 (i:=2) zD.nd rfl (Or.inl rfl))
  (lY (oJ oq rfl (zR rfl T.cU (lM (mJ pj (pv 2) me) (lM (mJ pj (mZ (nU (K:=K) rfl) rfl T.cK nR (lM (pv 0) lQ)) me) lQ))) (m7 (i:=3) zD.nd rfl (Or.inl rfl))
  (lY (tQ hu1 (pv 1) (oF oM (pv 0) (nX (pv 2)) (nX (pv 3))) qT rfl)))))
  (lY (mN (pv 1))))),?_⟩
 have sz:∀k:Nat,k<=4000->k<=sizeLine:=λk h=>mO h (by rw[sizeLine_eq];decide);omega;intro p hp;refine⟨mq,[(lV [],.bl true)],rfl,by show (1:Nat)<=15;decide,_,_,rfl,qD ∅,_,rfl,∅,∅,?_⟩;have s1:e8 H (upd (upd H p (.dK [])) p (.dK (oO [] [(lV [],.bl true)]))):=Gc hp;have h1:upd (upd H p (.dK [])) p (.dK (oO [] [(lV [],.bl true)])) p=some (.dK (oO [] [(lV [],.bl true)])):=mq;have k1:gR l (oO [] [(lV [],.bl true)]):=by show gR l (fz [] (lV []) (.bl true));exact gR.put ⟨λ_ h=>(by cases h),List.nodup_nil⟩ (mj.nil l)
 have l1:(oO [] [(lV [],.bl true)]).length<=1:=vZ _ _;have z1:(fh (oO [] [(lV [],.bl true)]) (lV [])).isSome=true:=by show (fh (fz [] (lV []) (.bl true)) (lV [])).isSome=true;exact ut (.inr rfl)
 generalize oO [] [(lV [],.bl true)]=kv0 at s1 h1 k1 l1 z1;generalize upd (upd H p (.dK [])) p (.dK kv0)=H1 at s1 h1;rw[ve];refine fA.range (λi U H'=>∃v2 v3 kvs,U=[some (tx l),some (.ref p),v2,v3]/\e8 H H'/\H' p=some (.dK kvs)/\gR l kvs/\kvs.length<=1+60*i/\(fh kvs (lV [])).isSome=true/\∀s e,s<i->s<=e->e<=l.length->(fh kvs (lV ((l.drop s).take (e-s)))).isSome=true) ⟨_,_,_,rfl,s1,h1,k1,∅,z1,λs e h=>by lia⟩ ?_ ?_
 .rintro i U H2 hi ⟨v2,v3,kvs,rfl,s2,h2,k2,n2,z2,c2⟩;omega;refine⟨_,_,rfl,qD ∅,_,_,rfl,⟨∅,∅,∅,∅⟩,?_⟩;refine fA.range (λj U H'=>∃v3 kvs,U=[some (tx l),some (.ref p),some (.int (0+(i:Int))),v3]/\e8 H H'/\H' p=some (.dK kvs)/\gR l kvs/\kvs.length<=1+60*i+j/\(fh kvs (lV [])).isSome=true/\(∀s e,s<i->s<=e->e<=l.length->(fh kvs (lV ((l.drop s).take (e-s)))).isSome=true)/\∀e,i<e->e<=i+j->(fh kvs (lV ((l.drop i).take (e-i)))).isSome=true) ⟨_,_,rfl,s2,h2,k2,∅,z2,c2,λe a b=>by lia⟩ ?_ ?_
  .rintro j U H3 hj ⟨v3,kvs,rfl,s3,h3,k3,n3,z3,c3,e3⟩;have q1:(0+(i:Int))=((i:Nat):Int):=by lia
   have q2:(0+(i:Int)+1+(j:Int))=((i+1+j:Nat):Int):=by lia
   omega;refine⟨_,rfl,_,rfl,l,rfl,sz _ ∅,?_⟩;rw[q2,q1,zH];refine⟨p,_,rfl,gO.k (k:=lV ((l.drop i).take (i+1+j-i))) h3 (ot (show _<4000 by lia) (sz 4000 (mC _))),_,_,rfl,fq s3 hp,mq,k3.put (Zny ∅ ∅),?_,ut (.inl z3),λs e a b d=>ut (.inl (c3 s e a b d)),λe a b=>?_⟩
   .have:=sg kvs (lV ((l.drop i).take (i+1+j-i))) (.bl true)
    lia
   .by_cases ee:e=i+1+j
    .rw[ee];exact ut (.inr rfl)
    .exact ut (.inl (e3 e a ∅))
  .rintro U H3 ⟨v3,kvs,rfl,s3,h3,k3,n3,z3,c3,e3⟩;refine⟨_,_,_,rfl,s3,h3,k3,∅,z3,λs e a b d=>?_⟩;by_cases hs:s<i
   .exact c3 s e hs b d
   .have hsi:s=i:=by lia
    subst hsi;by_cases he:e=s
    .rw[he];simpa using z3
    .exact e3 e ∅ ∅
 .rintro U H2 ⟨v2,v3,kvs,rfl,s2,h2,k2,n2,z2,c2⟩;omega;exact q p kvs H2 s2 hp h2 ⟨Zlq k2.1 z2 c2,k2.2,∅⟩
def yo:fB P w K mg base mS 1 a.f_LK a.d_LK ["_law_one","_law_word"] (sp_LK K a):=by
 refine T.cT.u.ok EW (λAp A outer s H vs Q E hr h=>?_);have As:=hr.units;obtain⟨x,y,rfl,hx,hy,q⟩:=h;refine⟨_,(lW (oJ oq rfl (xA rfl T.cU (lM (mJ pj (mJ Cq (mZ (nU (K:=K) rfl) rfl T.cK nR (lM (pv 1) lQ)) (mZ (nU (K:=K) rfl) rfl T.cK nR (lM (pv 0) lQ))) me) lQ)) (m7 (i:=2) EW.nd rfl (Or.inl rfl))
  (lY (nA (m9 (oU (K:=K) rfl As) (oF oM (pv 1) (nX (pv 2)) (nX (mJ pj (pv 2) (mZ (nU (K:=K) rfl) rfl T.cK nR (lM (pv 0) lQ))))) (pv 0) (mV _)) (lY (mN qT)) nD)))
  (lY (mN qT))),?_⟩
 omega;refine⟨_,_,rfl,ud hy,_,_,rfl,ud hx,_,rfl,∅,∅,fA.range (λi U H'=>∃v2,U=[some (tx x),some (tx y),v2]/\H'=H/\∀j,j<i->¬nB y x j) ⟨_,rfl,rfl,λj hj=>by lia⟩ ?_ ?_⟩
 .rintro i U H1 hi ⟨v2,rfl,rfl,no⟩;have q1:(0+(i:Int))=((i:Nat):Int):=by lia
  have q2:(0+(i:Int))+((x.length:Nat):Int)=((i+x.length:Nat):Int):=by lia
  omega;refine⟨_,rfl,_,_,rfl,ud hx,_,rfl,y,rfl,sz _ hy,?_⟩;rw[q2,q1,zH,show i+x.length-i=x.length by lia];refine ZnK λk hk=>(fT (λh=>?_) (λh=>⟨_,rfl,rfl,λj hj ha=>?_⟩))
  .have e:gc x y=true:=qI.mpr ⟨i,∅,hk.mp h⟩;rw[e]at q;exact q
  .by_cases c:j<i
   .exact no j c ha
   .have e:j=i:=by lia
    subst e;exact h (hk.mpr ha.2)
 .rintro U H1 ⟨v2,rfl,rfl,no⟩;omega;have e:gc x y=false:=BP.mpr λ⟨i,hi⟩=>no i (by have:=hi.1;lia) hi;rw[e]at q;exact q
def BZ:fB P w K mg base mS 1 a.f_MD a.d_MD ["_law_kinds_here","_law_text_here"] (sp_MD K a):=by
 refine T.eB.u.ok Zqa (λAp A outer s H vs Q E hr h=>?_);have As:=hr.units;obtain⟨m,w_,rfl,hw,q⟩:=h;refine⟨_,(lY (mN (sV (mZ (u4 (K:=K) rfl) rfl T.cL uY (lM (pv 1) (lM (Bs (v:=.ty "str") rfl T.eQ BV rfl) lQ))) (vQ (pV (oU (K:=K) rfl As) (qz (N:=["_law_letter","_law_kinds_here"]) (ix:=[none,some 0]) rfl (pY rfl) rfl (uf (pv 1)) (λ_ _ _ _=>(m7 (i:=0) (show (["_law_letter","_law_kinds_here"]:AJ).Nodup from by decide +kernel) rfl (Or.inl rfl) (Or.inr rfl))) (λ_ _ _ _=>(um (m9 Ze7 (pv 0) (pv 1) rfl))) (λ_ _ _ _=>(pv 0))) (qi lQ) (mV _)))))),?_⟩;omega;refine⟨_,_,_,_,true,rfl,rfl,.ty (.pl (.str _)),Bu,?_⟩;refine gJ ?_;refine⟨w_,rfl,fk.text (λi=>!decide (w_.getD i 0∈m)) (λi=>tx [w_.getD i 0]) hw ?_ ?_ ?_⟩
 .intro i H1 Q1 hi s1 q1;omega;exact⟨_,m,rfl,rfl,q1 H1 (e8.refl _)⟩
 .intro i H1 Q1 hi _ s1 q1;omega;exact q1 H1 (e8.refl _)
 .intro p1 H1 s1 n1 l1;refine⟨nO _,fY.of λp2 H2 s2 n2 l2=>Bx (xs:=((List.range w_.length).filter λi=>!decide (w_.getD i 0∈m)).map λi=>[w_.getD i 0]) (ys:=[]) (.mk (by rw[s2 _ _ l1,oX];rfl)) (.mk l2) ?_⟩;have e:decide ((((List.range w_.length).filter λi=>!decide (w_.getD i 0∈m)).map λi=>[w_.getD i 0])=[])=w_.all λc=>m.contains c:=by
   rw[pO,Iz,List.map_eq_nil_iff,zI,qE];constructor
   .intro h x hx;obtain⟨i,hi,rfl⟩:=zM.mp hx;have:=h i (oY.mpr hi);rw[nN,mT hi]at this;simpa using this
   .intro h i hi;have hi:=oY.mp hi;have:=h _ (rq hi);rw[nN,mT hi];simpa using this
  rw[e];exact q H2 (s1.trans s2)
def Zrd:fB P w K mg base mS 1 a.bC a.cq ["self"] (sp_KM K a):=by refine T.dE.u.ok Zqq (λAp A outer s H vs Q E hr h=>?_);obtain⟨p,la,da,l,m,ds,rfl,hp,q⟩:=h;refine⟨_,(lY (mN (sK (FG (K:=K) rfl) rfl T.dF v0 (lM (o6 (K:=K) rfl (pv 0) rfl) lQ)))),?_⟩;obtain⟨dx,f⟩:=hp.fld;obtain⟨ts,d1,d2⟩:=hp.deed;omega;exact⟨p,_,dx,_,_,rfl,f,T.ae,T.ad,xc,da,_,rfl,.inl (.mk d1),λr hr=>q r ts hr d2⟩
def ze:fB P w K mg base mS 1 a.br a.bU ["self"] (sp_K1 K a):=by refine T.cZ.u.ok ZqB (λAp A outer s H vs Q E hr h=>?_);obtain⟨p,la,da,l,m,ds,rfl,hp,q⟩:=h;refine⟨_,(lY (mN (o6 (K:=K) rfl (pv 0) rfl))),?_⟩;obtain⟨dx,f⟩:=hp.fld;omega;exact⟨p,_,dx,_,_,rfl,f,T.ae,T.aa,su,q⟩
def Zre:fB P w K mg base mS 1 a.bz a.cf ["self","room","letter"] (sp_KL K a):=by
 refine T.dD.u.ok Zqr (λAp A outer s H vs Q E hr h=>?_);have hu1:=tM hr;obtain⟨p,l,m,sp,i,s_,c,rfl,hp,hi,hc,q⟩:=h;refine⟨_,(lY (mN (Zk6 hu1 (ph (sk (K:=K) rfl) (ph (u8 (K:=K) rfl) (o6 (K:=K) rfl (pv 0) rfl) (pv 1) (λ_ _=>rfl)) me (λ_ _=>rfl)) (pv 2) ⟨rfl,rfl,rfl,rfl⟩))),?_⟩;obtain⟨dx,qa,ys,h1,h2,h3⟩:=hp;have e:=h3.len;have hi':i<sp.length:=(mX.mp hi).1;have hy:ys[i]?=some ys[i]:=mT ∅;obtain⟨t,d,w1,kvs,ey,ht,hd,_,_,hs,hway⟩:=h3.rooms i _ hy;rw[hi]at hs;injection hs with hs;omega;refine⟨p,_,dx,_,_,rfl,h1,T.a8,T.aw,Zg9,qa,ys,_,ys[i],rfl,rfl,.mk h2,?_,?_⟩
 .unfold pC rA;rw[lU ∅,lU ∅,sj,ve];exact hy
 .rw[ey];exact⟨t,_,_,_,rfl,rfl,.mk ht,rfl,d,rfl,.inl ⟨kvs,hd⟩,_,.inl ⟨kvs,lV [c],hd,rfl,rfl⟩,q _ (by rw[hs];exact hway c hc)⟩
def Zq0:fB P w K mg base mS 2 a.f_LA a.d_LA ["thing"] (sp_LA K a):=by
 refine T.dm.u.ok Zqf (λAp A outer s H vs Q E hr h=>?_);have As:=hr.units;obtain⟨l,rfl,hl,q⟩:=h;refine⟨_,(lW (nA (rF (o8 (mZ (u4 (K:=K) rfl) rfl T.cL uY (lM (pv 0) (lM (Bs (v:=.ty "str") rfl T.eQ BV rfl) lQ))))) (lY (mN qT)) nD)
  (lW (nA (PW.pt (rm (m9 xO (mZ (nU (K:=K) rfl) rfl T.cK nR (lM (pv 0) lQ)) me (mV _)) (uP (m9 tw (mZ (nU (K:=K) rfl) rfl T.cK nR (lM (pv 0) lQ)) (uC rfl T.c_KS) (mV _))))) (lY (mN qT)) nD)
  (lY (mN (sV (mG (Hy T) (hM hr) rfl T.c6 mi (lM (pv 0) (lM (Zk4 rfl T.c_KD) lQ))) (vQ (pV (oU (K:=K) rfl As) (sK (Dg rfl) rfl T.dF v0 (lM (pv 0) lQ)) (mZ (B7 rfl) rfl T.dB Co (lM (sK (Da rfl) rfl T.eP BF (lM (pv 0) lQ)) lQ)) (mV _)))))))),?_⟩
 omega;refine⟨_,_,_,_,true,rfl,rfl,.ty (.pl (.str _)),Bu,fS ?_⟩;refine⟨_,_,rfl,qD hl,?_⟩;refine fT (λh=>iY ?_) (λh=>?_)
 .have h1:¬1<=l.length:=by have:=IC h;lia
  have e:=q H (e8.refl _);unfold rD at e;rw[IB h1,rX,rX,rX]at e;exact e
 .have h1:1<=l.length:=by have:¬((l.length:Nat):Int)<1:=λz=>h (IA z);lia
  refine⟨_,_,rfl,qD hl,?_⟩;refine fT (λh'=>?_) (λh'=>?_)
  .have h4:¬l.length<=4:=by have:=IC h';lia
   have e:=q H (e8.refl _);unfold rD at e;rw[IB h4,uv,rX,rX]at e;exact e
  .have h4:l.length<=4:=by have:¬4<((l.length:Nat):Int):=λz=>h' (IA z);lia
   refine⟨l,qY,by rw[Znr],hl,λH2 s2=>?_⟩;refine fT (λha=>?_) (λha=>?_)
   .refine⟨l,rfl,hl,fY.of λp1 H3 s3 n3 l3=>?_⟩;refine⟨fK l,by rw[iA];exact hl,.inl ⟨l,rfl,rfl⟩,λp4 n4=>?_⟩;refine⟨p4,pz (fK l),rfl,mq,mO (ZnM l) (by rw[sizeLine_eq];lia),fY.of λp5 H5 s5 n5 l5=>?_⟩;refine Bx (.mk ((oR n4).trans s5 _ _ l3)) (.mk l5) ?_;have e:=q H5 (s2.trans (s3.trans ((oR n4).trans s5)));unfold rD at e;rw[IA h1,IA h4,ha,sS,sS,sS]at e;exact e
   .have e:=q H2 s2;unfold rD at e;rw[rE.mpr ha,uv,rX]at e;exact e
def DH:fB P w K mg base mS 2 a.f_LH a.d_LH ["thing","kinds","most"] (sp_LH K a):=by
 refine T.c7.u.ok Zqe (λAp A outer s H vs Q E hr h=>?_);obtain⟨l,m,most,rfl,hl,q⟩:=h;refine⟨_,(lY (mN (sV (mZ (u4 (K:=K) rfl) rfl T.cL uY (lM (pv 0) (lM (Bs (v:=.ty "str") rfl T.eQ BV rfl) lQ))) (sV (pV GG (mZ (nU (K:=K) rfl) rfl T.cK nR (lM (pv 0) lQ)) (pv 2) (mV _)) (vQ (mG (Hy T) (hM hr) rfl T.c6 mi (lM (pv 0) (lM (pv 1) lQ)))))))),?_⟩;omega;refine⟨_,_,_,_,true,rfl,rfl,.ty (.pl (.str _)),Bu,gJ ?_⟩;refine⟨_,_,rfl,qD hl,?_⟩;refine fT (λh=>?_) (λh=>?_)
 .refine⟨l,m,rfl,hl,λH2 s2=>?_⟩;have e:=q H2 s2;unfold uL at e;rw[h,sS]at e;exact e
 .have e:=q H (e8.refl _);unfold uL at e;rw[rE.mpr h,rX]at e;exact e
def ZqP:fB P w K mg base mS 2 a.f_ME a.d_ME ["words","kinds"] (sp_ME K a):=by
 refine T.eM.u.ok zb (λAp A outer s H vs Q E hr h=>?_);have hu1:=tM hr;obtain⟨b,ws,m,rfl,hb,ok,lk,q⟩:=h;refine⟨_,(lW (yA (i:=2) zb.nd rfl (Or.inr rfl) (mG (ZqR T) (hM hr) rfl T.eD mi (lM (pv 0) lQ)))
  (mE (lW (mK (i:=3) zb.nd vg)
  (mE (lW (xz (oJ oq rfl (x9 (pv 2)) (m7 (i:=4) zb.nd rfl (Or.inr rfl))
  (lW (CF (i:=5) (N:=["letter","stem","words"]) (ix:=[none,some 4,some 0]) rfl zb.nd rfl rfl rfl (pY rfl) rfl (uf (pv 1)) (λ_ _ _ _=>(m7 (i:=0) (show (["letter","stem","words"]:AJ).Nodup from by decide +kernel) rfl (Or.inl rfl) (Or.inr rfl))) (λ_ _ _ _=>(um (o8 (mG (DX T) (hM hr) rfl T.dG mi (lM (pv 2) (lM (mJ qB (pv 1) (pv 0)) lQ)))))) (λ_ _ _ _=>(pv 0)))
  (mE (lY (tQ hu1 (pv 3) (pv 4) (sK (ZlO rfl) rfl T.eR ZnS (lM (qz (N:=["letter","stem","stems"]) (ix:=[none,some 4,some 2]) rfl (pY rfl) rfl (pB (K:=K) rfl (pv 5)) (λ_ _ _ _=>(m7 (i:=0) (show (["letter","stem","stems"]:AJ).Nodup from by decide +kernel) rfl (Or.inl rfl) (Or.inr rfl))) (λ_ _ _ _=>sL) (λ_ _ _ _=>(qQ (lM (pv 0) (lM (mG (ZqV T) (hM hr) rfl T.dZ mi (lM (pv 2) (lM (mJ qB (pv 1) (pv 0)) lQ))) lQ))))) lQ)) rfl))))))
  (mE (lY (mN (pv 3))))))))),?_⟩
 have ln:=lk.len;have m4:=ok.m4;omega;refine⟨b,ws,rfl,hb,∅,λw hw=>lk.w41 w hw,λp0 kvs H1 s1 n0 h0 sd=>?_⟩;walk_at "h";intro pw npw;have s2:e8 H1 (upd H1 pw (.dK [])):=oR npw;have l2:upd H1 pw (.dK []) pw=some (.dK []):=mq;have nw:H pw=none:=s1.free npw;have ne:p0≠pw:=mM h0 npw;generalize upd H1 pw (.dK [])=H2 at s2 l2;ac_rfl;refine⟨p0,kvs,s2 _ _ h0,p0,kvs,rfl,s2 _ _ h0,λo=>fA.dict (λi U H'=>∃v4 v5 kw ss,U=[some (.ref b),some (tx m),some (.ref p0),some (.ref pw),v4,v5]/\e8 H H'/\H' p0=some (.frz o (.dK kvs))/\H' pw=some (.dK kw)/\gf H' pw kw ws m ss/\ss.map lV=(kvs.map (·.1)).take i) ⟨_,_,[],[],rfl,fq (s1.trans s2) n0,mq,by rw[lR (mH ne)];exact l2,⟨rfl,λi u h=>by simp at h⟩,{}⟩ (λi U H' ⟨_,_,_,_,_,_,h,_⟩=>h) ?_ ?_⟩
 .rintro i kv U H3 hkv ⟨v4,v5,kw,ss,rfl,s3,f3,w3,wl,e3⟩;obtain⟨u,ek,hu⟩:=sd.key kv (oW hkv);have ul:u.length<=41:=by
   rcases hu with rfl | ⟨v,hv,k,hk,rfl⟩
   .exact nO _
   .have:=lk.w41 _ hv;rw[nG];lia
  rw[ek,xD];omega;refine⟨m,rfl,fk.text (λi=>rL ws (u++[m.getD i 0])) (λi=>tx [m.getD i 0]) ∅ ?_ ?_ ?_⟩
  .intro j H4 Q4 hj s4 q4;have sl:(u++[m.getD j 0]).length<=42:=by rw[mP,oC];lia
   omega;exact⟨sz _ ∅,b,ws,_,rfl,s4 _ _ (s3 _ _ hb),∅,∅,λH5 s5=>q4 H5 s5⟩
  .intro j H4 Q4 hj _ s4 q4;omega;exact q4 H4 (e8.refl _)
  .intro p1 H4 s4 n4 l4;rw[Zki (λc=>rL ws (u++[c])) (λc=>tx [c]) m]at l4;ac_rfl;have ol:(gp ws m u).length<=4:=mO (pW _ _) m4;refine⟨p1,rfl,⟨_,.mk l4⟩,fk.tupsM (xs:=(gp ws m u).map λc=>tx [c]) (λj vs=>∃c,(gp ws m u)[j]?=some c/\vs=[tx [c],tx (gY ws (u++[c]))]) (by rw[lZ];lia) (.mk l4) ?_ ?_⟩
   .intro j H5 Q5 hj s5 q5;rw[lZ]at hj;have hc:(gp ws m u)[j]?=some ((gp ws m u).getD j 0):=by rw[nN,mT hj];rfl
    have eg:((gp ws m u).map λc=>tx [c]).getD j .non=tx [(gp ws m u).getD j 0]:=by simp[nN,hj]
    rw[eg];generalize (gp ws m u).getD j 0=c at hc;have sl:(u++[c]).length<=42:=by rw[mP,oC];lia
    omega;refine⟨sz _ ∅,p0,kvs,ws,u++[c],rfl,.inr ⟨o,s5 _ _ (s4 _ _ f3)⟩,sd,∅,λe H6 s6 he=>?_⟩;refine⟨sz _ ⋯,gB.of λpt H7 s7 n7 l7=>q5 pt _ H7 (s6.trans s7) l7 ⟨c,hc,?_⟩⟩;rw[Zka he (xW _ _)]
   .intro p2 ys H5 s5 n5 l5 yl hy;refine⟨p2,ys,(oE ws m u).map gC,rfl,l5,⟨by unfold oE;rw[yl,lZ,lZ,lZ],λj y hj=>?_⟩,λd hd=>?_⟩
    .obtain⟨t,vs,rfl,ht,c,hc,rfl⟩:=hy j y hj;refine⟨gC (c,gY ws (u++[c])),t,?_,rfl,ht⟩;unfold oE;rw[oX,om,hc];rfl
    .rw[Ig _ [] (by rw[List.nil_append];exact HA (xg ok.k)),List.nil_append];have w5:=s5 _ _ (s4 _ _ w3);have dn:d≠pw:=mH (mM w5 hd);have ki:(kvs.map (·.1))[i]?=some (lV u):=by rw[om,hkv,<-ek];rfl
     have nk:fh kw (lV u)=none:=Hc (by rw[wl.keys,e3];exact Zo7 sd.nd ki);have kl:kw.length<=i:=by have:=IF List.length e3;rw[lZ,nG]at this;rw[wl.1];lia
     have il:=(mX.mp hkv).1;have sl:=sd.len;have s45:=s4.trans s5;have s6:e8 H5 (upd H5 d (.dK ((oE ws m u).map gC))):=oR hd;have d6:upd H5 d (.dK ((oE ws m u).map gC)) d=some (.dK ((oE ws m u).map gC)):=mq;generalize upd H5 d (.dK ((oE ws m u).map gC))=H6 at s6 d6;refine⟨pw,_,rfl,gO.k (k:=lV u) (s6 _ _ w5) (ot (show _<9000 by lia) (sz 9000 (mC _))),_,_,kw++[(lV u,.ref d)],ss++[u],rfl,fq (s3.trans (s45.trans s6)) nw,by rw[lR ne];exact s6 _ _ (s45 _ _ f3),by rw[mq,yZ _ nk],?_,?_⟩
     .refine gf.snoc ((wl.same (s45.trans s6)).chg λb o n e=>by rw[lR n];exact e) dn ?_;rw[lR dn];exact d6
     .rw[qj,e3,x5,ki];rfl
 .rintro U H3 ⟨v4,v5,kw,ss,rfl,s3,f3,w3,wl,e3⟩;refine⟨o,kvs,f3,?_⟩;omega;ac_rfl;have e4:ss.map lV=kvs.map (·.1):=by rw[e3,qH (by rw[lZ];exact mC _)]
  have hm:∀v,v∈ss↔gN ws v:=λv=>by
   constructor
   .intro hv;have:lV v∈kvs.map (·.1):=by rw[<-e4];exact tS hv
    obtain⟨kv,hk,ek⟩:=nj.mp this;obtain⟨u,eu,hu⟩:=sd.key kv hk;rw[qd (ek.symm.trans eu)];exact hu
   .intro hv;obtain⟨kv,hk,ek⟩:=yz (sd.has v hv);have:lV v∈ss.map lV:=by rw[e4,<-ek];exact tS hk
    obtain⟨x,hx,ex⟩:=nj.mp this;rw[<-qd ex];exact hx
  refine q pw kw ss (upd H3 p0 (.dK kvs)) (fq s3 n0) nw (by rw[lR (mH ne)];exact w3) ⟨wl.1,λi u hu=>?_⟩ ⟨?_,hm,?_⟩
  .obtain⟨a',h1,h2,h3⟩:=wl.2 i u hu;have n3:a'≠p0:=by rintro rfl;have z:=h3.symm.trans f3;exact nomatch z
   refine⟨a',h1,h2,?_⟩;rw[lR n3];exact h3
  .have:=sd.nd;rw[<-e4]at this;exact List.Pairwise.imp (λh e=>h (by rw[e])) (tV.mp this)
  .have:=IF List.length e4;rw[lZ,lZ]at this;have:=sd.len
   lia
def EQ:fB P w K mg base mS 2 a.bu a.bW ["self","length"] (sp_KQ K a):=by refine T.dh.u.ok Zqm (λAp A outer s H vs Q E hr h=>?_);obtain⟨p,l,m,n,rfl,hp,ok,hn,q⟩:=h;refine⟨_,(lY (mN (mG (ZqS T) (hM hr) rfl T.dW mi (lM (qW (pv 0) T.aY T.aB (Zri T) (hM hr) T.de.b .nil mi (lM (pv 1) lQ)) (lM (pv 1) lQ))))),?_⟩;obtain⟨dx,hp⟩:=hp;have l40:=ok.l40;omega;exact⟨p,dx,_,rfl,hp,za nofun nofun,p,l,m,n,rfl,⟨dx,hp⟩,l,n,rfl,∅,∅,∅,q⟩
def ZqY:fB P w K mg base mS 2 a.f_LC a.d_LC ["text","kinds"] (sp_LC K a):=by
 refine T.dv.u.ok uy (λAp A outer s H vs Q E hr h=>?_);have hu1:=tM hr;obtain⟨l,m,rfl,hl,hm,hlm,q⟩:=h;refine⟨_,(lW (mK (i:=2) uy.nd (qi (lM (mG (Zrc T) (hM hr) rfl T.cW mi (lM (pv 0) lQ)) lQ)))
  (lW (mK (i:=3) uy.nd (qi (lM (on (l:=[]) nofun) lQ)))
  (lW (mK (i:=4) uy.nd (Zjy hu1 (ph (u8 (K:=K) rfl) (pv 2) me (λ_ _=>rfl)) me))
  (lW (mK (i:=5) uy.nd (qi lQ))
  (mE (lW (C5 oq (m9 xO (mZ (nU (K:=K) rfl) rfl T.cK nR (lM (pv 5) lQ)) (mZ (nU (K:=K) rfl) rfl T.cK nR (lM (pv 2) lQ)) (mV _))
  (lW (mK (i:=6) uy.nd (mZ (nU (K:=K) rfl) rfl T.cK nR (lM (pv 5) lQ)))
  (lW (mK (i:=7) uy.nd vg)
  (lW (oJ oq rfl (uf (pv 1)) (m7 (i:=8) uy.nd rfl (Or.inl rfl))
  (lW (mK (i:=9) uy.nd (mG (Zrf T) (hM hr) rfl T.cS mi (lM (pv 0) (lM (ph (u8 (K:=K) rfl) (pv 2) (pv 6) (λ_ _=>rfl)) (lM (pv 8) lQ)))))
  (mE (lW (nA (PW.pt (uw (m9 tw (mZ (nU (K:=K) rfl) rfl T.cK nR (lM (pv 9) lQ)) me (mV _)) (uM (yH (CY hu1 (pv 9) (pv 4)))))) (lW (tQ hu1 (pv 4) (pv 9) (mZ (nU (K:=K) rfl) rfl T.cK nR (lM (pv 2) lQ)) rfl)
  (lW (oG (rj rn tK tG sE (pv 2) (lM (pv 9) lQ)))
  (lY (oG (rj rn tK tG sE (pv 3) (lM (mJ qB (ph (u8 (K:=K) rfl) (pv 3) (pv 6) (λ_ _=>rfl)) (pv 8)) lQ)))))) nD)
  (mE (lY (nA (m9 tw (mZ (nU (K:=K) rfl) rfl T.cK nR (lM (pv 9) lQ)) me (mV _)) (lY (tQ hu1 (pv 7) (pv 8) (sB hu1 (pv 4) (pv 9) (λ_ _=>rfl)) rfl)) nD)))))))
  (mE (lY (oG (rj rn tK tG sE (pv 5) (lM (qQ (lM (ph (u8 (K:=K) rfl) (pv 3) (pv 6) (λ_ _=>rfl)) (lM (pv 7) lQ))) lQ)))))))))
  (lY (mN (pv 5))))))))),?_⟩
 have sz:∀k:Nat,k<=2000->k<=sizeLine:=λk h=>mO h (by rw[sizeLine_eq];decide);omega;refine⟨l,rfl,hl,λt0 H1 s1 n1 h1=>⟨sz _ ⋯,fY.of λps H2 s2 n2 h2=>⟨sz _ ⋯,fY.of λpw H3 s3 n3 h3=>?_⟩⟩⟩;intro pn nn;have npw:ps≠pw:=mM h2 n3;have npn:ps≠pn:=mM (s3 _ _ h2) nn;have nwn:pw≠pn:=mM h3 nn;have s4:e8 H3 (upd H3 pn (.dT [])):=oR nn;have h4:upd H3 pn (.dT []) pn=some (.dT []):=mq;generalize upd H3 pn (.dT [])=H4 at s4 h4;have fH:H ps=none:=s1.free n2;have fW:H pw=none:=(s1.trans s2).free n3;have fN:H pn=none:=(s1.trans (s2.trans s3)).free nn;have k0:H4 t0=some (.tup ((fZ (pN l)).map kV)):=by rw[Dw];exact(s2.trans (s3.trans s4)) _ _ h1
 refine⟨ps,_,_,.ref t0,rfl,rfl,.mk ((s3.trans s4) _ _ h2),rfl,t0,fZ (pN l),rfl,k0,h4,nO _,?_⟩;have S5:e8 H (upd H4 pn (.dT [(fZ (pN l),.int 0)])):=fq (s1.trans (s2.trans (s3.trans s4))) fN;have R5:gZ (upd H4 pn (.dT [(fZ (pN l),.int 0)])) ps pw pn l [pN l] [[]] [t0]:=by
  refine⟨by rw[lR npn];exact(s3.trans s4) _ _ h2,by rw[lR nwn];exact s4 _ _ h3,mq,rfl,?_,rfl,?_,{},rfl⟩
  .intro i t s h5 h6;have hi:i=0:=by have:=(mX.mp h6).1;simpa using this
   subst hi;simp at h5 h6;rw[<-h5,<-h6,lR (λz=>by rw[z,h4]at k0;cases k0)];exact(s2.trans (s3.trans s4)) _ _ h1
  .intro i w s h5 h6;have hi:i=0:=by have:=(mX.mp h6).1;simpa using this
   subst hi;simp at h5 h6;rw[h5,<-h6];exact⟨(EG l).symm,mj.nil l⟩
 generalize upd H4 pn (.dT [(fZ (pN l),.int 0)])=H5 at S5 R5;refine fY.of λpr H6 s6 n6 h6=>ou ?_;have fR:H pr=none:=S5.free n6;have nsr:ps≠pr:=mM R5.hs n6;have nwr:pw≠pr:=mM R5.hw n6;have nnr:pn≠pr:=mM R5.hn n6;omega;refine gy.by (λU H'=>∃(sp ws:lX) (ts:List AD) (ys:IJ) (v6 v7 v8 v9:Option V),U=[some (tx l),some (tx m),some (.ref ps),some (.ref pw),some (.ref pn),some (.ref pr),v6,v7,v8,v9]/\e8 H H'/\gZ H' ps pw pn l sp ws ts/\H' pr=some (.lst ys)/\ys.length<=sp.length/\∀i y,ys[i]?=some y->gh H' (λ_=>True) l m sp i y) (λU H'=>match H' pr with | some (.lst xs)=>2000-xs.length | _=>0) ⟨[pN l],[[]],[t0],[],_,_,_,_,rfl,S5.trans s6,R5.same s6,h6,{},λi y e=>by simp at e⟩ ?_
 rintro U H7 ⟨sp,ws,ts,ys,v6,v7,v8,v9,rfl,S7,R7,r7,le7,rm7⟩;refine⟨decide (ys.length<sp.length),λQ' hq=>?_,λH8 s8=>?_⟩
 .omega;refine⟨_,_,rfl,.inl ⟨_,.mk r7,rfl⟩,_,_,rfl,.inl ⟨_,.mk R7.hs,rfl⟩,?_⟩;have e:decide (((ys.length:Nat):Int)<((ts.map V.ref).length:Nat))=decide (ys.length<sp.length):=by
   rw[lZ,R7.tl,pO,Iz,Iz]
   lia
  rw[e];exact hq H7 (e8.refl _)
 .have R8:=R7.same s8;have r8:=s8 _ _ r7;have S8:=S7.trans s8;have rm8:∀i y,ys[i]?=some y->gh H8 (λ_=>True) l m sp i y:=λi y e=>(rm7 i y e).same s8;refine fT (λh=>?_) (λh=>?_)
  .have A0:=IC h;have hle:=R8.le hl;obtain⟨sr,hsr⟩:∃sr,sp[ys.length]?=some sr:=⟨_,mT A0⟩;obtain⟨wr,hwr⟩:∃wr,ws[ys.length]?=some wr:=⟨_,mT (by rw[R8.wl];exact A0)⟩;obtain⟨esr,hIr⟩:=R8.wt _ _ _ hwr hsr;have lsr:sr.length<=41:=by rw[esr];have:=HR l wr;lia
   have lwr:wr.length<=40:=by have:=hIr.len;lia
   omega;refine⟨_,_,rfl,.inl ⟨_,.mk r8,rfl⟩,?_⟩;intro pd nd8;have fD:H pd=none:=S8.free nd8;have dsp:ps≠pd:=mM R8.hs nd8;have dwp:pw≠pd:=mM R8.hw nd8;have dnp:pn≠pd:=mM R8.hn nd8;have drp:pr≠pd:=mM r8 nd8;have s9:e8 H8 (upd H8 pd (.dK [])):=oR nd8;have d9:upd H8 pd (.dK []) pd=some (.dK []):=mq;have rm9:∀i y,ys[i]?=some y->gh (upd H8 pd (.dK [])) (λd=>d≠pd) l m sp i y:=λi y e=>((rm8 i y e).mono λd kvs hd _=>mM hd nd8).same s9;generalize upd H8 pd (.dK [])=H9 at s9 d9 rm9;refine⟨m,rfl,fA.text (λk U H'=>∃(sp ws:lX) (ts:List AD) (v8 v9:Option V) (kvs:List (mh×V)),U=[some (tx l),some (tx m),some (.ref ps),some (.ref pw),some (.ref pn),some (.ref pr),some (.int ((ys.length:Nat):Int)),some (.ref pd),v8,v9]/\e8 H H'/\gZ H' ps pw pn l sp ws ts/\H' pr=some (.lst ys)/\(∀i y,ys[i]?=some y->gh H' (λd=>d≠pd) l m sp i y)/\H' pd=some (.dK kvs)/\kvs.length<=k/\sp[ys.length]?=some sr/\ws[ys.length]?=some wr/\(∀c∈m.take k,uZ l sp sr c (fh kvs (lV [c])))/\∀c,c∉m.take k->fh kvs (lV [c])=none) ⟨sp,ws,ts,_,_,[],rfl,S8.trans s9,R8.same s9,s9 _ _ r8,rm9,d9,mC _,hsr,hwr,λc h=>by simp at h,λc _=>rfl⟩ ?_ ?_⟩
   .clear rm9 rm8 rm7 R8 R7 hsr hwr le7 A0 h hle;rintro k c U H10 hc ⟨sp,ws,ts,v8,v9,kvs,rfl,S10,R10,r10,rm10,d10,kl,hsr,hwr,wy,wn⟩;have hk:k<m.length:=(mX.mp hc).1;have A0:ys.length<sp.length:=(mX.mp hsr).1;have hle:=R10.le hl;obtain⟨tr,htr⟩:∃tr,ts[ys.length]?=some tr:=⟨_,mT (by rw[R10.tl];exact A0)⟩;have et:m.take (k+1)=m.take k++[c]:=vT hc;have atr:pC (ts.map V.ref) ((ys.length:Nat):Int)=some (.ref tr):=by unfold pC rA;rw[lU ∅,lU (by rw[lZ,R10.tl];lia),sj,ve,om,htr];rfl
    have atw:∀ {ws:lX},ws[ys.length]?=some wr->pC (ws.map tx) ((ys.length:Nat):Int)=some (tx wr):=λ{ws} h=>by have hw:=(mX.mp h).1;unfold pC rA;rw[lU ∅,lU (by rw[lZ];lia),sj,ve,om,h];rfl
    omega;refine⟨ps,_,_,.ref tr,rfl,rfl,.mk R10.hs,atr,l,sr,c,tr,rfl,hl,R10.tt _ _ _ htr hsr,lsr,λtb H11 s11 n11 h11=>ou ?_⟩;have R11:=R10.same s11;have S11:=S10.trans s11;have bsn:pH l sr c=pP l (wr++[c]):=by rw[esr,A8]
    have blen:(pH l sr c).length<=41:=by rw[bsn];have:=HR l (wr++[c]);lia
    have hbk:H11 tb=some (.tup ((fZ (pH l sr c)).map kV)):=by rw[Dw];exact h11
    omega;refine⟨_,_,rfl,.inr ⟨_,.mk h11,rfl⟩,?_⟩;rw[lZ];have r11:=s11 _ _ r10;have d11:=s11 _ _ d10;have rm11:∀i y,ys[i]?=some y->gh H11 (λd=>d≠pd) l m sp i y:=λi y e=>(rm10 i y e).same s11;apply Zie (C:=λH12=>∃(sp' ws':lX) (ts':List AD),e8 H H12/\gZ H12 ps pw pn l sp' ws' ts'/\H12 pr=some (.lst ys)/\(∀i y,ys[i]?=some y->gh H12 (λd=>d≠pd) l m sp' i y)/\H12 pd=some (.dK kvs)/\sp'[ys.length]?=some sr/\ws'[ys.length]?=some wr/\(∀c∈m.take k,uZ l sp' sr c (fh kvs (lV [c])))/\H12 tb=some (.tup ((fZ (pH l sr c)).map kV))/\(pH l sr c=[]\/pH l sr c∈sp'))
    .intro tail;refine fT (λh=>?A) (λh=>?C)
     case C=>
      have e0:pH l sr c=[]:=yd (by have:=IE (rE.mpr h);lia);obtain⟨H12,e12⟩:∃H12,H12=H11:=⟨_,rfl⟩;rw[<-e12];refine fS ?_;exact tail H12 (by rw[e12];exact⟨sp,ws,ts,S11,R11,r11,rm11,d11,hsr,hwr,wy,hbk,.inl e0⟩)
     case A=>
      have hne:pH l sr c≠[]:=λe=>by rw[e]at h;simp at h
      refine⟨pn,_,rfl,.inr ⟨gF sp,fZ (pH l sr c),tb,.inl R11.hn,rfl,hbk,rfl⟩,?_⟩;by_cases hin:pH l sr c∈sp
      .obtain⟨j,hj⟩:=List.mem_iff_getElem?.mp hin;rw[Ik R11.nd hj];exact fS (tail H11 ⟨sp,ws,ts,S11,R11,r11,rm11,d11,hsr,hwr,wy,hbk,.inr hin⟩)
      .rw[Hw hin];refine gJ ⟨_,_,rfl,.inl ⟨_,.mk R11.hs,rfl⟩,?_⟩;rw[lZ,R11.tl];have lt2:∀n,n<=1681->n<sizeLine:=λn h=>ot (show n<2000 by lia) (sz 2000 (mC _));have hps:upd H11 pn (.dT (fz (gF sp) (fZ (pH l sr c)) (.int (sp.length:Int)))) ps=some (.lst (ts.map V.ref)):=by rw[lR npn];exact R11.hs
       refine⟨pn,_,rfl,gO.t R11.hn hbk (by rw[Fs];exact lt2 _ hle),.inl ⟨rfl,_,.mk hps⟩,ps,_,_,rfl,rfl,hps,by rw[lZ,R11.tl];exact lt2 _ hle,?_⟩;have hpw:upd (upd H11 pn (.dT (fz (gF sp) (fZ (pH l sr c)) (.int (sp.length:Int))))) ps (.lst (ts.map V.ref++[.ref tb])) pw=some (.lst (ws.map tx)):=by rw[lR (mH npw),lR nwn];exact R11.hw
       refine⟨.inl ⟨rfl,_,.mk hpw⟩,pw,_,_,_,rfl,rfl,.mk hpw,atw hwr,?_⟩;bv_omega;refine⟨sz _ ∅,pw,_,_,rfl,rfl,hpw,by rw[lZ,R11.wl];exact lt2 _ hle,?_⟩;have P:=R11.push npw npn nwn h11 hin bsn (DL.mp (by rw[<-bsn];exact hne));refine tail _ ⟨_,_,_,fq (fq (fq S11 fN) fH) fW,P,?_,?_,?_,?_,?_,λc' h'=>(wy c' h').more,?_,.inr {}⟩
       .rw[lR (mH nwr),lR (mH nsr),lR (mH nnr)];exact r11
       .intro i y e;have a1:=(rm11 i y e).other (o:=.dT (fz (gF sp) (fZ (pH l sr c)) (.int (sp.length:Int)))) R11.hn (λxs z=>by cases z) (λd _=>.inr λkvs z=>by cases z);have a2:=a1.other (o:=.lst (ts.map V.ref++[.ref tb])) hps (λxs z=>by cases z) (λd _=>.inr λkvs z=>by cases z);exact(a2.other hpw (λxs z=>by cases z) (λd _=>.inr λkvs z=>by cases z)).more
       .rw[lR (mH dwp),lR (mH dsp),lR (mH dnp)];exact d11
       .rw[py A0];exact hsr
       .rw[py (by rw[R11.wl];exact A0)];exact hwr
       .rw[lR (λz=>by rw[z,R11.hw]at hbk;cases hbk),lR (λz=>by rw[z,R11.hs]at hbk;cases hbk),lR (λz=>by rw[z,R11.hn]at hbk;cases hbk)];exact hbk
    .rintro H12 ⟨sp',ws',ts',S12,R12,r12,rm12,d12,hsr',hwr',wy',hb12,hin⟩;ac_rfl;refine⟨_,_,rfl,.inr ⟨_,.mk hb12,rfl⟩,?_⟩;rw[Dw,lZ];have tk:∀c',c'∈m.take (k+1)->c'∈m.take k\/c'=c:=λc' h'=>by
      rw[et]at h';rcases nJ.mp h' with z | z
      .exact .inl z
      .exact .inr (mU.mp z)
     have tn:∀c',c'∉m.take (k+1)->c'∉m.take k/\c'≠c:=λc' h'=>by rw[et]at h';exact⟨λz=>h' (wv _ z),λz=>h' (by rw[z];simp)⟩
     refine fT (λh=>?_) (λh=>?_)
     .have hne:pH l sr c≠[]:=λe=>by rw[e]at h;simp at h
      obtain⟨j,hj⟩:=List.mem_iff_getElem?.mp (hin.resolve_left hne);refine⟨pn,.int (j:Int),rfl,.inr ⟨gF sp',fZ (pH l sr c),tb,.inl R12.hn,rfl,hb12,(Ik R12.nd hj).symm⟩,pd,_,rfl,gO.k (k:=lV [c]) d12 (ot (show _<2000 by lia) (sz 2000 (mC _))),?_⟩;refine⟨sp',ws',ts',_,_,fz kvs (lV [c]) (.int (j:Int)),rfl,fq S12 fD,R12.other d12 (λxs z=>by cases z) dsp dwp dnp,by rw[lR drp];exact r12,λi y e=>(rm12 i y e).other d12 (λxs z=>by cases z) (λd hd=>.inl hd),mq,by have:=sg kvs (lV [c]) (.int (j:Int));lia,hsr',hwr',λc' h'=>?_,λc' h'=>?_⟩
      .rw[qv];by_cases ec:c'=c
       .rw[lU (by rw[ec]),ec];exact .inr ⟨hne,j,hj,rfl⟩
       .rw[lT (λz=>ec (kTx1.mp z))];exact wy' c' ((tk c' h').resolve_right ec)
      .have hh:=tn c' h';rw[qv,lT (λz=>hh.2 (kTx1.mp z))];exact wn c' hh.1
     .have e0:pH l sr c=[]:=yd (by have:=IE (rE.mpr h);lia);refine⟨sp',ws',ts',_,_,kvs,rfl,S12,R12,r12,rm12,d12,∅,hsr',hwr',λc' h'=>?_,λc' h'=>wn c' (tn c' h').1⟩;by_cases hc':c'∈m.take k
      .exact wy' c' hc'
      .have ec:=(tk c' h').resolve_left hc';exact .inl ⟨by rw[ec];exact e0,wn c' hc'⟩
   .clear rm9 rm8 rm7 R8 R7 hsr hwr le7 A0 h hle;rintro U H10 ⟨sp,ws,ts,v8,v9,kvs,rfl,S10,R10,r10,rm10,d10,kl,hsr,hwr,wy,wn⟩;have A0:ys.length<sp.length:=(mX.mp hsr).1;have hle:=R10.le hl;rw[pK]at wy;have atw:pC (ws.map tx) ((ys.length:Nat):Int)=some (tx wr):=by have hw:=(mX.mp hwr).1;unfold pC rA;rw[lU ∅,lU (by rw[lZ];lia),sj,ve,om,hwr];rfl
    walk_at "k";refine⟨.inl ⟨rfl,_,.mk r10⟩,pw,_,_,_,rfl,rfl,.mk R10.hw,atw,sz _ ⋯,gB.of λpt H11 s11 n11 h11=>⟨pr,_,_,rfl,rfl,s11 _ _ r10,ot (show _<2000 by lia) (sz 2000 (mC _)),?_⟩⟩;have r11:=s11 _ _ r10;refine⟨⟨sp,ws,ts,ys++[.ref pt],_,_,_,_,rfl,fq (S10.trans s11) fR,(R10.same s11).other r11 (λxs z=>by cases z) nsr nwr nnr,mq,by rw[mP,oC];lia,λi y e=>?_⟩,?_⟩
    .by_cases ci:i<ys.length
     .rw[py ci]at e;exact(((rm10 i y e).same s11).mono λ_ _ _ _=>trivial).other r11 (λxs z=>by cases z) (λd _=>.inr λkvs z=>by cases z)
     .have hi:i=ys.length:=by have:=(mX.mp e).1;rw[mP,oC]at this;lia
      subst hi;rw[qu ∅]at e;simp at e;refine⟨pt,pd,wr,kvs,e.symm,?_,?_,trivial,hIr,hIr.len,by rw[<-esr];exact hsr,λc hc=>by rw[<-esr];exact wy c hc⟩
      .rw[lR (λz=>by rw[z,r11]at h11;cases h11)];exact h11
      .rw[lR (mH drp)];exact s11 _ _ d10
    .show (match upd H11 pr (HO.lst (ys++[V.ref pt])) pr with | some (.lst xs)=>2000-xs.length | _=>0)<_;rw[mq,r7];show 2000-(ys++[V.ref pt]).length<2000-ys.length;rw[mP,oC]
     lia
  .have e:ys.length=sp.length:=by have:=IE (rE.mpr h);lia
   omega;refine q pr sp ys H8 S8 fR r8 ⟨R8.f0,e,R8.nd,λi y hy=>?_⟩;obtain⟨t,d,w,kvs,a1,a2,a3,_,a4⟩:=rm8 i y hy;exact⟨t,d,w,kvs,a1,a2,.inl a3,a4⟩
def GN:fB P w K mg base mS 2 a.f_L3 a.d_L3 ["lesser","longer"] (sp_L3 K a):=by
 refine T.d8.u.ok CW (λAp A outer s H vs Q E hr h=>?_);obtain⟨s_,L,rfl,hL,ex,tk,q⟩:=h;refine⟨_,(lW (mK (i:=2) CW.nd (qi lQ))
  (mE (lW (oJ oq rfl (zR rfl T.cU (lM me (lM (mJ pj (mZ (nU (K:=K) rfl) rfl T.cK nR (lM (pv 1) lQ)) me) lQ))) (m7 (i:=3) CW.nd rfl (Or.inl rfl))
  (lW (oG (rj rn tK tG sE (pv 2) (lM (oF oM (pv 1) o5 (nX (pv 3))) lQ)))
  (lY (oG (rj rn tK tG sE (pv 2) (lM (oF oM (pv 1) (nX (mJ Cq (mZ (nU (K:=K) rfl) rfl T.cK nR (lM (pv 1) lQ)) (pv 3))) o5) lQ))))))
  (mE (lY (mN (mG (zY T) (hM hr) rfl T.cP mi (lM (mZ (B7 rfl) rfl T.dB Co (lM (sK (Da rfl) rfl T.eP BF (lM (qz (N:=["word","lesser"]) (ix:=[none,some 0]) rfl (pY rfl) rfl (pB (K:=K) rfl (pv 2)) (λ_ _ _ _=>(m7 (i:=0) (show (["word","lesser"]:AJ).Nodup from by decide +kernel) rfl (Or.inl rfl) (Or.inr rfl))) (λ_ _ _ _=>(um (m9 Fe (pv 0) (pv 1) rfl))) (λ_ _ _ _=>(pv 0))) lQ)) lQ)) lQ)))))))),?_⟩
 omega;refine⟨nO _,fY.of λpe H1 s1 ne le=>?_⟩;ac_rfl;refine⟨_,_,rfl,qD ∅,_,_,rfl,⟨⋯,⋯,∅,∅⟩,?_⟩;have ej:((L.length:Int)+1-1).toNat=L.length:=by lia
 rw[ej];refine fA.range (λi U H'=>∃v3,U=[some (tx s_),some (tx L),some (.ref pe),v3]/\e8 H H'/\H' pe=some (.lst ((qo L i).map tx))) ⟨_,rfl,s1,le⟩ ?_ ?_
 .rintro i U H2 hi ⟨v3,rfl,s2,h2⟩;have el:=zK L i;have e1:(1+(i:Int))=((i+1:Nat):Int):=by lia
  have e2:(L.length:Int)-(1+(i:Int))=((L.length-(i+1):Nat):Int):=by lia
  omega;refine⟨.inl ⟨rfl,_,.mk h2⟩,_,rfl,L,rfl,sz _ ∅,pe,_,_,rfl,rfl,h2,by rw[lZ];exact sz _ ∅,.inl ⟨rfl,_,.mk mq⟩,_,_,rfl,qD ∅,_,rfl,L,rfl,sz _ ∅,pe,_,_,rfl,rfl,mq,by rw[mP,lZ];exact sz _ (by rw[oC];lia),_,rfl,?_,?_⟩
  .exact fq (fq s2 ne) ne
  .rw[mq,e1,wX,<-e1,e2,vG,Gr,qj,pQ];rfl
 .rintro U H2 ⟨v3,rfl,s2,h2⟩;walk_at "k";have el:=zK L L.length;refine⟨pe,rfl,⟨_,.mk h2⟩,fk.listM (xs:=(qo L L.length).map tx) (λi=>!gc ((qo L L.length).getD i []) s_) (λi=>tx ((qo L L.length).getD i [])) (by rw[lZ];lia) (.mk h2) ?_ ?_ ?_⟩
  .intro i H3 Q3 hi s3 q3;rw[lZ]at hi;rw[tJ hi];omega;exact⟨_,_,rfl,rfl,q3 H3 (e8.refl _)⟩
  .intro i H3 Q3 hi _ s3 q3;rw[lZ]at hi;rw[tJ hi];omega;exact q3 H3 (e8.refl _)
  .intro p3 H3 s3 n3 l3;have eh:((List.range ((qo L L.length).map tx).length).filter λi=>!gc ((qo L L.length).getD i []) s_).map (λi=>tx ((qo L L.length).getD i []))=((qo L L.length).filter λv=>!gc v s_).map tx:=by rw[lZ,<-Be (λv=>!gc v s_) [] (qo L L.length),oX];rfl
   rw[eh]at l3;have fl:=pW (λv=>!gc v s_) (qo L L.length);generalize hF:(qo L L.length).filter (λv=>!gc v s_)=F0 at l3 fl;have mF:∀w,w∈F0↔pi s_ L w:=λw=>by rw[<-hF,pD,G0,EE ex,Bool.not_eq_true',BP]
   have dl:=FQ F0;refine⟨F0,∅,.inr ⟨p3,rfl,.mk l3⟩,λp4 n4=>⟨p4,_,rfl,mq,sz _ ∅,fY.of λp5 H5 s5 n5 l5=>?_⟩⟩;have s25:e8 H H5:=s2.trans (s3.trans ((oR n4).trans s5));have pm0:=u0 (pz F0);refine⟨p5,_,rfl,l5,λw hw=>?_,tk.same s25,λws r H6 pm pw sl tk6 nr lr=>?_⟩
   .have:=((mF w).mp (CI.mp (pm0.mem_iff.mp hw))).1.len
    lia
   .refine q ws r H6 (Dd pm pw (pm0.nodup_iff.mpr (ZjN F0))) (λw=>?_) (λb o e t=>sl _ _ (s25 _ _ e) t) tk6 ((Nw.of nr).same s25) lr;rw[pm.mem_iff,pm0.mem_iff,CI,mF]
def ZqU:fB P w K mg base mS 2 a.f_LS a.d_LS ["_law_cell"] (sp_LS K a):=by
 refine T.d0.u.ok xI (λAp A outer s H vs Q E hr h=>?_);obtain⟨c,rfl,q⟩:=h;refine⟨_,(lW (mK (i:=1) xI.nd (mJ pI (mG (qA T) (hM hr) rfl T.cM mi (lM (pv 0) (lM me lQ))) me))
  (lW (mK (i:=2) xI.nd (ph yM (on (l:=[97,98,99,100,101,102,103,104]) nofun) (pv 1) (λ_ _=>rfl)))
  (lW (oJ oq rfl (xA rfl T.cU (lM (mJ pI (mG (qA T) (hM hr) rfl T.cM mi (lM (pv 0) (lM me lQ))) me) lQ)) (m7 (i:=3) xI.nd rfl (Or.inl rfl))
  (lW (mK (i:=1) xI.nd (mJ pj (mJ pj (pv 1) me) (mJ pI (mG (qA T) (hM hr) rfl T.cM mi (lM (pv 0) (lM (mJ pj me (pv 3)) lQ))) me)))
  (lY (mK (i:=2) xI.nd (mJ qB (pv 2) (ph yM (on (l:=[97,98,99,100,101,102,103,104,105,106,107,108,109,110,111,112,113,114,115,116,117,118,119,120,121,122]) nofun) (pv 1) (λ_ _=>rfl)))))))
  (lY (mN (pv 2)))))),?_⟩
 have sz:∀k:Nat,k<=1000->k<=sizeLine:=λk h=>mO h (by rw[sizeLine_eq];decide);omega;refine⟨_,_,rfl,λr0 h0=>?_⟩;bv_omega;have g1:=uE r0 (show (8:Int)≠0 by decide);have g2:=u9 r0 (show (0:Int)<8 by decide);generalize r0 % 8=a0 at g1 g2;refine⟨⋯,[97,98,99,100,101,102,103,104],_,_,rfl,rfl,sz _ ⋯,FR ∅ (by show _<(8:Int);lia),_,_,rfl,λr1 h1=>?_⟩;rw[Zns _ ∅];bv_omega;refine⟨⋯,_,rfl,∅,∅,fA.range (λi U H'=>H'=H/\∃(at_:Int) (f:lN) (v3:Option V),U=[some (.int c),some (.int at_),some (tx f),v3]/\0<=at_/\at_<=7+6*i/\f.length=i+1/\f.Pairwise (· < ·)/\∀x∈f,97<=x/\x<=97+at_.toNat) ⟨rfl,_,_,_,rfl,∅,∅,rfl,{},{}⟩ ?_ ?_⟩
 .rintro i U H1 hi ⟨rfl,at_,f,v3,rfl,b0,b1,fl,fp,fm⟩;omega;refine⟨_,_,rfl,λr2 h2=>?_⟩;bv_omega;have g3:=uE r2 (show (6:Int)≠0 by decide);have g4:=u9 r2 (show (0:Int)<6 by decide);generalize r2 % 6=a2 at g3 g4;refine⟨⋯,qY,_,_,rfl,rfl,sz _ ⋯,FR ∅ (by show _<(26:Int);lia),sz _ ∅,by trivial,_,_,_,rfl,∅,∅,by simp[fl],?_,?_⟩
  .rw[Fi _ ∅,sZ];refine⟨fp,{},λx hx y hy=>?_⟩;rw[mU.mp hy];have:=fm x hx
   lia
  .intro x hx;rw[Fi _ ∅]at hx;rcases nJ.mp hx with z | z
   .have:=fm x z;lia
   .rw[mU.mp z];lia
 .rintro U H1 ⟨rfl,at_,f,v3,rfl,b0,b1,fl,fp,fm⟩;omega;exact q f (Zpq ∅ ∅ (λx hx=>Zln (fm x hx).1 (by have:=(fm x hx).2;lia)) fp) ∅ ∅
def Es:fB P w K mg base mS 2 a.f_L1 a.d_L1 ["_law_cell","_law_by_digits","_law_kinds_here","_law_many"] (sp_L1 K a):=by
 refine T.em.u.ok u5 (λAp A outer s H vs Q E hr h=>?_);have As:=hr.units;obtain⟨c,d,m,n,rfl,hm,h4,h0,h1,q⟩:=h;refine⟨_,(lW (mK (i:=4) u5.nd (on (l:=[]) nofun))
  (lW (mK (i:=5) u5.nd (pv 0))
  (lW (oJ oq rfl (xA rfl T.cU (lM (pv 3) lQ)) (m7 (i:=6) u5.nd rfl (Or.inl rfl))
  (lW (mK (i:=7) u5.nd (pv 5))
  (lW (nA (PW.pt (rm (rF (o8 (pv 1))) (rm (m9 (oU (K:=K) rfl As) (pv 5) me (mV _)) (uP (m9 (oU (K:=K) rfl As) (pv 5) (A9 A5 me) (mV _)))))) (lY (mK (i:=7) u5.nd (mG (qA T) (hM hr) rfl T.cM mi (lM (pv 0) (lM (mJ pj me (pv 6)) lQ))))) nD)
  (mE (lW (mK (i:=4) u5.nd (mJ qB (pv 4) (ph yM (pv 2) (mJ pI (pv 7) (mZ (nU (K:=K) rfl) rfl T.cK nR (lM (pv 2) lQ))) (λ_ _=>rfl))))
  (lY (mK (i:=5) u5.nd (mJ Znd (pv 5) (mZ (nU (K:=K) rfl) rfl T.cK nR (lM (pv 2) lQ))))))))))
  (lY (mN (pv 4)))))),?_⟩
 omega;refine⟨n,rfl,∅,∅,fA.range (λi U H'=>H'=H/\∃(f:lN) (le:Int) (v6 v7:Option V),U=[some (.int c),some (.bl d),some (tx m),some (.int n),some (tx f),some (.int le),v6,v7]/\f.length=i/\∀x∈f,x∈m) ⟨rfl,[],c,none,none,rfl,rfl,{}⟩ ?_ ?_⟩
 .rintro i U H1 hi ⟨rfl,f,le,v6,v7,rfl,hf,fm⟩;have hM:m.length<=1000:=by lia
  have sz:m.length<=sizeLine:=mO hM (by rw[sizeLine_eq];decide);have sf:f.length+1<=sizeLine:=by rw[sizeLine_eq];lia
  have pm:(0:Int)<m.length:=by lia
  have cd:CDiv le m.length:=⟨pm,∅⟩;omega;apply EJ (C:=λ_=>True)
  .intro tail;refine fT (λh=>iY ⟨_,_,rfl,λr hr=>tail r trivial⟩) (λh=>.inl ⟨rfl,fT (λh=>iY ⟨_,_,rfl,λr hr=>tail r trivial⟩) (λh=>.inl ⟨rfl,fT (λh=>⟨_,_,rfl,λr hr=>tail r trivial⟩) (λh=>tail le trivial)⟩)⟩)
  .intro nu _;ac_rfl;obtain⟨cc,hcc,mc⟩:=D6 (xs:=m) (i:=nu % m.length) (uE _ ∅) (u9 _ pm);exact⟨_,_,rfl,qD hM,pm,m,_,cc,rfl,rfl,sz,hcc,sf,_,_,rfl,qD hM,cd,by trivial,_,_,_,_,rfl,by simp[hf],λx hx=>(nJ.mp hx).elim (λz=>fm x z) λz=>by rw[mU.mp z];exact mc⟩
 .rintro U H1 ⟨rfl,f,le,v6,v7,rfl,hf,fm⟩;omega;exact q f ∅ fm
def Ek:fB P w K mg base mS 2 a.f_LL a.d_LL ["_law_texts","_law_kinds_here"] (sp_LL K a):=by
 refine T.dk.u.ok vK (λAp A outer s H vs Q E hr h=>?_);have hu1:=tM hr;obtain⟨b,ls,m,rfl,hb,ok,l2,l40,q⟩:=h;refine⟨_,(lW (mK (i:=2) vK.nd vg)
  (lW (oJ oq rfl (pB (K:=K) rfl (pv 0)) (m7 (i:=3) vK.nd rfl (Or.inl rfl))
  (lY (oG (Zit (pv 2) (mG (Zrj T) (hM hr) rfl T.dc mi (lM (pv 3) lQ)) ⟨rfl,rfl,rfl,rfl⟩))))
  (mE (lW (mK (i:=4) vK.nd (qi lQ))
  (lW (xz (oJ oq rfl (x9 (pv 2)) (m7 (i:=5) vK.nd rfl (Or.inl rfl))
  (lY (oJ oq rfl (uf (pv 1)) (m7 (i:=6) vK.nd rfl (Or.inl rfl))
  (mE (lW (mK (i:=7) vK.nd (mJ qB (pv 5) (pv 6)))
  (lY (nA (PW.pt (uw (yH (CY hu1 (pv 7) (pv 2))) (uM (yH (Hq hu1 (oF oM (pv 7) (nX me) o5) (pv 2)))))) (lY (oG (rj rn tK tG sE (pv 4) (lM (pv 7) lQ)))) nD))))))))
  (lY (mN (pv 4)))))))),?_⟩
 have sz:∀k:Nat,k<=100000->k<=sizeLine:=λk h=>mO h (by rw[sizeLine_eq];decide);have m4:=ok.m4;omega;intro p hp;have s1:e8 H (upd H p (.dK [])):=oR hp;have h1:upd H p (.dK []) p=some (.dK []):=mq;generalize upd H p (.dK [])=H1 at s1 h1;have hb1:=s1 _ _ hb;refine⟨b,rfl,⟨_,.mk hb1⟩,fA.list (xs:=ls.map tx) (λi U H'=>∃v3 kvs,U=[some (.ref b),some (tx m),some (.ref p),v3,none,none,none,none]/\e8 H H'/\H' p=some (.dK kvs)/\x4 (ls.take i) kvs/\kvs.length<=4000*i) ⟨_,[],rfl,s1,h1,⟨λ_ h=>(by cases h),λu=>⟨λh=>(by cases h),λ⟨l,hl,_⟩=>(by rw[sG]at hl;cases hl)⟩,List.nodup_nil⟩,mC _⟩ (λi U H' _ ⟨_,_,_,s',_⟩=>.mk (s' _ _ hb)) ?_ ?_⟩
 .rintro i x U H2 hx ⟨v3,kvs,rfl,s2,h2,k2,n2⟩;obtain⟨l,hl,rfl⟩:=uI hx;have il:=(mX.mp hl).1;omega;refine⟨p,rfl,.inl ⟨kvs,.inl h2⟩,l,rfl,l40 l (oW hl),λp2 more H3 s3 n3 h3 k3=>?_⟩;have ml:=k3.2.2;refine⟨p2,kvs,more,rfl,s3 _ _ h2,h3,mM h2 n3,sz _ ∅,_,oO kvs more,rfl,fq (s2.trans s3) hp,mq,?_,?_⟩
  .rw[uQ hl];exact k2.more k3
  .have:=vZ more kvs
   lia
 .rintro U H2 ⟨v3,kvs,rfl,s2,h2,kn,n2⟩;rw[lZ,pK]at kn;rw[lZ]at n2;omega;ac_rfl;refine⟨nO _,fY.of λpf H3 s3 n3 l3=>?_⟩;have ne:p≠pf:=mM h2 n3;have nfH:H pf=none:=s2.free n3;obtain⟨ss,hs⟩:∃ss:lX,ss.map lV=kvs.map (·.1):=FJ kn.key;have sl:ss.length=kvs.length:=by have:=IF List.length hs;simpa using this
  refine⟨p,kvs,s3 _ _ h2,p,kvs,rfl,s3 _ _ h2,λo=>fA.dict (λi U H'=>∃(v5 v6 v7:Option V),U=[some (.ref b),some (tx m),some (.ref p),v3,some (.ref pf),v5,v6,v7]/\e8 H H'/\H' p=some (.frz o (.dK kvs))/\H' pf=some (.lst (((ss.take i).flatMap (tD kvs m)).map tx))) ⟨_,_,_,rfl,fq (s2.trans s3) hp,mq,by rw[lR (mH ne)];exact l3⟩ (λi U H' ⟨_,_,_,_,_,h,_⟩=>h) ?_ ?_⟩
  .rintro i kv U H4 hkv ⟨v5,v6,v7,rfl,s4,h4,f4⟩;have hi:i<kvs.length:=(mX.mp hkv).1;obtain⟨x,hx⟩:∃x,ss[i]?=some x:=⟨_,mT ∅⟩;have ex:kv.1=lV x:=by have:=IF (λl=>l[i]?) hs;simp only[om,hx,hkv,yN]at this;exact(Option.some.inj this).symm
   have xl0:x.length<=60:=by
    have:qb ls x:=(kn.iff x).mp (by rw[wC (k:=lV x) (v:=kv.2) (i:=i) kn.nd (by rw[hkv,<-ex])];rfl)
    obtain⟨l,hl,hi⟩:=this;exact mO hi.len (l40 l hl)
   have fl:((ss.take i).flatMap (tD kvs m)).length<=40000:=by
    have:=xv (f:=tD kvs m) (b:=4) (λu=>by unfold tD;rw[lZ];exact mO (pW _ _) m4) (ss.take i);rw[nG]at this
    lia
   rw[ex,xD];omega;refine⟨m,rfl,fA.text (λj U H'=>∃(v6 v7:Option V),U=[some (.ref b),some (tx m),some (.ref p),v3,some (.ref pf),some (tx x),v6,v7]/\e8 H H'/\H' p=some (.frz o (.dK kvs))/\H' pf=some (.lst (((ss.take i).flatMap (tD kvs m)++((m.take j).filter (qN kvs x)).map λc=>x++[c]).map tx))) ⟨_,_,rfl,s4,h4,by rw[sG];simpa using f4⟩ ?_ ?_⟩
   .rintro j c U H5 hc ⟨v6,v7,rfl,s5,h5,f5⟩;have hj:j<m.length:=(mX.mp hc).1;have xl:(x++[c]).length<=61:=by rw[mP,oC];lia
    have fl2:((m.take j).filter (qN kvs x)).length<=4:=mO (pW _ _) (by rw[nG];lia);have tk:m.take (j+1)=m.take j++[c]:=by rw[x5,hc];rfl
    omega;ac_rfl;have no:qN kvs x c=false->((m.take (j+1)).filter (qN kvs x))=(m.take j).filter (qN kvs x):=λh=>by rw[tk,tO,vE,h];simp
    have c1:oH (x++[c]) (some 1) none=(x++[c]).drop 1:=vG (x++[c]) 1;refine⟨sz _ ∅,p,_,rfl,.inl ⟨kvs,lV (x++[c]),.inr ⟨o,h5⟩,rfl,rfl⟩,fT (λh=>?_) (λh=>?_)⟩
    .refine⟨_,rfl,x++[c],rfl,sz _ ∅,?_⟩;rw[c1];refine⟨p,_,rfl,.inl ⟨kvs,lV ((x++[c]).drop 1),.inr ⟨o,h5⟩,rfl,rfl⟩,fT (λh2=>?_) (λh2=>?_)⟩
     .have yes:qN kvs x c=true:=by unfold qN;rw[h,h2];rfl
      refine⟨.inl ⟨rfl,_,.mk f5⟩,pf,_,_,rfl,rfl,f5,by rw[lZ,mP,lZ];exact ot (show _<100000 by lia) (sz 100000 (mC _)),_,_,rfl,fq s5 nfH,by rw[lR ne];exact h5,?_⟩;rw[mq,tk,tO,vE,yes];simp
     .have n0:qN kvs x c=false:=by unfold qN;rw[rE.mpr h2,uv]
      exact⟨_,_,rfl,s5,h5,by rw[no n0];exact f5⟩
    .have n0:qN kvs x c=false:=by unfold qN;rw[rE.mpr h,rX]
     exact⟨_,_,rfl,s5,h5,by rw[no n0];exact f5⟩
   .rintro U H5 ⟨v6,v7,rfl,s5,h5,f5⟩;refine⟨_,_,_,rfl,s5,h5,?_⟩;rw[f5,pK,uQ hx,yE];simp[tD]
  .rintro U H4 ⟨v5,v6,v7,rfl,s4,h4,f4⟩;refine⟨o,kvs,h4,?_⟩;omega;rw[<-sl,pK]at f4;exact q pf _ (upd H4 p (.dK kvs)) (fq s4 hp) nfH (by rw[lR (mH ne)];exact f4) (Zlh ok kn hs)
def BK:fB P w K mg base mS 2 a.f_LI a.d_LI ["_law_words","_law_word"] (sp_LI K a):=by
 refine T.c8.u.ok Zqd (λAp A outer s H vs Q E hr h=>?_);have As:=hr.units;obtain⟨b,ws,w_,rfl,hb,hn,h41,hw,q⟩:=h;refine⟨_,(lY (mN (pV (oU (K:=K) rfl As) (qz (N:=["_law_one","_law_word"]) (ix:=[none,some 1]) rfl (pY rfl) rfl (pB (K:=K) rfl (pv 0)) (λ_ _ _ _=>(m7 (i:=0) (show (["_law_one","_law_word"]:AJ).Nodup from by decide +kernel) rfl (Or.inl rfl) (Or.inr rfl))) (λ_ _ _ _=>(um (o8 (mG (yo T) (hM hr) rfl T.cT mi (lM (pv 0) (lM (pv 1) lQ)))))) (λ_ _ _ _=>(pv 0))) (qi lQ) (mV _)))),?_⟩;omega;refine⟨b,rfl,⟨_,.mk hb⟩,fk.listM (xs:=ws.map tx) (λi=>gc (ws.getD i []) w_) (λi=>tx (ws.getD i [])) (by rw[lZ];lia) (.mk hb) ?_ ?_ ?_⟩
 .intro i H1 Q1 hi s1 q1;rw[lZ]at hi;rw[tJ hi];have hm:ws.getD i []∈ws:=by rw[nN,mT hi];exact rq hi
  have:=h41 _ hm;omega;exact⟨_,w_,rfl,∅,hw,q1 H1 (e8.refl _)⟩
 .intro i H1 Q1 hi _ s1 q1;rw[lZ]at hi;rw[tJ hi];omega;exact q1 H1 (e8.refl _)
 .intro p H1 s1 n1 l1;rw[lZ]at l1;refine⟨nO _,fY.of λp2 H2 s2 n2 l2=>Bx (xs:=((List.range ws.length).filter λi=>gc (ws.getD i []) w_).map λi=>ws.getD i []) (ys:=[]) (.mk (by rw[s2 _ _ l1,oX];rfl)) (.mk l2) ?_⟩;rw[Be (λp=>gc p w_) [] ws];have e:decide (ws.filter (λp=>gc p w_)=[])=rL ws w_:=by unfold rL;rw[pO,Iz,zI,Bool.not_eq_true',List.any_eq_false]
  rw[e];exact q H2 (s1.trans s2)
def Fo:fB P w K mg base mS 2 a.bI a.cD ["self","text","came","went"] (sp_KI K a):=by
 refine T.c5.u.ok Dq (λAp A outer s H vs Q E hr h=>?_);obtain⟨p,la,da,c,g,l,l2,m,old,new,ys,zs,rc,rg,rfl,hp,hla,hc,rwc,hg,rwg,ho,hn,nd,mc,mg_,lo,lc,lg,wo,wn,tk,q⟩:=h;refine⟨_,(mE (lW (yA (i:=4) Dq.nd rfl (Or.inr rfl) (qz (N:=["told"]) (ix:=[none]) rfl (pY rfl) rfl (pB (K:=K) rfl (pv 3)) (λ_ _ _ _=>(m7 (i:=0) (show (["told"]:AJ).Nodup from by decide +kernel) rfl (Or.inl rfl) (Or.inr rfl))) (λ_ _ _ _=>sL) (λ_ _ _ _=>(ph (sk (K:=K) rfl) (pv 0) me (λ_ _=>rfl)))))
  (mE (lW (CF (i:=5) (N:=["word","gone"]) (ix:=[none,some 4]) rfl Dq.nd rfl rfl rfl (pY rfl) rfl (pB (K:=K) rfl (o6 (K:=K) rfl (pv 0) rfl)) (λ_ _ _ _=>(m7 (i:=0) (show (["word","gone"]:AJ).Nodup from by decide +kernel) rfl (Or.inl rfl) (Or.inr rfl))) (λ_ _ _ _=>(um (m9 (Ds (K:=K) rfl) (pv 0) (pv 1) rfl))) (λ_ _ _ _=>(pv 0)))
  (mE (lW (uW (pv 0) (mG (zY T) (hM hr) rfl T.cP mi (lM (mJ Hl (pv 5) (qz (N:=["told"]) (ix:=[none]) rfl (pY rfl) rfl (pB (K:=K) rfl (pv 2)) (λ_ _ _ _=>(m7 (i:=0) (show (["told"]:AJ).Nodup from by decide +kernel) rfl (Or.inl rfl) (Or.inr rfl))) (λ_ _ _ _=>sL) (λ_ _ _ _=>(ph (sk (K:=K) rfl) (pv 0) me (λ_ _=>rfl))))) lQ)) rfl)
  (mE (lW (uW (pv 0) (pv 1) rfl)
  (lY (mN (qQ (lM (pv 2) (lM (pv 3) lQ))))))))))))),?_⟩
 have sz:∀k:Nat,k<=30000->k<=sizeLine:=λk h=>mO h (by rw[sizeLine_eq];decide);obtain⟨dx,f⟩:=hp;omega;ac_rfl;have zl:=rwg.1;have yl:=rwc.1;refine⟨g,rfl,⟨_,.mk hg⟩,fk.listM (xs:=zs) (λ_=>true) (λi=>tx ((rg.map (·.1)).getD i [])) ∅ (.mk hg) (λi H' Q' _ _ q=>q H' (e8.refl _)) ?_ ?_⟩
 .intro i H1 Q1 hi _ s1 q1;obtain⟨t,u,e1,e2⟩:=FZ rwg hi;rw[e1];omega;exact⟨t,_,_,_,rfl,rfl,.mk (s1 _ _ e2),iI,q1 H1 (e8.refl _)⟩
 .intro pg H1 s1 n1 l1;rw[DR zl]at l1;ac_rfl;refine⟨p,_,dx,_,_,rfl,s1 _ _ f,T.ae,T.af,ER,la,rfl,⟨_,.mk (s1 _ _ hla)⟩,fk.listM (xs:=old.map tx) (λi=>!decide (old.getD i []∈rg.map (·.1))) (λi=>tx (old.getD i [])) (by rw[lZ];lia) (.mk (s1 _ _ hla)) ?_ ?_ ?_⟩
  .intro i H2 Q2 hi s2 q2;rw[lZ]at hi;rw[tJ hi];omega;refine⟨pg,_,rfl,.inl (.mk (s2 _ _ l1)),rfl,uG _,?_⟩;rw[lU rfl,Bm];exact q2 H2 (e8.refl _)
  .intro i H2 Q2 hi _ s2 q2;rw[lZ]at hi;rw[tJ hi];omega;exact q2 H2 (e8.refl _)
  .intro pk H2 s2 n2 l2k;have eh:((List.range (old.map tx).length).filter λi=>!decide (old.getD i []∈rg.map (·.1))).map (λi=>tx (old.getD i []))=(old.filter λv=>!decide (v∈rg.map (·.1))).map tx:=by rw[lZ,<-Be (λv=>!decide (v∈rg.map (·.1))) [] old,oX];rfl
   have e2:(old.filter λv=>!decide (v∈rg.map (·.1)))=old.filter λv=>decide (v∉rg.map (·.1)):=by congr 1;funext v;rw[decide_not]
   rw[eh,e2]at l2k;have fl:=pW (λv=>decide (v∉rg.map (·.1))) old;generalize hk:old.filter (λv=>decide (v∉rg.map (·.1)))=kept at l2k fl;have s02:=s1.trans s2;ac_rfl;refine⟨c,rfl,⟨_,.mk (s02 _ _ hc)⟩,fk.listM (xs:=ys) (λ_=>true) (λi=>tx ((rc.map (·.1)).getD i [])) ∅ (.mk (s02 _ _ hc)) (λi H' Q' _ _ q=>q H' (e8.refl _)) ?_ ?_⟩
   .intro i H3 Q3 hi _ s3 q3;obtain⟨t,u,e1,e2⟩:=FZ rwc hi;rw[e1];omega;exact⟨t,_,_,_,rfl,rfl,.mk ((s02.trans s3) _ _ e2),iI,q3 H3 (e8.refl _)⟩
   .intro pc H3 s3 n3 l3;rw[DR yl]at l3;rw[D8];refine⟨_,_,s3 _ _ l2k,l3,by rw[lZ,lZ,lZ];exact sz _ ∅,fY.of λpw H4 s4 n4 l4=>?_⟩;have s04:e8 H H4:=s02.trans (s3.trans s4);rw[<-qj]at l4;refine⟨pw,_,rfl,l4,λw hw=>?_,tk.same s04,λws r H5 pm pw5 sl tk5 nr lr=>?_⟩
    .rcases nJ.mp hw with h | h
     .rw[<-hk]at h;exact wo w (pD.mp h).1
     .exact wn w ((mc w).mp h).1
    .rw[<-hk]at pm;have en:=Znu ho hn mc nd mg_ pm pw5;rw[en]at lr;have f5:=sl _ _ (s04 _ _ f) rfl;refine⟨p,_,dx,_,rfl,f5,T.ae,T.af,(by show 4<1000;decide),?_⟩;rw[show fO (Str.ofString "own_lacking") (.ref r) (sF l m la da)=sF l m r da from ZmY];ac_rfl;refine⟨p,_,dx,_,rfl,mq,T.ae,T.aa,(by show 4<1000;decide),sz _ ⋯,gB.of λt H7 s7 n7 l7=>?_⟩;rw[show fO (Str.ofString "own_text") (tx l2) (sF l m r da)=sF l2 m r da from ZmX]at s7;have nrp:p≠r:=mM (s04 _ _ f) nr;refine q t r H7 ?_ ⟨dx,s7 _ _ mq⟩ ((Nw.of nr).same s04) (s7 _ _ (by rw[lR (mH nrp),lR (mH nrp)];exact lr)) l7 ?_
     .exact s04.chg.trans (sl.chg.trans ((nQ.upd {}).trans ((nQ.upd {}).trans s7.chg)))
     .exact((tk5.upd f5 rfl rfl).upd mq rfl rfl).same s7
def Zrl:fB P w K mg base mS 3 a.f_K4 a.d_K4 ["thing","kinds"] (sp_K4 K a):=by
 refine T.c9.u.ok Zqz (λAp A outer s H vs Q E hr h=>?_);have As:=hr.units;obtain⟨l,m,rfl,hl,q⟩:=h;refine⟨_,(lY (mN (sV (mG (DH T) (hM hr) rfl T.c7 mi (lM (pv 0) (lM (pv 1) (lM me lQ)))) (vQ (pV (oU (K:=K) rfl As) (mZ (nU (K:=K) rfl) rfl T.cK nR (lM (pv 0) lQ)) me (mV _)))))),?_⟩;omega;refine⟨l,m,1,rfl,hl,λH1 s1=>(fT (λh=>?_) (λh=>?_))⟩
 .refine⟨_,_,rfl,qD hl,.inl ⟨rfl,?_⟩⟩;have e:=q H1 s1;unfold wD at e;rw[h,sS]at e;rw[lT mQ];simpa using e
 .have e:=q H1 s1;unfold wD at e;rw[rE.mpr h,rX]at e;exact e
def A4:fB P w K mg base mS 3 a.f_KZ a.d_KZ ["thing"] (sp_KZ K a):=by refine T.cN.u.ok Zqi (λAp A outer s H vs Q E hr h=>?_);obtain⟨l,rfl,hl,hk,q⟩:=h;refine⟨_,(lY (nA (rF (o8 (mG (Zq0 T) (hM hr) rfl T.dm mi (lM (pv 0) lQ)))) (lY sv) nD)),?_⟩;omega;refine⟨l,rfl,hl,λH2 s2=>?_⟩;rw[hk];exact fS (q H2 s2)
def BX:fB P w K mg base mS 3 a.f_K6 a.d_K6 ["thing","kinds","most"] (sp_K6 K a):=by refine T.cQ.u.ok Zqy (λAp A outer s H vs Q E hr h=>?_);obtain⟨l,m,most,rfl,hl,hk,q⟩:=h;refine⟨_,(lY (nA (rF (o8 (mG (DH T) (hM hr) rfl T.c7 mi (lM (pv 0) (lM (pv 1) (lM (pv 2) lQ)))))) (lY sv) nD)),?_⟩;omega;refine⟨l,m,most,rfl,hl,λH2 s2=>?_⟩;rw[hk];exact fS (q H2 s2)
def ZqZ:fB P w K mg base mS 3 a.f_LB a.d_LB ["words"] (sp_LB K a):=by
 refine T.du.u.ok BI (λAp A outer s H vs Q E hr h=>?_);have As:=hr.units;obtain⟨b,ws,rfl,hb,an,q⟩:=h;refine⟨_,(lY (oJ oq rfl (pB (K:=K) rfl (pv 0)) (m7 (i:=1) BI.nd rfl (Or.inl rfl))
  (lY (oJ oq rfl (pB (K:=K) rfl (pv 0)) (m7 (i:=2) BI.nd rfl (Or.inl rfl))
  (lY (nA (PW.pt (uw (m9 (BB (K:=K) rfl As) (pv 2) (pv 1) (mV _)) (uM (m9 Bf (pv 2) (pv 1) rfl)))) (lY sv) nD)))))),?_⟩
 omega;refine⟨b,rfl,⟨_,.mk hb⟩,fA.list (xs:=ws.map tx) (λi U H'=>∃v1 v2,U=[some (.ref b),v1,v2]/\e8 H H') ⟨_,_,rfl,e8.refl _⟩ (λi U H' _ ⟨_,_,_,s'⟩=>.mk (s' _ _ hb)) ?_ ?_⟩
 .rintro i x U H1 hx ⟨v1,v2,rfl,s1⟩;obtain⟨y,hy,rfl⟩:=uI hx;omega;refine⟨b,rfl,⟨_,.mk (s1 _ _ hb)⟩,fA.list (xs:=ws.map tx) (λj U H'=>∃v2,U=[some (.ref b),some (tx y),v2]/\e8 H H') ⟨_,rfl,s1⟩ (λi U H' _ ⟨_,_,s'⟩=>.mk (s' _ _ hb)) ?_ ?_⟩
  .rintro j x U H2 hx2 ⟨v2,rfl,s2⟩;obtain⟨z,hz,rfl⟩:=uI hx2;omega;refine Zo8 λk hk=>fT (λe=>⟨z,y,rfl,rfl,fT (λe2=>?_) (λ_=>⟨_,rfl,s2⟩)⟩) (λ_=>fS ⟨_,rfl,s2⟩);exact hk e (an z (oW hz) y (oW hy) (qI.mp e2))
  .rintro U H2 ⟨v2,rfl,s2⟩;exact⟨_,_,rfl,s2⟩
 .rintro U H1 ⟨v1,v2,rfl,s1⟩;exact q H1 s1
def Zrh:fB P w K mg base mS 3 a.bw a.bY ["self"] (sp_KF K a):=by
 refine T.dw.u.ok xf (λAp A outer s H vs Q E hr h=>?_);obtain⟨p,l,m,rfl,hp,ok,q⟩:=h;refine⟨_,(lW (mK (i:=1) xf.nd (qi lQ))
  (lW (mK (i:=2) xf.nd (qW (pv 0) T.aY T.aE (EQ T) (hM hr) T.dh.b .nil mi (lM me lQ)))
  (lW (oJ oq rfl (zR rfl T.cU (lM me (lM (mJ pj (sO (pv 0) T.aY T.aJ (Zra T) (hM hr) T.dP.b .nil mi) me) lQ))) (m7 (i:=3) xf.nd rfl (Or.inl rfl))
  (lW (mK (i:=4) xf.nd (qW (pv 0) T.aY T.aE (EQ T) (hM hr) T.dh.b .nil mi (lM (pv 3) lQ)))
  (lW (oG (rj rn PySem.F.slot_list_extend PySem.F.type_list_extend ZjP (pv 1) (lM (mG (Zq5 T) (hM hr) rfl T.eC mi (lM (pv 2) (lM (pv 4) (lM (o6 (K:=K) rfl (pv 0) rfl) lQ)))) lQ)))
  (lY (mK (i:=2) xf.nd (pv 4))))))
  (lY (mN (pv 1)))))),?_⟩
 obtain⟨dx,hp⟩:=hp;have l40:=ok.l40;have m4:=ok.m4;omega;refine⟨nO _,fY.of λpf H1 s1 nf lf=>?_⟩;refine⟨p,dx,_,rfl,s1 _ _ hp,za nofun nofun,p,l,m,0,rfl,⟨dx,s1 _ _ hp⟩,ok,nO _,λq0 H2 s2 n2 e2=>?_⟩;refine⟨p,dx,_,rfl,(s1.trans s2) _ _ hp,za nofun nofun,p,l,m,rfl,⟨dx,(s1.trans s2) _ _ hp⟩,ok,?_⟩;omega;have ej:((l.length:Nat)+1+1-1:Int).toNat=l.length+1:=by lia
 refine⟨_,_,rfl,⟨∅,∅,∅,∅⟩,?_⟩;rw[ej];refine fA.range (λi U H'=>∃(v3 v4:Option V) (q0:AD),U=[some (.ref p),some (.ref pf),some (.ref q0),v3,v4]/\e8 H H'/\H' pf=some (.lst ((uA l m i).map tx))/\H' q0=some (.lst ((fL l i).map tx))/\pf≠q0) ⟨_,_,q0,rfl,s1.trans s2,s2 _ _ lf,e2,mM lf n2⟩ ?_ ?_
 .rintro i U H3 hi ⟨v3,v4,q0,rfl,s3,h3,h4,ne0⟩;have e1:(1+(i:Int))=((i+1:Nat):Int):=by lia
  have ll:=DC (l:=l) (m:=m) (i:=i) m4 l40 ∅;have la:=DC (l:=l) (m:=m) (i:=i+1) m4 l40 ∅;rw[Ir,mP]at la;rw[e1];omega;refine⟨p,dx,_,rfl,s3 _ _ hp,za nofun nofun,p,l,m,i+1,rfl,⟨dx,s3 _ _ hp⟩,ok,∅,λq1 H4 s4 n4 e4=>?_⟩;have h3':=s4 _ _ h3;have ne1:pf≠q1:=mM h3 n4;refine⟨.inl ⟨rfl,_,.mk h3'⟩,p,_,dx,_,_,rfl,(s3.trans s4) _ _ hp,T.aY,T.aC,ZiK,?_⟩;refine⟨q0,q1,fL l i,fL l (i+1),m,rfl,s4 _ _ h4,e4,by have:=DU l i;lia,m4,λw hw=>by have:=(uK (l:=l) ∅).mp hw;lia,λr H5 s5 n5 e5=>?_⟩;refine⟨pf,r,_,_,rfl,rfl,s5 _ _ h3',e5,by rw[lZ,lZ,sizeLine_eq];lia,_,_,q1,rfl,fq (s3.trans (s4.trans s5)) nf,?_,?_,ne1⟩
  .rw[mq,Ir,qj]
  .rw[lR (mH ne1)];exact s5 _ _ e4
 .rintro U H3 ⟨v3,v4,q0,rfl,s3,h3,h4,ne0⟩;omega;exact q pf H3 s3 h3
def Hr:fB P w K mg base mS 3 a.f_LR a.d_LR ["lesser","longer","reason"] (sp_LR K a):=by
 refine T.dJ.u.ok DQ (λAp A outer s H vs Q E hr h=>?_);obtain⟨s_,L,rs,m,rfl,hL,ex,hm,hrise,tk,q⟩:=h;refine⟨_,(lW (mK (i:=3) DQ.nd (ph (u8 (K:=K) rfl) (mG (GN T) (hM hr) rfl T.d8 mi (lM (pv 0) (lM (pv 1) lQ))) me (λ_ _=>rfl)))
  (lY (mN (qi (lM (qQ (lM (pv 3) (lM (qQ (lM (pv 2) (lM (B5 (K:=K) rfl PySem.F.plainAttrs_str PySem.F.slot_str_find PySem.F.type_str_find Cm (pv 1) (lM (pv 3) lQ)) lQ))) lQ))) lQ))))),?_⟩
 omega;refine⟨s_,L,rfl,hL,ex,tk,λF r H1 pw mF sl tk1 nr lr=>?_⟩;bv_omega;obtain⟨w0,F',rfl⟩:∃w0 F',F=w0::F':=by
  have:L∈F:=(mF L).mpr ⟨mj.refl L,λz=>by have:=z.len;have:=ex.len;lia⟩;cases F with
  | nil=>cases this
  | cons x F'=>exact⟨x,F',rfl⟩
 have f0:=(mF w0).mp o7;have hmn:∀w,pi s_ L w->¬gn w w0:=λw hw hb=>by
  rcases m6.mp ((mF w).mpr hw) with rfl | h
  .exact yP hb
  .exact Ha hb ((sW.mp pw).1 w h)
 have eF:=ZlA ex hm hrise f0 hmn;refine⟨r,_,_,_,rfl,rfl,.mk lr,iI,rfl,L,w0,rfl,rfl,λk hk=>⟨sz _ ⋯,gB.of λt1 H2 s2 n2 l2=>⟨sz _ ⋯,gB.of λt2 H3 s3 n3 l3=>⟨sz _ ⋯,fY.of λp4 H4 s4 n4 l4=>?_⟩⟩⟩⟩;have ek:k=((tY L w0:Nat):Int):=by
  rcases hk with⟨_,no⟩|⟨i,rfl,at_,mn⟩
  .exact IG f0.1 no
  .rw[D1 at_ mn]
 have s14:=s2.trans (s3.trans s4);refine q [.ref t2] p4 H4 (sl.trans s14.l) (tk1.same s14) ((((Nw.of n4).same s3).same s2).l sl) l4 ?_;subst ek;unfold ub;rw[eF];refine⟨rfl,λi y hy=>?_⟩
 match i,hy with
 | 0,hy=>
  cases hy;exact⟨_,rfl,t2,t1,rfl,s4 _ _ l3,(s3.trans s4) _ _ l2⟩
def GC:fB P w K mg base mS 3 a.f_LU a.d_LU ["lesser","longer","kinds","reason"] (sp_LU K a):=by
 refine T.dL.u.ok xB (λAp A outer s H vs Q E hr h=>?_);have hu1:=tM hr;obtain⟨s_,L,rs,m,rfl,hL,ex,hm,hrise,m4,tk,q⟩:=h;refine⟨_,(lW (yA (i:=4) xB.nd rfl (Or.inr rfl) vg)
  (mE (lW (oJ oq rfl (pB (K:=K) rfl (mG (GN T) (hM hr) rfl T.d8 mi (lM (pv 0) (lM (pv 1) lQ)))) (m7 (i:=5) xB.nd rfl (Or.inl rfl))
  (lW (mK (i:=6) xB.nd (qQ (lM (pv 3) (lM (pv 5) (lM (B5 (K:=K) rfl PySem.F.plainAttrs_str PySem.F.slot_str_find PySem.F.type_str_find Cm (pv 1) (lM (pv 5) lQ)) lQ)))))
  (lY (oJ oq rfl (uf (pv 2)) (m7 (i:=7) xB.nd rfl (Or.inl rfl))
  (lY (oJ oq rfl (pB (K:=K) rfl (qi (lM (mJ qB (pv 5) (pv 7)) (lM (mJ qB (pv 7) (pv 5)) lQ)))) (m7 (i:=8) xB.nd rfl (Or.inl rfl))
  (lY (nA (o8 (mG (Zq2 T) (hM hr) rfl T.eG mi (lM (pv 1) (lM (pv 8) lQ)))) (mE (lY (tQ hu1 (pv 4) (pv 8) (pv 6) rfl))) nD))))))))
  (lY (mN (qz (N:=["word","found"]) (ix:=[none,some 4]) rfl (pY rfl) rfl (pB (K:=K) rfl (mG (zY T) (hM hr) rfl T.cP mi (lM (sK (ZiT rfl) rfl T.dF v0 (lM (pv 4) lQ)) lQ))) (λ_ _ _ _=>(m7 (i:=0) (show (["word","found"]:AJ).Nodup from by decide +kernel) rfl (Or.inl rfl) (Or.inr rfl))) (λ_ _ _ _=>sL) (λ_ _ _ _=>(qQ (lM (pv 0) (lM (sB hu1 (pv 1) (pv 0) (λ_ _=>rfl)) lQ)))))))))),?_⟩
 omega;intro pd hpd;ac_rfl;have s0:e8 H (upd H pd (.dK [])):=oR hpd;have h0:upd H pd (.dK []) pd=some (.dK []):=mq;generalize upd H pd (.dK [])=H0 at s0 h0;refine⟨s_,L,rfl,hL,ex,tk.same s0,λF pF H1 pw mF sl tk1 nF lF=>?_⟩;have d1:=sl _ _ h0 rfl;have nFd:pd≠pF:=λz=>by rw[z,lF]at d1;cases d1
 have FL:F.length<=82:=by
  have nd:F.Nodup:=zX pw;have hs:∀w∈F,w∈qo L L.length:=λw hw=>G0.mpr ((EE ex).mp ((mF w).mp hw)).1;have:=xM F _ nd hs;rw[zK]at this
  lia
 refine⟨pF,rfl,⟨_,.mk lF⟩,fA.list (xs:=F.map tx) (λi U H'=>∃v5 v6 v7 v8 kvs ws,U=[some (tx s_),some (tx L),some (tx m),some (tx rs),some (.ref pd),v5,v6,v7,v8]/\(∀b o,H1 b=some o->b≠pd->H' b=some o)/\H' pd=some (.dK kvs)/\DI H' s_ L rs (λw=>∃sh∈F.take i,∃c∈m,w=sh++[c]\/w=c::sh) kvs ws/\kvs.length<=i*8) ⟨_,_,_,_,[],[],rfl,λb o e _=>e,d1,⟨rfl,{},λw=>by simp,{}⟩,{}⟩ (λi U H' _ ⟨_,_,_,_,_,_,_,k',_⟩=>.mk (k' _ _ lF (mH nFd))) ?_ ?_⟩
 .rintro i x U H2 hx ⟨v5,v6,v7,v8,kvs,ws,rfl,k2,d2,i2,n2⟩;obtain⟨sh,hsh,rfl⟩:∃sh,F[i]?=some sh/\x=tx sh:=by
   rw[om]at hx;cases e:F[i]? with
   | none=>rw[e]at hx;cases hx
   | some sh=>rw[e]at hx;exact⟨sh,rfl,(Option.some.inj hx).symm⟩
  have fsh:=(mF sh).mp (oW hsh);have shl:=fsh.1.len;have hi:i<F.length:=(mX.mp hsh).1;omega;refine⟨rfl,L,sh,rfl,rfl,λr hr=>⟨sz _ ⋯,gB.of λt1 H3 s3 n3 l3=>?_⟩⟩;have er:r=((tY L sh:Nat):Int):=by
   rcases hr with⟨_,no⟩|⟨i,rfl,at_,mn⟩
   .exact IG fsh.1 no
   .rw[D1 at_ mn]
  subst er;have d3:=s3 _ _ d2;refine⟨m,rfl,fA.text (λj U H'=>∃v7 v8 kvs ws,U=[some (tx s_),some (tx L),some (tx m),some (tx rs),some (.ref pd),some (tx sh),some (.ref t1),v7,v8]/\(∀b o,H1 b=some o->b≠pd->H' b=some o)/\H' t1=some (.tup [tx rs,tx sh,.int ((tY L sh:Nat):Int)])/\H' pd=some (.dK kvs)/\DI H' s_ L rs (λw=>(∃sh∈F.take i,∃c∈m,w=sh++[c]\/w=c::sh)\/∃c∈m.take j,w=sh++[c]\/w=c::sh) kvs ws/\kvs.length<=i*8+2*j) ⟨_,_,_,_,rfl,λb o e nb=>s3 _ _ (k2 b o e nb),l3,d3,i2.grow (λb us e=>s3 _ _ e) (λw _=>by simp),∅⟩ ?_ ?_⟩
  .rintro j c U H4 hc ⟨v7,v8,kvs,ws,rfl,k4,t4,d4,i4,n4⟩;have hcm:c∈m:=oW hc;have hj:j<m.length:=(mX.mp hc).1;omega;refine⟨sz _ ∅,sz _ ∅,sz _ ⋯,fY.of λpl H5 s5 n5 l5=>?_⟩;have nl:pd≠pl:=mM d4 n5;refine⟨pl,rfl,⟨_,.mk l5⟩,fA.list (xs:=[tx (sh++[c]),tx (c::sh)]) (λk U H'=>∃v8 kvs ws,U=[some (tx s_),some (tx L),some (tx m),some (tx rs),some (.ref pd),some (tx sh),some (.ref t1),some (tx [c]),v8]/\(∀b o,H1 b=some o->b≠pd->H' b=some o)/\H' t1=some (.tup [tx rs,tx sh,.int ((tY L sh:Nat):Int)])/\H' pl=some (.lst [tx (sh++[c]),tx (c::sh)])/\H' pd=some (.dK kvs)/\DI H' s_ L rs (λw=>((∃sh∈F.take i,∃c∈m,w=sh++[c]\/w=c::sh)\/∃c∈m.take j,w=sh++[c]\/w=c::sh)\/w∈[sh++[c],c::sh].take k) kvs ws/\kvs.length<=i*8+2*j+k) ⟨_,_,_,rfl,λb o e nb=>s5 _ _ (k4 b o e nb),s5 _ _ t4,l5,s5 _ _ d4,i4.grow (λb us e=>s5 _ _ e) (λw _=>by simp),∅⟩ (λk U H' _ ⟨_,_,_,_,_,_,l',_⟩=>.mk l') ?_ ?_⟩
   .rintro k y U H6 hy ⟨v8,kvs,ws,rfl,k6,t6,l6,d6,i6,n6⟩;obtain⟨z,hz,rfl,ez⟩:∃z,[sh++[c],c::sh][k]?=some z/\y=tx z/\(z=sh++[c]\/z=c::sh):=by
     match k,hy with
     | 0,hy=>cases hy;exact⟨_,rfl,rfl,.inl rfl⟩
     | 1,hy=>cases hy;exact⟨_,rfl,rfl,.inr rfl⟩
    have zl:z.length=sh.length+1:=by rcases ez with rfl | rfl<;>simp
    have zne:z≠[]:=λe=>by rw[e]at zl;simp at zl
    have hk:k<2:=(mX.mp hz).1;omega;refine⟨L,z,rfl,∅,∅,?_⟩;have tkS:∀w,w∈[sh++[c],c::sh].take (k+1)↔(w∈[sh++[c],c::sh].take k\/w=z):=λw=>by rw[vT hz,nJ,mU]
    cases hb:ye L z with
    | false=>
     have nm:¬io L z:=λh=>by rw[(Hs zne).mpr h]at hb;cases hb
     refine fS ⟨_,kvs,ws,rfl,k6,t6,l6,d6,i6.grow (λ_ _ e=>e) (λw mw=>?_),∅⟩;rw[tkS];constructor
     .rintro (h | h)
      .exact .inl h
      .exact .inr (.inl h)
     .rintro (h | h | h)
      .exact .inl h
      .exact .inr h
      .exact IG (h▸mw) nm
    | true=>
     have mz:=(Hs zne).mp hb;refine gJ ?_;ac_rfl;have es:iB s_ z=sh:=ZoM ex fsh ez mz;obtain⟨ws',i7⟩:=i6.put (x:=z) (b:=t1) mz (by rw[es];exact t6);have np:pd≠pl:=λe=>by rw[e,l6]at d6;cases d6
     have nt:t1≠pd:=λe=>by rw[e,d6]at t6;cases t6
     have lp:=sg kvs (lV z) (.ref t1);refine⟨pd,_,rfl,gO.k (k:=lV z) d6 (ot (show _<9000 by lia) (sz 9000 (mC _))),_,fz kvs (lV z) (.ref t1),ws',rfl,λb o e nb=>by rw[lR nb];exact k6 b o e nb,by rw[lR nt];exact t6,by rw[lR (mH np)];exact l6,mq,i7.grow (λb us e=>?_) (λw _=>?_),∅⟩
     .rw[lR (λe2=>by rw[e2,d6]at e;cases e)];exact e
     .rw[tkS];constructor
      .rintro ((h | h) | h)
       .exact .inl h
       .exact .inr (.inl h)
       .exact .inr (.inr h)
      .rintro (h | h | h)
       .exact .inl (.inl h)
       .exact .inl (.inr h)
       .exact .inr h
   .rintro U H6 ⟨v8,kvs,ws,rfl,k6,t6,l6,d6,i6,n6⟩;refine⟨_,_,kvs,ws,rfl,k6,t6,d6,i6.grow (λ_ _ e=>e) (λw _=>?_),by simp at n6;lia⟩;rw[vT hc];simp only[nJ,mU];constructor
    .rintro ((h | ⟨d,hd,h⟩) | h)
     .exact .inl h
     .exact .inr ⟨d,.inl hd,h⟩
     .exact .inr ⟨c,.inr rfl,~~~h⟩
    .rintro (h | ⟨d,hd | rfl,h⟩)
     .exact .inl (.inl h)
     .exact .inl (.inr ⟨d,hd,h⟩)
     .exact .inr (~~~h)
  .rintro U H4 ⟨v7,v8,kvs,ws,rfl,k4,t4,d4,i4,n4⟩;refine⟨_,_,_,_,kvs,ws,rfl,k4,d4,i4.grow (λ_ _ e=>e) (λw _=>?_),∅⟩;rw[pK,vT hsh];simp only[nJ,mU];constructor
   .rintro (⟨s',hs,h⟩ | h)
    .exact⟨s',.inl hs,h⟩
    .exact⟨sh,.inr rfl,h⟩
   .rintro⟨s',hs | rfl,h⟩
    .exact .inl ⟨s',hs,h⟩
    .exact .inr h
 .rintro U H2 ⟨v5,v6,v7,v8,kvs,ws,rfl,k2,d2,i2,n2⟩;omega;rw[lZ,pK]at i2;have e3:kvs.map (λp=>kV p.1)=ws.map tx:=by
   have:kvs.map (λp=>kV p.1)=(kvs.map (·.1)).map kV:=by rw[oX];rfl
   rw[this,i2.keys,oX];rfl
  refine⟨pd,kvs,rfl,.inl d2,fY.of λp3 H3 s3 n3 l3=>?_⟩;rw[e3]at l3;have mws:∀w,w∈ws↔w∈ib s_ L m:=λw=>by
   rw[i2.mem,Dc,<-Znb ex hm];constructor
   .rintro⟨ms,sh,h1,c,h2,h3⟩;exact⟨sh,c,(mF sh).mp h1,h2,h3,ms⟩
   .rintro⟨sh,c,h1,h2,h3,ms⟩;exact⟨ms,sh,(mF sh).mpr h1,c,h2,h3⟩
  have tk2:=Zmv tk1 k2 d1 rfl rfl;refine⟨p3,ws,rfl,l3,λw hw=>?_,tk2.same s3,λws' r H4 pm pw4 sl4 tk4 nr lr=>?_⟩
  .have:=((i2.mem w).mp hw).1.init.len;rw[qm]at this
   lia
  .have ew:ws'=ib s_ L m:=y6 (Dd pm pw4 i2.nd) ((ua hrise).filter _) λw=>by rw[pm.mem_iff,mws]
   subst ew;have d4:=sl4 _ _ (s3 _ _ d2) rfl;have ol:(ib s_ L m).length<=9000:=by
    have:=pm.length_eq;have e5:=IF List.length e3;rw[lZ,lZ]at e5;rw[lZ]at n2
    lia
   refine⟨r,rfl,⟨_,.mk lr⟩,fk.tupsM (xs:=(ib s_ L m).map tx) (λi vs=>∃w b,(ib s_ L m)[i]?=some w/\vs=[tx w,.ref b]/\fh kvs (lV w)=some (.ref b)) (by rw[lZ];lia) (.mk lr) ?_ ?_⟩
   .intro i H5 Q5 hi s5 q5;rw[lZ]at hi;rw[tJ hi];have hw:(ib s_ L m)[i]?=some ((ib s_ L m).getD i []):=by rw[nN,mT hi];rfl
    obtain⟨b,hv,_⟩:=i2.val _ ((mws _).mpr (oW hw));omega;have dg:=gG.k (k:=lV ((ib s_ L m).getD i [])) (s5 _ _ d4);rw[hv]at dg;refine⟨pd,_,rfl,dg,sz _ ⋯,gB.of λt6 H6 s6 n6 l6=>q5 t6 _ H6 s6 l6 ⟨_,b,hw,rfl,hv⟩⟩
   .intro p5 ys H5 s5 n5 l5 yl hys;have n4':Nw H p5:=((((Nw.of n5).l sl4).same s3).chg (S:=[pd]) (H:=H1) (λb o e nb _=>k2 b o e (~~~nb)) (λb hb=>by obtain rfl:=mU.mp hb;exact⟨_,d2,rfl⟩)).l (s0.l.trans sl);refine q ys p5 H5 (λb o e t=>?_) (tk4.same s5) n4' l5 ⟨?_,λi y hy=>?_⟩
    .have nb:b≠pd:=mM e hpd;exact s5 _ _ (sl4 _ _ (s3 _ _ (k2 _ _ (sl _ _ (s0 _ _ e) t) nb)) t)
    .unfold sU;rw[lZ,yl,lZ]
    .obtain⟨t,vs,rfl,ht,w,b,hw,rfl,hv⟩:=hys i y hy;obtain⟨b',hv',hb'⟩:=i2.val w ((mws w).mpr (oW hw));obtain rfl:b=b':=by rw[hv]at hv';injection hv' with e;injection e
     refine⟨_,by unfold sU;rw[om,hw];rfl,t,b,rfl,ht,s5 _ _ (sl4 _ _ (s3 _ _ hb') rfl)⟩
def BH:fB P w K mg base mS 3 a.f_L7 a.d_L7 ["_law_cell","_law_way","_law_kinds_here","_law_most"] (sp_L7 K a):=by
 refine T.dO.u.ok vv (λAp A outer s H vs Q E hr h=>?_);have As:=hr.units;obtain⟨c,d,m,mo,rfl,hm,h4,mo1,mo2,q⟩:=h;refine⟨_,(lW (mK (i:=4) vv.nd (mJ pI (mG (qA T) (hM hr) rfl T.cM mi (lM (pv 1) (lM me lQ))) me))
  (mE (lW (nA (m9 (oU (K:=K) rfl As) (mJ pI (mG (qA T) (hM hr) rfl T.cM mi (lM (pv 1) (lM me lQ))) me) me (mV _)) (lY (mK (i:=4) vv.nd (mJ pI (mG (qA T) (hM hr) rfl T.cM mi (lM (pv 1) (lM me lQ))) (mJ pj (pv 3) me)))) nD)
  (mE (lW (nA (m9 tw (mJ pI (mG (qA T) (hM hr) rfl T.cM mi (lM (pv 1) (lM me lQ))) me) me (mV _)) (lY (mN (mG (Es T) (hM hr) rfl T.em mi (lM (pv 0) (lM (pV (oU (K:=K) rfl As) (mJ pI (mG (qA T) (hM hr) rfl T.cM mi (lM (pv 1) (lM me lQ))) me) me (mV _)) (lM (pv 2) (lM (pv 4) lQ))))))) nD)
  (mE (lW (mK (i:=5) vv.nd (mG (Es T) (hM hr) rfl T.em mi (lM (pv 0) (lM (pV (oU (K:=K) rfl As) (mJ pI (mG (qA T) (hM hr) rfl T.cM mi (lM (pv 1) (lM me lQ))) me) me (mV _)) (lM (pv 2) (lM (mJ pj me (mJ pI (mG (qA T) (hM hr) rfl T.cM mi (lM (pv 1) (lM me lQ))) me)) lQ))))))
  (lW (mK (i:=6) vv.nd (oF oM (mJ ZjC (pv 5) (pv 4)) o5 (nX (pv 4))))
  (mE (lW (nA (PW.pt (uw (m9 tw (pv 4) me (mV _)) (uM (m9 (oU (K:=K) rfl As) (mJ pI (mG (qA T) (hM hr) rfl T.cM mi (lM (pv 1) (lM me lQ))) me) me (mV _))))) (lW (mK (i:=7) vv.nd (mJ pI (mG (qA T) (hM hr) rfl T.cM mi (lM (pv 1) (lM me lQ))) (pv 4)))
  (lY (mK (i:=6) vv.nd (mJ qB (mJ qB (oF oM (pv 6) o5 (nX (pv 7))) (ph yM (pv 2) (mJ pI (mG (qA T) (hM hr) rfl T.cM mi (lM (pv 1) (lM me lQ))) (mZ (nU (K:=K) rfl) rfl T.cK nR (lM (pv 2) lQ))) (λ_ _=>rfl))) (oF oM (pv 6) (nX (mJ pj (pv 7) me)) o5))))) nD)
  (lY (mN (pv 6))))))))))))),?_⟩
 have sz:∀k:Nat,k<=3000->k<=sizeLine:=λk h=>mO h (by rw[sizeLine_eq];decide);have szm:m.length<=sizeLine:=sz _ ∅;have pm:(0:Int)<m.length:=by lia
 omega;refine⟨_,_,rfl,λr0 h0=>?_⟩;bv_omega;have g1:=uE r0 (show (13:Int)≠0 by decide);have g2:=u9 r0 (show (0:Int)<13 by decide);refine⟨⋯,ou ?_⟩;generalize r0 % 13=a0 at g1 g2;omega;refine⟨_,_,rfl,λr1 h1=>?_⟩;bv_omega;apply EJ (C:=λn=>0<=n/\n<=mo)
 .intro tail;refine⟨⋯,.inl ⟨rfl,fT (λh=>?A) (λh=>?B)⟩⟩
  case A=>
   refine⟨_,_,rfl,λr2 h2=>?_⟩;bv_omega;refine⟨∅,?_⟩;have g3:=uE r2 (show (mo+1:Int)≠0 by lia);have g4:=u9 r2 (show (0:Int)<mo+1 by lia);generalize r2 % (mo+1)=a2 at g3 g4;exact tail a2 ⟨g3,∅⟩
  case B=>exact tail a0 ⟨g1,∅⟩
 .rintro n ⟨n0,n40⟩;ac_rfl;refine⟨_,_,rfl,λr3 h3=>?_⟩;bv_omega;refine⟨⋯,fT (λh=>?_) (λh=>ou ?_)⟩
  .refine⟨_,_,rfl,λr4 h4'=>?_⟩;bv_omega;exact⟨⋯,.inl ⟨rfl,c,_,m,n,rfl,hm,h4,n0,∅,λw hw wm=>q w ∅ wm⟩⟩
  .omega;refine⟨_,_,rfl,λr4 h4'=>?_⟩;bv_omega;refine⟨⋯,.inl ⟨rfl,_,_,rfl,λr5 h5=>?_⟩⟩;bv_omega;refine⟨⋯,c,_,m,_,rfl,hm,h4,∅,∅,λbs hbs bm=>?_⟩;bv_omega;have bl:bs.length<=5:=by lia
   have rl:(ic bs n).length=n.toNat*bs.length:=ZkY bs n;have rb:n.toNat*bs.length<=40*5:=vy ∅ bl;have cl:(oH (ic bs n) none (some n)).length=n.toNat:=by
    have:n.toNat<=n.toNat*bs.length:=Nat.le_mul_of_pos_right _ ∅;rw[Gb _ n0,nG,rl]
    lia
   have cm:∀x∈oH (ic bs n) none (some n),x∈m:=λx hx=>bm x (ZkX (BS hx));refine⟨bs,n,rfl,rfl,n0,∅,∅,_,rfl,ic bs n,rfl,sz _ ∅,ou ?_⟩;generalize oH (ic bs n) none (some n)=tt at cl cm;omega;refine fT (λh=>?_) (λh=>fS (q tt ∅ cm));have hn:=IC h;refine⟨_,_,rfl,λr6 h6=>?_⟩;bv_omega;refine⟨⋯,.inl ⟨rfl,fT (λh=>?_) (λh=>q tt ∅ cm)⟩⟩;refine⟨_,_,rfl,λr7 h7=>?_⟩;bv_omega;have e1:=uE r7 (show n≠0 by lia);have e2:=u9 r7 hn;refine⟨hn,_,rfl,tt,rfl,sz _ ∅,?_⟩;generalize r7 % n=at_ at e1 e2;refine⟨_,_,rfl,λr8 h8=>⟨_,_,rfl,qD ∅,?_⟩⟩;bv_omega;obtain⟨cc,hcc,mc⟩:=D6 (xs:=m) (i:=r8 % m.length) (uE _ ∅) (u9 _ pm);have t1:=Gb tt (i:=at_) e1;have t2:=ZnP tt (i:=at_+1) ∅;have t3:(oH tt none (some at_)).length=at_.toNat:=by rw[t1,nG];lia
   have t4:(oH tt (some (at_+1)) none).length=n.toNat-(at_.toNat+1):=by rw[t2,oZ];lia
   refine⟨pm,m,_,cc,rfl,rfl,szm,hcc,sz _ ∅,_,rfl,tt,rfl,sz _ ∅,sz _ (by rw[mP,oC];lia),q _ (by rw[mP,mP,oC];lia) λx hx=>?_⟩;rcases nJ.mp hx with z | z
   .rcases nJ.mp z with z | z
    .exact cm x (BS z)
    .rw[mU.mp z];exact mc
   .exact cm x (BS z)
def ZqT:fB P w K mg base mS 3 a.f_LT a.d_LT ["_law_words","_law_kinds_here","_law_one","_law_other"] (sp_LT K a):=by
 refine T.d5.u.ok GS (λAp A outer s H vs Q E hr h=>?_);have As:=hr.units;obtain⟨b,ws,m,x,y,rfl,hb,lk,ok,x1,y1,hx,hy,ni,ax,ay,ex,q⟩:=h;refine⟨_,(lW (nA (PW.pt (rm (rF (o8 (mG (BZ T) (hM hr) rfl T.eB mi (lM (pv 1) (lM (pv 2) lQ))))) (rm (rF (o8 (mG (BZ T) (hM hr) rfl T.eB mi (lM (pv 1) (lM (pv 3) lQ))))) (uP (o8 (mG (yo T) (hM hr) rfl T.cT mi (lM (pv 3) (lM (pv 2) lQ)))))))) (lY (mN qT)) nD)
  (mE (lW (nA (PW.pt (rm (rF (o8 (mG (BK T) (hM hr) rfl T.c8 mi (lM (pv 0) (lM (pv 2) lQ))))) (uP (rF (o8 (mG (BK T) (hM hr) rfl T.c8 mi (lM (pv 0) (lM (pv 3) lQ)))))))) (lY (mN qT)) nD)
  (mE (lW (mK (i:=4) GS.nd (mJ Hl (qz (N:=["_law_letter","_law_one"]) (ix:=[none,some 2]) rfl (pY rfl) rfl (uf (pv 1)) (λ_ _ _ _=>(m7 (i:=0) (show (["_law_letter","_law_one"]:AJ).Nodup from by decide +kernel) rfl (Or.inl rfl) (Or.inr rfl))) (λ_ _ _ _=>sL) (λ_ _ _ _=>(mJ qB (pv 0) (pv 1)))) (qz (N:=["_law_letter","_law_one"]) (ix:=[none,some 2]) rfl (pY rfl) rfl (uf (pv 1)) (λ_ _ _ _=>(m7 (i:=0) (show (["_law_letter","_law_one"]:AJ).Nodup from by decide +kernel) rfl (Or.inl rfl) (Or.inr rfl))) (λ_ _ _ _=>sL) (λ_ _ _ _=>(mJ qB (pv 1) (pv 0))))))
  (mE (lY (mN (pV (oU (K:=K) rfl As) (qz (N:=["_law_word","_law_words"]) (ix:=[none,some 0]) rfl (pY rfl) rfl (pB (K:=K) rfl (pv 4)) (λ_ _ _ _=>(m7 (i:=0) (show (["_law_word","_law_words"]:AJ).Nodup from by decide +kernel) rfl (Or.inl rfl) (Or.inr rfl))) (λ_ _ _ _=>(um (o8 (mG (BK T) (hM hr) rfl T.c8 mi (lM (pv 1) (lM (pv 0) lQ)))))) (λ_ _ _ _=>(pv 0))) (qi lQ) (mV _)))))))))),?_⟩
 have al:∀ {u:lN},(∀c∈u,c∈m)->(u.all λc=>m.contains c)=true:=λh=>by rw[qE];exact λc hc=>by simpa using h c hc
 have ln:=lk.len;have m4:=ok.m4;have w9:∀p∈ws,p.length<=9000:=λp hp=>by have:=lk.w41 p hp;lia
 omega;refine⟨m,x,rfl,∅,λH1 s1=>?_⟩;rw[al hx];refine fS ⟨m,y,rfl,∅,λH2 s2=>?_⟩;rw[al hy];refine fS ⟨y,x,rfl,∅,∅,fT (λh=>IG (qI.mp h) ni) (λ_=>ou ?_)⟩;have s02:=s1.trans s2;omega;refine⟨b,ws,x,rfl,s02 _ _ hb,∅,w9,∅,λH3 s3=>?_⟩;rw[vO.mpr ax];refine fS ⟨b,ws,y,rfl,s3 _ _ (s02 _ _ hb),∅,w9,∅,λH4 s4=>?_⟩;rw[vO.mpr ay];refine fS (ou ?_);have s04:=s02.trans (s3.trans s4);omega;refine⟨m,rfl,fk.text (λ_=>true) (λi=>tx ([m.getD i 0]++x)) ∅ (λi H' Q' _ _ q=>q H' (e8.refl _)) ?_ ?_⟩
 .intro i H5 Q5 hi _ s5 q5;omega;exact⟨sz _ (by show 1+_<=_;lia),q5 H5 (e8.refl _)⟩
 .intro p5 H5 s5 n5 l5;refine⟨m,rfl,fk.text (λ_=>true) (λi=>tx (x++[m.getD i 0])) ∅ (λi H' Q' _ _ q=>q H' (e8.refl _)) ?_ ?_⟩
  .intro i H6 Q6 hi _ s6 q6;omega;exact⟨sz _ (by show _+1<=_;lia),q6 H6 (e8.refl _)⟩
  .intro p6 H6 s6 n6 l6;rw[gt]at l5 l6;have e5:((List.range m.length).map λi=>tx ([m.getD i 0]++x))=(m.map λc=>c::x).map tx:=by
    rw[oX];apply qZ {};intro i h1 h2;have hi:i<m.length:=by simpa using h2
    simp[nN,mT hi]
   have e6:((List.range m.length).map λi=>tx (x++[m.getD i 0]))=(m.map λc=>x++[c]).map tx:=by
    rw[oX];apply qZ {};intro i h1 h2;have hi:i<m.length:=by simpa using h2
    simp[nN,mT hi]
   rw[e5]at l5;rw[e6]at l6;refine⟨p5,p6,_,_,rfl,rfl,s6 _ _ l5,l6,by rw[lZ,lZ,lZ,lZ];exact sz _ ∅,λp7 n7=>?_⟩;rw[<-qj];have s7:e8 H6 (upd H6 p7 (.lst (((m.map λc=>c::x)++m.map λc=>x++[c]).map tx))):=oR n7;have l7:upd H6 p7 (.lst (((m.map λc=>c::x)++m.map λc=>x++[c]).map tx)) p7=some (.lst (((m.map λc=>c::x)++m.map λc=>x++[c]).map tx)):=mq;generalize upd H6 p7 (.lst (((m.map λc=>c::x)++m.map λc=>x++[c]).map tx))=H7 at s7 l7;have bad:∀u∈(m.map λc=>c::x)++m.map λc=>x++[c],¬Av ws u/\u.length<=101:=λu hu=>by
    rcases nJ.mp hu with z | z
    .obtain⟨c,hc,rfl⟩:=nj.mp z;exact⟨(ex c hc).1,by rw[oN];lia⟩
    .obtain⟨c,hc,rfl⟩:=nj.mp z;exact⟨(ex c hc).2,by rw[mP,oC];lia⟩
   have Ll:((m.map λc=>c::x)++m.map λc=>x++[c]).length<=8:=by rw[mP,lZ,lZ];lia
   generalize ((m.map λc=>c::x)++m.map λc=>x++[c])=L at l7 bad Ll;have s07:=s04.trans (s5.trans (s6.trans s7));ac_rfl;refine⟨p7,rfl,⟨_,.mk l7⟩,fk.listM (xs:=L.map tx) (λi=>rL ws (L.getD i [])) (λi=>tx (L.getD i [])) (by rw[lZ];lia) (.mk l7) ?_ ?_ ?_⟩
   .intro i H8 Q8 hi s8 q8;rw[lZ]at hi;rw[tJ hi];have hm:L.getD i []∈L:=by rw[nN,mT hi];exact rq hi
    have:=(bad _ hm).2;omega;exact⟨b,ws,_,rfl,s8 _ _ (s07 _ _ hb),∅,w9,∅,λH9 s9=>q8 H9 s9⟩
   .intro i H8 Q8 hi _ s8 q8;rw[lZ]at hi;rw[tJ hi];omega;exact q8 H8 (e8.refl _)
   .intro p8 H8 s8 n8 l8;rw[lZ,GR [] (λu=>rL ws u) tx L]at l8;have fe:L.filter (λu=>rL ws u)=[]:=by rw[zI];exact λu hu k=>(bad u hu).1 (vO.mp k)
    rw[fe]at l8;refine⟨nO _,fY.of λp9 H9 s9 n9 l9=>Bx (xs:=[]) (ys:=[]) (.mk (s9 _ _ l8)) (.mk l9) ?_⟩;rw[IA rfl];exact q H9 (s07.trans (s8.trans s9))
def Zrb:fB P w K mg base mS 4 a.f_KO a.d_KO ["thing","kinds"] (sp_KO K a):=by refine T.cV.u.ok Zqo (λAp A outer s H vs Q E hr h=>?_);obtain⟨l,m,rfl,hl,hk,q⟩:=h;refine⟨_,(lY (nA (rF (o8 (mG (Zrl T) (hM hr) rfl T.c9 mi (lM (pv 0) (lM (pv 1) lQ))))) (lY sv) nD)),?_⟩;omega;refine⟨l,m,rfl,hl,λH2 s2=>?_⟩;rw[hk];exact fS (q H2 s2)
def Zrk:fB P w K mg base mS 4 a.f_K5 a.d_K5 ["words","kinds"] (sp_K5 K a):=by
 refine T.db.u.ok Dv (λAp A outer s H vs Q E hr h=>?_);have As:=hr.units;have hu1:=tM hr;obtain⟨b,ws,m,rfl,hb,ok,lk,q⟩:=h;refine⟨_,(lW (oG (mG (A4 T) (hM hr) rfl T.cN mi (lM (pv 1) lQ)))
  (mE (lW (nA (PW.pt (rm (rF (o8 (mZ (u4 (K:=K) rfl) rfl T.cL uY (lM (pv 0) (lM (Bs (v:=.ty "list") rfl T.dF v0 rfl) lQ))))) (uP (m9 tw (mZ (nU (K:=K) rfl) rfl T.cK nR (lM (pv 0) lQ)) (uC rfl T.c_KT) (mV _))))) (lY sv) nD)
  (mE (lW (mK (i:=2) Dv.nd vg)
  (mE (lY (oJ oq rfl (pB (K:=K) rfl (pv 0)) (m7 (i:=3) Dv.nd rfl (Or.inl rfl))
  (lW (nA (PW.pt (rm (rF (o8 (mG (DH T) (hM hr) rfl T.c7 mi (lM (pv 3) (lM (pv 1) (lM (uC rfl T.c_KG) lQ)))))) (rm (m9 (oU (K:=K) rfl As) (pv 3) (on (l:=[]) nofun) (mV _)) (uP (yH (Hq hu1 (pv 3) (pv 2))))))) (lY sv) nD)
  (lY (tQ hu1 (pv 2) (pv 3) qT rfl))))))))))),?_⟩
 have sz:∀k:Nat,k<=1000->k<=sizeLine:=λk h=>mO h (by rw[sizeLine_eq];decide);have ln:=lk.len;have m4:=ok.m4;omega;refine⟨m,rfl,∅,ok.k,λH1 s1=>?_⟩;have h1:=s1 _ _ hb;walk_at "h";refine⟨_,_,_,_,true,rfl,rfl,.ty (.seqL (.mk h1)),Bu,fS ⟨_,_,rfl,.inl ⟨_,.mk h1,rfl⟩,fT (λh=>IG (IC h) (by rw[lZ];lia)) (λ_=>ou ?_)⟩⟩;omega;intro pd npd;have s2:e8 H1 (upd H1 pd (.dK [])):=oR npd;have l2:upd H1 pd (.dK []) pd=some (.dK []):=mq;generalize upd H1 pd (.dK [])=H2 at s2 l2;ac_rfl;refine⟨b,rfl,⟨_,.mk (s2 _ _ h1)⟩,fA.list (xs:=ws.map tx) (λi U H'=>∃v3 kvs,U=[some (.ref b),some (tx m),some (.ref pd),v3]/\e8 H1 H'/\H' pd=some (.dK kvs)/\kvs.length<=i/\∀w,(fh kvs (lV w)).isSome=true↔w∈ws.take i) ⟨_,[],rfl,s2,l2,mC _,λw=>by rw[sG];exact Iff.intro (λz=>Bool.noConfusion z) (λz=>nomatch z)⟩ (λi U H' _ ⟨_,_,_,s,_⟩=>.mk (s _ _ h1)) ?_ ?_⟩
 .rintro i x U H3 hx ⟨v3,kvs,rfl,s3,h3,nk,hv⟩;obtain⟨w_,hw,rfl⟩:=uI hx;have A0:=(mX.mp hw).1;have mw:=oW hw;have w41:=lk.w41 _ mw;have ni:w_∉ws.take i:=wJ (lk.nd) hw;omega;refine⟨w_,m,41,rfl,∅,λH4 s4=>?_⟩;rw[B3 ∅ (lk.wm _ mw)];refine fS (.inl ⟨rfl,?_⟩);rw[lT mQ,vj,IB (lk.ne _ mw)];have h4:=s4 _ _ h3;refine fS ⟨pd,_,rfl,gG.k (k:=lV w_) h4,?_⟩;have ev:(fh kvs (lV w_)).isSome=false:=rE.mpr λz=>ni ((hv w_).mp z);rw[ev];refine fS ⟨pd,_,rfl,gO.k (k:=lV w_) h4 (ot (show _<1000 by lia) (sz 1000 (mC _))),_,fz kvs (lV w_) (.bl true),rfl,fq (s3.trans s4) npd,mq,?_,λw'=>?_⟩
  .have:=sg kvs (lV w_) (.bl true);lia
  .rw[qv,uQ hw,nJ,mU];by_cases e:w'=w_
   .rw[lU (by rw[e])];exact Iff.intro (λ_=>.inr e) (λ_=>rfl)
   .rw[lT (λz=>e (qd z)),hv];exact Iff.intro .inl (λz=>z.elim id (λz=>IG z e))
 .rintro U H3 ⟨v3,kvs,rfl,s3,h3,nk,hv⟩;exact q H3 (s1.trans s3)
def Zq9:fB P w K mg base mS 4 a.ba a.bZ ["self","text","kinds"] (sp_KU K a):=by
 refine T.dQ.u.ok Zql (λAp A outer s H vs Q E hr h=>?_);obtain⟨p,dx,l,m,rfl,hp,ok,q⟩:=h;refine⟨_,(lW (oG (mG (A4 T) (hM hr) rfl T.cN mi (lM (pv 2) lQ)))
  (lW (oG (mG (BX T) (hM hr) rfl T.cQ mi (lM (pv 1) (lM (pv 2) (lM (uC rfl T.c_KC) lQ)))))
  (lY (oG (HV rfl T.m_MB T.cE (GU T) (hM hr) T.cY.u.kp T.cY.b .nil mi (lM (pv 0) (lM (pv 1) (lM (pv 2) lQ)))))))),?_⟩
 omega;have m4:=ok.m4;have l40:=ok.l40;refine⟨m,rfl,∅,ok.k,λH1 s1=>?_⟩;bv_omega;refine⟨l,m,40,rfl,∅,G9 ok,λH2 s2=>?_⟩;bv_omega;exact⟨p,dx,_,l,m,rfl,.inl rfl,s1.trans s2 _ _ hp,λH3 r k=>q H3 ⟨dx,r⟩ λb o e ne=>k b o (s1.trans s2 _ _ e) ne⟩
def Zrg:fB P w K mg base mS 4 a.bb a.ce ["self","text","kinds"] (sp_KH K a):=by
 refine T.dz.u.ok Zqt (λAp A outer s H vs Q E hr h=>?_);obtain⟨p,dx,l,m,rfl,hp,ok,q⟩:=h;refine⟨_,(lW (oG (mG (A4 T) (hM hr) rfl T.cN mi (lM (pv 2) lQ)))
  (lW (oG (mG (BX T) (hM hr) rfl T.cQ mi (lM (pv 1) (lM (pv 2) (lM (uC rfl T.c_KC) lQ)))))
  (lW (uW (pv 0) (pv 2) rfl)
  (lY (uW (pv 0) (mG (ZqY T) (hM hr) rfl T.dv mi (lM (pv 1) (lM (pv 2) lQ))) rfl))))),?_⟩
 have m4:=ok.m4;have l40:=ok.l40;omega;refine⟨m,rfl,∅,ok.k,λH1 s1=>⟨l,m,40,rfl,∅,G9 ok,λH2 s2=>?_⟩⟩;have hp2:=(s1.trans s2) _ _ hp;refine⟨p,_,dx,_,rfl,hp2,T.a8,T.aq,by show (0:Nat)<1000;decide,l,m,rfl,l40,m4,ok.mem,λpq sp ys H3 s3 n3 h3 mo=>?_⟩;have hp3:=s3 _ _ (mq (H:=H2) (a:=p) (o:=.ins a.c_LF dx (fO "own_kinds" (tx m) [])));have ne:pq≠p:=λz=>by rw[z,hp3]at h3;cases h3
 refine⟨p,_,dx,_,rfl,hp3,T.a8,T.aw,?_,q sp _ ⟨dx,pq,ys,mq,by rw[lR ne];exact h3,gK.upd mo hp3⟩ λb o hb nb=>?_⟩
 .show (1:Nat)<1000;decide
 .rw[lR nb];exact s3 _ _ (by rw[lR nb];exact(s1.trans s2) _ _ hb)
def E3:fB P w K mg base mS 4 a.bH a.cC ["self","lesser"] (sp_KJ K a):=by
 refine T.c4.u.ok C9 (λAp A outer s H vs Q E hr h=>?_);obtain⟨p,la,da,s_,L,m,rfl,hp,hla,hL,ex,hm,ok,tk,q⟩:=h;refine⟨_,(lW (mK (i:=2) C9.nd (mG (Hr T) (hM hr) rfl T.dJ mi (lM (pv 1) (lM (o6 (K:=K) rfl (pv 0) rfl) (lM (on (l:=[115,116,111,111,100]) nofun) lQ)))))
  (lW (mK (i:=3) C9.nd (mG (GC T) (hM hr) rfl T.dL mi (lM (pv 1) (lM (o6 (K:=K) rfl (pv 0) rfl) (lM (o6 (K:=K) rfl (pv 0) rfl) (lM (on (l:=[108,97,115,116]) nofun) lQ))))))
  (lY (mN (qW (pv 0) T.ae T.bp (Fo T) (hM hr) T.c5.b .nil mi (lM (pv 1) (lM (pv 2) (lM (pv 3) lQ)))))))),?_⟩
 obtain⟨dx,f⟩:=hp;have m4:=ok.m4;omega;refine⟨p,_,dx,_,_,rfl,f,T.ae,T.aa,su,?_⟩;refine⟨s_,L,_,m,rfl,∅,ex,hm,ok.rise,tk,λys c H1 sl1 tk1 n1 l1 r1=>?_⟩;bv_omega;have f1:=sl1 _ _ f rfl;refine⟨p,_,dx,_,_,rfl,f1,T.ae,T.aa,su,p,_,dx,_,_,rfl,f1,T.ae,T.ah,B1,?_⟩;refine⟨s_,L,_,m,rfl,∅,ex,hm,ok.rise,m4,tk1,λzs g H2 sl2 tk2 n2 l2 r2=>?_⟩;bv_omega;have f2:=sl2 _ _ f1 rfl;have l12:=sl2 _ _ l1 rfl;have la2:=sl2 _ _ (sl1 _ _ hla rfl) rfl;have sl02:=sl1.trans sl2;have ncg:c≠g:=n2.ne l1 rfl;refine⟨p,dx,_,rfl,f2,sN,p,la,da,c,g,L,s_,m,m5 L m,m5 s_ m,ys,zs,_,_,rfl,⟨dx,f2⟩,la2,l12,r1.l sl2,l2,r2,ua ok.rise,ua ok.rise,?_,?_,?_,?_,?_,?_,?_,?_,tk2,?_⟩
 .rw[y8];exact zX ((ua ok.rise).filter _)
 .intro w;rw[y8,Cv]
 .intro w;rw[xN,Dc]
 .exact mO (wI m4 ∅) ⋯
 .rw[<-lZ (f:=(·.1)),y8];exact mO (pW _ _) (mO (wI m4 (by have:=ex.len;lia)) ⋯)
 .rw[<-lZ (f:=(·.1)),xN];exact mO (pW _ _) (mO (wI m4 ∅) ⋯)
 .intro w hw;have:=vA hL hw;lia
 .intro w hw;have:=vA (by have:=ex.len;lia) hw;lia
 .intro t la3 H3 ch3 f3 nl3 e3 t3 tk3;have np:∀us,H2 p≠some (.tup us):=λus z=>by rw[f2]at z;cases z
  have ncp:p≠c:=n1.ne f rfl;have ngp:p≠g:=n2.ne f1 rfl;refine q t c g la3 H3 (sl02.chg.trans ch3) f3 e3 ⟨t3,⟨ys,ch3 _ _ l12 (~~~mH ncp) rfl,(r1.l sl2).chg ch3 (λb hb us=>by rw[mU.mp hb];exact np us)⟩,⟨zs,ch3 _ _ l2 (~~~mH ngp) rfl,r2.chg ch3 (λb hb us=>by rw[mU.mp hb];exact np us)⟩,n1,n2.l sl1,nl3.l sl02,ncg,nl3.ne l12 rfl,nl3.ne l2 rfl⟩ tk3
def Io:fB P w K mg base mS 4 a.bG a.cB ["self","longer"] (sp_KX K a):=by
 refine T.dj.u.ok CD (λAp A outer s H vs Q E hr h=>?_);obtain⟨p,la,da,s_,L,m,rfl,hp,hla,hL,ex,hm,ok,tk,q⟩:=h;refine⟨_,(mE (lW (mK (i:=2) CD.nd (mG (GC T) (hM hr) rfl T.dL mi (lM (o6 (K:=K) rfl (pv 0) rfl) (lM (pv 1) (lM (o6 (K:=K) rfl (pv 0) rfl) (lM (on (l:=[102,105,114,115,116]) nofun) lQ))))))
  (mE (lW (mK (i:=3) CD.nd (mG (Hr T) (hM hr) rfl T.dJ mi (lM (o6 (K:=K) rfl (pv 0) rfl) (lM (pv 1) (lM (on (l:=[115,116,97,110,100,115]) nofun) lQ)))))
  (mE (lY (mN (qW (pv 0) T.ae T.bp (Fo T) (hM hr) T.c5.b .nil mi (lM (pv 1) (lM (pv 2) (lM (pv 3) lQ))))))))))),?_⟩
 obtain⟨dx,f⟩:=hp;have m4:=ok.m4;omega;ac_rfl;refine⟨p,_,dx,_,_,rfl,f,T.ae,T.aa,su,p,_,dx,_,_,rfl,f,T.ae,T.ah,B1,?_⟩;refine⟨s_,L,_,m,rfl,∅,ex,hm,ok.rise,m4,tk,λys c H1 sl1 tk1 n1 l1 r1=>?_⟩;ac_rfl;have f1:=sl1 _ _ f rfl;refine⟨p,_,dx,_,_,rfl,f1,T.ae,T.aa,su,?_⟩;refine⟨s_,L,_,m,rfl,∅,ex,hm,ok.rise,tk1,λzs g H2 sl2 tk2 n2 l2 r2=>?_⟩;ac_rfl;have f2:=sl2 _ _ f1 rfl;have l12:=sl2 _ _ l1 rfl;have la2:=sl2 _ _ (sl1 _ _ hla rfl) rfl;have sl02:=sl1.trans sl2;have ncg:c≠g:=n2.ne l1 rfl;refine⟨p,dx,_,rfl,f2,sN,p,la,da,c,g,s_,L,m,m5 s_ m,m5 L m,ys,zs,_,_,rfl,⟨dx,f2⟩,la2,l12,r1.l sl2,l2,r2,ua ok.rise,ua ok.rise,?_,?_,?_,?_,?_,?_,?_,?_,tk2,?_⟩
 .rw[xN];exact zX ((ua ok.rise).filter _)
 .intro w;rw[xN,Dc]
 .intro w;rw[y8,Cv]
 .exact mO (wI m4 (by have:=ex.len;lia)) ⋯
 .rw[<-lZ (f:=(·.1)),xN];exact mO (pW _ _) (mO (wI m4 ∅) ⋯)
 .rw[<-lZ (f:=(·.1)),y8];exact mO (pW _ _) (mO (wI m4 (by have:=ex.len;lia)) ⋯)
 .intro w hw;have:=vA (by have:=ex.len;lia) hw;lia
 .intro w hw;have:=vA hL hw;lia
 .intro t la3 H3 ch3 f3 nl3 e3 t3 tk3;have np:∀us,H2 p≠some (.tup us):=λus z=>by rw[f2]at z;cases z
  have ncp:p≠c:=n1.ne f rfl;have ngp:p≠g:=n2.ne f1 rfl;refine q t c g la3 H3 (sl02.chg.trans ch3) f3 e3 ⟨t3,⟨ys,ch3 _ _ l12 (~~~mH ncp) rfl,(r1.l sl2).chg ch3 (λb hb us=>by rw[mU.mp hb];exact np us)⟩,⟨zs,ch3 _ _ l2 (~~~mH ngp) rfl,r2.chg ch3 (λb hb us=>by rw[mU.mp hb];exact np us)⟩,n1,n2.l sl1,nl3.l sl02,ncg,nl3.ne l12 rfl,nl3.ne l2 rfl⟩ tk3
def Zq6:fB P w K mg base mS 4 a.bd a.ck ["self","kinds"] (sp_KY K a):=by
 refine T.dR.u.ok Zqj (λAp A outer s H vs Q E hr h=>?_);obtain⟨p,dx,m,rfl,hp,kok,q⟩:=h;refine⟨_,(lW (oG (mG (A4 T) (hM hr) rfl T.cN mi (lM (pv 1) lQ)))
  (mE (lW (oG (HV rfl T.m_MB T.cE (GU T) (hM hr) T.cY.u.kp T.cY.b .nil mi (lM (pv 0) (lM (on (l:=[]) nofun) (lM (pv 1) lQ)))))
  (mE (lW (uW (pv 0) (sK (Dg rfl) rfl T.dF v0 (lM (pv 1) lQ)) rfl)
  (mE (lY (uW (pv 0) (qi lQ) rfl)))))))),?_⟩
 omega;have m4:=kok.m4;refine⟨m,rfl,∅,kok.k,λH1 s1=>?_⟩;walk_at "h";refine⟨p,dx,_,[],m,rfl,.inr rfl,s1 _ _ hp,λH2 f2 k2=>?_⟩;walk_at "h";refine⟨m,rfl,∅,fY.of λla H3 s3 n3 l3=>?_⟩;have f3:=s3 _ _ f2;refine⟨p,_,dx,_,rfl,f3,T.ae,T.af,(by show 2<1000;decide),?_⟩;ac_rfl;refine⟨nO _,fY.of λda H4 s4 n4 l4=>?_⟩;have nla:p≠la:=mM f2 n3;have kr:=kok.kinds;have f4:=s4 _ _ (mq (H:=H3) (a:=p) (o:=.ins a.c_LZ dx (fO (Str.ofString "own_lacking") (.ref la) (fO "own_kinds" (tx m) (fO "own_text" (tx []) [])))));have l4':upd H3 p (.ins a.c_LZ dx (fO (Str.ofString "own_lacking") (.ref la) (fO "own_kinds" (tx m) (fO "own_text" (tx []) [])))) la=some (.lst ((fK m).map tx)):=by rw[lR (mH nla)];exact l3
 have nda:p≠da:=mM mq n4;have ned:la≠da:=mM l4' n4;have n3':H3 da=none:=by rw[lR (mH nda)]at n4;exact n4
 have back:∀b,b≠p->H2 b=none->H b=none:=λb hb e=>by
  cases z:H1 b with
  | none=>exact s1.free z
  | some o=>rw[k2 b o z hb]at e;cases e
 refine⟨p,_,dx,_,rfl,f4,T.ae,T.ad,(by show 3<1000;decide),q la da _ ⟨⟨dx,?_⟩,?_,⟨[],?_,rfl,λi y h=>by simp at h⟩,.nil,kr,ned⟩ (back la (mH nla) n3) (back da (mH nda) (s3.free n3')) λb o hb nb=>?_⟩
 .rw[mq];exact IF (λz=>some (HO.ins a.c_LZ dx z)) Ih
 .rw[lR (mH nla),Zlp kr.rise];exact s4 _ _ l4'
 .rw[lR (mH nda)];exact l4
 .rw[lR nb];exact s4 _ _ (by rw[lR nb];exact s3 _ _ (k2 _ _ (s1 _ _ hb) nb))
def Du:fB P w K mg base mS 4 a.bA a.cj ["self","word"] (sp_KA K a):=by
 refine T.cO.u.ok zd (λAp A outer s H vs Q E hr h=>?_);obtain⟨p,l,m,sp,w_,rfl,hp,hw,hm,q⟩:=h;refine⟨_,(lW (oG (mG (BX T) (hM hr) rfl T.cQ mi (lM (pv 1) (lM (o6 (K:=K) rfl (pv 0) rfl) (lM (uC rfl T.c_KR) lQ)))))
  (mE (lW (mK (i:=2) zd.nd me)
  (lW (oJ oq rfl (uf (pv 1)) (m7 (i:=3) zd.nd rfl (Or.inl rfl))
  (lW (mK (i:=2) zd.nd (qW (pv 0) T.a8 T.bM (Zre T) (hM hr) T.dD.b .nil mi (lM (pv 2) (lM (pv 3) lQ))))
  (lY (nA (m9 Cf (pv 2) wb (mV _)) (lY (mN wb)) nD))))
  (mE (lY (mN (pv 2)))))))),?_⟩
 obtain⟨dx,qa,ys,h1,h2,h3⟩:=id hp;omega;refine⟨p,_,dx,_,_,rfl,h1,T.a8,T.aq,Zha,w_,m,60,rfl,∅,B3 ∅ hm,λH1 s1=>ou ?_⟩;omega;refine⟨w_,rfl,fA.text (λi U H'=>H'=H1/\∃(j:Nat) (v3:Option V),U=[some (.ref p),some (tx w_),some (.int ((j:Nat):Int)),v3]/\sp[j]?=some (pP l (w_.take i))/\mj (w_.take i) l) ⟨rfl,0,_,rfl,by rw[sG,EG];exact h3.first,mj.nil l⟩ ?_ ?_⟩
 .rintro i c U H2 hc ⟨rfl,j,v3,rfl,hj,hI⟩;have hcm:=hm c (oW hc);have et:w_.take (i+1)=w_.take i++[c]:=vT hc;omega;refine⟨p,dx,_,rfl,s1 _ _ h1,Bz nofun nofun,p,l,m,sp,j,_,c,rfl,hp.same s1,hj,hcm,λo ho=>?_⟩;rcases ho with⟨hb,rfl⟩|⟨hb,j2,hj2,rfl⟩
  .refine⟨by trivial,?_⟩;rw[Option.getD_none,IA rfl];refine gJ (q .non _ s1 (.inl ⟨λhInf=>?_,rfl⟩));have:=DL.mpr (wE hInf (i+1));rw[et,A8]at this;exact this hb
  .refine⟨by trivial,?_⟩;rw[Option.getD_some,IB (λz=>by cases z)];exact fS ⟨by trivial,j2,_,rfl,by rw[et,A8];exact hj2,by rw[et];exact DL.mp (by rw[A8];exact hb)⟩
 .rintro U H2 ⟨rfl,j,v3,rfl,hj,hI⟩;rw[pK]at hj hI;walk_at "k";exact q _ _ s1 (.inr ⟨hI,j,hj,rfl⟩)
def Zq7:fB P w K mg base mS 5 a.bE a.cz ["self"] (sp_KW K a):=by
 refine T.dS.u.ok Zqk (λAp A outer s H vs Q E hr h=>?_);have As:=hr.units;obtain⟨p,la,da,c0,l0,m,ds,rfl,hp,hd,tk,q⟩:=h;refine⟨_,(mE (lW (nA (m9 (oU (K:=K) rfl As) (o6 (K:=K) rfl (pv 0) rfl) (on (l:=[]) nofun) (mV _)) (lY sv) nD)
  (mE (lW (oG (rj rn tK tG sE (o6 (K:=K) rfl (pv 0) rfl) (lM (qQ (lM (on (l:=[100,114,111,112]) nofun) (lM (ph yM (o6 (K:=K) rfl (pv 0) rfl) me (λ_ _=>rfl)) lQ))) lQ)))
  (lY (mN (qW (pv 0) T.ae T.bo (E3 T) (hM hr) T.c4.b .nil mi (lM (oF oM (o6 (K:=K) rfl (pv 0) rfl) (nX me) o5) lQ)))))))),?_⟩
 have sz:∀k:Nat,k<=30000->k<=sizeLine:=λk h=>mO h (by rw[sizeLine_eq];decide);obtain⟨⟨dx,f⟩,hk,⟨ts,d1,d2⟩,run,ok,nld⟩:=id hp;have m4:=ok.m4;have l40:=run.len;have tl:=d2.1;have npd:p≠da:=λz=>by rw[z,d1]at f;cases f
 omega;ac_rfl;refine⟨p,_,dx,_,_,rfl,f,T.ae,T.aa,su,.inl ⟨rfl,?_⟩⟩;rw[lT mQ,vj];rw[IB {}];refine fS ?_;ac_rfl;refine⟨p,_,dx,_,_,rfl,f,T.ae,T.ad,xc,.inl ⟨rfl,_,.mk d1⟩,p,_,dx,_,_,rfl,f,T.ae,T.aa,su,c0::l0,0,c0,rfl,rfl,sz _ ∅,iI,sz _ ⋯,gB.of λtd H2 s2 n2 l2=>?_⟩;refine⟨da,_,_,rfl,rfl,s2 _ _ d1,by rw[tl];exact sz _ ∅,?_⟩;have c3:nQ [da] H (upd H2 da (.lst (ts++[.ref td]))):=s2.chg.trans (nQ.upd {});have d3:upd H2 da (.lst (ts++[.ref td])) da=some (.lst (ts++[.ref td])):=mq;have t3:upd H2 da (.lst (ts++[.ref td])) td=some (.tup (uS (false,c0))):=by rw[lR (λz=>by rw[z,s2 _ _ d1]at l2;cases l2)];exact l2
 have tk3:=(tk.same s2).upd (o':=.lst (ts++[.ref td])) (s2 _ _ d1) rfl rfl;generalize upd H2 da (.lst (ts++[.ref td]))=H3 at c3 d3 t3 tk3;have e3:fV H3 (ts++[.ref td]) (ds++[(false,c0)]):=(d2.chg c3 (λb hb us z=>by rw[mU.mp hb,d1]at z;cases z)).snoc t3;have f3:=c3 _ _ f (~~~npd) rfl;have k3:=c3 _ _ hk (~~~nld) rfl;refine⟨p,dx,_,rfl,f3,sN,p,_,dx,_,_,rfl,f3,T.ae,T.aa,su,_,rfl,c0::l0,rfl,sz _ ∅,?_⟩;rw[yX];refine⟨p,la,da,l0,c0::l0,m,rfl,⟨dx,f3⟩,k3,l40,.inr ⟨c0,rfl⟩,run.mem,ok,tk3,λt c g la2 H4 ch f4 l4 an tk4=>?_⟩;obtain⟨q1,q2,q3⟩:=Bp hp c3 d3 e3 ch f4 l4 an run.drop;exact q t c g la2 H4 q1 q2 q3 tk4
def Zq8:fB P w K mg base mS 5 a.bF a.cA ["self"] (sp_KV K a):=by
 refine T.dU.u.ok ED (λAp A outer s H vs Q E hr h=>?_);have As:=hr.units;obtain⟨p,la,da,l,m,ds,rfl,hp,hd,tk,q⟩:=h;refine⟨_,(mE (lW (nA (m9 (oU (K:=K) rfl As) (mZ (nU (K:=K) rfl) rfl T.cK nR (lM (o6 (K:=K) rfl (pv 0) rfl) lQ)) me (mV _)) (lY sv) nD)
  (mE (lW (mK (i:=1) ED.nd (ZoJ rn PySem.F.slot_list_pop PySem.F.type_list_pop Zpb (o6 (K:=K) rfl (pv 0) rfl)))
  (mE (lW (nA (m9 (oU (K:=K) rfl As) (ph (sk (K:=K) rfl) (pv 1) me (λ_ _=>rfl)) (on (l:=[112,117,116]) nofun) (mV _)) (lY (mN (qW (pv 0) T.ae T.bo (E3 T) (hM hr) T.c4.b .nil mi (lM (oF oM (o6 (K:=K) rfl (pv 0) rfl) o5 (nX (A9 A5 me))) lQ)))) nD)
  (lY (mN (qW (pv 0) T.ae T.bn (Io T) (hM hr) T.dj.b .nil mi (lM (mJ qB (ph (sk (K:=K) rfl) (pv 1) me (λ_ _=>rfl)) (o6 (K:=K) rfl (pv 0) rfl)) lQ)))))))))),?_⟩
 have sz:∀k:Nat,k<=30000->k<=sizeLine:=λk h=>mO h (by rw[sizeLine_eq];decide);obtain⟨⟨dx,f⟩,hk,⟨ts,d1,d2⟩,run,ok,nld⟩:=id hp;have m4:=ok.m4;have l40:=run.len;have tl:=d2.1;have npd:p≠da:=λz=>by rw[z,d1]at f;cases f
 omega;ac_rfl;refine⟨p,_,dx,_,_,rfl,f,T.ae,T.ad,xc,_,_,rfl,.inl ⟨_,.mk d1,rfl⟩,.inl ⟨rfl,?_⟩⟩;rw[lT mQ];have pop:∀(ds0:List (Bool×Nat)) (d:Bool×Nat),ds=ds0++[d]->∃ts' td,ts=ts'++[.ref td]/\H td=some (.tup (uS d))/\fV H ts' ds0:=λds0 d e=>(e▸d2).init;have ne0:ds≠[]->decide (V.int ((ts.length:Nat):Int)=V.int 0)=false:=λh=>IB λe=>by injection e with e;rw[tl]at e;exact h (tR.mp ∅)
 have go:∀(ds0:List (Bool×Nat)) (d:Bool×Nat),ds=ds0++[d]->∃td H3 ts',nQ [da] H H3/\H3 da=some (.lst ts')/\fV H3 ts' ds0/\H3 td=some (.tup (uS d))/\TT a H3/\ts[ts.length-1]?=some (.ref td)/\upd H da (.lst ts.dropLast)=H3:=λds0 d e=>by
  obtain⟨ts',td,rfl,h1,h2⟩:=pop ds0 d e;refine⟨td,_,ts',nQ.upd {},by rw[mq,vB],?_,?_,tk.upd d1 rfl rfl,{},rfl⟩
  .exact h2.chg (S:=[da]) (nQ.upd {}) (λb hb us z=>by rw[mU.mp hb,d1]at z;cases z)
  .rw[lR (λz=>by rw[z,d1]at h1;cases h1)];exact h1
 rcases q with⟨ds0,c0,l0,e0,rfl,q⟩|⟨ds0,c0,e0,q⟩
 .rw[ne0 (by rw[e0];simp)];refine fS ?_;ac_rfl;obtain⟨td,H3,ts',c3,d3,e3,t3,tk3,hy,eH⟩:=go ds0 (true,c0) e0;refine⟨p,_,dx,_,_,rfl,f,T.ae,T.ad,xc,.inl ⟨rfl,_,.mk d1⟩,da,_,_,rfl,rfl,d1,hy,?_⟩;rw[eH];ac_rfl;have f3:=c3 _ _ f (~~~npd) rfl;have k3:=c3 _ _ hk (~~~nld) rfl;have run0:qC m ds0 l0:=by
   obtain⟨ds1,c1,⟨e1,l1,e2,r1⟩|⟨e1,_⟩⟩:=run.last (by rw[e0];simp)
   .rw[e0]at e1;have e3:=List.append_inj' e1 rfl;have e4:=List.append_inj' e2 rfl;rw[e3.1,e4.1];exact r1
   .rw[e0]at e1;have e3:=(List.append_inj' e1 rfl).2;cases e3
  refine⟨td,_,_,_,rfl,rfl,.mk t3,iI,z8 (x:=FP) (gJ ?_)⟩
  .refine⟨p,dx,_,rfl,f3,sN,p,_,dx,_,_,rfl,f3,T.ae,T.aa,su,_,rfl,l0++[c0],rfl,sz _ ∅,?_⟩;rw[Dr,vB];refine⟨p,la,da,l0,l0++[c0],m,rfl,⟨dx,f3⟩,k3,l40,.inl ⟨c0,rfl⟩,run.mem,ok,tk3,λt c g la2 H4 ch f4 l4 an tk4=>?_⟩;obtain⟨q1,q2,q3⟩:=Bp hp c3 d3 e3 ch f4 l4 an run0;exact q t c g la2 H4 q1 q2 q3 tk4
 .rw[ne0 (by rw[e0];simp)];refine fS ?_;ac_rfl;obtain⟨td,H3,ts',c3,d3,e3,t3,tk3,hy,eH⟩:=go ds0 (false,c0) e0;refine⟨p,_,dx,_,_,rfl,f,T.ae,T.ad,xc,.inl ⟨rfl,_,.mk d1⟩,da,_,_,rfl,rfl,d1,hy,?_⟩;rw[eH];ac_rfl;have f3:=c3 _ _ f (~~~npd) rfl;have k3:=c3 _ _ hk (~~~nld) rfl;have run0:qC m ds0 (c0::l):=by
   obtain⟨ds1,c1,⟨e1,l1,e2,r1⟩|⟨e1,r1⟩⟩:=run.last (by rw[e0];simp)
   .rw[e0]at e1;have e3:=(List.append_inj' e1 rfl).2;cases e3
   .rw[e0]at e1;have e3:=List.append_inj' e1 rfl;have e4:=e3.2;injection e4 with e4 _;injection e4 with _ e4;rw[e3.1,e4];exact r1
  have l41:=run0.len;rw[oN]at l41;refine⟨td,_,_,_,rfl,rfl,.mk t3,iI,ZpI (x:=DROP) ⋯ (fS ?_)⟩
  .refine⟨p,dx,_,rfl,f3,sN,td,_,_,_,rfl,rfl,.mk t3,rfl,p,_,dx,_,_,rfl,f3,T.ae,T.aa,su,jQ ⟨sz _ (by rw[oC];lia),?_⟩⟩;refine⟨p,la,da,l,c0::l,m,rfl,⟨dx,f3⟩,k3,run0.len,.inr ⟨c0,rfl⟩,run0.mem,ok,tk3,λt c g la2 H4 ch f4 l4 an tk4=>?_⟩;obtain⟨q1,q2,q3⟩:=Bp hp c3 d3 e3 ch f4 l4 an run0;exact q t c g la2 H4 q1 q2 q3 tk4
def Zrm:fB P w K mg base mS 5 a.bD a.cu ["self","letter"] (sp_K3 K a):=by
 refine T.d7.u.ok ZqA (λAp A outer s H vs Q E hr h=>?_);obtain⟨p,la,da,l,m,ds,c0,rfl,hp,hd,tk,hc,hl,q⟩:=h;refine⟨_,(mE (lW (oG (mG (Zrb T) (hM hr) rfl T.cV mi (lM (pv 1) (lM (o6 (K:=K) rfl (pv 0) rfl) lQ))))
  (lW (nA (m9 ZqN (mZ (nU (K:=K) rfl) rfl T.cK nR (lM (o6 (K:=K) rfl (pv 0) rfl) lQ)) (uC rfl T.c_KC) (mV _)) (mE (lY sv)) nD)
  (mE (lW (oG (rj rn tK tG sE (o6 (K:=K) rfl (pv 0) rfl) (lM (qQ (lM (on (l:=[112,117,116]) nofun) (lM (pv 1) lQ))) lQ)))
  (lY (mN (qW (pv 0) T.ae T.bn (Io T) (hM hr) T.dj.b .nil mi (lM (mJ qB (o6 (K:=K) rfl (pv 0) rfl) (pv 1)) lQ))))))))),?_⟩
 have sz:∀k:Nat,k<=30000->k<=sizeLine:=λk h=>mO h (by rw[sizeLine_eq];decide);obtain⟨⟨dx,f⟩,hk,⟨ts,d1,d2⟩,run,ok,nld⟩:=id hp;have m4:=ok.m4;have l40:=run.len;have tl:=d2.1;have npd:p≠da:=λz=>by rw[z,d1]at f;cases f
 omega;ac_rfl;refine⟨p,_,dx,_,_,rfl,f,T.ae,T.ah,B1,?_⟩;refine⟨[c0],m,rfl,{},Znx hc,λH1 s1=>?_⟩;bv_omega;refine⟨p,_,dx,_,_,rfl,s1 _ _ f,T.ae,T.aa,su,_,_,rfl,qD ∅,?_⟩;rw[IB ∅];refine fS ?_;ac_rfl;refine⟨p,_,dx,_,_,rfl,s1 _ _ f,T.ae,T.ad,xc,.inl ⟨rfl,_,.mk (s1 _ _ d1)⟩,sz _ ⋯,gB.of λtd H2 s2 n2 l2=>?_⟩;have s02:=s1.trans s2;refine⟨da,_,_,rfl,rfl,s02 _ _ d1,by rw[tl];exact sz _ ∅,?_⟩;have c3:nQ [da] H (upd H2 da (.lst (ts++[.ref td]))):=s02.chg.trans (nQ.upd {});have d3:upd H2 da (.lst (ts++[.ref td])) da=some (.lst (ts++[.ref td])):=mq;have t3:upd H2 da (.lst (ts++[.ref td])) td=some (.tup (uS (true,c0))):=by rw[lR (λz=>by rw[z,s02 _ _ d1]at l2;cases l2)];exact l2
 have tk3:=(tk.same s02).upd (o':=.lst (ts++[.ref td])) (s02 _ _ d1) rfl rfl;generalize upd H2 da (.lst (ts++[.ref td]))=H3 at c3 d3 t3 tk3;have e3:fV H3 (ts++[.ref td]) (ds++[(true,c0)]):=(d2.chg c3 (λb hb us z=>by rw[mU.mp hb,d1]at z;cases z)).snoc t3;have f3:=c3 _ _ f (~~~npd) rfl;have k3:=c3 _ _ hk (~~~nld) rfl;have r3:=run.put hc hl;refine⟨p,dx,_,rfl,f3,sN,p,_,dx,_,_,rfl,f3,T.ae,T.aa,su,jQ ⟨sz _ (by rw[oC];lia),?_⟩⟩;refine⟨p,la,da,l,l++[c0],m,rfl,⟨dx,f3⟩,k3,r3.len,.inl ⟨c0,rfl⟩,r3.mem,ok,tk3,λt c g la2 H4 ch f4 l4 an tk4=>?_⟩;obtain⟨q1,q2,q3⟩:=Bp hp c3 d3 e3 ch f4 l4 an r3;exact q t c g la2 H4 q1 q2 q3 tk4
def ZqW:fB P w K mg base (qk P w) 6 a.f_LM a.d_LM ["words","kinds","text"] (sp_LM K a):=by
 refine T.dI.u.okX DS (λAp A outer s H vs Q E hr h=>?_);obtain⟨b,ws,m,x,rfl,hb,lk,ok,q,qx⟩:=h;refine⟨_,(lY (oJ ZoK rfl (pB (K:=K) rfl (sO (CS T.bK (Zq9 T) (hM hr) rfl T.m_LX T.dQ.b .nil mi (lM (pv 2) (lM (pv 1) lQ))) T.aY T.aG (Zrh T) (hM hr) T.dw.b .nil mi)) (m7 (i:=3) DS.nd rfl (Or.inl rfl))
  (lY (nA (o8 (mG (DX T) (hM hr) rfl T.dG mi (lM (pv 0) (lM (pv 3) lQ)))) (lY (Fb FS rfl (HL T.bg T.i_LY T.cJ (Ze9 T) (hM hr) T.b_LY mi rfl T.m_LY (lM (pv 2) (lM (pv 3) lQ))))) nD)))),?_⟩
 have up:∀(x y:lN) H1,e8 H H1->X2 a.c_LY "one" "other" E H x y->(2<=1000/\xt (Bl K a.c_LY 2 (vh (Str.ofString "one") (Str.ofString "other"))) E0 a.c_LY [tx x,tx y] H1 λv H1=>∃e C d,v=.ref e/\H1 e=some (xo e C d)/\Xm K C/\E (.ref C) (some e) (upd H1 e (xr e C d))):=λx y H1 s1 z=>
  ⟨⋯,xt.of rfl λe H2 s2 n2 x2=>by obtain⟨d,hd,hx⟩:=EX x2;exact⟨e,_,d,rfl,hd,T.bg,z e _ (s1.trans (fq s2 n2)) hx⟩⟩
 have ln:=lk.len;omega;intro pr dr npr ndr ner;refine⟨pr,dr,x,m,rfl,mq,ok,λH1 r1 k1=>⟨rfl,?_⟩⟩;have s1:e8 H H1:=λb o e=>k1 b o (by rw[lR (mM e npr),lR (mM e ndr)];exact e) (mM e npr);obtain⟨d1,r1'⟩:=id r1;refine⟨pr,d1,_,rfl,r1',za nofun nofun,pr,x,m,rfl,r1,ok,λqw H2 s2 e2=>?_⟩;refine⟨qw,rfl,⟨_,.mk e2⟩,fA.list (xs:=(m5 x m).map tx) (λi U H'=>∃v3,U=[some (.ref b),some (tx m),some (tx x),v3]/\e8 H2 H'/\∀(j:Nat) (v:lN),j<i->(m5 x m)[j]?=some v->¬Av ws v) ⟨_,rfl,e8.refl _,λj v h=>by lia⟩ (λi U H' _ ⟨_,_,s',_⟩=>.mk (s' _ _ e2)) ?_ ?_⟩
 .rintro i y U H3 hx ⟨v3,rfl,s3,no⟩;obtain⟨w_,hw,rfl⟩:=uI hx;have wl:w_.length<=41:=by
   have:=(pM.mp (oW hw)).1.tail.len;rw[we]at this;have:=ok.l40
   lia
  omega;refine⟨b,ws,w_,rfl,s3 _ _ (s2 _ _ (s1 _ _ hb)),∅,∅,λH4 s4=>(fT (λh=>?_) (λh=>⟨_,rfl,s3.trans s4,λj v hj hv=>?_⟩))⟩
  .exact up x w_ H4 (((s1.trans s2).trans s3).trans s4) (qx w_ ⟨i,hw,vO.mp h,no⟩)
  .by_cases c:j<i
   .exact no j v c hv
   .have e:j=i:=by lia
    subst e;rw[hw]at hv;cases hv;exact λk=>h (vO.mpr k)
 .rintro U H3 ⟨v3,rfl,s3,no⟩;refine q (λw hw=>?_) H3 ((s1.trans s2).trans s3);obtain⟨j,hj,ej⟩:=qS hw;exact no j w (by rw[lZ];exact hj) (mX.mpr ⟨hj,ej⟩)
def Ie:fB P w K mg base (qk P w) 7 a.f_LD a.d_LD ["words","kinds"] (sp_LD K a):=by
 refine T.cR.u.okX yU (λAp A outer s H vs Q E hr h=>?_);obtain⟨b,ls,ws,m,rfl,hb,ok,lk,tk,q4,q2,q3⟩:=h;refine⟨_,(lW (oG (mG (Zrk T) (hM hr) rfl T.db mi (lM (pv 0) (lM (pv 1) lQ))))
  (mE (lW (mK (i:=2) yU.nd (mG (zY T) (hM hr) rfl T.cP mi (lM (pv 0) lQ)))
  (mE (lW (oG (mG (ZqZ T) (hM hr) rfl T.du mi (lM (pv 2) lQ)))
  (mE (lW (mK (i:=3) yU.nd (mG (ZqP T) (hM hr) rfl T.eM mi (lM (pv 2) (lM (pv 1) lQ))))
  (mE (lW (mK (i:=4) yU.nd (mG (Zq4 T) (hM hr) rfl T.eE mi (lM (pv 3) lQ)))
  (mE (lW (nA (m9 (Ds (K:=K) rfl) (on (l:=[]) nofun) (pv 4) rfl) (lY sv) nD)
  (mE (lW (mK (i:=5) yU.nd (mG (ZqX T) (hM hr) rfl T.dH mi (lM (pv 3) (lM (pv 4) lQ))))
  (mE (lW (nA (m9 tw (mZ (nU (K:=K) rfl) rfl T.cK nR (lM (pv 5) lQ)) (uC rfl T.c_KC) (mV _)) (lY (Fb FS rfl (HL T.bS T.i_LG T.cI (Zd3 T) (hM hr) T.b_LG mi rfl T.m_LG (lM (oF oM (pv 5) o5 (nX (mJ pj (uC rfl T.c_KC) me))) lQ)))) nD)
  (mE (lW (oG (mG (ZqW T) (hM hr) rfl T.dI Zm8 (lM (pv 2) (lM (pv 1) (lM (pv 5) lQ)))))
  (mE (lY (mN (pv 5))))))))))))))))))))),?_⟩
 omega;refine⟨b,ws,m,rfl,hb,ok,lk.gl,λH1 s1=>?_⟩;walk_at "h";have h1:=s1 _ _ hb;refine⟨b,ws,rfl,h1,λw hw=>mO (lk.gl.w41 w hw) ⋯,tk.same s1,λws' r H2 pm pw s2 tk2 nr h2=>?_⟩;have lk':=lk.perm pm;have cg:∀ {k:Nat} {x y:lN},Cg ws' m k x y->Cg ws m k x y:=λc=>by
  cases c with
  | long a b=>exact .long (C3 pm a) b
  | split a b c d=>exact .split (C3 pm a) b c ((xh pm _).mp d)
  | strip a b c=>exact .strip (C3 pm a) b λw hw k=>c w hw ((xh pm _).mpr k)
 have an:=lk'.an;have gl':=lk'.gl;have s02:fQ H H2:=s1.l.trans s2;walk_at "h";refine⟨r,ws',rfl,h2,an,λH3 s3=>?_⟩;walk_at "h";have h3:=s3 _ _ h2;refine⟨r,ws',m,rfl,h3,ok,gl',λpw kw ss H4 s4 n4 h4 wl sl=>?_⟩;walk_at "h";refine⟨pw,kw,ws',ss,m,rfl,h4,wl,sl,ok,gl',λpe es H5 s5 n5 h5 en=>?_⟩;have hnil:[]∈es:=(Fh gl' an sl en (.inl rfl)).mpr lk'.endd;walk_at "h";have s25:=s3.trans (s4.trans s5);refine⟨pe,es.map tx,rfl,.inl (.mk h5),rfl,uG es,?_⟩;rw[lU rfl,Bm,IA hnil];refine fS (ou ?_);omega;refine⟨pw,pe,kw,ws',ss,es,m,rfl,s5 _ _ h4,wl.same s5,sl,ok,gl',an,h5,en,hnil,λx H6 s6 lf=>?_⟩;have s26:=s25.trans s6;have xl:x.length<=60:=by obtain⟨l,hl,i⟩:=(lk'.av x lf.mem).mp lf.av;exact mO i.len (lk'.l60 l hl)
 walk_at "h";refine⟨_,_,rfl,ud ∅,fT (λh1=>?_) (λh1=>ou ?_)⟩
 .have lt:40<x.length:=by have:=IC h1;lia
  refine⟨_,rfl,x,rfl,sz _ ∅,?_⟩;rw[show ((40:Int)+1)=((41:Nat):Int) from rfl,wX];exact⟨⋯,xt.of rfl λe H7 s7 n7 x7=>by obtain⟨d,hd,hx⟩:=EX x7;exact⟨e,_,d,rfl,hd,T.bS,(q2 _ (cg (.long lf lt))) e _ (s02.trans (s26.trans (fq s7 n7)).l) (tk2.same (s26.trans (fq s7 n7))) hx⟩⟩
 have le:x.length<=40:=yD λk=>h1 (IA ∅);omega;refine⟨r,ws',m,x,rfl,s26 _ _ h2,gl',⟨ok.k,ok.m1,ok.m4,le,lf.mem⟩,λno H7 s7=>?_,λw fa e H4 s4 hx=>?_⟩
 .walk_at "h";have s27:=s26.trans s7;exact q4 x (cg (.strip lf le no)) H7 (s02.trans s27.l) (tk2.same s27)
 .obtain⟨i,hi,av,_⟩:=fa;exact q3 x w (cg (.split lf le (oW hi) av)) e H4 (s02.trans (s26.trans s4).l) (tk2.same (s26.trans s4)) hx
def Fd:fB P w K mg base mS 8 a.f_LP a.d_LP ["_law_words","_law_kinds_here"] (sp_LP K a):=by
 refine T.dM.u.ok wx (λAp A outer s H vs Q E hr h=>?_);obtain⟨b,ls,ws,m,rfl,hb,ok,lk,tk,q⟩:=h;refine⟨_,(lW (mK (i:=2) wx.nd wb)
  (lW (mK (i:=3) wx.nd wb)
  (lW (ZoB rfl rfl (Zk0 (Zm1 (i:=2) wx.nd rfl (Or.inl rfl) (Zk1 (Ie T) (hM hr) rfl T.cR.m T.cR.u.kp T.cR.b .nil (lM (pv 0) (lM (pv 1) lQ))))) (ZqL (i:=4) (λ_=>hr.hd) rfl T.cF wx.nd rfl rfl (λ_=>(lY (mK (i:=3) wx.nd (pv 4)))) ZoD))
  (mE (lW (nA (o8 (mZ (u4 (K:=K) rfl) rfl T.cL uY (lM (pv 3) (lM (wk (v:=.ref a.c_LN) rfl T.m_LN rfl) lQ)))) (lY sv) nD)
  (mE (lW (nA (o8 (mZ (u4 (K:=K) rfl) rfl T.cL uY (lM (pv 3) (lM (wk (v:=.ref a.c_LE) rfl T.m_LE rfl) lQ)))) (lY sv) nD)
  (mE (lW (nA (o8 (mZ (u4 (K:=K) rfl) rfl T.cL uY (lM (pv 3) (lM (wk (v:=.ref a.c_LG) rfl T.m_LG rfl) lQ)))) (lY (mN (qQ (lM (on (l:=[108,111,110,103]) nofun) (lM (Ct (K:=K) rfl (pv 3) rfl) (lM (on (l:=[]) nofun) lQ)))))) nD)
  (mE (lW (nA (o8 (mZ (u4 (K:=K) rfl) rfl T.cL uY (lM (pv 3) (lM (wk (v:=.ref a.c_LY) rfl T.m_LY rfl) lQ)))) (lY (mN (qQ (lM (on (l:=[115,112,108,105,116]) nofun) (lM (Ct (K:=K) rfl (pv 3) rfl) (lM (Ct (K:=K) rfl (pv 3) rfl) lQ)))))) nD)
  (mE (lY (mN (qQ (lM (on (l:=[115,116,114,105,112]) nofun) (lM (pv 2) (lM (on (l:=[]) nofun) lQ)))))))))))))))))),?_⟩
 have nd:=T.nd;simp only[rM,m6,List.not_mem_nil,or_false,not_or]at nd;obtain⟨⟨b1,b2,b3,b4⟩,⟨b5,b6,b7⟩,⟨b8,b9⟩,b0,_⟩:=nd;omega;refine⟨b,ls,ws,m,rfl,hb,ok,lk,tk,λx an H2 s2 tk2=>?_,λx an e H2 s2 tk2 hx=>?_,λx y an e H2 s2 tk2 hx=>?_⟩
 .walk_at "h";refine⟨_,_,_,_,false,rfl,rfl,.ty (.pl .non),zF T.cG,fS ?_⟩;ac_rfl;refine⟨_,_,_,_,false,rfl,rfl,.ty (.pl .non),zF T.cH,fS ?_⟩;ac_rfl;refine⟨_,_,_,_,false,rfl,rfl,.ty (.pl .non),zF T.bf,fS ?_⟩;ac_rfl;refine⟨_,_,_,_,false,rfl,rfl,.ty (.pl .non),zF T.bi,fS ?_⟩;ac_rfl;exact⟨sz _ ⋯,gB.of λpt H3 s3 n3 l3=>q 4 x [] pt H3 an (s2.trans s3.l) (tk2.same s3) l3⟩
 .refine⟨e,_,rfl,rfl,true,En (b:=true) T.bf T.k_K2 (by simp[rB]) (by simp[rB]),gJ ?_⟩;ac_rfl;refine⟨_,_,_,_,false,rfl,rfl,.exc hx T.bJ,vF T.bf T.cG (by simp_all [rB,eq_comm]) (λz=>by simp_all),fS ?_⟩;ac_rfl;refine⟨_,_,_,_,false,rfl,rfl,.exc hx T.bJ,vF T.bf T.cH (by simp_all [rB,eq_comm]) (λz=>by simp_all),fS ?_⟩;ac_rfl;refine⟨_,_,_,_,true,rfl,rfl,.exc hx T.bJ,vF T.bf T.bf (by simp[rB]) (λ_=>rfl),gJ ⟨e,_,_,_,rfl,hx,T.bS.c,T.aI,ZnE,sz _ ⋯,gB.of λpt H3 s3 n3 l3=>q 2 x [] pt H3 an (s2.trans s3.l) (tk2.same s3) l3⟩⟩
 .refine⟨e,_,rfl,rfl,true,En (b:=true) T.bi T.k_K2 (by simp[rB]) (by simp[rB]),gJ ?_⟩;ac_rfl;refine⟨_,_,_,_,false,rfl,rfl,.exc hx T.bh,vF T.bi T.cG (by simp_all [rB,eq_comm]) (λz=>by simp_all),fS ?_⟩;ac_rfl;refine⟨_,_,_,_,false,rfl,rfl,.exc hx T.bh,vF T.bi T.cH (by simp_all [rB,eq_comm]) (λz=>by simp_all),fS ?_⟩;ac_rfl;refine⟨_,_,_,_,false,rfl,rfl,.exc hx T.bh,vF T.bi T.bf (by simp_all [rB,eq_comm]) (λz=>by simp_all),fS ?_⟩;ac_rfl;refine⟨_,_,_,_,true,rfl,rfl,.exc hx T.bh,vF T.bi T.bi (by simp[rB]) (λ_=>rfl),gJ ⟨e,_,_,_,rfl,hx,T.bg.c,T.aR,Zrp nofun,e,_,_,_,rfl,hx,T.bg.c,T.aM,Zro,sz _ ⋯,gB.of λpt H3 s3 n3 l3=>q 3 x y pt H3 an (s2.trans s3.l) (tk2.same s3) l3⟩⟩
def EF:fB P w K mg base mS 8 a.f_LW a.d_LW ["_law_text_here","_law_kinds_here","_law_words"] (sp_LW K a):=by
 refine T.dN.u.ok Do (λAp A outer s H vs Q E hr h=>?_);have As:=hr.units;obtain⟨b,l,m,rfl,hb,ok,tk,q⟩:=h;refine⟨_,(lW (mK (i:=3) Do.nd (CS T.bL (Zrg T) (hM hr) rfl T.m_LF T.dz.b .nil mi (lM (pv 0) (lM (pv 1) lQ))))
  (mE (lW (oJ oq rfl (pB (K:=K) rfl (pv 2)) (m7 (i:=4) Do.nd rfl (Or.inl rfl))
  (lY (nA (PW.pt (rm (m9 Znc (qW (pv 3) T.a8 T.a9 (Du T) (hM hr) T.cO.b .nil mi (lM (pv 4) lQ)) wb (mV _)) (rm (m9 Cf (qW (pv 3) T.a8 T.a9 (Du T) (hM hr) T.cO.b .nil mi (lM (oF oM (pv 4) (nX me) o5) lQ)) wb (mV _)) (uP (m9 Cf (qW (pv 3) T.a8 T.a9 (Du T) (hM hr) T.cO.b .nil mi (lM (oF oM (pv 4) o5 (nX (A9 A5 me))) lQ)) wb (mV _)))))) (lY (mN qT)) nD)))
  (mE (lY (mN (pV (oU (K:=K) rfl As) (mG (Ie T) (hM hr) rfl T.cR Zm9 (lM (pv 2) (lM (pv 1) lQ))) (pv 0) (mV _)))))))),?_⟩
 have l40:=ok.l40;have m4:=ok.m4;have rise:=xg ok.k;omega;intro p dx np ndx ne;refine⟨p,dx,l,m,rfl,mq,ok,λsp H1 mo k1=>⟨rfl,ou ?_⟩⟩;have s1:e8 H H1:=λb o e=>k1 b o (by rw[lR (mM e np),lR (mM e ndx)];exact e) (mM e np);omega;refine⟨b,rfl,⟨_,.mk (s1 _ _ hb)⟩,fA.list (xs:=(m5 l m).map tx) (λi U H'=>∃v4,U=[some (tx l),some (tx m),some (.ref b),some (.ref p),v4]/\e8 H1 H') ⟨_,rfl,e8.refl _⟩ (λi U H' _ ⟨_,_,s'⟩=>.mk (s' _ _ (s1 _ _ hb))) ?_ ?_⟩
 .rintro i x U H2 hx ⟨v4,rfl,s2⟩;obtain⟨w_,hw,rfl⟩:=uI hx;have hm:=oW hw;have ms:=(pM.mp hm).1;have wm:=Bv ok.mem hm;have wl:=vA l40 hm;obtain⟨dx1,qa,ys,f1,_,_⟩:=id mo;have mo2:=mo.same s2;omega;refine⟨p,dx1,_,rfl,s2 _ _ f1,Bz nofun nofun,p,l,m,sp,w_,rfl,mo2,∅,wm,λv H3 s3 rv=>?_⟩;rcases rv with⟨_,rfl⟩|⟨z,_⟩
  .refine⟨trivial,?_⟩;rw[IA rfl];refine fS ⟨p,dx1,_,rfl,s3 _ _ (s2 _ _ f1),Bz nofun nofun,_,rfl,w_,rfl,sz _ ∅,?_⟩;rw[yX];refine⟨p,l,m,sp,w_.tail,rfl,mo2.same s3,by rw[we];lia,λc hc=>wm c (List.mem_of_mem_tail hc),λv H4 s4 rv=>?_⟩;rcases rv with⟨z,_⟩|⟨_,j,_,rfl⟩
   .exact IG ms.tail z
   refine⟨trivial,?_⟩;rw[IB (λz=>by cases z)];refine fS ⟨p,dx1,_,rfl,s4 _ _ (s3 _ _ (s2 _ _ f1)),Bz nofun nofun,_,rfl,w_,rfl,sz _ ∅,?_⟩;rw[Dr];refine⟨p,l,m,sp,w_.dropLast,rfl,(mo2.same s3).same s4,by rw[qm];lia,λc hc=>wm c (List.dropLast_subset _ hc),λv H5 s5 rv=>?_⟩;rcases rv with⟨z,_⟩|⟨_,j,_,rfl⟩
   .exact IG ms.init z
   refine⟨trivial,?_⟩;rw[IB (λz=>by cases z)];exact fS ⟨_,rfl,s2.trans (s3.trans (s4.trans s5))⟩
  .exact IG z ms.no
 .rintro U H2 ⟨v4,rfl,s2⟩;walk_at "k";have s02:=s1.trans s2;have lk:rJ [l] m (m5 l m):=Cy (Zk7 rise) {} ⟨BG rise,?_,λw hw=>(pM.mp hw).1.ne,λw hw=>vA l40 hw,λw hw=>Bv ok.mem hw⟩ λx hx=>by rw[mU.mp hx];lia
  have top:∀ {k:Nat} {x y:lN},Cg (m5 l m) m k x y->k=4/\x=l:=λc=>by
   rcases c.top lk (mU.mpr rfl) ok.mem (λu hu=>knS1.mp hu) with⟨z,_⟩|⟨_,e1,e2,_⟩
   .lia
   .exact⟨e1,e2⟩
  refine⟨b,[l],m5 l m,m,rfl,s02 _ _ hb,⟨ok.k,ok.m1,ok.m4⟩,lk,tk.same s02,λx c H3 s3 tk3=>?_,λx c=>?_,λx y c=>?_⟩
  .rw[(top c).2];exact z8 (q H3 (s02.l.trans s3) tk3)
  .cases (top c).1
  .cases (top c).1
  .have e:=ZiF (l:=l) rise;have:m.length*(l.length+1)<=4*41:=vy m4 ∅
   lia
def Zq1:fB P w K mg base mS 9 a.f_L9 a.d_L9 ["_law_script","_law_kinds_here","_law_text_here"] (sp_L9 K a):=by
 refine T.eI.u.ok wV (λAp A outer s H vs Q E hr h=>?_);have As:=hr.units;obtain⟨b,ns,l,m,rfl,hS,h63,ok,l60,lm,tk,q⟩:=h;refine⟨_,(lW (mK (i:=3) wV.nd (CS T.bN (Zq6 T) (hM hr) rfl T.m_LZ T.dR.b .nil mi (lM (pv 1) lQ)))
  (mE (lW (mK (i:=4) wV.nd (sK (Dg rfl) rfl T.dF v0 (lM (oF oM (pv 2) o5 (nX me)) lQ)))
  (mE (lW (oJ oq rfl (Zm5 rfl T.dC (lM (oF (ZkQ (K:=K) rfl) (pv 0) (nX me) (nX me)) lQ)) (ZoE rfl (Fy (m7 (i:=5) wV.nd rfl (Or.inl rfl)) (Fy (m7 (i:=6) wV.nd rfl (Or.inl rfl)) Zm6)))
  (mE (lW (mK (i:=7) wV.nd (mJ pI (mG (qA T) (hM hr) rfl T.cM mi (lM (pv 6) (lM me lQ))) me))
  (mE (lW (nA (PW.pt (uw (m9 (oU (K:=K) rfl As) (pv 7) me (mV _)) (uM (m9 (BB (K:=K) rfl As) (sO (pv 3) T.ae T.ao (ze T) (hM hr) T.cZ.b .nil mi) (on (l:=[]) nofun) (mV _))))) (lY (oG (sO (pv 3) T.ae T.bQ (Zq7 T) (hM hr) T.dS.b .nil mi))) (lY (nA (PW.pt (uw (m9 (oU (K:=K) rfl As) (pv 7) me (mV _)) (uM (m9 (BB (K:=K) rfl As) (sO (pv 3) T.ae T.bO (Zrd T) (hM hr) T.dE.b .nil mi) (qi lQ) (mV _))))) (lY (oG (sO (pv 3) T.ae T.bR (Zq8 T) (hM hr) T.dU.b .nil mi))) (lY (nA (PW.pt (uw (m9 (BB (K:=K) rfl As) (pv 4) (qi lQ) (mV _)) (uM (m9 xO (mZ (nU (K:=K) rfl) rfl T.cK nR (lM (sO (pv 3) T.ae T.ao (ze T) (hM hr) T.cZ.b .nil mi) lQ)) me (mV _))))) (lY (oG (qW (pv 3) T.ae T.bP (Zrm T) (hM hr) T.d7.b .nil mi (lM (rj rn PySem.F.slot_list_pop PySem.F.type_list_pop Zlg (pv 4) (lM me lQ)) lQ)))) nD)))))
  (lY (nA (PW.pt (uw (m9 (oU (K:=K) rfl As) (mJ pI (pv 5) me) me (mV _)) (uM (rF (o8 (mG (EF T) (hM hr) rfl T.dN mi (lM (sO (pv 3) T.ae T.ao (ze T) (hM hr) T.cZ.b .nil mi) (lM (pv 1) (lM (sO (pv 3) T.ae T.bj (Gs T) (hM hr) T.cX.b .nil mi) lQ))))))))) (mE (lY (mN qT))) nD)))))))
  (mE (lY (mN (mG (EF T) (hM hr) rfl T.dN mi (lM (sO (pv 3) T.ae T.ao (ze T) (hM hr) T.cZ.b .nil mi) (lM (pv 1) (lM (sO (pv 3) T.ae T.bj (Gs T) (hM hr) T.cX.b .nil mi) lQ)))))))))))),?_⟩
 have kok:zo m:=⟨ok.k,ok.m1,ok.m4⟩;omega;intro p dx np ndx ne;refine⟨p,dx,m,rfl,mq,kok,λla0 da H1 at1 nla nda k1=>⟨rfl,ou ?_⟩⟩;have s1:e8 H H1:=λb o e=>k1 b o (by rw[lR (mM e np),lR (mM e ndx)];exact e) (mM e np);have tk1:=tk.same s1;omega;refine⟨_,rfl,l,rfl,sz _ ∅,?_⟩;rw[show oH l none (some 40)=l.take 40 from wX l 40];have lm':∀c∈l.take 40,c∈m:=λc h=>lm c (o9 h);have ll':(l.take 40).length<=60:=by rw[nG];lia
 generalize l.take 40=lw at lm' ll';refine⟨lw,rfl,∅,fY.of λpl H2 s2 n2 h2=>ou ?_⟩;omega;refine⟨_,rfl,_,rfl,b,_,rfl,(s1.trans s2).seq hS,λpq nq=>?_⟩;have s3:e8 H2 (upd H2 pq (.lst (ie (ns.map V.int) (some 5) (some 63)))):=oR nq;have hq:upd H2 pq (.lst (ie (ns.map V.int) (some 5) (some 63))) pq=some (.lst (ie (ns.map V.int) (some 5) (some 63))):=mq;have lc:=ZlL (xs:=ns.map V.int) (lo:=some 5) (hi:=some 63);rw[lZ]at lc;have ac:∀v∈ie (ns.map V.int) (some 5) (some 63),∃c,v=V.int c:=λv hv=>Zkt hv;generalize ie (ns.map V.int) (some 5) (some 63)=cs at s3 hq lc ac;generalize upd H2 pq (.lst cs)=H3 at s3 hq;obtain⟨dx1,f1⟩:=id at1.fld;obtain⟨_,d1,_⟩:=id at1.deed;have n1:pl≠p:=λz=>by rw[z,f1]at n2;cases n2
 have n2':pl≠da:=λz=>by rw[z,d1]at n2;cases n2
 have n3:pq≠p:=λz=>by rw[z,s2 _ _ f1]at nq;cases nq
 have n4:pq≠da:=λz=>by rw[z,s2 _ _ d1]at nq;cases nq
 have n5:pq≠pl:=λz=>by rw[z,h2]at nq;cases nq
 have nl1:pl≠la0:=λz=>by rw[z,at1.lack]at n2;cases n2
 have last:∀ {H':Hp} {la:AD} {l2:lN} {ds:List (Bool×Nat)} {Q':VK},fE a.c_LZ H' p la da l2 m ds->TT a H'->(∀H'',fQ H' H''->TT a H''->Q' (.bl true) H'')->∀r,H' r=none->sp_LW K a [tx l2,tx m,.ref r] (upd H' r (.lst ((m5 l2 m).map tx))) Q' E0:=λ{H' la l2 ds Q'} at' tk' q' r nr=>
  ⟨r,l2,m,rfl,mq,⟨ok.k,ok.m1,ok.m4,at'.run.len,at'.run.mem⟩,tk'.same (oR nr),λH'' s'' tk''=>q' H'' ((oR nr).l.trans s'') tk''⟩
 refine⟨pq,rfl,⟨_,.mk hq⟩,fA.enum (xs:=cs) (λi U H'=>∃v5 v6 v7 la l2 ds n,U=[some (.ref b),some (tx m),some (tx l),some (.ref p),some (.ref pl),v5,v6,v7]/\qV a H' p da pl pq lw m cs i la l2 ds n) ⟨_,_,_,la0,[],[],0,rfl,(at1.same s2).same s3,mC _,(tk1.same s2).same s3,s3 _ _ h2,hq,nl1⟩ (λi U H' _ ⟨_,_,_,_,_,_,_,_,k⟩=>.mk k.cs) ?_ ?_⟩
 .rintro i z p5 U H5 hz ⟨v5,v6,v7,la,l2,ds,n,rfl,mv⟩ n6;obtain⟨c,rfl⟩:=ac z (oW hz);have i63:i<cs.length:=(mX.mp hz).1;have s6:e8 H5 (upd H5 p5 (.tup [.int i,.int c])):=oR n6;omega;refine⟨p5,_,rfl,.mk mq,rfl,_,_,rfl,_,_,rfl,rfl,?_⟩;generalize upd H5 p5 (.tup [.int i,.int c])=H6 at s6;replace mv:=mv.same s6;ac_rfl;refine⟨_,_,rfl,λwy0 _=>⟨(by show (0:Int)<6;decide),ou ?_⟩⟩;refine seqI (λU2 H2=>∃la l2 ds n,U2=[some (.ref b),some (tx m),some (tx l),some (.ref p),some (.ref pl),some (.int i),some (.int c),some (.int (wy0 % 6))]/\qV a H2 p da pl pq lw m cs (i+1) la l2 ds n) (λT0 tail=>?_) ?_
  .obtain⟨dx6,f6⟩:=id mv.st.fld;have mvK:qV a H6 p da pl pq lw m cs (i+1) la l2 ds n:=⟨mv.st,Nat.le_succ_of_le mv.ld,mv.tt,mv.ln,mv.cs,mv.nl⟩;have l40:=mv.st.run.len;have ld:=mv.ld;show i5 _ _ _ _ _ _;refine Cr (λH'=>e8 H6 H'/\l2≠[]) (λH'=>e8 H6 H') (λX Y hX hY=>?_) ?_ λH' s'=>?_
   .omega;refine Bg λb0 _=>fT (λ_=>⟨p,dx6,_,rfl,f6,sN,p,la,da,l2,m,ds,rfl,mv.st,Znl λk hk=>fT (λh=>hX H6 ⟨e8.refl _,hk.mp h⟩) (λ_=>hY H6 (e8.refl _))⟩) (λ_=>fS (hY H6 (e8.refl _)))
   .rintro H' ⟨s',ne⟩;obtain⟨c1,l1,rfl⟩:∃c1 l1,l2=c1::l1:=by
     cases l2 with
     | nil=>exact IG rfl ne
     | cons c1 l1=>exact⟨c1,l1,rfl⟩
    have mv':=mv.same s';omega;refine⟨p,dx6,_,rfl,s' _ _ f6,sN,p,la,da,c1,l1,m,ds,rfl,mv'.st,∅,mv'.tt,λt c g la2 H8 q1 q2 q3 q4=>tail _ _ ⟨_,_,_,_,rfl,mv'.next n1 n2' n3 n4 q1 q2 q3 q4 (by rw[mP];exact yO ld)⟩⟩
   refine Cr (λH'=>e8 H6 H'/\ds≠[]) (λH'=>e8 H6 H') (λX Y hX hY=>?_) ?_ λH' s'=>?_
   .obtain⟨ts,d6,dA⟩:=id mv.st.deed;omega;refine Bg λb0 _=>fT (λ_=>⟨p,dx6,_,rfl,s' _ _ f6,sN,p,la,da,l2,m,ds,rfl,mv.st.same s',λr1 ts1 nr1 dA1=>⟨nO _,fY.of λr2 H8 s8 n8 h8=>?_⟩⟩) (λ_=>fS (hY H' s'));have s18:=s'.trans ((oR nr1).trans s8);exact Zlf (.mk (s8 _ _ mq)) (dA1.chg (S:=[]) ((oR nr1).trans s8).chg {}) (.mk h8) (λne=>gJ (hX H8 ⟨s18,ne⟩)) (λ_=>fS (hY H8 s18))
   .rintro H8 ⟨s8,ne⟩;have mv':=mv.same s8;omega;refine⟨p,dx6,_,rfl,s8 _ _ f6,sN,p,la,da,l2,m,ds,rfl,mv'.st,∅,mv'.tt,?_⟩;have go:∀ {t c g la2:AD} {H9:Hp} {l3:lN} {ds0:List (Bool×Nat)} {x:Bool×Nat} {rc rg:List (lN×IJ)},ds=ds0++[x]->nQ [p,da] H8 H9->fE a.c_LZ H9 p la2 da l3 m ds0->iq H8 H9 t c g la2 rc rg->TT a H9->qV a H9 p da pl pq lw m cs (i+1) la2 l3 ds0 n:=λe q1 q2 q3 q4=>mv'.next n1 n2' n3 n4 q1 q2 q3 q4 (by rw[e,mP]at ld;lia)
    obtain⟨ds0,c0,⟨e,l0,h,_⟩|⟨e,_⟩⟩:=mv.st.run.last ne
    .exact .inl ⟨ds0,c0,l0,e,h,λt c g la2 H9 q1 q2 q3 q4=>tail _ _ ⟨_,_,_,_,rfl,go e q1 q2 q3 q4⟩⟩
    .exact .inr ⟨ds0,c0,e,λt c g la2 H9 q1 q2 q3 q4=>tail _ _ ⟨_,_,_,_,rfl,go e q1 q2 q3 q4⟩⟩
   refine Cr (λH'=>e8 H6 H'/\lw.drop n≠[]/\l2.length<40) (λH'=>e8 H6 H') (λX Y hX hY=>?_) ?_ λH' s'=>tail _ _ ⟨_,_,_,_,rfl,mvK.same s'⟩
   .omega;refine⟨nO _,fY.of λr2 H8 s8 n8 h8=>Znm (.mk (s8 _ _ (s' _ _ mv.ln))) (.mk h8) (fT (λh=>⟨p,dx6,_,rfl,s8 _ _ (s' _ _ f6),sN,p,la,da,l2,m,ds,rfl,mv.st.same (s'.trans s8),_,_,rfl,qD ∅,fT (λh1=>hX H8 ⟨s'.trans s8,λz=>?_,?_⟩) (λ_=>hY H8 (s'.trans s8))⟩) (λ_=>fS (hY H8 (s'.trans s8))))⟩
    .rw[z]at h;cases h
    .have:=IC h1;lia
   .rintro H8 ⟨s8,ne,lt⟩;have mv':=mv.same s8;obtain⟨c0,r,e⟩:∃c0 r,lw.drop n=c0::r:=by
     cases z:lw.drop n with
     | nil=>exact IG z ne
     | cons c0 r=>exact⟨c0,r,rfl⟩
    have er:lw.drop (n+1)=r:=by rw[<-rH,e];rfl
    have mc:c0∈m:=lm' c0 (pJ (by rw[e];simp));have ln:=mv'.ln;rw[e]at ln;omega;refine⟨p,dx6,_,rfl,s8 _ _ f6,sN,.inl ⟨rfl,_,.mk ln⟩,pl,_,0,0,tx [c0],rfl,rfl,ln,⋯,⋯,by simp[seqIndex?,fK],rfl,p,la,da,l2,m,ds,c0,rfl,mv'.st.upd ln mv.nl n2',∅,mv'.tt.upd ln rfl rfl,mc,lt,λt c g la2 H9 q1 q2 q3 q4=>tail _ _ ⟨_,_,_,_,rfl,qV.next (n:=n+1) ⟨mv'.st.upd ln mv.nl n2',ld,mv'.tt.upd ln rfl rfl,?_,?_,mv.nl⟩ n1 n2' n3 n4 q1 q2 q3 q4 (by rw[mP];exact yO ld)⟩⟩
    .rw[er];exact mq
    .rw[lR n5];exact mv'.cs
  .rintro U2 H7 ⟨la7,l7,ds7,n7,rfl,mv7⟩;omega;obtain⟨dx7,f7⟩:=id mv7.st.fld;exact⟨⋯,Bg λb0 _=>fT (λ_=>⟨p,dx7,_,rfl,f7,sN,p,_,da,_,m,_,rfl,mv7.st,p,dx7,_,rfl,f7,sN,p,_,da,_,m,_,rfl,mv7.st,last mv7.st mv7.tt λH'' s'' t''=>fS ⟨_,_,_,_,_,_,_,rfl,mv7.l s'' t''⟩⟩) (λ_=>fS ⟨_,_,_,_,_,_,_,rfl,mv7⟩)⟩
 .rintro U H5 ⟨v5,v6,v7,la,l2,ds,n,rfl,mv⟩;bv_omega;refine ou ?_;obtain⟨dx5,f5⟩:=id mv.st.fld;omega;exact⟨p,dx5,_,rfl,f5,sN,p,_,da,_,m,_,rfl,mv.st,p,dx5,_,rfl,f5,sN,p,_,da,_,m,_,rfl,mv.st,last mv.st mv.tt λH'' _ _=>q H''⟩
def Zq3:fB P w K mg base mS 9 a.f_L4 a.d_L4 ["_law_text_here","_law_kinds_here"] (sp_L4 K a):=by
 refine T.eJ.u.ok CN (λAp A outer s H vs Q E hr h=>?_);have As:=hr.units;obtain⟨l,m,rfl,ok,l60,lm,tk,q⟩:=h;refine⟨_,(lW (mK (i:=2) CN.nd (mG (Ek T) (hM hr) rfl T.dk mi (lM (qi (lM (pv 0) lQ)) (lM (pv 1) lQ))))
  (mE (lW (nA (PW.pt (rm (m9 tw (mZ (Zkw rfl) rfl T.eV ZpV (lM (qz (N:=["_law_word"]) (ix:=[none]) rfl (pY rfl) rfl (pB (K:=K) rfl (pv 2)) (λ_ _ _ _=>(m7 (i:=0) (show (["_law_word"]:AJ).Nodup from by decide +kernel) rfl (Or.inl rfl) (Or.inr rfl))) (λ_ _ _ _=>sL) (λ_ _ _ _=>(mZ (nU (K:=K) rfl) rfl T.cK nR (lM (pv 0) lQ)))) lQ)) me (mV _)) (rm (m9 tw (mZ (nU (K:=K) rfl) rfl T.cK nR (lM (pv 2) lQ)) me (mV _)) (uP (m9 tw (mZ (Zkv rfl) rfl T.eY ZpU (lM (qz (N:=["_law_word"]) (ix:=[none]) rfl (pY rfl) rfl (pB (K:=K) rfl (pv 2)) (λ_ _ _ _=>(m7 (i:=0) (show (["_law_word"]:AJ).Nodup from by decide +kernel) rfl (Or.inl rfl) (Or.inr rfl))) (λ_ _ _ _=>sL) (λ_ _ _ _=>(mZ (nU (K:=K) rfl) rfl T.cK nR (lM (pv 0) lQ)))) lQ)) me (mV _)))))) (lY (mN qT)) nD)
  (mE (lW (mK (i:=3) CN.nd (mG (Fd T) (hM hr) rfl T.dM mi (lM (pv 2) (lM (pv 1) lQ))))
  (mE (lW (nA (m9 GG (mZ (nU (K:=K) rfl) rfl T.cK nR (lM (pv 0) lQ)) me (mV _)) (lY (mN (pV (oU (K:=K) rfl As) (pv 3) (qQ (lM (on (l:=[115,116,114,105,112]) nofun) (lM (pv 0) (lM (on (l:=[]) nofun) lQ)))) (mV _)))) nD)
  (mE (lY (mN (sV (pV (oU (K:=K) rfl As) (ph (sk (K:=K) rfl) (pv 3) me (λ_ _=>rfl)) (on (l:=[108,111,110,103]) nofun) (mV _)) (sV (mG (BZ T) (hM hr) rfl T.eB mi (lM (pv 1) (lM (ph (sk (K:=K) rfl) (pv 3) me (λ_ _=>rfl)) lQ))) (sV (pV (oU (K:=K) rfl As) (mZ (nU (K:=K) rfl) rfl T.cK nR (lM (ph (sk (K:=K) rfl) (pv 3) me (λ_ _=>rfl)) lQ)) me (mV _)) (vQ (mG (yo T) (hM hr) rfl T.cT mi (lM (ph (sk (K:=K) rfl) (pv 3) me (λ_ _=>rfl)) (lM (pv 0) lQ))))))))))))))))),?_⟩
 have m4:=ok.m4;have l1':∀x∈[l],x.length<=60:=λx hx=>by rw[mU.mp hx];exact l60
 omega;refine⟨sz 1 ⋯,fY.of λp1 H1 s1 n1 l1=>⟨p1,[l],m,rfl,l1,ok,{},l1',λpw ws H2 s2 n2 h2 ms=>?_⟩⟩;have wne:ws≠[]:=ZjQ ms {} ok.m1 l1';have wl:∀w∈ws,w.length<=61:=λw hw=>ms.len l1' hw;have wc:ws.length<=1000:=by
  have e:=ms.count l1';have:m.length*(60+1)<=4*61:=vy m4 (mC _);rw[oC]at e
  lia
 have s02:=s1.trans s2;have cm:∀(H0:Hp) (Q0:VK),H0 pw=some (.lst (ws.map tx))->(∀p H',e8 H0 H'->H' p=some (.lst ((ws.map λw=>((w.length:Nat):Int)).map V.int))->Q0 (.ref p) H')->fk (t7 K pw) [none] (qp 0) jl (zf (λxs H Q=>∃x n,xs=[x]/\iZ K x H n/\Q (V.int n) H) (BR (jj 0) je)) H0 Q0:=λH0 Q0 h0 q0=>by
  refine fk.listM (xs:=ws.map tx) (λ_=>true) (λi=>.int ((ws.getD i []).length:Nat)) (by rw[lZ];lia) (.mk h0) (λi H' Q' _ _ q=>q H' (e8.refl _)) ?_ ?_
  .intro i H3 Q3 hi _ s3 q3;rw[lZ]at hi;rw[tJ hi];have:=wl (ws.getD i []) (by rw[nN,mT hi];exact rq hi);omega;exact⟨_,_,rfl,ud ∅,q3 H3 (e8.refl _)⟩
  .intro p3 H3 s3 n3 l3;refine q0 p3 H3 s3 ?_;rw[l3,gt,lZ,oX];congr 2;apply qZ {};intro i h1 h2;have hi:i<ws.length:=by simpa using h2
   simp[nN,hi]
 walk_at "h";refine⟨pw,rfl,⟨_,.mk h2⟩,cm _ _ h2 λp3 H3 s3 l3=>⟨p3,_,rfl,l3,~~~wne,λr _ mx=>?_⟩⟩;have qt:∀H',e8 H2 H'->Q (.bl true) H':=λH' s=>q H' (s02.trans s).l (tk.same (s02.trans s));refine fT (λ_=>(lU trivial).mpr (qt H3 s3)) (λg1=>⟨_,_,rfl,.inl ⟨_,.mk (s3 _ _ h2),rfl⟩,fT (λ_=>(lU trivial).mpr (qt H3 s3)) (λg2=>⟨pw,rfl,⟨_,.mk (s3 _ _ h2)⟩,cm _ _ (s3 _ _ h2) λp4 H4 s4 l4=>⟨p4,_,rfl,l4,fT (λ_=>qt H4 (s3.trans s4)) (λ_=>ou ?_)⟩⟩)⟩);have gl:GL m ws:=by
  refine⟨ms.nd,?_,λw hw=>((ms.iff w).mp hw).1,λw hw=>?_,λw hw=>ms.mem (λx hx=>by rw[mU.mp hx];exact lm) hw⟩
  .have:¬(200:Int)<((ws.map tx).length:Nat):=λz=>g2 (IA z);rw[lZ]at this
   lia
  .have e1:=mx _ (nj.mpr ⟨w,hw,rfl⟩);have:¬41<r:=λz=>g1 (IA z)
   lia
 have lk:=Cy ms {} gl l1';have s24:=s3.trans s4;have h4:=s24 _ _ h2;omega;refine⟨pw,[l],ws,m,rfl,h4,ok,lk,tk.same (s02.trans s24),λk x y t H5 cg s5 tk5 t5=>ou ?_⟩;have s05:fQ H H5:=(s02.trans s24).l.trans s5;omega;rcases cg.top lk (mU.mpr rfl) lm (λu hu=>knS1.mp hu) with⟨g,rfl,rfl⟩|⟨g,rfl,rfl,rfl⟩
 .refine⟨_,_,rfl,ud ∅,fT (λh=>IG (IC h) ∅) (λ_=>ou ?_)⟩;omega;have tl:(l.take 41).length=41:=by rw[nG];lia
  refine⟨t,_,_,_,rfl,rfl,.mk t5,iI,z8 (gJ ⟨t,_,_,_,rfl,rfl,.mk t5,rfl,m,_,rfl,∅,λH6 s6=>?_⟩)⟩;rw[show ((l.take 41).all λc=>m.contains c)=true from qE.mpr λc hc=>by simpa using lm c (o9 hc)];have t6:=s6 _ _ t5;refine gJ ⟨t,_,_,_,rfl,rfl,.mk t6,rfl,_,_,rfl,ud ∅,?_⟩;rw[tl];refine eq_int (gJ ⟨t,_,_,_,rfl,rfl,.mk t6,rfl,_,_,rfl,∅,∅,?_⟩);rw[show gc (l.take 41) l=true from qI.mpr (Zfp _ _)];exact q H6 (s05.trans s6.l) (tk5.same s6)
 .refine⟨_,_,rfl,ud ∅,fT (λ_=>?_) (λh=>IG (IA ∅) h)⟩;exact⟨sz 3 ⋯,gB.of λp6 H6 s6 n6 l6=>DJ (.mk (s6 _ _ t5)) (.mk l6) rfl (q H6 (s05.trans s6.l) (tk5.same s6))⟩
def ZqQ:fB P w K mg base mS 9 a.f_both a.d_MC ["_law_one","_law_other","_law_kinds_here"] (sp_MC K a):=by
 refine T.eN.u.ok Cu (λAp A outer s H vs Q E hr h=>?_);have As:=hr.units;obtain⟨l1,l2,m,rfl,ok,l60,k60,lm,km,tk,q⟩:=h;refine⟨_,(lW (mK (i:=3) Cu.nd (mG (Ek T) (hM hr) rfl T.dk mi (lM (qi (lM (oF oM (pv 0) o5 (nX me)) (lM (oF oM (pv 1) o5 (nX me)) lQ))) (lM (pv 2) lQ))))
  (mE (lW (mK (i:=4) Cu.nd (mG (Fd T) (hM hr) rfl T.dM mi (lM (pv 3) (lM (pv 2) lQ))))
  (mE (lW (nA (o8 (mG (yo T) (hM hr) rfl T.cT mi (lM (oF oM (pv 0) o5 (nX me)) (lM (oF oM (pv 1) o5 (nX me)) lQ)))) (mE (lY (mN (pV (oU (K:=K) rfl As) (pv 4) (qQ (lM (on (l:=[115,116,114,105,112]) nofun) (lM (oF oM (pv 1) o5 (nX me)) (lM (on (l:=[]) nofun) lQ)))) (mV _))))) nD)
  (lW (nA (o8 (mG (yo T) (hM hr) rfl T.cT mi (lM (oF oM (pv 1) o5 (nX me)) (lM (oF oM (pv 0) o5 (nX me)) lQ)))) (mE (lY (mN (pV (oU (K:=K) rfl As) (pv 4) (qQ (lM (on (l:=[115,116,114,105,112]) nofun) (lM (oF oM (pv 0) o5 (nX me)) (lM (on (l:=[]) nofun) lQ)))) (mV _))))) nD)
  (lY (mN (sV (pV (oU (K:=K) rfl As) (ph (sk (K:=K) rfl) (pv 4) me (λ_ _=>rfl)) (on (l:=[115,112,108,105,116]) nofun) (mV _)) (vQ (mG (ZqT T) (hM hr) rfl T.d5 mi (lM (pv 3) (lM (pv 2) (lM (ph (sk (K:=K) rfl) (pv 4) me (λ_ _=>rfl)) (lM (ph (sk (K:=K) rfl) (pv 4) me (λ_ _=>rfl)) lQ))))))))))))))),?_⟩
 have m4:=ok.m4;have e12:∀x:lN,oH x none (some 12)=x.take 12:=λx=>wX x 12;omega;refine⟨_,rfl,l1,rfl,sz _ ∅,_,rfl,l2,rfl,sz _ ∅,sz 2 ⋯,fY.of λp1 H1 s1 n1 h1=>?_⟩;rw[e12,e12]at h1;obtain⟨a1,a2,am,bm⟩:(l1.take 12).length<=12/\(l2.take 12).length<=12/\(∀c∈l1.take 12,c∈m)/\∀c∈l2.take 12,c∈m:=⟨by rw[nG];lia,by rw[nG];lia,λc h=>lm c (o9 h),λc h=>km c (o9 h)⟩;have all:∀ {P:lN->Prop},P (l1.take 12)->P (l2.take 12)->∀x∈[l1.take 12,l2.take 12],P x:=λp1 p2 x hx=>by
  rcases m6.mp hx with e | e
  .rw[e];exact p1
  .rw[mU.mp e];exact p2
 refine⟨p1,[l1.take 12,l2.take 12],m,rfl,h1,ok,{},all ∅ ∅,λpw ws H2 s2 n2 h2 ms=>?_⟩;have s02:=s1.trans s2;have gl:GL m ws:=by
  refine⟨ms.nd,?_,λw hw=>((ms.iff w).mp hw).1,λw hw=>?_,λw hw=>ms.mem (all am bm) hw⟩
  .have e:=ms.count (n:=12) (all a1 a2);have:m.length*(12+1)<=4*13:=vy m4 (mC _);simp only[oN,wB]at e
   lia
  .have:=ms.len (n:=12) (all a1 a2) hw
   lia
 have lk:=Cy ms {} gl (all ∅ ∅);walk_at "h";refine⟨pw,_,ws,m,rfl,h2,ok,lk,tk.same s02,λk x y t H5 cg s5 tk5 t5=>ou ?_⟩;have s05:fQ H H5:=s02.l.trans s5;have w5:H5 pw=some (.lst (ws.map tx)):=s5 _ _ h2 rfl;have inL:∀ {u l:lN},qb [l1.take 12,l2.take 12] u->mj (l1.take 12) l->mj (l2.take 12) l->mj u l:=λ⟨z,hz,i⟩ i1 i2=>i.trans (all (P:=λz=>mj z _) i1 i2 z hz);omega;refine⟨_,rfl,l1,rfl,sz _ ∅,_,rfl,l2,rfl,sz _ ∅,?_⟩;rw[e12,e12];refine⟨_,_,rfl,∅,∅,fT (λg=>ou ?_) (λg1=>?_)⟩
 .omega;refine⟨_,rfl,l2,rfl,sz _ ∅,sz 3 ⋯,gB.of λp6 H6 s6 n6 l6=>?_⟩;rw[e12]at l6;rcases cg.top lk (l:=l2.take 12) {} bm (λu hu=>inL hu (qI.mp g) (mj.refl _)) with⟨z,_⟩|⟨_,rfl,rfl,rfl⟩
  .lia
  .exact DJ (.mk (s6 _ _ t5)) (.mk l6) rfl (q H6 (s05.trans s6.l) (tk5.same s6))
 .refine⟨_,rfl,l2,rfl,sz _ ∅,_,rfl,l1,rfl,sz _ ∅,?_⟩;rw[e12,e12];refine⟨_,_,rfl,∅,∅,fT (λg=>ou ?_) (λg2=>?_)⟩
  .omega;refine⟨_,rfl,l1,rfl,sz _ ∅,sz 3 ⋯,gB.of λp6 H6 s6 n6 l6=>?_⟩;rw[e12]at l6;rcases cg.top lk (l:=l1.take 12) {} am (λu hu=>inL hu (mj.refl _) (qI.mp g)) with⟨z,_⟩|⟨_,rfl,rfl,rfl⟩
   .lia
   .exact DJ (.mk (s6 _ _ t5)) (.mk l6) rfl (q H6 (s05.trans s6.l) (tk5.same s6))
  .obtain⟨rfl,lf,xl,hy,av⟩:=cg.two lk a1 a2 am bm (λz=>g1 (qI.mpr z)) (λz=>g2 (qI.mpr z));have ym:=Bv lf.mem hy;have yl:=vA xl hy;refine⟨t,_,_,_,rfl,rfl,.mk t5,iI,z8 (gJ ⟨t,_,_,_,rfl,rfl,.mk t5,rfl,t,_,_,_,rfl,rfl,.mk t5,rfl,pw,ws,m,x,y,rfl,w5,gl,ok,∅,∅,lf.mem,ym,(pM.mp hy).1.no,lf.av,av,λc hc=>lf.whole hc,λH6 s6=>q H6 (s05.trans s6.l) (tk5.same s6)⟩)⟩
def ok_law:fB P w K mg base mS 10 a.f_law a.d_law ["_law_script"] (spLaw K tb):=by
 refine T.eO.u.ok wq (λAp A outer s H vs Q E hr h=>?_) (λvs H Q E h=>by obtain⟨_,_,rfl,_⟩:=h;rfl)
 .have As:=hr.units;obtain⟨b,ns,rfl,hS,h63,tk,q⟩:=h;refine⟨_,(lW (mK (i:=1) wq.nd (mG (yY T) (hM hr) rfl T.df mi (lM (pv 0) (lM me lQ))))
   (mE (lW (mK (i:=2) wq.nd (mG (ZqU T) (hM hr) rfl T.d0 mi (lM (pv 1) lQ)))
   (mE (lW (mK (i:=3) wq.nd (mG (BH T) (hM hr) rfl T.dO mi (lM (mG (yY T) (hM hr) rfl T.df mi (lM (pv 0) (lM me lQ))) (lM (pv 1) (lM (pv 2) (lM me lQ))))))
   (mE (lW (nA (m9 (oU (K:=K) rfl As) (mJ pI (mG (qA T) (hM hr) rfl T.cM mi (lM (pv 1) (lM me lQ))) me) me (mV _)) (mE (lY (mK (i:=3) wq.nd (mJ qB (pv 3) (mG (BH T) (hM hr) rfl T.dO mi (lM (mG (yY T) (hM hr) rfl T.df mi (lM (pv 0) (lM me lQ))) (lM (mG (yY T) (hM hr) rfl T.df mi (lM (pv 0) (lM me lQ))) (lM (pv 2) (lM me lQ))))))))) nD)
   (mE (lW (mK (i:=4) wq.nd (mG (BH T) (hM hr) rfl T.dO mi (lM (mG (yY T) (hM hr) rfl T.df mi (lM (pv 0) (lM me lQ))) (lM (mG (qA T) (hM hr) rfl T.cM mi (lM (pv 1) (lM me lQ))) (lM (pv 2) (lM me lQ))))))
   (mE (lW (nA (PW.pt (rm (rF (o8 (mG (Zq3 T) (hM hr) rfl T.eJ mi (lM (pv 3) (lM (pv 2) lQ))))) (uP (rF (o8 (mG (ZqQ T) (hM hr) rfl T.eN mi (lM (pv 3) (lM (pv 4) (lM (pv 2) lQ))))))))) (mE (lY (mN qT))) nD)
   (mE (lY (mN (mG (Zq1 T) (hM hr) rfl T.eI mi (lM (pv 0) (lM (pv 2) (lM (pv 3) lQ)))))))))))))))))),?_⟩
  rw[<-T.e_K9]at tk;have tt:TT a H:=⟨tk,trivial⟩;omega;refine⟨b,ns,0,rfl,hS,⋯,λr0=>ou ?_⟩;omega;refine⟨_,rfl,λm mk m1 m4=>ou ?_⟩;have ok:KO m:=⟨mk,m1,m4⟩;omega;refine⟨b,ns,1,rfl,hS,⋯,λr1=>⟨_,_,m,40,rfl,m1,m4,⋯,⋯,λl1 h1 k1=>ou ?_⟩⟩;refine seqI (λU2 H2=>H2=H/\∃l,U2=[some (.ref b),some (.int r0),some (tx m),some (tx l),none]/\l.length<=60/\∀c∈l,c∈m) (λT0 tail=>?_) ?_
  .omega;refine⟨_,_,rfl,λr2 _=>⟨(by show (0:Int)<4;decide),Bg λb0 _=>fT (λ_=>ou ?_) (λ_=>tail _ _ ⟨rfl,l1,rfl,∅,k1⟩)⟩⟩;omega;refine⟨b,ns,3,rfl,hS,⋯,λr3=>⟨b,ns,4,rfl,hS,⋯,λr4=>⟨_,_,m,20,rfl,m1,m4,⋯,⋯,λl2 h2 k2=>⟨sz _ ∅,tail _ _ ⟨rfl,l1++l2,rfl,by rw[mP];lia,λc hc=>(nJ.mp hc).elim (k1 c) (k2 c)⟩⟩⟩⟩⟩
  .rintro U2 H2 ⟨rfl,l,rfl,l60,lm⟩;omega;refine⟨b,ns,2,rfl,hS,⋯,λr5=>⟨_,_,rfl,λr6 _=>⟨_,_,m,12,rfl,m1,m4,⋯,⋯,λl2 h2 k2=>ou ?_⟩⟩⟩;omega;refine⟨l,m,rfl,ok,l60,lm,tt,λH3 s3 t3=>fS ⟨l,l2,m,rfl,ok,l60,∅,lm,k2,t3,λH4 s4 t4=>fS (ou ?_)⟩⟩;omega;exact⟨b,ns,l,m,rfl,Zp9 hS (s3.trans s4),h63,ok,l60,lm,t4,λH5=>q H5⟩
end
end Pk92
structure PySem.W.Fast:Prop where(tw10002403831967467465 tw10052013691328483081 tw10160562430329835058 tw1022680734172633669 tw10259197598307204398 tw10371614069207959781 tw10398371322161208756 tw10467155269187089212 tw10681648601491932214 tw10824001181302589928 tw11039185240570734940 tw1109268063316151206 tw11106482412520727324 tw11292011178478496956 tw11371852312282818222 tw1163751580148722816 tw11826878942558068544 tw11888416769553608214 tw11912750520579967813 tw12206379129586481607 tw12298791914838283056 tw12318033456171486423 tw1231929003971438851 tw12465296172066255023 tw12745826910635211376 tw12863338812023470059 tw12868647500337162777 tw12935818446750177150 tw13173175389953146852 tw13252302537276749464 tw13334485770672993477 tw13386440956575120506 tw13435402788130608256 tw13650633206109526505 tw13879703387829240619 tw13906677425401359206 tw13921622592748934755 tw139476449493450997 tw14041344643025006035 tw14044544454926000902 tw14054413785114307649 tw14164671194137278582 tw14171398050775771079 tw14403946375795532617 tw14452603177635440044 tw14452937527059804688 tw14585680865879038130 tw1465366387814360084 tw14918120732005140227 tw14971423211678592506 tw15025950741369573524 tw15072116925150682001 tw15163218066561232514 tw15177305675589047698 tw15233661999306039673 tw15257082085071377269 tw15278650241591739719 tw15380846802946560864 tw15491046092736928158 tw15538006444646524693 tw15586449014049824658 tw15647816082150146533 tw15655882401602423345 tw15682768759641230606 tw15685533532616697880 tw15753011339699169995 tw15825342744888696912 tw15903887978570778971 tw15927184630949492581 tw15970308636245119377 tw16009705624061505794 tw1602772814274848044 tw16185862546670373248 tw16338173972885682800 tw16354361012388459376 tw16474415383586477696 tw16603471662710200552 tw16611353739866858376 tw16692175519397716439 tw16795003492341979617 tw16928562523429346701 tw17033599770822414053 tw17043136048979786718 tw17078049513350551138 tw17122264299375882506 tw17171610559698153801 tw17249958874477384856 tw17296893306092147661 tw17345255928435034880 tw17371589500782251946 tw17423418082348870246 tw17428186560642483215 tw1743449966661441225 tw17466053194167416187 tw17473549628846687942 tw1749923853782074932 tw17569090272747748456 tw17633555646110005894 tw17726473089411184848 tw17752694595883859838 tw17847033898959589154 tw17859313815122347917 tw1796972680795087347 tw18065080605239208821 tw18118402489250982174 tw18211631383767716849 tw18235318259792219535 tw18251388187627480883 tw18384092923411112919 tw18427899753363893066 tw1937835643436195986 tw2097450303349713476 tw2103623286790322919 tw2217841525437114630 tw2393320079591967187 tw2556209134531437183 tw3312683547610933985 tw3457103301687952067 tw3640854872734663255 tw3674475882794342016 tw3719852358242387332 tw3842087710269289613 tw394233374088492981 tw3984756846185220286 tw4123226306754282266 tw475285276104221358 tw4908430353778578384 tw493164726162748834 tw49703552988370466 tw509300142865569909 tw5137553455711248344 tw5506783589896724035 tw5527670106045744303 tw5731561003913648490 tw5743192771443906799 tw5770161996954008443 tw5861727491921930862 tw5965070864495425418 tw6335546353184628786 tw644147090074469396 tw6517461545377870496 tw6608613425226232965 tw666417680082792899 tw6722359707831203394 tw6723165826675928135 tw6761128193202882053 tw6826915264734985945 tw6834746413117061215 tw68352243717016382 tw7148718435252772582 tw717041933358507119 tw7224322476789891897 tw7366516653899515029 tw7494905414680812826 tw755641604007995879 tw7634519679914536103 tw7661289269811939576 tw7666184917974279065 tw7761068185902106156 tw7884752710123030454 tw7999031712345303085 tw801125516767084654 tw829084140156711735 tw8311994695166040346 tw843498945761071119 tw8584960106643269931 tw863735415464883943 tw9122685535943447638 tw9188265108953536112 tw9369004159502857043 tw9468978010757544950 tw9472035400821348096 tw9612200906520810472 tw9657592438769584652 tw9746766786831432437 tw9755052418950951756 tw9757819805678408558 tw9783892435515593658 tw9824601523879210710 tw9829522011197297443 tw9829584443820323062 tw9865444270005488572 tw11624056952250387599 tw12107390056453179675 tw1229381796941560553 tw13156683791564927573 tw13374316618237186340 tw13404112507152308601 tw136770888256307595 tw13832227177209902138 tw14247008169947094643 tw14546813793431311111 tw14630739952636234834 tw14905109720268367652 tw15736210955208016257 tw16184030982515083724 tw16515244943233928170 tw16528903271437954768 tw16566557866927646957 tw16790060539084639127 tw16948524256738388035 tw17139977698446772522 tw18137525481113620317 tw1894188274115426756 tw1924057509442995989 tw2193634078631053743 tw2379352970441640319 tw2544575224546373381 tw2657773805535434044 tw2679652418179434876 tw2720793345338362217 tw3024827930782358405 tw5004984653315273111 tw5495918041271486084 tw5589549308706960120 tw5718919587772084436 tw6076915643128783572 tw6706845592858569344 tw74337455443701989 tw8431981121723459330 tw870397827632064719 tw9239851977550974620:True)
open PySem PySem.W PyProof.Rows
set_option maxRecDepth 100000 in
set_option maxHeartbeats 0 in
theorem PySem.Challenge.cw_lackword_k92_whole_strips_and_lists_holds : PySem.Challenge.rw_lackword_k92_whole_strips_and_lists.Holds := by
 w_on;o_law;k_head;(case hw=>w_witness2)
 k_fill
 refine L2.lH (l:=PySem.Challenge.rw_lackword_k92_whole_strips_and_lists) (n:=63) (k:=10) (x:="_law_script") (CX:=L2.mS) (sp:=Pk92.spLaw) ["in_order"] rfl ⋯ rfl ⟨rfl,⋯,⋯⟩ (λw h Y=>PySem.W.km_in_of Y) (λ_=>by kernel_rfl) (by kernel_rfl) ?F ?S ?C
 case F=>
  intro w mg fa h tb KX G hmg hT;have T:∃t,Pk92.Txt (L2.KOf KX) mg t/\t.t_K9=(tb "in_order").2/\t.k_K9=(tb "in_order").1:=by
   dsimp only[L2.KOf];apply Pk92.txt_mk (t_K9:=(tb "in_order").2) (k_K9:=(tb "in_order").1) KX G
   (apply L2.xg_mk;(iterate 2 k_is);rfl;(iterate 10 k_is);rfl;rfl)
   iterate 4 k_is
   (apply L2.xg_mk;(iterate 2 k_is);rfl;(iterate 10 k_is);rfl;rfl)
   k_is
   (apply L2.mg_mk;iterate 4 k_is)
   k_is
   (apply L2.xg_mk;(iterate 2 k_is);rfl;(iterate 10 k_is);rfl;rfl)
   k_is
   (apply L2.mg_mk;iterate 4 k_is)
   iterate 2 k_is
   (apply L2.xg_mk;(iterate 2 k_is);rfl;(iterate 10 k_is);rfl;rfl)
   k_is
   (apply L2.mg_mk;iterate 4 k_is)
   iterate 2 k_is
   (apply L2.xg_mk;(iterate 2 k_is);rfl;(iterate 10 k_is);rfl;rfl)
   k_is
   (apply L2.mg_mk;iterate 4 k_is)
   iterate 81 k_is
   iterate 19 (apply L2.mg_mk;iterate 4 k_is)
   decide;iterate 44 (apply L2.dg_mk;iterate 4 k_is)
   iterate 21 k_is
  obtain⟨t,T,et_K9,ek_K9⟩:=T;have e0:=hmg.symm.trans T.eO.m;cases e0;have cd_K9:t.d_K9.code=.ref t.k_K9:=by obtain⟨o,e1,e2⟩:=T.cP.u.at KX;rw[ek_K9];exact(hT "in_order" {}).codeEq T.cP.m e1 e2
  refine' ⟨_,?b,λbase kb nb hL=>Pk92.ok_law (tb:=tb) { T with L_in_order:=by rw[et_K9,ek_K9];exact hL "in_order" {},cd_K9:=cd_K9,e_K9:=et_K9 }⟩;exact T.bl
 case S=>exact λK tb H a ns hl hP hS=>⟨a,ns,rfl,hS,hl,L2.lK (hP "in_order" {}),λ_=>rfl⟩
 case C=>exact λ_ _ _ _ z=>z
#print axioms PySem.Challenge.cw_lackword_k92_whole_strips_and_lists_holds
