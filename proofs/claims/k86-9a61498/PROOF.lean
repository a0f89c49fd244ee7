import PyProof.Rows.All
import Lean
import PyProof.EqAt
import PyProof.EqKinds
import PyProof.TupleCall
import PyProof.SetRoads
import PyProof.Rows.SetFrom
import PyProof.StrWalks
import PyProof.FactsAll.set
import PyProof.FactsAll.subtypes_3
import PyProof.CollectWalk
import PyProof.CollectStr
import PyProof.StationsW
import PyProof.RulesAs
import KE.KTryMore
import PyProof.NsDelKeeps
import PyProof.ListStr
import PyProof.TupleOfStr
import PyProof.ConsumeS
import KE.KEqDict
import PyProof.DictWalks
import PyProof.StrLawsTight
import PyProof.StrCalls2
import PyProof.DictUpdate
import PyProof.DictDisplay
import KE.KRevIter
import KE.KLam
import OpenK.KCell
import KE.KMinKey
import PyProof.Rows.StrInSeq3
import PyProof.ListRange
import PyProof.Rows.StrNews2
import KE.KDictList
import PyProof.ListNew
import PyProof.Rows.Range3
import KE.KDictLaws
import PyProof.DictRoadsH
import KE.KDictSum
import PyProof.DictItems
import PyProof.DictItemsLoops
import KE.KPairComp
import KE.KNestM
import PySem.Challenge.RW_lackword_k86_lines_that_move
namespace HK
open PySem PySem.W PyProof.Rows
def g(o:Obj):Option Obj:=match o with | ⟨_,_,.freed,_⟩=>none | o=>some o
abbrev R:=List (Nat×Option Obj)
noncomputable def p (l:List Obj):Nat→List Nat→R:=@List.rec Obj (fun _=>Nat→List Nat→R) (fun _ _=>[]) (fun o _ r i s=>@List.rec Nat (fun _=>R) [] (fun a t _=>@Bool.rec (fun _=>R) (r i.succ (a::t)) ((a,g o)::r i.succ t) (Nat.beq a i)) s) l
theorem q (h:Heap):∀ (l:List Obj) (i:Nat) (s:List Nat),(∀ j,h.objs[i+j]? = l[j]?)→∀ x∈p l i s,h.get? x.1=x.2
 | [],_,_,_,_,e=>nomatch e
 | _::_,_,[],_,_,e=>nomatch e
 | o::l,i,a::t,x,z,e=>by
  have y:∀ j,h.objs[i.succ+j]? = l[j]?:=fun j=>by have:=x (j+1); rw [show i+(j+1)=i.succ+j by omega] at this; simpa using this
  change z∈@Bool.rec (fun _=>R) (p l i.succ (a::t)) ((a,g o)::p l i.succ t) (Nat.beq a i) at e
  cases b:Nat.beq a i <;> rw [b] at e
  · exact q h l _ _ y z e
  obtain rfl:=Nat.eq_of_beq_eq_true b
  rcases List.mem_cons.mp e with rfl|e
  · have:=x 0; unfold Heap.get? g; rw [show h.objs[a]?=some o by simpa using this]; obtain ⟨_,_,d,_⟩:=o; cases d <;> rfl
  · exact q h l _ _ y z e
noncomputable def k (K:Params→Frag) (s u:List Nat):Hook where
 α:=R×List (Option Obj)
 obs:=fun x=>(p x.heap.objs.toList 0 s,u.map x.heap.get?)
 val:=fun w=>((K w.params).map fun p=>(p.1,some p.2),u.map fun _=>some (tabObj #[]))
 says:=fun w h=>InK K w h∧∀ P∈u,h.get? P=some (tabObj #[])
 of:=fun w x e=>⟨fun a o f=>q _ x.heap.objs.toList 0 s (by simp) (a,some o) (by rw [(Prod.mk.inj e).1]; obtain ⟨_,_,f,_⟩:=List.lookup_eq_some_iff.mp f; rw [f]; simp),List.map_inj_left.mp (Prod.mk.inj e).2⟩
 keeps:=fun w h i x k=>⟨InK.keeps w h i x.1 k,fun P y=>k _ _ (x.2 P y)⟩
theorem i {K s u w h} (Y:(k K s u).says w h):(K w.params).In h:=Y.1
end HK
local macro_rules | `(tactic| o_head ($_ $k $a $_ $t))=>`(tactic| o_head (HK.k $k $a $t))
open PySem.W(instObj methodObj hideAll hideAll_get of_hideAll hideAll_none lookIn plainGet hasDictIn findIn handedIn plainGet_of findObj_own isFn plainOver takerIn set_plain looks_clsIn makesIn typeIn emptyDict bind_fn keepIn specialIn takesIn mroIn kitOne kitx_list kitx_tuple kitx_dict cellsFrom_some fnOf codeIn notCls findObj looks_find looks_mroIn check_slot osa_eq clsIn readsIn findCls method_cls cls_value exmOne exm_one nsIn kla_fn)
set_option autoImplicit true
set_option compiler.extract_closed false
set_option bootstrap.genMatcherCode false
set_option genSizeOf false
local macro_rules | `(tactic| calc $e:term) => `(tactic| refine $e)
local macro_rules | `(tactic| let $p:term := $e:term) => do
  let c0 : Lean.Term → Lean.MacroM (Lean.TSyntax `rcasesPat) := fun t => match t with
    | `(_) => `(rcasesPat| _)
    | `($x:ident) => if x.getId.eraseMacroScopes == `Z then `(rcasesPat| $(Lean.mkIdent `rfl):ident) else `(rcasesPat| $x:ident)
    | _ => Lean.Macro.throwUnsupported
  let up := fun (c : Lean.Term → Lean.MacroM (Lean.TSyntax `rcasesPat)) (t : Lean.Term) => (match t with
    | `(⟨$xs,*⟩) => do
      let ys ← xs.getElems.mapM fun x => do
        let y ← c x
        `(Lean.Parser.Tactic.rcasesPatLo| $y:rcasesPat)
      `(rcasesPat| ⟨$[$ys],*⟩)
    | `(#[$xs,*]) => do
      let ys ← xs.getElems.mapM fun x => do
        let y ← c x
        `(Lean.Parser.Tactic.rcasesPatLo| $y:rcasesPat)
      `(rcasesPat| ⟨$[$ys],*⟩)
    | _ => c0 t : Lean.MacroM (Lean.TSyntax `rcasesPat))
  let y ← up (up (up (up c0))) p
  `(tactic| obtain $y:rcasesPat := $e)
local macro_rules | `(#[$xs,*]) => `(⟨$xs,*⟩)
local macro_rules | `(⇑$x) => `(($x).length)
local macro_rules | `(↑$x) => `(($x).toArray)
local macro_rules | `(↥$x) => `(($x).heap.objs.size)
local macro_rules | `(tactic| let $x:ident := $e) => `(tactic| have $x:ident := $e) | `(tactic| let $x:ident : $t := $e) => `(tactic| have $x:ident : $t := $e)
noncomputable section
def Z {α:Sort _}{a:α}:a=a:=rfl
open Option renaming some→U,none→O
open Bool renaming true→Y,false→J
open Decidable renaming decide→R
set_option relaxedAutoImplicit true
abbrev AA:=List (PySem.Addr×PySem.Obj)
abbrev AB:=PySem.Str->Option PySem.Value
abbrev AC:=List PySem.Value
abbrev AD:=PySem.Addr
abbrev AE:=PySem.Shared
abbrev AF:=PySem.FuncData
abbrev AG:=PySem.Program
abbrev AH:=PySem.Around
abbrev AI:=PySem.World
abbrev AJ:=List PySem.Str
abbrev p9:=List Nat
abbrev qi:=List (List Nat)
abbrev rh:=PySem.Value->PySem.Shared->Prop
abbrev qj:=PySem.W.Frag
set_option Elab.async false
set_option linter.all false
local macro_rules | `(∅) => `(by first | with_reducible exact Nat.zero_le _ | with_reducible exact Nat.le_refl _ | with_reducible assumption | lia)
local macro_rules | `(~~~$x) => `(by simpa using $x)
local macro_rules (kind := «term{}») | `({}) => `(by simp)
local macro_rules | `(nofun) => `(by decide +kernel)
local macro_rules | `(⋯) => `(by decide)
def NL:=@decide_eq_true_iff
def NM:=@decide_eq_true
def NN:=@decide_eq_false
def NO:=@of_decide_eq_true
def NP:=@decide_eq_false_iff_not
def NQ:=@congrArg
def NR:=@absurd
def NS:=@beq_iff_eq
def NT:=@decide_eq_true_eq
def qm:=@List.length_map
def qd:=@PySem.wpAny_bind
def qU:=@PySem.Heap.get?_push_of_some
def qO:=@Bool.false_ne_true
def qP:=@List.length_append
def qR:=@List.mem_singleton
def rD:=@List.getElem?_eq_getElem
def qv:=@PySem.wpAny_pure
def qJ:=@Nat.le_trans
def rY:=@List.getElem?_eq_some_iff
def sw:=@List.getD_eq_getElem?_getD
def qG:=@Nat.le_refl
def qe:=@if_neg
def qS:=@List.mem_cons
def qQ:=@PySem.Heap.lt_size
def r6:=@List.length_singleton
def rB:=@Bool.and_eq_true
def qg:=@if_pos
def rS:=@PySem.Heap.get?_push_size
def rF:=@List.length_cons
def rN:=@List.size_toArray
def si:=@List.mem_cons_of_mem
def rL:=@List.length_take
def qA:=@PyProof.Rows.wpS_bind
def sC:=@List.mem_of_getElem?
def rJ:=@List.mem_append
def su:=@Array.length_toList
def qy:=@Ne.symm
def se:=@List.getElem?_map
def rC:=@List.map_cons
def sA:=@List.mem_cons_self
def rj:=@List.mem_map
def sK:=@Nat.lt_of_lt_of_le
def qL:=@PyProof.Rows.wpS_pure
def tH:=@List.mem_of_mem_take
def rK:=@Nat.ne_of_lt
def tD:=@List.append_assoc
def rO:=@List.map_map
def ui:=@List.mem_append_right
def ug:=@List.length_filter_le
def ua:=@List.mem_of_mem_drop
def rM:=@Nat.zero_le
def sJ:=@List.map_append
def sS:=@PySem.PassesOwn.never
def tG:=@List.length_drop
def vj:=@List.getElem?_append_left
def vH:=@List.getElem?_append_right
def ue:=@Int.emod_lt_of_pos
def uU:=@List.take_of_length_le
def sT:=@List.mem_range
def uG:=@PySem.Heap.SameBut.update
def uW:=@Array.getElem?_toList
def sV:=@PySem.W.mg_of
def uF:=@PySem.W.mg_none_of
def tY:=@Int.emod_nonneg
def u5:=@List.take_append_drop
def u6:=@List.pairwise_append
def ur:=@List.all_eq_true
def tJ:=@Nat.lt_irrefl
def wj:=@PySem.Heap.get?_update_other
def vF:=@List.length_dropLast
def uY:=@List.length_range
def uJ:=@List.take_length
def u9:=@List.pairwise_cons
def wy:=@PySem.F.plainAttrs_str
def vN:=@Array.toList_extract
def zy:=@List.drop_append_of_le_length
def xA:=@PySem.F.plainAttrs_list
def uK:=@List.mem_filter
def wc:=@Array.toList_append
def xJ:=@List.drop_eq_nil_of_le
def tw:=@PySem.wpAny_mono
def u4:=@PySem.W.kia_one
def uX:=@List.nodup_cons
def wP:=@List.getElem?_eq_none
def xD:=@PySem.Heap.get?_update_self
def uI:=@PySem.wpAny_holding
def wC:=@List.length_pos_iff
def vf:=@Bool.eq_iff_iff
def wf:=@List.pairwise_map
def wO:=@List.mem_append_left
def xE:=@PySem.Around.under_plainId
def yz:=@PySem.F.type_list_append
def zb:=@PySem.F.slot_list_append
def xc:=@List.getElem_of_mem
def vR:=@List.lookup_cons
def vO:=@List.ext_getElem
def vQ:=@List.any_eq_true
def ww:=@PySem.wpAny_truthy_bool
def wM:=@PySem.wpAny_loadPart_at
def wq:=@Array.toList_push
def uO:=@PyProof.Rows.wpS_forRange
def vI:=@List.drop_zero
def vD:=@PySem.Heap.size_push
def Bm:=@List.take_append_of_le_length
def wE:=@List.mem_reverse
def BK:=@List.getLast?_eq_some_getLast
def yx:=@List.mem_map_of_mem
def xH:=@List.flatten_cons
def vV:=@PySem.wpAny_setField
def vZ:=@Bool.false_and
def yj:=@PySem.wpAny_Call_Name_kw
def zB:=@List.length_eq_zero_iff
def x9:=@List.filter_append
def wH:=@List.append_nil
def xZ:=@PySem.Calls.spliced_cons
def zu:=@PySem.W.looks_findIn
def xu:=@List.getElem_mem
def x8:=@PySem.wpAny_newObj_type
def zq:=@PySem.mem_of_lookup
def yN:=@List.replicate_succ
def zk:=@List.map_congr_left
def wG:=@List.drop_drop
def xG:=@Nat.min_eq_left
def wX:=@List.range_succ
def xC:=@List.nil_append
def yZ:=@PySem.W.callWith_K
def zh:=@List.map_singleton
def yY:=@Bool.false_eq_true
def vt:=@Nat.le_succ
def yc:=@List.not_mem_nil
def yw:=@List.cons_append
def vK:=@Nat.le_of_eq
def zj:=@List.take_sublist
def yJ:=@List.take_add_one
def zw:=@Int.toNat_natCast
def yI:=@Bool.eq_false_iff
def Ct:=@Array.getElem?_eq_some_iff
def vk:=@PySem.wpAny_rule
def uf:=@PyProof.Rows.wpS_mono
def B4:=@PySem.F.type_str_join
def BW:=@PySem.F.slot_str_join
def zV:=@List.contains_cons
def xY:=@List.take_zero
def xO:=@List.take_take
def Co:=@List.pairwise_iff_getElem
def Cf:=@List.dropLast_concat
def z8:=@List.nodup_append
def y8:=@List.length_nil
def yK:=@List.find?_cons
def zO:=@List.ext_getElem?
def yh:=@Bool.true_and
def zF:=@PySem.W.any_some
def Bc:=@Option.bind_some
def vY:=@PySem.wpAny_call
def yX:=@Bool.and_false
def Dg:=@PySem.Calls.callWith_builtin
def B2:=@List.getElem?_take
def BV:=@List.getElem?_drop
def DP:=@List.dropLast_concat_getLast
def zS:=@PySem.wpAny_passesOwn
def Cn:=@PySem.W.methodCall_KW
def yd:=@Nat.sub_self
def zN:=@List.foldl_cons
def Cu:=@List.dropLast_eq_take
def Cj:=@PySem.wpAny_setState_of
def zf:=@PySem.wpAny_attempt
def yH:=@List.sum_cons
def yE:=@List.all_cons
def B3:=@PySem.Calls.spliced_nil
def DO:=@List.drop_eq_getElem_cons
def B5:=@PySem.wpAny_askSetting
def Bi:=@Nat.succ_le_succ
def BJ:=@List.length_tail
def Ds:=@PySem.wpAny_isSubtype_exc
def xf:=@PyProof.Rows.wpS_modify
def Ck:=@PySem.wpAny_execs_nil
def EL:=@PySem.F.plainAttrs_dict
def Cy:=@PySem.Obj.data_mapFields
def CJ:=@Nat.lt_of_le_of_lt
def CF:=@PySem.wpAny_pyIter_list
def FN:=@PyProof.Rows.callWith_builtin1
def zR:=@List.map_nil
def D9:=@List.Perm.append_left
def CN:=@PySem.wpAny_call_entry
def Dj:=@List.mem_flatMap
def CB:=@List.filter_cons
def Fu:=@List.eq_nil_of_length_eq_zero
def Es:=@PySem.F.excBase_ValueError
set_option maxRecDepth 100000
theorem Qq(_:True:=by rfl):True:=trivial
theorem Qw(_:True:=by decide):True:=trivial
theorem Qz(_:True:=by first | calc .inl Z | calc .inr Z | assumption):True:=trivial
theorem Qx(_:True:=by intro _;rfl):True:=trivial
theorem Qv(_:True:=by walk_at "ln"):True:=trivial
theorem Qj(_:True:=by decide +kernel):True:=trivial
namespace L2
open PySem PySem.Spec PyProof.Rows
abbrev qt:=Sum Int Str
def yr:qt->Value->Bool
 | .inl k,v=>Value.isInt k v
 | .inr x,v=>Value.isStrOf x v
noncomputable def kh (w:AI):qt->Int
 | .inl k=>hashInt k
 | .inr x=>hashStr w x
theorem x6:∀ {k:qt} {v:Value},yr k v=Y->(∃i t,k=Sum.inl i/\v=Value.int i t)\/(∃x t,k=Sum.inr x/\v=Value.str x t)
 | .inl i,v,h=>by
  let#[t,e]:=Value.isInt_shape (k:=i) (v:=v) h;exact .inl #[i,t,Z,e]
 | .inr x,v,h=>by let#[t,e]:=Value.isStrOf_shape (x:=x) (v:=v) h;calc .inr #[x,t,Z,e]
def Zkz (i:Int)(t:Tok):yr (.inl i) (.int i t)=Y:=by simp[yr,Value.isInt]
def Zky (x:Str)(t:Tok):yr (.inr x) (.str x t)=Y:=by simp[yr,Value.isStrOf]
def Zqd (a b:Int):R ((Sum.inl a:qt)=Sum.inl b)=(a == b):=by
 by_cases e:a=b
 .subst e;simp
 .let h:¬(Sum.inl a:qt)=Sum.inl b:=λq=>e (Sum.inl.inj q);rw[NN h];calc(beq_eq_false_iff_ne.mpr e).symm
def Zqa (a b:Str):R ((Sum.inr a:qt)=Sum.inr b)=R (a=b):=by
 by_cases e:a=b
 .subst e;simp
 .let h:¬(Sum.inr a:qt)=Sum.inr b:=λq=>e (Sum.inr.inj q);rw[NN h,NN e]
def Zqc (a:Int)(b:Str):R ((Sum.inl a:qt)=Sum.inr b)=J:=NN (λq=>nomatch q)
def Zqb (a:Str)(b:Int):R ((Sum.inr a:qt)=Sum.inl b)=J:=NN (λq=>nomatch q)
def rG (prog:AG)(w:AI):PySem.KeyKind prog w qt where
 is:=yr
 hash:=kh w
 inj:=λv a b g d=>by
  rcases x6 g with⟨i,t,rfl,rfl⟩|⟨x,t,rfl,rfl⟩
  .rcases x6 d with⟨j,u,rfl,e⟩|⟨y,u,rfl,e⟩
   .injection e with e1 _;rw[e1]
   .exact nomatch e
  .rcases x6 d with⟨j,u,rfl,e⟩|⟨y,u,rfl,e⟩
   .exact nomatch e
   .injection e with e1 _;rw[e1]
 byValue:=λk v h=>by rcases x6 h with⟨i,t,rfl,rfl⟩|⟨x,t,rfl,rfl⟩<;>rfl
 pyHash:=λc h=>by
  rcases x6 c with⟨i,t,rfl,rfl⟩|⟨x,t,rfl,rfl⟩
  .exact wpAny_pyHash_int h
  .exact wpAny_pyHash_str h
 eqBool:=λf c h=>by
  rcases x6 f with⟨i,t,rfl,rfl⟩|⟨x,t,rfl,rfl⟩
  .rcases x6 c with⟨j,u,rfl,rfl⟩|⟨y,u,rfl,rfl⟩
   .rw[Zqd]at h;exact wpAny_eqBool_int h
   .rw[Zqc]at h;exact SeqAt.EqAt.int_str i t y u _ _ _ _ h
  .rcases x6 c with⟨j,u,rfl,rfl⟩|⟨y,u,rfl,rfl⟩
   .rw[Zqb]at h;exact SeqAt.EqAt.str_int x t j u _ _ _ _ h
   .rw[Zqa]at h;exact wpAny_eqBool_str h
 «strs»:=λk x t v h=>by
  rcases x6 h with⟨i,u,rfl,e⟩|⟨y,u,rfl,e⟩
  .exact nomatch e
  .injection e with e1 _;subst e1;cases v<;>rfl
def Zho (prog:AG)(w:AI)(i:Int)(t:Tok):(rG prog w).is (.inl i) (.int i t)=Y:=Zkz i t
def Jg (prog:AG)(w:AI)(x:Str)(t:Tok):(rG prog w).is (.inr x) (.str x t)=Y:=Zky x t
inductive V where
 | non | bl (b:Bool) | int (i:Int) | str (x:Str) | byt (b:Array UInt8) | flt (b:UInt64) | ref (a:AD) | ty (n:String)
 deriving DecidableEq
abbrev NU:=List V
set_option genInjectivity false
def ia:V->Value->Prop
 | .non,u=>u=Value.none
 | .bl b,u=>u=Value.bool b
 | .int i,u=>∃t,u=Value.int i t
 | .str x,u=>∃t,u=Value.str x t
 | .byt b,u=>∃t,u=Value.bytes b t
 | .flt b,u=>∃t,u=Value.float b t
 | .ref a,u=>u=Value.ref a
 | .ty n,u=>u=Value.type n
abbrev hJ:NU->AC->Prop:=Paired ia
def hJ.length (r:hJ xs us):⇑xs=⇑us:=Paired.length r
theorem hJ.get:∀ {xs:NU} {us:AC} {i:Nat} {x:V},hJ xs us->xs[i]?=U x->∃u,us[i]?=U u/\ia x u
 | _,_,_,_,.nil,e=>by simp at e
 | _,_,0,_,.cons r _,e=>by simp at e;subst e;exact#[_,Z,r]
 | _,_,i+1,x,.cons _ t,e=>by let#[u,h1,h2]:=hJ.get (i:=i) (x:=x) t (~~~e);calc#[u,~~~h1,h2]
theorem hJ.append:∀ {xs ys:NU} {us ws:AC},hJ xs us->hJ ys ws->hJ (xs++ys) (us++ws)
 | _,_,_,_,.nil,s=>s
 | _,_,_,_,.cons r t,s=>.cons r (hJ.append t s)
theorem hJ.take:∀ {xs:NU} {us:AC} (n:Nat),hJ xs us->hJ (xs.take n) (us.take n)
 | _,_,0,_=>.nil
 | _,_,_+1,.nil=>.nil
 | _,_,n+1,.cons r t=>.cons r (hJ.take n t)
theorem hJ.drop:∀ {xs:NU} {us:AC} (n:Nat),hJ xs us->hJ (xs.drop n) (us.drop n)
 | _,_,0,r=>r
 | _,_,_+1,.nil=>.nil
 | _,_,n+1,.cons _ t=>hJ.drop n t
def iT:Option V->Option Value->Prop
 | some v,some u=>ia v u
 | none,none=>True
 | _,_=>False
def KV {κ:Type}:List (κ×V)->List (κ×Value)->Prop:=Paired λ(p:κ×V) (q:κ×Value)=>p.1=q.1/\ia p.2 q.2
noncomputable def kV:qt->V
 | .inl i=>.int i
 | .inr x=>.str x
inductive HO where
 | lst (xs:NU)
 | tup (xs:NU)
 | dK (kvs:List (qt×V)) | dT (kvs:List (List qt×V))
 | set (S:Int->Bool) (n:Nat)
 | ins (C dx:AD) (fs:List (Str×V))
 | own (x:AD)
 | xd (fs:List (Str×V))
 | met (f x:AD)
 | rng (lo hi:Int)
 | frz (o:Obj) (u:HO)
 | tbl (ps:Array Value)
 | ext (φ:Heap->Prop)
abbrev Hp:=Addr->Option HO
noncomputable def upd (H:Hp)(a:AD)(o:HO):Hp:=λb=>if b=a then U o else H b
def qu:upd H a o a=U o:=by unfold upd;rw[qg Z]
def qh (h:b≠a):upd H a o b=H b:=by unfold upd;rw[qe h]
def ZsH {H:Hp}{a b:AD}{o u:HO}(h:H a=U o)(h':H b=U u)(d:o≠u):a≠b:=by intro e;subst e;rw[h]at h';calc d (Option.some.inj h')
def qN {H:Hp}{a b:AD}{o:HO}(h:H a=U o)(h':H b=O):a≠b:=by intro e;subst e;rw[h]at h';cases h'
section
variable (P:AG)(w:AI)
def iA (H:Hp)(h:Heap)(a:AD):HO->Prop
 | .lst xs=>⇑xs<=sizeLine/\∃(its:AC)(n:Nat),hJ xs its/\h.get? a=U { cls:=.type "list",data:=.seq ↑its n }
 | .tup xs=>⇑xs<=sizeLine/\∃its:AC,hJ xs its/\IsTup h a ↑its
 | .dK kvs=>⇑kvs<=sizeLine/\(a == sysModules)=J/\∃vs,KV kvs vs/\h.DictOf (rG P w) a vs
 | .dT kvs=>⇑kvs<=sizeLine/\(a == sysModules)=J/\∃xs:List (List qt×AD×Value),
   Paired (λ(p:List qt×V) (q:List qt×AD×Value)=>p.1=q.1/\H q.2.1=U (.tup (p.1.map kV))/\ia p.2 q.2.2) kvs xs /\
   ∃o es e,h.get? a=U o/\o.ExactDict/\o.data=.dict es e/\es.toList=xs.map (entryOfKey (tupleKind (rG P w)))/\(xs.map (·.1)).Nodup
 | .set S n=>h.SetOf (intKind P w) a S n
 | .ins C dx fs=>H dx=U (.own a)/\⇑fs<=1000/\dx≠a/\h.get? a=U (instObj C dx) /\
   ∃b,h.Ns1 dx b/\(∀f,iT (fs.lookup f) (b f))/\PySem.Within b (fs.map (·.1))
 | .own _=>∃o,h.get? a=U o
 | .xd fs=>∃b,h.Ns1 a b/\∀f,iT (fs.lookup f) (b f)
 | .rng lo hi=>∃t u v,h.get? a=U { cls:=.type "range",data:=.fields ↑[.int lo t,.int hi u,.int 1 v] }
 | .frz o u=>h.get? a=U o/\iA H h a u
 | .tbl ps=>h.get? a=U { cls:=.none,data:=.fields ps }
 | .met f x=>h.get? a=U (methodObj (.ref f) (.ref x))
 | .ext φ=>φ h/\(∃o,h.get? a=U o)/\∀d c:Heap,φ d->(∀o,d.get? a=U o->c.get? a=U o)->φ c
def rQ (H:Hp)(h:Heap):Prop:=∀a o,H a=U o->iA P w H h a o
end
section
def iA.lt (x:iA P w H h a o):a<h.objs.size:=by
 cases o with
 | lst c=>let#[_,_,_,_,e]:=x;exact qQ e
 | tup c=>let#[_,_,_,p]:=x;exact p.lt
 | dK b=>let#[_,_,_,_,o,_,_,e,_]:=x;exact qQ e
 | dT b=>let#[_,_,_,_,o,_,_,e,_]:=x;exact qQ e
 | set S n=>let#[o,_,_,_,e,_]:=x;exact qQ e
 | ins C k d=>let#[_,_,_,e,_]:=x;exact qQ e
 | own y=>let#[_,e]:=x;exact qQ e
 | xd d=>let#[_,#[_,_,_,e,_],_]:=x;exact qQ e
 | rng l j=>let#[_,_,_,e]:=x;exact qQ e
 | frz i u=>let#[e,_]:=x;exact qQ e
 | tbl g=>exact qQ (show h.get? a=U _ from x)
 | met f y=>exact qQ (show h.get? a=U _ from x)
 | ext φ=>let#[_,#[_,e],_]:=x;calc qQ e
theorem Paired.mapP {α β:Type}{F G:α->β->Prop}:∀ {d:List α} {c:List β},Paired F d c->(∀a b,F a b->G a b)->Paired G d c
 | _,_,.nil,_=>.nil
 | _,_,.cons r t,f=>.cons (f _ _ r) (Paired.mapP t f)
def iA.stay (x:iA P w H h a o)(k:∀b u,(b=a\/H b=U (.own a))->h.get? b=U u->h'.get? b=U u)
  (I:∀b,H b=U (.own a)->H' b=U (.own a)) (M:∀b xs,H b=U (.tup xs)->H' b=U (.tup xs)):iA P w H' h' a o:=by
 induction o with
 | lst xs=>let#[z,l,n,r,e]:=x;exact#[z,l,n,r,k _ _ (.inl Z) e]
 | tup xs=>let#[z,l,r,g,e,c]:=x;exact#[z,l,r,g,k _ _ (.inl Z) e,c]
 | dK m=>let#[z,y,G,r,g,j,i,e,c]:=x;exact#[z,y,G,r,g,j,i,k _ _ (.inl Z) e,c]
 | dT m=>
  let#[z,y,xs,r,g,j,i,e,c]:=x;exact#[z,y,xs,Paired.mapP r λp q z=>#[z.1,M _ _ z.2.1,z.2.2],g,j,i,k _ _ (.inl Z) e,c]
 | set S n=>let#[g,j,i,t,e,c]:=x;exact#[g,j,i,t,k _ _ (.inl Z) e,c]
 | ins C N E=>
  let#[d,z,F,e,s,#[A,j,i,L,c],r]:=x;exact#[I _ d,z,F,k _ _ (.inl Z) e,s,#[A,j,i,k _ _ (.inr d) L,c],r]
 | own y=>let#[g,e]:=x;exact#[g,k _ _ (.inl Z) e]
 | xd E=>let#[s,#[A,j,i,e,c],r]:=x;exact#[s,#[A,j,i,k _ _ (.inl Z) e,c],r]
 | rng T Q=>let#[t,u,v,e]:=x;exact#[t,u,v,k _ _ (.inl Z) e]
 | frz g u K=>let#[e,q]:=x;exact#[k _ _ (.inl Z) e,K q]
 | tbl B=>
  let e:h.get? a=U { cls:=.none,data:=.fields B }:=x;show h'.get? a=U { cls:=.none,data:=.fields B };exact k a _ (.inl Z) e
 | met f y=>
  let e:h.get? a=U (methodObj (.ref f) (.ref y)):=x;show h'.get? a=U (methodObj (.ref f) (.ref y));exact k a _ (.inl Z) e
 | ext φ=>let#[p,#[o,e],D]:=x;calc#[D _ _ p λo q=>k _ _ (.inl Z) q,#[o,k _ _ (.inl Z) e],D]
def rQ.lt (x:rQ P w H h)(e:H a=U o):a<h.objs.size:=(x a o e).lt
def rQ.fresh (x:rQ P w H h)(e:h.objs.size<=a):H a=O:=by
 cases q:H a with
 | none=>rfl
 | some u=>calc NR (sK (x.lt q) e) (tJ _)
def rQ.kept (x:rQ P w H h)(k:∀b u,h.get? b=U u->h'.get? b=U u):rQ P w H h':=λa o e=>
 (x a o e).stay (λb u _ q=>k b u q) (λ_ q=>q) λ_ _ q=>q
def rQ.laid (x:rQ P w H h)(k:∀b u,h.get? b=U u->h'.get? b=U u)(i:h.objs.size<=a)(d:iA P w (upd H a o) h' a o):rQ P w (upd H a o) h':=λb u e=>by
 let g:=x.fresh i;by_cases f:b=a
 .subst f;rw[qu]at e;cases e;exact d
 .rw[qh f]at e;calc(x b u e).stay (λc v _ q=>k c v q) (λc q=>by rw[qh (qN q g)];calc q) λc j q=>by rw[qh (qN q g)];calc q
end
def Rd (H:Hp)(a:AD)(u:HO):Prop:=H a=U u\/∃o,H a=U (.frz o u)
def Rd.of (h:H a=U u):Rd H a u:=.inl h
def Rd.ok (r:Rd H a u)(x:rQ P w H h):iA P w H h a u:=by
 rcases r with r | ⟨o,r⟩
 .exact x a u r
 .obtain⟨_,q⟩:=x a _ r;calc q
def C8:Option HO->Prop
 | some (.lst _)=>True
 | some (.dK _)=>True
 | some (.dT _)=>True
 | some (.set _ _)=>True
 | some (.ins _ _ _)=>True
 | some (.ext _)=>True
 | _=>False
section
def rQ.write (s:rQ P w H h)(j:C8 (H x))(n:e=x\/H e=U (.own x))(k:∀b u,b≠e->h.get? b=U u->h'.get? b=U u)(m:∃u,h'.get? e=U u)
  (l:iA P w (upd H x o') h' x o'):rQ P w (upd H x o') h':=λb u q=>by
 let d:∀c y,H c=U (.own y)->c≠x:=λc y r z=>by subst z;rw[r]at j;exact j
 let f:∀c xs,H c=U (.tup xs)->c≠x:=λc xs r z=>by subst z;rw[r]at j;exact j
 by_cases i:b=x
 .subst i;rw[qu]at q;cases q;exact l
 .rw[qh i]at q;by_cases a:b=e
  .let o:H b=U (.own x):=by
    rcases n with z | z
    .exact NR (a.trans z) i
    .rw[a];exact z
   rw[q]at o;cases o;let#[v,p]:=m;exact#[v,by rw[a];calc p]
  .refine(s b u q).stay (λc v g r=>k c v ?_ r) (λc r=>by rw[qh (d c b r)];calc r) λc xs r=>by rw[qh (f c xs r)];exact r
   rcases g with rfl | g
   .exact a
   .rintro rfl;rcases n with z | z
    .exact d c b g z
    .rw[g]at z;cases z;calc i Z
end
structure Un (fs ex:List AD)(H H':Hp)(h h':Heap):Prop where
 keep:∀b o,h.get? b=U o->H b=O->b∉fs->b∉ex->h'.get? b=U o
 slot:∀b o,h.get? b=U o->H b=O->b∈fs->b∉ex->∃sl,h'.get? b=U { o with slots:=sl }
 free:∀b o,h.get? b=U o->H b=O->b∉ex->H' b=O
 there:∀b o,h.get? b=U o->b∉ex->∃o',h'.get? b=U o'
 tups:∀b xs,H b=U (.tup xs)->H' b=U (.tup xs)
 frzs:∀b o u,H b=U (.frz o u)->H' b=U (.frz o u)
 tbls:∀b ps,H b=U (.tbl ps)->∃more,H' b=U (.tbl (ps++more))
section
def Un.any (u:Un fs ex H H1 h h1){b:AD}{ob:Obj}(q:h.get? b=U ob)(n:H b=O)(a:b∉ex):∃d,h1.get? b=U { ob with slots:=d }:=by
 by_cases c:b∈fs
 .exact u.slot b ob q n c a
 .exact#[ob.slots,u.keep b ob q n c a]
def Un.trans (a:Un fs ex H H1 h h1)(b:Un fs ex H1 H2 h1 h2):Un fs ex H H2 h h2 where
 keep:=λc e q n i d=>b.keep c e (a.keep c e q n i d) (a.free c e q n d) i d
 slot:=λc e q n i d=>by let#[r,f]:=a.slot c e q n i d;let#[k,j]:=b.slot c _ f (a.free c e q n d) i d;exact#[k,j]
 free:=λc e q n d=>by let#[l,f]:=a.there c e q d;exact b.free c l f (a.free c e q n d) d
 there:=λc e q d=>by let#[l,f]:=a.there c e q d;exact b.there c l f d
 tups:=λc g q=>b.tups c g (a.tups c g q)
 frzs:=λc e g q=>b.frzs c e g (a.frzs c e g q)
 tbls:=λc m q=>by let#[o,f]:=a.tbls c m q;let#[p,j]:=b.tbls c _ f;calc#[o++p,by rw[j,Array.append_assoc]]
def Un.kept (k:∀b u,h.get? b=U u->h'.get? b=U u):Un fs ex H H h h':=
 #[λb a q _ _ _=>k b a q,λb a q _ _ _=>#[a.slots,k b a q],λ_ _ _ n _=>n,λb a q _=>#[a,k b a q],λ_ _ q=>q,λ_ _ _ q=>q,λ_ c q=>#[↑[],by rw[q];simp]]
def Un.refl:Un fs ex H H h h:=Un.kept λ_ _ q=>q
def Un.laid (k:∀b u,h.get? b=U u->h'.get? b=U u)(e:h.objs.size<=a)(c:H a=O):Un fs ex H (upd H a o) h h' where
 keep:=λb u q _ _ _=>k b u q
 slot:=λb u q _ _ _=>#[u.slots,k b u q]
 free:=λb u q n _=>by rw[qh (rK (sK (qQ q) e))];exact n
 there:=λb u q _=>#[u,k b u q]
 tups:=λb d q=>by rw[qh (qN q c)];exact q
 frzs:=λb u d q=>by rw[qh (qN q c)];exact q
 tbls:=λb f q=>#[↑[],by rw[qh (qN q c),q];simp]
def Un.write (c:C8 (H x))(l:e=x\/H e=U (.own x))(k:∀b u,b≠e->h.get? b=U u->h'.get? b=U u)(d:∃u,h'.get? e=U u):Un fs ex H (upd H x o) h h':=by
 let g:∀b,H b=O->b≠x:=λb n z=>by subst z;rw[n]at c;exact c
 let i:∀b,H b=O->b≠e:=λb n z=>by
  subst z;rcases l with r | r
  .exact g b n r
  .rw[n]at r;cases r
 let f:∀b u,H b=U u->¬C8 (U u)->b≠x:=λb u q m z=>by subst z;rw[q]at c;exact m c
 refine⟨λb u q n _ _=>k b u (i b n) q,λb u q n _ _=>⟨u.slots,k b u (i b n) q⟩,λb u q n _=>by rw[qh (g b n)];exact n,λb u q _=>?_,
  λb j q=>by rw[qh (f b _ q λz=>z)];calc q,λb u j q=>by rw[qh (f b _ q λz=>z)];calc q,λb p q=>⟨↑[],by rw[qh (f b _ q λz=>z),q];simp⟩⟩
 by_cases a:b=e
 .subst a;exact d
 .exact#[u,k b u a q]
end
noncomputable def Cg (h:Heap)(H:Hp):List AD:=(List.range h.objs.size).filter λa=>(H a).isSome
def jV (h:Heap)(H:Hp):Heap:=hideAll h (Cg h H)
def ZkJ (h:Heap)(H:Hp):(jV h H).objs.size=h.objs.size:=PySem.W.hideAll_size _ _
def Zl6 (e:h.get? b=U o)(n:H b=O):(jV h H).get? b=U o:=
 hideAll_get _ e λa=>by let q:(H b).isSome=Y:=(uK.mp a).2;rw[n]at q;simp at q
def Zn4 (e:(jV h H).get? b=U o):h.get? b=U o/\H b=O:=by
 let a:h.get? b=U o:=of_hideAll (Cg h H) e;calc#[a,?_];cases q:H b with
 | none=>rfl
 | some x=>
  let c:b∈Cg h H:=uK.mpr #[sT.mpr (qQ a),by simp[q]];let z:(jV h H).get? b=O:=hideAll_none (Cg h H) c;rw[z]at e;cases e
def ZoA (g h:Heap)(L:AD):AA:=(List.range h.objs.size).filterMap λa=>if a=L\/(g.get? a).isSome=Y then O else (h.get? a).map λo=>(a,o)
noncomputable def iI (g h:Heap)(L d:AD):AA:=(ZoA g h L).filter λp=>R (p.1≠d)
structure Mod (K:qj)(mg:AB)(base:Heap):Prop where
 kin:K.In base
 glob:base.Ns mainGlobals mg
 blt:∃mb,base.Ns builtinsNs mb/\∀x:Str,x≠"__name__"->mb x=bootBuiltins x
 nolimit:base.NoLimit
structure Cx where
 prog:AG
 w:AI
 K:qj
 mg:AB
 base:Heap
 A:AH
 N:AJ
 s_0:AE
 H_0:Hp
 env:Env
 outer:List Env
 stack:List Env
 ex:List AD
 fn:Str->Bool
 calm:Bool
 pn:AA
 xe:rh
noncomputable def rZ (l:List Env):List AD:=l.filterMap (·.frame)
abbrev Cx.fs (X:Cx):List AD:=rZ X.outer
def Br (a:Scope)(x:Str):Prop:=a.names.lookup x=U .local\/a.names.lookup x=U .cell\/a.names.lookup x=U .free
def zW (a:Scope)(x:Str):Prop:=a.names.lookup x=U .local\/a.names.lookup x=U .cell
def Look (env:Env)(h:Heap)(m:AB)(x:Str)(u:Value):Prop:=
 (env.kindOf x=U .local/\m x=U u)\/((env.kindOf x=U .cell\/env.kindOf x=U .free)/\∃c,env.cells.lookup x=U c/\h.IsCell c (U u))
structure Cx.Ok (X:Cx):Prop where
 mod:Mod X.K X.mg X.base
 kind:X.env.scope.kind=.function
 glob:X.env.globals=mainGlobals
 blt:X.env.builtins=builtinsNs
 above:↥X.s_0<=X.env.locals
 inj:∀x y c,X.env.cells.lookup x=U c->X.env.cells.lookup y=U c->x=y
 has:∀x,(X.env.kindOf x=U .cell\/X.env.kindOf x=U .free)->∃c,X.env.cells.lookup x=U c
 cab:∀x c,X.fn x=Y->X.env.cells.lookup x=U c->↥X.s_0<=c
 hd:X.calm=Y->X.A.handled=O
 frames:X.A.frames=U X.stack
 stk:X.stack=X.outer\/(X.stack=X.env::X.outer/\X.env.frame=U X.env.locals)
 exf:∀b∈X.ex,b≠X.env.locals/\∀x c,X.env.cells.lookup x=U c->c≠b
 bs:∀b o,X.base.get? b=U o->X.s_0.heap.get? b=U o/\X.H_0 b=O
 bsz:X.base.objs.size<=↥X.s_0
 noex:∀b o,X.base.get? b=U o->b∉X.ex
 exfs:∀b∈X.ex,b∉X.fs
 funs:X.s_0.heap.FunFrames X.base X.outer
 frf:∀b∈X.fs,X.H_0 b=O
structure qb (X:Cx)(A1:AA)(σ:List (Option V))(H:Hp)(s:AE):Prop where
 ok:X.Ok
 os:s.os=X.s_0.os
 bare:AllBare s.gens
 base:Un X.fs X.ex X.H_0 H X.s_0.heap s.heap
 loc:∃m,s.heap.Ns X.env.locals m/\∀(i:Nat)(x:Str)(v:V),X.N[i]?=U x->σ[i]?=U (U v)->Br X.env.scope x->∃u,ia v u/\Look X.env s.heap m x u
 cell:∀x c,X.env.cells.lookup x=U c->∃v,s.heap.IsCell c v
 free:H X.env.locals=O
 freeC:∀x c,X.env.cells.lookup x=U c->H c=O
 pin:∀p∈X.pn++A1,s.heap.get? p.1=U p.2/\H p.1=O/\p.1≠X.env.locals/\p.1∉X.fs/\∀v,p.2.data≠.cell v
 hok:rQ X.prog X.w H s.heap
 len:⇑σ=⇑X.N
section
variable {X:Cx}{A1:AA}{σ:List (Option V)}{H H':Hp}{s:AE}{h':Heap}
def Cx.Ok.nofr (c:X.Ok){b:AD}{o:Obj}(e:X.base.get? b=U o):b∉X.fs:=λa=>by have:=(c.funs.mem a).1;rw[e]at this;cases this
def qb.bs (I:qb X A1 σ H s):∀b o,X.base.get? b=U o->s.heap.get? b=U o/\H b=O:=λb o e=>
 #[I.base.keep b o (I.ok.bs b o e).1 (I.ok.bs b o e).2 (I.ok.nofr e) (I.ok.noex b o e),I.base.free b o (I.ok.bs b o e).1 (I.ok.bs b o e).2 (I.ok.noex b o e)]
def qb.bk (I:qb X A1 σ H s):∀b o,X.base.get? b=U o->s.heap.get? b=U o:=λb o e=>(I.bs b o e).1
def qb.mod (I:qb X A1 σ H s):Mod X.K X.mg X.base:=I.ok.mod
def qb.kIn (I:qb X A1 σ H s):X.K.In s.heap:=I.ok.mod.kin.keeps I.bk
def qb.lt (I:qb X A1 σ H s):X.env.locals<↥s:=let ⟨_,hn,_⟩:=I.loc;hn.lt
def qb.sz (I:qb X A1 σ H s):↥X.s_0<=↥s:=qJ I.ok.above (Nat.le_of_lt I.lt)
def qb.nofs (I:qb X A1 σ H s){a:AD}(h:↥s<=a):a∉X.fs:=λc=>by let#[_,o,b,_]:=I.ok.funs.mem c;calc NR (sK (qQ b) (qJ I.sz h)) (tJ _)
def qb.cne (I:qb X A1 σ H s):∀x c,X.env.cells.lookup x=U c->c≠X.env.locals:=λx c e z=>by let#[v,o,f,d]:=I.cell x c e;let#[m,#[i,h,g,a,b,_],_]:=I.loc;rw[z,a]at f;cases f;rw[b]at d;cases d
def qb.funs (I:qb X A1 σ H s):s.heap.FunFrames X.base X.outer:=by
 let c:∀(l:List Env),(∀b∈rZ l,b∈X.fs)->X.s_0.heap.FunFrames X.base l->s.heap.FunFrames X.base l:=by
  intro l;induction l with
  | nil=>intro _ _;trivial
  | cons i r p=>
   intro g h;let#[j,#[L,o,d,q,n,k],m]:=h;let a:L∈X.fs:=g L (by unfold rZ;rw[List.filterMap_cons,d];calc sA);let#[t,e]:=I.base.slot L o n (I.ok.frf L a) a λz=>I.ok.exfs L z a;exact#[j,#[L,_,d,q,e,k],p (λb f=>g b (by unfold rZ;rw[List.filterMap_cons,d];calc si _ f)) m]
 calc c X.outer (λ_ f=>f) I.ok.funs
def qb.stack (I:qb X A1 σ H s):s.heap.FunFrames X.base X.stack:=by
 rcases I.ok.stk with e | ⟨e,a⟩
 .rw[e];exact I.funs
 .rw[e];let#[m,b,_]:=I.loc;calc .cons (by rw[I.ok.kind];decide) a b ?_ I.funs;calc Heap.get?_none_of_le (qJ I.ok.bsz I.ok.above)
def qb.stkSub (I:qb X A1 σ H s):∀b∈rZ X.stack,b∈X.env.locals::X.fs:=λb a=>by
 rcases I.ok.stk with e | ⟨e,c⟩
 .rw[e]at a;exact si _ a
 .rw[e]at a;unfold rZ at a;rw[List.filterMap_cons,c]at a;calc a
def qb.stkFree (I:qb X A1 σ H s):∀b∈rZ X.stack,H b=O:=λb a=>by
 rcases qS.mp (I.stkSub b a) with e | a
 .rw[e];exact I.free
 .obtain⟨_,o,c,_⟩:=I.ok.funs.mem a;calc I.base.free b o c (I.ok.frf b a) λz=>I.ok.exfs b z a
def qb.step {g':Array GenState}{t':Nat}{d':Drawn}{ch:List AD}(I:qb X A1 σ H s)
  (t:∀b∈ch,(b∈X.ex\/↥X.s_0<=b)/\b≠X.env.locals/\(∀x c,X.env.cells.lookup x=U c->c≠b)/\∀p∈X.pn++A1,p.1≠b)
  (j:∀b o,b≠X.env.locals->b∉X.fs->b∉ch->s.heap.get? b=U o->H b=O->h'.get? b=U o)
  (A:∀b o,b≠X.env.locals->b∈X.fs->b∉ch->s.heap.get? b=U o->H b=O->∃P,h'.get? b=U { o with slots:=P }) (f:∀b o,b∉ch->s.heap.get? b=U o->H b=O->H' b=O)
  (C:∀b o,b∉ch->s.heap.get? b=U o->∃o',h'.get? b=U o')
  (K:∀b xs,H b=U (.tup xs)->H' b=U (.tup xs)) (G:∀b o u,H b=U (.frz o u)->H' b=U (.frz o u)) (F:∀b N,H b=U (.tbl N)->∃L,H' b=U (.tbl (N++L)))
  (ns:∀m,s.heap.Ns X.env.locals m->h'.Ns X.env.locals m) (T:rQ X.prog X.w H' h') (hg:AllBare g'):
  qb X A1 σ H' { s with heap:=h',gens:=g',drawn:=d',toks:=t' }:=by
 let E:∀b o,X.s_0.heap.get? b=U o->b≠X.env.locals:=λb o e=>rK (sK (qQ e) I.ok.above);let w:∀b o,X.s_0.heap.get? b=U o->b∉X.ex->b∉ch:=λb o e a B=>by
  rcases (t b B).1 with z | z
  .exact a z
  .exact NR (sK (qQ e) z) (tJ _)
 let h:∀x c,X.env.cells.lookup x=U c->∀v,s.heap.IsCell c v->h'.IsCell c v:=λx c e v ⟨o,D,S⟩=>by
  let g:c∉ch:=λz=>(t c z).2.2.1 x c e Z;by_cases hc:c∈X.fs
  .obtain⟨P,q⟩:=A c o (I.cne x c e) hc g D (I.freeC x c e);exact#[_,q,S]
  .exact#[o,j c o (I.cne x c e) hc g D (I.freeC x c e),S]
 refine#[I.ok,I.os,hg,#[λb o e n B a=>?_,λb o e n B a=>?_,λb o e n a=>?_,λb o e a=>?_,λb xs e=>K b xs (I.base.tups b xs e),λb o xs e=>G b o xs (I.base.frzs b o xs e),λb N e=>?_],?_,λx c e=>?_,?_,λx c e=>?_,λp V=>?_,T,I.len]
 .exact j b o (E b o e) B (w b o e a) (I.base.keep b o e n B a) (I.base.free b o e n a)
 .obtain⟨P,y⟩:=I.base.slot b o e n B a;let#[Q,M]:=A b _ (E b o e) B (w b o e a) y (I.base.free b o e n a);exact#[Q,M]
 .obtain⟨o',y⟩:=I.base.there b o e a;exact f b o' (w b o e a) y (I.base.free b o e n a)
 .obtain⟨o',y⟩:=I.base.there b o e a;exact C b o' (w b o e a) y
 .obtain⟨m1,y⟩:=I.base.tbls b N e;let#[m2,M]:=F b _ y;exact#[m1++m2,by rw[M,Array.append_assoc]]
 .obtain⟨m,hn,hl⟩:=I.loc;calc#[m,ns m hn,λi x v y M e3=>?_];let#[u,r,l]:=hl i x v y M e3;calc#[u,r,?_];rcases l with l | ⟨k,c,e,z⟩
  .exact .inl l
  .exact .inr #[k,c,e,h x c e _ z]
 .obtain⟨v,z⟩:=I.cell x c e;exact#[v,h x c e v z]
 .obtain⟨m,⟨o,_,_,D,_⟩,_⟩:=I.loc;exact f _ o (λz=>(t _ z).2.1 Z) D I.free
 .obtain⟨v,o,D,S⟩:=I.cell x c e;exact f c o (λz=>(t c z).2.2.1 x c e Z) D (I.freeC x c e)
 .obtain⟨e,n,W,nf,d⟩:=I.pin p V;let g:p.1∉ch:=λz=>(t p.1 z).2.2.2 p V Z;calc#[j p.1 p.2 W nf g e n,f p.1 p.2 g e n,W,nf,d]
def qb.un (I:qb X A1 σ H s)(u:Un X.fs [] H H' s.heap h')(f:rQ X.prog X.w H' h'):qb X A1 σ H' { s with heap:=h',toks:=t' }:=by
 let#[m,#[o,t,p,h,r],_]:=id I.loc;let#[q,i]:=u.any h I.free {};calc I.step (g':=s.gens) (d':=s.drawn) (ch:=[]) (λ_ z=>nomatch z) (λb o _ d _ e n=>u.keep b o e n d {}) (λb o _ d _ e n=>u.slot b o e n d {}) (λb o _ e n=>u.free b o e n {}) (λb o _ e=>u.there b o e {}) u.tups u.frzs u.tbls (λl k=>by let#[v,g,c,a,j]:=k;rw[h]at a;cases a;calc#[_,g,c,i,j]) f I.bare
def qb.call (I:qb X A1 σ H s)(u:Un (rZ X.stack) ch H H' s.heap h')(i:rQ X.prog X.w H' h')(l:AllBare g')
  (f:∀b∈ch,(b∈X.ex\/↥X.s_0<=b)/\b≠X.env.locals/\(∀x c,X.env.cells.lookup x=U c->c≠b)/\∀p∈X.pn++A1,p.1≠b):
  qb X A1 σ H' { s with heap:=h',gens:=g',drawn:=d',toks:=t' }:=by
 let#[m,#[o,B,y,k,r],_]:=id I.loc;let#[A,g]:=u.any k I.free λz=>(f _ z).2.1 Z;calc I.step (ch:=ch) f (λb o g q a e n=>u.keep b o e n (λz=>(qS.mp (I.stkSub b z)).elim g q) a) (λb o _ _ a e n=>u.any e n a) (λb o a e n=>u.free b o e n a) (λb o a e=>u.there b o e a) u.tups u.frzs u.tbls (λw v=>by let#[C,j,h,d,t]:=v;rw[k]at d;cases d;calc#[_,j,h,g,t]) i l
def qb.turned (I:qb X A1 σ H s)(k:∀b o,b≠it->s.heap.get? b=U o->h'.get? b=U o)(A:H it=O)(f:it≠X.env.locals)
  (w:it∈X.ex\/↥X.s_0<=it) (y:∀x c,X.env.cells.lookup x=U c->c≠it) (j:∀p∈X.pn++A1,p.1≠it):qb X A1 σ H { s with heap:=h',toks:=t' }:=by
 let d:∀b u,H b=U u->b≠it:=λb u e z=>by rw[z,A]at e;cases e
 refine I.step (g':=s.gens) (d':=s.drawn) (ch:=[it]) (λb h=>?_) (λb o _ _ a e _=>k b o (λz=>a (by simp[z])) e) (λb o _ _ a e _=>#[o.slots,k b o (λz=>a (by simp[z])) e]) (λ_ _ _ _ n=>n)
  (λb o a e=>#[o,k b o (λz=>a (by simp[z])) e]) (λ_ _ e=>e) (λ_ _ _ e=>e) (λb B e=>#[↑[],by rw[e];simp]) (λm i=>?_) (λb u e=>?_) I.bare
 .let e:b=it:=by simpa using h
  subst e;exact#[w,f,y,j]
 .obtain⟨o,l,g,t,r⟩:=i;exact#[o,l,g,k _ o (qy f) t,r]
 .refine(I.hok b u e).stay (λc v a q=>k c v ?_ q) (λ_ q=>q) λ_ _ q=>q;rcases a with z | z
  .rw[z];exact d b u e
  .exact d c _ z
def qb.tok (I:qb X A1 σ H s)(t:Nat):qb X A1 σ H { s with toks:=t }:=I.un (h':=s.heap) (t':=t) Un.refl I.hok
def qb.kept (I:qb X A1 σ H s)(k:∀b u,s.heap.get? b=U u->h'.get? b=U u):qb X A1 σ H { s with heap:=h',toks:=t' }:=I.un (Un.kept k) (I.hok.kept k)
def qb.laid (I:qb X A1 σ H s)(k:∀b u,s.heap.get? b=U u->h'.get? b=U u)(d:↥s<=a)(c:iA X.prog X.w (upd H a o) h' a o):
  qb X A1 σ (upd H a o) { s with heap:=h',toks:=t' }:=I.un (Un.laid k d (I.hok.fresh d)) (I.hok.laid k d c)
def qb.write (I:qb X A1 σ H s)(d:C8 (H x))(f:e=x\/H e=U (.own x))(k:∀b u,b≠e->s.heap.get? b=U u->h'.get? b=U u)(a:∃u,h'.get? e=U u)
  (c:iA X.prog X.w (upd H x o) h' x o):qb X A1 σ (upd H x o) { s with heap:=h',toks:=t' }:=I.un (Un.write d f k a) (I.hok.write d f k a c)
def qb.pins_of (I:qb X A1 σ H s)(h:∀p∈pins',s.heap.get? p.1=U p.2/\H p.1=O/\p.1≠X.env.locals/\p.1∉X.fs/\∀v,p.2.data≠.cell v):qb X pins' σ H s:=
 #[I.ok,I.os,I.bare,I.base,I.loc,I.cell,I.free,I.freeC,λp a=>(rJ.mp a).elim (λz=>I.pin p (wO _ z)) (h p),I.hok,I.len]
def FB {N:AJ}(d:N.Nodup){i j:Nat}{x:Str}(a:N[i]?=U x)(b:N[j]?=U x):i=j:=by let#[f,c]:=rY.mp a;let#[g,e]:=rY.mp b;calc(List.getElem_inj d).mp (c.trans e.symm)
def K4 (I:qb X A1 σ H s)(hN:X.N.Nodup)(V:X.N[i]?=U x)(w:zW X.env.scope x)(r:ia v u)
  (h:∀s',qb X A1 (σ.set i (U v)) H s'->(∃a,Heap.SameBut a s.heap s'.heap/\(a=X.env.locals\/X.env.cells.lookup x=U a))->Q () s') (hf:autoParam (X.fn x=Y\/X.env.scope.names.lookup x=U .local) Qz._auto_1):wpAny M A (storeName X.env x u) Q E s:=by
 let#[m,hn,hl]:=id I.loc;let T:(X.env.scope.kind == .class || (X.env.scope.kind == .module&&X.env.locals != X.env.globals))=J:=by rw[I.ok.kind];rfl
 let F:i<⇑σ:=by rw[I.len];exact(rY.mp V).1
 let G:=I.cne;let g:∀ {a:AD} {h':Heap},(∃o,s.heap.get? a=U o/\H a=O)->Heap.SameBut a s.heap h'->rQ X.prog X.w H h':=λ{a h'} ha f b ob e=>by
  let#[_,_,B]:=ha;calc(I.hok b ob e).stay (λc w' t q=>(f.2 c ?_).trans q) (λ_ q=>q) λ_ _ q=>q;rintro rfl;rcases t with rfl | t
  .rw[B]at e;cases e
  .rw[B]at t;cases t
 rcases w with D | D
 .refine wpAny_storeName_local D hn (λh' ab f=>?_) T;let#[oL,_,_,ac,_]:=id hn;refine h _ #[I.ok,I.os,I.bare,#[λb o e n K w=>?_,λb o e n K w=>?_,I.base.free,λb o e w=>?_,I.base.tups,I.base.frzs,I.base.tbls],#[_,ab,λj y v' l C e3=>?_],λy c e=>?_,I.free,I.freeC,λp hp=>?_,g #[oL,ac,I.free] f,~~~I.len] #[_,f,.inl Z]
  .exact(f.2 b (rK (sK (qQ e) I.ok.above))).trans (I.base.keep b o e n K w)
  .obtain⟨sl,l⟩:=I.base.slot b o e n K w;exact#[sl,(f.2 b (rK (sK (qQ e) I.ok.above))).trans l]
  .obtain⟨o',l⟩:=I.base.there b o e w;exact#[o',(f.2 b (rK (sK (qQ e) I.ok.above))).trans l]
  .by_cases N:j=i
   .subst N;rw[V]at l;cases l;rw[List.getElem?_set_self F]at C;cases C;exact#[u,r,.inl #[D,{}]]
   .rw[List.getElem?_set_ne (qy N)]at C;let#[u',r',q]:=hl j y v' l C e3;calc#[u',r',?_];rcases q with⟨k,e⟩|⟨k,c,e,z⟩
    .refine .inl #[k,?_];have:y≠x:=λe=>N (FB hN l (e▸V));simp[this,e]
    .exact .inr #[k,c,e,z.sameBut f (G y c e)]
  .obtain⟨w',z⟩:=I.cell y c e;exact#[w',z.sameBut f (G y c e)]
  .obtain⟨e,n,ne,nf,d⟩:=I.pin p hp;exact#[(f.2 p.1 ne).trans e,n,ne,nf,d]
 .let L:X.fn x=Y:=by
   rcases hf with z | z
   .exact z
   .rw[z]at D;cases D
  let#[c,t]:=I.ok.has x (.inl D);let#[w',z]:=I.cell x c t;calc wpAny_storeName_cell I.ok.kind D t z (λh' S f=>?_);let#[oc,W,P]:=id z;refine h { s with heap:=h' } #[I.ok,I.os,I.bare,#[λb o e n K w=>?_,λb o e n K w=>?_,I.base.free,λb o e w=>?_,I.base.tups,I.base.frzs,I.base.tbls],#[m,hn.sameBut f (qy (G x c t)),λj y v' l C e3=>?_],λy c' e=>?_,I.free,I.freeC,λp hp=>?_,g #[oc,W,I.freeC x c t] f,~~~I.len] #[c,f,.inr t]
  .exact(f.2 b (rK (sK (qQ e) (I.ok.cab x c L t)))).trans (I.base.keep b o e n K w)
  .obtain⟨sl,l⟩:=I.base.slot b o e n K w;exact#[sl,(f.2 b (rK (sK (qQ e) (I.ok.cab x c L t)))).trans l]
  .obtain⟨o',l⟩:=I.base.there b o e w;exact#[o',(f.2 b (rK (sK (qQ e) (I.ok.cab x c L t)))).trans l]
  .by_cases N:j=i
   .subst N;rw[V]at l;cases l;rw[List.getElem?_set_self F]at C;cases C;exact#[u,r,.inr #[.inl D,c,t,S]]
   .rw[List.getElem?_set_ne (qy N)]at C;let#[u',r',q]:=hl j y v' l C e3;calc#[u',r',?_];rcases q with q | ⟨k,c',e,z'⟩
    .exact .inl q
    .refine .inr #[k,c',e,z'.sameBut f ?_];rintro rfl;exact N (FB hN l (I.ok.inj _ _ _ e t▸V))
  .by_cases aa:c'=c
   .subst aa;exact#[_,S]
   .obtain⟨w2,z2⟩:=I.cell y c' e;exact#[w2,z2.sameBut f aa]
  .obtain⟨e,n,ne,nf,d⟩:=I.pin p hp;calc#[(f.2 p.1 ?_).trans e,n,ne,nf,d];intro q;rw[q,W]at e;let q':oc=p.2:=Option.some.inj e;calc d w' (by rw[<-q'];calc P)
def Cs (I:qb X A1 σ H s)(a:X.N.Nodup)(e:X.N[i]?=U x)(b:zW X.env.scope x)(r:ia v u)
  (h:∀s',qb X A1 (σ.set i (U v)) H s'->Q () s') (c:autoParam (X.fn x=Y\/X.env.scope.names.lookup x=U .local) Qz._auto_1):wpAny M A (storeName X.env x u) Q E s:=
 K4 I a e b r (λs' d _=>h s' d) c
def qb.call' (I:qb X A1 σ H s)(h:s'.os=s.os)(u:Un (rZ X.stack) ch H H' s.heap s'.heap)(a:rQ X.prog X.w H' s'.heap)(f:AllBare s'.gens)
  (d:∀b∈ch,(b∈X.ex\/↥X.s_0<=b)/\b≠X.env.locals/\(∀x c,X.env.cells.lookup x=U c->c≠b)/\∀p∈X.pn++A1,p.1≠b):qb X A1 σ H' s':=by
 let#[h',g',d',t',g]:=s';let e:g=s.os:=h;subst e;calc I.call (g':=g') (t':=t') (d':=d') u a f d
end
abbrev XK:=Value->Option AD->Hp->Prop
abbrev St:=List (Option V)
abbrev VK:=V->Hp->Prop
abbrev TE:=St->Hp->VK->Prop
abbrev TT:=St->Hp->(Bool->Hp->Prop)->Prop
abbrev TA:=St->Hp->(NU->Hp->Prop)->Prop
structure jn where
 nx:St->Hp->Prop
 rt:VK
 bk:St->Hp->Prop:=λ_ _=>False
 ct:St->Hp->Prop:=λ_ _=>False
abbrev TS:=jn->St->Hp->Prop
def EP (X:Cx)(b:AA)(σ:St)(Q:VK)(u:Value)(s':AE):Prop:=∃v a,qb X b σ a s'/\ia v u/\Q v a
def TP (X:Cx)(c:AA)(σ:St)(Q:Bool->Hp->Prop)(b:Bool)(s':AE):Prop:=∃a,qb X c σ a s'/\Q b a
def AP (X:Cx)(b:AA)(σ:St)(Q:NU->Hp->Prop)(us:AC)(s':AE):Prop:=∃vs a,qb X b σ a s'/\hJ vs us/\Q vs a
def SP (X:Cx)(c:AA)(D:jn)(f:Flow)(s':AE):Prop:=
 match f with
 | .next=>∃a b,qb X c a b s'/\D.nx a b
 | .brk=>∃a b,qb X c a b s'/\D.bk a b
 | .cont=>∃a b,qb X c a b s'/\D.ct a b
 | .ret u=>∃v a b,qb X c a b s'/\ia v u/\D.rt v b
def PE (X:Cx)(e:Expr)(t:TE):Prop:=
 ∀(a:AA)(s:AE)(σ:St)(H:Hp)(Q:VK),qb X a σ H s->t σ H Q->wpAny (model X.prog X.w) X.A (eval e X.env) (EP X a σ Q) X.xe s
def PT (X:Cx)(e:Expr)(t:TT):Prop:=
 ∀(a:AA)(s:AE)(σ:St)(H:Hp)(Q:Bool->Hp->Prop),qb X a σ H s->t σ H Q->wpAny (model X.prog X.w) X.A (isTrue e X.env (eval e X.env)) (TP X a σ Q) X.xe s
def PW (X:Cx)(e:Expr)(t:TT):Prop:=
 ∀(a:Sem Value)(b:AA)(s:AE)(σ:St)(H:Hp)(Q:Bool->Hp->Prop),qb X b σ H s->t σ H Q->wpAny (model X.prog X.w) X.A (isTrue e X.env a) (TP X b σ Q) X.xe s
def PW.pt (h:PW X e t):PT X e t:=h _
def PA (X:Cx)(es:List Expr)(t:TA):Prop:=
 ∀(a:Pos)(b:AA)(s:AE)(σ:St)(H:Hp)(Q:NU->Hp->Prop),qb X b σ H s->t σ H Q->wpAny (model X.prog X.w) X.A (spliced (backTo a (starEach es X.env))) (AP X b σ Q) X.xe s
def PS (X:Cx)(st:Stmt)(t:TS):Prop:=
 ∀(a:AA)(s:AE)(σ:St)(H:Hp)(D:jn),qb X a σ H s->t D σ H->wpAny (model X.prog X.w) X.A (exec st X.env) (SP X a D) X.xe s
def uk (X:Cx)(st:List Stmt)(t:TS):Prop:=
 ∀(a:AA)(s:AE)(σ:St)(H:Hp)(D:jn),qb X a σ H s->t D σ H->wpAny (model X.prog X.w) X.A (execs st X.env) (SP X a D) X.xe s
def qx (h:wpAny M A t Q E s)(b:∀a s,Q a s->Q' a s):wpAny M A t Q' E s:=tw h b λ_ _ x=>x
section
variable {X:Cx}
abbrev yA (x:V)(p:Bool->Prop):Prop:=match x with | .bl c=>p c | _=>False
def zo (h:yA x p):∃c,x=.bl c/\p c:=by cases x<;>first | calc#[_,Z,h] | calc False.elim h
def DA (o:Option (Option V))(p:V->Prop):Prop:=match o with | some (some v)=>p v | _=>False
def Zp8 (h:DA o p):∃v,o=U (U v)/\p v:=by
 match o,h with | some (some v),h=>calc#[v,Z,h]
def lH (i:Nat):TE:=λσ H Q=>DA σ[i]? λv=>Q v H
def tC (v:V):TE:=λ_ H Q=>Q v H
def Zpp (j:X.N[i]?=U x)(p:Br X.env.scope x)(f:autoParam ((x == ("__debug__":Str))=J) Qw._auto_1)(d:autoParam ((x == ("__classdict__":Str))=J) Qw._auto_1):PE X (.Name x pos) (lH i):=by
 intro n s σ H Q I h;let#[v,e,h]:=Zp8 h;let#[m,q,k]:=I.loc;let#[u,r,l]:=k i x v j e p;let fin:EP X n σ Q u s:=#[v,H,I,r,h];rcases l with⟨b,o⟩|⟨b,c,g,a⟩
 .exact wpAny_Name (wpAny_loadName_local I.ok.kind b q o fin) f
 .rcases b with b | b
  .exact wpAny_Name (wpAny_loadName_cell I.ok.kind b g a fin) f
  .exact wpAny_Name (wpAny_loadName_free I.ok.kind b g a fin d) f
def qr {i j a}:PE X (.Constant (.int i) j a) (tC (.int i)):=λ_ _ _ H _ I h=>wpAny_Constant_int #[.int i,H,I.tok _,#[_,Z],h]
def vM {b j a}:PE X (.Constant (.bool b) j a) (tC (.bl b)):=λ_ _ _ H _ I h=>Constant_bool #[.bl b,H,I,Z,h]
def Zpq {x j a}:PE X (.Constant (.str x) j a) (tC (.str x)):=λ_ _ _ H _ I h=>Calls.Constant_str #[.str x,H,I.tok _,#[_,Z],h]
def Gl (X:Cx)(x:Str):Prop:=X.env.kindOf x=U .globalImplicit
def xU (I:qb X A1 σ H s)(b:Gl X x)(a:X.mg x=U u)(h:Q u s)
  (c:autoParam ((x == ("__debug__":Str))=J) Qw._auto_1):wpAny (model X.prog X.w) X.A (eval (.Name x pos) X.env) Q E s:=
 Calls.Name_function_global I.ok.kind b (Calls.loadGlobal_global (by rw[I.ok.glob];calc I.mod.glob.keeps I.bk) a h) c
def BC (I:qb X A1 σ H s)(a:Gl X x)(b:X.mg x=O)(c:bootBuiltins x=U u)(h:Q u s)
  (g:autoParam (x≠"__name__") Qw._auto_1) (d:autoParam ((x == ("__debug__":Str))=J) Qw._auto_1):wpAny (model X.prog X.w) X.A (eval (.Name x pos) X.env) Q E s:=by
 let#[i,e,f]:=I.mod.blt;calc Calls.Name_function_global I.ok.kind a (Calls.loadGlobal_builtin (by rw[I.ok.glob];calc I.mod.glob.keeps I.bk) b (by rw[I.ok.blt];calc e.keeps I.bk) ((f x g).trans c) h) d
def Dd (b:Gl X x)(a:X.mg x=U u)(r:ia v u)(c:autoParam ((x == ("__debug__":Str))=J) Qw._auto_1):PE X (.Name x pos) (tC v):=
 λ_ _ _ H _ I h=>xU I b a #[v,H,I,r,h] c
def EW (a:Gl X x)(b:X.mg x=O)(c:bootBuiltins x=U u)(r:ia v u)(e:autoParam (x≠"__name__") Qw._auto_1)(d:autoParam ((x == ("__debug__":Str))=J) Qw._auto_1):PE X (.Name x pos) (tC v):=
 λ_ _ _ H _ I h=>BC I a b c #[v,H,I,r,h] e d
variable {a b:Expr}{ta tb:TE}{pos:Pos}
def PC (X:Cx)(f:CmpOp)(a b:Expr)(t:TE):Prop:=
 ∀(e:AA)(s:AE)(σ:St)(H:Hp)(Q:VK),qb X e σ H s->t σ H Q ->
  wpAny (model X.prog X.w) X.A (eval a X.env) (λv d=>wpAny (model X.prog X.w) X.A (eval b X.env) (λu c=>wpAny (model X.prog X.w) X.A (compareOp f v u) (EP X e σ Q) X.xe c) X.xe d) X.xe s
def ZlP (b:Expr){a:CmpOp}(h:a≠.In)(d:a≠.NotIn):behindInMarks a b=J:=by
 let c:(a == CmpOp.In)=J:=by cases a<;>first | rfl | exact NR Z h
 let e:(a == CmpOp.NotIn)=J:=by cases a<;>first | rfl | exact NR Z d
 cases b<;>simp[behindInMarks,c,e]
def tB (t:TE):TT:=λσ H Q=>t σ H λx a=>yA x λc=>Q c a
def yF (h:PC X op a b t)(e:behindInMarks op b=J:=by first | calc ZlP _ ⋯ ⋯ | rfl):PT X (.Compare a [op] [b] pos) (tB t):=by intro i s σ H Q I k;calc wpAny_isTrue_Compare1 (qx (h i s σ H _ I k) λv r e=>qx e λu o n=>qx n λc p f=>?_) e;let#[x,m,j,g,l]:=f;let#[d,Z,q]:=zo l;cases g;calc ww #[m,j,q]
def uy (h:PE X e t)(g:autoParam (∀a,isTrue e X.env a=(do let v <-a;standAt e.pos;holding [v] (truthy v))) Qx._auto_1):PT X e (tB t):=by intro f s σ H Q I j;calc isTrue_plain (qx (h f s σ H _ I j) λv m b=>?_) (g _);let#[x,l,i,c,k]:=b;let#[d,Z,q]:=zo k;cases c;calc ww #[l,i,q]
variable {tA tB':TT}{iI:List Expr}
def tAnd (t u:TT):TT:=λσ H Q=>t σ H λc a=>if c=Y then u σ a Q else Q J a
def LA (t u:TT):TT:=λσ H Q=>t σ H λc a=>if c=Y then Q Y a else u σ a Q
def tNot (t:TT):TT:=λσ H Q=>t σ H λc a=>Q (!c) a
def Bs (b:PT X a tA):PW X (.BoolOp .And [a] pos) tA:=by
 intro g d s σ H Q I h;calc isTrue_and (qx (b d s σ H Q I h) λc f e=>?_);cases c with
 | true=>exact isTrue_and_nil e
 | false=>calc e
def zT (b:PT X a tA):PW X (.BoolOp .Or [a] pos) tA:=by
 intro g d s σ H Q I h;calc isTrue_or (qx (b d s σ H Q I h) λc f e=>?_);cases c with
 | false=>exact isTrue_or_nil e
 | true=>calc e
def Bo (l:PT X a tA)(k:PW X (.BoolOp .And (b::iI) pos) tB'):PW X (.BoolOp .And (a::b::iI) pos) (tAnd tA tB'):=by
 intro j d s σ H Q I h;calc isTrue_and (qx (l d s σ H _ I h) λc m i=>?_);let#[g,e,f]:=i;cases c with
 | true=>exact k j d m σ g Q e f
 | false=>calc#[g,e,f]
def yk (l:PT X a tA)(k:PW X (.BoolOp .Or (b::iI) pos) tB'):PW X (.BoolOp .Or (a::b::iI) pos) (LA tA tB'):=by
 intro j d s σ H Q I h;calc isTrue_or (qx (l d s σ H _ I h) λc m i=>?_);let#[g,e,f]:=i;cases c with
 | true=>exact#[g,e,f]
 | false=>calc k j d m σ g Q e f
def vG (d:PT X a tA):PT X (.UnaryOp .Not a pos) (tNot tA):=by intro e s σ H Q I h;calc isTrue_not (d e s σ H (λc b=>Q (!c) b) I h)
def Mb (ta tb:TE):TE:=λσ H Q=>ta σ H λx a=>yA x λc=>if c=Y then tb σ a Q else Q (.bl J) a
def tOrV (ta tb:TE):TE:=λσ H Q=>ta σ H λx a=>yA x λc=>if c=Y then Q (.bl Y) a else tb σ a Q
def Mj (ta:TE):TE:=λσ H Q=>ta σ H λx a=>yA x λc=>Q (.bl (!c)) a
def xQ {op}{t:TE}(h:PE X a t):PE X (.BoolOp op [a] pos) t:=λc s σ H Q I b=>BoolOp_one (h c s σ H Q I b)
def xW (l:PE X a ta)(k:PE X (.BoolOp .And (b::iI) pos) tb):PE X (.BoolOp .And (a::b::iI) pos) (Mb ta tb):=by
 intro e s σ H Q I h;calc BoolOp_and (qx (l e s σ H _ I h) λv m i=>?_);let#[x,g,f,j,d]:=i;let#[c,Z,d]:=zo d;cases j;calc ww ?_;cases c with
 | true=>exact k e m σ g Q f d
 | false=>calc#[.bl J,g,f,Z,d]
def MV (l:PE X a ta)(k:PE X (.BoolOp .Or (b::iI) pos) tb):PE X (.BoolOp .Or (a::b::iI) pos) (tOrV ta tb):=by
 intro e s σ H Q I h;calc BoolOp_or (qx (l e s σ H _ I h) λv m i=>?_);let#[x,g,f,j,d]:=i;let#[c,Z,d]:=zo d;cases j;calc ww ?_;cases c with
 | false=>exact k e m σ g Q f d
 | true=>calc#[.bl Y,g,f,Z,d]
def Zps (i:PE X a ta):PE X (.UnaryOp .Not a pos) (Mj ta):=by intro f s σ H Q I h;calc UnaryOp_ (qx (i f s σ H _ I h) λv k d=>?_);let#[x,j,g,e,b]:=d;let#[c,Z,b]:=zo b;cases e;calc not_of (ww #[.bl (!c),j,g,Z,b])
def KN (t:TT)(ta tb:TE):TE:=λσ H Q=>t σ H λc a=>if c=Y then ta σ a Q else tb σ a Q
def HW (l:PT X c tA)(n:PE X a ta)(m:PE X b tb):PE X (.IfExp c a b pos) (KN tA ta tb):=by
 intro e s σ H Q I h;calc wpAny_IfExp (qx (l e s σ H _ I h) λd i k=>?_);let#[j,f,g]:=k;cases d with
 | true=>exact n e i σ j Q f g
 | false=>calc m e i σ j Q f g
end
def rl (K:qj)(H:Hp)(a:AD)(xs:NU):Prop:=
 Rd H a (.lst xs) \/
  ∃(o:Obj)(its:Array Value)(n:Nat),K.lookup a=U o/\o.cls=.type "list"/\o.dict=O/\o.data=.seq its n/\its.size<=sizeLine/\hJ xs its.toList
def sG (K:qj)(H:Hp)(a:AD)(xs:NU):Prop:=
 Rd H a (.tup xs) \/
  ∃(o:Obj)(its:Array Value)(n:Nat),K.lookup a=U o/\o.cls=.type "tuple"/\o.data=.seq its n/\its.size<=sizeLine/\hJ xs its.toList
noncomputable def absV:Value->Option V
 | .none=>U .non
 | .bool b=>U (.bl b)
 | .int i _=>U (.int i)
 | .str x _=>U (.str x)
 | .bytes b _=>U (.byt b)
 | .float b _=>U (.flt b)
 | .ref a=>U (.ref a)
 | .type n=>U (.ty n)
 | _=>O
def ia.abs (r:ia x u):absV u=U x:=by
 cases x with
 | non=>cases r;rfl
 | bl _=>cases r;rfl
 | int _=>let#[t,Z]:=r;rfl
 | str _=>let#[t,Z]:=r;rfl
 | byt _=>let#[t,Z]:=r;rfl
 | flt _=>let#[t,Z]:=r;rfl
 | ref _=>cases r;rfl
 | ty _=>cases r;rfl
def ia.inj (r:ia x u)(q:ia y u):x=y:=Option.some.inj (r.abs.symm.trans q.abs)
theorem hJ.inj:∀ {xs ys:NU} {us:AC},hJ xs us->hJ ys us->xs=ys
 | _,_,_,.nil,.nil=>rfl
 | _,_,_,.cons r t,.cons r' t'=>by rw[r.inj r',hJ.inj t t']
section
def rl.of {K:qj}(h:H a=U (.lst xs)):rl K H a xs:=.inl (.inl h)
def sG.of {K:qj}(h:H a=U (.tup xs)):sG K H a xs:=.inl (.inl h)
def qb.list (I:qb X A1 σ H s)(h:rl X.K H a xs):∃its:AC,hJ xs its/\PlainL s.heap a ↑its/\⇑xs<=sizeLine:=by
 rcases h with h | ⟨o,its,n,c,b,d,f,g,r⟩
 .obtain⟨z,its,n,r,e⟩:=h.ok I.hok;exact#[its,r,#[_,n,e,Z,Z,Z],z]
 .refine#[its.toList,r,#[o,n,I.kIn a o c,b,d,~~~f],?_];let e:=⇑r;simp only[su]at e
  lia
def qb.tuple (I:qb X A1 σ H s)(h:sG X.K H a xs):∃its:AC,hJ xs its/\IsTup s.heap a ↑its/\⇑xs<=sizeLine:=by
 rcases h with h | ⟨o,its,n,c,d,b,f,r⟩
 .obtain⟨z,its,r,p⟩:=h.ok I.hok;exact#[its,r,p,z]
 .refine#[its.toList,r,#[o,I.kIn a o c,d,n,~~~b],?_];let e:=⇑r;simp only[su]at e
  lia
def qb.list_inj (I:qb X A1 σ H s)(h:rl X.K H a xs)(h':rl X.K H a ys):xs=ys:=by
 let#[b,r,#[o,n,e,_,_,d],_]:=I.list h;let#[its',g,#[j,i,c,_,_,f],_]:=I.list h';rw[e]at c;cases c;rw[d]at f;injection f with d1 _;have:b=its':=by simpa using NQ Array.toList d1
 subst this;calc r.inj g
def qb.tuple_inj (I:qb X A1 σ H s)(h:sG X.K H a xs)(h':sG X.K H a ys):xs=ys:=by
 let#[b,r,#[o,e,_,n,d],_]:=I.tuple h;let#[its',g,#[j,c,_,i,f],_]:=I.tuple h';rw[e]at c;cases c;rw[d]at f;injection f with d1 _;have:b=its':=by simpa using NQ Array.toList d1
 subst this;calc r.inj g
end
noncomputable abbrev Cx.wish (X:Cx)(E:rh):Cx:={ X with xe:=E }
abbrev Cx.nox (X:Cx):Cx:=X.wish λ_ _=>False
def Cx.Ok.wish {X:Cx}(a:X.Ok)(E:rh):(X.wish E).Ok:=
 #[a.mod,a.kind,a.glob,a.blt,a.above,a.inj,a.has,a.cab,a.hd,a.frames,a.stk,a.exf,a.bs,a.bsz,a.noex,a.exfs,a.funs,a.frf]
def Cx.Ok.unwish {X:Cx}{E:rh}(a:(X.wish E).Ok):X.Ok:=
 #[a.mod,a.kind,a.glob,a.blt,a.above,a.inj,a.has,a.cab,a.hd,a.frames,a.stk,a.exf,a.bs,a.bsz,a.noex,a.exfs,a.funs,a.frf]
section
def qb.wish (I:qb X A1 σ H s)(E:rh):qb (X.wish E) A1 σ H s:=#[I.ok.wish E,I.os,I.bare,I.base,I.loc,I.cell,I.free,I.freeC,I.pin,I.hok,I.len]
def qb.unwish (I:qb (X.wish E) A1 σ H s):qb X A1 σ H s:=#[I.ok.unwish,I.os,I.bare,I.base,I.loc,I.cell,I.free,I.freeC,I.pin,I.hok,I.len]
def SP.unwish (h:SP (X.wish E) A1 D f s'):SP X A1 D f s':=by
 cases f with
 | next=>let#[a,b,I,q]:=h;exact#[a,b,I.unwish,q]
 | brk=>let#[a,b,I,q]:=h;exact#[a,b,I.unwish,q]
 | cont=>let#[a,b,I,q]:=h;exact#[a,b,I.unwish,q]
 | ret u=>let#[v,a,b,I,r,q]:=h;calc#[v,a,b,I.unwish,r,q]
def uk.nox {st:List Stmt}{t:TS}(h:uk X.nox st t):uk X st t:=λb s σ H D I a=>
 tw (h b s σ H D (I.wish _) a) (λ_ _ q=>q.unwish) λ_ _ z=>False.elim z
end
section
variable {X:Cx}{st:Stmt}{iI:List Stmt}{t u:TS}{e:Expr}{te:TE}{pos:Pos}
def lY:TS:=λD σ H=>D.nx σ H
def lQ (t u:TS):TS:=λD σ H=>t { D with nx:=u D } σ H
def qY:uk X [] lY:=λ_ _ σ H _ I h=>Ck #[σ,H,I,h]
def ql (g:PS X st t)(i:uk X iI u):uk X (st::iI) (lQ t u):=by
 intro b s σ H D I h;calc wpAny_execs_cons (qx (g b s σ H { D with nx:=u D } I h) λf d q=>?_);cases f with
 | next=>
  let#[a,c,e,q]:=q;exact i b d a c D e q
 | ret v=>exact q
 | brk=>exact q
 | cont=>calc q
def qk (a:PS X st t):uk X [st] t:=by
 intro b s σ H D I h;calc wpAny_execs_cons (qx (a b s σ H D I h) λf c q=>?_);cases f with
 | next=>exact Ck q
 | ret v=>exact q
 | brk=>exact q
 | cont=>calc q
def qb.quiet (I:qb X A1 σ H s):interactive X.env=J:=by simp[interactive,I.ok.kind]
def JV (te:TE):TS:=λD σ H=>te σ H λ_ a=>D.nx σ a
def rR (c:PE X e te)(g:autoParam (swapsWith e O pos.line X.env=pure J) Qq._auto_1):PS X (.Expr e pos) (JV te):=by intro a s σ H D I h;calc wpAny_Expr_any (qx (c a s σ H _ I h) λv j ⟨x,f,b,i,d⟩=>#[σ,f,b,d]) I.quiet g
def tRet (te:TE):TS:=λD σ H=>te σ H D.rt
def qz (d:PE X e te):PS X (.Return (U e) pos) (tRet te):=by intro b s σ H D I h;calc wpAny_Return_some (qx (d b s σ H _ I h) λv i ⟨x,g,c,a,f⟩=>#[x,σ,g,c,a,f])
def tIfS (c:TT)(t u:TS):TS:=λD σ H=>c σ H λb a=>if b=Y then t D σ a else u D σ a
def qZ (l:PT X c tc)(n:uk X a t)(m:uk X b u):PS X (.If c a b pos) (tIfS tc t u):=by
 intro e s σ H D I h;calc wpAny_If (qx (l e s σ H _ I h) λd i k=>?_);let#[j,f,g]:=k;cases d with
 | true=>exact n e i σ j D f g
 | false=>calc m e i σ j D f g
end
abbrev TG:=V->St->Hp->(St->Hp->Prop)->Prop
abbrev CY:=NU->St->Hp->(St->Hp->Prop)->Prop
def PG (X:Cx)(a:Expr)(t:TG):Prop:=
 ∀(d:AA)(s:AE)(σ:St)(H:Hp)(v:V)(u:Value)(Q:St->Hp->Prop),qb X d σ H s->ia v u->t v σ H Q ->
  wpAny (model X.prog X.w) X.A (assign a X.env u) (λ_ e=>∃b c,qb X d b c e/\Q b c) X.xe s
def DX (X:Cx)(d:List Expr)(t:CY):Prop:=
 ∀(c:AA)(s:AE)(σ:St)(H:Hp)(vs:NU)(us:AC)(Q:St->Hp->Prop),qb X c σ H s->hJ vs us->t vs σ H Q ->
  wpAny (model X.prog X.w) X.A (assignInOrder ((assignEach d X.env).map (·.2)) us) (λ_ e=>∃a b,qb X c a b e/\Q a b) X.xe s
abbrev GZ:=V->V->Hp->VK->Prop
def JG (X:Cx)(b:Operator)(t:GZ):Prop:=
 ∀(a:AA)(s:AE)(σ:St)(H:Hp)(x y:V)(v u:Value)(Q:VK),qb X a σ H s->ia x v->ia y u->t x y H Q ->
  wpAny (model X.prog X.w) X.A (inplaceOp b v u) (EP X a σ Q) X.xe s
section
def uD (i:Nat):TG:=λv σ H Q=>Q (σ.set i (U v)) H
def rp (a:X.N.Nodup)(e:X.N[i]?=U x)(b:zW X.env.scope x)(c:autoParam (X.fn x=Y\/X.env.scope.names.lookup x=U .local) Qz._auto_1):PG X (.Name x pos) (uD i):=by intro f s σ H v u Q I r h;calc wpAny_assign_Name (Cs I a e b r (λg d=>#[_,H,d,h]) c)
def gNil:CY:=λa σ H Q=>a=[]/\Q σ H
def K2 (t:TG)(u:CY):CY:=λb σ H Q=>∃v r,b=v::r/\t v σ H λa c=>u r a c Q
def ZnV:DX X [] gNil:=by intro c s σ H a b Q I r h;let#[e,h]:=h;subst e;cases r;calc assignInOrder_nil #[σ,H,I,h]
def Ig (m:PG X e t)(n:DX X es u)
  (l:autoParam ((assignEach (e::es) X.env).map (·.2)=assign e X.env::(assignEach es X.env).map (·.2)) Qq._auto_1):DX X (e::es) (K2 t u):=by
 intro b s σ H p q Q I r h;let#[v,o,f,h]:=h;subst f;cases r with
 | cons r d=>
  rw[l];calc assignInOrder_cons (qx (m b s σ H _ _ _ I r h) λ_ j c=>?_);let#[a,k,g,i]:=c;calc n b j a k _ _ Q g d i
def gTup (K:qj)(n:Nat)(t:CY):TG:=λv σ H Q=>∃a xs,v=.ref a/\sG K H a xs/\⇑xs=n/\t xs σ H Q
def Zpo (x:X.calm=Y)(h:DX X es t)
  (A:autoParam (⇑(assignEach es X.env)=n) Qq._auto_1) (c:autoParam ((assignEach es X.env).findIdx? (·.1)=O) Qq._auto_1):PG X (.Tuple es k pos) (gTup X.K n t):=by
 intro f s σ H v u Q I r d;let#[a,i,m,z,w,d]:=d;subst m;cases r;let#[p,g,y,B]:=I.tuple z;calc assign_Tuple_tuple (I.ok.hd x) y (by simp[A,<-w,⇑g]) c λj l=>?_;let q:qb X f σ H { s with heap:=j }:=I.kept (t':=s.toks) λb o e=>l b o (rK (qQ e)) e;calc h f _ σ H i _ Q q (~~~g) d
def k9 (b:TE)(g:TG):TS:=λD σ H=>b σ H λx a=>g x σ a D.nx
def Zpl (f:PE X e te)(c:PG X tg g)(n:autoParam (swapsWithSole [tg] e pos.line X.env=pure J) Qq._auto_1)(j:autoParam (swappedStores [tg] e X.env=pure O) Qq._auto_1)
  (o:autoParam ((assignEach [tg] X.env).map (·.2)=[assign tg X.env]) Qq._auto_1):PS X (.Assign [tg] e pos) (k9 te g):=by
 intro a s σ H D I h;calc wpAny_Assign_stores (qx (f a s σ H _ I h) λv l b=>?_) n j;let#[x,m,i,d,k]:=b;rw[o];calc qx (c a l σ m x v _ i d k) λ_ p q=>q
def vX (f:X.N.Nodup)(p:X.N[i]?=U x)(c:zW X.env.scope x)(g:PE X e te)(o:autoParam (swapsWith e (U (.Name x pos')) pos.line X.env=pure J) Qq._auto_1)(l:autoParam (X.fn x=Y\/X.env.scope.names.lookup x=U .local) Qz._auto_1):
  PS X (.Assign [.Name x pos'] e pos) (k9 te (uD i)):=by
 intro j s σ H D I h;calc wpAny_Assign_Name (qx (g j s σ H _ I h) λv r a=>?_) o;let#[y,n,k,d,m]:=a;calc Cs k f p c d (λq b=>#[_,n,b,m]) l
def tAug (i:Nat)(d:TE)(b:GZ):TS:=λD σ H=>∃x,σ[i]?=U (U x)/\d σ H λy a=>b x y a λz c=>D.nx (σ.set i (U z)) c
def Il (B:X.N.Nodup)(p:X.N[i]?=U x)(g:zW X.env.scope x)(q:PE X e te)(L:JG X op ti)(S:autoParam (X.fn x=Y\/X.env.scope.names.lookup x=U .local) Qz._auto_1):
  PS X (.AugAssign (.Name x pos') op e pos) (tAug i te ti):=by
 intro n s σ H D I h;let#[v,N,h]:=h;let#[m,M,Q]:=I.loc;let o:Br X.env.scope x:=by rcases g with k | k;calc .inl k;exact .inr (.inl k)
 let#[u,r,l]:=Q i x v p N o;calc wpAny_AugAssign_Name ?_;let go:wpAny (model X.prog X.w) X.A (eval e X.env) (λw j=>wpAny (model X.prog X.w) X.A (inplaceOp op u w) (λr d=>wpAny (model X.prog X.w) X.A (storeName X.env x r) (λ_=>SP X n D .next) X.xe d) X.xe j) X.xe s:=by calc qx (q n s σ H _ I h) λw s1 f=>?_;let#[y,F,G,A,E]:=f;calc qx (L n s1 σ F v y u w _ G r A E) λz s2 f=>?_;let#[zv,T,P,C,W]:=f;exact Cs P B p g C (λs3 K=>#[_,T,K,W]) S
 rcases l with⟨a,t⟩|⟨a,c,V,b⟩
 .exact wpAny_loadName_local I.ok.kind a M t go
 .rcases a with a | a
  .exact wpAny_loadName_cell I.ok.kind a V b go
  .rcases g with k | k
   .have:X.env.scope.names.lookup x=U .free:=a;rw[k]at this;cases this
   .have:X.env.scope.names.lookup x=U .free:=a;rw[k]at this;cases this
def JO (f:Int->Int->Int):GZ:=λx y H Q=>∃i j,x=.int i/\y=.int j/\Q (.int (f i j)) H
def IS:JG X .Add (JO λi j=>i+j):=by intro e s σ H x y v u Q I b d h;let#[i,j,a,c,q]:=h;subst a;subst c;let#[t,Z]:=b;let#[f,Z]:=d;calc iadd_int #[.int _,H,I.tok _,#[_,Z],q]
end
section
def GF (c:TT)(tb:TS):TS:=λD σ H=>∃W:Nat->St->Hp->Prop,(∃m,W m σ H)/\∀m σ H,W m σ H ->
 c σ H λb d=>if b=Y then ∃N:St->Hp->Prop,(∀a f,N a f->∃e,e<m/\W e a f)/\tb { D with nx:=N,ct:=N,bk:=D.nx } σ d else D.nx σ d
def Ln (t:PassesOwn (model X.prog X.w) X.A X.env X.xe)(M:PT X c tc)(G:uk X body tb):PS X (.While c body [] pos) (GF tc tb):=by
 intro m s σ H D I h;let#[W,#[K,A],g]:=h;calc wpAny_While (codeAny_whileLoop (λn F=>∃e y,qb X m e y F/\W n e y) ?_ K #[σ,H,I,A]);rintro n P ⟨d,w,L,E⟩;calc zS t (qx (M m P d w _ L (g n d w E)) λb B C=>?_);let#[z,x,k]:=C;cases b with
 | true=>
  let#[N,u,k]:=k;rw[qg Z];calc zS t (qx (G m B d z _ x k) λf Q j=>?_);cases f with
  | next=>
   let#[a,i,r,q]:=j;let#[p,l,o]:=u a i q;exact#[p,l,a,i,r,o]
  | cont=>
   let#[a,i,r,q]:=j;let#[p,l,o]:=u a i q;exact#[p,l,a,i,r,o]
  | brk=>exact j
  | ret v=>exact j
 | false=>
  rw[qe qO];calc Ck #[d,z,x,k]
end
structure It where
 go:Nat->Hp->Prop
 yld:Nat->Hp->V->Hp->Prop
 stop:Nat->Hp->Prop
def jL (X:Cx)(a:AA)(H:Hp)(b:AD):Prop:=
 H b=O/\b≠X.env.locals/\b∉X.fs/\(b∈X.ex\/↥X.s_0<=b)/\(∀x c,X.env.cells.lookup x=U c->c≠b)/\∀p∈X.pn++a,p.1≠b
def qb.fpOk (I:qb X A1 σ H s)(a:↥s<=b)(d:H' b=O):jL X A1 H' b:=by
 refine#[d,Nat.ne_of_gt (sK I.lt a),I.nofs a,.inr (qJ I.sz a),λx c e z=>?_,λp f z=>?_]
 .obtain⟨v,q⟩:=I.cell x c e;exact NR (sK q.lt (by rw[z];calc a)) (tJ _)
 .exact NR (sK (qQ (I.pin p f).1) (by rw[z];calc a)) (tJ _)
structure kz (P:AG)(w:AI)(K:qj)(tg:Expr)(J_:It)(fp:List AD)(it:AD)(tn:Nat->Heap->Prop):Prop where
 mem:it∈fp
 obj:∀i h,tn i h->∀b∈fp,∃o,h.get? b=U o/\∀v,o.data≠.cell v
 keep:∀i h h',tn i h->(∀b∈fp,∀o,h.get? b=U o->h'.get? b=U o)->tn i h'
 item:∀(X:Cx),X.prog=P->X.w=w->X.K=K->X.calm=Y->∀(i:Nat)(A1:AA)(s:AE)(σ:St)(H:Hp)(E:rh),qb X A1 σ H s->(∀b∈fp,jL X A1 H b)->tn i s.heap->J_.go i H ->
  wpAny (model P w) X.A (pyNext (.ref it)) (λr s1=>∃u,r=U u /\
   wpAny (model P w) X.A (letOwnedTupleGo tg (.ref it) u) (λ_ s2=>∃x H',qb X A1 σ H' s2/\ia x u/\J_.yld i H x H'/\tn (i+1) s2.heap/\∀b∈fp,H' b=O) E s1) E s
 done:∀(X:Cx),X.prog=P->X.w=w->X.K=K->X.calm=Y->∀(i:Nat)(A1:AA)(s:AE)(σ:St)(H:Hp)(E:rh),qb X A1 σ H s->(∀b∈fp,jL X A1 H b)->tn i s.heap->J_.stop i H ->
  wpAny (model P w) X.A (pyNext (.ref it)) (λr s1=>r=O/\qb X A1 σ H s1) E s
 self:∀(A:AH)(i:Nat)(s:AE)(Q:rh)(E:rh),tn i s.heap->Q (.ref it) s->wpAny (model P w) A (pyIter (.ref it)) Q E s
abbrev TI:=St->Hp->(It->Hp->Prop)->Prop
def FE (X:Cx)(f:AA)(σ:St)(i:Expr)(R_:It->Hp->Prop)(c:Value)(d:AE):Prop:=
 ∃(it:AD)(e:List AD)(h:Nat->Heap->Prop)(g:It)(a:Hp),c=.ref it/\qb X f σ a d/\kz X.prog X.w X.K i g e it h/\h 0 d.heap/\(∀b∈e,jL X f a b)/\R_ g a
def PI (X:Cx)(c a:Expr)(d:TI):Prop:=
 ∀(b:AA)(s:AE)(σ:St)(H:Hp)(R_:It->Hp->Prop),qb X b σ H s->d σ H R_ ->
  wpAny (model X.prog X.w) X.A (eval a X.env) (λv e=>wpAny (model X.prog X.w) X.A (pyIter v) (FE X b σ c R_) X.xe e) X.xe s
def CO (d:s.heap.get? it=U o)(b:o.cls=.type n)(c:o.data=.fields vs)
    (e:["enumerate","zip","dict_itemiterator","dict_reverseitemiterator","odict_iterator","itertools.zip_longest","itertools.pairwise"].contains n=J) (a:Q () s):wpAny M A (letOwnedTupleGo tg (.ref it) u) Q E s:=by
  unfold letOwnedTupleGo;cases tg<;>first
    | exact qv a
    | (cases u<;>first
        | exact qv a
        | (refine qd (wpAny_load d ?_)
           rw[b,c];show wpAny M A (if (["enumerate","zip","dict_itemiterator","dict_reverseitemiterator","odict_iterator","itertools.zip_longest","itertools.pairwise"].contains n&&vs[0]? == U (rawInt _))=Y then _ else _) Q E s;rw[qe (by intro h;rw[e,vZ]at h;cases h)];calc qv a))
noncomputable def xK (K:qj)(a:AD):It:=
 #[λi H=>∃xs x,rl K H a xs/\xs[i]?=U x,λi H x b=>b=H/\∀xs,rl K H a xs->xs[i]?=U x,λi H=>∃xs,rl K H a xs/\⇑xs<=i]
noncomputable def Itt (K:qj)(a:AD):It:=
 #[λi H=>∃xs x,sG K H a xs/\xs[i]?=U x,λi H x b=>b=H/\∀xs,sG K H a xs->xs[i]?=U x,λi H=>∃xs,sG K H a xs/\⇑xs<=i]
noncomputable def xh (a:Int)(n:Nat):It:=#[λi _=>i<n,λi H x b=>b=H/\x=.int (a+i),λi _=>n<=i]
def Zju {P:AG}{w:AI}{K:qj}{T:Expr}(a it:AD):kz P w K T (xK K a) [it] it (λi h=>h.IsListIter it a i) where
 mem:=by simp
 obj:=λi h f b g=>by
  let e:b=it:=by simpa using g
  subst e;let#[o,e,c,d]:=f;exact#[o,e,λv z=>by rw[d]at z;cases z]
 keep:=λi h l f k=>f.at λo e=>k it {} o e
 item:=by intro X t B L Q i N s σ H E I n f F;subst t B L;let#[xs,x,m,q]:=F;let#[G,y,p,S]:=I.list m;let#[u,W,ru]:=y.get q;let#[M,C,f2,D,r,A]:=n it {};calc wpAny_pyNext_list_item f p.isList (x:=u) (~~~W) λl j sb=>?_;let I1:qb X N σ H { s with heap:=l }:=I.turned (t':=s.toks) (λb o g e=>(sb.2 b g).trans e) M C D r A;let#[o,e,c,d]:=id j;exact#[u,Z,CO (s:={ s with heap:=l }) e c d ⋯ #[x,H,I1,ru,#[Z,λys hy=>by rw[I.list_inj hy m];calc q],j,λb g=>(n b g).1]]
 done:=by intro X t B L Q i N s σ H E I n f F;subst t B L;let#[xs,m,q]:=F;let#[G,y,p,S]:=I.list m;let#[M,C,f2,D,r,A]:=n it {};let hl:=⇑y;exact wpAny_pyNext_list_end (I.ok.hd Q) f p.isList (by simp;lia) λl V=>#[Z,I.turned (t':=s.toks) (λb o g e=>V b o g e) M C D r A]
 self:=λ_ _ _ _ _ f h=>wpAny_pyIter_listiter f h
def ZiJ {P:AG}{w:AI}{K:qj}{F:Expr}(it:AD)(j:Int)(n:Nat):kz P w K F (xh j n) [it] it (λi h=>IsRangeIter h it (j+(i:Nat)*1) ((n:Int)-(i:Nat)) 1) where
 mem:=by simp
 obj:=λi h a b c=>by
  let e:b=it:=by simpa using c
  subst e;exact#[_,a,λv z=>by let N:Data.fields _=Data.cell v:=z;cases N]
 keep:=λi h f a k=>k it {} _ a
 item:=by intro X m q A y i D s σ H E I g a x;subst m q A;let#[B,r,Q,u,l,p]:=g it {};let W:=Walks.range (prog:=X.prog) (w:=X.w) (I.ok.hd y) it j 1 n;calc W.item i s _ _ x a λv f C M d kk=>?_;let#[t,Z]:=M;let L:qb X D σ H { s with heap:=f,toks:=C }:=I.turned (λb o c e=>kk b o (~~~c) e) B r u l p;calc#[_,Z,CO (s:={ s with heap:=f,toks:=C }) (n:="range_iterator") d Z Z ⋯ #[.int (j+i),H,L,#[t,?_],#[Z,Z],d,λb c=>(g b c).1]];rw[Int.mul_one]
 done:=by intro X m q A y i D s σ H E I g a x;subst m q A;let#[B,r,Q,u,l,p]:=g it {};exact wpAny_pyNext_range_end (I.ok.hd y) a (by have:n<=i:=x;lia) λf G=>#[Z,I.turned (t':=s.toks) (λb o c e=>G b o c e) B r u l p]
 self:=λ_ _ _ _ _ a h=>wpAny_pyIter_rangeiter a h
section
def F6 (K:qj)(c:TE):TI:=λσ H d=>c σ H λx b=>∃a,x=.ref a/\(∃xs,rl K b a xs)/\d (xK K a) b
def ZnU (k:PE X l tl):PI X tg l (F6 X.K tl):=by
 intro i s σ H z I h;calc qx (k i s σ H _ I h) λv d f=>?_;let#[x,t,c,g,r]:=f;let#[a,e,#[u,n],q]:=r;subst e;cases g;let#[j,y,p,w]:=c.list n;calc CF p.isList ?_;calc#[↥d,[↥d],_,_,t,Z,c.kept (t':=d.toks) λb o e=>qU _ e,Zju a _,#[_,rS _ Z,Z,Z],λb m=>?_,q];let e:b=↥d:=by simpa using m
 subst e;calc c.fpOk (qG _) (c.hok.fresh (qG _))
def Ky {c:AA}{σ:St}{H:Hp}{s:AE}{R_:It->Hp->Prop}{E:rh}{lo a:Int}{t u v:Tok}{tk:Nat}(I:qb X c σ H s)(k:-(2 ^ 62)<=lo)(l:lo<2 ^ 62)(j:-(2 ^ 62)<=a)(f:a<2 ^ 62)
  (q:R_ (xh lo (a-lo).toNat) H):wpAny (model X.prog X.w) X.A (pyIter (.ref ↥s)) (FE X c σ tg R_) E { s with heap:=s.heap.push { cls:=.type "range",data:=.fields ↑[.int lo t,.int a u,.int 1 v] },toks:=tk }:=by
 calc wpAny_pyIter_range (IsRange.new ..) (small_one k l j f) ?_;let d:qb X c σ H { s with heap:=s.heap.push { cls:=.type "range",data:=.fields ↑[.int lo t,.int a u,.int 1 v] },toks:=tk }:=I.kept λb o e=>qU _ e;refine⟨(s.heap.push { cls:=.type "range",data:=.fields ↑[.int lo t,.int a u,.int 1 v] }).objs.size,[(s.heap.push { cls:=.type "range",data:=.fields ↑[.int lo t,.int a u,.int 1 v] }).objs.size],_,_,H,Z,
  d.kept (t':=tk) λb o e=>qU _ e,ZiJ _ lo (a-lo).toNat,?_,λb i=>?_,q⟩
 .let g:lo+((0:Nat):Int)*1=lo:=by simp
  let h:(((a-lo).toNat:Nat):Int)-((0:Nat):Int)=Builtin.Range.rangeSize lo a 1:=by rw[rangeSize_one];split<;>lia
  show IsRangeIter _ _ (lo+((0:Nat):Int)*1) ((((a-lo).toNat:Nat):Int)-((0:Nat):Int)) 1;rw[g,h];exact rS _ Z
 .let e:b=(s.heap.push { cls:=.type "range",data:=.fields ↑[.int lo t,.int a u,.int 1 v] }).objs.size:=by simpa using i
  subst e;calc d.fpOk (qG _) (d.hok.fresh (qG _))
def K7 (d:TA):TI:=λσ H b=>d σ H λc a=>∃j:Int,c=[.int j]/\-(2 ^ 62)<=j/\j<2 ^ 62/\b (xh 0 j.toNat) a
def LG (d:TA):TI:=λσ H b=>d σ H λc a=>∃i j:Int,c=[.int i,.int j]/\(-(2 ^ 62)<=i/\i<2 ^ 62/\-(2 ^ 62)<=j/\j<2 ^ 62)/\b (xh i (j-i).toNat) a
def zA (f:Gl X "range")(m:X.mg "range"=O)(l:PA X [a] ta)(o:autoParam (starEach [a] X.env=[(J,eval a X.env)]) Qq._auto_1):PI X tg (.Call (.Name "range" p) [a] [] pos) (K7 ta):=by
 intro i s σ H y I h;calc Call_ (BC I f m boot_range (PyProof.Rows.callWith_type1 (qx (l pos i s σ H _ I h) λv w c=>?_) o Z));let#[u,x,k,g,b]:=c;let#[j,e,b,n,q]:=b;subst e;cases g with
 | cons r d=>
  cases d;let#[t,Z]:=r;calc call_range_1 (Ky k ∅ ∅ b n (~~~q))
def En (o:Gl X "range")(g:X.mg "range"=O)(m:PA X [a,b] ta)(w:autoParam (starEach [a,b] X.env=[(J,eval a X.env),(J,eval b X.env)]) Qq._auto_1)(c:autoParam (starEach [b] X.env=[(J,eval b X.env)]) Qq._auto_1):
  PI X tg (.Call (.Name "range" p) [a,b] [] pos) (LG ta):=by
 intro l s σ H E I h;calc Call_ (BC I o g boot_range (PyProof.Rows.callWith_type1 (qx (m pos l s σ H _ I h) λz D ⟨C,B,u,k,d⟩=>?_) (by rw[w,c]) (by rw[c];rfl)));let#[i,j,e,#[d,y,n,v],q]:=d;subst e;cases k with
 | cons r f=>
  cases f with
  | cons x f=>
   cases f;let#[t,Z]:=r;let#[A,Z]:=x;calc call_range_2 (Ky u d y n v q)
def tFor (h:TI)(g:TG)(tb:TS):TS:=λD σ H=>h σ H λc j=>∃W:Nat->Nat->St->Hp->Prop,(∃m,W 0 m σ j)/\∀i m σ H,W i m σ H ->
 (c.stop i H/\D.nx σ H)\/(c.go i H/\∃N:St->Hp->Prop,(∀b a,N b a->∃e,e<m/\W (i+1) e b a)/\∀x a,c.yld i H x a->g x σ a λd f=>tb { D with nx:=N,ct:=N,bk:=D.nx } d f)
def C2 (a:List AD)(h:Heap):AA:=a.filterMap λb=>(h.get? b).map λo=>(b,o)
def Eg (a:b∈fp)(e:h.get? b=U o):(b,o)∈C2 fp h:=List.mem_filterMap.mpr #[b,a,by rw[e];rfl]
def Zkd (d:p∈C2 fp h):p.1∈fp/\h.get? p.1=U p.2:=by
 let#[b,c,e]:=List.mem_filterMap.mp d;cases q:h.get? b with
 | none=>rw[q]at e;cases e
 | some o=>
  rw[q]at e;let a:(b,o)=p:=Option.some.inj e;subst a;calc#[c,q]
def qb.pinned (I:qb X A1 σ H s)(f:∀b∈fp,jL X A1 H b)(k:∀b∈fp,∃o,s.heap.get? b=U o/\∀v,o.data≠.cell v):qb X (A1++C2 fp s.heap) σ H s:=
 I.pins_of λp h=>(rJ.mp h).elim (λz=>I.pin p (ui _ z)) λz=>by let#[c,e]:=Zkd z;let#[j,g,i,_]:=f p.1 c;let#[o,a,d]:=k p.1 c;rw[e]at a;cases a;calc#[e,j,g,i,d]
def qb.unpinned (I:qb X (A1++pl) σ H s):qb X A1 σ H s:=I.pins_of λp a=>I.pin p (ui _ (wO _ a))
def sW (E:PassesOwn (model X.prog X.w) X.A X.env X.xe)(hc:X.calm=Y)(hi:PI X tg iter wi)(hg:PG X tg g)(j:uk X body tb)
  (hs:autoParam (∀x,foldedSetIterable iter X.env x=pure x) Qx._auto_1):PS X (.For tg iter body [] pos) (tFor wi g tb):=by
 intro A s σ H D I h;calc wpAny_For (qx (hi A s σ H _ I h) λv s1 h1=>qx h1 λac s2 h2=>?_) hs;let#[it,L,tn,J_,H2,e,I2,T,ab,f2,W,#[m0,w0],K]:=h2;subst e;let k:∀ {H':Hp},(∀b∈L,H' b=O)->∀b∈L,jL X A H' b:=λhn b j=>#[hn b j,(f2 b j).2];calc codeAny_forLoop_any (λn s'=>∃i c H',qb X A c H' s'/\tn i s'.heap/\(∀b∈L,H' b=O)/\W i n c H') ?_ m0 #[0,σ,H2,I2,ab,λb j=>(f2 b j).1,w0];rintro n s3 ⟨i,t,P,I3,C,F,w3⟩;rcases K i n t P w3 with⟨G,qn⟩|⟨go,N,hN,B⟩
 .refine zS E (qx (T.done X Z Z Z hc i A s3 t P X.xe I3 (k F) C G) λr s4 y=>?_);let#[S,I4]:=y;subst S;exact Ck #[t,P,I4,qn]
 .refine zS E (qx (T.item X Z Z Z hc i A s3 t P X.xe I3 (k F) C go) λr s4 y=>?_);let#[u,S,h4]:=y;subst S;calc zS E (qx h4 λ_ s5 y=>?_);let#[x,H5,I5,r5,y5,z,Q]:=y;let aa:=I5.pinned (k Q) (T.obj _ _ z);calc zS E (qx (hg _ s5 t H5 x u _ aa r5 (B x H5 y5)) λ_ s6 y=>?_);let#[V,H6,I6,q6]:=y;calc zS E (qx (j _ s6 V H6 _ I6 q6) λf s7 w=>?_);let q:∀ {a:St} {p:Hp},qb X (A++C2 L s5.heap) a p s7->N a p->∃m,m<n/\∃i c H',qb X A c H' s7/\tn i s7.heap/\(∀b∈L,H' b=O)/\W i m c H':=λ{a p} l M=>by let#[m',hm,w7]:=hN a p M;calc#[m',hm,i+1,a,p,l.unpinned,T.keep _ _ _ z λb j o e=>(l.pin (b,o) (ui _ (ui _ (Eg j e)))).1,λb j=>?_,w7];let#[o,e,d]:=T.obj _ _ z b j;exact(l.pin (b,o) (ui _ (ui _ (Eg j e)))).2.1
  cases f with
  | next=>let#[a,p,l,M]:=w;exact q l M
  | cont=>let#[a,p,l,M]:=w;exact q l M
  | brk=>let#[a,p,l,w]:=w;exact#[a,p,l.unpinned,w]
  | ret v=>let#[x7,a,p,l,r7,w]:=w;calc#[x7,a,p,l.unpinned,r7,w]
end
def Zma {K:qj}{a:AD}{xs:NU}{g:TG}{tb:TS}{D:jn}{σ:St}{H:Hp}(b:Nat->St->Hp->Prop)(l:b 0 σ H)(j:∀i σ H,i<=⇑xs->b i σ H->rl K H a xs)
  (o:∀i x σ H,xs[i]?=U x->b i σ H->g x σ H λσ2 H2=>tb { D with nx:=b (i+1),ct:=b (i+1),bk:=D.nx } σ2 H2) (n:∀σ H,b ⇑xs σ H->D.nx σ H):
  ∃W:Nat->Nat->St->Hp->Prop,(∃m,W 0 m σ H)/\∀i m σ H,W i m σ H ->
   ((xK K a).stop i H/\D.nx σ H)\/((xK K a).go i H/\∃N:St->Hp->Prop,(∀d c,N d c->∃f,f<m/\W (i+1) f d c)/\∀x c,(xK K a).yld i H x c->g x σ c λσ2 H2=>tb { D with nx:=N,ct:=N,bk:=D.nx } σ2 H2):=by
 calc#[λi m σ H=>m=⇑xs-i/\i<=⇑xs/\b i σ H,#[⇑xs,{},rM _,l],?_];rintro i m σ H ⟨rfl,r,p⟩;let q:=j i σ H r p;by_cases h:i<⇑xs
 .refine .inr #[#[xs,xs[i],q,by simp[h]],b (i+1),λd c k=>#[⇑xs-(i+1),∅,Z,h,k],λx c y=>?_];let#[e,y]:=y;subst e;exact o i x σ _ (y xs q) p
 .let e:i=⇑xs:=by lia
  subst e;calc .inl #[#[xs,q,qG _],n σ H p]
def ZkN {d:Int}{n:Nat}{g:TG}{tb:TS}{D:jn}{σ:St}{H:Hp}(c:Nat->St->Hp->Prop)(k:c 0 σ H)
  (o:∀i σ H,i<n->c i σ H->g (.int (d+i)) σ H λσ2 H2=>tb { D with nx:=c (i+1),ct:=c (i+1),bk:=D.nx } σ2 H2) (l:∀σ H,c n σ H->D.nx σ H):
  ∃W:Nat->Nat->St->Hp->Prop,(∃m,W 0 m σ H)/\∀i m σ H,W i m σ H ->
   ((xh d n).stop i H/\D.nx σ H)\/((xh d n).go i H/\∃N:St->Hp->Prop,(∀b a,N b a->∃h,h<m/\W (i+1) h b a)/\∀x a,(xh d n).yld i H x a->g x σ a λσ2 H2=>tb { D with nx:=N,ct:=N,bk:=D.nx } σ2 H2):=by
 calc#[λi m σ H=>m=n-i/\i<=n/\c i σ H,#[n,{},rM _,k],?_];rintro i m σ H ⟨rfl,q,p⟩;by_cases f:i<n
 .refine .inr #[f,c (i+1),λb a j=>#[n-(i+1),∅,Z,f,j],λx a y=>?_];let#[e,y]:=y;subst e y;exact o i σ _ f p
 .let e:i=n:=by lia
  subst e;calc .inl #[qG _,l σ H p]
abbrev R2:=V->V->Hp->VK->Prop
def rV (X:Cx)(f:Value->Value->Sem Value)(r:R2):Prop:=
 ∀(a:AA)(s:AE)(σ:St)(H:Hp)(x y:V)(v u:Value)(Q:VK),qb X a σ H s->ia x v->ia y u->r x y H Q ->
  wpAny (model X.prog X.w) X.A (f v u) (EP X a σ Q) X.xe s
def GJ (X:Cx)(f:Value->Sem Value)(r:V->Hp->VK->Prop):Prop:=
 ∀(a:AA)(s:AE)(σ:St)(H:Hp)(x:V)(v:Value)(Q:VK),qb X a σ H s->ia x v->r x H Q ->
  wpAny (model X.prog X.w) X.A (f v) (EP X a σ Q) X.xe s
def ud (X:Cx)(f:Value)(r:NU->Hp->VK->Prop):Prop:=
 ∀(a:AA)(s:AE)(σ:St)(H:Hp)(xs:NU)(us:AC)(Q:VK),qb X a σ H s->hJ xs us->r xs H Q ->
  wpAny (model X.prog X.w) X.A (call f us) (EP X a σ Q) X.xe s
def Bl (r:R2)(c tb:TE):TE:=λσ H Q=>c σ H λx a=>tb σ a λy b=>r x y b Q
def Mf (r:V->Hp->VK->Prop)(b:TE):TE:=λσ H Q=>b σ H λx a=>r x a Q
def Cq (x y:V)(p:Int->Int->Prop):Prop:=match x,y with | .int i,.int j=>p i j | _,_=>False
def EB (h:Cq x y p):∃i j,x=.int i/\y=.int j/\p i j:=by cases x<;>first | calc False.elim h | (cases y<;>first | calc#[_,_,Z,Z,h] | calc False.elim h)
def rI (C:Int->Int->Prop)(g:Int->Int->V):R2:=λx y H Q=>Cq x y λi j=>C i j/\Q (g i j) H
def wY (g:Int->Int->V):R2:=λx y H Q=>Cq x y λi j=>Q (g i j) H
def rU (g:Int->V):V->Hp->VK->Prop:=λx H Q=>Cq x x λi _=>Q (g i) H
section
def nZ (o:PE X a ta)(n:PE X b tb){e:AA}{s:AE}{σ:St}{H:Hp}{R_:V->V->Hp->Prop}(I:qb X e σ H s)
  (h:ta σ H λx H1=>tb σ H1 λy c=>R_ x y c) {Q:rh} {f:Value->Value->Sem Value}
  (l:∀v u d x y c,qb X e σ c d->ia x v->ia y u->R_ x y c->wpAny (model X.prog X.w) X.A (f v u) Q X.xe d):
  wpAny (model X.prog X.w) X.A (eval a X.env) (λv s_1=>wpAny (model X.prog X.w) X.A (eval b X.env) (λu s_2=>wpAny (model X.prog X.w) X.A (f v u) Q X.xe s_2) X.xe s_1) X.xe s:=by
 calc qx (o e s σ H _ I h) λv r g=>?_;let#[x,H1,k,j,q]:=g;calc qx (n e r σ H1 _ k q) λu d g=>?_;let#[y,c,i,m,p]:=g;calc l v u d x y c i j m p
def qB (l:rV X (binaryOp op) r)(i:PE X a ta)(g:PE X b tb):PE X (.BinOp a op b pos) (Bl r ta tb):=by intro e s σ H Q I h;calc wpAny_BinOp (nZ i g I h λv u c x y f d j k q=>l e c σ f x y v u Q d j k q)
def Du (j:GJ X (unaryOp op) r)(e:PE X a ta):PE X (.UnaryOp op a pos) (Mf r ta):=by intro b s σ H Q I h;calc UnaryOp_ (qx (e b s σ H _ I h) λv g ⟨x,i,d,c,f⟩=>j b g σ i x v Q d c f)
def Hz {f:Value->Value->Sem Value}{C:Int->Int->Prop}{g:Int->Int->Int}
  (a:∀(i j:Int)(t u:Tok)(s:AE)(Q:rh)(E:rh),C i j->Q (.int (g i j) s.toks) { s with toks:=s.toks+1 }->wpAny (model X.prog X.w) X.A (f (.int i t) (.int j u)) Q E s):
  rV X f (rI C λi j=>.int (g i j)):=by
 intro k s σ H x y v u Q I d e h;let#[i,j,Z,Z,c,q]:=EB h;let#[t,Z]:=d;let#[b,Z]:=e;calc a i j t b s _ _ c #[.int (g i j),H,I.tok _,#[_,Z],q]
def opI0 {f:Value->Value->Sem Value}{g:Int->Int->Int}
  (a:∀(i j:Int)(t u:Tok)(s:AE)(Q:rh)(E:rh),Q (.int (g i j) s.toks) { s with toks:=s.toks+1 }->wpAny (model X.prog X.w) X.A (f (.int i t) (.int j u)) Q E s):
  rV X f (wY λi j=>.int (g i j)):=by
 intro e s σ H x y v u Q I c d h;let#[i,j,Z,Z,q]:=EB h;let#[t,Z]:=c;let#[b,Z]:=d;calc a i j t b s _ _ #[.int (g i j),H,I.tok _,#[_,Z],q]
def lJ {f:Value->Value->Sem Value}{g:Int->Int->Bool}
  (a:∀(i j:Int)(t u:Tok)(s:AE)(Q:rh)(E:rh),Q (.bool (g i j)) s->wpAny (model X.prog X.w) X.A (f (.int i t) (.int j u)) Q E s):
  rV X f (wY λi j=>.bl (g i j)):=by
 intro e s σ H x y v u Q I c d h;let#[i,j,Z,Z,q]:=EB h;let#[t,Z]:=c;let#[b,Z]:=d;calc a i j t b s _ _ #[.bl (g i j),H,I,Z,q]
def CDiv (i j:Int):Prop:=0<j/\j<1073741824
def lI (i j:Int):Prop:=(-(2 ^ 64)<i/\i<2 ^ 64)\/(-(2 ^ 64)<j/\j<2 ^ 64)
def lI.ok (h:lI i j):IntMulOk i j:=by
 rcases h with⟨a,b⟩|⟨a,b⟩
 .exact .of_left (intBits_le_64 a b)
 .exact .of_right (intBits_le_64 a b)
def t7:rV X (binaryOp .Add) (wY λi j=>.int (i+j)):=opI0 λ_ _ _ _ _ _ _ q=>add_int q
def DN:rV X (binaryOp .Sub) (wY λi j=>.int (i-j)):=opI0 λ_ _ _ _ _ _ _ q=>sub_int q
def yM:rV X (binaryOp .Mult) (rI lI λi j=>.int (i*j)):=Hz λ_ _ _ _ _ _ _ a q=>mul_int q a.ok
def yi:rV X (binaryOp .FloorDiv) (rI CDiv λi j=>.int (i/j)):=Hz λi j _ _ _ _ _ a q=>by let b:(0:Int)<j:=a.1;let c:j<1073741824:=a.2;calc floordiv_int ∅ (by rw[Int.fdiv_eq_ediv_of_nonneg i ∅];calc q) (.inl (PyProof.noPylong_small ∅))
def tK:rV X (binaryOp .Mod) (rI (λ_ j=>0<j) λi j=>.int (i % j)):=Hz λi j _ _ _ _ _ a q=>by let b:(0:Int)<j:=a;calc mod_int' ∅ (by rw[Int.fmod_eq_emod_of_nonneg i ∅];calc q)
def unI {f:Value->Sem Value}{g:Int->Int}
  (a:∀(i:Int)(t:Tok)(s:AE)(Q:rh)(E:rh),Q (.int (g i) s.toks) { s with toks:=s.toks+1 }->wpAny (model X.prog X.w) X.A (f (.int i t)) Q E s):
  GJ X f (rU λi=>.int (g i)):=by
 intro c s σ H x v Q I b h;let#[i,_,Z,_,q]:=EB h;let#[t,Z]:=b;calc a i t s _ _ #[.int (g i),H,I.tok _,#[_,Z],q]
def C1:GJ X (unaryOp .USub) (rU λi=>.int (-i)):=unI λ_ _ _ _ _ q=>neg_int q
end
noncomputable def pT:V->V->Bool
 | .non,.non=>Y | .non,.int _=>Y | .int _,.non=>Y | .non,.bl _=>Y | .bl _,.non=>Y | .non,.str _=>Y | .str _,.non=>Y
 | .int _,.int _=>Y | .bl _,.bl _=>Y | .str _,.str _=>Y | .byt _,.byt _=>Y
 | .int _,.str _=>Y | .str _,.int _=>Y | .bl _,.str _=>Y | .str _,.bl _=>Y
 | _,_=>J
def rEq:R2:=λx y H Q=>pT x y=Y/\Q (.bl (R (x=y))) H
def rNe:R2:=λx y H Q=>pT x y=Y/\Q (.bl (!R (x=y))) H
def IG:R (V.int i=V.int j)=(i == j):=by rw[vf];simp
def K3:R (V.bl i=V.bl j)=(i == j):=by rw[vf];simp
def Ja:R (V.str i=V.str j)=(i == j):=by rw[vf];simp
def Nj:R (V.byt i=V.byt j)=(i.toList == j.toList):=by rw[vf];cases i;cases j;simp
section
def sg (I:qb X A1 σ H s)(q:Q (.bl k) H)(e:k=k'):EP X A1 σ Q (.bool k') s:=by subst e;calc#[.bl k,H,I,Z,q]
def ZrT:rV X (compareOp .Eq) rEq:=by
 intro e s σ H x y v u Q I d a h;let#[c,q]:=h;cases x with
 | non=>
  cases d;cases y with
  | non=>cases a;exact PySem.EqNone.eq_none_none (sg I q {})
  | bl j=>cases a;exact PySem.EqNone.eq_none_bool (sg I q {})
  | int j=>let#[b,Z]:=a;exact PySem.EqNone.eq_none_int (sg I q {})
  | str j=>let#[b,Z]:=a;exact PySem.EqNone.eq_none_str (sg I q {})
  | _=>exact NR (show J=Y from c) qO
 | bl i=>
  cases d;cases y with
  | non=>cases a;exact PySem.EqNone.eq_bool_none (sg I q {})
  | bl j=>cases a;exact eq_bool (sg I q K3)
  | str j=>let#[b,Z]:=a;exact PySem.EqMixed.eq_bool_str (sg I q {})
  | _=>exact NR (show J=Y from c) qO
 | int i=>
  let#[t,Z]:=d;cases y with
  | non=>cases a;exact PySem.EqNone.eq_int_none (sg I q {})
  | int j=>let#[b,Z]:=a;exact eq_int (sg I q IG)
  | str j=>let#[b,Z]:=a;exact PySem.EqMixed.eq_int_str (sg I q {})
  | _=>exact NR (show J=Y from c) qO
 | str i=>
  let#[t,Z]:=d;cases y with
  | non=>cases a;exact PySem.EqNone.eq_str_none (sg I q {})
  | bl j=>cases a;exact PySem.EqMixed.eq_str_bool (sg I q {})
  | int j=>let#[b,Z]:=a;exact PySem.EqMixed.eq_str_int (sg I q {})
  | str j=>let#[b,Z]:=a;exact eq_str (sg I q Ja)
  | _=>exact NR (show J=Y from c) qO
 | byt i=>
  let#[t,Z]:=d;cases y with
  | byt j=>let#[b,Z]:=a;exact PySem.W.eq_bytes (sg I q Nj)
  | _=>exact NR (show J=Y from c) qO
 | _=>cases y<;>calc NR (show J=Y from c) qO
def ZrR:rV X (compareOp .NotEq) rNe:=by
 intro e s σ H x y v u Q I d a h;let#[c,q]:=h;cases x with
 | non=>
  cases d;cases y with
  | non=>cases a;exact PySem.EqNone.ne_none_none (sg I q {})
  | bl j=>cases a;exact PySem.EqNone.ne_none_bool (sg I q {})
  | int j=>let#[b,Z]:=a;exact PySem.EqNone.ne_none_int (sg I q {})
  | str j=>let#[b,Z]:=a;exact PySem.EqNone.ne_none_str (sg I q {})
  | _=>exact NR (show J=Y from c) qO
 | bl i=>
  cases d;cases y with
  | non=>cases a;exact PySem.EqNone.ne_bool_none (sg I q {})
  | bl j=>cases a;exact ne_bool (sg I q (NQ not K3))
  | str j=>let#[b,Z]:=a;exact PySem.EqMixed.ne_bool_str (sg I q {})
  | _=>exact NR (show J=Y from c) qO
 | int i=>
  let#[t,Z]:=d;cases y with
  | non=>cases a;exact PySem.EqNone.ne_int_none (sg I q {})
  | int j=>let#[b,Z]:=a;exact ne_int (sg I q (NQ not IG))
  | str j=>let#[b,Z]:=a;exact PySem.EqMixed.ne_int_str (sg I q {})
  | _=>exact NR (show J=Y from c) qO
 | str i=>
  let#[t,Z]:=d;cases y with
  | non=>cases a;exact PySem.EqNone.ne_str_none (sg I q {})
  | bl j=>cases a;exact PySem.EqMixed.ne_str_bool (sg I q {})
  | int j=>let#[b,Z]:=a;exact PySem.EqMixed.ne_str_int (sg I q {})
  | str j=>let#[b,Z]:=a;exact ne_str (sg I q (NQ not Ja))
  | _=>exact NR (show J=Y from c) qO
 | byt i=>
  let#[t,Z]:=d;cases y with
  | byt j=>let#[b,Z]:=a;exact PySem.W.ne_bytes (sg I q (NQ not Nj))
  | _=>exact NR (show J=Y from c) qO
 | _=>cases y<;>calc NR (show J=Y from c) qO
def CD:rV X (compareOp .Lt) (wY λi j=>.bl (R (i<j))):=lJ λ_ _ _ _ _ _ _ q=>lt_int q
def Nf:rV X (compareOp .LtE) (wY λi j=>.bl (R (i<=j))):=lJ λ_ _ _ _ _ _ _ q=>le_int q
def Bh:rV X (compareOp .Gt) (wY λi j=>.bl (R (j<i))):=lJ λ_ _ _ _ _ _ _ q=>gt_int q
def ZrS:rV X (compareOp .GtE) (wY λi j=>.bl (R (j<=i))):=lJ λ_ _ _ _ _ _ _ q=>ge_int q
def KA:rV X (compareOp .In) (λx y H Q=>∃i j,x=.str i/\y=.str j/\Q (.bl (!(Builtin.Str.occurrences j i 0 ⇑j 1).isEmpty)) H):=by intro d s σ H x y v u Q I b a h;let#[i,j,Z,Z,q]:=h;let#[t,Z]:=b;let#[c,Z]:=a;calc in_str (sg I q Z)
def Zgl:rV X (compareOp .NotIn) (λx y H Q=>∃i j,x=.str i/\y=.str j/\Q (.bl (!(!(Builtin.Str.occurrences j i 0 ⇑j 1).isEmpty))) H):=by intro d s σ H x y v u Q I b a h;let#[i,j,Z,Z,q]:=h;let#[t,Z]:=b;let#[c,Z]:=a;calc notIn_str (sg I q Z)
def qT (b:Expr){a:CmpOp}(h:autoParam (a≠.In) Qw._auto_1)(d:autoParam (a≠.NotIn) Qw._auto_1):behindInMarks a b=J:=by
 let c:(a == CmpOp.In)=J:=by cases a<;>first | rfl | exact NR Z h
 let e:(a == CmpOp.NotIn)=J:=by cases a<;>first | rfl | exact NR Z d
 cases b<;>simp[behindInMarks,c,e]
def tF (m:rV X (compareOp op) r)(i:PE X a ta)(g:PE X b tb)(k:behindInMarks op b=J):PE X (.Compare a [op] [b] pos) (Bl r ta tb):=by intro e s σ H Q I h;calc wpAny_Compare1 (nZ i g I h λv u c x y f d j l q=>m e c σ f x y v u Q d j l q) k
def HH (t:TE):TT:=λσ H Q=>t σ H λx a=>yA x λk=>Q k a
def ri (B:rV X (compareOp op) r)(o:PE X a ta)(n:PE X b tb)(i:behindInMarks op b=J):PT X (.Compare a [op] [b] pos) (HH (Bl r ta tb)):=by
 intro d s σ H Q I h;refine wpAny_isTrue_Compare1 (qx (o d s σ H _ I h) λv F ⟨x,q,t,l,p⟩=>qx (n d F σ q _ t p) λu g ⟨y,D,C,m,E⟩=>
  qx (B d g σ D x y v u _ C l m E) λc G ⟨z,w,A,j,f⟩=>?_) i
 let#[k,e,f]:=zo f;subst e;cases j;calc ww #[w,A,f]
def HN (r c:R2)(d tb f:TE):TE:=λσ H Q=>d σ H λx g=>tb σ g λy b=>r x y b λz a=>yA z λk=>
 (if k=Y then f σ a λh e=>c y h e Q else Q (.bl J) a)
def ZlB (S:rV X (compareOp op) r)(j:rV X (compareOp op') r')(E:PE X a ta)(D:PE X b tb)(hc:PE X c tc)
  (q:lastMarks [op,op'] [b,c]=J:=by with_unfolding_all rfl):PT X (.Compare a [op,op'] [b,c] pos) (HH (HN r r' ta tb tc)):=by
 intro f s σ H Q I h;refine isTrue_chain (qx (E f s σ H _ I h) λv s1 ⟨x,K,L,C,G⟩=>test_link (qx (D f s1 σ K _ L G) λu o ⟨y,H2,T,l,q2⟩=>
  qx (S f o σ H2 x y v u _ T C l q2) λd s3 ⟨z,m,n,B,g⟩=>?_)) q
 let#[k,e,g]:=zo g;subst e;cases B;calc ww ?_;cases k with
 | false=>
  exact ite_ff #[m,n,g]
 | true=>
  calc ite_tt (test_last (qx (hc f s3 σ m _ n g) λw' M ⟨P,w,I4,A,N⟩=>qx (j f M σ w y P u w' _ I4 l A N) λd' s5 p=>?_));let#[z2,W,F,t,i]:=p;let#[k2,V,i]:=zo i;subst V;cases t;calc ww #[W,F,i]
def D4:(sizeLine:Nat)<2 ^ 63:=by rw[sizeLine_eq];decide
def ZiV:rV X (binaryOp .Add) (λx y H Q=>∃i j,x=.str i/\y=.str j/\⇑i+⇑j<=sizeLine/\Q (.str (i++j)) H):=by intro f s σ H x y v u Q I c d h;let#[i,j,Z,Z,a,q]:=h;let#[t,Z]:=c;let#[b,Z]:=d;calc add_str (λb e=>#[.str (i++j),H,I.tok _,#[_,Z],q]) a
def kq (r:hJ [x] us):∃u,us=[u]/\ia x u:=by
 cases r with
 | cons b a=>cases a;calc#[_,Z,b]
def pV (r:hJ [x,y] us):∃u w',us=[u,w']/\ia x u/\ia y w':=by
 cases r with
 | cons c b=>
  cases b with
  | cons a d=>cases d;calc#[_,_,Z,c,a]
def Ml (b:X.calm=Y):ud X (.builtin "min") (λxs H Q=>∃i j,xs=[.int i,.int j]/\Q (.int (if j<i then j else i)) H):=by
 intro e s σ H xs g Q I r h;let#[i,j,Z,q]:=h;let#[u,l,Z,#[t,Z],#[f,Z]]:=pV r;calc min_two_ints (I.ok.hd b) λc d k=>#[_,H,I.kept k,?_,q];by_cases a:j<i
 .rw[qg a,qg a];exact#[_,Z]
 .rw[qe a,qe a];calc#[_,Z]
def JH:ud X (.type "int") (λxs H Q=>(∃i,xs=[.int i]/\Q (.int i) H)\/∃k,xs=[.bl k]/\Q (.int (if k then 1 else 0)) H):=by
 intro c s σ H xs b Q I r h;rcases h with⟨i,rfl,q⟩|⟨k,rfl,q⟩
 .obtain⟨u,rfl,t,rfl⟩:=kq r;exact call_int_int #[.int i,H,I,#[_,Z],q]
 .obtain⟨u,rfl,a⟩:=kq r;cases a;calc call_int_bool #[.int (if k then 1 else 0),H,I.tok _,#[_,Z],q]
def oM (K:qj)(x:V)(H:Hp)(n:Nat):Prop:=
 match x with
 | .str y=>⇑y<=sizeLine/\n=⇑y
 | .byt y=>y.size<=sizeLine/\n=y.size
 | .ref p=>(∃xs,rl K H p xs/\n=⇑xs)\/∃xs,sG K H p xs/\n=⇑xs
 | _=>False
def Zmn:ud X (.builtin "len") (λxs H Q=>∃x n,xs=[x]/\oM X.K x H n/\Q (.int n) H):=by
 intro k s σ H xs m Q I r h;let#[x,n,Z,e,q]:=h;let#[u,Z,f]:=kq r;let l:=D4;let o:sizeLine=16777216:=sizeLine_eq;cases x with
 | str y=>
  let#[t,Z]:=f;obtain⟨j,a⟩:⇑y<=sizeLine/\n=⇑y:=e;subst a;exact len_str ∅ #[.int _,H,I.tok _,#[_,Z],q]
 | byt y=>
  let#[t,Z]:=f;obtain⟨j,a⟩:y.size<=sizeLine/\n=y.size:=e;subst a;exact PySem.W.len_bytes ∅ #[.int _,H,I.tok _,#[_,Z],q]
 | ref p=>
  cases f;let a:(∃xs,rl X.K H p xs/\n=⇑xs)\/∃xs,sG X.K H p xs/\n=⇑xs:=e;rcases a with⟨xs,b,a⟩|⟨xs,b,a⟩
  .subst a;let#[c,d,pl,i]:=I.list b;let g:=⇑d;exact Calls.call_len_list pl.isList (by simp only[rN];lia) #[.int ⇑xs,H,I.tok _,#[_,by simp only[rN];rw[g]],q]
  .subst a;let#[c,d,pl,i]:=I.tuple b;let g:=⇑d;exact len_tuple pl (by simp only[rN];lia) #[.int ⇑xs,H,I.tok _,#[_,by simp only[rN];rw[g]],q]
 | _=>calc(show False from e).elim
end
structure kF (h:Heap)(x dx C:AD)(mA:AB):Prop where
 obj:h.get? x=U (instObj C dx)
 ns:h.Ns1 dx mA
 ne:dx≠x
def GL {h:Heap}{c:AD}{f:AB}(n:h.Ns1 c f):∃od,h.get? c=U od/\∀name,lookIn name od=U (f name):=by
 let#[o,d,p,m,j,l,_,i]:=n;calc#[o,m,λname=>?_];let e:=i name;unfold nsFind findBy at e;rw[<-Array.find?_toList]at e;unfold lookIn;rw[j];dsimp only;split
 .rename_i y q
  rw[q]at e;exact NQ U e
 .rename_i q
  rw[q]at e;let a:d.toList.any (·.refKey)=J:=by rw[List.any_eq_false];intro y k;let#[z,t,b]:=l y (Array.mem_toList_iff.mp k);simp[DictEntry.refKey,b]
  let g:¬d.toList.any (·.refKey)=Y:=by rw[a];exact qO
  rw[qe g];calc NQ U e
def kF.look (I:kF h x dx C mA):∃od,PySem.W.InstAt h x (instObj C dx) C (U od)/\∀name,lookIn name od=U (mA name):=
 let ⟨od,ho,hl⟩:=GL I.ns
 #[od,#[I.obj,Z,Z,ho],hl]
section
variable {prog:AG}{w:AI}{A:AH}{E:rh}{s:AE}{K:qj}{x dx C f:AD}{mA:AB}{name:Str}{v:Value}
def Zoh (X:K.In s.heap)(I:kF s.heap x dx C mA)(b:plainGet K C name=Y)(c:hasDictIn K C=Y)
  (e:findIn K (.ref C) name=U O) (f:mA name=U v) (a:handedIn v=Y) (h:Q v { s with toks:=s.toks+1 }):
  wpAny (model prog w) A (getAttr (.ref x) name expr) Q E s:=by
 let#[i,g,d]:=I.look;calc PySem.W.get_value X g (plainGet_of b).1 (findObj_own c e Z (by rw[d,f])) a h
def Zl8 (X:K.In s.heap)(I:kF s.heap x dx C mA)(a:plainGet K C name=Y)
  (d:findIn K (.ref C) name=U (U (.ref f))) (e:isFn K (.ref f)=Y) (g:mA name=O) (h:Q (.ref f,[.ref x]) s):
  wpAny (model prog w) A (getMethod (.ref x) name pl) Q E s:=by
 let#[b,i,c]:=I.look;calc PySem.W.method_fn X i (plainGet_of a).1 (plainGet_of a).2 d (beq_iff_eq.mp e) (by show (lookIn name b).map (·.isSome)=U J;rw[c,g];rfl) h
def Znz (X:K.In s.heap)(I:kF s.heap x dx C mA)
  (p:findIn K (.ref C) "__setattr__"=U (U (.builtin "object.__setattr__"))) (m:plainOver K C=Y) (u:takerIn K C name=U O) (q:hasDictIn K C=Y)
  (o:PySem.Within mA ns) (hsz:⇑ns<=sizeLine)
  (h:∀h',kF h' x dx C (λy=>if y=name then U v else mA y)->Heap.SameBut dx s.heap h'->Q () { s with heap:=h',toks:=s.toks+2 }):
  wpAny (model prog w) A (setAttr (.ref x) name v) Q E s:=by
 let#[D,j,F]:=I.look;calc set_plain X j p (PySem.W.osa_open (s:={ s with toks:=s.toks+1 }) (r:=O) X j m u λb=>?_);let#[z,t,f]:=zF q;let k:s.heap.get? x=U #[.ref C,U dx,.plain,↑[]]:=I.obj;calc qd (qv (qd (qd (wpAny_loadPart k (qd (PySem.W.Looks.here (s:={ s with toks:=s.toks+1 }) (looks_clsIn X t) ?_))))));rw[f];calc qv (a:=U dx) (qd (qv (qd ?_)));calc wpAny_nsSet1 (s:={ s with toks:=s.toks+1 }) I.ns λh' d c=>?_;let#[B,n,l,g,i,e]:=d.count (PySem.Within.cons name v o);calc qd (wpAny_lookBehind g (by rw[i];calc pastItsLine_dict (qJ e (by rw[rF];lia))) ?_);calc qv (h _ #[(c.2 _ (qy I.ne)).trans I.obj,d,I.ne] c)
def ZlT (X:K.In s.heap)(c:makesIn K C=Y)
  (e:findIn K (.ref C) "__init__"=U (U (.ref f))) (b:typeIn K (.ref f)=U (.type "function"))
  (h:codeAny (model prog w) (A.under (.builtin "type.__call__" #[.ref C::vs,kw])) (.call (.ref f) #[.ref (↥s+1)::vs,kw]) (PySem.W.InitBack (↥s+1) R_)
   { s with heap:=(s.heap.push emptyDict).push (instObj C ↥s) }):
  codeAny (model prog w) A (.call (.ref C) #[vs,kw]) R_ s:=by
 let#[i,g,d,t,j]:=s;calc PySem.W.make_core (PySem.W.makes_of X c) (zu X e) (λa=>bind_fn X a b) (.inl Z) h
end
noncomputable def iq (f:Str)(v:V):List (Str×V)->List (Str×V)
 | []=>[(f,v)]
 | (g,x)::r=>if g=f then (g,v)::r else (g,x)::iq f v r
theorem sD (f g:Str)(v:V):∀fs:List (Str×V),(iq f v fs).lookup g=if g=f then U v else fs.lookup g
 | []=>by
  show List.lookup g [(f,v)]=_;by_cases h:g=f
  .let hb:(g == f)=Y:=beq_iff_eq.mpr h;simp only[List.lookup,hb,qg h]
  .let hb:(g == f)=J:=beq_eq_false_iff_ne.mpr h;simp only[List.lookup,hb,qe h]
 | (k,x)::r=>by
  let b:=sD f g v r;rw[show iq f v ((k,x)::r)=(if k=f then (k,v)::r else (k,x)::iq f v r) from Z];by_cases a:k=f
  .rw[qg a];by_cases h:g=k
   .let hb:(g == k)=Y:=beq_iff_eq.mpr h;simp only[List.lookup,hb,qg (h.trans a)]
   .let hb:(g == k)=J:=beq_eq_false_iff_ne.mpr h;simp only[List.lookup,hb,qe (λe:g=f=>h (e.trans a.symm))]
  .rw[qe a];by_cases h:g=k
   .let hb:(g == k)=Y:=beq_iff_eq.mpr h;simp only[List.lookup,hb,qe (λe:g=f=>a (h.symm.trans e))]
   .let hb:(g == k)=J:=beq_eq_false_iff_ne.mpr h;simp only[List.lookup,hb];calc b
theorem CU (f:Str)(v:V):∀fs:List (Str×V),f∈(iq f v fs).map (·.1)/\∀g,g∈fs.map (·.1)->g∈(iq f v fs).map (·.1)
 | []=>#[by simp[iq],λg h=>by simp at h]
 | (k,x)::r=>by
  let#[i1,i2]:=CU f v r;rw[show iq f v ((k,x)::r)=(if k=f then (k,v)::r else (k,x)::iq f v r) from Z];by_cases a:k=f
  .rw[qg a];subst a;exact#[{},λg h=>by simpa using h]
  .rw[qe a];refine#[?_,λg h=>?_]
   .rw[rC];exact si _ i1
   .rw[rC]at h ⊢;rcases qS.mp h with e | e
    .exact qS.mpr (.inl e)
    .exact si _ (i2 g e)
theorem HF (f:Str)(v:V):∀fs:List (Str×V),⇑(iq f v fs)<=⇑fs+1
 | []=>by simp[iq]
 | (k,x)::r=>by
  let ih:=HF f v r;rw[show iq f v ((k,x)::r)=(if k=f then (k,v)::r else (k,x)::iq f v r) from Z];by_cases a:k=f
  .rw[qg a,rF,rF];lia
  .rw[qe a,rF,rF];lia
def iT.some_of (r:iT (U v) o):∃u,o=U u/\ia v u:=by
 cases o with
 | none=>exact(show False from r).elim
 | some u=>calc#[u,Z,r]
def iT.none_of (r:iT O o):o=O:=by
 cases o with
 | none=>rfl
 | some u=>calc(show False from r).elim
def MB (r:ia v u):handedIn u=Y:=by
 cases v with
 | non=>cases (show u=Value.none from r);rfl
 | bl b=>cases (show u=Value.bool b from r);rfl
 | int i=>let#[t,e]:=(show ∃t,u=Value.int i t from r);cases e;rfl
 | str x=>let#[t,e]:=(show ∃t,u=Value.str x t from r);cases e;rfl
 | byt b=>let#[t,e]:=(show ∃t,u=Value.bytes b t from r);cases e;rfl
 | flt b=>let#[t,e]:=(show ∃t,u=Value.float b t from r);cases e;rfl
 | ref a=>cases (show u=Value.ref a from r);rfl
 | ty n=>cases (show u=Value.type n from r);rfl
section
def EE (c:rQ P w H h)(e:H a=U (.ins C dx fs)):∃b,kF h a dx C b/\(∀f,iT (fs.lookup f) (b f))/\PySem.Within b (fs.map (·.1))/\⇑fs<=1000/\H dx=U (.own a):=by let#[d,z,g,i,b,n,r,q]:=(show iA P w H h a (.ins C dx fs) from c a _ e);calc#[b,#[i,n,g],r,q,z,d]
end
structure uP (K:qj)(C:AD):Prop where
 pg:plainGet K C Str.empty=Y
 hd:hasDictIn K C=Y
 po:plainOver K C=Y
 sa:findIn K (.ref C) "__setattr__"=U (U (.builtin "object.__setattr__"))
def uP.get {K:qj}{C:AD}(c:uP K C)(f:Str):plainGet K C f=Y:=c.pg
def ik (K:qj)(C:AD)(f:Str):Prop:=findIn K (.ref C) f=U O
def ik.taker {K:qj}{C:AD}{f:Str}(n:ik K C f):takerIn K C f=U O:=by unfold takerIn;rw[show findIn K (.ref C) f=U O from n];rfl
structure iN (K:qj)(C:AD)(m:Str)(f:AD):Prop where
 at_:findIn K (.ref C) m=U (U (.ref f))
 fn:isFn K (.ref f)=Y
 kp:keepIn K (.ref f)=Y
section
def Zi6 (I:qb X A1 σ H s)(e:H a=U (.ins C dx fs))(c:uP X.K C)(n:ik X.K C f)(l:fs.lookup f=U v)
  (h:∀u s',qb X A1 σ H s'->ia v u->Q u s'):wpAny (model X.prog X.w) A (getAttr (.ref a) f b) Q E s:=by
 let#[j,g,r,_,_,_]:=EE I.hok e;let#[u,i,d]:=iT.some_of (v:=v) (o:=j f) (by rw[<-l];calc r f);calc Zoh I.kIn g (c.get f) c.hd n i (MB d) (h u _ (I.tok _) d)
def Ga (I:qb X A1 σ H s)(e:H a=U (.ins C dx fs))(c:uP X.K C)(k:iN X.K C m g)(l:fs.lookup m=O)
  (h:Q (.ref g,[.ref a]) s):wpAny (model X.prog X.w) A (getMethod (.ref a) m pl) Q E s:=by
 let#[f,d,r,_,_,_]:=EE I.hok e;let b:f m=O:=iT.none_of (by rw[<-l];calc r m);calc Zl8 I.kIn d (c.get m) k.at_ k.fn b h
def ZiO (I:qb X A1 σ H s)(e:H a=U (.ins C dx fs))(c:uP X.K C)(n:ik X.K C f)(F:⇑fs<1000)(D:ia y u)
  (h:∀s',qb X A1 σ (upd H a (.ins C dx (iq f y fs))) s'->Q () s'):wpAny (model X.prog X.w) A (setAttr (.ref a) f u) Q E s:=by
 let#[l,d,r,k,_,j]:=EE I.hok e;let t:⇑(fs.map (·.1))<=sizeLine:=by rw[qm,sizeLine_eq];lia
 calc Znz I.kIn d c.sa c.po n.taker c.hd k t λm i B=>h _ ?_;let w:∃o,m.get? dx=U o:=let ⟨o,_,_,e',_⟩:=i.ns;#[o,e'];calc I.write (x:=a) (e:=dx) (by rw[e];calc True.intro) (.inr j) (λb q v z=>(B.2 b v).trans z) w ?_;refine#[by rw[qh d.ne];calc j,?_,d.ne,i.obj,_,i.ns,λg=>?_,λg p=>?_]
 .have:=HF f y fs;lia
 .show iT ((iq f y fs).lookup g) (if g=f then U u else l g);rw[sD];by_cases q:g=f
  .rw[qg q,qg q];exact D
  .rw[qe q,qe q];exact r g
 .by_cases q:g=f
  .rw[q];exact(CU f y fs).1
  .refine(CU f y fs).2 g (k g λz=>p ?_);show (if g=f then U u else l g)=O;rw[qe q];calc z
def qb.made (I:qb X A1 σ H s):qb X A1 σ (upd (upd H ↥s (.own (↥s+1))) (↥s+1) (.ins C ↥s []))
  { s with heap:=(s.heap.push emptyDict).push (instObj C ↥s) }:=by
 let d:(s.heap.push emptyDict).get? ↥s=U emptyDict:=rS s.heap Z;let f:((s.heap.push emptyDict).push (instObj C ↥s)).get? (↥s+1)=U (instObj C ↥s):=by
  have:=rS (s.heap.push emptyDict) (o:=instObj C ↥s) Z
  rwa [vD]at this
 let i:(s.heap.push emptyDict).Ns ↥s (λ_=>O):=#[emptyDict,↑[],_,d,Z,(λe h=>NR h {}),λ_=>rfl];let g:=I.laid (a:=↥s) (o:=.own (↥s+1)) (h':=s.heap.push emptyDict) (t':=s.toks) (λb u q=>qU _ q) (qG _) #[_,d];calc g.laid (a:=↥s+1) (o:=.ins C ↥s []) (t':=s.toks) (λb u q=>qU _ q) (vK (vD _ _)) ?_;let c:↥s≠↥s+1:=rK (Nat.lt_succ_self _);calc#[by rw[qh c,qu],rM _,c,f,λ_=>O,(Heap.Ns1.of_empty i).at λo q=>qU _ q,λ_=>True.intro,λy j=>NR Z j]
def MN (a:attributeBase e f env (eval e env)=eval e env)
  (h:wpAny (model prog w) A (eval e env) (λo s_1=>wpAny (model prog w) A (getAttr o f Y) Q E s_1) E s):wpAny (model prog w) A (eval (.Attribute e f pos) env) Q E s:=
 Attribute_any_ h (by rw[arm_eval_Attribute,a])
end
inductive FldR (K:qj)(f:Str)(x:V)(H1:Hp)(Q:VK):Prop
 | mk (a C dx:AD) (fs:List (Str×V)) (v:V) (_:x=.ref a) (_:H1 a=U (.ins C dx fs)) (_:uP K C) (_:ik K C f) (_:fs.lookup f=U v) (_:Q v H1):FldR K f x H1 Q
def nh (K:qj)(b:TE)(f:Str):TE:=λσ H Q=>b σ H λx a=>FldR K f x a Q
inductive lV (K:qj)(f:Str)(x y:V)(H2:Hp)(q:Hp->Prop):Prop
 | mk (a C dx:AD) (fs:List (Str×V)) (_:x=.ref a) (_:H2 a=U (.ins C dx fs)) (_:uP K C) (_:ik K C f) (_:⇑fs<1000) (_:q (upd H2 a (.ins C dx (iq f y fs)))):lV K f x y H2 q
def sFld (K:qj)(c d:TE)(f:Str):TS:=λD σ H=>d σ H λy a=>c σ a λx b=>lV K f x y b (D.nx σ)
def InOp (X:Cx)(b:Operator)(c:V->V->Hp->VK->Prop):Prop:=
 ∀(a:AA)(s:AE)(σ:St)(H:Hp)(x y:V)(u v:Value)(Q:VK),qb X a σ H s->ia x u->ia y v->c x y H Q->wpAny (model X.prog X.w) X.A (inplaceOp b u v) (EP X a σ Q) X.xe s
section
def Zpt (i:PE X e ta)(p:attributeBase e f X.env (eval e X.env)=eval e X.env):PE X (.Attribute e f pos) (nh X.K ta f):=by intro j s σ H Q I h;calc MN p (qx (i j s σ H _ I h) λu A b=>?_);let#[x,t,m,r,a,C,z,B,v,k,g,c,n,l,q]:=b;subst k;obtain rfl:u=Value.ref a:=r;calc Zi6 m g c n l λy w d o=>#[v,t,d,o,q]
def vL (g:PE X o ta)(p:PE X value tv)(r:swapsWith value (U (.Attribute o f pos')) pos.line X.env=pure J):PS X (.Assign [.Attribute o f pos'] value pos) (sFld X.K ta tv f):=by intro b s σ H D I h;calc plainObj_wpAny_Assign_Attribute (qx (p b s σ H _ I h) λu B ⟨y,j,k,i,q⟩=>qx (g b B σ j _ k q) λt E d=>?_) r;let#[x,K,v,z,a,C,F,G,e,w,c,n,l,A]:=d;subst e;obtain rfl:t=Value.ref a:=z;calc ZiO v w c n l i λL m=>#[σ,_,m,A]
def rSub:V->V->Hp->VK->Prop:=λx y H Q=>∃i j,x=.int i/\y=.int j/\Q (.int (i-j)) H
def Zql:InOp X .Sub rSub:=by rintro c s σ H x y u v Q I b a ⟨i,j,rfl,rfl,q⟩;let#[t,Z]:=(show ∃t,u=Value.int i t from b);let#[t',Z]:=(show ∃t',v=Value.int j t' from a);calc PyProof.Rows.isub_int #[.int (i-j),H,I.tok _,#[_,Z],q]
end
section
inductive ju (K:qj)(H:Hp):V->Value->Prop where
 | non:ju K H .non (.type "NoneType")
 | bl (x:Bool):ju K H (.bl x) (.type "bool")
 | int (i:Int):ju K H (.int i) (.type "int")
 | str (x:Str):ju K H (.str x) (.type "str")
 | flt (x:UInt64):ju K H (.flt x) (.type "float")
 | lst {a:AD} {xs:NU} (e:H a=U (.lst xs)):ju K H (.ref a) (.type "list")
 | frz {a:AD} {o:Obj} {xs:NU} (e:H a=U (.frz o (.lst xs))):ju K H (.ref a) (.type "list")
 | tup {a:AD} {xs:NU} (e:H a=U (.tup xs)):ju K H (.ref a) (.type "tuple")
 | dK {a:AD} {kvs:List (qt×V)} (e:H a=U (.dK kvs)):ju K H (.ref a) (.type "dict")
 | dT {a:AD} {kvs:List (List qt×V)} (e:H a=U (.dT kvs)):ju K H (.ref a) (.type "dict")
 | ins {a C dx:AD} {fs:List (Str×V)} (e:H a=U (.ins C dx fs)) (cl:uP K C) (ha:findIn K (.ref C) "__class__"=U (U (.builtin "object.__class__")))
   (hn:specialIn K (.builtin "object.__class__") "__get__"=U (U (.builtin "getset_descriptor.__get__"))) (htk:takesIn K (.builtin "object.__class__")=U Y)
   (hm:mroIn K C (.type "object")=U Y):ju K H (.ref a) (.ref C)
def ZkD (I:qb X A1 σ H s)(f:ia x u)(ty:ju X.K H x t)(e:kitOne X.K t c=U b)(h:∀tk,Q (.bool b) { s with toks:=tk }):
  wpAny (model X.prog X.w) A (call (.builtin "isinstance") [u,c]) Q E s:=by
 cases ty with
 | non=>cases (show u=Value.none from f);exact u4 PySem.W.kitx_none I.kIn True.intro e (λz=>nomatch z) h
 | bl y=>cases (show u=Value.bool y from f);exact u4 PySem.W.kitx_bool I.kIn True.intro e (λz=>nomatch z) h
 | int i=>let#[t,q]:=(show ∃t,u=Value.int i t from f);cases q;exact u4 PySem.W.kitx_int I.kIn True.intro e (λz=>nomatch z) h
 | str y=>let#[t,q]:=(show ∃t,u=Value.str y t from f);cases q;exact u4 PySem.W.kitx_str I.kIn True.intro e (λz=>nomatch z) h
 | flt y=>let#[t,q]:=(show ∃t,u=Value.float y t from f);cases q;exact u4 PySem.W.kitx_float I.kIn True.intro e (λz=>nomatch z) h
 | @lst a k d=>
  cases (show u=Value.ref a from f);let#[_,_,n,_,g]:=(show iA X.prog X.w H s.heap a (.lst k) from I.hok a _ d);exact u4 kitx_list I.kIn #[_,g,Z] e (λz=>nomatch z) h
 | @frz a D k d=>
  cases (show u=Value.ref a from f);let#[_,_,_,n,_,g]:=(show iA X.prog X.w H s.heap a (.frz D (.lst k)) from I.hok a _ d);exact u4 kitx_list I.kIn #[_,g,Z] e (λz=>nomatch z) h
 | @tup a k d=>
  cases (show u=Value.ref a from f);let#[_,_,_,p]:=(show iA X.prog X.w H s.heap a (.tup k) from I.hok a _ d);let#[o,g,l,_]:=p;exact u4 kitx_tuple I.kIn #[o,g,l] e (λz=>nomatch z) h
 | @dK a j d=>
  cases (show u=Value.ref a from f);let#[_,_,S,_,p]:=(show iA X.prog X.w H s.heap a (.dK j) from I.hok a _ d);let#[o,L,G,g,l,_]:=p;exact u4 kitx_dict I.kIn #[o,g,l.1] e (λz=>nomatch z) h
 | @dT a j d=>
  cases (show u=Value.ref a from f);let#[_,_,k,_,o,L,G,g,l,_]:=(show iA X.prog X.w H s.heap a (.dT j) from I.hok a _ d);exact u4 kitx_dict I.kIn #[o,g,l.1] e (λz=>nomatch z) h
 | @ins a C M N d r F K m w=>
  cases (show u=Value.ref a from f);let#[P,v,_]:=EE I.hok d;let#[T,B,_]:=v.look;calc u4 (PySem.W.kitx_own (r.get _) r.hd F K m w) I.kIn B e (λz=>nomatch z) h
end
structure iJ (k:Nat)(A:AH):Prop where
 hd:A.handled=O
 dp:A.depth+3*k+5<recursionLimit
 un:A.units+16*k+200<cLine
def iJ.mono (r:iJ k A)(h:j<=k):iJ j A:=#[r.hd,by have:=r.dp;lia,by have:=r.un;lia]
def iJ.deeper (r:iJ (k+1) A)(env:Env):iJ k (A.deeper env):=
 #[r.hd,by have:=r.dp;show A.depth+1+3*k+5<_;lia,by have:=r.un;show A.units+3+16*k+200<_;lia]
def Zi2 {A:AH}{C:AD}{us:AC}{a:List (Str×Value)}:(A.under (.builtin "type.__call__" #[.ref C::us,a])).depth=A.depth+1:=by
 first | rfl | simp[Around.under,Code.weight,Code.isCreation,Code.isGuard,Code.isCaller,Code.frames,Code.isFrame,guardIds]
def Zi1 {A:AH}{C:AD}{us:AC}{a:List (Str×Value)}:(A.under (.builtin "type.__call__" #[.ref C::us,a])).units=A.units+1:=by
 first | rfl | simp[Around.under,Code.cUnits,Code.frames,Code.isFrame]
def iJ.make (r:iJ (k+1) A)(C:AD)(us:AC)(a:List (Str×Value)):iJ k (A.under (.builtin "type.__call__" #[.ref C::us,a])):=
 #[r.hd,by have:=r.dp;rw[Zi2];lia,by have:=r.un;rw[Zi1];lia]
def iJ.depth (r:iJ k A):A.depth<recursionLimit:=by have:=r.dp;lia
def iJ.units (r:iJ k A):A.units+64<cLine:=by have:=r.un;lia
def mh:TA:=λ_ H Q=>Q [] H
def LM (d:TE)(b:TA):TA:=λσ H Q=>d σ H λx e=>b σ e λa c=>Q (x::a) c
section
def qc:PA X [] mh:=λ_ _ _ _ H Q I h=>B3 #[[],H,I,.nil,h]
def qa (l:PE X e te)(m:PA X es t)(r:autoParam (starEach (e::es) X.env=(J,eval e X.env)::starEach es X.env) Qq._auto_1):PA X (e::es) (LM te t):=by intro a b s σ H Q I h;rw[r];show wpAny _ _ (spliced ((J,eval e X.env)::backTo a (starEach es X.env))) _ _ s;calc xZ (qx (l b s σ H _ I h) λu p c=>?_);let#[x,q,i,f,n]:=c;calc qx (m a b p σ q _ i n) λw v ⟨d,k,g,j,o⟩=>#[x::d,k,g,.cons f j,o]
def tTup (t:TA):TE:=λσ H Q=>t σ H λa b=>⇑a<=sizeLine/\∀p,b p=O->Q (.ref p) (upd b p (.tup a))
def tLst (t:TA):TE:=λσ H Q=>t σ H λa b=>⇑a<=sizeLine/\∀p,b p=O->Q (.ref p) (upd b p (.lst a))
def yb {x1}(h:PA X es t):PE X (.Tuple es x1 pos) (tTup t):=by intro g s σ H Q I k;calc wpAny_Tuple_spliced (qx (h pos g s σ H _ I k) λj a ⟨f,d,c,r,z,q⟩=>#[by rw[<-⇑r];calc z,?_]);let i:d ↥a=O:=c.hok.fresh (qG _);calc#[.ref ↥a,upd d ↥a (.tup f),c.laid (t':=a.toks) (λb u e=>qU _ e) (qG _) ?_,Z,q _ i];calc#[z,j,r,#[_,rS _ Z,Z,_,Z]]
def uC (h:PA X es t):PE X (.List es pos) (tLst t):=by intro g s σ H Q I k;calc wpAny_List_spliced (qx (h pos g s σ H _ I k) λj a ⟨f,d,c,r,z,q⟩=>#[by rw[<-⇑r];calc z,?_]);let i:d ↥a=O:=c.hok.fresh (qG _);calc#[.ref ↥a,upd d ↥a (.lst f),c.laid (t':=a.toks) (λb u e=>qU _ e) (qG _) ?_,Z,q _ i];calc#[z,j,0,r,rS _ Z]
end
abbrev Sp:=NU->Hp->VK->XK->Prop
abbrev v0:=List Env->Hp->AE->XK->Value->AE->Prop
structure kN (P:AG)(w:AI)(K:qj)(mg:AB)(base:Heap)(A:AH)(outer:List Env)(s:AE)(H:Hp):Prop where
 frames:A.frames=U outer
 mod:Mod K mg base
 bs:∀b o,base.get? b=U o->s.heap.get? b=U o/\H b=O
 bsz:base.objs.size<=↥s
 funs:s.heap.FunFrames base outer
 frf:∀b∈rZ outer,H b=O
 hok:rQ P w H s.heap
 bare:AllBare s.gens
def CE (a:List Env)(P:AG)(w:AI)(H:Hp)(s:AE)(Q:VK)(u:Value)(s':AE):Prop:=
 ∃v b,s'.os=s.os/\AllBare s'.gens/\Un (rZ a) [] H b s.heap s'.heap/\rQ P w b s'.heap/\ia v u/\Q v b
def CR (CX:v0)(a:List Env)(P:AG)(w:AI)(H:Hp)(s:AE)(Q:VK)(E:XK)(r:Result)(s':AE):Prop:=
 match r with
 | .ok (.ret u)=>CE a P w H s Q u s'
 | .ok _=>False
 | .error e=>CX a H s E e s'
structure g9 (P:AG)(w:AI)(K:qj)(mg:AB)(base:Heap)(CX:v0)(k:Nat)(f:AD)(fd:AF)(ps:AJ)(sp:Sp):Prop where
 len:∀vs H Q E,sp vs H Q E->⇑vs=⇑ps
 run:∀(A:AH)(outer:List Env)(s:AE)(H:Hp)(args:Args)(us:AC)(vs:NU)(Q:VK)(E:XK),iJ k A->kN P w K mg base A outer s H->BindsTo s fd args (ps.zip us)->hJ vs us->sp vs H Q E ->
  codeAny (model P w) A (.call (.ref f) args) (CR CX outer P w H s Q E) s
def kN.make {P:AG}{w:AI}{K:qj}{c:AB}{b:Heap}{A:AH}{a:List Env}{s:AE}{H:Hp}(e:kN P w K c b A a s H)(C:AD)(us:AC)(d:List (Str×Value)):
  kN P w K c b (A.under (.builtin "type.__call__" #[.ref C::us,d])) a s H:=#[by first | calc e.frames | (simpa [Around.under,Code.envs,Code.isFrame,pushEnvs] using e.frames),e.mod,e.bs,e.bsz,e.funs,e.frf,e.hok,e.bare]
section
def qb.env0 (I:qb X A1 σ H s):kN X.prog X.w X.K X.mg X.base X.A X.stack s H:=
 #[I.ok.frames,I.ok.mod,I.bs,qJ I.ok.bsz I.sz,I.stack,I.stkFree,I.hok,I.bare]
def qb.after (I:qb X A1 σ H s)(h:CE X.stack X.prog X.w H s Q u s'):EP X A1 σ Q u s':=by let#[v,f,i,bare,un,c,r,q]:=h;let#[e,g,d,t,a]:=s';obtain rfl:a=s.os:=i;calc#[v,f,I.call (h':=e) (g':=g) (d':=d) (t':=t) (ch:=[]) un c bare (λb z=>NR z {}),r,q]
end
noncomputable def Ff (sp:Sp)(a:NU)(E:XK)(t:TA):TE:=λσ H Q=>t σ H λb c=>sp (b++a) c Q E
inductive lX (C:AD)(m:Str)(x:V)(H1:Hp)(q:Prop):Prop
 | mk (a dx:AD) (fs:List (Str×V)) (_:x=.ref a) (_:H1 a=U (.ins C dx fs)) (_:fs.lookup m=O) (_:q):lX C m x H1 q
def Ft (C:AD)(m:Str)(sp:Sp)(c:NU)(E:XK)(e:TE)(t:TA):TE:=λσ H Q=>e σ H λx a=>lX C m x a
 (t σ a λd b=>sp (x::(d++c)) b Q E)
def KB (C:AD)(sp:Sp)(d:NU)(E:XK)(t:TA):TE:=λσ H Q=>t σ H λe b=>∀x a,b x=O->b a=O->a≠x ->
 sp (.ref x::(e++d)) (upd (upd b a (.own x)) x (.ins C a [])) (λv c=>v=.non/\Q (.ref x) c) E
def iP (K:qj)(c:AF)(b:AJ)(a:AC):Prop:=
 ∀(s:AE)(us:AC),K.In s.heap->⇑(us++a)=⇑b->BindsTo s c #[us,[]] (b.zip (us++a))
def iP.all {K:qj}{b:AF}{a:AJ}(h:∀us:AC,⇑us=⇑a->bindArgs b #[us,[]]=pure (a.zip us)):iP K b a []:=λs us _ c=>by rw[wH]at c ⊢;calc .of_eq (h us c)
def vy (CX:v0)(X:Cx)(E:XK):Prop:=∀(a:AA)(σ:St)(H:Hp)(s:AE)(e:Value)(s':AE),qb X a σ H s->CX X.stack H s E e s'->X.xe e s'
section
def CZ (F:g9 X.prog X.w X.K X.mg X.base CX k f fd ps sp)(i:iJ k X.A)(g:iP X.K fd ps ds)(j:hJ BA ds)(c:vy CX X E)
  (I:qb X A1 σ H s) (r:hJ vs us) (h:sp (vs++BA) H Q E):wpAny (model X.prog X.w) X.A (call (.ref f) us) (EP X A1 σ Q) X.xe s:=by
 let b:hJ (vs++BA) (us++ds):=r.append j;let d:⇑(us++ds)=⇑ps:=by rw[<-⇑b];exact F.len _ _ _ _ h
 calc vY (codeAny_mono (F.run X.A X.stack s H #[us,[]] (us++ds) (vs++BA) Q E i I.env0 (g s us I.kIn d) b h) λr l a=>?_);cases r with
 | error e=>exact c A1 σ H s e l I a
 | ok m=>
  cases m with
  | ret u=>exact I.after a
  | next=>exact False.elim a
  | brk=>exact False.elim a
  | cont=>calc False.elim a
def ZnX (F:g9 X.prog X.w X.K X.mg X.base CX k f fd ps sp)(o:iJ k X.A)(d:Gl X x)(n:X.mg x=U (.ref f))(v:keepIn X.K (.ref f)=Y)(l:iP X.K fd ps ds)(u:hJ BA ds)(g:vy CX X E)
  (m:PA X (e::es) t) (a:autoParam ((x == ("__debug__":Str))=J) Qw._auto_1) (i:autoParam (starEach (e::es) X.env=(J,eval e X.env)::starEach es X.env) Qq._auto_1) (b:autoParam ((backTo pos (starEach es X.env)).any (·.1)=J) Qq._auto_1):
  PE X (.Call (.Name x p) (e::es) [] pos) (Ff sp BA E t):=by
 intro j s σ H Q I h;calc yj (xU I d n ?_ a);calc yZ (h₀:=X.base) I.ok.mod.kin v (qx (m pos j s σ H _ I h) λy z ⟨w,A,c,r,q⟩=>#[c.kIn,?_]) i b;calc CZ F o l u g c r q
def rX (he:PE X o ta)(c:uP X.K C)(hm:iN X.K C m f)(F:g9 X.prog X.w X.K X.mg X.base CX k f fd ps sp)(hr:iJ k X.A)(hb:iP X.K fd ps ds)(hd:hJ BA ds)(hx:vy CX X E)(ha:PA X (e::es) t)
  (hst:autoParam (starEach (e::es) X.env=(J,eval e X.env)::starEach es X.env) Qq._auto_1) (hpl:autoParam ((backTo pos (starEach es X.env)).any (·.1)=J) Qq._auto_1)
  (ht:autoParam (eval (.Call (.Attribute o m A6) (e::es) [] pos) X.env=(do
   let ov <-eval o X.env
   standAt A6.atName
   let (f,first) <-holding [ov] (getMethod ov m pl)
   callWith pos f first (backTo pos (starEach (e::es) X.env)) (backToKw pos (keywordEach [] X.env)))) Qq._auto_1):
  PE X (.Call (.Attribute o m A6) (e::es) [] pos) (Ft C m sp BA E ta t):=by
 intro A1 s σ H Q I h;calc Cn (pl:=pl) (qx (he A1 s σ H _ I h) λu s1 zz=>?_) ht;let#[x,H1,I1,rx,a,dx,fs,ex,ea,l,q]:=zz;subst ex;obtain rfl:u=Value.ref a:=rx;calc Ga I1 ea c hm l ?_;calc yZ (first:=[.ref a]) (h₀:=X.base) I.ok.mod.kin hm.kp (qx (ha pos A1 s1 σ H1 _ I1 q) λus s2 ⟨vs,H2,I2,r,q2⟩=>#[I2.kIn,?_]) hst hpl;calc CZ (us:=.ref a::us) (vs:=.ref a::vs) F hr hb hd hx I2 (.cons Z r) q2
def tO (he:PE X o ta)(c:uP X.K C)(hm:iN X.K C m f)(F:g9 X.prog X.w X.K X.mg X.base CX k f fd ps sp)(hr:iJ k X.A)(hb:iP X.K fd ps ds)(hd:hJ BA ds)(hx:vy CX X E)
  (ht:autoParam (eval (.Call (.Attribute o m A6) [] [] pos) X.env=(do
   let ov <-eval o X.env
   standAt A6.atName
   let (f,first) <-holding [ov] (getMethod ov m pl)
   callWith pos f first (backTo pos (starEach [] X.env)) (backToKw pos (keywordEach [] X.env)))) Qq._auto_1):
  PE X (.Call (.Attribute o m A6) [] [] pos) (Ft C m sp BA E ta mh):=by
 intro A1 s σ H Q I h;calc Cn (pl:=pl) (qx (he A1 s σ H _ I h) λu s1 zz=>?_) ht;let#[x,H1,I1,rx,a,dx,fs,ex,ea,l,q]:=zz;subst ex;obtain rfl:u=Value.ref a:=rx;calc Ga I1 ea c hm l ?_;calc PySem.W.callWith_K0 (first:=[.ref a]) I1.kIn hm.kp (CZ (us:=[.ref a]) (vs:=[.ref a]) F hr hb hd hx I1 (.cons Z .nil) q)
structure Mk (K:qj)(C f:AD):Prop where
 makes:makesIn K C=Y
 init:findIn K (.ref C) "__init__"=U (U (.ref f))
 fn:isFn K (.ref f)=Y
 kp:keepIn K (.ref C)=Y
def Zly (M:Mk X.K C f)(F:g9 X.prog X.w X.K X.mg X.base CX k f fd ps sp)(t:iJ (k+1) X.A)(n:iP X.K fd ps ds)(w:hJ BA ds)
  (i:vy CX X E) (I:qb X A1 σ H s) (r:hJ vs us)
  (h:∀x c,H x=O->H c=O->c≠x->sp (.ref x::(vs++BA)) (upd (upd H c (.own x)) x (.ins C c [])) (λv H2=>v=.non/\Q (.ref x) H2) E):
  wpAny (model X.prog X.w) X.A (call (.ref C) us) (EP X A1 σ Q) X.xe s:=by
 let g:=h (↥s+1) ↥s (I.hok.fresh (vt _)) (I.hok.fresh (qG _)) (rK (Nat.lt_succ_self _));let b:=qb.made (C:=C) I;let d:hJ (V.ref (↥s+1)::(vs++BA)) (Value.ref (↥s+1)::(us++ds)):=.cons Z (r.append w);let j:⇑(Value.ref (↥s+1)::us++ds)=⇑ps:=by let e:=⇑d;rw[F.len _ _ _ _ g]at e;exact e.symm
 refine vY (ZlT (f:=f) I.kIn M.makes M.init (beq_iff_eq.mp M.fn) (codeAny_mono (F.run _ X.stack _ _ #[Value.ref (↥s+1)::us,[]] (Value.ref (↥s+1)::(us++ds)) _ _ E (t.make C us [])
  (b.env0.make C us []) (n _ (Value.ref (↥s+1)::us) b.kIn j) d g) λr y a=>?_))
 cases r with
 | error e=>exact i A1 σ _ _ e y b a
 | ok z=>
  cases z with
  | ret u=>
   let#[v,l,o,m,p,q]:=b.after a;subst p;exact#[m,#[V.ref (↥s+1),l,o,Z,q]]
  | next=>exact False.elim a
  | brk=>exact False.elim a
  | cont=>calc False.elim a
def yU (M:Mk X.K C f)(F:g9 X.prog X.w X.K X.mg X.base CX k f fd ps sp)(o:iJ (k+1) X.A)(d:Gl X x)(n:X.mg x=U (.ref C))(l:iP X.K fd ps ds)(u:hJ BA ds)(g:vy CX X E)
  (m:PA X (e::es) t) (a:autoParam ((x == ("__debug__":Str))=J) Qw._auto_1) (i:autoParam (starEach (e::es) X.env=(J,eval e X.env)::starEach es X.env) Qq._auto_1) (b:autoParam ((backTo pos (starEach es X.env)).any (·.1)=J) Qq._auto_1):
  PE X (.Call (.Name x p) (e::es) [] pos) (KB C sp BA E t):=by
 intro j s σ H Q I h;calc yj (xU I d n ?_ a);calc yZ (h₀:=X.base) I.ok.mod.kin M.kp (qx (m pos j s σ H _ I h) λw y ⟨v,z,c,r,q⟩=>#[c.kIn,?_]) i b;calc Zly M F o l u g c r q
end
section
end
structure g6 (N P:AJ)(sc:Scope):Prop where
 kind:sc.kind=.function
 co:sc.isCoroutine=J
 gen:sc.isGenerator=J
 nd:N.Nodup
 pre:N.take ⇑P=P
 par:∀x∈P,sc.names.lookup x=U .local\/sc.names.lookup x=U .cell
 nofree:∀y∈sc.names,y.2≠.free
theorem LF {b:Str->Option NameKind}{x:Str}:∀ {a:List (Str×Value)} {m:AB},(∀v,(x,v)∉a)->bindL b a m x=m x
 | [],_,_=>rfl
 | (n,v)::r,m,h=>by
  unfold bindL;rw[LF λw hw=>h w (si _ hw)];split
  .have:x≠n:=by rintro rfl;exact h v sA
   simp[this]
  .rfl
theorem MC {b:Str->Option NameKind}{x:Str}:∀ {a:List (Str×Value)} {m:AB},(∀v,(x,v)∉a)->bindC b a m x=m x
 | [],_,_=>rfl
 | (n,v)::r,m,h=>by
  unfold bindC;rw[MC λw hw=>h w (si _ hw)];split
  .rfl
  .have:x≠n:=by rintro rfl;exact h v sA
   simp[this]
theorem JZ {a:Str->Option NameKind}{x:Str}{v:Value}:∀ {P:AJ} {vs:AC} {i:Nat} {m:AB},P.Nodup->P[i]?=U x->vs[i]?=U v->a x=U .local ->
  bindL a (P.zip vs) m x=U v
 | [],_,_,_,_,h,_,_=>by simp at h
 | _::_,[],_,_,_,_,h,_=>by simp at h
 | p::P,w::vs,0,m,nd,h1,h2,hk=>by
  simp at h1 h2;subst h1;subst h2;show bindL a ((p,w)::P.zip vs) m p=_;unfold bindL;rw[LF λv hv=>(uX.mp nd).1 (List.of_mem_zip hv).1,qg hk];simp
 | p::P,w::vs,i+1,m,nd,h1,h2,hk=>by show bindL a ((p,w)::P.zip vs) m x=_;unfold bindL;calc JZ (i:=i) (uX.mp nd).2 (~~~h1) (~~~h2) hk
theorem Mo {a:Str->Option NameKind}{x:Str}{v:Value}:∀ {P:AJ} {vs:AC} {i:Nat} {m:AB},P.Nodup->P[i]?=U x->vs[i]?=U v->a x≠U .local ->
  bindC a (P.zip vs) m x=U v
 | [],_,_,_,_,h,_,_=>by simp at h
 | _::_,[],_,_,_,_,h,_=>by simp at h
 | p::P,w::vs,0,m,nd,h1,h2,hk=>by
  simp at h1 h2;subst h1;subst h2;show bindC a ((p,w)::P.zip vs) m p=_;unfold bindC;rw[MC λv hv=>(uX.mp nd).1 (List.of_mem_zip hv).1,qe hk];simp
 | p::P,w::vs,i+1,m,nd,h1,h2,hk=>by show bindC a ((p,w)::P.zip vs) m x=_;unfold bindC;calc Mo (i:=i) (uX.mp nd).2 (~~~h1) (~~~h2) hk
noncomputable def start (N:AJ)(vs:NU):St:=vs.map U++List.replicate (⇑N-⇑vs) O
noncomputable def jj (CX:v0)(P:AG)(w:AI)(K:qj)(mg:AB)(base:Heap)(N:AJ)(b:Str)(a:Scope)(f:AD)(d:Value)(A:AH)(outer:List Env)(s:AE)(H:Hp)(E:XK):Cx where
 prog:=P
 w:=w
 K:=K
 mg:=mg
 base:=base
 A:=A.deeper (envOfC b a ↥s f d)
 N:=N
 s_0:=s
 H_0:=H
 env:=envOfC b a ↥s f d
 outer:=outer
 stack:=envOfC b a ↥s f d::outer
 ex:=[]
 calm:=Y
 fn:=λ_=>Y
 pn:=[]
 xe:=λe h=>wpAny (model P w) (A.deeper (envOfC b a ↥s f d)) (leaving (envOfC b a ↥s f d) e) (λ_ c=>CX outer H s E e c) (λg c=>CX outer H s E g c) h
def Mr {a:Scope}{n:Nat}{x:Str}(h:a.names.lookup x=U .cell):∃c,(cellsFrom n a.names []).lookup x=U c:=by let q:=cellsFrom_some a.names n [] (.inl h);calc Option.isSome_iff_exists.mp q
def ZkG {CX:v0}{P:AG}{w:AI}{K:qj}{M:AB}{m:Heap}{N B:AJ}{j:Str}{d:Scope}{f:AD}{L:Value}{A:AH}{g:List Env}{s s1:AE}{H:Hp}{E:XK}{us:AC}{vs:NU}
  (S:g6 N B d) (hd:A.handled=O) (o:kN P w K M m A g s H) (hl:⇑vs=⇑B) (r:hJ vs us)
  (x:InCallC s ↥s (bindL (envOfC j d ↥s f L).kindOf (B.zip us) λ_=>O) (cellsFrom (↥s+1) d.names []) (bindC (envOfC j d ↥s f L).kindOf (B.zip us) λ_=>O) s1):
  qb (jj CX P w K M m N j d f L A g s H E) [] (start N vs) H s1:=by
 let W:⇑B<=⇑N:=by have:=NQ List.length S.pre;rw[rL]at this;lia
 let⟨G,tk,rfl,T⟩:=x.done;let t:∀b:AD,b∉(jj CX P w K M m N j d f L A g s H E).ex:=λb z=>NR (show b∈([]:List AD) from z) {};refine⟨⟨o.mod,S.kind,Z,Z,qG _,λy z c G l=>?_,λy C=>?_,λy c _ h=>?_,λ_=>hd,Around.frames_deeper o.frames,.inr ⟨Z,Z⟩,λb z=>NR z (t b),o.bs,o.bsz,λb _ _=>t b,λb z=>NR z (t b),o.funs,o.frf⟩,
  rfl,o.bare,Un.kept T,⟨_,x.toInCall.ns,λi y v G l h3=>?_⟩,λy c h=>⟨_,x.cell y c h⟩,o.hok.fresh (qG _),λy c h=>?_,λp D=>NR (show p∈([]:AA) from D) {},o.hok.kept T,?_⟩
 .exact name_of_addr x.apart (zq G) (zq l)
 .let C:d.names.lookup y=U .cell\/d.names.lookup y=U .free:=C;rcases C with C | C
  .exact Mr C
  .exact NR Z (S.nofree _ (zq C))
 .exact Nat.le_of_lt (x.above y c (zq h))
 .let I:i<⇑vs:=by
   unfold start at l;by_cases I:i<⇑vs
   .exact I
   .rw[vH (~~~I)]at l;rw[List.getElem?_replicate]at l;split at l<;>cases l
  let X:vs[i]?=U v:=by
   unfold start at l;rw[vj (~~~I),se]at l;cases e:vs[i]? with
   | none=>rw[e]at l;cases l
   | some a=>rw[e]at l;cases l;rfl
  let#[u,Q,V]:=r.get X;let D:B[i]?=U y:=by rw[<-S.pre,List.getElem?_take_of_lt ∅];exact G
  let F:B.Nodup:=by rw[<-S.pre];exact S.nd.sublist (zj _ _)
  calc#[u,V,?_];rcases S.par y (sC D) with k | k
  .exact .inl #[k,JZ F D Q k]
  .obtain⟨c,e⟩:=Mr (n:=↥s+1) k;calc .inr #[.inl k,c,e,?_];let q:=x.cell y c e;rw[Mo F D Q (by show d.names.lookup y≠_;rw[k];decide)]at q;exact q
 .exact o.hok.fresh (Nat.le_of_lt (x.above y c (zq h)))
 .unfold start;show _=⇑N;rw[qP,qm,List.length_replicate]
  lia
def Fv {CX:v0}{P:AG}{w:AI}{K:qj}{M:AB}{g:Heap}{k:Nat}{f:AD}{name d:Str}{h:Arguments}{i:List Stmt}{a:Scope}{dV kV F pm z ct oc:Value}{an od:Option AD}
  {aa:Array (Option Value)} {N T:AJ} {sp:Sp} (lk:K.lookup f=U #[oc,od,.func (fnOf name d h i a dV kV F pm an z ct),aa]) (ab:codeIn K z d=Y) (S:g6 N T a)
  (D:∀vs H Q E,sp vs H Q E->⇑vs=⇑T)
  (p:∀(A:AH)(c:List Env)(s:AE)(H:Hp)(vs:NU)(Q:VK)(E:XK),iJ k (A.deeper (envOfC d a ↥s f z))->sp vs H Q E ->
   ∃t,uk (jj CX P w K M g N d a f z A c s H E) i t/\t { nx:=λ_ m=>Q .non m,rt:=Q } (start N vs) H):
  g9 P w K M g CX (k+1) f (fnOf name d h i a dV kV F pm an z ct) T sp:=by
 calc#[D,λA c s H ad us vs Q E X L hb r G=>?_];let hl:=D _ _ _ _ G;let KX:K.In s.heap:=L.mod.kin.keeps λb o e=>(L.bs b o e).1;let ac:s.heap.NoLimit:=L.mod.nolimit.keeps λb o e=>(L.bs b o e).1;let B:∀y∈T.zip us,a.names.lookup y.1=U .local\/(a.names.lookup y.1=U .cell/\((cellsFrom (↥s+1) a.names []).lookup y.1).isSome=Y):=λ⟨n,v⟩ hy=>by
  rcases S.par n (List.of_mem_zip hy).1 with q | q
  .exact .inl q
  .exact .inr #[q,cellsFrom_some _ _ _ (.inl q)]
 calc codeAny_call_function X.depth (KX _ _ lk) Z S.co S.gen Z (PySem.W.codeRec_of KX ab) (hb _ _ _ _ ?_);calc wpAny_newFunctionEnv_cells S.kind B λae he s1 x=>?_;subst he;calc#[ac.keeps x.toInCall.keep,codeAny_func ?_];let#[t,ht,hq]:=p A c s H vs Q E (X.deeper _) G;let I:qb (jj CX P w K M g N d a f z A c s H E) [] (start N vs) H s1:=ZkG S X.hd L hl r x;calc tw (ht [] s1 (start N vs) H _ I hq) (λfl s' C=>?_) λe s' C=>C;let fin:∀ {j:St} {m:Hp} {v:V} {u:Value},qb (jj CX P w K M g N d a f z A c s H E) [] j m s'->ia v u->Q v m->CE c P w H s Q u s':=
  λ{j m v u} l W q=>#[v,m,l.os,l.bare,l.base,l.hok,W,q]
 cases fl with
 | ret u=>
  let#[v,j,m,l,W,q]:=C;exact fin l W q
 | next=>
  let#[j,m,l,q]:=C;exact fin (v:=V.non) (u:=Value.none) l Z q
 | brk=>
  let#[_,_,_,q]:=C;exact False.elim q
 | cont=>
  let#[_,_,_,q]:=C;calc False.elim q
section
variable {X:Cx}{x:Str}{p pos:Pos}{e:Expr}{es:List Expr}{t:TA}{id T:String}{r:NU->Hp->VK->Prop}
def F5 (r:NU->Hp->VK->Prop)(t:TA):TE:=λσ H Q=>t σ H λb a=>r b a Q
def rq (j:ud X (.builtin id) r)(d:Gl X x)(l:X.mg x=O)(m:bootBuiltins x=U (.builtin id))(k:PA X (e::es) t)(w:autoParam (x≠"__name__") Qw._auto_1)(a:autoParam ((x == ("__debug__":Str))=J) Qw._auto_1)
  (g:autoParam (starEach (e::es) X.env=(J,eval e X.env)::starEach es X.env) Qq._auto_1) (b:autoParam ((backTo pos (starEach es X.env)).any (·.1)=J) Qq._auto_1):PE X (.Call (.Name x p) (e::es) [] pos) (F5 r t):=by
 intro c s σ H Q I h;calc yj (BC I d l m ?_ w a);calc FN (qx (k pos c s σ H _ I h) λo u ⟨n,v,i,f,q⟩=>j c u σ v n o Q i f q) g b
def uZ (j:ud X (.type T) r)(d:Gl X x)(l:X.mg x=O)(m:bootBuiltins x=U (.type T))(k:PA X (e::es) t)(w:autoParam (x≠"__name__") Qw._auto_1)(a:autoParam ((x == ("__debug__":Str))=J) Qw._auto_1)
  (g:autoParam (starEach (e::es) X.env=(J,eval e X.env)::starEach es X.env) Qq._auto_1) (b:autoParam ((backTo pos (starEach es X.env)).any (·.1)=J) Qq._auto_1):PE X (.Call (.Name x p) (e::es) [] pos) (F5 r t):=by
 intro c s σ H Q I h;calc yj (BC I d l m ?_ w a);calc PyProof.Rows.callWith_type1 (qx (k pos c s σ H _ I h) λo u ⟨n,v,i,f,q⟩=>j c u σ v n o Q i f q) g b
end
end L2
namespace HT
open PySem PyProof.Rows
section
open PySem.SeqAt
open PySem.AutoSeq1 (wpAny_loadPart')
open PySem.MeetsSeq PySem.MeetsSeq2 PySem.MeetsSeq3
end
section
noncomputable def sIx (n d:Nat):Option Int->Nat
 | none=>d
 | some v=>if v<0 then (v+(n:Int)).toNat else min v.toNat n
def sIx_none (n d:Nat):sIx n d O=d:=rfl
def sIx_nat (n d k:Nat):sIx n d (U (k:Int))=min k n:=by show (if (k:Int)<0 then ((k:Int)+(n:Int)).toNat else min (k:Int).toNat n)=min k n;rw[qe ∅,zw]
def sIx_le (n d:Nat)(b:d<=n)(o:Option Int):sIx n d o<=n:=by
 cases o with
 | none=>exact b
 | some v=>
  show (if v<0 then (v+(n:Int)).toNat else min v.toNat n)<=n;by_cases a:v<0
  .rw[qg a];lia
  .rw[qe a];calc Nat.min_le_right _ _
def clip_eq (v:Int)(n d:Nat):(if v<0 then max (v+(n:Int)) 0 else min v (n:Int))=((sIx n d (U v):Nat):Int):=by
 show (if v<0 then max (v+(n:Int)) 0 else min v (n:Int))=(((if v<0 then (v+(n:Int)).toNat else min v.toNat n):Nat):Int);by_cases a:v<0
 .simp only[qg a];lia
 .simp only[qe a];lia
end
end HT
namespace L2
open PySem PySem.Spec PyProof.Rows
abbrev TO:=St->Hp->(Option Int->Hp->Prop)->Prop
def PO (X:Cx)(e:Option Expr)(t:TO):Prop:=
 ∀(b:AA)(s:AE)(σ:St)(H:Hp)(Q:Option Int->Hp->Prop),qb X b σ H s->t σ H Q ->
  wpAny (model X.prog X.w) X.A (evalPart e X.env) (λu c=>∃o a,qb X b σ a c/\IsPart u o/\Q o a) X.xe s
def kP:TO:=λ_ H Q=>Q O H
def HY (t:TE):TO:=λσ H Q=>t σ H λx a=>∃i,x=.int i/\Q (U i) a
section
variable {X:Cx}{e:Expr}{te:TE}{lo hi:Option Expr}{tl th:TO}{pos p2:Pos}
def uo:PO X O kP:=by intro a s σ H Q I h;rw[evalPart_none];calc qv #[O,H,I,.none,h]
def tM (h:PE X e te):PO X (U e) (HY te):=by intro c s σ H Q I f;rw[evalPart_some];calc qx (h c s σ H _ I f) λu k a=>?_;let#[x,j,d,b,g]:=a;let#[i,Z,q]:=g;let#[t,Z]:=b;calc#[U i,j,d,.int i t,q]
def Eo (X:Cx)(r:V->Option Int->Option Int->Hp->VK->Prop):Prop:=
 ∀(c:AA)(s:AE)(σ:St)(H:Hp)(x:V)(v d a:Value)(lo hi:Option Int)(b:AD)(Q:VK),qb X c σ H s->ia x v->s.heap.IsSliceOf b d a .none->IsPart d lo->IsPart a hi->r x lo hi H Q ->
  ∃T id,typeLookup (.type T) "__getitem__"=pure (U (.builtin id))/\s.TypeIs v T/\wpAny (model X.prog X.w) X.A (getItem v (.ref b)) (EP X c σ Q) X.xe s
def M5 (r:V->Option Int->Option Int->Hp->VK->Prop)(te:TE)(tl th:TO):TE:=λσ H Q=>te σ H λx a=>tl σ a λl b=>th σ b λu c=>r x l u c Q
def tX (m:Eo X r)(k:PE X e te)(E:PO X lo tl)(o:PO X hi th):PE X (.Subscript e (.Slice lo hi O p2) pos) (M5 r te tl th):=by intro c s σ H Q I h;calc Subscript_ (qx (k c s σ H _ I h) λv M g=>?_);let#[x,w,A,n,t]:=g;calc wpAny_Slice (qx (E c M σ w _ A t) λd j ⟨l,F,D,pl,L⟩=>qx (o c j σ F _ D L) λf a g=>?_);let#[u,i,B,y,p]:=g;rw[evalPart_none];calc qv ?_;let K:qb X c σ i { a with heap:=a.heap.push { cls:=.type "slice",data:=.fields ↑[d,f,.none] } }:=B.kept (t':=a.toks) λb N q=>qU _ q;let#[T,id,C,G,z]:=m c { a with heap:=a.heap.push { cls:=.type "slice",data:=.fields ↑[d,f,.none] } } σ i x v d f l u ↥a Q K n (Heap.IsSliceOf.new ..) pl y p;show wpAny (model X.prog X.w) X.A (subscriptTail e (.Slice lo hi O p2) v (.ref ↥a)) (EP X c σ Q) X.xe { a with heap:=a.heap.push { cls:=.type "slice",data:=.fields ↑[d,f,.none] } };calc tail_any (ops:=[.ref ↥a,v]) G C z (by with_unfolding_all rfl)
def jD (xs:NU)(lo hi:Option Int):NU:=(xs.drop (HT.sIx ⇑xs 0 lo)).take (HT.sIx ⇑xs ⇑xs hi-HT.sIx ⇑xs 0 lo)
def ZhG (xs:NU)(lo hi:Option Int):⇑(jD xs lo hi)<=⇑xs:=by
 unfold jD;rw[rL,tG]
 lia
end
end L2
namespace L2
open PySem PySem.Spec PyProof.Rows
noncomputable def wI (n:Nat)(i:Int):Option Nat:=if 0<=i then (if i<n then U i.toNat else O) else if -(n:Int)<=i then U (i+n).toNat else O
def tI {α:Type}(xs:List α)(i:Int):Option α:=(wI ⇑xs i).bind λj=>xs[j]?
def Zoc (h:wI n i=U j):seqIndex? i n=U j/\j<n/\-(n:Int)<=i/\i<n:=by
 unfold wI at h;by_cases b:0<=i
 .rw[qg b]at h;by_cases a:i<n
  .rw[qg a]at h;let e:i.toNat=j:=Option.some.inj h;exact#[by rw[seqIndex_of b a,e],∅,∅,a]
  .rw[qe a]at h;cases h
 .rw[qe b]at h;by_cases a:-(n:Int)<=i
  .rw[qg a]at h;let e:(i+n).toNat=j:=Option.some.inj h;exact#[by rw[seqIndex_neg ∅ a,e],∅,a,∅]
  .rw[qe a]at h;cases h
def He (h:tI xs i=U v):∃j,seqIndex? i ⇑xs=U j/\xs[j]?=U v/\j<⇑xs/\-(⇑xs:Int)<=i/\i<⇑xs:=by
 unfold tI at h;cases e:wI ⇑xs i with
 | none=>rw[e]at h;cases h
 | some j=>
  rw[e]at h;let#[c,b,d,a]:=Zoc e;calc#[j,c,h,b,d,a]
def wJ {α:Type}{xs:List α}{j:Nat}{v:α}(h:xs[j]?=U v):tI xs (j:Int)=U v:=by
 let a:j<⇑xs:=(rY.mp h).1;let e:wI ⇑xs (j:Int)=U j:=by unfold wI;rw[qg ∅,qg ∅];simp
 unfold tI;rw[e];calc h
def ZoC (b:Expr):Prop:=∀o i,subscripted b J o i=operate [o,i] (getItem o i)
def zJ (X:Cx)(r:R2):Prop:=
 ∀(a slice:Expr)(b:AA)(s:AE)(σ:St)(H:Hp)(x y:V)(v u:Value)(Q:VK),qb X b σ H s->ia x v->ia y u->r x y H Q ->
  subscripted slice J v u=operate [v,u] (getItem v u)->wpAny (model X.prog X.w) X.A (subscriptTail a slice v u) (EP X b σ Q) X.xe s
def FC (X:Cx)(id:String)(r:V->NU->Hp->VK->Prop):Prop:=
 ∀(a:AA)(s:AE)(σ:St)(H:Hp)(x:V)(xs:NU)(v:Value)(us:AC)(Q:VK),qb X a σ H s->ia x v->hJ xs us->r x xs H Q ->
  wpAny (model X.prog X.w) X.A (call (.builtin id) (v::us)) (EP X a σ Q) X.xe s
section
variable {X:Cx}{a b:Expr}{ta tb:TE}{pos:Pos}
def re (k:zJ X r)(i:PE X a ta)(g:PE X b tb)(m:ZoC b):PE X (.Subscript a b pos) (Bl r ta tb):=by intro e s σ H Q I h;calc Subscript_ (nZ i g I h λv u c x y f d j l q=>k a b e c σ f x y v u Q d j l q (m _ _))
def rIxL (K:qj):R2:=λx y H Q=>∃p xs i v,x=.ref p/\y=.int i/\rl K H p xs/\tI xs i=U v/\Q v H
inductive IxTR (K:qj)(x y:V)(H:Hp)(Q:VK):Prop
 | mk (p:AD) (xs:NU) (i:Int) (v:V) (_:x=.ref p) (_:y=.int i) (_:sG K H p xs) (_:tI xs i=U v) (_:Q v H):IxTR K x y H Q
def lS (K:qj):R2:=λx y H Q=>IxTR K x y H Q
def rIxS:R2:=λx y H Q=>∃z i c,x=.str z/\y=.int i/\⇑z<=sizeLine/\tI z.cps.toList i=U c/\Q (.str #[↑[c]]) H
def Zob:zJ X (rIxL X.K):=by
 intro e slice g s σ H x y v u Q I F C h k;let#[p,L,i,z,Z,Z,B,n,q]:=h;cases F;let#[t,Z]:=C;let#[d,r,pl,G]:=I.list B;let#[j,a,D,K,m,A]:=He n;let#[w,l,b]:=r.get D;let E:=⇑r;let M:=D4;let fin:EP X g σ Q w s:=#[z,H,I,b,q];by_cases f:0<=i
 .let c:i.toNat=j:=by rw[seqIndex_of f A]at a;exact Option.some.inj a
  exact item_listR pl.isList f ∅ (by rw[c];simpa using l) fin k
 .let c:(i+(d.toArray.size:Int)).toNat=j:=by rw[seqIndex_neg ∅ m]at a;rw[rN,<-E];exact Option.some.inj a
  exact subscriptTail_builtinR (x:=w) pl.isList.typeIs slot_list_getitem.lookup
   (wpAny_getItem_list_neg (Q:=λr o=>r=w/\EP X g σ Q r o) pl.isList ∅ (by rw[rN]<;>lia) ∅ (by rw[c];simpa using l) #[Z,fin]) k
def Zqe:zJ X (lS X.K):=by
 intro b slice c s σ H x y v u Q I B g h n;let#[p,G,i,z,Z,Z,f,d,q]:=h;cases B;let#[t,Z]:=g;let#[m,r,pl,D]:=I.tuple f;let#[j,k,l,E,C,F]:=He d;let#[w,o,a]:=r.get l;let A:=⇑r;let K:=D4;let fin:EP X c σ Q w s:=#[z,H,I,a,q];exact subscriptTail_builtinR (x:=w) pl.typeIs slot_tuple_getitem.lookup
  (getItem_tuple (j:=j) (Q:=λr e=>r=w/\EP X c σ Q r e) pl ∅ ∅ (by rw[rN,<-A];calc k) (~~~o) #[Z,fin]) n
def Zqf:zJ X rIxS:=by
 intro a slice w s σ H x y v u Q I m n h o;let#[z,i,c,Z,Z,r,g,q]:=h;let#[t,Z]:=m;let#[A,Z]:=n;let#[j,b,p,B,d,e]:=He g;let k:⇑z.cps.toList=⇑z:=by simp[Str.length]
 rw[k]at b d e;let C:=D4;calc tail_any (typeIs_str s z t) slot_str_getitem.lookup (getItem_str (c:=c) (by let f:R (i < -(2 ^ 63:Int))=J:=NN ∅;let l:R (i>=2 ^ 63)=J:=NN ∅;rw[f,l,Bool.or_false]) (by rw[b];simpa using p) #[.str #[↑[c]],H,I.tok _,#[_,Z],q]) o
def Zge (a b:Option Int)(n:Nat):(sliceBounds a b O n).1=((HT.sIx n 0 a:Nat):Int)/\(sliceBounds a b O n).2.1=((HT.sIx n n b:Nat):Int)/\(sliceBounds a b O n).2.2=1:=by
 refine#[?_,?_,Z]
 .cases a with
  | none=>simp[sliceBounds,HT.sIx]
  | some i=>
   simp only[sliceBounds,HT.sIx,Option.getD_none,show (1:Int)>0 by decide,if_true];by_cases h:i<0
   .simp only[h,if_true]<;>lia
   .simp only[h,if_false]<;>lia
 .cases b with
  | none=>simp[sliceBounds,HT.sIx]
  | some i=>
   simp only[sliceBounds,HT.sIx,Option.getD_none,show (1:Int)>0 by decide,if_true];by_cases h:i<0
   .simp only[h,if_true]<;>lia
   .simp only[h,if_false]<;>lia
def Zfk (its:AC)(a b:Option Int):slicePick ↑its a b O=↑((its.drop (HT.sIx ⇑its 0 a)).take (HT.sIx ⇑its ⇑its b-HT.sIx ⇑its 0 a)):=by let#[d,e,c]:=Zge a b its.toArray.size;unfold slicePick;rw[d,e,c];simp only[sliceRange_one,pick_run,rN]<;>rfl
def rSlL (K:qj):V->Option Int->Option Int->Hp->VK->Prop:=λx b c H Q=>∃a xs,x=.ref a/\rl K H a xs/\∀p,H p=O->Q (.ref p) (upd H p (.lst (jD xs b c)))
def Znx:Eo X (rSlL X.K):=by intro p s σ H x v w y d e u Q I m n pl g h;let#[a,c,Z,i,q]:=h;cases m;let#[k,r,f,j]:=I.list i;let l:=⇑r;calc#["list",_,slot_list_getitem.lookup,f.isList.typeIs,?_];calc wpAny_getItem_list_slice f.isList n pl g .none {} ?_ (by rw[rN]<;>lia);rw[Zfk,<-l];calc#[.ref ↥s,_,I.laid (t':=s.toks) (o:=.lst (jD c d e)) (λb t q=>qU _ q) (qG _) ?_,Z,q _ (I.hok.fresh (qG _))];calc#[qJ (ZhG c d e) j,_,0,(r.drop (HT.sIx ⇑c 0 d)).take (HT.sIx ⇑c ⇑c e-HT.sIx ⇑c 0 d),rS _ Z]
noncomputable def tR:V->Bool
 | .non=>Y
 | .bl _=>Y
 | .int _=>Y
 | .str _=>Y
 | _=>J
noncomputable def wa:V->V->Bool
 | .non,.non=>Y
 | .bl a,.bl b=>a == b
 | .bl a,.int b=>(if a then 1 else 0) == b
 | .int a,.bl b=>a == (if b then 1 else 0)
 | .int a,.int b=>a == b
 | .str a,.str b=>a == b
 | _,_=>J
def LO (e:ia y u)(c:ia x v)(g:tR y=Y)(f:tR x=Y):SeqAt.EqAt A s u v (wa y x):=by
 cases y with
 | non=>
  cases e;cases x with
  | non=>cases c;exact SeqAt.EqAt.same _
  | bl b=>cases c;exact SeqAt.EqAt.none_bool b
  | int b=>let#[t,Z]:=c;exact SeqAt.EqAt.none_int b t
  | str b=>let#[t,Z]:=c;exact SeqAt.EqAt.none_str b t
  | _=>exact NR (show J=Y from f) qO
 | bl a=>
  cases e;cases x with
  | non=>cases c;exact SeqAt.EqAt.bool_none a
  | bl b=>cases c;exact SeqAt.EqAt.bool_bool a b
  | int b=>let#[t,Z]:=c;exact SeqAt.EqAt.bool_int a b t
  | str b=>let#[t,Z]:=c;exact SeqAt.EqAt.bool_str a b t
  | _=>exact NR (show J=Y from f) qO
 | int a=>
  let#[d,Z]:=e;cases x with
  | non=>cases c;exact SeqAt.EqAt.int_none a d
  | bl b=>cases c;exact SeqAt.EqAt.int_bool a d b
  | int b=>let#[t,Z]:=c;exact SeqAt.EqAt.int_int a d b t
  | str b=>let#[t,Z]:=c;exact SeqAt.EqAt.int_str a d b t
  | _=>exact NR (show J=Y from f) qO
 | str a=>
  let#[d,Z]:=e;cases x with
  | non=>cases c;exact SeqAt.EqAt.str_none a d
  | bl b=>cases c;exact SeqAt.EqAt.str_bool a d b
  | int b=>let#[t,Z]:=c;exact SeqAt.EqAt.str_int a d b t
  | str b=>let#[t,Z]:=c;exact SeqAt.EqAt.str_str a d b t
  | _=>exact NR (show J=Y from f) qO
 | _=>calc NR (show J=Y from g) qO
def u0 (x:V)(u:Value):Bool:=match u with
 | .none=>wa .non x
 | .bool b=>wa (.bl b) x
 | .int i _=>wa (.int i) x
 | .str z _=>wa (.str z) x
 | _=>J
def Ni (r:ia y u)(f:tR y=Y):u0 x u=wa y x:=by
 cases y with
 | non=>cases r;rfl
 | bl b=>cases r;rfl
 | int i=>let#[t,Z]:=r;rfl
 | str z=>let#[t,Z]:=r;rfl
 | _=>calc NR (show J=Y from f) qO
theorem CL {x:V}:∀ {xs:NU} {us:AC},hJ xs us->xs.all tR=Y->us.any (u0 x)=xs.any λy=>wa y x
 | _,_,.nil,_=>rfl
 | y::xs,u::us,.cons r t,f=>by rw[yE,rB]at f;rw[List.any_cons,List.any_cons,Ni r f.1,CL t f.2]
theorem Cp {A:AH}{s:AE}{x:V}{v:Value}(b:ia x v)(a:tR x=Y):∀ {xs:NU} {us:AC},hJ xs us->xs.all tR=Y->∀u∈us,SeqAt.EqAt A s u v (u0 x u)
 | _,_,.nil,_=>λu hu=>by cases hu
 | y::xs,u::us,.cons r t,f=>λu' hu=>by
  rw[yE,rB]at f;rcases qS.mp hu with rfl | hu
  .rw[Ni r f.1];exact LO r b f.1 a
  .exact Cp b a t f.2 u' hu
def Bn (x:V)(xs:NU):Bool:=xs.any λy=>wa y x
inductive Jn (K:qj)(neg:Bool)(x y:V)(H:Hp)(Q:VK):Prop
 | mk (p:AD) (xs:NU) (_:y=.ref p) (_:rl K H p xs\/sG K H p xs) (_:tR x=Y) (_:xs.all tR=Y) (_:Q (.bl (if neg then !Bn x xs else Bn x xs)) H):Jn K neg x y H Q
def DE (K:qj)(a:Bool):R2:=λx y H Q=>Jn K a x y H Q
def Zj7:rV X (compareOp .In) (DE X.K J):=by
 intro k s σ H x y v u Q I e i h;let#[p,j,Z,b,f,c,q]:=h;cases i;rcases b with b | b
 .obtain⟨a,r,pl,g⟩:=I.list b;calc SeqAt.in_listAt (u0 x) pl.isList (λw d=>Cp e f r c w (~~~d)) #[.bl _,H,I,Z,?_];rw[show a.toArray.any (u0 x)=a.any (u0 x) by simp,CL r c];exact q
 .obtain⟨a,r,pl,g⟩:=I.tuple b;calc SeqAt.in_tupleAt (u0 x) pl (λw d=>Cp e f r c w (~~~d)) #[.bl _,H,I,Z,?_];rw[show a.toArray.any (u0 x)=a.any (u0 x) by simp,CL r c];calc q
def Zgm:rV X (compareOp .NotIn) (DE X.K Y):=by
 intro k s σ H x y v u Q I e i h;let#[p,j,Z,b,f,c,q]:=h;cases i;rcases b with b | b
 .obtain⟨a,r,pl,g⟩:=I.list b;calc SeqAt.notIn_listAt (u0 x) pl.isList (λw d=>Cp e f r c w (~~~d)) #[.bl _,H,I,Z,?_];rw[show a.toArray.any (u0 x)=a.any (u0 x) by simp,CL r c];exact q
 .obtain⟨a,r,pl,g⟩:=I.tuple b;calc SeqAt.notIn_tupleAt (u0 x) pl (λw d=>Cp e f r c w (~~~d)) #[.bl _,H,I,Z,?_];rw[show a.toArray.any (u0 x)=a.any (u0 x) by simp,CL r c];calc q
def ZgZ:ud X (.type "list") (λxs H Q=>∃p ys,xs=[.ref p]/\(rl X.K H p ys\/sG X.K H p ys)/\∀l,H l=O->Q (.ref l) (upd H l (.lst ys))):=by
 intro m s σ H xs w Q I r h;let#[p,ys,Z,f,q]:=h;let#[u,Z,t]:=kq r;cases t;let fin:∀(its:AC),hJ ys its->⇑ys<=sizeLine->∀(h':Heap)(c:Nat),(∀b o',s.heap.get? b=U o'->h'.get? b=U o') ->
   h'.get? ↥s=U { cls:=.type "list",dict:=O,data:=.seq ↑its c,slots:=↑[] }->EP X m σ Q (.ref ↥s) { s with heap:=h' }:=λits a d h' c g e=>
  #[.ref ↥s,_,I.laid (t':=s.toks) g (qG _) (show iA X.prog X.w _ h' _ (.lst ys) from#[d,its,c,a,e]),Z,q _ (I.hok.fresh (qG _))]
 rcases f with f | f
 .obtain⟨its,a,pl,d⟩:=I.list f;let v:=⇑a;let#[o,k,i,n,j]:=pl.isList;exact call_list_seq p (.inl Z) k i j (λh' c g e=>fin its a d h' c g e) (by simp only[rN]<;>lia)
 .obtain⟨its,a,pl,d⟩:=I.tuple f;let v:=⇑a;let#[o,k,i,n,j]:=pl;calc call_list_seq p (.inr Z) k i j (λh' c g e=>fin its a d h' c g e) (by simp only[rN]<;>lia)
def FF (K:qj)(T:String)(x:V)(H:Hp):Prop:=match x with
 | .str _=>T="str"
 | .int _=>T="int"
 | .ref p=>(T="list"/\∃xs,rl K H p xs)\/(T="tuple"/\∃o,K.lookup p=U o/\o.cls=.type "tuple"/\o.dict=O) \/
   (T="dict"/\((∃kvs,H p=U (.dK kvs))\/∃kvs,H p=U (.dT kvs)))\/(T="set"/\∃S n,H p=U (.set S n))
 | _=>False
def Np (I:qb X A1 σ H s)(r:ia x v)(ty:FF X.K T x H):
  s.TypeIs v T/\∀a,v=.ref a->∃ob,s.heap.get? a=U ob/\ob.dict=O:=by
 cases x with
 | str z=>
  let#[t,Z]:=r;cases (show T="str" from ty);exact#[typeIs_str s z t,λ_ e=>nomatch e]
 | int i=>
  let#[t,Z]:=r;cases (show T="int" from ty);exact#[typeIs_int s i t,λ_ e=>nomatch e]
 | ref p=>
  cases r;rcases ty with⟨rfl,m,l⟩|⟨rfl,o,b,k,h⟩|⟨rfl,b⟩|⟨rfl,S,n,b⟩
  .obtain⟨j,_,pl,_⟩:=I.list l;calc#[pl.isList.typeIs,λa e=>?_];cases e;let#[o,n,e,c,h,_]:=pl;exact#[o,e,h]
  .refine#[#[o,I.kIn p o b,k],λa e=>?_];cases e;exact#[o,I.kIn _ o b,h]
  .let z:∃o,s.heap.get? p=U o/\o.ExactDict:=by
    rcases b with⟨f,b⟩|⟨f,b⟩
    .obtain⟨_,_,_,_,o,_,_,e,d,_⟩:=I.hok p _ b;exact#[o,e,d]
    .obtain⟨_,_,_,_,o,_,_,e,d,_⟩:=I.hok p _ b;exact#[o,e,d]
   let#[o,e,d]:=z;calc#[#[o,e,d.1],λa g=>?_];cases g;exact#[o,e,d.2.1]
  .obtain⟨o,_,_,_,e,d,_⟩:=I.hok p _ b;calc#[#[o,e,d.1],λa g=>?_];cases g;exact#[o,e,d.2.1]
 | _=>calc False.elim ty
def tBM0 (K:qj)(T:String)(r:V->NU->Hp->VK->Prop)(b:TE):TE:=λσ H Q=>b σ H λx a=>FF K T x a/\r x [] a Q
def G9 (K:qj)(T:String)(r:V->NU->Hp->VK->Prop)(d:TE)(t:TA):TE:=λσ H Q=>d σ H λx a=>FF K T x a/\t σ a λb c=>r x b c Q
variable {o e:Expr}{es:List Expr}{to:TE}{t:TA}{name:Str}{A6 A7:Pos}{T id:String}{r:V->NU->Hp->VK->Prop}
def Zpu (j:PlainAttrs T)(c:Slot T name id)(d:typeOf (.builtin id)=pure (.type "method_descriptor"))(k:FC X id r)(p:PE X o to)
  (b:autoParam (attributeBase o name X.env (eval o X.env)=eval o X.env) Qq._auto_1) (a:autoParam ((A6.endLine == A7.line)=Y) Qq._auto_1):PE X (.Call (.Attribute o name A6) [] [] A7) (tBM0 X.K T r to):=by
 intro f s σ H Q I h;calc wpAny_Call_method0_late b a (qx (p f s σ H _ I h) λv n i=>?_);let#[x,m,g,e,ty,l]:=i;let#[q,t]:=Np g e ty;calc#[T,id,j,c,d,q,t,Dg Z (PySem.evalArgs_none (k f n σ m x [] v [] Q g e .nil l))]
def uu (p:PlainAttrs T)(f:Slot T name id)(g:typeOf (.builtin id)=pure (.type "method_descriptor"))(q:FC X id r)(F:PE X o to)(y:PA X (e::es) t)
  (b:autoParam (attributeBase o name X.env (eval o X.env)=eval o X.env) Qq._auto_1)
  (d:autoParam (((backTo A7 (starEach (e::es) X.env)).all (λx=>!x.1)&&(backToKw A7 (keywordEach [] X.env)).all (λx=>x.1.isSome)
   && R (⇑(e::es)+⇑([]:List Keyword)+(if ([]:List Keyword).isEmpty then 0 else 1)<30))=Y) Qq._auto_1)
  (c:autoParam ((A6.endLine == A7.line)=Y) Qq._auto_1) (E:autoParam (starEach (e::es) X.env=(J,eval e X.env)::starEach es X.env) Qq._auto_1) (a:autoParam ((backTo A7 (starEach es X.env)).any (·.1)=J) Qq._auto_1):
  PE X (.Call (.Attribute o name A6) (e::es) [] A7) (G9 X.K T r to t):=by
 intro i s σ H Q I h;calc wpAny_Call_method_late b d c Z (qx (F i s σ H _ I h) λv M m=>?_);let#[x,A,l,j,ty,z]:=m;let#[B,C]:=Np l j ty;calc#[T,id,p,f,g,B,C,?_];let k:=y A7 i M σ A _ l z;rw[E]at k ⊢;calc Dg (by show (J || (backTo A7 (starEach es X.env)).any (·.1))=J;rw[a]<;>rfl) (Calls.evalArgs_plain ?_);calc qx k λu n ⟨D,K,G,w,L⟩=>q i n σ K x D v u Q G j w L
end
def zP (X:Cx)(id:String)(r:V->NU->Hp->VK->Prop):Prop:=
 ∀(a:AA)(s:AE)(σ:St)(H:Hp)(x:V)(xs:NU)(v:Value)(us:AC)(Q:VK),qb X a σ H s->ia x v->hJ xs us->r x xs H Q ->
  wpAny (model X.prog X.w) X.A (call (.builtin id) (v::us)) (EP X a σ Q) X.xe s
def hJ.one (h:hJ [x] us):∃u,us=[u]/\ia x u:=by
 cases h with
 | cons r n=>cases n;calc#[_,Z,r]
def hJ.two (h:hJ [x,y] us):∃u v,us=[u,v]/\ia x u/\ia y v:=by
 cases h with
 | cons r t=>
  cases t with
  | cons q n=>cases n;calc#[_,_,Z,r,q]
theorem hJ.zero:∀ {us:AC},hJ [] us->us=[]
 | _,.nil=>rfl
def hJ.dropLast (h:hJ xs us):hJ xs.dropLast us.dropLast:=by
 induction h with
 | nil=>exact .nil
 | cons r t a=>
  cases t with
  | nil=>exact .nil
  | cons q b=>calc .cons r a
theorem hJ.rep {xs:NU}{us:AC}(h:hJ xs us):∀k:Nat,hJ (List.replicate k xs).flatten (List.replicate k us).flatten
 | 0=>.nil
 | k+1=>by rw[yN,yN,xH,xH];calc hJ.append h (hJ.rep h k)
def Zi8 (l:List α):l.eraseIdx (⇑l-1)=l.dropLast:=by
 induction l with
 | nil=>rfl
 | cons a r c=>
  cases r with
  | nil=>rfl
  | cons b r=>
   let e:⇑(a::b::r)-1=(⇑(b::r)-1)+1:=by
    let f:⇑(a::b::r)=⇑r+2:=rfl;let d:⇑(b::r)=⇑r+1:=rfl
    lia
   rw[e,List.eraseIdx_cons_succ,c];all_goals rfl
theorem jW (its:AC):∀(k:Nat)(a:AC),
  List.foldl (λx1 x2=>x1++x2) ↑a (List.replicate k ↑its)=↑(a++(List.replicate k its).flatten)
 | 0,a=>by simp
 | k+1,a=>by
  let e:↑a++↑its=↑(a++its):=by simp
  let b:(a++its)++(List.replicate k its).flatten=a++(List.replicate (k+1) its).flatten:=by rw[yN,xH,tD]
  rw[<-b,<-jW its k (a++its),<-e,yN,zN]
section
def qb.lset {its its':AC}{n:Nat}{f:Array Value->Array Value}{t':Nat}(I:qb X A1 σ H s)(a:H l=U (.lst xs))
  (e:s.heap.get? l=U { cls:=.type "list",data:=.seq ↑its n }) (c:f ↑its=↑its') (h:hJ ys its') (b:⇑ys<=sizeLine):
  qb X A1 σ (upd H l (.lst ys)) { s with heap:=s.heap.update l (Obj.mapSeq f),toks:=t' }:=by
 let q:=PySem.IsL.update e f;rw[c]at q;calc I.write (x:=l) (e:=l) (by rw[a];calc trivial) (.inl Z) (λi u d g=>(wj s.heap (Obj.mapSeq f) (qy d)).trans g) #[_,q] ?_;calc#[b,its',_,h,q]
def qb.lnew (I:qb X A1 σ H s)(a:hJ ys its)(b:⇑ys<=sizeLine):
  qb X A1 σ (upd H ↥s (.lst ys)) { s with heap:=s.heap.push { cls:=.type "list",data:=.seq ↑its },toks:=t' }:=
 I.laid (λ_ _ q=>qU _ q) (qG _) #[b,its,0,a,rS _ Z]
def qb.fresh (I:qb X A1 σ H s):H ↥s=O:=I.hok.fresh (qG _)
def qb.lstM (I:qb X A1 σ H s)(a:H l=U (.lst xs)):⇑xs<=sizeLine/\∃(its:AC)(n:Nat),hJ xs its/\⇑xs=⇑its/\s.heap.get? l=U { cls:=.type "list",data:=.seq ↑its n }:=by let#[z,its,n,r,e]:=I.hok l _ a;calc#[z,its,n,r,⇑r,e]
def Jr (h:n<=sizeLine):Builtin.List.listTooLong n=J:=by unfold Builtin.List.listTooLong;calc NN ∅
end
section
def lK:V->NU->Hp->VK->Prop:=λx a H Q=>∃l xs y,x=.ref l/\a=[y]/\H l=U (.lst xs)/\⇑xs<sizeLine/\Q .non (upd H l (.lst (xs++[y])))
def ye:zP X "list.append" lK:=by
 intro j s σ H x m v o Q I d c h;let#[l,g,y,Z,Z,b,i,q]:=h;cases d;let#[u,Z,f]:=c.one;let#[z,a,n,r,k,e]:=I.lstM b;calc call_meets F.slot_list_append #[_,e,Z] F.entry_list_append (F.args_list_append_2 _ _) (PySem.list_append l ↑a n u (by rw[rN];lia)) #[e,?_];calc#[.non,_,I.lset (its':=a++[u]) b e {} (r.append (.cons f .nil)) ?_,Z,q];rw[qP,r6]
 lia
def lT:V->NU->Hp->VK->Prop:=λx c H Q=>∃l b xs a,x=.ref l/\c=[.ref b]/\H l=U (.lst xs)/\H b=U (.lst a)/\⇑xs+⇑a<=sizeLine/\Q .non (upd H l (.lst (xs++a)))
def Zkg:zP X "list.extend" lT:=by
 intro D s σ H x G v A Q I w i h;let#[l,b,E,B,Z,Z,g,m,y,q]:=h;cases w;let#[u,Z,o]:=i.one;cases o;let#[z,c,n,r,K,e]:=I.lstM g;let#[C,a,p,j,k,t]:=I.lstM m;let f:c.toArray.size+a.toArray.size<=sizeLine:=by rw[rN,rN];lia
 let d:¬(!c.toArray.isEmpty&&Builtin.List.listTooLong (c.toArray.size+a.toArray.size))=Y:=by rw[Jr f,yX];exact qO
 refine call_meets F.slot_list_extend #[_,e,Z] F.entry_list_extend (F.args_list_extend_2 _ _)
  (AutoSeq1.list_extend_list_list_0 l ↑c n b ↑a p d (by rw[rN];lia) ∅) #[e,t,?_]
 calc#[.non,_,I.lset (its':=c++a) g e {} (r.append j) ?_,Z,q];rw[qP]
 lia
def rPop:V->NU->Hp->VK->Prop:=λx a H Q=>∃l xs y,x=.ref l/\a=[]/\H l=U (.lst xs)/\xs[⇑xs-1]?=U y/\Q y (upd H l (.lst xs.dropLast))
def Zp0:zP X "list.pop" rPop:=by
 intro p s σ H x t v w Q I j g h;let#[l,o,y,Z,Z,d,k,q]:=h;cases j;let c:=g.zero;subst c;let#[z,a,n,r,f,e]:=I.lstM d;let#[u,i,m]:=r.get k;let b:a.toArray[a.toArray.size-1]?=U u:=by show a.toArray[⇑a-1]?=U u;rw[<-uW,<-f];exact i
 calc call_meets F.slot_list_pop #[_,e,Z] F.entry_list_pop (F.args_list_pop_1 _) (MeetsSeq.list_pop_last l ↑a n u b (by rw[rN];lia)) #[e,?_];refine#[y,_,I.lset (its':=a.dropLast) d e ?_ r.dropLast ?_,m,q]
 .show a.toArray.eraseIdxIfInBounds (a.toArray.size-1)=↑a.dropLast;rw[rN,List.eraseIdxIfInBounds_toArray,Zi8]
 .rw[vF]
  lia
def rCat:R2:=λx y H Q=>∃l b xs a,x=.ref l/\y=.ref b/\H l=U (.lst xs)/\H b=U (.lst a)/\⇑xs+⇑a<=sizeLine/\∀p,H p=O->Q (.ref p) (upd H p (.lst (xs++a)))
def Dy:rV X (binaryOp .Add) rCat:=by
 intro B s σ H x y v u Q I k m h;let#[l,b,p,t,Z,Z,d,o,w,q]:=h;cases k;cases m;let#[z,c,n,r,C,e]:=I.lstM d;let#[A,a,D,g,i,j]:=I.lstM o;calc PySem.P.add_list e j ?_ (by rw[rN,rN];lia);let f:↑c++↑a=↑(c++a):=by simp
 rw[f];calc#[.ref _,_,I.lnew (t':=s.toks) (r.append g) (by rw[qP];lia),Z,q _ I.fresh]
def rRep:R2:=λx y H Q=>∃l k xs,x=.ref l/\y=.int k/\H l=U (.lst xs)/\-(2 ^ 63)<=k/\k<2 ^ 63/\⇑xs*k.toNat<=sizeLine /\
 ∀p,H p=O->Q (.ref p) (upd H p (.lst (List.replicate k.toNat xs).flatten))
def lM (xs:List α)(k:Nat):⇑(List.replicate k xs).flatten=k*⇑xs:=by
 induction k with
 | zero=>simp
 | succ k a=>rw[yN,xH,qP,a,Nat.succ_mul,Nat.add_comm]
def JK:rV X (binaryOp .Mult) rRep:=by
 intro L s σ H x y v u Q I G w h;let#[l,k,M,Z,Z,D,A,B,o,q]:=h;cases G;let#[t,Z]:=w;let#[z,b,n,r,E,e]:=I.lstM D;let C:b.toArray.size*k.toNat<=sizeLine:=by rw[rN,<-E];exact o
 let f:¬b.toArray.size*k.toNat>(2 ^ 63-1)/8:=by
  have:(sizeLine:Nat)<=(2 ^ 63-1)/8:=by decide
  lia
 let g:¬(!Builtin.List.listFitsIndex k)=Y:=by rw[fitsIndex_both A B];exact qO
 let c:¬Builtin.List.listTooLong (b.toArray.size*k.toNat)=Y:=by rw[Jr C];exact qO
 let d:List.foldl (λj i=>j++i) ↑[] (List.replicate (if b.toArray.isEmpty=Y then 0 else k.toNat) ↑b)=↑(List.replicate k.toNat b).flatten:=by
  let K:∀m:Nat,List.foldl (λj i=>j++i) ↑[] (List.replicate m ↑b)=↑(List.replicate m b).flatten:=λm=>by have:=jW b m [];rw[xC]at this;exact this
  rw[K];cases b with
  | nil=>simp
  | cons a N=>rw[qe {}]
 refine wpAny_binaryOp_repeat_ref (T:="list") (U:="int") ⋯ #[_,e,Z] (λp=>typeIs_int p k t) noFill_list_mul F.fills_int_mul F.slot_int_rmul repeat_list F.slot_int_index.lookup
  (call_meets F.slot_int_rmul (typeIs_int s k t) F.entry_int_rmul (F.args_int_rmul_2 _ _) (int___rmul___int_list k t l ↑b n)
   #[e,Z,#[_,e,Z],call_meets F.slot_list_mul #[_,e,Z] F.entry_list_mul (F.args_list_mul_2 _ _) (AutoListH.list___mul___list_int_3 l ↑b n k t g f c) #[e,?_]])
 rw[d];calc#[.ref _,_,I.lnew (t':=s.toks) (r.rep k.toNat) (by rw[lM,Nat.mul_comm];calc o),Z,q _ I.fresh]
end
section
end
section
end
end L2
namespace Att
open PySem PySem.W PySem.Calls PyProof.Rows
def Zew:∀(ns:List Int)(vs:AC),WellAll P h vs (ns.map WData.int)->IntsAre vs ns:=by
 intro ns;induction ns with
 | nil=>
  intro vs w;rw[zR]at w;cases w;exact .nil
 | cons n ns c=>
  intro vs w;rw[rC]at w;cases w with
  | cons a b=>
   cases a;calc .cons _ _ (c _ b)
def ZjJ {l:OpenLaw}{n:Nat}(y:l.most=U n){P:Params}{h:Heap}{args:List WData}{e:AC}
  (c:l.row.toRowW.claim.pre args=Y) (k:WellAll P h e args):
  ∃a vs b,e=[Value.ref a]/\args=[WData.list (b.map WData.int)]/\h.get? a=U { cls:=.type "list",data:=.seq ↑vs }/\IntsAre vs b/\⇑b<=n:=by
 let j:WShape.hasAll [] args [.list .int]=Y:=(pre_splitW c).1;let m:l.pre.holds [] { args:=args }=Y:=(pre_splitW c).2;let#[d,r,Z,t,u]:=hasAllW_cons j;obtain rfl:=hasAllW_nil u;let#[z,Z,s]:=hasW_list t;let#[b,Z]:=items_int s;let v:⇑b<=n:=by
  unfold OpenLaw.pre at m;let g:(WTm.not (.lt (.lit (.int (n:Int))) (.len (.arg 0)))).holds [] { args:=[.list (b.map .int)] }=Y:=by let g:=(holds_andW m).1;rw[y]at g;exact g
  let i:=condW_of g (w_not (w_lt w_lit (w_len_list (w_arg Z))));rw[qm]at i;calc Nat.le_of_not_lt λq=>?_;let w:(n:Int)<((⇑b:Nat):Int):=by lia
  first
   | (rw[NM w]at i;calc NR i ⋯)
   | (simp at i;lia)
 cases k with
 | cons p o=>
  cases o;cases p with
  | list x f=>calc#[_,_,b,Z,Z,x,Zew b _ f,v]
def ZjZ (l:OpenLaw)(args:List WData):l.row.toRowW.claim.post args (.bool Y) args=Y:=
 postW_of (r:=l.row.toRowW) (X:=(Y == Y))
  (show WShape.has [] (.bool Y) .bool=Y by first | rfl | decide | simp[WShape.has,WShape.arms,WShape.armsAll])
  (show (WTm.eq .res (.lit (.bool Y))).value [] { args:=args,res:=U (.bool Y),after:=args }=U (.bool (Y == Y)) from w_eq_bool (w_res Z) w_lit) Z
def attach_call {l:OpenLaw}{n:Nat}{q:AG}{c:AJ}{C:(AB)->Heap->Prop}{F:AI->Heap->Prop}{d:DefRec}
  (W:l.most=U n) (x:d.params.defaults=[])
  (i:∀(w:AI)(h b:AE)(p v:AB)(m:AD)(o:Obj)(y s e:Value)(a:AD)(vs:AC)(t:List Int),
   Ground q c [] C w h p v b.heap->F w b.heap ->
   b.heap.get? m=U o->o.data=.func (docDef d.name d.params d.body d.scope y s e)->b.heap.CodeRec s d.name->p d.name=U (.ref m) ->
   b.heap.get? a=U { cls:=.type "list",data:=.seq ↑vs }->IntsAre vs t->⇑t<=n->b.gens=↑[] ->
   codeAny (model l.prog w) callerA (.call (.ref m) #[[.ref a],[]]) (λr s'=>r=.ok (.ret (.bool Y))/\OldK b.heap s'.heap/\s'.os=b.os/\AllBare s'.gens) b):
  WalkO q c C F l.row.toRowW d [] (λf vs=>PySem.call f vs):=by
 intro w h b p v G X m o y s e M kV T hd z D u Q H E as k B aa A V;obtain rfl:M=.none:=Dflts.none D x;obtain rfl:kV=.none:=Dflts.noKw D;let#[a,vs,t,Z,Z,j,g,S]:=ZjJ W k A;calc enter_call (codeAny_mono (i w h b p v m o y s e a vs t G X T (fd_plain hd) z u j g S Q) λr s' N=>?_);let#[Z,P,L,I]:=N;calc#[.inl #[.bool Y,.bool Y,[],Z,λ_=>rfl,.bool Y,ZjZ l _,λ_=>#[List.Pairwise.nil,λ_ K=>(nomatch K)]],P,L,I]
section
end
end Att
namespace L2
open PySem PySem.Spec PyProof.Rows
theorem LY:∀ {vs:AC} {a:List Int},IntsAre vs a->hJ (a.map V.int) vs
 | _,_,.nil=>.nil
 | _,_,.cons n t h=>.cons #[t,Z] (LY h)
noncomputable abbrev KOf {K:qj}{h:Heap}(_:K.In h):qj:=K
noncomputable def ie (s:Stmt)(j:Nat):Stmt:=match s with
 | .ClassDef _ _ _ body _ _ _ _ _ _ _=>body.getD j (.Pass #[0,0,0,0])
 | _=>.Pass #[0,0,0,0]
def xi (s:Stmt):Arguments:=match s with
 | .FunctionDef _ a _ _ _ _ _ _ _ _=>a
 | _=>{ posonlyargs:=[],args:=[],vararg:=O,kwonlyargs:=[],kw_defaults:=[],kwarg:=O,defaults:=[] }
noncomputable def vC (s:Stmt):List Stmt:=match s with
 | .FunctionDef _ _ b _ _ _ _ _ _ _=>b
 | _=>[]
def uc (s:Stmt):Scope:=match s with
 | .FunctionDef _ _ _ _ _ _ sc _ _ _=>sc
 | _=>{ kind:=.function,names:=[],isGenerator:=J,isCoroutine:=J }
abbrev qK:v0:=λ_ _ _ _ _ _=>False
abbrev E0:XK:=λ_ _ _=>False
def qo:vy qK X E0:=λ_ _ _ _ _ _ _ h=>h.elim
structure uE (K:qj)(x qual:Str)(st:Stmt)(f:AD)(fd:AF):Prop where
 ex:∃(oc:Value) (od:Option AD) (kV doc pm:Value) (an:Option AD) (A2 ct:Value) (osl:Array (Option Value)),
  fd=fnOf x qual (xi st) (vC st) (uc st) .none kV doc pm an A2 ct/\K.lookup f=U #[oc,od,.func fd,osl]/\codeIn K A2 qual=Y
 kp:keepIn K (.ref f)=Y
section
variable {P:AG}{w:AI}{K:qj}{mg:AB}{base:Heap}
def uE.ok {x b:Str}{st:Stmt}{f:AD}{l:AF}{N e:AJ}{k:Nat}{sp:Sp}(F:uE K x b st f l)(S:g6 N e (uc st))
  (c:∀(d:Value)(A:AH)(a:List Env)(s:AE)(H:Hp)(vs:NU)(Q:VK)(E:XK),iJ k (A.deeper (envOfC b (uc st) ↥s f d))->sp vs H Q E ->
   ∃t,uk (jj qK P w K mg base N b (uc st) f d A a s H E).nox (vC st) t/\t { nx:=λ_ H'=>Q .non H',rt:=Q } (start N vs) H)(i:autoParam (∀vs H Q E,sp vs H Q E->⇑vs=⇑e) Qv._auto_1):g9 P w K mg base qK (k+1) f l e sp:=by
 let#[y,r,kV,m,u,z,d,v,n,Z,p,g]:=F.ex;calc Fv p g S i λA a s H vs Q E o j=>?_;let#[t,h,q]:=c d A a s H vs Q E o j;calc#[t,h.nox,q]
def uE.binds {x a:Str}{st:Stmt}{f:AD}{j:AF}{d:AJ}(F:uE K x a st f j)
  (h:∀(kV b c:Value)(i:Option AD)(e g:Value)(us:AC),⇑us=⇑d->bindArgs (fnOf x a (xi st) (vC st) (uc st) .none kV b c i e g) #[us,[]]=pure (d.zip us)):iP K j d []:=by
 let#[n,m,kV,b,c,i,e,g,l,Z,o,k]:=F.ex;calc .all (h kV b c i e g)
def LN {x a:Str}{st:Stmt}{f:AD}{j:Value}{od i:Option AD}{d:Array (Option Value)}{kV b g e h:Value}(l:K.lookup f=U #[j,od,.func (fnOf x a (xi st) (vC st) (uc st) .none kV b g i e h),d])
  (c:codeIn K e a=Y) (k:keepIn K (.ref f)=Y):uE K x a st f (fnOf x a (xi st) (vC st) (uc st) .none kV b g i e h):=#[#[j,od,kV,b,g,i,e,h,d,Z,l,c],k]
end
def u7 (a:iJ k A):A.units+1<cLine:=CJ (Nat.add_le_add_left (by decide:1<=64) _) a.units
def G6 (h:n<=1000):n<sizeLine:=CJ h ⋯
section
def pv (i:Nat){x:Str}{a:Pos}(c:autoParam (X.N[i]?=U x) Qq._auto_1)(d:Br X.env.scope x:=by first | calc Or.inl Z | calc Or.inr (Or.inl Z) | calc Or.inr (Or.inr Z))(e:autoParam ((x == ("__debug__":Str))=J) Qw._auto_1)
  (b:autoParam ((x == ("__classdict__":Str))=J) Qw._auto_1):PE X (.Name x a) (lH i):=Zpp c d e b
end
def hU {A B:Prop}(h:B):if J=Y then A else B:=by rw[qe qO];calc h
def iB {A B:Prop}(h:A):if Y=Y then A else B:=by rw[qg Z];calc h
def i9 {c A B:Prop}[Decidable c](a:c->A)(b:¬c->B):if c then A else B:=by
 by_cases h:c
 .rw[qg h];exact a h
 .rw[qe h];calc b h
def g7 (H a:Hp):Prop:=∀b o,H b=U o->a b=U o
def g7.refl (H:Hp):g7 H H:=λ_ _ h=>h
def g7.trans (a:g7 H H1)(b:g7 H1 H2):g7 H H2:=λc o h=>b c o (a c o h)
def g7.free (e:g7 H H'){l:AD}(h:H' l=Option.none):H l=Option.none:=by
 cases q:H l with
 | none=>rfl
 | some o=>
  rw[e l o q]at h;cases h
def g7.seq {K:qj}{H b:Hp}{a:AD}{xs:NU}(e:g7 H b)(h:rl K H a xs):rl K b a xs:=by
 rcases h with (h | ⟨o,h⟩) | h
 .exact .inl (.inl (e _ _ h))
 .exact .inl (.inr #[o,e _ _ h])
 .exact .inr h
section
variable {κ:Type}[DecidableEq κ]
noncomputable def hW (kvs:List (κ×V))(k:κ):Option V:=(kvs.find? λa=>R (a.1=k)).map (·.2)
noncomputable def ii (kvs:List (κ×V))(k:κ)(v:V):List (κ×V):=
 if (kvs.any λa=>R (a.1=k))=Y then kvs.map (λa=>if a.1=k then (a.1,v) else a) else kvs++[(k,v)]
def xg (kvs:List (κ×V))(k:κ):List (κ×V):=kvs.filter λa=>R (a.1≠k)
def vE {p:κ×V}{r:List (κ×V)}{k:κ}(e:p.1=k):hW (p::r) k=U p.2:=by simp[hW,yK,e]
def vn {p:κ×V}{r:List (κ×V)}{k:κ}(e:¬p.1=k):hW (p::r) k=hW r k:=by simp[hW,yK,e]
theorem zX (k:κ):∀kvs:List (κ×V),(kvs.any λkv=>R (kv.1=k))=(hW kvs k).isSome
 | []=>rfl
 | p::r=>by
  rw[List.any_cons];by_cases e:p.1=k
  .simp only[vE e,NM e,Bool.true_or,Option.isSome_some]
  .rw[vn e,NN e,Bool.false_or];calc zX k r
theorem M7 (k j:κ)(y:V):∀kvs:List (κ×V),hW (kvs.map λkv=>if kv.1=k then (kv.1,y) else kv) j=(hW kvs j).map λx=>if j=k then y else x
 | []=>rfl
 | p::r=>by
  let ih:=M7 k j y r;rw[rC];by_cases h:p.1=k
  .rw[qg h];by_cases e:p.1=j
   .rw[vE (p:=(p.1,y)) e,vE e,Option.map_some,qg (e.symm.trans h)]
   .rw[vn (p:=(p.1,y)) e,vn e,ih]
  .rw[qe h];by_cases e:p.1=j
   .rw[vE (p:=p) e,vE e,Option.map_some,qe (λz=>h (e.trans z))]
   .rw[vn (p:=p) e,vn e,ih]
theorem JX (k j:κ)(y:V):∀kvs:List (κ×V),hW kvs k=O->hW (kvs++[(k,y)]) j=if j=k then U y else hW kvs j
 | [],_=>by
  by_cases e:k=j
  .rw[qg e.symm];exact vE (p:=(k,y)) e
  .rw[qe (λz=>e z.symm)];exact vn (p:=(k,y)) e
 | p::r,hn=>by
  rw[yw];let hk:¬p.1=k:=λz=>by rw[vE z]at hn;cases hn
  rw[vn hk]at hn;let a:=JX k j y r hn;by_cases e:p.1=j
  .rw[vE e,vE e,qe (λz=>hk (e.trans z))]
  .rw[vn e,vn e,a]
def uT (kvs:List (κ×V))(k j:κ)(y:V):hW (ii kvs k y) j=if j=k then U y else hW kvs j:=by
 unfold ii;by_cases a:(kvs.any λc=>R (c.1=k))=Y
 .rw[qg a,M7];rw[zX]at a;by_cases e:j=k
  .obtain⟨x,b⟩:=Option.isSome_iff_exists.mp a;rw[qg e,e,b,Option.map_some,qg Z]
  .rw[qe e];cases hW kvs j with
   | none=>rfl
   | some x=>rw[Option.map_some,qe e]
 .rw[qe a];calc JX k j y kvs ?_;rw[zX]at a;cases q:hW kvs k with
  | none=>rfl
  | some x=>rw[q]at a;calc(a Z).elim
def xq (kvs:List (κ×V))(k:κ)(v:V):⇑(ii kvs k v)<=⇑kvs+1:=by
 unfold ii;split
 .rw[qm];lia
 .rw[qP,rF,y8];lia
def zY {kvs:List (κ×V)}{k:κ}(v:V)(h:hW kvs k=O):ii kvs k v=kvs++[(k,v)]:=by unfold ii;rw[zX,h];calc qe ⋯
def iT.isSome_eq (r:iT o u):o.isSome=u.isSome:=by
 cases o with
 | none=>cases u with
  | none=>rfl
  | some _=>exact(show False from r).elim
 | some _=>cases u with
  | none=>exact(show False from r).elim
  | some _=>rfl
def iT.getD (r:iT o u)(a:ia d d'):ia (o.getD d) (u.getD d'):=by
 cases o with
 | none=>cases u with
  | none=>exact a
  | some _=>exact(show False from r).elim
 | some _=>cases u with
  | none=>exact(show False from r).elim
  | some _=>calc r
def KV.val (r:KV kvs vs)(k:κ):iT (hW kvs k) (valueAt vs k):=by
 unfold KV at r;induction r with
 | nil=>exact True.intro
 | @cons p q i c h t f=>
  let#[d,g]:=h;by_cases e:p.1=k
  .let a:q.1=k:=d.symm.trans e;let b:valueAt (q::c) k=U q.2:=by simp[valueAt,yK,a]
   rw[vE e,b];exact g
  .let a:¬q.1=k:=λz=>e (d.trans z);let b:valueAt (q::c) k=valueAt c k:=by simp[valueAt,yK,a]
   rw[vn e,b];calc f
def KV.any (r:KV kvs vs)(k:κ):(kvs.any λkv=>R (kv.1=k))=vs.any λkv=>R (kv.1=k):=by
 unfold KV at r;induction r with
 | nil=>rfl
 | cons h t a=>rw[List.any_cons,List.any_cons,a,h.1]
def KV.repl (r:KV kvs vs)(k:κ){y:V}{u:Value}(b:ia y u):
  KV (kvs.map λkv=>if kv.1=k then (kv.1,y) else kv) (vs.map λkv=>if kv.1=k then (kv.1,u) else kv):=by
 unfold KV at r ⊢;induction r with
 | nil=>exact .nil
 | @cons p q f g h t c=>
  rw[rC,rC];calc .cons ?_ c;let#[a,d]:=h;by_cases e:p.1=k
  .rw[qg e,qg (a.symm.trans e)];exact#[a,b]
  .rw[qe e,qe (λz=>e (a.trans z))];calc#[a,d]
def KV.put (r:KV kvs vs)(k:κ){y:V}{u:Value}(a:ia y u):KV (ii kvs k y) (stored vs k u):=by
 unfold ii stored;rw[r.any k];by_cases e:(vs.any λb=>R (b.1=k))=Y
 .rw[qg e,qg e];exact r.repl k a
 .rw[qe e,qe e];calc Paired.snoc r #[Z,a]
def KV.drop (r:KV kvs vs)(k:κ):KV (xg kvs k) (without vs k):=by
 unfold KV at r ⊢;unfold xg without;induction r with
 | nil=>exact .nil
 | @cons p q i j h t d=>
  let#[c,g]:=h;rw[CB,CB];by_cases e:p.1=k
  .let a:¬R (p.1≠k)=Y:=by simp[e]
   let b:¬R (q.1≠k)=Y:=by simp[c.symm.trans e]
   rw[qe a,qe b];exact d
  .let f:¬q.1=k:=λz=>e (c.trans z);let a:R (p.1≠k)=Y:=by simp[e]
   let b:R (q.1≠k)=Y:=by simp[f]
   rw[qg a,qg b];calc .cons #[c,g] d
def KV.keys {kvs:List (κ×V)}{vs:List (κ×Value)}(r:KV kvs vs):kvs.map (·.1)=vs.map (·.1):=by
 unfold KV at r;induction r with
 | nil=>rfl
 | cons h t a=>rw[rC,rC,a,h.1]
def KV.length (r:KV kvs vs):⇑kvs=⇑vs:=Paired.length r
def Zmf (kvs:List (κ×V))(k:κ):⇑(xg kvs k)<=⇑kvs:=ug _ _
end
def vT (r:ia (kV k) u):(rG P w).is k u=Y:=by
 cases k with
 | inl i=>let#[t,e]:=(show ∃t,u=Value.int i t from r);subst e;exact Zho P w i t
 | inr x=>let#[t,e]:=(show ∃t,u=Value.str x t from r);subst e;calc Jg P w x t
theorem HQ {P:AG}{w:AI}:∀ {a:List qt} {us:AC},hJ (a.map kV) us->ItemsAre (rG P w) a us
 | [],_,r=>by rw[zR]at r;cases r;exact .nil
 | k::a,_,r=>by
  rw[rC]at r;cases r with
  | cons h t=>calc .cons (vT h) (HQ t)
abbrev KT (H:Hp):List (List qt×V)->List (List qt×AD×Value)->Prop:=Paired λp q=>p.1=q.1/\H q.2.1=U (.tup (p.1.map kV))/\ia p.2 q.2.2
def KT.val (r:KT H kvs xs)(k:List qt):iT (hW kvs k) ((atKey xs k).map (·.2)):=by
 induction r with
 | nil=>exact True.intro
 | @cons p q i c h t f=>
  let#[d,_,g]:=h;by_cases e:p.1=k
  .let a:q.1=k:=d.symm.trans e;let b:atKey (q::c) k=U q.2:=by simp[atKey,yK,a]
   rw[vE e,b];exact g
  .let a:¬q.1=k:=λz=>e (d.trans z);let b:atKey (q::c) k=atKey c k:=by simp[atKey,yK,a]
   rw[vn e,b];calc f
def KT.repl (r:KT H kvs xs)(k:List qt){y:V}{u:Value}(d:ia y u):
  KT H (kvs.map λkv=>if kv.1=k then (kv.1,y) else kv) (xs.map (putAt k u)):=by
 induction r with
 | nil=>exact .nil
 | @cons p q g i h t f=>
  rw[rC,rC];calc .cons ?_ f;let#[a,b,c]:=h;unfold putAt;by_cases e:p.1=k
  .rw[qg e,qg (a.symm.trans e)];exact#[a,b,d]
  .rw[qe e,qe (λz=>e (a.trans z))];calc#[a,b,c]
def KT.put (r:KT H kvs xs)(k:List qt){b:AD}{y:V}{u:Value}(c:H b=U (.tup (k.map kV)))(a:ia y u):
  KT H (ii kvs k y) (storedH xs k b u):=by
 let e:(kvs.any λd=>R (d.1=k))=(atKey xs k).isSome:=by rw[zX,(r.val k).isSome_eq,Option.isSome_map]
 unfold ii storedH;rw[e];by_cases q:(atKey xs k).isSome=Y
 .rw[qg q,qg q];exact r.repl k a
 .rw[qe q,qe q];calc Paired.snoc r #[Z,c,a]
def KT.keeps (r:KT H kvs xs)(a:∀b ys,H b=U (.tup ys)->H' b=U (.tup ys)):KT H' kvs xs:=
 Paired.mapP r λ_ _ z=>#[z.1,a _ _ z.2.1,z.2.2]
section
def MU (b:rQ P w H h)(e:Rd H a u):iA P w H h a u:=e.ok b
def y6 (b:rQ P w H h)(e:Rd H a (.dK kvs)):⇑kvs<=sizeLine/\(a == sysModules)=J/\∃vs,KV kvs vs/\h.DictOf (rG P w) a vs:=
 show iA P w H h a (.dK kvs) from MU b e
def CG (b:rQ P w H h)(e:H a=U (.dK kvs)):⇑kvs<=sizeLine/\(a == sysModules)=J/\∃vs,KV kvs vs/\h.DictOf (rG P w) a vs:=y6 b (.inl e)
def BZ (d:rQ P w H h)(e:H a=U (.tup (ks.map kV))):(tupleKind (rG P w)).is h ks a:=by let#[_,b,r,o,f,g,n,c]:=(show iA P w H h a (.tup (ks.map kV)) from d a _ e);calc#[o,↑b,n,f,g,c,by simpa using HQ r]
def zG (f:rQ P w H h)(e:Rd H a (.dT kvs)):⇑kvs<=sizeLine/\(a == sysModules)=J /\
  ∃xs,KT H kvs xs/\h.DictOfH (tupleKind (rG P w)) a xs:=by
 let#[z,y,xs,r,o,s,j,u,v,n,g,i]:=(show iA P w H h a (.dT kvs) from MU f e);calc#[z,y,xs,r,o,s,j,u,v,n,g,λx b=>?_,i];let c:∀ {l:List (List qt×V)} {m:List (List qt×AD×Value)},KT H l m->∀x∈m,(tupleKind (rG P w)).is h x.1 x.2.1:=by
  intro l m q;induction q with
  | nil=>intro x b;exact nomatch b
  | @cons p q A B d t k=>
   intro x b;rcases qS.mp b with e | b
   .subst e;exact BZ f (by rw[<-d.1];calc d.2.1)
   .exact k x b
 calc c r x b
def ZsL (b:rQ P w H h)(e:H a=U (.dT kvs)):⇑kvs<=sizeLine/\(a == sysModules)=J /\
  ∃xs,KT H kvs xs/\h.DictOfH (tupleKind (rG P w)) a xs:=zG b (.inl e)
end
def jA (H:Hp)(a:AD)(y:V)(r:Option V):Prop:=
 (∃kvs k,Rd H a (.dK kvs)/\y=kV k/\r=hW kvs k)\/∃kvs k b,Rd H a (.dT kvs)/\y=.ref b/\H b=U (.tup (k.map kV))/\r=hW kvs k
def jy (H:Hp)(a:AD)(y v:V)(c:Hp):Prop:=
 (∃kvs k,H a=U (.dK kvs)/\y=kV k/\⇑kvs<sizeLine/\c=upd H a (.dK (ii kvs k v))) \/
 ∃kvs k b,H a=U (.dT kvs)/\y=.ref b/\H b=U (.tup (k.map kV))/\⇑kvs<sizeLine/\c=upd H a (.dT (ii kvs k v))
def jA.k {H:Hp}{a:AD}{kvs:List (qt×V)}{k:qt}(e:H a=U (.dK kvs)):jA H a (kV k) (hW kvs k):=.inl #[kvs,k,.inl e,Z,Z]
def jA.t {H:Hp}{a b:AD}{kvs:List (List qt×V)}{k:List qt}(e:H a=U (.dT kvs))(c:H b=U (.tup (k.map kV))):jA H a (.ref b) (hW kvs k):=.inr #[kvs,k,b,.inl e,Z,c,Z]
def jy.k {H:Hp}{a:AD}{kvs:List (qt×V)}{k:qt}{v:V}(e:H a=U (.dK kvs))(b:⇑kvs<sizeLine):jy H a (kV k) v (upd H a (.dK (ii kvs k v))):=.inl #[kvs,k,e,Z,b,Z]
def jy.t {H:Hp}{a b:AD}{kvs:List (List qt×V)}{k:List qt}{v:V}(e:H a=U (.dT kvs))(c:H b=U (.tup (k.map kV)))(d:⇑kvs<sizeLine):
  jy H a (.ref b) v (upd H a (.dT (ii kvs k v))):=.inr #[kvs,k,b,e,Z,c,d,Z]
section
def qb.big (I:qb X A1 σ H s):sysModules<↥s:=by let h:mainGlobals<↥s:=(I.mod.glob.keeps I.bk).lt;calc Nat.lt_trans ⋯ h
def JC (w:A.units+1<cLine)(I:qb X A1 σ H s)(g:jA H a y (U v))(q:ia y u)(h:∀f s',qb X A1 σ H s'->ia v f->Q f s'):
  wpAny (model X.prog X.w) A (getItem (.ref a) u) Q E s:=by
 rcases g with⟨i,k,e,n,l⟩|⟨i,k,b,e,n,t,l⟩
 .subst n;let#[z,B,x,c,dd]:=y6 I.hok e;let#[f,m,d]:=iT.some_of (v:=v) (o:=valueAt x k) (by rw[l];calc c.val k);exact wpAny_getItem_of (vT q) dd.mapOf m (h f _ (I.tok _) d)
 .subst n;cases (show u=Value.ref b from q);let#[z,B,r,c,dd]:=zG I.hok e;let#[f,m,d]:=iT.some_of (v:=v) (o:=(atKey r k).map (·.2)) (by rw[l];calc c.val k);let#[p,C,j]:=Option.map_eq_some_iff.mp m;calc wpAny_getItem_heap (tupleKind_room_in1 w) (BZ I.hok t) dd C ?_;rw[j];calc h f _ (I.tok _) d
def d_in (n:A.units+1<cLine)(I:qb X A1 σ H s)(g:jA H a y o)(j:ia y u)(h:∀s',qb X A1 σ H s'->Q (.bool o.isSome) s'):
  wpAny (model X.prog X.w) A (compareOp .In u (.ref a)) Q E s:=by
 rcases g with⟨d,k,e,i,l⟩|⟨d,k,b,e,i,m,l⟩
 .subst i;let#[z,f,r,c,dd]:=y6 I.hok e;calc wpAny_in_of (vT j) f dd.mapOf ?_;rw[<-(c.val k).isSome_eq,<-l];exact h _ (I.tok _)
 .subst i;cases (show u=Value.ref b from j);let#[z,f,p,c,dd]:=zG I.hok e;calc wpAny_in_heap (tupleKind_room_in1 n) (BZ I.hok m) f dd ?_;let q:=(c.val k).isSome_eq;rw[Option.isSome_map]at q;rw[<-q,<-l];calc h _ (I.tok _)
def Zou (n:A.units+1<cLine)(I:qb X A1 σ H s)(g:jA H a y o)(j:ia y u)(h:∀s',qb X A1 σ H s'->Q (.bool (!o.isSome)) s'):
  wpAny (model X.prog X.w) A (compareOp .NotIn u (.ref a)) Q E s:=by
 rcases g with⟨d,k,e,i,l⟩|⟨d,k,b,e,i,m,l⟩
 .subst i;let#[z,f,r,c,dd]:=y6 I.hok e;calc wpAny_notIn_of (vT j) f dd.mapOf ?_;rw[<-(c.val k).isSome_eq,<-l];exact h _ (I.tok _)
 .subst i;cases (show u=Value.ref b from j);let#[z,f,p,c,dd]:=zG I.hok e;calc wpAny_notIn_heap (tupleKind_room_in1 n) (BZ I.hok m) f dd ?_;let q:=(c.val k).isSome_eq;rw[Option.isSome_map]at q;rw[<-q,<-l];calc h _ (I.tok _)
def CI (I:qb X A1 σ H s)(h:C8 (H a))(g:Heap.SameBut a s.heap h')(d:∃q,h'.get? a=U q)(c:iA X.prog X.w (upd H a ob) h' a ob):
  qb X A1 σ (upd H a ob) { s with heap:=h',toks:=t' }:=
 I.write (x:=a) (e:=a) h (.inl Z) (λb q f z=>(g.2 b f).trans z) d c
def Cv (z:⇑kvs<=sizeLine)(c:(a == sysModules)=J)(b:KV kvs vs)(dd:h'.DictOf (rG P w) a vs):
  iA P w H' h' a (.dK kvs):=#[z,c,vs,b,dd]
def KO (N:A.units+1<cLine)(I:qb X A1 σ H s)(g:jy H a y v H')(F:ia y u)(B:ia v r)(h:∀s',qb X A1 σ H' s'->Q () s'):
  wpAny (model X.prog X.w) A (setItem (.ref a) u r) Q E s:=by
 rcases g with⟨d,k,e,n,l,o⟩|⟨d,k,b,e,n,C,l,o⟩
 .subst n o;let#[z,w,V,f,dd]:=CG I.hok e;let m:⇑V<=sizeLine:=by rw[<-⇑f];exact z
  let t:⇑(ii d k v)<=sizeLine:=by have:=xq d k v;lia
  calc wpAny_setItem_pairs (hsz:=m) (vT F) dd λx i p=>h _ ?_;let K:∃q,x.get? a=U q:=let ⟨q,_,_,j,_⟩:=i;#[q,j];exact CI I (by rw[e];calc True.intro) p K (Cv t w (f.put k B) i)
 .subst n o;cases (show u=Value.ref b from F);let#[z,w,S,f,dd]:=ZsL I.hok e;let m:⇑S<=sizeLine:=by rw[<-Paired.length f];exact z
  let t:⇑(ii d k v)<=sizeLine:=by have:=xq d k v;lia
  calc wpAny_setItem_heap (hsz:=m) (tupleKind_room_in1 N) (BZ I.hok C) dd λx i p=>h _ ?_;let#[q,W,T,j,P,L,G,_,M]:=i;calc CI I (by rw[e];calc True.intro) p #[q,j] #[t,w,_,(f.put k C B).keeps λc ys D=>?_,q,W,T,j,P,L,G,M];rw[qh (ZsH D e (λz=>nomatch z))];calc D
end
section
def ZsM (I:qb X A1 σ H s)(e:H a=U (.dK kvs))(g:ia (kV k) u)(l:hW kvs k=U v)(j:more=[]\/∃x,more=[x])
  (h:∀d s',qb X A1 σ (upd H a (.dK (xg kvs k))) s'->ia v d->Q d s'):wpAny (model X.prog X.w) A (call (.builtin "dict.pop") (.ref a::u::more)) Q E s:=by
 let#[z,y,m,b,dd]:=CG I.hok e;let#[d,r,f]:=iT.some_of (v:=v) (o:=valueAt m k) (by rw[<-l];calc b.val k);let B:(keyPart u).isSome=Y:=by
  cases k with
  | inl i=>let#[t,q]:=(show ∃t,u=Value.int i t from g);subst q;rfl
  | inr x=>let#[t,q]:=(show ∃t,u=Value.str x t from g);subst q;rfl
 let w:argsOk "dict.pop" #[.ref a::u::more,[]]:=by
  rcases j with q | ⟨x,q⟩
  .subst q;exact PySem.F.args_dict_pop_2 _ _
  .subst q;exact PySem.F.args_dict_pop_3 _ _ _
 refine call_meetsIn PySem.F.slot_dict_pop dd.typeIs PySem.F.entry_dict_pop w (meets_dict_pop_there (rG X.prog X.w) a (vT g) more j B)
  #[m,d,dd,by rw[<-⇑b];calc z,r,λn c C=>h d _ ?_ f]
 let p:∃q,n.get? a=U q:=let ⟨q,_,_,hq,_⟩:=c;#[q,hq];calc CI I (by rw[e];calc True.intro) C p (Cv (qJ (Zmf kvs k) z) y (b.drop k) c)
def ZsN (I:qb X A1 σ H s)(e:Rd H a (.dK kvs))(h:∀t s',qb X A1 σ H s'->Q (.int ⇑kvs t) s'):wpAny (model X.prog X.w) A (call (.builtin "len") [.ref a]) Q E s:=by let#[z,c,d,b,dd]:=y6 I.hok e;calc call_len_dict c dd (by rw[<-⇑b];rw[sizeLine_eq]at z;lia) ?_;rw[<-⇑b];calc h _ _ (I.tok _)
end
def o7 (i:Expr):Prop:=∀b a,subscripted i J b a=operate [b,a] (getItem b a)
def Lc {prog:AG}{w:AI}{A:AH}{E:rh}{s:AE}{env:Env}{a slice:Expr}{e:Pos}{T id:String}{Q:rh}
  (j:typeLookup (.type T) "__getitem__"=pure (U (.builtin id))) (k:o7 slice)
  (h:wpAny (model prog w) A (eval a env) (λo s_1=>wpAny (model prog w) A (eval slice env) (λi s_2=>s_2.TypeIs o T/\wpAny (model prog w) A (getItem o i) Q E s_2) E s_1) E s):
  wpAny (model prog w) A (eval (.Subscript a slice e) env) Q E s:=by
 calc Subscript_ (tw h (λo s_1 f=>tw f (λi s_2 c=>?_) λ_ _ x=>x) λ_ _ x=>x);let#[g,c]:=c;unfold subscriptTail;calc qd ?_;rw[getitemInPython_of_ne g.not_modules];calc qd (wpAny_specialOf g j ?_);let fin:wpAny (model prog w) A (subscripted slice J o i) (λr b=>wpAny (model prog w) A (letTemporaryGo a o r >>= λ_=>pure r) Q E b) E s_2:=by rw[k o i];exact wpAny_operating (tw c (λr b d=>qd (wpAny_letTemporaryGo (qv d))) λ_ _ x=>x)
 first
  | exact qv (qd fin)
  | exact qd (qv (qd fin))
  | calc qd fin
def ZhC (I:qb X A1 σ H s)(g:jA H a y o):s.TypeIs (.ref a) "dict":=by
 rcases g with⟨c,k,e,_,_⟩|⟨c,k,b,e,_,_,_⟩
 .obtain⟨_,_,d,_,dd⟩:=y6 I.hok e;exact dd.typeIs
 .obtain⟨_,_,f,_,dd⟩:=zG I.hok e;calc dd.typeIs
def Im (d ty:TE):TE:=λσ H Q=>d σ H λx c=>ty σ c λy b=>∃a v,x=.ref a/\jA b a y (U v)/\Q v b
def tDIn (ty d:TE):TE:=λσ H Q=>ty σ H λy c=>d σ c λx b=>∃a o,x=.ref a/\jA b a y o/\Q (.bl o.isSome) b
def Ny (ty d:TE):TE:=λσ H Q=>ty σ H λy c=>d σ c λx b=>∃a o,x=.ref a/\jA b a y o/\Q (.bl (!o.isSome)) b
def IN (g ty e:TE):TS:=λD σ H=>e σ H λv f=>g σ f λx d=>ty σ d λy c=>∃a b,x=.ref a/\jy c a y v b/\D.nx σ b
def Jt (j ty g:TE)(d:V->V->Hp->VK->Prop):TS:=λD σ H=>j σ H λx i=>ty σ i λy c=>∃a v,x=.ref a/\jA c a y (U v) /\
 g σ c λf e=>d v f e λz h=>∃b,jy h a y z b/\D.nx σ b
section
def uw (j:X.A.units+1<cLine)(t:PE X o td)(n:PE X i ty)(r:o7 i):PE X (.Subscript o i pos) (Im td ty):=by intro c s σ H Q I h;calc Lc PySem.F.slot_dict_getitem.lookup r (qx (t c s σ H _ I h) λu B ⟨x,m,p,z,k⟩=>qx (n c B σ m _ p k) λD C e=>?_);let#[y,w,d,l,a,v,f,g,A]:=e;subst f;obtain rfl:u=Value.ref a:=z;calc#[ZhC d g,JC j d g l λF E q b=>#[v,w,q,b,A]]
def Hi (e:X.A.units+1<cLine)(l:PE X i ty)(p:PE X o td):PC X .In i o (tDIn ty td):=by intro b s σ H Q I h;calc qx (l b s σ H _ I h) λB z ⟨y,k,m,f,j⟩=>qx (p b z σ k _ m j) λu A c=>?_;let#[x,t,r,v,a,q,d,g,w]:=c;subst d;obtain rfl:u=Value.ref a:=v;calc d_in e r g f λC n=>#[.bl q.isSome,t,n,Z,w]
def Ei (e:X.A.units+1<cLine)(l:PE X i ty)(p:PE X o td):PC X .NotIn i o (Ny ty td):=by intro b s σ H Q I h;calc qx (l b s σ H _ I h) λB z ⟨y,k,m,f,j⟩=>qx (p b z σ k _ m j) λu A c=>?_;let#[x,t,r,v,a,q,d,g,w]:=c;subst d;obtain rfl:u=Value.ref a:=v;calc Zou e r g f λC n=>#[.bl (!q.isSome),t,n,Z,w]
def yu (k:X.A.units+1<cLine)(B:PE X o td)(q:PE X i ty)(z:PE X value tv)(A:swapsWith value (U (.Subscript o i pos')) pos.line X.env=pure J):
  PS X (.Assign [.Subscript o i pos'] value pos) (IN td ty tv):=by
 intro b s σ H D I h;calc wpAny_Assign_Subscript (qx (z b s σ H _ I h) λr L ⟨v,p,t,f,m⟩=>qx (B b L σ p _ t m) λu c ⟨x,E,C,F,K⟩=>qx (q b c σ E _ C K) λM Q d=>?_) A;let#[y,N,w,n,a,j,e,g,l]:=d;subst e;obtain rfl:u=Value.ref a:=F;calc KO k w g n f λP G=>#[σ,j,G,l]
def ZnS (l:X.A.units+1<cLine)(S:PE X o td)(G:PE X i ty)(P:PE X value tv)(hop:InOp X op rd)
  (A:∀e c b,augStore i e c b=(do holding [b,e,c] (setItem e c b);release [b,e,c] [];pure .next)):PS X (.AugAssign (.Subscript o i tpos) op value pos) (Jt td ty tv rd):=by
 intro d s σ H D I h;calc wpAny_AugAssign_SubscriptAny (qx (S d s σ H _ I h) λu s1 ⟨x,F,K,rx,E⟩=>qx (G d s1 σ F _ K E) λc s2 f=>?_) A;let#[y,W,T,m,a,v,p,g,q2]:=f;subst p;obtain rfl:u=Value.ref a:=rx;calc JC l T g m λw' s3 M j=>qx (P d s3 σ W _ M q2) λn N ⟨q,L,I4,k,C⟩=>qx (hop d N σ L v q w' n _ I4 j k C) λw3 s5 f=>?_;let#[z,H4,B,r,V,w,Q]:=f;calc KO l B w m r λs6 t=>#[σ,V,t,Q]
end
def MZ (h:Heap)(a:sysModules<h.objs.size):iA P w H (h.push { cls:=.type "dict",data:=.dict ↑[] }) h.objs.size (.dK []):=
 #[rM _,beq_eq_false_iff_ne.mpr (qy (rK a)),[],.nil,Heap.DictOf.new h]
def lE:TE:=λ_ H Q=>∀p,H p=O->Q (.ref p) (upd H p (.dK []))
section
def yV:PE X (.Dict [] [] pos) lE:=λb s σ H Q I h=>
 wpAny_Dict_empty #[.ref ↥s,_,I.laid (a:=↥s) (o:=.dK []) (t':=s.toks) (λ_ _ q=>qU _ q) (qG _) (MZ s.heap I.big),Z,h _ (I.hok.fresh (qG _))]
end
def Eb:List (TE×TE)->St->Hp->(List (V×V)->Hp->Prop)->Prop
 | [],_,H,Q=>Q [] H
 | (tk,tv)::r,σ,H,Q=>tk σ H λx H1=>tv σ H1 λy H2=>Eb r σ H2 λps H3=>Q ((x,y)::ps) H3
abbrev VV:List (V×V)->List (Value×Value)->Prop:=Paired λp q=>ia p.1 q.1/\ia p.2 q.2
def DM (X:Cx)(d:Pos)(b:List (Option Expr))(a:List Expr)(c:List (TE×TE)):Prop:=
 ∀(f:AA) (s:AE) (σ:St) (H:Hp) (Q:List (V×V)->Hp->Prop),qb X f σ H s->Eb c σ H Q ->
  wpAny (model X.prog X.w) X.A (evalPairs (pairTrees b a X.env d)) (λh i=>∃g e,qb X f σ e i/\VV g h/\Q g e) X.xe s
def ZnT:DM X pos [] [] []:=λa s σ H Q I h=>pairTrees_nil_walk #[[],H,I,.nil,h]
def ZlD (z:PE X k tk)(o:PE X v tv)(d:DM X pos ks vs trs):
  DM X pos (U k::ks) (v::vs) ((tk,tv)::trs):=λa s σ H Q I h=>
 pairTrees_cons_walk (qx (z a s σ H _ I h) λu w ⟨x,j,l,r,g⟩=>qx (o a w σ j _ l g) λA c ⟨y,q,p,i,t⟩=>
  qx (d a c σ q _ p t) λB C ⟨e,m,n,b,f⟩=>#[(x,y)::e,m,n,.cons #[r,i] b,f])
def uM (kvs a:List (qt×V)):List (qt×V):=a.foldl (λb c=>ii b c.1 c.2) kvs
def KV.merge:∀ {a:List (qt×V)} {b:List (qt×Value)} {kvs:List (qt×V)} {vs:List (qt×Value)},KV a b->KV kvs vs->KV (uM kvs a) (merged vs b):=by
 intro a b kvs vs r;unfold KV at r;induction r generalizing kvs vs with
 | nil=>intro q;exact q
 | @cons p q f g h t d=>
  intro c;let e:KV (ii kvs p.1 p.2) (stored vs q.1 q.2):=by have:=c.put p.1 h.2;rw[<-h.1];exact this
  calc d e
theorem EF:∀(a kvs:List (qt×V)),⇑(uM kvs a)<=⇑kvs+⇑a
 | [],kvs=>by show ⇑kvs<=⇑kvs+0;lia
 | p::r,kvs=>by let h1:=EF r (ii kvs p.1 p.2);let b:=xq kvs p.1 p.2;show ⇑(uM (ii kvs p.1 p.2) r)<=_;rw[rF];lia
theorem JM {P:AG}{w:AI}:∀ {kvs:List (qt×V)} {ws:List (Value×Value)},VV (kvs.map λkv=>(kV kv.1,kv.2)) ws->∃d,Carries (rG P w) ws d/\KV kvs d
 | [],_,r=>by rw[zR]at r;cases r;exact#[[],True.intro,.nil]
 | p::kvs,_,r=>by
  rw[rC]at r;cases r with
  | @cons a b as bs h t=>
   let#[d,c,q]:=JM (P:=P) (w:=w) t;let#[f,e]:=b;calc#[(p.1,e)::d,#[vT h.1,Z,c],.cons #[Z,h.2] q]
def HX (a:List (TE×TE)):TE:=λσ H Q=>∀p,H p=O->Eb a σ (upd H p (.dK [])) λd b=>b p=U (.dK [])/\∃kvs:List (qt×V),d=kvs.map (λc=>(kV c.1,c.2))/\⇑kvs<=15/\Q (.ref p) (upd b p (.dK (uM [] kvs)))
def ZnW (h:DM X pos keys values trs)(d:keys.all (·.isSome)=Y)(D:⇑keys=⇑values)(p:keys≠[])
  (g:⇑keys<=15):PE X (.Dict keys values pos) (HX trs):=by
 intro r s σ H Q I q;let C:=I.hok.fresh (qG ↥s);let A:=I.laid (a:=↥s) (o:=.dK []) (h':=s.heap.push { cls:=.type "dict",data:=.dict ↑[] }) (t':=s.toks) (λ_ _ q=>qU _ q) (qG _) (MZ s.heap I.big);calc wpAny_Dict_walk (knd:=rG X.prog X.w) d D p g (qx (h r _ σ _ _ A (q _ C)) λM G k=>?_);let#[K,N,j,i,e,b,y,L,F]:=k;subst y;let#[x,c,n]:=JM (P:=X.prog) (w:=X.w) i;let#[z,E,v,t,dd]:=CG j.hok e;cases t;calc#[x,c,dd,λh' f B=>#[.ref ↥s,_,?_,Z,F]];let l:⇑(uM [] b)<=sizeLine:=by let u:=EF b [];rw[y8]at u;rw[sizeLine_eq];lia
 let m:∃q,h'.get? ↥s=U q:=let ⟨q,_,_,hq,_⟩:=f;#[q,hq];calc CI j (by rw[e];calc True.intro) B m (Cv l E (n.merge .nil) f)
structure M1 (X:Cx)(o:Expr)(m:Str)(A6:Pos)(e:Expr)(A7:Pos):Prop where
 base:attributeBase o m X.env (eval o X.env)=eval o X.env
 few:((backTo A7 (starEach [e] X.env)).all (λx=>!x.1)&&(backToKw A7 (keywordEach [] X.env)).all (λx=>x.1.isSome)
  && R (⇑([e]:List Expr)+⇑([]:List Keyword)+(if ([]:List Keyword).isEmpty then 0 else 1)<30))=Y
 line:(A6.endLine == A7.line)=Y
 trees:backTo A7 (starEach [e] X.env)=[(J,eval e X.env)]
structure M2 (X:Cx)(o:Expr)(m:Str)(A6:Pos)(e f:Expr)(A7:Pos):Prop where
 base:attributeBase o m X.env (eval o X.env)=eval o X.env
 few:((backTo A7 (starEach [e,f] X.env)).all (λx=>!x.1)&&(backToKw A7 (keywordEach [] X.env)).all (λx=>x.1.isSome)
  && R (⇑([e,f]:List Expr)+⇑([]:List Keyword)+(if ([]:List Keyword).isEmpty then 0 else 1)<30))=Y
 line:(A6.endLine == A7.line)=Y
 trees:backTo A7 (starEach [e,f] X.env)=[(J,eval e X.env),(J,eval f X.env)]
def E1 (H:Hp)(a:AD):Prop:=(∃kvs,Rd H a (.dK kvs))\/∃kvs,Rd H a (.dT kvs)
def Hw (I:qb X A1 σ H s)(d:E1 H a):
  s.TypeIs (.ref a) "dict"/\(∀b,Value.ref a=.ref b->∃ob,s.heap.get? b=U ob/\ob.dict=O)/\(a == sysModules)=J:=by
 rcases d with⟨c,e⟩|⟨c,e⟩
 .obtain⟨_,f,j,_,dd⟩:=y6 I.hok e;calc#[dd.typeIs,λb q=>?_,f];cases q;let#[ob,_,_,g,h,_]:=dd;exact#[ob,g,h.2.1]
 .obtain⟨_,f,i,_,dd⟩:=zG I.hok e;calc#[dd.typeIs,λb q=>?_,f];cases q;let#[ob,_,_,g,h,_]:=dd;calc#[ob,g,h.2.1]
section
def ZqA (v:A.units+1<cLine)(I:qb X A1 σ H s)(g:jA H a y o)(n:ia y u)(m:ia d r)(h:∀p s',qb X A1 σ H s'->ia (o.getD d) p->Q p s'):
  wpAny (model X.prog X.w) A (call (.builtin "dict.get") [.ref a,u,r]) Q E s:=by
 rcases g with⟨f,k,e,j,l⟩|⟨f,k,b,e,j,t,l⟩
 .subst j;let#[z,i,w,c,dd]:=y6 I.hok e;calc call_meetsIn PySem.F.slot_dict_get dd.typeIs PySem.F.entry_dict_get (PySem.F.args_dict_get_3 _ _ _) (meets_dict_get_default (rG X.prog X.w) a (vT n) i r) #[_,dd.mapOf,h _ _ (I.tok _) ?_];rw[l];exact(c.val k).getD m
 .subst j;cases (show u=Value.ref b from n);let#[z,i,q,c,dd]:=zG I.hok e;calc call_meetsIn PySem.F.slot_dict_get dd.typeIs PySem.F.entry_dict_get (PySem.F.args_dict_get_3 _ _ _) (meetsH_dict_get_default (tupleKind (rG X.prog X.w)) a b i r) #[tupleKind_room_in1 v,k,q,BZ I.hok t,dd,h _ _ (I.tok _) ?_];rw[l];calc(c.val k).getD m
end
def LL (e ty tx:TE):TE:=λσ H Q=>e σ H λx b=>∃a,x=.ref a/\E1 b a/\ty σ b λy d=>tx σ d λz c=>∃o,jA c a y o/\Q (o.getD z) c
def HR (d ty:TE):TE:=λσ H Q=>d σ H λx b=>∃a,x=.ref a/\E1 b a/\ty σ b λy c=>∃kvs k v,c a=U (.dK kvs)/\y=kV k/\hW kvs k=U v/\Q v (upd c a (.dK (xg kvs k)))
section
def ZlG (r:X.A.units+1<cLine)(D:PE X o td)(l:PE X e ty)(F:PE X f tx)(m:M2 X o "get" A6 e f A7):PE X (.Call (.Attribute o "get" A6) [e,f] [] A7) (LL td ty tx):=by
 intro b s σ H Q I h;calc wpAny_Call_method m.base m.few m.line EL PySem.F.slot_dict_get PySem.F.type_dict_get (qx (D b s σ H _ I h) λu N j=>?_);let#[x,A,i,K,a,p,d,v]:=j;subst p;obtain rfl:u=Value.ref a:=K;let#[q,P,_]:=Hw i d;calc#[q,P,?_];rw[m.trees];refine Dg Z (Calls.evalArgs_plain (xZ (qx (l b N σ A _ i v) λT k ⟨y,G,E,w,M⟩=>
  xZ (qx (F b k σ G _ E M) λS s3 ⟨z,B,C,n,W,g,t⟩=>B3 ?_))))
 calc ZqA r C g w n λw' V L c=>#[_,B,L,c,t]
def IX (A:PE X o td)(i:PE X e ty)(m:M1 X o "pop" A6 e A7):PE X (.Call (.Attribute o "pop" A6) [e] [] A7) (HR td ty):=by intro c s σ H Q I h;calc wpAny_Call_method m.base m.few m.line EL PySem.F.slot_dict_pop PySem.F.type_dict_pop (qx (A c s σ H _ I h) λu F g=>?_);let#[x,w,f,D,a,j,d,r]:=g;subst j;obtain rfl:u=Value.ref a:=D;let#[p,G,_]:=Hw f d;calc#[p,G,?_];rw[m.trees];calc Dg Z (Calls.evalArgs_plain (xZ (qx (i c F σ w _ f r) λL K ⟨y,M,B,t,q,k,v,C,n,l,E⟩=>B3 ?_)));subst n;calc ZsM B C t l (.inl Z) λP N z b=>#[v,_,z,b,E]
end
section
end
section
end
section
def Zk7:ud X (.builtin "len") (λxs H Q=>∃a kvs,xs=[V.ref a]/\H a=U (.dK kvs)/\Q (.int ⇑kvs) H):=by intro e s σ H xs f Q I r h;let#[a,kvs,Z,b,q]:=h;let#[u,Z,d]:=kq r;cases d;calc ZsN I (.inl b) λt g c=>#[.int ⇑kvs,H,c,#[t,Z],q]
end
section
variable {κ:Type}[DecidableEq κ]
def Zli {kvs:List (κ×V)}{k:κ}(h:hW kvs k=O):¬k∈kvs.map (·.1):=by intro m;let#[p,a,e]:=rj.mp m;let q:(kvs.any λb=>R (b.1=k))=Y:=vQ.mpr #[p,a,NM e];rw[zX,h]at q;calc NR q {}
def Znl {kvs:List (κ×V)}{k:κ}{v:V}(h:hW kvs k=U v):k∈kvs.map (·.1):=by
 let q:(kvs.any λb=>R (b.1=k))=Y:=by rw[zX,h];all_goals rfl
 let#[p,a,e]:=vQ.mp q;calc rj.mpr #[p,a,NO e]
theorem Nq:∀ {l:List κ} {k:κ},l.Nodup->¬k∈l->(l++[k]).Nodup
 | [],k,_,_=>by simp
 | a::r,k,h,hk=>by
  let#[h1,h2]:=uX.mp h;show (a::(r++[k])).Nodup;calc uX.mpr #[λm=>?_,Nq h2 λm=>hk (qS.mpr (Or.inr m))];rcases rJ.mp m with q | q
  .exact h1 q
  .exact hk (qS.mpr (Or.inl (qR.mp q).symm))
def Zn5 {kvs:List (κ×V)}{k:κ}(v:V)(a:(kvs.map (·.1)).Nodup)(h:hW kvs k=O):((ii kvs k v).map (·.1)).Nodup:=by rw[zY v h,sJ];calc Nq a (Zli h)
end
def ve (w:AI)(K:qj)(a:AD)(kvs:List (qt×V)):Prop:=
 (a == sysModules)=J/\∃(o:Obj) (vs:List (qt×Value)),K.lookup a=U o/\KV kvs vs/\∀(P:AG),o.IsDictOf (rG P w) vs
def ve.at_ (h:ve X.w X.K a kvs)(I:qb X A1 σ H s):(a == sysModules)=J/\∃vs,KV kvs vs/\s.heap.DictOf (rG X.prog X.w) a vs:=by let#[z,o,vs,c,d,b]:=h;calc#[z,vs,d,Heap.dictOf_iff.mpr #[o,I.bk _ _ (I.mod.kin _ _ c),b _]]
def M8 (w:AI)(K:qj)(ty d:TE):TE:=λσ H Q=>ty σ H λy b=>d σ b λx c=>∃a kvs k,x=.ref a/\ve w K a kvs/\y=kV k/\Q (.bl (!(hW kvs k).isSome)) c
def LV (w:AI)(K:qj)(d ty:TE):TE:=λσ H Q=>d σ H λx b=>ty σ b λy c=>∃a kvs k v,x=.ref a/\ve w K a kvs/\y=kV k/\hW kvs k=U v/\Q v c
section
variable {X:Cx}{o i:Expr}{pos:Pos}{td ty:TE}{K:qj}{w:AI}
def Zj4 (D:X.K=K)(m:X.w=w)(r:PE X i ty)(v:PE X o td):PC X .NotIn i o (M8 w K ty td):=by subst D m;intro c s σ H Q I h;calc qx (r c s σ H _ I h) λG E ⟨y,q,t,n,p⟩=>qx (v c E σ q _ t p) λu F e=>?_;let#[x,z,d,A,a,l,k,f,g,j,C]:=e;subst f j;obtain rfl:u=Value.ref a:=A;let#[B,L,b,dd]:=g.at_ d;calc wpAny_notIn_of (vT n) B dd.mapOf ?_;rw[<-(b.val k).isSome_eq];calc#[.bl _,z,d.tok _,Z,C]
def KZ (L:X.K=K)(c:X.w=w)(D:PE X o td)(z:PE X i ty)(C:o7 i):PE X (.Subscript o i pos) (LV w K td ty):=by subst L c;intro e s σ H Q I h;calc Lc PySem.F.slot_dict_getitem.lookup C (qx (D e s σ H _ I h) λu M ⟨x,t,A,F,q⟩=>qx (z e M σ t _ A q) λP N j=>?_);let#[y,E,f,r,a,p,k,v,m,g,n,l,G]:=j;subst m n;obtain rfl:u=Value.ref a:=F;let#[S,B,d,dd]:=g.at_ f;let#[T,c,b]:=iT.some_of (v:=v) (o:=valueAt B k) (by rw[<-l];calc d.val k);calc#[dd.typeIs,wpAny_getItem_of (vT r) dd.mapOf c #[v,E,f.tok _,b,G]]
end
noncomputable def jw (cells:List (Str×AD)):List (Str×NameKind)->List (Str×AD)->List (Str×AD)
 | [],acc=>acc
 | (n,k)::r,acc=>if k == NameKind.free then jw cells r ((n,(cells.lookup n).getD 0)::acc) else jw cells r acc
theorem Fh {cells:List (Str×AD)}:∀(names:List (Str×NameKind)) (a:List (Str×AD)) (p:Str×AD),p∈a->p∈jw cells names a
 | [],_,_,h=>h
 | (n,k)::r,a,p,h=>by
  unfold jw;split
  .exact Fh r _ p (si _ h)
  .exact Fh r a p h
theorem Hr {cells:List (Str×AD)}{x:Str}:∀(names:List (Str×NameKind)) (a:List (Str×AD)),(x,NameKind.free)∈names->(x,(cells.lookup x).getD 0)∈jw cells names a
 | [],_,h=>by cases h
 | (n,k)::r,a,h=>by
  unfold jw;rcases qS.mp h with e | h
  .let e1:x=n:=NQ Prod.fst e;let b:NameKind.free=k:=NQ Prod.snd e;subst e1 b;exact Fh r _ _ sA
  .split
   .exact Hr r _ h
   .exact Hr r _ h
theorem HC {cells:List (Str×AD)}:∀(names:List (Str×NameKind)) (a:List (Str×AD)) (p:Str×AD),p∈jw cells names a->p∈a\/((p.1,NameKind.free)∈names/\p.2=(cells.lookup p.1).getD 0)
 | [],_,_,h=>.inl h
 | (n,k)::r,a,p,h=>by
  unfold jw at h;split at h
  .rename_i hk
   let hk':k=NameKind.free:=by simpa using hk
   rcases HC r _ p h with q | ⟨q,e⟩
   .rcases qS.mp q with q | q
    .subst q;subst hk';exact .inr #[sA,Z]
    .exact .inl q
   .exact .inr #[si _ q,e]
  .rcases HC r _ p h with q | ⟨q,e⟩
   .exact .inl q
   .exact .inr #[si _ q,e]
def Kz (h:∀y∈sc.names,y.2=NameKind.free->∃c,env.cells.lookup y.1=U c):closureFor sc env=pure (jw env.cells sc.names []):=by
 let f:∀(names:List (Str×NameKind)) (b:List (Str×AD)),(∀y∈names,y.2=NameKind.free->∃c,env.cells.lookup y.1=U c) ->
   (forIn names b λ(y:Str×NameKind) (d:List (Str×AD))=>(if (y.2 == NameKind.free)=Y then (do let a <-cellOf env y.1;pure (ForInStep.yield ((y.1,a)::d))) else pure (ForInStep.yield d):Sem (ForInStep (List (Str×AD)))))=pure (jw env.cells names b):=by
  intro names;induction names with
  | nil=>intro b _;rfl
  | cons y r l=>
   intro b i;let#[n,k]:=y;rw[List.forIn_cons];unfold jw;by_cases j:k=NameKind.free
   .subst j;let#[c,m]:=i (n,NameKind.free) sA Z;let g:env.cells.lookup n=U c:=m;simp only[beq_self_eq_true,if_true,cellOf,g,pure_bind,Option.getD_some];exact l _ λz e=>i z (si _ e)
   .let o:(k == NameKind.free)=J:=by simpa using j
    simp only[o,yY,if_false,pure_bind];exact l _ λz e=>i z (si _ e)
 let q:=f sc.names [] h;unfold closureFor;show (forIn sc.names [] λ(y:Str×NameKind) (d:List (Str×AD))=>_) >>= _=_
 first
  | (rw[q];rfl)
  | (calc Eq.trans (NQ (λt=>t >>= λd=>pure d) q) ?_;rfl)
structure iV (X:Cx)(sc:Scope):Prop where
 kind:sc.kind=.function
 nocell:∀y∈sc.names,y.2≠NameKind.cell
 loc:∀y∈sc.names,y.2=NameKind.local->sc.names.lookup y.1=U .local
 clos:∀y∈sc.names,y.2=NameKind.free->(X.env.kindOf y.1=U .cell\/X.env.kindOf y.1=U .free)
noncomputable def pick (ix:List (Option Nat))(σ:St):St:=ix.map λo=>o.bind λi=>(σ[i]?).join
def Cz (N M:AJ)(a:Scope)(ix:List (Option Nat)):Bool:=
 ⇑ix == ⇑N&&(N.zip ix).all λp=>match p.2 with | none=>Y | some i=>R (M[i]?=U p.1)&&R (a.names.lookup p.1=U NameKind.free)
def bx (X:Cx)(a:Scope)(N:AJ)(b:List AD)(s_0:AE)(H:Hp)(pn:AA):Cx:=
 { X with N:=N,s_0:=s_0,H_0:=H,env:=compEnvC a (jw X.env.cells a.names []) ↥s_0 X.env,outer:=X.stack,stack:=X.stack,ex:=b,fn:=λ_=>J,pn:=pn,xe:=λ_ _=>False }
def Jc (h:(relabel sc env).names.lookup x=U k):(x,k)∈sc.names\/(k=.cell/\(x,NameKind.free)∈sc.names):=by
 let m:=zq h;unfold relabel at m;let#[#[n,d],f,e]:=rj.mp m;dsimp only at e;split at e
 .rename_i c
  let a:n=x:=NQ Prod.fst e;let b:NameKind.cell=k:=NQ Prod.snd e;let g:d=NameKind.free:=by rw[rB,rB]at c;simpa using c.1.1
  subst a b g;exact .inr #[Z,f]
 .let a:n=x:=NQ Prod.fst e;let b:d=k:=NQ Prod.snd e;subst a b;calc .inl f
theorem JB {env:Env}{x:Str}:∀ {names:List (Str×NameKind)},names.lookup x=U NameKind.free ->
  (names.map λ(n,k)=>if (k == NameKind.free&&env.scope.kind == .function&&env.kindOf n == U .cell) then (n,NameKind.cell) else (n,k)).lookup x=U .cell \/
  (names.map λ(n,k)=>if (k == NameKind.free&&env.scope.kind == .function&&env.kindOf n == U .cell) then (n,NameKind.cell) else (n,k)).lookup x=U .free
 | [],h=>by simp at h
 | (n,k)::r,h=>by
  by_cases hx:x=n
  .subst hx;simp only[vR,beq_self_eq_true]at h;cases h;simp only[rC];split
   .left;simp[vR]
   .right;simp[vR]
  .let hb:(x == n)=J:=by simpa using hx
   simp only[vR,hb]at h;let a:=JB (env:=env) h;simp only[rC];split
   .simpa only[vR,hb] using a
   .simpa only[vR,hb] using a
theorem Mw {α:Type}{x:Str}{c:α}:∀ {l:List (Str×α)},(x,c)∈l->∃a,l.lookup x=U a
 | [],h=>by cases h
 | (n,d)::r,h=>by
  by_cases hx:x=n
  .subst hx;exact#[d,by simp[vR]]
  .let hb:(x == n)=J:=by simpa using hx
   rcases qS.mp h with e | h
   .exact NR (NQ Prod.fst e) hx
   .obtain⟨a,e⟩:=Mw h;calc#[a,by simpa only[vR,hb] using e]
section
def qb.capt (I:qb X A1 σ H s)(S:iV X sc):∀y∈sc.names,y.2=NameKind.free->∃c,X.env.cells.lookup y.1=U c:=λy a e=>I.ok.has y.1 (S.clos y a e)
def qb.clcell (I:qb X A1 σ H s)(S:iV X sc){x:Str}{c:AD}(h:(jw X.env.cells sc.names []).lookup x=U c):X.env.cells.lookup x=U c:=by
 rcases HC _ _ _ (zq h) with q | ⟨q,e⟩
 .cases q
 .obtain⟨c',d⟩:=I.capt S _ q Z;let a:X.env.cells.lookup x=U c':=d;let b:c=(X.env.cells.lookup x).getD 0:=e;rw[a,Option.getD_some]at b;rw[b];calc a
def qb.clhas (I:qb X A1 σ H s)(S:iV X sc){x:Str}(h:(x,NameKind.free)∈sc.names):∃c,(jw X.env.cells sc.names []).lookup x=U c/\X.env.cells.lookup x=U c:=by let#[c,e]:=Mw (Hr (cells:=X.env.cells) sc.names [] h);calc#[c,e,I.clcell S e]
def qb.block (I:qb X A1 σ H s)(S:iV X sc)(A:Cz N X.N sc ix=Y)(Q:∀b∈fp,jL X A1 H b/\b<↥s)
  (K:∀b o,s.heap.get? b=U o->h1.get? b=U o) (hn:h1.Ns ↥s m):
  qb (bx X sc N fp s H (X.pn++A1)) [] (pick ix σ) H { s with heap:=h1,toks:=tk }:=by
 let hC:∀b o,s.heap.get? b=U o->b≠↥s:=λb o e=>rK (qQ e);let B:∀x c,(jw X.env.cells sc.names []).lookup x=U c->∃v,s.heap.IsCell c v:=λx c e=>I.cell x c (I.clcell S e);let D:∀b,b≠X.env.locals->b∉X.fs->b∉rZ X.stack:=λb h1 h2 t=>by
  rcases qS.mp (I.stkSub b t) with z | z
  .exact h1 z
  .exact h2 z
 rw[Cz,rB]at A;refine⟨⟨I.ok.mod,S.kind,I.ok.glob,I.ok.blt,qG _,?_,?_,?_,I.ok.hd,I.ok.frames,.inl Z,?_,I.bs,qJ I.ok.bsz I.sz,?_,?_,I.stack,I.stkFree⟩,
  rfl,I.bare,Un.kept K,⟨m,hn,?_⟩,?_,I.fresh,?_,?_,I.hok.kept K,?_⟩
 .intro x y c G g;exact I.ok.inj x y c (I.clcell S G) (I.clcell S g)
 .intro x r;let r:(relabel sc X.env).names.lookup x=U .cell\/(relabel sc X.env).names.lookup x=U .free:=r;let hm:(x,NameKind.free)∈sc.names:=by
   rcases r with r | r
   .rcases Jc r with q | ⟨_,q⟩
    .exact NR Z (S.nocell _ q)
    .exact q
   .rcases Jc r with q | ⟨q,_⟩
    .exact q
    .cases q
  let#[c,e,_]:=I.clhas S hm;exact#[c,e]
 .intro x c z;cases z
 .intro b t;let#[f,BB]:=Q b t;refine#[rK BB,λx c e=>f.2.2.2.2.1 x c (I.clcell S e)]
 .intro b o e t;let#[#[_,_,_,f3,_],_]:=Q b t;rcases f3 with z | z
  .exact I.ok.noex b o e z
  .exact NR (qQ e) (Nat.not_lt.mpr (qJ I.ok.bsz z))
 .intro b t;let#[#[_,f1,f2,_],_]:=Q b t;exact D b f1 f2
 .intro i x v G g e3;let G:N[i]?=U x:=G;let hi:∃j,ix[i]?=U (U j)/\σ[j]?=U (U v):=by
   unfold pick at g;rw[se]at g;cases q:ix[i]? with
   | none=>rw[q]at g;cases g
   | some o=>
    rw[q]at g;cases o with
    | none=>cases g
    | some j=>
     calc#[j,Z,?_];let C:(σ[j]?).join=U v:=Option.some.inj g;cases q2:σ[j]? with
     | none=>rw[q2]at C;cases C
     | some w=>rw[q2]at C;cases w with
      | none=>cases C
      | some w=>rw[<-C];rfl
  let#[j,hj,L]:=hi;let W:(x,U j)∈N.zip ix:=by
   let q:(N.zip ix)[i]?=U (x,U j):=by rw[List.getElem?_zip_eq_some];exact#[G,hj]
   exact sC q
  let h:=ur.mp A.2 _ W;dsimp only at h;rw[rB]at h;let hM:X.N[j]?=U x:=NO h.1;let E:sc.names.lookup x=U NameKind.free:=NO h.2;let a:=zq E;let#[mo,aa,P]:=I.loc;let F:Br X.env.scope x:=by
   rcases S.clos _ a Z with z | z
   .exact .inr (.inl z)
   .exact .inr (.inr z)
  let#[u,ru,l]:=P j x v hM L F;refine#[u,ru,.inr #[?_,?_]]
  .exact JB (env:=X.env) E
  .obtain⟨c,e,e'⟩:=I.clhas S a;calc#[c,e,?_];rcases l with⟨k,_⟩|⟨_,c',V,z⟩
   .rcases S.clos _ a Z with q | q
    .rw[k]at q;cases q
    .rw[k]at q;cases q
   .rw[e']at V;cases V;let#[o,M,T]:=z;exact#[o,K _ _ M,T]
 .intro x c e;let#[v,o,M,T]:=B x c e;exact#[v,o,K _ _ M,T]
 .intro x c e;exact I.freeC x c (I.clcell S e)
 .intro p h;let h:p∈X.pn++A1:=by
   rcases rJ.mp h with z | z
   .exact z
   .cases z
  let#[e,n,ne,nf,d]:=I.pin p h;exact#[K _ _ e,n,hC _ _ e,D p.1 ne nf,d]
 .show ⇑(pick ix σ)=⇑N;unfold pick;rw[qm];simpa using A.1
def qb.unblock (I:qb X A1 σ H s)(l:∀b∈fp,jL X A1 H b)(d:qb (bx X sc N fp s H (X.pn++A1)) [] τ H' s')(g:Heap.SameBut ↥s s'.heap h'):
  qb X A1 σ H' { s' with heap:=h' }:=by
 let i:∀b o,s.heap.get? b=U o->b≠↥s:=λb o e=>rK (qQ e);let a:H' ↥s=O:=d.free;let u:Un (rZ X.stack) fp H H' s.heap s'.heap:=d.base;let w:rQ X.prog X.w H' h':=λb m e=>by
  calc(d.hok b m e).stay (λc z h q=>(g.2 c ?_).trans q) (λ_ q=>q) λ_ _ q=>q;rintro rfl;rcases h with rfl | h
  .rw[a]at e;cases e
  .rw[a]at h;cases h
 refine I.call' (ch:=fp) d.os #[λb o e n j f=>(g.2 b (i b o e)).trans (u.keep b o e n j f),λb o e n j f=>?_,u.free,λb o e f=>?_,u.tups,u.frzs,u.tbls] w d.bare λb r=>?_
 .obtain⟨p,q⟩:=u.slot b o e n j f;exact#[p,(g.2 b (i b o e)).trans q]
 .obtain⟨x,q⟩:=u.there b o e f;exact#[x,(g.2 b (i b o e)).trans q]
 .obtain⟨_,t,_,v,k,y⟩:=l b r;calc#[v,t,k,y]
end
def k7 (X:Cx)(a:List Expr)(t:TT):Prop:=
 ∀(b:AA)(s:AE)(σ:St)(H:Hp)(Q:Bool->Hp->Prop),qb X b σ H s->t σ H Q ->
  wpAny (model X.prog X.w) X.A (forIn a Y λc r=>if r=Y then do let ok <-isTrue c X.env (eval c X.env);pure (ForInStep.yield ok) else pure (ForInStep.yield r)) (TP X b σ Q) X.xe s
def lL:TT:=λ_ H Q=>Q Y H
def uv:k7 X [] lL:=λ_ _ _ H _ I h=>wpAny_tests_nil #[H,I,h]
def EU (h:PT X c t):k7 X [c] t:=λa s σ H Q I q=>wpAny_tests_one (h a s σ H Q I q)
theorem ZgW (W:Nat->AE->Prop)
  (turn:∀n s,W n s->wpAny (model prog w) A (pyNext it) (λr s_1=>match r with
   | none=>R_ (.ok .next) s_1
   | some v=>wpAny (model prog w) A (letOwnedTupleGo tgt it v) (λ_ s1_'=>wpAny (model prog w) A (assign tgt env v) (λ_ s_2=>
     wpAny (model prog w) A (forIn ifs Y λc r=>if r=Y then do let ok <-isTrue c env (eval c env);pure (ForInStep.yield ok) else pure (ForInStep.yield r)) (λok s₃=>
      if ok=Y then wpAny (model prog w) A (eval el env) (λx s₄=>
       wpAny (model prog w) A (call (.builtin "list.append") [acc,x]) (λ_ s₅=>∃m,m<n/\W m s₅) (λ_ _=>False) s₄) (λ_ _=>False) s₃
      else ∃m,m<n/\W m s₃) (λ_ _=>False) s_2) (λ_ _=>False) s1_') (λ_ _=>False) s_1) (λ_ _=>False) s)
  (n:Nat) (h:W n s):codeAny (model prog w) A (.compLoop (.ListComp el [#[tgt,iter,ifs,0]] scp pos) 0 it acc env) R_ s:=by
 calc codeAny_loop Z W (λn s hI=>?_) n h;show wpAny _ A ((compTurn (.ListComp el [#[tgt,iter,ifs,0]] scp pos) 0 it acc env).onRaise (λx=>do noteFrame x env;theTreesLotGoes x)) _ _ s;calc wpAny_noted ?_;rw[compTurn_list];calc qd (wpAny_standAt (qd (tw (turn n s hI) (λr s1 q1=>?_) λ_ _ z=>z.elim)));cases r with
 | none=>exact qv q1
 | some v=>
  calc qd (tw q1 (λ_ s1' q1'=>?_) λ_ _ z=>z.elim);calc qd (tw q1' (λ_ s2 q2=>qd (tw q2 (λok s3 q3=>?_) λ_ _ z=>z.elim)) λ_ _ z=>z.elim);cases ok with
  | false=>exact qv #[Z,q3]
  | true=>calc qd (qd (tw q3 (λx s4 q4=>qd (tw q4 (λ_ s5 q5=>qv (qv #[Z,q5])) λ_ _ z=>z.elim)) λ_ _ z=>z.elim))
def Fi (ix:List (Option Nat))(r:TI)(g:TG)(q:TT)(s:TE):TE:=λσ H Q=>r σ H λh p=>∀a,p a=O->∃W:Nat->Nat->St->Hp->Prop,(∃m,W 0 m (pick ix σ) (upd p a (.lst []))) /\
 ∀i m τ d,W i m τ d->(h.stop i d/\Q (.ref a) d)\/(h.go i d/\∃f:St->Hp->Prop,(∀e l,f e l->∃j,j<m/\W (i+1) j e l) /\
  ∀x k,h.yld i d x k->g x τ k λc t=>q c t λb n=>if b=Y then s c n λy o=>∃ys,o a=U (.lst ys)/\⇑ys<sizeLine/\f c (upd o a (.lst (ys++[y]))) else f c n)
section
def IZ {Q:VK}{w:AA}{s:AE}{σ:St}{H:Hp}{it:AD}{h:List AD}{tn:Nat->Heap->Prop}{J_:It}{RR:Value->AD->Result->AE->Prop}
  (hc:X.calm=Y) (S:iV X sc) (au:Cz N X.N sc ix=Y)
  (hg:∀h B C pn,PG (bx X sc N h B C pn) tg g) (ht:∀h B C pn,k7 (bx X sc N h B C pn) ifs tt) (he:∀h B C pn,PE (bx X sc N h B C pn) elt te)
  (I:qb X w σ H s) (T:kz X.prog X.w X.K tg J_ h it tn) (st:tn 0 s.heap) (hf:∀b∈h,jL X w H b)
  (q:∀a,H a=O->∃W:Nat->Nat->St->Hp->Prop,(∃m,W 0 m (pick ix σ) (upd H a (.lst []))) /\
   ∀i m τ H2,W i m τ H2->(J_.stop i H2/\Q (.ref a) H2)\/(J_.go i H2/\∃V:St->Hp->Prop,(∀ak H',V ak H'->∃m',m'<m/\W (i+1) m' ak H') /\
    ∀x H3,J_.yld i H2 x H3->g x τ H3 λτ2 H4=>tt τ2 H4 λb H5=>if b=Y then te τ2 H5 λy H6=>∃ys,H6 a=U (.lst ys)/\⇑ys<sizeLine/\V τ2 (upd H6 a (.lst (ys++[y]))) else V τ2 H5))
  (hR:∀(a:AD)(k s':AE)(τ:St)(H':Hp),qb X w σ (upd H a (.lst [])) k->(∀b∈h,jL X w (upd H a (.lst [])) b)->qb (bx X sc N h k (upd H a (.lst [])) (X.pn++w)) [] τ H' s'->Q (.ref a) H' ->
   RR (.ref a) ↥k (.ok .next) s'):
  wpAny (model X.prog X.w) X.A (newList []) (λa k=>wpAny (model X.prog X.w) X.A (newFunctionEnv sc X.env.globals (jw X.env.cells sc.names []) [] X.env.qual O .none (U X.env)) (λcenv s₄=>
   codeAny (model X.prog X.w) X.A (.compStart (.ListComp elt [#[tg,iter,ifs,0]] sc pos) 0 (.ref it) a { cenv with scope:=relabel sc X.env }) (RR a cenv.locals) s₄) X.xe k) X.xe s:=by
 calc x8 ?_;let an:=I.fresh;let I3:=I.lnew (its:=[]) (ys:=[]) (t':=s.toks) .nil (rM _);let af:∀b∈h,b<↥s:=λb j=>by let#[o,e,_]:=T.obj 0 _ st b j;exact qQ e
 let M:∀b∈h,jL X w (upd H ↥s (.lst [])) b:=λb j=>by let#[f0,f]:=hf b j;calc#[?_,f];rw[qh (rK (af b j))];exact f0
 let q3:=q _ an;let ad:tn 0 (s.heap.push { cls:=.type "list",data:=.seq ↑([]:AC) }):=T.keep _ _ _ st λb _ o e=>qU _ e;generalize e3:({ s with heap:=s.heap.push { cls:=.type "list",data:=.seq ↑([]:AC) },toks:=s.toks }:AE)=s3 at I3;let al:s3.heap=s.heap.push { cls:=.type "list",data:=.seq ↑([]:AC) }:=by rw[<-e3]
 rw[<-al]at ad;let G:∀b∈h,jL X w (upd H ↥s (.lst [])) b/\b<↥s3:=λb j=>#[M b j,by rw[al,vD];calc Nat.lt_succ_of_lt (af b j)];calc wpAny_newFunctionEnv S.nocell (by intro y hy;cases hy) (λh_1 ae ah=>?_) S.kind;let hk:∀b o,s3.heap.get? b=U o->h_1.get? b=U o:=λb o e=>ah.extBut b o (rK (qQ e)) (qU _ e);let I4:=I3.block (N:=N) (ix:=ix) (tk:=s3.toks+⇑([]:List (Str×Value))) S au G hk ae;let ai:tn 0 h_1:=T.keep _ _ _ ad λb _ o e=>hk b o e;let#[W,#[m0,w0],ac]:=q3;let l:∀ {H':Hp},(∀b∈h,H' b=O)->∀b∈h,jL (bx X sc N h s3 (upd H ↥s (.lst [])) (X.pn++w)) [] H' b:=λ{H'} hn b j=>by
  let#[#[_,f1,f2,f3,f4,f5],BB]:=G b j;refine#[hn b j,rK BB,λz=>?_,.inl j,λx c e=>f4 x c (I3.clcell S e),λp hp=>?_]
  .rcases qS.mp (I3.stkSub b z) with z | z
   .exact f1 z
   .exact f2 z
  .refine f5 p ?_;rcases rJ.mp hp with z | z
   .exact z
   .cases z
 let F:∀s4:AE,s4={ s3 with heap:=h_1,toks:=s3.toks+⇑([]:List (Str×Value)) } ->
   codeAny (model X.prog X.w) X.A (.compLoop (.ListComp elt [#[tg,iter,ifs,0]] sc pos) 0 (.ref it) (.ref ↥s) (compEnvC sc (jw X.env.cells sc.names []) ↥s3 X.env)) (RR (.ref ↥s) ↥s3) s4:=by
  rintro s4 rfl;calc ZgW (λn s'=>∃i τ H',qb (bx X sc N h s3 (upd H ↥s (.lst [])) (X.pn++w)) [] τ H' s'/\tn i s'.heap/\(∀b∈h,H' b=O)/\W i n τ H') ?_ m0 #[0,_,_,I4,ai,λb j=>(M b j).1,w0];rintro n s5 ⟨i,τ,H5,I5,aj,ag,w5⟩;rcases ac i n τ H5 w5 with⟨ab,qn⟩|⟨go,V,hN,aa⟩
  .refine qx (T.done (bx X sc N h s3 (upd H ↥s (.lst [])) (X.pn++w)) Z Z Z hc i [] s5 τ H5 (λ_ _=>False) I5 (l ag) aj ab) λr s6 t=>?_;let#[hr,I6]:=t;subst hr;exact hR _ _ _ _ _ I3 M I6 qn
  .refine qx (T.item (bx X sc N h s3 (upd H ↥s (.lst [])) (X.pn++w)) Z Z Z hc i [] s5 τ H5 (λ_ _=>False) I5 (l ag) aj go) λr s6 t=>?_;let#[u,hr,h6]:=t;subst hr;calc qx h6 λ_ s7 t=>?_;let#[x,H7,I7,r7,y7,K,ar]:=t;let ao:=I7.pinned (l ar) (T.obj _ _ K);calc qx (hg _ _ _ _ _ s7 τ H7 x u _ ao r7 (aa x H7 y7)) λ_ s8 t=>?_;let#[E,H8,I8,q8]:=t;let D:∀ {P:AE} {A:St} {L:Hp},qb (bx X sc N h s3 (upd H ↥s (.lst [])) (X.pn++w)) ([]++C2 h s7.heap) A L P->V A L ->
     ∃m,m<n/\∃i τ H',qb (bx X sc N h s3 (upd H ↥s (.lst [])) (X.pn++w)) [] τ H' P/\tn i P.heap/\(∀b∈h,H' b=O)/\W i m τ H':=λ{P A L} I9 n9=>by
    let#[m',hm,w9]:=hN A L n9;calc#[m',hm,i+1,A,L,I9.unpinned,T.keep _ _ _ K λb j o e=>(I9.pin (b,o) (ui _ (ui _ (Eg j e)))).1,λb j=>?_,w9];let#[o,e,d]:=T.obj _ _ K b j;exact(I9.pin (b,o) (ui _ (ui _ (Eg j e)))).2.1
   calc qx (ht _ _ _ _ _ s8 E H8 _ I8 q8) λok P t=>?_;let#[L,I9,q9]:=t;cases ok with
   | false=>exact D I9 q9
   | true=>
    rw[qg Z]at q9 ⊢;calc qx (he _ _ _ _ _ P E L _ I9 q9) λyv aw t=>?_;let#[y,ap,ax,aq,ys,ha,hz,am]:=t;calc qx (ye _ aw E ap (.ref ↥s) [y] (.ref ↥s) [yv] (λv H'=>v=.non/\V E H') ax Z (.cons aq .nil) #[_,ys,y,Z,Z,ha,hz,Z,am]) λ_ ay t=>?_;let#[_,az,as,_,_,av]:=t;exact D as av
 calc codeAny_compStart_list (F _ Z) (T.self _ 0 _ _ _ ai (F _ Z))
def uq (G:X.calm=Y)(S:iV X sc)(j:Cz N X.N sc ix=Y)(u:PI X tg iter wi)
  (y:∀d b a f,PG (bx X sc N d b a f) tg g) (K:∀d b a f,k7 (bx X sc N d b a f) ifs tt) (p:∀d b a f,PE (bx X sc N d b a f) elt te)
  (B:autoParam (∀x,foldedSetIterable iter X.env x=pure x) Qx._auto_1):PE X (.ListComp elt [#[tg,iter,ifs,0]] sc pos) (Fi ix wi g tt te):=by
 intro o s σ H Q I h;rw[eval_ListComp];calc wpAny_comprehension_free (use:=O) Z B (Kz (I.capt S)) S.kind S.loc (qx (u o s σ H _ I h) λv s1 t=>qx t λr M w=>?_);let#[it,d,tn,V,H2,e,E,T,l,L,q]:=w;subst e;calc IZ (Q:=Q) (RR:=λc C=>compPost (model X.prog X.w) X.A X.xe O (EP X o σ Q) c C) G S j y K p E T l L q ?_;intro c s3 W τ F A k n z;let#[m,D,_]:=n.loc;calc#[m,D,λP i=>#[.ref c,F,A.unblock k n i,Z,z]]
def Hu (M:swapsWith (.ListComp elt [#[tg,iter,ifs,0]] sc pos) (U (.Name x px)) spos.line X.env=pure Y)
  (hN:X.N.Nodup) (G:X.N[i]?=U x) (hx:X.env.scope.names.lookup x=U .local) (t:X.calm=Y) (S:iV X sc) (P:Cz N X.N sc ix=Y) (hi:PI X tg iter wi)
  (hg:∀r f d B,PG (bx X sc N r f d B) tg g) (ht:∀r f d B,k7 (bx X sc N r f d B) ifs tt) (he:∀r f d B,PE (bx X sc N r f d B) elt te)
  (hs:autoParam (∀x,foldedSetIterable iter X.env x=pure x) Qx._auto_1):PS X (.Assign [.Name x px] (.ListComp elt [#[tg,iter,ifs,0]] sc pos) spos) (k9 (Fi ix wi g tt te) (uD i)):=by
 intro E s σ H D I h;rw[exec_Assign_Name_used _ _ _ _ M];calc qd (wpAny_standAt (qd ?_));show wpAny _ X.A (do let _ <-comprehension (.ListComp elt [#[tg,iter,ifs,0]] sc pos) sc X.env _ (newList []) J (eval iter X.env) (U (assign (.Name x px) X.env))) _ _ s;refine qd (tw (wpAny_comprehension_free (use:=U (assign (.Name x px) X.env)) (Q:=λ_ s'=>SP X E D .next s') Z hs (Kz (I.capt S)) S.kind S.loc
  (qx (hi E s σ H _ I h) λv s1 h1=>qx h1 λac s2 h2=>?_)) (λ_ s' hq=>qv (qv hq)) λ_ _ z=>z)
 let#[it,r,tn,J_,H2,e,I2,T,ab,f2,q]:=h2;subst e;calc IZ (Q:=λy H1=>uD i y σ H1 D.nx) (RR:=λj C=>compPost (model X.prog X.w) X.A X.xe (U (assign (.Name x px) X.env)) (λ_ s'=>SP X E D .next s') j C) t S P hg ht he I2 T ab f2 q ?_;intro j l s' τ F n aa L qq;show wpAny _ X.A (assign (.Name x px) X.env (.ref j)) _ _ _;let I5:qb X E σ F s':=n.unblock aa L (.refl ..);let#[m,W,_]:=L.loc;let W:s'.heap.Ns ↥l m:=W;let w:↥l≠X.env.locals:=Nat.ne_of_gt n.lt;calc wpAny_assign_Name (K4 I5 hN G (.inl hx) (v:=.ref j) Z (λs6 I6 ⟨a,sb,A⟩=>?_) (.inr hx));let ea:a≠↥l:=by
  rcases A with A | A
  .rw[A];exact qy w
  .obtain⟨v,o,V,_⟩:=n.cell x a A;exact rK (qQ V)
 calc#[m,W.sameBut sb (qy ea),λh' u=>?_];let k:F ↥l=O:=L.free;calc#[_,F,?_,qq];let ok:rQ X.prog X.w F h':=λb ob e=>by
  calc(I6.hok b ob e).stay (λc w' t q=>(u.2 c ?_).trans q) (λ_ q=>q) λ_ _ q=>q;rintro rfl;rcases t with rfl | t
  .rw[k]at e;cases e
  .rw[k]at t;cases t
 let l3:↥X.s_0<=↥l:=n.sz;let K:∀y c,X.env.cells.lookup y=U c->c≠↥l:=λy c e z=>by let#[v,o,V,_]:=n.cell y c e;exact NR (qQ V) (by rw[z];calc tJ _)
 calc I6.turned (t':=s6.toks) (it:=↥l) (λb o hb e=>(u.2 b hb).trans e) k w (.inr l3) K λp hp z=>by have:=(n.pin p hp).1;calc NR (qQ this) (by rw[z];calc tJ _)
end
noncomputable abbrev tx (l:p9):V:=.str #[↑l]
def Eh:tx a=tx b↔a=b:=by
 constructor
 .intro h;let c:(#[↑a]:Str)=#[↑b]:=V.str.inj h;let d:↑a=↑b:=NQ Str.cps c;simpa using d
 .rintro rfl;rfl
def wN:R (tx a=tx b)=R (a=b):=by
 by_cases h:a=b
 .subst h;simp
 .rw[NN h,NN λz=>h (Eh.mp z)]
def wW (l:p9):⇑(#[↑l]:Str)=⇑l:=by show l.toArray.size=⇑l;simp
def J7 (x y:V)(p:p9->p9->Prop):Prop:=match x,y with | .str a,.str b=>p a.cps.toList b.cps.toList | _,_=>False
def Zqj (h:J7 x y p):∃a b,x=tx a/\y=tx b/\p a b:=by cases x<;>first | calc False.elim h | (cases y<;>first | calc#[_,_,Z,Z,h] | calc False.elim h)
def rT (C:p9->p9->Prop)(g:p9->p9->V):R2:=λx y H Q=>J7 x y λa b=>C a b/\Q (g a b) H
def tW {α:Type}(l:List α)(a b:Option Int):List α:=(l.drop (HT.sIx ⇑l 0 a)).take (HT.sIx ⇑l ⇑l b-HT.sIx ⇑l 0 a)
def Zjf (l:List α)(a b:Option Int):⇑(tW l a b)<=⇑l:=by
 unfold tW;rw[rL,tG]
 lia
def Nc (l:List α)(a b:Nat):tW l (U (a:Int)) (U (b:Int))=(l.drop a).take (b-a):=by
 unfold tW;rw[HT.sIx_nat,HT.sIx_nat];apply zO;intro i;simp only[B2,BV];by_cases c:i<min b ⇑l-min a ⇑l
 .rw[qg c,qg ∅];congr 1;lia
 .rw[qe c];by_cases d:i<b-a
  .rw[qg d,wP ∅]
  .rw[qe d]
def CK (l:List α)(b:Nat):tW l O (U (b:Int))=l.take b:=by
 unfold tW;rw[HT.sIx_nat,HT.sIx_none];apply zO;intro i;simp only[B2,BV,Nat.zero_add,Nat.sub_zero];by_cases a:i<min b ⇑l
 .rw[qg a,qg ∅]
 .rw[qe a];by_cases c:i<b
  .rw[qg c,wP ∅]
  .rw[qe c]
def yQ (l:List α)(a:Nat):tW l (U (a:Int)) O=l.drop a:=by
 unfold tW;rw[HT.sIx_nat,HT.sIx_none];apply zO;intro i;simp only[B2,BV];by_cases b:i<⇑l-min a ⇑l
 .rw[qg b];congr 1;lia
 .rw[qe b,wP ∅]
noncomputable def E8 (n:Nat)(v:Option Int)(d:Int):Int:=match v with
 | none=>d
 | some i=>max 0 (min (if i<0 then i+(n:Int) else i) (n:Int))
def Md (n d:Nat)(o:Option Int):E8 n o (d:Int)=((HT.sIx n d o:Nat):Int):=by
 cases o with
 | none=>rw[HT.sIx_none];rfl
 | some v=>
  have:=HT.clip_eq v n d;unfold E8;dsimp only;rw[<-this];split<;>lia
def ZjE (c d:Option Int)(n:Nat):Builtin.Str.strSliceIndices c d 1 n=(List.range (HT.sIx n n d-HT.sIx n 0 c)).map λk=>HT.sIx n 0 c+k:=by
 let g:Builtin.Str.strSliceIndices c d 1 n=sliceRange (E8 n c ((0:Nat):Int)) (E8 n d (n:Int)) 1:=by cases c<;>cases d<;>rfl
 rw[g,Md,Md];generalize HT.sIx n 0 c=a;generalize HT.sIx n n d=b;unfold sliceRange;let e:(if (1:Int)>0 then (if (a:Int)<(b:Int) then ((b:Int)-a+1-1)/1 else 0) else (if (a:Int)>(b:Int) then ((a:Int)-b-1-1)/(-1) else 0)).toNat=b-a:=by simp only[show (1:Int)>0 by decide,if_true,Int.ediv_one];split<;>lia
 dsimp only;rw[e];apply zk;intro k _
 lia
def Zls (l:p9)(c hi:Option Int):Txt.slice #[↑l] c hi=#[↑(tW l c hi)]:=by
 let o:=HT.sIx_le ⇑l 0 (rM _) c;let p:=HT.sIx_le ⇑l ⇑l (qG _) hi;unfold Txt.slice;rw[wW,ZjE];let e:((List.range (HT.sIx ⇑l ⇑l hi-HT.sIx ⇑l 0 c)).map λk=>HT.sIx ⇑l 0 c+k).filterMap (λi=>l.toArray[i]?)=tW l c hi:=by
  unfold tW;generalize HT.sIx ⇑l 0 c=a at *;generalize HT.sIx ⇑l ⇑l hi=b at *;let d:∀n,a+n<=⇑l->((List.range n).map λk=>a+k).filterMap (λi=>l.toArray[i]?)=(l.drop a).take n:=by
   intro n;induction n with
   | zero=>intro _;simp
   | succ n h=>
    intro q;rw[wX,sJ,List.filterMap_append,h ∅,yJ];have:(l.drop a)[n]?=l[a+n]?:=BV;simp[this,rD (show a+n<⇑l by lia)]
  by_cases j:a<=b
  .exact d _ ∅
  .have:b-a=0:=by lia
   rw[this];simp
 split
 .rename_i g
  simp only[beq_self_eq_true,yh,qm,uY]at g;let f:HT.sIx ⇑l ⇑l hi-HT.sIx ⇑l 0 c=⇑l:=by simpa using g
  have:tW l c hi=l:=by
   unfold tW;let m:HT.sIx ⇑l 0 c=0:=by lia
   rw[f,m,vI,uU (qG _)]
  rw[this]
 .show (#[↑(List.filterMap (λi=>l.toArray[i]?) _)]:Str)=_;rw[e]
section
def sL:rV X (binaryOp .Add) (rT (λa b=>⇑a+⇑b<=sizeLine) λa b=>tx (a++b)):=by
 rintro f s σ H x y v u Q I g c h;let#[a,b,Z,Z,d,q]:=Zqj h;calc ZiV f s σ H _ _ v u Q I g c #[_,_,Z,Z,by rw[wW,wW];calc d,?_];let e:((#[↑a]:Str)++(#[↑b]:Str))=#[↑(a++b)]:=by show (#[↑a++↑b]:Str)=_;simp
 rw[e];calc q
def ZiS:rV X (compareOp .In) (λx y H Q=>∃c l,x=tx [c]/\y=tx l/\Q (.bl (R (c∈l))) H):=by
 rintro d s σ H x y v u Q I f b ⟨c,l,rfl,rfl,q⟩;calc KA d s σ H _ _ v u Q I f b #[_,_,Z,Z,?_];let e:=StrLaws.found_one #[↑l] c;let a:(!(Builtin.Str.occurrences #[↑l] #[↑[c]] 0 ⇑(#[↑l]:Str) 1).isEmpty)=R (c∈l):=by rw[show (↑[c])=↑[c] from Z,e]
 rw[a];calc q
def yO:zJ X (λx y H Q=>∃l i c,x=tx l/\y=.int i/\⇑l<=sizeLine/\tI l i=U c/\Q (tx [c]) H):=by rintro a slice d s σ H x y v u Q I e f ⟨l,i,c,rfl,rfl,b,h,q⟩ g;calc Zqf a slice d s σ H _ _ v u Q I e f #[_,i,c,Z,Z,by rw[wW];calc b,h,q] g
def vm:Eo X (λx lo hi H Q=>∃l,x=tx l/\⇑l<=sizeLine/\Q (tx (tW l lo hi)) H):=by
 rintro w s σ H x v A B lo hi y Q I n r pl f ⟨l,rfl,j,q⟩;let#[t,Z]:=n;calc#["str",_,F.slot_str_getitem.lookup,typeIs_str _ _ _,?_];let c:∀ {v:Value} {o:Option Int},IsPart v o->∃p:Option (Int×Tok),v=partValue p/\p.map (·.1)=o:=λ{v o} h=>by
  cases h with
  | none=>exact#[O,Z,Z]
  | int i t=>exact#[U (i,t),Z,Z]
 let#[a,Z,g]:=c pl;let#[b,Z,m]:=c f;calc wpAny_getItem_str_slice (l:=a) (u:=b) (st:=O) r Z ?_;let e:(if ((1:Int) == 1&&⇑(Builtin.Str.strSliceIndices lo hi 1 ⇑(#[↑l]:Str)) == ⇑(#[↑l]:Str))=Y then (#[↑l]:Str) else #[↑((Builtin.Str.strSliceIndices lo hi 1 ⇑(#[↑l]:Str)).filterMap ((#[↑l]:Str).cps[·]?))])=#[↑(tW l lo hi)]:=Zls l lo hi;unfold sliceMade slicePicked;rw[g,m];calc post_val_or_str ?_;refine#[?_,λd k=>?_]
 .show ⇑(if ((1:Int) == 1&&⇑(Builtin.Str.strSliceIndices lo hi 1 ⇑(#[↑l]:Str)) == ⇑(#[↑l]:Str))=Y then (#[↑l]:Str) else #[↑((Builtin.Str.strSliceIndices lo hi 1 ⇑(#[↑l]:Str)).filterMap ((#[↑l]:Str).cps[·]?))])<=sizeLine;rw[e,wW];exact qJ (Zjf _ _ _) j
 .refine#[tx (tW l lo hi),H,I.tok _,#[d,?_],q];calc NQ (λz=>Value.str z d) e
def ir (a:p9):qi->p9
 | []=>[]
 | [x]=>x
 | x::r=>x++a++ir a r
theorem G0:∀ls:qi,ir [] ls=ls.flatten
 | []=>rfl
 | [x]=>by simp[ir]
 | x::y::r=>by show x++[]++ir [] (y::r)=_;rw[G0 (y::r)];simp
theorem Hj (a:p9):∀ls:qi,Str.join #[↑a] (ls.map λl=>(#[↑l]:Str))=#[↑(ir a ls)]
 | []=>rfl
 | [x]=>rfl
 | x::y::r=>by let ih:=Hj a (y::r);show (#[↑x]:Str)++#[↑a]++Str.join #[↑a] ((y::r).map λl=>(#[↑l]:Str))=_;rw[ih];show (#[↑x++↑a++↑(ir a (y::r))]:Str)=#[↑(x++a++ir a (y::r))];simp
theorem FW:∀ {ls:qi} {us:AC},hJ (ls.map tx) us->StrsAre us (ls.map λl=>(#[↑l]:Str))
 | [],us,r=>by
  rw[zR]at r;cases r;exact .nil
 | l::ls,us,r=>by
  rw[rC]at r;cases r with
  | cons r1 r2=>
   let#[t,e]:=r1;subst e;calc .cons _ t (FW r2)
def Ci:zP X "str.join" (λx vs H Q=>∃b a ls,x=tx b/\vs=[.ref a]/\H a=U (.lst (ls.map tx))/\(ls.map List.length).sum+⇑ls*⇑b<=16777216/\Q (tx (ir b ls)) H):=by
 rintro p s σ H x vs v w Q I m i ⟨b,a,ls,rfl,rfl,j,d,q⟩;let#[t,Z]:=m;let#[u,Z,o]:=i.one;cases o;let#[_,f,n,r,_,e]:=I.lstM j;refine join_list (PySem.IsL.isList e) (FW (~~~r)) ?_ λh k=>?_
 .let c:((ls.map λl=>(#[↑l]:Str)).map (·.length)).sum=(ls.map List.length).sum:=by rw[rO];congr 1;all_goals (apply zk;intro l _;calc wW l)
  rw[c,qm,wW];exact d
 .refine#[tx (ir b ls),H,I.tok _,#[h,?_],q];let g:Txt.join #[↑b] (ls.map λl=>(#[↑l]:Str))=#[↑(ir b ls)]:=by show Builtin.Str.glued _ _=_;rw[StrLaws.glued_eq_join,Hj]
  rw[g]
end
def zg (l:p9):It:=#[λi _=>i<⇑l,λi H x a=>a=H/\∃c,l[i]?=U c/\x=tx [c],λi _=>⇑l<=i]
def Zjt {P:AG}{w:AI}{K:qj}{tg:Expr}(l:p9)(t:Tok)(it:AD)(ty:String)(g:ty="str_ascii_iterator"\/ty="str_iterator"):kz P w K tg (zg l) [it] it (λi h=>h.IsStrIter it ty #[↑l] t i) where
 mem:=by simp
 obj:=λi h f b j=>by
  let e:b=it:=by simpa using j
  subst e;let#[o,e,c,d]:=f;exact#[o,e,λv z=>by rw[d]at z;cases z]
 keep:=λi h h' f k=>by let#[o,e,r]:=f;exact#[o,k it {} o e,r]
 item:=by
  intro X G M V T i L s σ H E I D f m;subst G M V;let#[F,B,f2,C,q,y]:=D it {};let m:i<⇑l:=m;let n:(#[↑l]:Str).cps[i]?=U l[i]:=by show l.toArray[i]?=U l[i];simp[m]
  let fin:∀(h':Heap)(tk:Tok),h'.IsStrIter it ty #[↑l] t (i+1)->Heap.SameBut it s.heap h' ->
    ∃u,U (Value.str #[↑[l[i]]] s.toks)=U u/\wpAny (model X.prog X.w) X.A (letOwnedTupleGo tg (.ref it) u) (λ_ W=>∃x S,qb X L σ S W/\ia x u/\(zg l).yld i H x S/\W.heap.IsStrIter it ty #[↑l] t (i+1)/\∀b∈[it],S b=O) E { s with heap:=h',toks:=tk }:=λh' tk a p=>by
   let I1:qb X L σ H { s with heap:=h',toks:=tk }:=I.turned (t':=tk) (λb o j e=>(p.2 b j).trans e) F B C q y;let#[o,e,c,d]:=id a;calc#[_,Z,CO (s:={ s with heap:=h',toks:=tk }) e c d ?_ #[tx [l[i]],H,I1,#[_,Z],#[Z,l[i],by simp[m],Z],a,λb j=>(D b j).1]];rcases g with rfl | rfl<;>decide
  rcases g with rfl | rfl
  .exact wpAny_pyNext_ascii_item f n λh' a p=>fin h' _ a p
  .exact wpAny_pyNext_wide_item f n λh' a p=>fin h' _ a p
 done:=by
  intro X G M V T i L s σ H E I D f m;subst G M V;let#[F,B,f2,C,q,y]:=D it {};let m:⇑l<=i:=m;let n:(#[↑l]:Str).cps[i]?=O:=by show l.toArray[i]?=O;simp[m]
  rcases g with rfl | rfl
  .exact wpAny_pyNext_ascii_end (I.ok.hd T) f n λh' N=>#[Z,I.turned (t':=s.toks) (λb o j e=>N b o j e) F B C q y]
  .exact wpAny_pyNext_wide_end (I.ok.hd T) f n λh' N=>#[Z,I.turned (t':=s.toks) (λb o j e=>N b o j e) F B C q y]
 self:=by
  intro A i s Q E f h;rcases g with rfl | rfl
  .exact wpAny_pyIter_striter_ascii f h
  .exact wpAny_pyIter_striter_wide f h
section
def Kt (a:TE):TI:=λσ H b=>a σ H λx c=>∃l,x=tx l/\b (zg l) c
def Be (j:PE X l tl):PI X tg l (Kt tl):=by
 intro f s σ H p I h;calc qx (j f s σ H _ I h) λv a g=>?_;let#[x,n,d,i,m]:=g;let#[l,Z,q]:=m;let#[t,Z]:=i;let fin:∀ty,(ty="str_ascii_iterator"\/ty="str_iterator")->FE X f σ tg p (.ref ↥a) { a with heap:=a.heap.push { cls:=.type ty,data:=.fields ↑[.str #[↑l] t,.int 0 0] } }:=λty c=>by
  calc#[↥a,[↥a],_,_,n,Z,d.kept (t':=a.toks) λb o e=>qU _ e,Zjt l t _ ty c,#[_,rS _ Z,Z,Z],λb k=>?_,q];let e:b=↥a:=by simpa using k
  subst e;exact d.fpOk (qG _) (d.hok.fresh (qG _))
 cases ha:(#[↑l]:Str).cps.all (· < 128)
 .exact wpAny_pyIter_wide ha (fin _ (.inr Z))
 .exact wpAny_pyIter_ascii ha (fin _ (.inl Z))
end
def Zl9 {l:p9}{g:TG}{tb:TS}{D:jn}{σ:St}{H:Hp}(d:Nat->St->Hp->Prop)(k:d 0 σ H)
  (q:∀i c σ H,l[i]?=U c->d i σ H->g (tx [c]) σ H λσ2 H2=>tb { D with nx:=d (i+1),ct:=d (i+1),bk:=D.nx } σ2 H2) (o:∀σ H,d ⇑l σ H->D.nx σ H):
  ∃W:Nat->Nat->St->Hp->Prop,(∃m,W 0 m σ H)/\∀i m σ H,W i m σ H ->
   ((zg l).stop i H/\D.nx σ H)\/((zg l).go i H/\∃N:St->Hp->Prop,(∀b a,N b a->∃f,f<m/\W (i+1) f b a)/\∀x a,(zg l).yld i H x a->g x σ a λσ2 H2=>tb { D with nx:=N,ct:=N,bk:=D.nx } σ2 H2):=by
 calc#[λi m σ H=>m=⇑l-i/\i<=⇑l/\d i σ H,#[⇑l,{},rM _,k],?_];rintro i m σ H ⟨rfl,r,p⟩;by_cases h:i<⇑l
 .refine .inr #[h,d (i+1),λb a j=>#[⇑l-(i+1),∅,Z,h,j],λx a y=>?_];let#[e,c,n,y]:=y;subst e y;exact q i c σ _ n p
 .let e:i=⇑l:=by lia
  subst e;calc .inl #[qG _,o σ H p]
inductive DT where
 | f (v:V)
 | l (xs:List DT)
 | t (xs:List DT)
section
variable (K:qj)(H:Hp)
mutual
def ij:DT->V->Prop
 | .f w,v=>v=w/\tR w=Y
 | .l ds,v=>∃a vs,v=.ref a/\rl K H a vs/\DatsOk ds vs
 | .t ds,v=>∃a vs,v=.ref a/\sG K H a vs/\DatsOk ds vs
def DatsOk:List DT->NU->Prop
 | [],vs=>vs=[]
 | d::ds,vs=>∃v r,vs=v::r/\ij d v/\DatsOk ds r
end
end
mutual
def rW:DT->DT->Bool
 | .f v,.f w=>wa v w
 | .l xs,.l ys=>deqs xs ys
 | .t xs,.t ys=>deqs xs ys
 | .f _,.l _=>J
 | .f _,.t _=>J
 | .l _,.f _=>J
 | .t _,.f _=>J
 | .l _,.t _=>J
 | .t _,.l _=>J
def deqs:List DT->List DT->Bool
 | [],[]=>Y
 | x::xs,y::ys=>rW x y&&deqs xs ys
 | [],_::_=>J
 | _::_,[]=>J
end
mutual
def uA:DT->Nat
 | .f _=>0
 | .l xs=>deps xs+1
 | .t xs=>deps xs+1
def deps:List DT->Nat
 | []=>0
 | x::xs=>max (uA x) (deps xs)
end
def Kd (h:tR v=Y):wa v v=Y:=by cases v<;>first | rfl | (simp[wa];done) | calc NR (show J=Y from h) qO
theorem DatsOk.length {K:qj}{H:Hp}:∀ {a:List DT} {vs:NU},DatsOk K H a vs->⇑vs=⇑a
 | [],vs,h=>by
  unfold DatsOk at h;subst h;rfl
 | d::a,vs,h=>by unfold DatsOk at h;let#[v,r,Z,_,hr]:=h;rw[rF,rF,DatsOk.length hr]
def uh (xs ys:List DT)(j:Nat):Bool:=match xs[j]?,ys[j]? with
 | some x,some y=>rW x y
 | _,_=>J
theorem GU:∀xs ys:List DT,deqs xs ys=((List.range (min ⇑xs ⇑ys)).all (uh xs ys)&&⇑xs == ⇑ys)
 | [],[]=>by simp[deqs]
 | [],_::_=>by simp[deqs]
 | _::_,[]=>by simp[deqs]
 | x::xs,y::ys=>by
  let e:min ⇑(x::xs) ⇑(y::ys)=min ⇑xs ⇑ys+1:=by simp only[rF];lia
  let c:∀j,uh (x::xs) (y::ys) (j+1)=uh xs ys j:=λj=>by simp[uh]
  let b:uh (x::xs) (y::ys) 0=rW x y:=by simp[uh]
  rw[deqs,GU xs ys,e,List.range_succ_eq_map,yE,b,List.all_map];let d:((λj=>uh (x::xs) (y::ys) j) ∘ Nat.succ)=uh xs ys:=by funext j;exact c j
  let a:(uh (x::xs) (y::ys) ∘ Nat.succ)=uh xs ys:=d;rw[a,Bool.and_assoc];simp
mutual
theorem ij.uniq {K:qj}{X:Cx}{q:AA}{σ:St}{H:Hp}{s:AE}(I:qb X q σ H s):∀(d e:DT)(v:V),ij X.K H d v->ij X.K H e v->rW d e=Y
 | .f w,.f u,v,h1,h2=>by
  unfold ij at h1 h2;let#[Z,hf]:=h1;let#[e,_]:=h2;subst e;unfold rW;exact Kd hf
 | .f w,.l ys,v,h1,h2=>by
  unfold ij at h1 h2;let#[Z,hf]:=h1;let#[a,c,Z,_]:=h2;exact NR (show J=Y from hf) qO
 | .f w,.t ys,v,h1,h2=>by
  unfold ij at h1 h2;let#[Z,hf]:=h1;let#[a,c,Z,_]:=h2;exact NR (show J=Y from hf) qO
 | .l xs,.f w,v,h1,h2=>by
  unfold ij at h1 h2;let#[Z,hf]:=h2;let#[a,c,Z,_]:=h1;exact NR (show J=Y from hf) qO
 | .t xs,.f w,v,h1,h2=>by
  unfold ij at h1 h2;let#[Z,hf]:=h2;let#[a,c,Z,_]:=h1;exact NR (show J=Y from hf) qO
 | .l xs,.l ys,v,h1,h2=>by
  unfold ij at h1 h2;let#[a,c,Z,g,h]:=h1;let#[b,p,e,f,j]:=h2;cases e;have:=I.list_inj g f;subst this;unfold rW;exact DatsOk.uniq (K:=K) I xs ys c h j
 | .t xs,.t ys,v,h1,h2=>by
  unfold ij at h1 h2;let#[a,c,Z,g,h]:=h1;let#[b,p,e,f,j]:=h2;cases e;have:=I.tuple_inj g f;subst this;unfold rW;exact DatsOk.uniq (K:=K) I xs ys c h j
 | .l xs,.t ys,v,h1,h2=>by
  unfold ij at h1 h2;let#[a,c,Z,g,h]:=h1;let#[b,p,e,f,j]:=h2;cases e;let#[_,_,#[o,n,l,m,_],_]:=I.list g;let#[_,_,#[r,i,k,_],_]:=I.tuple f;rw[l]at i;cases i;rw[m]at k;exact NR k {}
 | .t xs,.l ys,v,h1,h2=>by unfold ij at h1 h2;let#[a,c,Z,g,h]:=h1;let#[b,p,e,f,j]:=h2;cases e;let#[_,_,#[r,i,k,_],_]:=I.tuple g;let#[_,_,#[o,n,l,m,_],_]:=I.list f;rw[l]at i;cases i;rw[m]at k;calc NR k {}
theorem DatsOk.uniq {K:qj}{X:Cx}{b:AA}{σ:St}{H:Hp}{s:AE}(I:qb X b σ H s):∀(xs ys:List DT)(vs:NU),DatsOk X.K H xs vs->DatsOk X.K H ys vs->deqs xs ys=Y
 | [],[],vs,h1,h2=>by unfold deqs;rfl
 | [],y::ys,vs,h1,h2=>by
  unfold DatsOk at h1 h2;subst h1;let#[_,_,e,_]:=h2;cases e
 | x::xs,[],vs,h1,h2=>by
  unfold DatsOk at h1 h2;subst h2;let#[_,_,e,_]:=h1;cases e
 | x::xs,y::ys,vs,h1,h2=>by unfold DatsOk at h1 h2;let#[v,r,Z,a,d]:=h1;let#[h,g,e,f,c]:=h2;cases e;unfold deqs;rw[ij.uniq (K:=K) I x y v a f,DatsOk.uniq (K:=K) I xs ys r d c];rfl
end
section
open SeqAt
def Ed (d:tR w=Y)(r:ia w u)(a:s.heap.IsList l items)(c:A.units<cLine):EqAt A s u (.ref l) J/\EqAt A s (.ref l) u J/\RcAt A s u (.ref l) J/\RcAt A s (.ref l) u J/\RcNeAt A s u (.ref l) Y/\RcNeAt A s (.ref l) u Y:=by
 cases w with
 | non=>cases r;exact#[.none_list a c,.list_none a c,.none_list a c,.list_none a c,.none_list a c,.list_none a c]
 | bl b=>cases r;exact#[.bool_list b a c,.list_bool b a c,.bool_list b a c,.list_bool b a c,.bool_list b a c,.list_bool b a c]
 | int i=>let#[t,Z]:=r;exact#[.int_list i t a c,.list_int i t a c,.int_list i t a c,.list_int i t a c,.int_list i t a c,.list_int i t a c]
 | str i=>let#[t,Z]:=r;exact#[.str_list i t a c,.list_str i t a c,.str_list i t a c,.list_str i t a c,.str_list i t a c,.list_str i t a c]
 | _=>calc NR (show J=Y from d) qO
def ET (d:tR w=Y)(r:ia w u)(a:s.heap.IsTuple l items)(c:A.units<cLine):EqAt A s u (.ref l) J/\EqAt A s (.ref l) u J/\RcAt A s u (.ref l) J/\RcAt A s (.ref l) u J/\RcNeAt A s u (.ref l) Y/\RcNeAt A s (.ref l) u Y:=by
 cases w with
 | non=>cases r;exact#[.none_tuple a c,.tuple_none a c,.none_tuple a c,.tuple_none a c,.none_tuple a c,.tuple_none a c]
 | bl b=>cases r;exact#[.bool_tuple b a c,.tuple_bool b a c,.bool_tuple b a c,.tuple_bool b a c,.bool_tuple b a c,.tuple_bool b a c]
 | int i=>let#[t,Z]:=r;exact#[.int_tuple i t a c,.tuple_int i t a c,.int_tuple i t a c,.tuple_int i t a c,.int_tuple i t a c,.tuple_int i t a c]
 | str i=>let#[t,Z]:=r;exact#[.str_tuple i t a c,.tuple_str i t a c,.str_tuple i t a c,.tuple_str i t a c,.str_tuple i t a c,.tuple_str i t a c]
 | _=>calc NR (show J=Y from d) qO
def Kj {A:AH}{l b:AD}{c d:AC}{xs ys:List DT}(e:s.heap.IsList l ↑c)(f:s.heap.IsList b ↑d)(o:⇑c=⇑xs)(p:⇑d=⇑ys)(g:A.units<cLine)
  (n:∀j (q:j<⇑c) (r:j<⇑d),EqAt A.in1 s c[j] d[j] (uh xs ys j)):RcAt A s (.ref l) (.ref b) (deqs xs ys)/\RcNeAt A s (.ref l) (.ref b) (!deqs xs ys):=by
 rw[GU];by_cases m:⇑c=⇑d
 .let a:c.toArray.size=d.toArray.size:=by rw[rN,rN];exact m
  let h:((List.range (min ⇑xs ⇑ys)).all (uh xs ys)&&⇑xs == ⇑ys)=(List.range c.toArray.size).all (uh xs ys):=by
   have:⇑xs=⇑ys:=by lia
   rw[rN,o,<-this,Nat.min_self];simp
  rw[h];exact#[RcAt.lists e f a g λj i k=>by simpa using n j (~~~i) (~~~k),RcNeAt.lists e f a g λj i k=>by simpa using n j (~~~i) (~~~k)]
 .let h:((List.range (min ⇑xs ⇑ys)).all (uh xs ys)&&⇑xs == ⇑ys)=J:=by
   have:⇑xs≠⇑ys:=by lia
   simp[this]
  rw[h];let a:(c.toArray.size != d.toArray.size)=Y:=by rw[rN,rN];simpa using m
  calc#[RcAt.lists_lengths e f a g,RcNeAt.lists_lengths e f a g]
def Lj {A:AH}{l b:AD}{a c:AC}{xs ys:List DT}(f:s.heap.IsTuple l ↑a)(h:s.heap.IsTuple b ↑c)(n:⇑a=⇑xs)(m:⇑c=⇑ys)(i:A.units<cLine)
  (g:∀j (o:j<⇑a) (p:j<⇑c),EqAt A.in1 s a[j] c[j] (uh xs ys j)):RcAt A s (.ref l) (.ref b) (deqs xs ys)/\RcNeAt A s (.ref l) (.ref b) (!deqs xs ys):=by
 let k:deqs xs ys=((List.range (min a.toArray.size c.toArray.size)).all (uh xs ys)&&a.toArray.size == c.toArray.size):=by rw[GU,rN,rN,n,m]
 rw[k];calc#[RcAt.tuples f h i λj e d=>by simpa using g j (~~~e) (~~~d),RcNeAt.tuples f h i λj e d=>by simpa using g j (~~~e) (~~~d)]
mutual
theorem Zqx (I:qb X A1 σ H s):∀(d e:DT)(A:AH)(x y:V)(u v:Value),ij X.K H d x->ij X.K H e y->ia x u->ia y v->A.units+uA d<cLine->EqAt A s u v (rW d e)
 | .f w,.f w',A,x,y,u,v,h1,h2,ru,rv,hu=>by
  unfold ij at h1 h2;let#[Z,f1]:=h1;let#[Z,B]:=h2;unfold rW;exact LO ru rv f1 B
 | .f w,.l ys,A,x,y,u,v,h1,h2,ru,rv,hu=>by
  unfold ij at h1 h2;let#[Z,f1]:=h1;let#[a,h,Z,q,_]:=h2;cases rv;let#[c,_,p,_]:=I.list q;unfold rW;exact(Ed f1 ru p.isList (by unfold uA at hu;lia)).1
 | .f w,.t ys,A,x,y,u,v,h1,h2,ru,rv,hu=>by
  unfold ij at h1 h2;let#[Z,f1]:=h1;let#[a,h,Z,q,_]:=h2;cases rv;let#[c,_,p,_]:=I.tuple q;unfold rW;exact(ET f1 ru (show s.heap.IsTuple a ↑c from p) (by unfold uA at hu;lia)).1
 | .l xs,.f w,A,x,y,u,v,h1,h2,ru,rv,hu=>by
  unfold ij at h1 h2;let#[Z,f1]:=h2;let#[a,h,Z,q,_]:=h1;cases ru;let#[c,_,p,_]:=I.list q;unfold rW;exact(Ed f1 rv p.isList ∅).2.1
 | .t xs,.f w,A,x,y,u,v,h1,h2,ru,rv,hu=>by
  unfold ij at h1 h2;let#[Z,f1]:=h2;let#[a,h,Z,q,_]:=h1;cases ru;let#[c,_,p,_]:=I.tuple q;unfold rW;exact(ET f1 rv (show s.heap.IsTuple a ↑c from p) ∅).2.1
 | .l xs,.t ys,A,x,y,u,v,h1,h2,ru,rv,hu=>by
  unfold ij at h1 h2;let#[a,h,Z,q,_]:=h1;let#[b,n,Z,k,_]:=h2;cases ru;cases rv;let#[c,_,p,_]:=I.list q;let#[f,_,i,_]:=I.tuple k;unfold rW;exact EqAt.list_tuple p.isList (show s.heap.IsTuple b ↑f from i) ∅
 | .t xs,.l ys,A,x,y,u,v,h1,h2,ru,rv,hu=>by
  unfold ij at h1 h2;let#[a,h,Z,q,_]:=h1;let#[b,n,Z,k,_]:=h2;cases ru;cases rv;let#[c,_,p,_]:=I.tuple q;let#[f,_,i,_]:=I.list k;unfold rW;exact EqAt.tuple_list (show s.heap.IsTuple a ↑c from p) i.isList ∅
 | .l xs,.l ys,A,x,y,u,v,h1,h2,ru,rv,hu=>by
  by_cases g:x=y
  .subst g;rw[ij.uniq (K:=X.K) I (.l xs) (.l ys) x h1 h2];unfold ij at h1;let#[a,h,Z,_]:=h1;cases ru;cases rv;exact EqAt.same _
  .unfold ij at h1 h2;let#[a,h,Z,q,m]:=h1;let#[b,n,Z,k,o]:=h2;cases ru;cases rv;let#[c,r,p,_]:=I.list q;let#[f,l,i,_]:=I.list k;unfold rW;unfold uA at hu;calc EqAt.of_refs (λe=>g (by rw[e])) (Kj p.isList i.isList (by rw[<-⇑r,⇑m]) (by rw[<-⇑l,⇑o]) ∅ λj z t=>?_).1;exact Zey I xs ys A.in1 h n c f m o r l (by show A.units+1+_<_;lia) j z t
 | .t xs,.t ys,A,x,y,u,v,h1,h2,ru,rv,hu=>by
  by_cases g:x=y
  .subst g;rw[ij.uniq (K:=X.K) I (.t xs) (.t ys) x h1 h2];unfold ij at h1;let#[a,h,Z,_]:=h1;cases ru;cases rv;exact EqAt.same _
  .unfold ij at h1 h2;let#[a,h,Z,q,m]:=h1;let#[b,n,Z,k,o]:=h2;cases ru;cases rv;let#[c,r,p,_]:=I.tuple q;let#[f,l,i,_]:=I.tuple k;unfold rW;unfold uA at hu;calc EqAt.of_refs (λe=>g (by rw[e])) (Lj (show s.heap.IsTuple a ↑c from p) (show s.heap.IsTuple b ↑f from i) (by rw[<-⇑r,⇑m]) (by rw[<-⇑l,⇑o]) ∅ λj z t=>?_).1;calc Zey I xs ys A.in1 h n c f m o r l (by show A.units+1+_<_;lia) j z t
theorem Zey (I:qb X A1 σ H s):∀(xs ys:List DT)(A:AH)(vs ws:NU)(a b:AC),DatsOk X.K H xs vs->DatsOk X.K H ys ws->hJ vs a->hJ ws b->A.units+deps xs<cLine ->
  ∀(j:Nat)(c:j<⇑a)(d:j<⇑b),EqAt A s a[j] b[j] (uh xs ys j)
 | [],ys,A,vs,ws,a,b,d1,d2,r1,r2,hu,j,c,d=>by
  unfold DatsOk at d1;subst d1;cases r1;exact NR c (Nat.not_lt_zero _)
 | x::xs,[],A,vs,ws,a,b,d1,d2,r1,r2,hu,j,c,d=>by
  unfold DatsOk at d2;subst d2;cases r2;exact NR d (Nat.not_lt_zero _)
 | x::xs,y::ys,A,vs,ws,a,b,d1,d2,r1,r2,hu,j,c,d=>by
  unfold DatsOk at d1 d2;let#[v,vr,Z,a1,a2]:=d1;let#[w,i,Z,k,h]:=d2;unfold deps at hu;cases r1 with
  | cons l f=>
   cases r2 with
   | cons g e=>
    cases j with
    | zero=>
     have:=Zqx I x y A v w _ _ a1 k l g ∅;simpa [uh] using this
    | succ j=>
     have:=Zey I xs ys A vr i _ _ a2 h f e ∅ j (Nat.lt_of_succ_lt_succ c) (Nat.lt_of_succ_lt_succ d);simpa [uh] using this
end
def IP (I:qb X A1 σ H s){d e:DT}{A:AH}{x y:V}{u v:Value}(D:ij X.K H d x)(h:ij X.K H e y)(K:ia x u)(k:ia y v)(P:A.units+uA d<cLine)(Q:¬(tR x=Y/\tR y=Y)):
  RcAt A s u v (rW d e)/\RcNeAt A s u v (!rW d e):=by
 cases d with
 | f w=>
  unfold ij at D;let#[Z,n]:=D;cases e with
  | f T=>
   unfold ij at h;let#[Z,S]:=h;exact NR #[n,S] Q
  | l m=>
   unfold ij at h;let#[a,G,Z,q,_]:=h;cases k;let#[g,_,p,_]:=I.list q;let z:=Ed (A:=A) n K p.isList ∅;unfold rW;exact#[z.2.2.1,z.2.2.2.2.1]
  | t m=>
   unfold ij at h;let#[a,G,Z,q,_]:=h;cases k;let#[g,_,p,_]:=I.tuple q;let z:=ET (A:=A) n K (show s.heap.IsTuple a ↑g from p) ∅;unfold rW;exact#[z.2.2.1,z.2.2.2.2.1]
 | l M=>
  unfold ij at D;let#[a,G,Z,q,E]:=D;cases K;let#[g,r,p,_]:=I.list q;cases e with
  | f w=>
   unfold ij at h;let#[Z,n]:=h;let z:=Ed (A:=A) n k p.isList ∅;unfold rW;exact#[z.2.2.2.1,z.2.2.2.2.2]
  | l m=>
   unfold ij at h;let#[b,F,Z,o,C]:=h;cases k;let#[c,B,i,_]:=I.list o;unfold rW;unfold uA at P;exact Kj p.isList i.isList (by rw[<-⇑r,⇑E]) (by rw[<-⇑B,⇑C]) ∅ λj N L=>Zey I M m A.in1 G F g c E C r B (by show A.units+1+_<_;lia) j N L
  | t m=>
   unfold ij at h;let#[b,F,Z,o,C]:=h;cases k;let#[c,B,i,_]:=I.tuple o;unfold rW;exact#[RcAt.list_tuple p.isList (show s.heap.IsTuple b ↑c from i) ∅,RcNeAt.list_tuple p.isList (show s.heap.IsTuple b ↑c from i) ∅]
 | t M=>
  unfold ij at D;let#[a,G,Z,q,E]:=D;cases K;let#[g,r,p,_]:=I.tuple q;cases e with
  | f w=>
   unfold ij at h;let#[Z,n]:=h;let z:=ET (A:=A) n k (show s.heap.IsTuple a ↑g from p) ∅;unfold rW;exact#[z.2.2.2.1,z.2.2.2.2.2]
  | t m=>
   unfold ij at h;let#[b,F,Z,o,C]:=h;cases k;let#[c,B,i,_]:=I.tuple o;unfold rW;unfold uA at P;exact Lj (show s.heap.IsTuple a ↑g from p) (show s.heap.IsTuple b ↑c from i) (by rw[<-⇑r,⇑E]) (by rw[<-⇑B,⇑C]) ∅ λj N L=>Zey I M m A.in1 G F g c E C r B (by show A.units+1+_<_;lia) j N L
  | l m=>
   unfold ij at h;let#[b,F,Z,o,C]:=h;cases k;let#[c,B,i,_]:=I.list o;unfold rW;calc#[RcAt.tuple_list (show s.heap.IsTuple a ↑g from p) i.isList ∅,RcNeAt.tuple_list (show s.heap.IsTuple a ↑g from p) i.isList ∅]
end
def jC (K:qj)(a:Bool):R2:=λx y H Q=>(pT x y=Y/\Q (.bl (if a then !R (x=y) else R (x=y))) H) \/
 ∃d e,ij K H d x/\ij K H e y/\¬(tR x=Y/\tR y=Y)/\uA d<=60/\Q (.bl (if a then !rW d e else rW d e)) H
def Zpz (j:X.A.units+64<cLine):rV X (compareOp .Eq) (jC X.K J):=by
 intro f s σ H x y v u Q I b c h;rcases h with⟨a,q⟩|⟨d,e,a,g,i,k,q⟩
 .exact ZrT f s σ H x y v u Q I b c #[a,q]
 .exact(IP I a g b c ∅ i).1 _ _ _ _ #[.bl _,H,I,Z,q]
def Zpx (j:X.A.units+64<cLine):rV X (compareOp .NotEq) (jC X.K Y):=by
 intro f s σ H x y v u Q I b c h;rcases h with⟨a,q⟩|⟨d,e,a,g,i,k,q⟩
 .exact ZrR f s σ H x y v u Q I b c #[a,q]
 .exact(IP I a g b c ∅ i).2 _ _ _ _ #[.bl _,H,I,Z,q]
theorem GV {K:qj}{H:Hp}:∀ {vs:NU},vs.all tR=Y->DatsOk K H (vs.map DT.f) vs
 | [],_=>by unfold DatsOk;rfl
 | v::r,h=>by rw[yE,rB]at h;rw[rC];unfold DatsOk;calc#[v,r,Z,by unfold ij;calc#[Z,h.1],GV h.2]
def Nt (vs:NU):deps (vs.map DT.f)=0:=by
 induction vs with
 | nil=>rfl
 | cons v r a=>rw[rC];unfold deps;rw[a];rfl
def M3 (a b:p9):wa (tx a) (tx b)=R (tx a=tx b):=by
 rw[wN];show ((#[↑a]:Str) == #[↑b])=_;by_cases h:a=b
 .subst h;simp
 .rw[NN h];calc beq_eq_false_iff_ne.mpr λz=>h (Eh.mp (NQ V.str z))
def kT {K:qj}{H:Hp}{a:AD}{vs:NU}(h:rl K H a vs)(b:vs.all tR=Y):ij K H (.l (vs.map DT.f)) (.ref a):=by unfold ij;calc#[a,vs,Z,h,GV b]
def datT {K:qj}{H:Hp}{a:AD}{vs:NU}(h:sG K H a vs)(b:vs.all tR=Y):ij K H (.t (vs.map DT.f)) (.ref a):=by unfold ij;calc#[a,vs,Z,h,GV b]
end L2
namespace L2
open PySem PySem.Spec PyProof.Rows
open PySem.W (Frag findIn specialIn typeIn mroIn clsIn InstAt Looks)
def zp:AC:=[.type "ValueError",.type "Exception",.type "BaseException",.type "object"]
def JN:Value->Bool
 | .ref _=>Y
 | _=>J
noncomputable def jE (l:AC):Bool:=l.dropWhile JN == zp
theorem FH {P:AC->Prop}(b:P zp)(a:∀c r,P r->P (.ref c::r)):∀l:AC,jE l=Y->P l
 | [],e=>by simp[jE,zp]at e
 | v::r,e=>by
  cases hv:JN v with
  | true=>
   cases v with
   | ref c=>
    calc a c r (FH b a r ?_);unfold jE at e ⊢;rw[List.dropWhile_cons,qg hv]at e;exact e
   | _=>cases hv
  | false=>
   unfold jE at e;rw[List.dropWhile_cons,qe (by rw[hv];calc qO)]at e;rw[show (v::r)=zp by simpa using e];calc b
def ZjT (a:Value):refuseLoop a "__setattr__" zp=pure ():=by
 first | rfl | kernel_rfl
def Zlz (a:Value){l:AC}(e:jE l=Y):refuseLoop a "__setattr__" l=pure ():=
 FH (P:=λl=>refuseLoop a "__setattr__" l=pure ()) (ZjT a) (λc r h=>by rw[refuseLoop_ref];calc h) l e
def Bt (h:zp.contains (.type n)=b){l:AC}(e:jE l=Y):l.contains (.type n)=b:=
 FH (P:=λl=>l.contains (.type n)=b) h (λc r h=>by rw[zV,h];rfl) l e
structure Xc (K:Frag)(C:AD):Prop where
 ga:findIn K (.ref C) "__getattribute__"=U (U (.builtin "BaseException.__getattribute__"))
 gr:findIn K (.ref C) "__getattr__"=U O
 sa:findIn K (.ref C) "__setattr__"=U (U (.builtin "object.__setattr__"))
 hd:hasDictIn K C=Y
 mr:(clsIn K C).any (λcd=>jE cd.mro)=Y
def Kw (e:jE l=Y):l.isEmpty=J:=by
 cases l with
 | nil=>simp[jE,zp]at e
 | cons _ _=>rfl
def Xc.base {K:Frag}{C:AD}(c:Xc K C){n:String}{b:Bool}(h:zp.contains (.type n)=b):mroIn K C (.type n)=U b:=by let#[e,d,a]:=zF c.mr;unfold mroIn;rw[d,Bc,qe (by rw[Kw a];calc qO),Bt h a]
noncomputable def xo (a C:AD)(d:Option AD):HO:=.ext λh=>∃(o:Obj)(t:AD),h.get? a=U o/\o.cls=.ref C/\o.dict=d/\o.data=.fields ↑[.ref t,.none,.none,.none,.bool J,.none]
def B9 (d:AD)(fs:List (Str×V)):HO:=.ext λh=>⇑fs<=1000/\∃a,h.Ns1 d a/\(∀f,iT (fs.lookup f) (a f))/\PySem.Within a (fs.map (·.1))
inductive vi (H:Hp)(e C:AD):List (Str×V)->Prop where
 | bare:H e=U (xo e C O)->vi H e C []
 | full {d:AD} {fs:List (Str×V)}:H e=U (xo e C (U d))->H d=U (B9 d fs)->d≠e->vi H e C fs
def ZoH (h:H a=U o):upd H a o=H:=by
 funext b;unfold upd;by_cases c:b=a
 .rw[qg c,c,h]
 .rw[qe c]
section
def zc (I:qb X A1 σ H s)(h:H e=U (xo e C d)):∃(o:Obj)(t:AD),s.heap.get? e=U o/\o.cls=.ref C/\o.dict=d/\o.data=.fields ↑[.ref t,.none,.none,.none,.bool J,.none]:=(I.hok e _ h).1
def Hs (c:h.get? e=U o)(j:o.cls=.ref C)(g:o.dict=d)(f:o.data=.fields ↑[.ref t,.none,.none,.none,.bool J,.none]):iA P w H h e (xo e C d):=
 #[#[o,t,c,j,g,f],#[o,c],λa b ⟨o,t,i,q⟩ k=>#[o,t,k o i,q]]
def GK (c:⇑fs<=1000)(i:h.Ns1 d mA)(n:∀f,iT (fs.lookup f) (mA f))(j:PySem.Within mA (fs.map (·.1))):iA P w H h d (B9 d fs):=by let#[o,g,e,l,r]:=id i;calc#[#[c,mA,i,n,j],#[o,l],λa b ⟨c,m,⟨o,g,e,q,r⟩,z⟩ k=>#[c,m,#[o,g,e,k o q,r],z]]
def vi.inst (I:qb X A1 σ H s)(x:vi H e C fs):∃(ox:Obj)(od:Option Obj),InstAt s.heap e ox C od/\∀name,∃r,(match od with | some o=>lookIn name o | none=>U O)=U r/\iT (fs.lookup name) r:=by
 cases x with
 | bare h=>
  let#[o,t,f,g,c,a]:=zc I h;exact#[o,O,#[f,g,by unfold notCls;rw[a],by rw[c];trivial],λname=>#[O,Z,by trivial]]
 | @full d _ h i j=>
  let#[o,t,f,g,c,a]:=zc I h;let#[#[_,m,n,l,_],_]:=I.hok d _ i;let#[od,b,k]:=GL n;calc#[o,U od,#[f,g,by unfold notCls;rw[a],by rw[c];calc b],λname=>#[m name,k name,l name]]
def J0:entryFor table "BaseException.__getattribute__"=U Builtin.«object.__getattribute__»:=F.entry_bexc_ga
def ZiG {K:Frag}{x:AD}{ox:Obj}{od:Option Obj}{name:Str}{e:Bool}{u:Value}{prog:AG}{w:AI}{Q:rh}(f:K.In s.heap)(I:InstAt s.heap x ox C od)(c:Xc K C)
  (m:findObj K C od name=U (.value u)) (k:handedIn u=Y) (h:Q u { s with toks:=s.toks+1 }):wpAny (model prog w) A (getAttr (.ref x) name e) Q E s:=by
 let#[p,g,d,t,l]:=s;let j:=I.type (M:=model prog w);let r:=zu (M:=model prog w) f c.ga;let L2:=zu (M:=model prog w) f c.gr;let o:=looks_find (M:=model prog w) f I m;let q:=looks_mroIn (M:=model prog w) f (c.base (n:="BaseException") (b:=Y) nofun);let i:(Value.builtin "BaseException.__getattribute__" == Value.builtin "object.__getattribute__")=J:=by decide +kernel
 let a:=F.excAttr_ValueError.ga;unfold getAttr getAttrBy;calc qd (wpAny_mkText (uI (qd (j.at (qd (r.at ?_))))));dsimp only;rw[i,yX,qe qO];unfold getAttrByItsOwn hookBefore;calc qd ?_;show wpAny _ _ (if onTheHeap (Value.ref C)=Y then typeLookup (.ref C) "__getattr__" else pure O) _ _ _;rw[qg (show onTheHeap (Value.ref C)=Y from Z)];calc L2.at (qd (zf (uI ?_)));unfold callGetattribute;rw[show (e&&onTheHeap (Value.builtin "BaseException.__getattribute__"))=J from yX _,qe qO];unfold boundAndCalled;rw[a.bind];calc qd (qv ?_);show wpAny _ _ (call (.builtin "BaseException.__getattribute__") [.ref x,.str name t]) _ _ _;calc vY (codeAny_call_builtin a.plain J0 ?_);calc @check_slot (model prog w) _ _ #[p,g,d,t+1,l] "BaseException.__getattribute__" "BaseException" "__getattribute__" (.ref x) [.str name t] [] _ nofun nofun (j.andThen q) (F.args_bexc_ga (.ref x) (.str name t)) ?_;calc qd (qv (qd (qv (qd (j.at (qd (o.at (qv ?_))))))));show wpAny _ _ (handedOut u) _ _ _;rw[PySem.W.handedOut_of k];calc qv h
def xset (I:qb X A1 σ H s)(x:vi H e C fs)(c:Xc X.K C)(n:ik X.K C f)(hz:⇑fs<1000)(ry:ia y u)
  (h:∀s' H',qb X A1 σ H' s'->vi H' e C (iq f y fs)->(∀b o,H b=U o->b≠e->(∀d,H e=U (xo e C (U d))->b≠d)->H' b=U o) ->
   (∃d,H' e=U (xo e C (U d))/\(H e=U (xo e C (U d))\/H d=O))->Q () s'):wpAny (model X.prog X.w) A (setAttr (.ref e) f u) Q E s:=by
 let#[ox,od,G,hr]:=x.inst I;let#[cd,hc,S]:=zF c.hd;let#[aj,V,hm]:=zF c.mr;rw[hc]at V;cases V;calc set_plain I.kIn G c.sa ?_;let SF:=PySem.F.store_object;let ak:=Kw hm;let KX:X.K.In ({ s with toks:=s.toks+1 }:AE).heap:=I.kIn;let J1:InstAt ({ s with toks:=s.toks+1 }:AE).heap e ox C od:=G;let L1:Looks (model X.prog X.w) s.heap (mroOf (.ref C)) cd.mro:=(looks_clsIn I.kIn hc).andThen .now;let ad:Looks (model X.prog X.w) s.heap (isInstance (.ref e) (.type "object")) Y:=G.type.andThen (looks_mroIn I.kIn (c.base (n:="object") (b:=Y) nofun));calc codeAny_call_builtin SF.slot.plain SF.entry (@check_slot (model X.prog X.w) _ _ { s with toks:=s.toks+1 } "object.__setattr__" "object" "__setattr__" (.ref e) [.str f s.toks,u] [] _ SF.kind SF.split ad (SF.args (.ref e) (.str f s.toks) u) ?_);rw[osa_eq,refuse_eq];calc qd (qd (Looks.here (s:={ s with toks:=s.toks+1 }) G.type (qd (Looks.here (s:={ s with toks:=s.toks+1 }) L1 ?_))));rw[Zlz _ hm];calc qv (qd (Looks.here (s:={ s with toks:=s.toks+1 }) G.type (qd (Looks.here (s:={ s with toks:=s.toks+1 }) (zu I.kIn n) (qd (qv ?_))))));dsimp only;calc qd (qv (qd (qd ?_)));let LC:=looks_clsIn (M:=model X.prog X.w) I.kIn hc;cases x with
 | bare r=>
  let#[o,t,D,T,K,F]:=zc I r;let#[oc,ah,ai,P]:=o;dsimp only at T K F;subst T K F;calc wpAny_loadPart D (qd (Looks.here (s:={ s with toks:=s.toks+1 }) LC ?_));rw[S];calc qd (wpAny_alloc (qd (wpAny_update (qU _ D) (qv ?_))));dsimp only;calc qd (qv (qd ?_));let BB:e<↥s:=qQ D;let L:=I.fresh;let j:↥s≠e:=Nat.ne_of_gt BB;let ee:(s.heap.push emptyDict).get? ↥s=U emptyDict:=rS s.heap Z;let e2:((s.heap.push emptyDict).update e λo=>{ o with dict:=U ↥s }).get? e=U #[.ref C,U ↥s,.fields ↑[.ref t,.none,.none,.none,.bool J,.none],P]:=xD _ (qU _ D) Z;let e3:((s.heap.push emptyDict).update e λo=>{ o with dict:=U ↥s }).get? ↥s=U emptyDict:=by rw[wj _ _ (qy j)];exact ee
  let ns:((s.heap.push emptyDict).update e λo=>{ o with dict:=U ↥s }).Ns ↥s (λ_=>O):=#[emptyDict,↑[],_,e3,Z,(λe he=>NR he {}),λ_=>rfl];let ac:=Heap.Ns1.of_empty ns;let I1:=I.laid (a:=↥s) (o:=B9 ↥s []) (h':=s.heap.push emptyDict) (t':=s.toks+1) (λb u q=>qU _ q) (qG _)
   (GK (fs:=[]) (rM _) (Heap.Ns1.of_empty (h:=s.heap.push emptyDict) #[emptyDict,↑[],_,ee,Z,(λe he=>NR he {}),λ_=>rfl]) (λ_=>by trivial) (λy hy=>NR Z hy))
  let I2:=I1.write (x:=e) (e:=e) (o:=xo e C (U ↥s)) (h':=(s.heap.push emptyDict).update e λo=>{ o with dict:=U ↥s }) (t':=s.toks+1)
   (by rw[qh (qy j),r];calc trivial) (.inl Z) (λb u p q=>by rw[wj _ _ (qy p)];calc q) #[_,e2] (Hs e2 Z Z Z)
  calc wpAny_nsSet1 (s:={ s with heap:=(s.heap.push emptyDict).update e λo=>{ o with dict:=U ↥s },toks:=s.toks+1 }) ac λh' m v=>?_;let N:PySem.Within (λx=>if x=f then U u else O) [f]:=λz hz=>by
   by_cases q:z=f
   .rw[q];exact sA
   .exact NR (qe q) hz
  let#[oD,ae,ab,l,B,w]:=m.count N;calc qd (wpAny_lookBehind l (by rw[B];calc pastItsLine_dict (qJ w (by rw[r6,sizeLine_eq];decide))) ?_);refine qv (h _ _ (I2.write (x:=↥s) (e:=↥s) (o:=B9 ↥s [(f,y)]) (h':=h') (t':=s.toks+1+1) ?_ (.inl Z) (λb u' i q=>(v.2 b i).trans q) #[oD,l] (GK (by show 1<=1000;decide) m ?_ N)) ?_ ?_ #[_,(by rw[qh (qy j),qu]),.inr L])
  .rw[qh j,qu];exact trivial
  .intro g;show iT (List.lookup g [(f,y)]) (if g=f then U u else O);by_cases q:g=f
   .rw[qg q,q];simp[vR];exact ry
   .let ag:(g == f)=J:=by simpa using q
    rw[qe q];simp[vR,ag];trivial
  .refine .full (d:=↥s) (by rw[qh (qy j),qu]) ?_ j;rw[qu];rfl
  .intro b o' i p _;let nb:b≠↥s:=qN i L;rw[qh nb,qh p,qh nb];exact i
 | @full d _ r W k=>
  let#[o,t,D,T,K,F]:=zc I r;let#[oc,ah,ai,P]:=o;dsimp only at T K F;subst T K F;let#[#[al,mA,hn,af,N],_]:=I.hok d _ W;calc wpAny_loadPart D (qd (Looks.here (s:={ s with toks:=s.toks+1 }) LC ?_));rw[S];calc qv ?_;dsimp only;calc qd (qv (qd ?_));calc wpAny_nsSet1 (s:={ s with toks:=s.toks+1 }) hn λh' m v=>?_;let#[oD,ae,ab,l,B,w]:=m.count (PySem.Within.cons f u N);calc qd (wpAny_lookBehind l (by rw[B];calc pastItsLine_dict (qJ w (by rw[rF,qm,sizeLine_eq];lia))) ?_);refine qv (h _ _ (I.write (x:=d) (e:=d) (o:=B9 d (iq f y fs)) (h':=h') (t':=s.toks+1+1) (by rw[W];calc trivial) (.inl Z) (λb u' i q=>(v.2 b i).trans q) #[oD,l] (GK ?_ m ?_ ?_)) ?_ ?_ #[d,(by rw[qh (qy k)];calc r),.inl r])
  .have:=HF f y fs;lia
  .intro g;show iT ((iq f y fs).lookup g) (if g=f then U u else mA g);rw[sD];by_cases q:g=f
   .rw[qg q,qg q];exact ry
   .rw[qe q,qe q];exact af g
  .intro g hg;by_cases q:g=f
   .rw[q];exact(CU f y fs).1
   .refine(CU f y fs).2 g (N g λz=>hg ?_);show (if g=f then U u else mA g)=O;rw[qe q];exact z
  .exact .full (d:=d) (by rw[qh (qy k)];calc r) qu k
  .intro b o' i p aa;rw[qh (aa d r)];calc i
end
abbrev jz (C t:AD):Obj:={ cls:=.ref C,data:=.fields ↑[.ref t,.none,.none,.none,.bool J,.none] }
abbrev jM (vs:AC):Obj:={ cls:=.type "tuple",data:=.seq ↑vs }
structure Xm (K:Frag)(C:AD):Prop where
 c:Xc K C
 ob:∃(nm q:Str)(N:AD)(bs bm:AC)(A8:Bool)(sn:AJ)(sub:AC)(ab:Bool)(col:Option Bool)(dd:Option AD)(k0 k1 k2 k3 k5:Option Value),
  K.lookup C=U (excClassObj nm q C N bs bm A8 sn sub ab col dd k0 k1 k2 k3 k5 "ValueError.__new__")
 kp:keepIn K (.ref C)=Y
section
variable {prog:AG}{w:AI}{A:AH}{E:rh}{h:Heap}{g:Array GenState}{d:Drawn}{t:Nat}{os:OsState}{K:Frag}
variable {nm q:Str}{C N:AD}{bs bm:AC}{A8:Bool}{sn:AJ}{sub:AC}{ab:Bool}{col:Option Bool}{dd:Option AD}{k0 k1 k2 k3 k5:Option Value}
def ZiF {M:Model}{iI:AC}{Q:Unit->AE->Prop}(i:jE (.ref C::bm)=Y)(c:h.get? C=U (excClassObj nm q C N bs bm A8 sn sub ab col dd k0 k1 k2 k3 k5 "ValueError.__new__"))
  (j:Q () #[h,g,d,t,os]):wpAny M A (checkBuiltinCall "ValueError.__new__" #[.ref C::iI,[]]) Q E #[h,g,d,t,os]:=by
 let a:=Es;let f:=Bt (n:="ValueError") (b:=Y) nofun i;let e:=a.noStar;simp only[checkBuiltinCall,a.newKind,a.newSplit,a.newRow];repeat (first | calc wM c ?_ | (calc Ds c ?_;rw[f]) | calc wpAny_staticBase_exc c ?_ | calc wpAny_madeBy_exc c ?_ | simp only[bne_self_eq_false,yY,if_false] | wp_step)
 calc j
def xnew {R_:Result->AE->Prop}{iI:AC}(f:jE (.ref C::bm)=Y)(i:h.get? C=U (excClassObj nm q C N bs bm A8 sn sub ab col dd k0 k1 k2 k3 k5 "ValueError.__new__"))
  (o:R_ (.ok (.ret (.ref (h.objs.size+1)))) #[(h.push (jM iI)).push (jz C h.objs.size),g,d,t,os]) (k:⇑iI<=sizeLine):
  codeAny (model prog w) A (.builtin "ValueError.__new__" #[.ref C::iI,[]]) R_ #[h,g,d,t,os]:=by
 let a:=Es;let c:=a.ends;let l:=Bt (n:="ValueError") (b:=Y) nofun f;let m:=Bt (n:="AttributeError") (b:=J) nofun f;let j:=Bt (n:="NameError") (b:=J) nofun f;calc codeAny_builtinAt a.entry ?_;unfold Builtin.«BaseException.__new__»;calc PySem.wpAt_bind ?_;show PySem.wpAt _ _ _ (stack >>= _) _ _ _;refine PySem.wpAt_bind (PySem.wpAt_stack λp e=>PySem.wpAt_of_wpAny ?_)
 wp_walk
 calc PySem.wpAt_of_wpAny ?_;rw[a.owner];repeat (first | with_reducible calc wpAny_madeHere_exc a.canon i ?_ | with_reducible calc wM i ?_ | (with_reducible calc Ds i ?_;first | rw[l] | rw[m] | rw[j]) | wp_step)
 show R_ _ _;rw[vD];calc o
def Jw {R_:Result->AE->Prop}{iI:AC}{a:Value}(H:K.In h)(n:jE (.ref C::bm)=Y)(f:h.get? C=U (excClassObj nm q C N bs bm A8 sn sub ab col dd k0 k1 k2 k3 k5 "ValueError.__new__"))
  (y:Looks (model prog w) h (typeLookup (.ref C) "__init__") (U a)) (s:∀i,Looks (model prog w) h (bindSpecial a i) (a,[i])) (j:⇑iI<=sizeLine)
  (u:codeAny (model prog w) (A.under (.builtin "type.__call__" #[.ref C::iI,[]])) (.call a #[.ref (h.objs.size+1)::iI,[]]) (PySem.W.InitBack (h.objs.size+1) R_) #[(h.push (jM iI)).push (jz C h.objs.size),g,d,t,os]):
  codeAny (model prog w) A (.call (.ref C) #[iI,[]]) R_ #[h,g,d,t,os]:=by
 let F:=tc_lookup;let I:=tc_bind (.ref C);let G:(#[h,g,d,t,os]:AE).TypeIs (.ref C) "type":=#[_,f,Z];let B:=Es;calc codeAny_of_tree ?_;show wpAny _ _ (callAny (.ref C) _) _ _ _;repeat (any_goals (first | assumption | with_reducible calc wM f ?_ | wp_step))
 calc#[Z,?_];calc codeAny_call_builtin_at (Code.quiet_builtin _ nofun) entry_typeCall (wpAny_check_type_call_sub f ?_);repeat (first | with_reducible calc wM f ?_ | with_reducible calc wpAny_madeBy_exc f ?_ | wp_step)
 calc codeAny_call_builtin_code (Code.quiet_builtin _ B.quiet) (ZiF n f ?_);calc xnew n f ?_ j;show wpAny _ _ _ _ _ _;let k:∀b o,h.get? b=U o->((h.push (jM iI)).push (jz C h.objs.size)).get? b=U o:=λb o e=>qU _ (qU _ e);let l:=k _ _ f;let c:((h.push (jM iI)).push (jz C h.objs.size)).get? (h.objs.size+1)=U { cls:=.ref C,data:=.fields ↑[.ref h.objs.size,.none,.none,.none,.bool J,.none] }:=by heap_get
 let m:(Value.ref C::bm).contains (.ref C)=Y:=by simp
 let p:=y.keeps k;let x:=(s (.ref (h.objs.size+1))).keeps k;let E:Looks (model prog w) ((h.push (jM iI)).push (jz C h.objs.size)) (typeOf (.ref (h.objs.size+1))) (.ref C):=(Looks.ld c).andThen .now;unfold isInstance;repeat (first | with_reducible calc wM c ?_ | (with_reducible calc Ds l ?_;rw[m]) | wp_step)
 calc Ds l ?_;rw[m];repeat (first | with_reducible calc wM c ?_ | wp_step)
 show wpAny _ _ (typeLookup (.ref C) _) _ _ _;calc p.at (uI (qd (x.at ?_)));calc qd (vY ?_);calc codeAny_mono u λr D z=>?_;rcases r with e | (v | _ | _ | _)<;>first | exact z | exact z.elim | skip
 let#[Z,z]:=z;calc qv (qv z)
end
section
def qb.xmade (I:qb X A1 σ H s):qb X A1 σ (upd H (↥s+1) (xo (↥s+1) C O)) { s with heap:=(s.heap.push (jM us)).push (jz C ↥s) }:=by
 let d:qb X A1 σ H { s with heap:=s.heap.push (jM us) }:=I.kept (t':=s.toks) λb o e=>qU _ e;let c:((s.heap.push (jM us)).push (jz C ↥s)).get? (↥s+1)=U (jz C ↥s):=by
  have:=rS (s.heap.push (jM us)) (o:=jz C ↥s) Z
  rwa [vD]at this
 calc d.laid (a:=↥s+1) (t':=s.toks) (λb u q=>qU _ q) (vK (vD _ _)) (Hs c Z Z Z)
def No (I:qb X A1 σ H s)(m:Xm X.K C)(r:H e=U (xo e C d))(hz:⇑us<=sizeLine)(A:AH)
    (h:∀s',qb X A1 σ H s'->R_ (.ok (.ret .none)) s'):codeAny (model X.prog X.w) A (.call (.builtin "ValueError.__init__") #[.ref e::us,[]]) R_ s:=by
  let j:=Es;let c:=m.c;let#[nm,qn,N,bs,bm,A8,sn,G,ab,S,dd,k0,W,k2,k3,k5,K]:=m.ob;let y:=I.kIn _ _ K;let#[o,t,p,D,z,v]:=zc I r;let#[oc,T,V,P]:=o;dsimp only at D z v;subst D z v;let L:Looks (model X.prog X.w) s.heap (isInstance (.ref e) (.type "ValueError")) Y:=((Looks.ld p).andThen .now).andThen (looks_mroIn I.kIn (c.base (n:="ValueError") (b:=Y) nofun));let#[i,g,B,k,w]:=s;calc codeAny_call_builtin j.init.plain j.initEntry ?_;let l:=j.noStar;simp only[checkBuiltinCall,j.initKind,j.initSplit,j.initRow];calc qd (L.at ?_);simp only[Bool.not_true,yY,if_false];let fin:wpAny (model X.prog X.w) A.in1 (Builtin.«BaseException.__init__» #[.ref e::us,[]]) (λfin s'=>match fin with | .done f=>R_ (.ok f) s' | .again c'=>c'.quiet=Y/\codeAny (model X.prog X.w) A c' R_ s') (λe s'=>R_ (.error e) s') #[i,g,B,k,w]:=by
    let BB:e<i.objs.size:=qQ p
    wp_walk
    calc h _ ?_;let Q:qb X A1 σ H { (#[i,g,B,k,w]:AE) with heap:=i.push (jM us) }:=I.kept (t':=k) λb o e=>qU _ e;let F:=xD (Obj.mapFields (·.setIfInBounds 0 (Value.ref i.objs.size))) (qU (h:=i) (jM us) p) Z;let E:=Q.write (x:=e) (e:=e) (o:=xo e C T) (h':=(i.push (jM us)).update e (Obj.mapFields (·.setIfInBounds 0 (Value.ref i.objs.size)))) (t':=k) (by rw[r];calc trivial) (.inl Z)
      (λb u M q=>by rw[wj _ _ (qy M)];calc q) #[_,F] (Hs F Z Z Z)
    rw[ZoH r]at E;exact E
  repeat (first | with_reducible calc wM y ?_ | (with_reducible calc wpAny_load y ?_) | with_reducible calc wM p ?_ | wp_step)
  first
    | (refine wpAny_onRaise ?_
       rw[show ∀(a b:String)(n:Nat),Bind.check #[.positional,"*","ValueError",.self,[#["args",.varPos,J]]] a b n (List.map (λx=>x.fst) ({ pos:=Value.ref e::us }:Args).kw)=pure () from λa b n=>check_star_args _ _ _ _ _ _];calc qv fin)
    | skip
end
structure Xi (K:Frag)(C:AD):Prop where
 c:Xc K C
 ha:findIn K (.ref C) "__class__"=U (U (.builtin "object.__class__"))
 hn:specialIn K (.builtin "object.__class__") "__get__"=U (U (.builtin "getset_descriptor.__get__"))
 htk:takesIn K (.builtin "object.__class__")=U Y
section
variable {K:Frag}{x C:AD}{ox:Obj}{od:Option Obj}{prog:AG}{w:AI}{A:AH}{E:rh}{s:AE}
def ZoF (i:Xi K C)(e:K.In s.heap)(I:InstAt s.heap x ox C od)(h:Q (U (.ref C)) { s with toks:=s.toks+1 }):wpAny (model prog w) A (getAttr? (.ref x) "__class__") Q E s:=by
 let c:=i.c;let m:findObj K C od "__class__"=U (.bind (.builtin "getset_descriptor.__get__") (.builtin "object.__class__")):=by let#[v,p,_]:=zF c.hd;unfold findObj;rw[p,i.ha];simp only[Bc,i.hn,i.htk]
 let#[l,g,d,t,k]:=s;let j:=I.type (M:=model prog w);let u:=zu (M:=model prog w) e c.ga;let L2:=zu (M:=model prog w) e c.gr;let o:=looks_find (M:=model prog w) e I m;let r:=looks_mroIn (M:=model prog w) e (c.base (n:="BaseException") (b:=Y) nofun);let q:=c.base (n:="object") (b:=Y) nofun;let f:(Value.builtin "BaseException.__getattribute__" == Value.builtin "object.__getattribute__")=J:=by decide +kernel
 let a:=F.excAttr_ValueError.ga;unfold getAttr? getAttrBy?;calc qd (wpAny_mkText (qd (zf ?_)));unfold getAttrBy;calc uI (qd (j.at (qd (u.at ?_))));dsimp only;rw[f,yX,qe qO];unfold getAttrByItsOwn hookBefore;calc qd ?_;show wpAny _ _ (if onTheHeap (Value.ref C)=Y then typeLookup (.ref C) "__getattr__" else pure O) _ _ _;rw[qg (show onTheHeap (Value.ref C)=Y from Z)];calc L2.at (qd (zf (uI ?_)));unfold callGetattribute;rw[show (J&&onTheHeap (Value.builtin "BaseException.__getattribute__"))=J from Z,qe qO];unfold boundAndCalled;rw[a.bind];calc qd (qv ?_);show wpAny _ _ (call (.builtin "BaseException.__getattribute__") [.ref x,.str "__class__" t]) _ _ _;calc vY (codeAny_call_builtin a.plain J0 ?_);calc @check_slot (model prog w) _ _ #[l,g,d,t+1,k] "BaseException.__getattribute__" "BaseException" "__getattribute__" (.ref x) [.str "__class__" t] [] _ nofun nofun (j.andThen r) (F.args_bexc_ga (.ref x) (.str "__class__" t)) ?_;calc qd (qv (qd (qv (qd (j.at (qd (o.at ?_)))))));show wpAny _ _ (holding [.builtin "object.__class__"] (call (.builtin "getset_descriptor.__get__") [.builtin "object.__class__",.ref x,.ref C]) >>= ret) _ _ _;calc qd (uI (vY (PySem.W.class_get (s:=#[l,g,d,t+1,k]) (ox:=ox) (od:=od) e I q (qv ?_))));calc PySem.W.handed_on Z (qv h)
def JR (i:Xi K C):PySem.W.KitX K (.ref x) (.ref C) (λh=>InstAt h x ox C od) where
 ty:=λ_ _ _ I=>I.type
 it:=λ_ _ b _=>by
  let#[g,a,_]:=zF i.c.hd;unfold clsIn at a;split at a
  .rename_i d
   intro m j l p k q;unfold isType loadHead;exact qd (wpAny_loadPart (k _ _ (b _ _ d)) (qv q))
  .cases a
 ne:=λh tp dd f n o b c=>by
  let#[g,a,_]:=zF i.c.hd;calc yI.mpr λq=>?_;let e:C=tp:=Value.ref.inj (beq_iff_eq.mp q);subst e;unfold clsIn at a;split at a
  .rename_i d
   let z:=(b _ _ d).symm.trans c;cases z
  .cases a
 ca:=λb I k=>ZoF i b I k
end
inductive BI (K:Frag)(H:Hp):V->Value->Prop where
 | pl {x:V} {t:Value} (h:ju K H x t):BI K H x t
 | seqL {a:AD} {xs:NU} (h:rl K H a xs):BI K H (.ref a) (.type "list")
 | seqT {a:AD} {xs:NU} (h:sG K H a xs):BI K H (.ref a) (.type "tuple")
 | exc {e C:AD} {fs:List (Str×V)} (x:vi H e C fs) (i:Xi K C):BI K H (.ref e) (.ref C)
noncomputable def clsV:V->Option Value
 | .ref a=>U (.ref a)
 | .ty n=>U (.type n)
 | _=>O
def ZhL:ud X (.builtin "isinstance") (λxs H Q=>∃x c t k b,xs=[x,c]/\clsV c=U k/\BI X.K H x t/\kitOne X.K t k=U b/\Q (.bl b) H):=by
 rintro B s σ H xs C Q I r ⟨x,c,t,k,b,rfl,l,ty,e,q⟩;let#[u,v,Z,d,p]:=r.two;let w:v=k:=by
  cases c with
  | ref a=>cases l;exact p
  | ty n=>cases l;exact p
  | _=>cases l
 subst w;cases ty with
 | pl ty=>exact ZkD I d ty e λf=>#[.bl b,H,I.tok _,Z,q]
 | seqL h=>
  cases d;let#[g,_,#[o,n,m,j,_],_]:=I.list h;exact u4 kitx_list I.kIn #[o,m,j] e (λz=>nomatch z) λf=>#[.bl b,H,I.tok _,Z,q]
 | seqT h=>
  cases d;let#[g,_,#[o,m,j,_],_]:=I.tuple h;exact u4 kitx_tuple I.kIn #[o,m,j] e (λz=>nomatch z) λf=>#[.bl b,H,I.tok _,Z,q]
 | exc x i=>
  cases d;let#[D,A,y,_]:=x.inst I;calc u4 (JR i) I.kIn y e (λz=>nomatch z) λf=>#[.bl b,H,I.tok _,Z,q]
def My (K:Frag)(h g:TE)(f:Str):TS:=λD σ H=>g σ H λy i=>h σ i λx a=>∃e C fs,x=.ref e/\vi a e C fs/\Xc K C/\ik K C f/\⇑fs<1000 /\
 ∀c,vi c e C (iq f y fs)->(∀b o,a b=U o->b≠e->(∀d,a e=U (xo e C (U d))->b≠d)->c b=U o)->(∃d,c e=U (xo e C (U d))/\(a e=U (xo e C (U d))\/a d=O))->D.nx σ c
def LZ (K:Frag)(C:AD)(t:TA):TE:=λσ H Q=>t σ H λb a=>⇑b<=1000/\∀e,a e=O->Q (.ref e) (upd a e (xo e C O))
def LI (C:AD)(sp:Sp)(E:XK)(t:TA):TE:=λσ H Q=>t σ H λb a=>⇑b<=1000/\∀e,a e=O->sp (.ref e::b) (upd a e (xo e C O)) (λv c=>v=.non/\Q (.ref e) c) E
section
def KD (m:PE X o ta)(z:PE X value tv)(A:swapsWith value (U (.Attribute o f pos')) pos.line X.env=pure J):PS X (.Assign [.Attribute o f pos'] value pos) (My X.K ta tv f):=by intro b s σ H D I h;calc plainObj_wpAny_Assign_Attribute (qx (z b s σ H _ I h) λu K ⟨y,r,v,p,q⟩=>qx (m b K σ r _ v q) λB L e=>?_) A;let#[x,N,E,F,a,C,M,i,t,c,n,l,G]:=e;subst i;obtain rfl:B=Value.ref a:=F;calc xset E t c n l p λP d w g k j=>#[σ,d,w,G d g k j]
def Xm.parts {K:Frag}{C:AD}(m:Xm K C):∃(n q:Str)(N:AD)(g c:AC)(i:Bool)(f:AJ)(b:AC)(d:Bool)(a:Option Bool)(dd:Option AD)(o e l h j:Option Value),
  K.lookup C=U (excClassObj n q C N g c i f b d a dd o e l h j "ValueError.__new__")/\jE (.ref C::c)=Y:=by
 let#[n,r,N,g,c,i,f,b,d,a,dd,o,e,l,h,j,p]:=m.ob;calc#[n,r,N,g,c,i,f,b,d,a,dd,o,e,l,h,j,p,?_];let k:=m.c.mr;unfold clsIn at k;rw[p]at k;calc k
def ZiR (m:Xm X.K C)(o:findIn X.K (.ref C) "__init__"=U (U (.builtin "ValueError.__init__")))(I:qb X A1 σ H s)(j:⇑us<=1000)
  (h:∀e,H e=O->Q (.ref e) (upd H e (xo e C O))):wpAny (model X.prog X.w) X.A (call (.ref C) us) (EP X A1 σ Q) X.xe s:=by
 let#[E,L,N,D,G,M,w,k,S,q,dd,B,u,A,z,P,l,f]:=m.parts;let r:=qb.xmade (C:=C) (us:=us) I;let n:=h (↥s+1) (I.hok.fresh (vt _));let b:⇑us<=sizeLine:=qJ j (by rw[sizeLine_eq];decide);let c:=I.kIn;let i:=c _ _ l;let#[x,g,d,t,v]:=s;calc vY (Jw (K:=X.K) c f i (zu c o) (λa=>Looks.of_pure (F.excBase_ValueError.init.bind a)) b ?_);calc No r m qu b _ λy p=>#[Z,?_];calc#[.ref _,_,p,Z,n]
def ZjR (m:Xm X.K C)(P:findIn X.K (.ref C) "__init__"=U (U (.ref fI)))(n:isFn X.K (.ref fI)=Y)
  (F:g9 X.prog X.w X.K X.mg X.base CX k fI fd ps sp) (A:iJ (k+1) X.A) (L:iP X.K fd ps []) (l:vy CX X E) (I:qb X A1 σ H s) (r:hJ vs us) (y:⇑vs<=1000)
  (h:∀e,H e=O->sp (.ref e::vs) (upd H e (xo e C O)) (λv H2=>v=.non/\Q (.ref e) H2) E):wpAny (model X.prog X.w) X.A (call (.ref C) us) (EP X A1 σ Q) X.xe s:=by
 let#[nm,qn,N,bs,bm,A8,sn,B,ab,W,dd,k0,k1,k2,k3,k5,G,w]:=m.parts;let i:=qb.xmade (C:=C) (us:=us) I;let q:=h (↥s+1) (I.hok.fresh (vt _));let o:⇑us<=sizeLine:=by rw[<-⇑r];exact qJ y (by rw[sizeLine_eq];decide)
 let f:=I.kIn;let x:=f _ _ G;let p:hJ (V.ref (↥s+1)::vs) (Value.ref (↥s+1)::us):=.cons Z r;let hl:⇑((Value.ref (↥s+1)::us)++[])=⇑ps:=by let e:=⇑p;rw[F.len _ _ _ _ q]at e;rw[wH];exact e.symm
 let c:=L { s with heap:=(s.heap.push (jM us)).push (jz C ↥s) } (Value.ref (↥s+1)::us) i.kIn hl;rw[wH]at c;let#[j,g,d,t,os]:=s;calc vY (Jw (K:=X.K) f w x (zu f P) (λb=>bind_fn f b (beq_iff_eq.mp n)) o ?_);calc codeAny_mono (F.run _ X.stack _ _ #[Value.ref (j.objs.size+1)::us,[]] (Value.ref (j.objs.size+1)::us) _ _ E (A.make C us []) (i.env0.make C us []) c p q) λr D a=>?_;cases r with
 | error e=>exact l A1 σ _ _ e D i a
 | ok S=>
  cases S with
  | ret u=>
   let#[v,H',T,z,ev,M]:=i.after a;subst ev;exact#[z,#[V.ref (j.objs.size+1),H',T,Z,M]]
  | next=>exact False.elim a
  | brk=>exact False.elim a
  | cont=>calc False.elim a
def G4 (m:Xm X.K C)(l:findIn X.K (.ref C) "__init__"=U (U (.builtin "ValueError.__init__")))(d:Gl X x)(k:X.mg x=U (.ref C))(j:PA X (e::es) t)
  (a:autoParam ((x == ("__debug__":Str))=J) Qw._auto_1) (g:autoParam (starEach (e::es) X.env=(J,eval e X.env)::starEach es X.env) Qq._auto_1) (b:autoParam ((backTo pos (starEach es X.env)).any (·.1)=J) Qq._auto_1):
  PE X (.Call (.Name x p) (e::es) [] pos) (LZ X.K C t):=by
 intro i s σ H Q I h;calc yj (xU I d k ?_ a);calc yZ (h₀:=X.base) I.ok.mod.kin m.kp (qx (j pos i s σ H _ I h) λo u ⟨n,v,c,r,f,q⟩=>#[c.kIn,?_]) g b;calc ZiR m l c (by rw[xC,<-⇑r];calc f) q
def Gx (m:Xm X.K C)(w:findIn X.K (.ref C) "__init__"=U (U (.ref fI)))(c:isFn X.K (.ref fI)=Y)
  (F:g9 X.prog X.w X.K X.mg X.base CX k fI fd ps sp) (v:iJ (k+1) X.A) (n:iP X.K fd ps []) (b:vy CX X E) (g:Gl X x) (u:X.mg x=U (.ref C)) (o:PA X (e::es) t)
  (a:autoParam ((x == ("__debug__":Str))=J) Qw._auto_1) (j:autoParam (starEach (e::es) X.env=(J,eval e X.env)::starEach es X.env) Qq._auto_1) (d:autoParam ((backTo pos (starEach es X.env)).any (·.1)=J) Qq._auto_1):
  PE X (.Call (.Name x p) (e::es) [] pos) (LI C sp E t):=by
 intro l s σ H Q I h;calc yj (xU I g u ?_ a);calc yZ (h₀:=X.base) I.ok.mod.kin m.kp (qx (o pos l s σ H _ I h) λz A ⟨y,B,f,r,i,q⟩=>#[f.kIn,?_]) j d;calc ZjR m w c F v n b f r i q
structure jc (K:Frag)(C:AD)(f:Str)(v:Value):Prop where
 sp:specialIn K (.ref C) "__getattribute__"=U (U (.builtin "type.__getattribute__"))
 rd:readsIn K C (.type "type")=Y
 fd:findCls K (.ref C) (.type "type") f=U (.val v)
 hn:handedIn v=Y
def Jk (K:Frag)(t:TA):TE:=λσ H Q=>t σ H λb a=>∃e C d iI,b=.ref e::iI/\a e=U (xo e C d)/\Xm K C/\⇑iI<=1000/\Q .non a
def NF (hg:Gl X x)(hm:X.mg x=U (.ref L))(cr:jc X.K L "__init__" (.builtin "ValueError.__init__"))(ha:PA X (e::es) t)
  (hdb:autoParam ((x == ("__debug__":Str))=J) Qw._auto_1) (hst:autoParam (starEach (e::es) X.env=(J,eval e X.env)::starEach es X.env) Qq._auto_1) (hpl:autoParam ((backTo pos (starEach es X.env)).any (·.1)=J) Qq._auto_1)
  (ht:autoParam (eval (.Call (.Attribute (.Name x np) "__init__" A6) (e::es) [] pos) X.env=(do
   let ov <-eval (.Name x np) X.env
   standAt A6.atName
   let (f,first) <-holding [ov] (getMethod ov "__init__" pl)
   callWith pos f first (backTo pos (starEach (e::es) X.env)) (backToKw pos (keywordEach [] X.env)))) Qq._auto_1):
  PE X (.Call (.Attribute (.Name x np) "__init__" A6) (e::es) [] pos) (Jk X.K t):=by
 intro A1 s σ H Q I h;calc Cn (pl:=pl) (xU I hg hm ?_ hdb) ht;calc method_cls I.kIn cr.sp (cls_value I.kIn cr.rd cr.fd cr.hn ?_);calc FN (qx (ha pos A1 _ σ H _ (I.tok _) h) λus s1 zz=>?_) hst hpl;let#[vs,H1,I1,r1,ev,C,d,iI,evs,hx,m,hz,q]:=zz;subst evs;cases r1 with
 | cons ru rr=>
  cases ru;calc vY (No I1 m hx (by rw[<-⇑rr];calc qJ hz (by rw[sizeLine_eq];decide)) _ λs' I3=>?_);calc#[.non,H1,I3,Z,q]
end
section
end
def Ite (K:qj)(a:AD):It:=
 #[λi H=>∃xs x,rl K H a xs/\xs[i]?=U x,λi H x b=>∃p v,H p=O/\x=.ref p/\b=upd H p (.tup [.int i,v])/\∀xs,rl K H a xs->xs[i]?=U v,λi H=>∃xs,rl K H a xs/\⇑xs<=i]
section
end
section
def q_I:rI C g (.int i) (.int j) H Q=(C i j/\Q (g i j) H):=rfl
def q_I0:wY g (.int i) (.int j) H Q=Q (g i j) H:=rfl
def q_U:rU g (.int i) H Q=Q (g i) H:=rfl
def q_T:rT C g (tx a) (tx b) H Q=(C a b/\Q (g a b) H):=rfl
def pX:DA (U (U v)) p=p v:=rfl
def mE {v:V}{p:V->Prop}:(∃u,v=u/\p u)=p v:=
 propext #[λ⟨_,e,h⟩=>by cases e;calc h,λh=>#[v,Z,h]]
end
open PySem.W (Frag findIn specialIn typeIn mroIn clsIn subIn kitOne kitCls)
def K6 (b a:Scope):Bool:=R (b.kind=.function)&&b.names.all λy=>R (y.2≠NameKind.cell)&&(R (y.2≠NameKind.local) || R (b.names.lookup y.1=U NameKind.local)) &&
 (R (y.2≠NameKind.free) || (R (a.names.lookup y.1=U NameKind.cell) || R (a.names.lookup y.1=U NameKind.free)))
def tU (h:K6 sc X.env.scope=Y):iV X sc:=by
 unfold K6 at h;rw[rB,ur]at h;let#[c,b]:=h;refine#[NO c,λy a=>?_,λy a e=>?_,λy a e=>?_]
 .have:=b y a;simp only[rB,Bool.or_eq_true,NT]at this;exact this.1.1
 .have:=b y a;simp only[rB,Bool.or_eq_true,NT]at this;rcases this.1.2 with z | z
  .exact NR e z
  .exact z
 .have:=b y a;simp only[rB,Bool.or_eq_true,NT]at this;rcases this.2 with z | z | z
  .exact NR e z
  .exact .inl z
  .exact .inr z
section
structure jd (K:Frag)(C:AD)(mro:AC):Prop where
 cd:∃cd,clsIn K C=U cd/\cd.mro=mro
 ty:typeIn K (.ref C)=U (.type "type")
 ne:mro.isEmpty=J
def GR (K:Frag)(C:AD)(n:Nat)(fs:NU->List (Str×V)):Sp:=λc H Q _=>∃e r,c=.ref e::r/\⇑r=n/\H e=U (xo e C O) /\
 ∀a,vi a e C (fs r)->(∀b o,H b=U o->b≠e->a b=U o)->Q .non a
def rm (h:H a=O):g7 H (upd H a o):=λb u c=>by rw[qh (qN c h)];calc c
end
def Gw (C:AD)(H:Hp)(Q:VK):Prop:=∀e,H e=O->Q (.ref e) (upd H e (xo e C O))
def Dk (sp:Sp)(E:XK)(C:AD)(vs:NU)(H:Hp)(Q:VK):Prop:=∀e,H e=O->sp (.ref e::vs) (upd H e (xo e C O)) (λv a=>v=.non/\Q (.ref e) a) E
def iH (xs:NU)(H:Hp)(Q:VK):Prop:=∀p,H p=O->Q (.ref p) (upd H p (.lst xs))
def jF (xs:NU)(H:Hp)(Q:VK):Prop:=∀p,H p=O->Q (.ref p) (upd H p (.tup xs))
section
variable {K:Frag}{C:AD}{sp:Sp}{E:XK}{t:TA}{σ:St}{H:Hp}{Q:VK}{vs:NU}
def ZrO:LZ K C t σ H Q=t σ H (λvs H1=>⇑vs<=1000/\Gw C H1 Q):=rfl
def ZrN:LI C sp E t σ H Q=t σ H (λvs H1=>⇑vs<=1000/\Dk sp E C vs H1 Q):=rfl
def ZrP:tLst t σ H Q=t σ H (λxs H1=>⇑xs<=sizeLine/\iH xs H1 Q):=rfl
def ZrM:tTup t σ H Q=t σ H (λxs H1=>⇑xs<=sizeLine/\jF xs H1 Q):=rfl
def JA:rCat (.ref l) (.ref b) H Q=∃xs a,H l=U (.lst xs)/\H b=U (.lst a)/\⇑xs+⇑a<=sizeLine/\iH (xs++a) H Q:=
 propext #[λ⟨_,_,xs,a,c,d,h⟩=>by cases c;cases d;calc#[xs,a,h],λ⟨xs,a,h⟩=>#[l,b,xs,a,Z,Z,h]]
def Gw.of (h:∀e a,g7 H a->H e=O->vi a e C []->Q (.ref e) a):Gw C H Q:=λe b=>h e _ (rm b) b (.bare qu)
def Dk.of (f:⇑vs=n)(h:∀e a,g7 H a->H e=O->vi a e C (fs vs)->Q (.ref e) a):Dk (GR K C n fs) E C vs H Q:=
 λe c=>#[e,vs,Z,f,qu,λa x k=>#[Z,h e a (λb o d=>k b o (by rw[qh (qN d c)];calc d) (qN d c)) c x]]
def iH.of (h:∀p a,g7 H a->H p=O->a p=U (.lst vs)->Q (.ref p) a):iH vs H Q:=λp b=>h p _ (rm b) b qu
def jF.of (h:∀p a,g7 H a->H p=O->a p=U (.tup vs)->Q (.ref p) a):jF vs H Q:=λp b=>h p _ (rm b) b qu
def iH.at (h:∀p,H p=O->Q (.ref p) (upd H p (.lst vs))):iH vs H Q:=h
def jF.at (h:∀p,H p=O->Q (.ref p) (upd H p (.tup vs))):jF vs H Q:=h
def D1:bootBuiltins "str"=U (.type "str"):=by decide +kernel
def NG:bootBuiltins "int"=U (.type "int"):=by decide +kernel
def ya:bootBuiltins "list"=U (.type "list"):=by decide +kernel
def Zox:bootBuiltins "dict"=U (.type "dict"):=by decide +kernel
def FD:bootBuiltins "set"=U (.type "set"):=by decide +kernel
def sj:bootBuiltins "len"=U (.builtin "len"):=by decide +kernel
def D0:bootBuiltins "isinstance"=U (.builtin "isinstance"):=by decide +kernel
def LR:bootBuiltins "all"=U (.builtin "all"):=by decide +kernel
def ZqD:bootBuiltins "any"=U (.builtin "any"):=by decide +kernel
def JE:bootBuiltins "min"=U (.builtin "min"):=by decide +kernel
def Bv:bootBuiltins "sorted"=U (.builtin "sorted"):=by decide +kernel
end
def Own (K:Frag)(H:Hp)(d:DT)(x:V):Prop:=ij K H d x/\rW d d=Y/\uA d<=60
def rl.mk {K:Frag}{H:Hp}{a:AD}{xs:NU}(h:H a=U (.lst xs)):rl K H a xs:=.inl (.inl h)
def sG.mk {K:Frag}{H:Hp}{a:AD}{xs:NU}(h:H a=U (.tup xs)):sG K H a xs:=.inl (.inl h)
def Kl:¬(U (xo e C O)=U (xo e C (U d))):=by
 intro z;let b:xo e C O=xo e C (U d):=Option.some.inj z;unfold xo at b;injection b with z2;let a:(#[Array.replicate (e+1) (jz C 0),{known:=0}]:Heap).get? e=U (jz C 0):=by
  unfold Heap.get?;have:(Array.replicate (e+1) (jz C 0))[e]?=U (jz C 0):=by simp
  dsimp only;rw[this]
 let q:=congrFun z2 #[Array.replicate (e+1) (jz C 0),{known:=0}];let l:∃(o:Obj)(t:AD),(#[Array.replicate (e+1) (jz C 0),{known:=0}]:Heap).get? e=U o/\o.cls=.ref C/\o.dict=O/\o.data=.fields ↑[.ref t,.none,.none,.none,.bool J,.none]:=#[_,0,a,Z,Z,Z];let r:=q.mp l;let#[o,t,c,_,f,_]:=r;rw[a]at c;cases c;cases f
section
variable {X:Cx}{K:Frag}
def rE (a:X.K=K)(b:X.A.units+64<cLine):rV X (compareOp .Eq) (jC K J):=by subst a;calc Zpz b
def zx (a:X.K=K)(b:X.A.units+64<cLine):rV X (compareOp .NotEq) (jC K Y):=by subst a;calc Zpx b
def sQ (a:X.K=K):zJ X (rIxL K):=by subst a;calc Zob
def t8 (a:X.K=K):zJ X (lS K):=by subst a;calc Zqe
def zU (a:X.K=K):Eo X (rSlL K):=by subst a;calc Znx
def ZiT (a:X.K=K):rV X (compareOp .In) (DE K J):=by subst a;calc Zj7
def DJ (a:X.K=K):rV X (compareOp .NotIn) (DE K Y):=by subst a;calc Zgm
def sk (a:X.K=K):ud X (.builtin "len") (λxs H Q=>∃x n,xs=[x]/\oM K x H n/\Q (.int n) H):=by subst a;calc Zmn
def Cm (a:X.K=K):ud X (.type "list") (λxs H Q=>∃p ys,xs=[.ref p]/\(rl K H p ys\/sG K H p ys)/\∀l,H l=O->Q (.ref l) (upd H l (.lst ys))):=by subst a;calc ZgZ
def rA (a:X.K=K)(c:PE X e ta)(b:attributeBase e f X.env (eval e X.env)=eval e X.env):PE X (.Attribute e f pos) (nh K ta f):=by subst a;calc Zpt c b
def tQ (a:X.K=K)(b:PE X l tl):PI X tg l (F6 K tl):=by subst a;calc ZnU b
end
def cxK {CX:v0}{P:AG}{w:AI}{K:qj}{g:AB}{c:Heap}{N:AJ}{d:Str}{a:Scope}{f:AD}{e:Value}{A:AH}{b:List Env}{s:AE}{H:Hp}{E:XK}:
  (jj CX P w K g c N d a f e A b s H E).K=K:=rfl
def bxK:(bx X sc N fp s_0 H pn).K=X.K:=rfl
open PySem.W (Frag)
def io (c:It)(g:TG)(tb:TS)(D:jn)(σ:St)(H:Hp):Prop:=∃W:Nat->Nat->St->Hp->Prop,(∃m,W 0 m σ H)/\∀i m σ H,W i m σ H ->
 (c.stop i H/\D.nx σ H)\/(c.go i H/\∃N:St->Hp->Prop,(∀b a,N b a->∃e,e<m/\W (i+1) e b a)/\∀x a,c.yld i H x a->g x σ a λd f=>tb { D with nx:=N,ct:=N,bk:=D.nx } d f)
def ZrQ:tFor wi g tb D σ H=wi σ H λJ_ H1=>io J_ g tb D σ H1:=rfl
def ib (j:It)(f:St)(g:TG)(r:TT)(s:TE)(q:Hp)(Q:VK):Prop:=∀a,q a=O->∃W:Nat->Nat->St->Hp->Prop,(∃m,W 0 m f (upd q a (.lst []))) /\
 ∀i m τ d,W i m τ d->(j.stop i d/\Q (.ref a) d)\/(j.go i d/\∃h:St->Hp->Prop,(∀e n,h e n->∃k,k<m/\W (i+1) k e n) /\
  ∀x l,j.yld i d x l->g x τ l λc t=>r c t λb o=>if b=Y then s c o λy p=>∃ys,p a=U (.lst ys)/\⇑ys<sizeLine/\h c (upd p a (.lst (ys++[y]))) else h c o)
def Zpi:Fi ix wi g tt te σ H Q=wi σ H λJ_ H1=>ib J_ (pick ix σ) g tt te H1 Q:=rfl
section
variable {g:TG}{tb:TS}{D:jn}{σ:St}{H:Hp}{K:Frag}{a:AD}{xs:NU}
def io.list (b:Nat->St->Hp->Prop)(d:b 0 σ H)(c:∀i σ H,i<=⇑xs->b i σ H->rl K H a xs)
  (f:∀i x σ H,xs[i]?=U x->b i σ H->g x σ H λσ2 H2=>tb { D with nx:=b (i+1),ct:=b (i+1),bk:=D.nx } σ2 H2) (e:∀σ H,b ⇑xs σ H->D.nx σ H):io (xK K a) g tb D σ H:=
 Zma b d c f e
def io.range {b:Int}{n:Nat}(a:Nat->St->Hp->Prop)(c:a 0 σ H)
  (e:∀i σ H,i<n->a i σ H->g (.int (b+i)) σ H λσ2 H2=>tb { D with nx:=a (i+1),ct:=a (i+1),bk:=D.nx } σ2 H2) (d:∀σ H,a n σ H->D.nx σ H):
  io (xh b n) g tb D σ H:=ZkN a c e d
def io.text (a:Nat->St->Hp->Prop)(e:a 0 σ H)
  (b:∀i c σ H,l[i]?=U c->a i σ H->g (tx [c]) σ H λσ2 H2=>tb { D with nx:=a (i+1),ct:=a (i+1),bk:=D.nx } σ2 H2) (d:∀σ H,a ⇑l σ H->D.nx σ H):
  io (zg l) g tb D σ H:=Zl9 a e b d
end
section
def ib.gen (v:Nat->V)(b:Nat->Bool)(f:Nat->V)(K:n<=1000)(A:∀i a,i<n->g7 H a->J_.go i a)(z:∀a,g7 H a->J_.stop n a)(G:∀i a x s,i<n->g7 H a->J_.yld i a x s->s=a/\x=v i)
  (I:∀i a j,i<n->g7 H a->(∀H'',g7 a H''->j (b i) H'')->tt (τ0.set 0 (U (v i))) a j)
  (E:∀i a j,i<n->b i=Y->g7 H a->(∀H'',g7 a H''->j (f i) H'')->te (τ0.set 0 (U (v i))) a j)
  (F:∀p a,g7 H a->H p=O->a p=U (.lst (((List.range n).filter b).map f))->Q (.ref p) a):ib J_ τ0 (uD 0) tt te H Q:=by
 intro acc t;calc#[λi m τ h=>i<=n/\m=n-i/\(∀w:Option V,τ.set 0 w=τ0.set 0 w)/\g7 H h/\h acc=U (.lst (((List.range i).filter b).map f)),#[n,rM _,Z,λ_=>rfl,rm t,qu],?_];rintro i m τ h ⟨M,rfl,B,g,u⟩;by_cases r:i<n
 .refine .inr #[A i h r g,λk a=>(∀w:Option V,k.set 0 w=τ0.set 0 w)/\g7 H a/\a acc=U (.lst (((List.range (i+1)).filter b).map f)),λk a q=>#[n-(i+1),∅,r,Z,q],λx s y=>?_];let#[Z,Z]:=G i h x s r g y;show tt (τ.set 0 (U (v i))) _ _;rw[B];let d:∀w:Option V,(τ0.set 0 (U (v i))).set 0 w=τ0.set 0 w:=λw=>by rw[List.set_set]
  calc I i _ _ r g λL l=>?_;cases hb:b i with
  | false=>
   rw[qe qO];calc#[d,g.trans l,?_];rw[l _ _ u,wX,x9];simp[hb]
  | true=>
   rw[qg Z];calc E i _ _ r hb (g.trans l) λN C=>?_;refine#[_,C _ _ (l _ _ u),?_,d,?_,?_]
   .rw[qm];have:=ug b (List.range i);rw[uY]at this;exact G6 ∅
   .intro c o D;have:c≠acc:=qN D t;rw[qh this];exact C _ _ (l _ _ (g _ _ D))
   .rw[qu,wX,x9];simp[hb]
 .let e:i=n:=by lia
  subst e;calc .inl #[z h g,F acc h g t u]
def ib.range {d:Int}{n:Nat}(b:Nat->Bool)(f:Nat->V)(g:n<=1000)
  (k:∀(i:Nat) a c,i<n->g7 H a->(∀H'',g7 a H''->c (b i) H'')->tt (τ0.set 0 (U (.int (d+i)))) a c)
  (j:∀(i:Nat) a c,i<n->b i=Y->g7 H a->(∀H'',g7 a H''->c (f i) H'')->te (τ0.set 0 (U (.int (d+i)))) a c)
  (e:∀p a,g7 H a->H p=O->a p=U (.lst (((List.range n).filter b).map f))->Q (.ref p) a):ib (xh d n) τ0 (uD 0) tt te H Q:=
 .gen (λi=>.int (d+i)) b f g (λi _ h _=>h) (λ_ _=>qG _) (λi a x l _ _ y=>y) k j e
def i5:((List.range n).filter λ_=>Y).map f=(List.range n).map f:=by rw[List.filter_eq_self.mpr (λ_ _=>rfl)]
def ib.rangeA {c:Int}{n:Nat}(f:Nat->V)(g:n<=1000)
  (h:∀(i:Nat) a b,i<n->g7 H a->(∀H'',g7 a H''->b (f i) H'')->te (τ0.set 0 (U (.int (c+i)))) a b)
  (d:∀p a,g7 H a->H p=O->a p=U (.lst ((List.range n).map f))->Q (.ref p) a):ib (xh c n) τ0 (uD 0) lL te H Q:=
 .range (λ_=>Y) f g (λi a b _ _ q=>q a (g7.refl _)) (λi a b j _=>h i a b j) λp a s n e=>d p a s n (by rw[e,i5])
def ib.text (b:Nat->Bool)(f:Nat->V)(j:⇑l<=1000)
  (n:∀i a d (h:i<⇑l),g7 H a->(∀H'',g7 a H''->d (b i) H'')->tt (τ0.set 0 (U (tx [l.getD i 0]))) a d)
  (k:∀i a d (h:i<⇑l),b i=Y->g7 H a->(∀H'',g7 a H''->d (f i) H'')->te (τ0.set 0 (U (tx [l.getD i 0]))) a d)
  (g:∀p a,g7 H a->H p=O->a p=U (.lst (((List.range ⇑l).filter b).map f))->Q (.ref p) a):ib (zg l) τ0 (uD 0) tt te H Q:=
 .gen (λi=>tx [l.getD i 0]) b f j (λi _ h _=>h) (λ_ _=>qG _) (λi a x o _ _ y=>by let#[e,c,m,Z]:=y;calc#[e,?_];rw[sw,m];rfl) n k g
end
theorem JP:∀ {vs:NU},vs.all tR=Y->deqs (vs.map DT.f) (vs.map DT.f)=Y
 | [],_=>by unfold deqs;rfl
 | v::vs,h=>by rw[yE,rB]at h;rw[rC];unfold deqs;rw[JP h.2];unfold rW;rw[Kd h.1];rfl
def ownL {K:Frag}{H:Hp}{a:AD}{vs:NU}(h:rl K H a vs)(b:vs.all tR=Y):Own K H (.l (vs.map DT.f)) (.ref a):=#[kT h b,by unfold rW;calc JP b,by unfold uA;rw[Nt];decide]
def ZqI {t:SetTable}{n:Nat}:(t.orStandIn n).led=t.led/\((t.orStandIn n).plain=Y->t.plain=Y):=by
 unfold SetTable.orStandIn;split
 .exact#[Z,id]
 .exact#[Z,λh=>by cases h]
def ZoJ:(layNew t es h x).2.1.led=t.led/\((layNew t es h x).2.1.plain=Y->t.plain=Y):=by
 unfold layNew;split
 .rename_i a b _
  exact ZqI (t:=(t.put a).1)
 .exact#[Z,λh=>by cases h]
def Zno {b a c:Nat}{f plain:Bool}{g:Array Int}{t':SetTable}{d:Array Nat}(e:SetTable.laid b a c f plain g=U (t',d)):t'.led=f/\t'.plain=plain:=by
 unfold SetTable.laid at e;cases hq:SetTable.layClean b g with
 | none=>rw[hq]at e;cases e
 | some i=>
  rw[hq]at e;let h:=Option.some.inj e;let#[z,_]:=Prod.mk.inj h;subst z;calc#[Z,Z]
def Zll:(relayAll t es n).2.1.led=t.led/\((relayAll t es n).2.1.plain=Y->t.plain=Y):=by
 unfold relayAll;split
 .rename_i d a q
  let#[b,c]:=Zno q;dsimp only;split
  .exact#[b,λh=>by rw[<-c];calc h]
  .exact#[Z,λh=>by cases h]
 .exact#[Z,λh=>by cases h]
def iK (P:AG)(w:AI)(h:Heap)(a:AD)(ls:qi)(b:Bool):Prop:=
 ∃(o:Obj) (es:Array (Int×Value)) (c:Nat) (t:SetTable) (ms:qi),h.get? a=U o/\o.ExactSet/\o.data=.set es c t/\ElemsOf (rG P w) es.toList/\t.fits es.size=Y /\
  t.led=b/\(t.plain=Y->es.size=0)/\ms.Perm ls/\hJ (ms.map tx) (es.toList.map (·.2))/\es.size<scanBound
def iK.keep (x:iK P w h a ls led)(k:∀o,h.get? a=U o->h'.get? a=U o):iK P w h' a ls led:=by let#[o,b,e,t,d,c,r]:=x;calc#[o,b,e,t,d,k o c,r]
def iK.typ {P:AG}{w:AI}{s:AE}{a:AD}{ls:qi}{b:Bool}(x:iK P w s.heap a ls b):s.TypeIs (.ref a) "set":=by let#[o,g,f,t,e,c,d,_]:=x;calc#[o,c,d.1]
noncomputable def ji (ls:qi)(l:p9):qi:=if l∈ls then ls else ls++[l]
def ZsJ (r:ia v u)(a:∃m,v=tx m):yr (Sum.inr (#[↑l]:Str):qt) u=R (v=tx l):=by
 let#[m,Z]:=a;let#[t,Z]:=r;rw[wN];simp only[yr,Value.isStrOf];by_cases h:m=l
 .subst h;simp
 .have:¬(#[↑m]:Str)=#[↑l]:=λe=>h (Eh.mp (NQ V.str e));rw[NN h];simp[this]
theorem Nz {l:p9}:∀ {ms:qi} {es:List (Int×Value)},hJ (ms.map tx) (es.map (·.2))->((∃e∈es,yr (Sum.inr (#[↑l]:Str):qt) e.2=Y)↔l∈ms)
 | [],[],_=>by simp
 | [],_::_,r=>by cases r
 | _::_,[],r=>by cases r
 | m::ms,e::es,r=>by
  cases r with
  | cons r1 r2=>
   let ih:=Nz (l:=l) r2;let q:=ZsJ (l:=l) r1 #[m,Z];rw[wN]at q;constructor
   .rintro⟨x,b,a⟩;rcases qS.mp b with z | z
    .subst z;rw[q]at a;exact qS.mpr (.inl (NO a).symm)
    .exact qS.mpr (.inr (ih.mp #[x,z,a]))
   .intro h;rcases qS.mp h with z | z
    .exact#[e,sA,by rw[q];calc NM z.symm]
    .obtain⟨x,b,a⟩:=ih.mpr z;calc#[x,si _ b,a]
def FO (p:us'.Perm us):∀ {ms:qi},hJ (ms.map tx) us->∃a:qi,a.Perm ms/\hJ (a.map tx) us':=by
 induction p with
 | nil=>intro ms r;exact#[ms,.refl _,r]
 | cons x _ n=>
  intro ms r;cases ms with
  | nil=>cases r
  | cons m ms=>
   cases r with
   | cons b c=>
    let#[a,h,j]:=n c;exact#[m::a,h.cons _,.cons b j]
 | swap x y l=>
  intro ms r
  match ms,r with
  | g::f::ms,.cons b (.cons c r3)=>exact#[f::g::ms,.swap _ _ _,.cons c (.cons b r3)]
 | trans _ _ d e=>
  intro ms r;let#[g,i,b]:=e r;let#[f,k,c]:=d b;calc#[f,k.trans i,c]
section
def IL {g:Bool->Sem Unit}(hg:∀(b:Bool)(s_1:AE)(Q':Unit->AE->Prop),Q' () s_1->wpAny (model prog w) A (g b) Q' E s_1){a:AD}{o:Obj}{es:Array (Int×Value)}{ep:Nat}{t:SetTable}
  (ho:s.heap.get? a=U o) (hd:o.data=.set es ep t) {e1:Array (Int×Value)} {t2:SetTable} (hb:e1.size<scanBound) (hf:t2.fits e1.size=Y) {wd:Bool} {R_:Option Bool->AE->Prop}
  (h:∀h' e2 t3 ep',Heap.SameBut a s.heap h'->h'.get? a=U { o with data:=.set e2 ep' t3 }->e2.toList.Perm e1.toList->t3.fits e2.size=Y->t3.led=t2.led->(t3.plain=Y->t2.plain=Y)->R_ (U Y) { s with heap:=h' }):
  wpAny (model prog w) A (do
   storeSet a e1 t2
   if (!wd&&t2.tooFull)=Y then do
    g (relayAll t2 e1 (SetTable.grown e1.size)).2.2;storeSet a (relayAll t2 e1 (SetTable.grown e1.size)).1 (relayAll t2 e1 (SetTable.grown e1.size)).2.1;pure (U Y)
   else pure (U Y)) R_ E s:=by
 let put:∀ {h:Heap} {ob:Obj} {xs ys:Array (Int×Value)} {n:Nat} {t t':SetTable},h.get? a=U ob->ob.data=.set xs n t->(h.update a (Obj.putSet ys t')).get? a=U { ob with data:=.set ys (n+1) t' }:=λ{h ob xs ys n t t'} h1 h2=>by
  let q:=xD (Obj.putSet ys t') h1 (by rw[putSet_of ys t' h2];rfl)
  rwa [putSet_of ys t' h2]at q
 let hs1:=uG s.heap a (Obj.putSet e1 t2);let g1:=put (ys:=e1) (t':=t2) ho hd;calc qd (wpAny_storeSet_of ho hd ?_ (fits_of_scanBound hb));split
 .let p:=relayAll_perm t2 e1 (SetTable.grown e1.size);let f:=relayAll_fits t2 e1 (SetTable.grown e1.size);let tm:=Zll (t:=t2) (es:=e1) (n:=SetTable.grown e1.size);let z:(relayAll t2 e1 (SetTable.grown e1.size)).1.size=e1.size:=by rw[<-su,p.length_eq,su]
  calc qd (hg _ _ _ (qd (wpAny_storeSet_of g1 Z (qv ?_) (fits_of_scanBound (by rw[z];calc hb)))));exact h _ _ _ _ (hs1.trans (uG _ a _)) (put (ob:={ o with data:=.set e1 (ep+1) t2 }) g1 Z) p f tm.1 tm.2
 .exact qv (h _ _ _ _ hs1 g1 (.refl _) hf Z id)
def ZnA (hS:iK prog w s.heap a ls led)(hn:⇑ls+1<scanBound)
  (h:∀h' b,Heap.SameBut a s.heap h'->iK prog w h' a (ji ls l) led->Q b { s with heap:=h' }):
  wpAny (model prog w) A (setAddHashed a (.str #[↑l] tk) (kh w (Sum.inr #[↑l]))) Q E s:=by
 let#[o,es,ep,t,ms,G,D,H,f,hf,i,N,I,K,hb]:=hS;let m:(rG prog w).is (Sum.inr (#[↑l]:Str)) (.str #[↑l] tk)=Y:=by exact Jg prog w _ _
 let n:(Value.str #[↑l] tk).scannable=Y:=rfl;let A3:es.size=⇑ls:=by let q:=⇑K;rw[qm,qm]at q;rw[<-su,<-q,I.length_eq]
 let C:=Nz (l:=l) K;let hl:l∈ms↔l∈ls:=I.mem_iff;unfold setAddHashed setAddHashedIn;calc uI (qd (Cj G H hf ?_));dsimp only;rw[byScan_of n hb f,qg Z];unfold setAddByScan;calc qd (qd (vk (qd (wpAny_setScan_of (knd:=rG prog w) (k:=Sum.inr (#[↑l]:Str)) m G H hf f ?_))));cases hr:List.findIdx? (λe=>(rG prog w).is (Sum.inr (#[↑l]:Str)) e.2) es.toList with
 | some j=>
  dsimp only;let#[hj,aa,_]:=List.findIdx?_eq_some_iff_getElem.mp hr;let ab:l∈ls:=hl.mp (C.mp #[es.toList[j],xu hj,aa]);calc qv (qv ?_);let q:=h s.heap J (Heap.SameBut.refl a s.heap) (by unfold ji;rw[qg ab];calc#[o,es,ep,t,ms,G,D,H,f,hf,i,N,I,K,hb])
  exact q
 | none=>
  dsimp only;let F:l∉ls:=λz=>by let#[e,he,hk]:=C.mpr (hl.mpr z);let q:=List.findIdx?_eq_none_iff.mp hr e he;rw[show (rG prog w).is (Sum.inr (#[↑l]:Str)) e.2=Y from hk]at q;cases q
  let y:=layNew_perm t es (kh w (Sum.inr #[↑l])) (.str #[↑l] tk);let r:=layNew_fits t es (kh w (Sum.inr #[↑l])) (.str #[↑l] tk);let lt:=ZoJ (t:=t) (es:=es) (h:=kh w (Sum.inr #[↑l])) (x:=.str #[↑l] tk);show wpAny _ A (match layNew t es (kh w (Sum.inr #[↑l])) (.str #[↑l] tk) with | (es,t,wasDummy,v)=>_) _ _ _;generalize hL:layNew t es (kh w (Sum.inr #[↑l])) (.str #[↑l] tk)=L at y r lt ⊢;let#[e1,t1,wd,v]:=L;dsimp only at y r lt ⊢;rw[wq]at y;let p:e1.size=⇑ls+1:=by rw[<-su,y.length_eq,qP,su,A3];rfl
  let V:∀(b:Bool)(s_1:AE)(P:Unit->AE->Prop),P () s_1->wpAny (model prog w) A (match b with | true=>rule "set.scan.the-table-gave-way" | false=>pure ()) P E s_1:=
   λb s_1 P hq=>by cases b<;>first | exact qv hq | exact vk hq
  calc qd (V _ _ _ ?_);let fin:∀(u:SetTable),u.fits e1.size=Y->u.led=t1.led->u.plain=J->∀h' e2 d c,Heap.SameBut a s.heap h'->h'.get? a=U { o with data:=.set e2 c d }->e2.toList.Perm e1.toList->d.fits e2.size=Y->d.led=u.led->(d.plain=Y->u.plain=Y)->Q Y { s with heap:=h' }:=by
   intro u f2 l2 p2 h' e2 d c sb hg pm f3 l3 p3;calc h h' Y sb ?_;let g:=pm.trans y;let#[X,ac,T]:=FO (us:=(es.toList++[(kh w (Sum.inr #[↑l]),Value.str #[↑l] tk)]).map (·.2)) (us':=e2.toList.map (·.2)) (g.map _) (ms:=ms++[l]) (by rw[sJ,sJ];calc K.append (.cons #[tk,Z] .nil))
   unfold ji;rw[qe F];calc#[_,e2,c,d,X,hg,D,Z,((f.push (knd:=rG prog w) m n).perm g),f3,l3.trans (l2.trans (lt.1.trans i)),λz=>by rw[p2]at p3;calc NR (p3 z) qO,ac.trans (I.append_right [l]),T,?_];rw[<-su,pm.length_eq,su,p];exact hn
  split
  .refine qd ?_;rw[hashByValue_scannable 8 n];calc qv ?_;refine IL V G H (by rw[p];calc hn) ?_ λh' e2 d c q1 q2 W q4 M q6=>?_
   .exact SetTable.fits_plain_off r
   .exact qv (fin _ (SetTable.fits_plain_off r) Z Z h' e2 d c q1 q2 W q4 M q6)
  .rename_i S
   let B:t1.plain=J:=by simpa using S
   calc qd (qv ?_);rw[qg Z];calc IL V G H (by rw[p];calc hn) r λh' e2 d c q1 q2 W q4 M q6=>qv (fin _ r Z B h' e2 d c q1 q2 W q4 M q6)
end
def dd (val:Nat->p9)(i:Nat):qi:=((List.range i).map val).foldl ji []
def GG:dd val (i+1)=ji (dd val i) (val i):=by unfold dd;rw[wX,sJ,List.foldl_append];rfl
def Zmr:⇑(ji ls l)<=⇑ls+1:=by
 unfold ji;split
 .lia
 .simp
theorem IU {val:Nat->p9}:∀i,⇑(dd val i)<=i
 | 0=>qG _
 | i+1=>by
  rw[GG];let h1:=IU (val:=val) i;let a:=Zmr (ls:=dd val i) (l:=val i)
  lia
theorem Dx {val:Nat->p9}:∀i,(dd val i).Nodup
 | 0=>by simp[dd]
 | i+1=>by
  rw[GG];unfold ji;split
  .exact Dx i
  .rename_i h
   rw[z8];calc#[Dx i,{},?_];intro a ha b hb e;have:b=val i:=by simpa using hb
   subst e this;calc h ha
section
variable {prog:AG}{w:AI}{A:AH}{R_:Result->AE->Prop}{I:AD}{fp wr:List AD}{G:Array GenState->Array GenState->Prop}{n:Nat}{Pi:Nat->Value->Prop}{St:Nat->AE->Prop}
def Zlt (W:WalksS prog w A.in1 I fp wr G n Pi St)(S:AD)(f:S∉fp)(val:Nat->p9)(g:∀i v,Pi i v->∃t,v=.str #[↑(val i)] t)(a:n+1<scanBound){led:Bool}:
  ∀(k i:Nat)(s:AE),n-i=k->i<=n->St i s->iK prog w s.heap S (dd val i) led->(∀s',Moved (S::wr) G s s'->iK prog w s'.heap S (dd val n) led->R_ (.ok (.ret .none)) s') ->
   codeAny (model prog w) A (.builtin "set.update.loop" #[[.ref S,.ref I],[]]) R_ s:=by
 let H:S∉wr:=λh=>f (W.sub _ h);let C:∀b∈wr,b∈S::wr:=λb a=>si _ a;intro k;induction k with
 | zero=>
  intro i s Q N x u y;let e:i=n:=by lia
  subst e;calc codeAny_builtin F.entry_set_update_loop ?_;rw[xE F.plain_set_update_loop _];show wpAny _ A.in1 (pyNext (.ref I) >>= λr=>_) _ _ s;calc qd (W.done s _ _ x λs' c=>?_);exact qv (y s' (c.mono C) (u.keep λo e=>c.heap S o H e))
 | succ k P=>
  intro i s Q N x u y;let K:i<n:=by lia
  calc codeAny_builtin F.entry_set_update_loop ?_;rw[xE F.plain_set_update_loop _];show wpAny _ A.in1 (pyNext (.ref I) >>= λr=>_) _ _ s;calc qd (W.item i s _ _ K x λv j M p c=>?_);let#[D,Z]:=g i v M;let B:iK prog w j.heap S (dd val i) led:=u.keep λo e=>c.heap S o H e;show wpAny _ A.in1 (holding [Value.str #[↑(val i)] D] (setAdd S (.str #[↑(val i)] D)) >>= λ_=>_) _ _ j;calc qd (uI ?_);unfold setAdd;calc uI (qd (wpAny_pyHash_str ?_));calc ZnA (s:={ j with toks:=j.toks+1 }) (l:=val i) B (by have:=IU (val:=val) i;lia) λT b E d=>?_;rw[<-GG]at d;calc qv #[plainId_quiet F.plain_set_update_loop _,P (i+1) _ ∅ K (W.frame _ j _ _ p (vt _) λb a o e=>(E.2 b λz=>f (z▸a)).trans e) d λL m q=>?_];calc y L (Moved.trans W.gtrans ((c.mono C).then_heap (vt _) λb o a e=>(E.2 b λz=>a (z▸sA)).trans e) m) q
end
def HB {i:Nat}{u:Value}:∀ {vs:NU} {us:AC} ,hJ vs us->us[i]?=U u->∃v,vs[i]?=U v/\ia v u:=by
 induction i with
 | zero=>
  intro vs us r e;cases r with
  | nil=>cases e
  | cons c _=>cases e;exact#[_,Z,c]
 | succ i a=>
  intro vs us r e;cases r with
  | nil=>cases e
  | cons _ b=>calc a b e
structure kM (prog:AG)(w:AI)(x:Value)(s:AE)(T:String)(n:Nat)(val:Nat->p9):Prop where
 ty:∀s1:AE,(∀b o,s.heap.get? b=U o->s1.heap.get? b=U o)->s1.TypeIs x T
 go:∀(A:AH)(s1:AE)(Q:rh)(E:rh),A.handled=O->(∀b o,s.heap.get? b=U o->s1.heap.get? b=U o) ->
  (∀(h2:Heap)(I:AD)(fp wr:List AD)(Pi:Nat->Value->Prop)(St:Nat->Heap->Prop),(∀A':AH,A'.handled=O->Walks prog w A' I fp wr n Pi St)->St 0 h2 ->
   (∀b∈fp,b<↥s\/↥s1<=b)->(∀b∈wr,↥s1<=b)->(∀b o,s1.heap.get? b=U o->h2.get? b=U o)->(∀i v,Pi i v->∃t,v=.str #[↑(val i)] t)->Q (.ref I) { s1 with heap:=h2 }) ->
  wpAny (model prog w) A (pyIter x) Q E s1
def Zhb {prog:AG}{w:AI}{s:AE}{l:AD}{us:AC}{ls:qi}(u:s.heap.IsList l ↑us)(r:hJ (ls.map tx) us):kM prog w (.ref l) s "list" ⇑ls (λi=>ls.getD i []) where
 ty:=λc k=>by let#[o,g,p,_]:=u;exact#[o,k _ _ g,p]
 go:=λA c Q E G k h=>by
  let#[o,g,p,D]:=id u;let d:c.heap.IsList l ↑us:=#[o,k _ _ g,p,D];let C:=qQ g;let f:=qQ (k _ _ g);let B:us.toArray.size=⇑ls:=by rw[rN,<-⇑r,qm]
  calc CF d ?_;let W:∀j:AH,j.handled=O->Walks prog w j ↥c [↥c,l] [↥c] ⇑ls (λi v=>us.toArray[i]?=U v) (λi h=>h.IsListIter ↥c l i/\h.IsList l ↑us):=λj F=>by
   let q:=Walks.list (prog:=prog) (w:=w) F ↥c l (rK f) ↑us
   rwa [B]at q
  refine h _ _ _ _ _ _ W #[#[_,rS _ Z,Z,Z],d.push _] (λb n=>?_) (λb n=>?_) (λb o e=>qU _ e) (λi v e=>?_)
  .rcases qS.mp n with z | z
   .exact .inr (vK z.symm)
   .let z:b=l:=by simpa using z
    rw[z];exact .inl C
  .let z:b=↥c:=by simpa using n
   exact vK z.symm
  .let x:us[i]?=U v:=by simpa using e
   let#[H,a,y]:=HB r x;rw[se]at a;cases q:ls[i]? with
   | none=>rw[q]at a;cases a
   | some m=>
    rw[q]at a;cases a;let#[t,Z]:=y;calc#[t,by rw[sw,q];rfl]
def Zha {prog:AG}{w:AI}{s:AE}{l:p9}{t:Tok}:kM prog w (.str #[↑l] t) s "str" ⇑l (λi=>[l.getD i 0]) where
 ty:=λd _=>typeIs_str d _ _
 go:=λA d Q E p k h=>by
  let n:(#[↑l]:Str).cps.size=⇑l:=by show l.toArray.size=_;simp
  let a:∀(i:Nat)(v:Value),(∃c u,(#[↑l]:Str).cps[i]?=U c/\v=.str #[↑[c]] u)->∃t,v=.str #[↑[l.getD i 0]] t:=by
   rintro i v ⟨c,u,e,rfl⟩;let j:l[i]?=U c:=by simpa using e
   exact#[u,by rw[sw,j];rfl]
  calc wpAny_pyIter_str λo St W g=>?_;rw[n]at W;refine h _ _ _ _ _ _ W g (λb f=>.inr ?_) (λb f=>?_) (λb o e=>qU _ e) (λi v ⟨c,u,e,m⟩=>a i v #[c,u,e,m])
  .let z:b=↥d:=by simpa using f
   exact vK z.symm
  .let z:b=↥d:=by simpa using f
   calc vK z.symm
section
abbrev zi (a:Bool):Obj:={ cls:=.type "set",dict:=O,data:=.set ↑[] 0 (.fresh 0 0 a) }
def Zjs (b:h.get? a=U (zi led)):iK prog w h a [] led:=
 #[_,↑[],0,_,[],b,#[Z,Z,Z],Z,λe c=>by simp at c,Z,Z,λ_=>rfl,.refl _,.nil,by show 0<4096;decide]
def sI (w:AI):Bool:=w.params.followText "set-order"
def Zny (a:Value){Q₁:rh}(h:Q₁ (.ref ↥s) { s with heap:=s.heap.push (zi (!sI w)) }):
  codeAny (model prog w) A (.call (.builtin "set.__new__") #[[.type "set",a],[]]) (wants Q₁ E) s:=by
 calc codeAny_of_tree ?_;show wpAny _ A.in1 (checkBuiltinCall "set.__new__" #[[.type "set",a],[]] >>= λ_=>again (.builtin "set.__new__" #[[.type "set",a],[]])) _ _ s;calc qd (wpAny_of_eq (F.newCall_set_1 a) (qv #[plainId_quiet F.plain_set_new _,codeAny_builtin F.entry_set_new ?_]));rw[xE F.plain_set_new _];unfold Builtin.«set.__new__» Builtin.Frozenset.newClass;let b:=sub_set_self;let#[e,g,d,c,f]:=s;dsimp only
 wp_walk
 calc B5 (qv ?_);dsimp only;simp only[newObj];exact qd (wpAny_alloc (qv (qv h)))
set_option maxHeartbeats 3200000 in
def KL (L:A.handled=O)(W:kM prog w x s T n val)(t1:isSubtype (.type T) (.type "set")=pure J)(t2:isSubtype (.type T) (.type "frozenset")=pure J)
  (t3:(Value.type T == Value.type "dict")=J) (hb:n+1<scanBound)
  (h:∀(h':Heap)(tk:Nat),iK prog w h' ↥s (dd val n) (!sI w)->(∀b o,s.heap.get? b=U o->h'.get? b=U o)->s.toks<=tk->Q (.ref ↥s) { s with heap:=h',toks:=tk }):
  wpAny (model prog w) A (call (.type "set") [x]) Q E s:=by
 let#[c,tl,K]:=F.called_set.mro;let u:=F.called_set.made;let C:=F.called_set.sub;calc vY (codeAny_of_tree ?_);show wpAny _ _ (callAny (.type "set") _) _ _ _;calc qv #[Code.quiet_builtin _ nofun,codeAny_builtin F.entry_type_call ?_];rw[Around.under_plain (weight_type_call_type "set" [x] []) Z];let h1:=F.called_set.notType;let h2:=F.called_set.canCreate;let ab:=F.typeCall_set_1 x;repeat (any_goals (first | assumption | wp_step))
 calc codeAny_mono (Zny x (E:=E) (Q₁:=λG k=>G=.ref ↥s/\k={ s with heap:=s.heap.push (zi (!sI w)) }) #[Z,Z]) λr k p=>?_;cases r with
 | error e=>exact p
 | ok fl=>
  cases fl with
  | ret G=>
   let#[Z,Z]:=p;let D:(s.heap.push (zi (!sI w))).get? ↥s=U (zi (!sI w)):=rS _ Z;let hT:Shared.TypeIs { s with heap:=s.heap.push (zi (!sI w)) } (.ref ↥s) "set":=#[_,D,Z];let N:=F.called_set.init.lookup;let aa:=F.called_set.init.bind (.ref ↥s);let a:∀b o,s.heap.get? b=U o->(s.heap.push (zi (!sI w))).get? b=U o:=λb o e=>qU _ e;repeat (any_goals (first | assumption | wp_step))
   refine codeAny_mono (codeAny_call_builtin (R:=wants (λr i=>r=.none/\∃h' tk,i={ s with heap:=h',toks:=tk }/\iK prog w h' ↥s (dd val n) (!sI w)/\(∀b o,s.heap.get? b=U o->h'.get? b=U o)/\s.toks<=tk) E)
    F.called_set.init.plain F.entry_set_init (check_set_init_1 hT ?_)) λr9 i d=>?_
   .let P:=W.ty { s with heap:=s.heap.push (zi (!sI w)) } a;unfold Builtin.«set.__init__» noKeywords Builtin.Frozenset.updateFrom;generalize hPI:pyIter=PI
    wp_walk
    subst hPI;calc W.go _ _ _ _ (by simp[L]) a λh2 I fp wr Pi St S st f1 f2 H j=>?_;calc qd (wpAny_runValue ?_);let y:↥s∉fp:=λz=>by
     rcases f1 _ z with q | q
     .exact tJ _ q
     .rw[vD]at q;exact NR q (Nat.not_succ_le_self _)
    calc Zlt ((S A.in1.in1.in1 (by simp[L])).toS) ↥s y val j hb (n-0) 0 _ ∅ (rM _) st (Zjs (H _ _ D)) λX g f=>?_;let#[h',g',d',tk',t]:=X;let eg:g'=s.gens:=g.gens;let V:d'=s.drawn:=g.drawn;let eo:t=s.os:=g.os;let et:s.toks<=tk':=g.toks;subst eg V eo;calc qv ?_;calc qv #[Z,h',tk',Z,f,λb o e=>?_,et];let B:=qQ e;calc g.heap b o (λz=>?_) (H b o (a b o e));rcases qS.mp z with q | q
    .rw[q]at B;exact tJ _ B
    .let M:=f2 b q;rw[vD]at M;exact NR (sK B (Nat.le_of_succ_le M)) (tJ _)
   .cases r9 with
    | error e=>exact d
    | ok l=>
     cases l with
     | ret r=>
      let#[Z,h',tk,Z,f,v,m]:=d;repeat (any_goals (first | assumption | wp_step))
      exact h _ _ f v m
     | _=>exact d.elim
  | _=>calc p.elim
end
theorem F4 {α:Type}:∀(xs:List α)(i:Nat)(h:i<⇑xs),(xs[i]::xs.eraseIdx i).Perm xs
 | x::xs,0,_=>.refl _
 | x::xs,i+1,h=>by
  let hi:i<⇑xs:=by simpa using h
  let a:=F4 xs i hi;show (xs[i]::x::xs.eraseIdx i).Perm (x::xs);calc(List.Perm.swap _ _ _).trans (a.cons x)
section
def kG (a:n≠0)(h:∀i d,i<n->Q i { s with drawn:=d }):wpAny M A (choose src n) Q E s:=λΓ p b=>by unfold choose;rw[Sem.wp_choose];calc#[a,h _ _ (Nat.mod_lt _ (Nat.pos_of_ne_zero a))]
theorem Nb {α:Type}:∀(n:Nat)(xs:List α)(s:AE)(Q:List α->AE->Prop),⇑xs=n->(∀ys d,ys.Perm xs->Q ys { s with drawn:=d })->wpAny M A (drawOrder n xs) Q E s
 | 0,xs,s,Q,hl,h=>by
  let e:xs=[]:=Fu hl;subst e;unfold drawOrder;exact qv (h [] s.drawn (.refl _))
 | n+1,[],s,Q,hl,h=>by cases hl
 | n+1,x::xs,s,Q,hl,h=>by
  unfold drawOrder;calc qd (kG {} λi d a=>?_);let e:(x::xs)[i]?=U (x::xs)[i]:=rD a;rw[e];dsimp only;refine qd (Nb n ((x::xs).eraseIdx i) _ _ ?_ λys b p=>qv ?_)
  .rw[List.length_eraseIdx_of_lt a,hl];rfl
  .refine h _ b ((List.Perm.cons _ p).trans ?_);calc F4 _ _ a
end
def ZeR:entryFor table "set.__iter__"=U Builtin.«frozenset.__iter__»:=entryFor_alias (id':="frozenset.__iter__") (by kernel_rfl) Z nofun (by kernel_rfl)
def zQ:Slot "set_iterator" "__next__" "set_iterator.__next__":=
 .of (owner:="set_iterator") (n:="__next__") (by rw[typeLookup_type,builtinLookup_eq_fast];kernel_rfl) nofun nofun nofun
  (by first | calc .inl nofun | calc .inr nofun) (by rw[isSubtype_type];kernel_rfl)
def La:entryFor table "set_iterator.__next__"=U Builtin.«set_iterator.__next__»:=entryFor_of_fast (by kernel_rfl)
def Lf (a:Value):argsOk "set_iterator.__next__" #[[a],[]]:=by unfold argsOk;kernel_rfl
section
def jO (h:Heap)(I S:AD)(first:Value)(i n a:Nat):Prop:=∃o,h.get? I=U o/\o.cls=.type "set_iterator"/\o.data=.fields ↑[first,.int i 0,.ref S,.int n 0,.int a 0]
def Zon {t:SetTable}{n:Nat}(a:t.fits n=Y):(t.place.size != n || R (t.fill>t.mask))=J:=by simp only[SetTable.fits,rB,NS,NT]at a;simp[a.1,Nat.not_lt.mpr a.2]
def Zl2 (e:s.heap.get? S=U o)(f:o.ExactSet)(c:o.data=.set es ep t)(b:t.fits es.size=Y)(k:es.size<=sizeLine)
  (l:(sI w=Y\/(t.plain=Y\/es.size<=1))->Q (.ref ↥s) { s with heap:=s.heap.push { cls:=.type "set_iterator",data:=.fields ↑[.int 0 0,.int 0 0,.ref S,.int es.size 0,.int ep 0] } })
  (m:∀(a:p9)(d:Drawn),a.Perm (List.range es.size)->Q (.ref (↥s+1)) { s with drawn:=d,heap:=(Heap.push s.heap { cls:=.type "tuple",data:=.seq ↑(a.map (λi=>Value.int ((i:Nat):Int) 0)) }).push { cls:=.type "set_iterator",data:=.fields ↑[.ref ↥s,.int 0 0,.ref S,.int es.size 0,.int ep 0] } }):wpAny (model prog w) A (pyIter (.ref S)) Q E s:=by
 let j:s.TypeIs (.ref S) "set":=#[o,e,f.1];calc wpAny_pyIter_slot j F.slot_set_iter (CN F.slot_set_iter j ZeR ?_ (F.args_set_iter_1 _));unfold Builtin.«frozenset.__iter__» Builtin.Frozenset.sizeOf setDrawn setsByText
 wp_walk
 rw[c];dsimp only;rw[Zon b];rw[qe qO];calc qv (qv (qv ?_));calc qd (qd (Cj e c b ?_));dsimp only;calc qd (qd (B5 (qv (qv ?_))));show wpAny _ _ (if (!sI w&&(!t.plain&&R (es.size>1)))=Y then _ else _) _ _ _;split
 .refine qd (Nb es.size (List.range es.size) _ _ {} λa d p=>?_);calc qd ?_;simp only[newTuple];calc x8 ?_ (by show (List.map _ a).toArray.size<=sizeLine;rw[rN,qm,p.length_eq,uY];calc k);calc qd (wpAny_setEpoch_of (qU _ e) c b (qd (x8 (qv #[_,Z,"set_iterator",_,#[_,rS _ Z,Z],zQ.lookup,?_]))));let q:=m a d p;rw[vD];exact q
 .rename_i g
  calc qd (qv ?_);calc qd (wpAny_setEpoch_of e c b (qd (x8 (qv #[_,Z,"set_iterator",_,#[_,rS _ Z,Z],zQ.lookup,l ?_]))));cases h:sI w with
  | true=>exact .inl Z
  | false=>
   calc .inr ?_;cases h':t.plain with
   | true=>exact .inl Z
   | false=>
    rw[h,h']at g;simp at g;calc .inr g
end
section
variable {prog:AG}{w:AI}{A:AH}{E:rh}{s:AE}{I S:AD}{o:Obj}{es:Array (Int×Value)}{ep i n:Nat}{t:SetTable}
def jO.typ (h:jO s.heap I S first i n ep):s.TypeIs (.ref I) "set_iterator":=let ⟨o,h1,h2,_⟩:=h;#[o,h1,h2]
abbrev ZqC (I S:AD)(slot i ep:Nat):Sem PySem.Fin:=do
 match <-setNext S slot i ep with
 | some (x,next)=>do
  setField (.ref I) 0 (rawInt (next:Nat))
  setField (.ref I) 1 (rawInt ((i:Int)+1))
  ret x
 | none=>do
  setField (.ref I) 2 Value.none
  raiseNew (<-newExc (Value.type "StopIteration") [])
abbrev Zow (I S:AD)(first:Value)(i ep:Nat):Sem PySem.Fin:=do
 match <-seqItems? first with
 | some places=>match places[i]? with
  | some (.int place _)=>do
   let x <-setNextDrawn S place.toNat ep
   setField (.ref I) 1 (rawInt ((i:Int)+1))
   ret x
  | some _=>unsupported "internal:set_iterator"
  | none=>do
   setField (.ref I) 0 (rawInt 0)
   setField (.ref I) 2 Value.none
   raiseNew (<-newExc (Value.type "StopIteration") [])
 | _=>unsupported "internal:set_iterator"
abbrev Fo (prog:AG)(w:AI)(A:AH)(Q:Option Value->AE->Prop)(E:rh)(fin:PySem.Fin)(s':AE):Prop:=∃v,fin=Fin.done (Flow.ret v)/\Q (U v) s'
abbrev Hl (prog:AG)(w:AI)(A:AH)(Q:Option Value->AE->Prop)(E:rh)(e:Value)(s':AE):Prop:=
 wpAny (model prog w) A (do let b <-isInstance e (Value.type "StopIteration");if b=Y then pure O else throw e) Q E s'
def DV (b:jO s.heap I S (.int (slot:Nat) 0) i es.size ep)(j:s.heap.get? S=U o)(g:o.data=.set es ep t)(f:t.fits es.size=Y)
  (h:wpAny (model prog w) A.in1 (ZqC I S slot i ep) (Fo prog w A Q E) (Hl prog w A Q E) s):wpAny (model prog w) A (pyNext (.ref I)) Q E s:=by
 let#[l,d,c,a]:=id b;unfold pyNext;calc qd (zf (wpAny_callSpecial?_slot (name:=Str.ofString "__next__") b.typ zQ (CN zQ b.typ La ?_ (Lf _))));unfold Builtin.«set_iterator.__next__»
 wp_walk
 rw[a];dsimp only;calc qv ?_;dsimp only;refine qd (wpAny_setEntries_of j g f ?_)
 (try dsimp only)
 rw[qe {}];calc tw h (λfin k q=>?_) λe k q=>q;let#[v,Z,q]:=q;calc#[v,Z,qv q]
def Nm (b:jO s.heap I S (.ref tp) i es.size ep)(j:s.heap.get? S=U o)(g:o.data=.set es ep t)(f:t.fits es.size=Y)
  (h:wpAny (model prog w) A.in1 (Zow I S (.ref tp) i ep) (Fo prog w A Q E) (Hl prog w A Q E) s):wpAny (model prog w) A (pyNext (.ref I)) Q E s:=by
 let#[l,d,c,a]:=id b;unfold pyNext;calc qd (zf (wpAny_callSpecial?_slot (name:=Str.ofString "__next__") b.typ zQ (CN zQ b.typ La ?_ (Lf _))));unfold Builtin.«set_iterator.__next__»
 wp_walk
 rw[a];dsimp only;calc qv ?_;dsimp only;refine qd (wpAny_setEntries_of j g f ?_)
 (try dsimp only)
 rw[qe {}];calc tw h (λfin k q=>?_) λe k q=>q;let#[v,Z,q]:=q;calc#[v,Z,qv q]
def Hk (c:A.handled=O)(d:∀h',(∀b o,s.heap.get? b=U o->h'.get? b=U o)->Q O { s with heap:=h' }):
  wpAny (model prog w) A.in1 (do raiseNew (<-newExc (Value.type "StopIteration") [])) (Fo prog w A Q E) (Hl prog w A Q E) s:=by
 calc qd ?_;simp only[newExc,newTuple];calc qd (x8 ?_ (by size_fits));calc qd (m:=firstArgMember _ _) (wpAny_of_eq (a:=Value.none) (by first | rfl | (simp only[firstArgMember];rfl)) ?_);calc x8 ?_ (by size_fits);simp only[raiseNew];calc qd (wpAny_handled ?_);rw[show A.in1.handled=O from c];calc qd (qv (wpAny_throw ?_));calc qd (wpAny_isInstance (T:="StopIteration") (b:=Y) #[_,rS _ Z,Z] isSubtype_stop ?_);calc qv (d _ λb o e=>qU _ (qU _ e))
def Ca {h:Heap}{v:Value}{k:Nat}{b:Obj}{vs:Array Value}(d:h.get? I=U b)(c:b.cls=.type "set_iterator")(a:b.data=.fields vs):
  ∃o',(h.update I (Obj.mapFields (·.setIfInBounds k v))).get? I=U o'/\o'.cls=.type "set_iterator"/\o'.data=.fields (vs.setIfInBounds k v):=
 #[_,xD _ d (Obj.isFreed_of_fields (Cy a _)),(Obj.cls_mapFields ..).trans c,Cy a _]
def IC (b:s.heap.get? S=U o)(c:o.data=.set es ep t)(a:t.fits es.size=Y)(d:sI w=Y)
  (h:Q (((pickOrder (w.params.setOrder S ep) es)[i]?).map λe=>(e.2,slot)) s):wpAny (model prog w) A (setNext S slot i ep) Q E s:=by
 unfold setNext;calc qd (Cj b c a ?_);dsimp only;unfold setsByText;calc qd (qd (B5 (qv ?_)));show wpAny _ _ (if sI w=Y then _ else _) _ _ _;rw[d,qg Z,qe {}];unfold setWalk;calc qd (qd (Cj b c a ?_));dsimp only;unfold setsByText;calc qd (qd (B5 (qv ?_)));show wpAny _ _ (if sI w=Y then _ else _) _ _ _;rw[d,qg Z];calc qd (B5 (qv (qv h)))
def ME (e:s.heap.get? S=U o)(d:o.data=.set es ep t)(b:t.fits es.size=Y)(c:sI w=J)(a:t.led=Y)(g:es.size<=1)
  (h:Q (match es[SetTable.below t.place slot]?,t.place[SetTable.below t.place slot]? with | some (_,x),some j=>U (x,j+1) | _,_=>O) s):wpAny (model prog w) A (setNext S slot i ep) Q E s:=by
 unfold setNext;calc qd (Cj e d b ?_);dsimp only;unfold setsByText;calc qd (qd (B5 (qv ?_)));show wpAny _ _ (if sI w=Y then _ else (if (!t.plain&&R (es.size>1))=Y then _ else _)) _ _ _;let f:¬es.size>1:=by lia
 rw[c,qe qO,NN f,yX,qe qO];show wpAny _ _ ((if (!t.led&&!es.isEmpty)=Y then (do let _ <-(unsupported "set:maker-not-led":Sem Unit);pure ()) else pure ()) >>= λ_=>_) _ _ _;rw[a,Bool.not_true,vZ,qe qO];calc qd (qv (qv h))
end
theorem K0 {α:Type}{next:Nat->Nat}:∀(a k:Nat)(left:List α)(out:Array α),⇑left=a->(pickOrder.go next a k left out).toList.Perm (out.toList++left)
 | 0,k,left,out,h=>by
  let e:left=[]:=Fu h;subst e;unfold pickOrder.go;simp
 | a+1,k,left,out,h=>by
  let b:next k % ⇑left<⇑left:=Nat.mod_lt _ ∅
  unfold pickOrder.go;rw[rD b];dsimp only;calc(K0 a (k+1) _ _ (by rw[List.length_eraseIdx_of_lt b,h];rfl)).trans ?_;rw[wq,tD];calc(F4 left _ b).append_left _
def Hx:(pickOrder next xs).toList.Perm xs.toList:=by unfold pickOrder;have:=K0 (next:=next) xs.size 0 xs.toList ↑[] {};simpa using this
def Mn:Slot "set_iterator" "__iter__" "set_iterator.__iter__":=
 .of (owner:="set_iterator") (n:="__iter__") (by rw[typeLookup_type,builtinLookup_eq_fast];kernel_rfl) nofun nofun nofun (by first | calc .inl nofun | calc .inr nofun) (by rw[isSubtype_type];kernel_rfl)
def Zdo:entryFor table "set_iterator.__iter__"=U Builtin.«dict_keyiterator.__iter__»:=entryFor_alias (id':="dict_keyiterator.__iter__") (by kernel_rfl) Z nofun (by kernel_rfl)
def ZdH (a:Value):argsOk "set_iterator.__iter__" #[[a],[]]:=by unfold argsOk;kernel_rfl
section
def G5 (a:jO s.heap I S first i n ep)(h:Q (.ref I) s):wpAny (model prog w) A (pyIter (.ref I)) Q E s:=by calc wpAny_pyIter_slot a.typ Mn (CN Mn a.typ Zdo ?_ (ZdH _));show wpAny _ _ (ret (.ref I)) _ _ s;calc qv #[_,Z,"set_iterator",_,a.typ,zQ.lookup,h]
def ER (c:Heap.SameBut I h h')(a:S≠I)(b:h.get? S=U o):h'.get? S=U o:=(c.2 S a).trans b
def Zjn (P:A.handled=O)(q:S≠I)(p:o.data=.set es ep t)(m:t.fits es.size=Y)(a:sI w=Y):
  Walks prog w A I [I,S] [I] es.size (λi v=>(((pickOrder (w.params.setOrder S ep) es).toList).map (·.2))[i]?=U v) (λi h=>jO h I S (.int ((0:Nat):Int) 0) i es.size ep/\h.get? S=U o) where
 sub:=λb a=>by simp at a;simp[a]
 frame:=λi h y ⟨⟨u,G,r⟩,K⟩ D=>#[#[u,D I {} _ G,r],D S {} _ K]
 item:=λi s Q E H ⟨c,d⟩ f=>by
  let x:(pickOrder (w.params.setOrder S ep) es).size=es.size:=by rw[<-su,Hx.length_eq,su]
  let g:(pickOrder (w.params.setOrder S ep) es)[i]?=U (pickOrder (w.params.setOrder S ep) es)[i]:=by simp[x,H]
  calc DV c d p m (qd (IC d p m a ?_));rw[g];dsimp only[Option.map_some];let#[u,n,C,j]:=id c;calc qd (vV n j {} ?_);let#[V,z,F,B]:=Ca (v:=rawInt ((0:Nat):Int)) (k:=0) n C j;calc qd (vV z B {} ?_);let#[N,M,T,L]:=Ca (v:=rawInt ((i:Int)+1)) (k:=1) z F B;let l:=(uG s.heap I (Obj.mapFields (·.setIfInBounds 0 (rawInt ((0:Nat):Int))))).trans (uG _ I (Obj.mapFields (·.setIfInBounds 1 (rawInt ((i:Int)+1)))));refine qv #[_,Z,f _ _ s.toks ?_ #[#[N,M,T,?_],ER l q d] λb o a e=>(l.2 b (~~~a)).trans e]
  .rw[se,uW,g];rfl
  .rw[L];simp[rawInt]
 done:=λs Q E ⟨c,d⟩ f=>by
  let x:(pickOrder (w.params.setOrder S ep) es).size=es.size:=by rw[<-su,Hx.length_eq,su]
  let g:(pickOrder (w.params.setOrder S ep) es)[es.size]?=O:=by simp[x]
  calc DV c d p m (qd (IC d p m a ?_));rw[g];dsimp only[Option.map_none];let#[u,n,C,j]:=id c;calc qd (vV n j {} ?_);let l:=uG s.heap I (Obj.mapFields (·.setIfInBounds 2 Value.none));exact Hk (A:=A) P λy k=>f y s.toks λb o a e=>k b o ((l.2 b (~~~a)).trans e)
 self:=λi s Q E ⟨c,_⟩ f=>G5 c f
def Cc (t:SetTable)(i:Nat):Nat:=if i=0 then 0 else t.place.getD 0 0+1
def Zjk:SetTable.below xs 0=0:=by
 unfold SetTable.below;let c:∀b a,SetTable.below.go xs 0 b 0 a=0:=by
  intro b;induction b with
  | zero=>intro a;unfold SetTable.below.go;rfl
  | succ f d=>
   intro a;unfold SetTable.below.go;split
   .rw[qe (Nat.not_lt_zero _)];exact d _
   .rfl
 calc c _ _
def Zlb:SetTable.below ↑[j] (j+1)=1:=by unfold SetTable.below;show SetTable.below.go ↑[j] (j+1) 1 0 1=1;unfold SetTable.below.go;simp[SetTable.below.go]
def ZpA (h:xs.size=1):∃j,xs=↑[j]:=by
 let#[l]:=xs
 match l,h with
 | [j],_=>calc#[j,Z]
def Zjo (hh:A.handled=O)(u:S≠I)(q:o.data=.set es ep t)(f:t.fits es.size=Y)(a:sI w=J)(H:t.led=Y)(n:es.size<=1):
  Walks prog w A I [I,S] [I] es.size (λi v=>(es.toList.map (·.2))[i]?=U v) (λi h=>jO h I S (.int ((Cc t i:Nat):Int) 0) i es.size ep/\h.get? S=U o) where
 sub:=λb a=>by simp at a;simp[a]
 frame:=λi h y ⟨⟨x,n,r⟩,W⟩ K=>#[#[x,K I {} _ n,r],K S {} _ W]
 item:=λi s Q E V ⟨c,d⟩ g=>by
  let T:i=0:=by lia
  subst T;let N:t.place.size=es.size:=by have:=f;simp only[SetTable.fits,rB,NS]at this;exact this.1
  let C:es[0]?=U es[0]:=by simp[V]
  let M:t.place[0]?=U (t.place.getD 0 0):=by
   have:0<t.place.size:=by lia
   simp[this]
  calc DV c d q f (qd (ME d q f a H n ?_));rw[show Cc t 0=0 from Z,Zjk,C,M];dsimp only;let#[x,p,G,l]:=id c;calc qd (vV p l {} ?_);let#[o1,B,P,F]:=Ca (v:=rawInt ((t.place.getD 0 0+1:Nat):Int)) (k:=0) p G l;calc qd (vV B F {} ?_);let#[o2,m1,m2,X]:=Ca (v:=rawInt (((0:Nat):Int)+1)) (k:=1) B P F;let m:=(uG s.heap I (Obj.mapFields (·.setIfInBounds 0 (rawInt ((t.place.getD 0 0+1:Nat):Int))))).trans (uG _ I (Obj.mapFields (·.setIfInBounds 1 (rawInt (((0:Nat):Int)+1)))));refine qv #[_,Z,g _ _ s.toks ?_ #[#[o2,m1,m2,?_],ER m u d] λb o a e=>(m.2 b (~~~a)).trans e]
  .rw[se,uW,C];rfl
  .rw[X];simp[rawInt,Cc]
 done:=λs Q E ⟨c,d⟩ g=>by
  let N:t.place.size=es.size:=by have:=f;simp only[SetTable.fits,rB,NS]at this;exact this.1
  let hn:es[SetTable.below t.place (Cc t es.size)]?=O:=by
   let L:es.size=0\/es.size=1:=by lia
   rcases L with z | z
   .simp[z]
   .let e1:∃j,t.place=↑[j]:=by
     have:t.place.size=1:=by lia
     exact ZpA this
    let#[j,D]:=e1;have:Cc t es.size=j+1:=by unfold Cc;rw[qe ∅,D];rfl
    rw[this,D,Zlb];simp[z]
  calc DV c d q f (qd (ME d q f a H n ?_));rw[hn];dsimp only;let#[x,p,G,l]:=id c;calc qd (vV p l {} ?_);let m:=uG s.heap I (Obj.mapFields (·.setIfInBounds 2 Value.none));exact Hk (A:=A) hh λy k=>g y s.toks λb o a e=>k b o ((m.2 b (~~~a)).trans e)
 self:=λi s Q E ⟨c,_⟩ g=>G5 c g
def ZiZ (b:s.heap.get? S=U o)(c:o.data=.set es ep t)(a:t.fits es.size=Y)(d:es[p]?=U e)(h:Q e.2 s):wpAny (model prog w) A (setNextDrawn S p ep) Q E s:=by unfold setNextDrawn;calc qd (Cj b c a ?_);dsimp only;rw[qe {},d];calc qv h
def Zg9 {tp:AD}{a:p9}(hh:A.handled=O)(z:S≠I)(C:tp≠I)(G:o.data=.set es ep t)(F:t.fits es.size=Y)(y:a.Perm (List.range es.size)):
  Walks prog w A I [I,S,tp] [I] es.size (λi v=>(a.map λp=>(es.getD p (0,.none)).2)[i]?=U v) (λi h=>jO h I S (.ref tp) i es.size ep/\h.get? S=U o/\h.get? tp=U { cls:=.type "tuple",data:=.seq ↑(a.map (λi=>Value.int ((i:Nat):Int) 0)) }) where
 sub:=λb d=>by simp at d;simp[d]
 frame:=λi h K ⟨⟨D,W,r⟩,X,T⟩ H=>#[#[D,H I {} _ W,r],H S {} _ X,H tp {} _ T]
 item:=λi s Q E hi ⟨c,n,u⟩ l=>by
  let L:⇑a=es.size:=by rw[y.length_eq,uY]
  let f:i<⇑a:=by lia
  let g:a[i]?=U a[i]:=rD f;let M:a[i]<es.size:=sT.mp (y.mem_iff.mp (xu f));let P:es[a[i]]?=U es[a[i]]:=by simp[M]
  calc Nm c n G F (qd (wpAny_seqItems u Z ?_));dsimp only;let x:(↑(a.map (λi=>Value.int ((i:Nat):Int) 0)))[i]?=U (Value.int ((a[i]:Nat):Int) 0):=by simp[g]
  rw[x];dsimp only;calc qd (ZiZ n G F P ?_);let#[D,q,B,j]:=id c;calc qd (vV q j {} ?_);let#[o2,m1,m2,m3]:=Ca (v:=rawInt ((i:Int)+1)) (k:=1) q B j;let m:=uG s.heap I (Obj.mapFields (·.setIfInBounds 1 (rawInt ((i:Int)+1))));refine qv #[_,Z,l _ _ s.toks ?_ #[#[o2,m1,m2,?_],ER m z n,ER m C u] λb o d e=>(m.2 b (~~~d)).trans e]
  .rw[se,g];simp[M]
  .rw[m3];simp[rawInt]
 done:=λs Q E ⟨c,n,u⟩ l=>by
  let L:⇑a=es.size:=by rw[y.length_eq,uY]
  calc Nm c n G F (qd (wpAny_seqItems u Z ?_));dsimp only;let x:(↑(a.map (λi=>Value.int ((i:Nat):Int) 0)))[es.size]?=O:=by simp[L]
  rw[x];dsimp only;let#[D,q,B,j]:=id c;calc qd (vV q j {} ?_);let#[o1,N,k2,V]:=Ca (v:=rawInt 0) (k:=0) q B j;calc qd (vV N V {} ?_);let m:=(uG s.heap I (Obj.mapFields (·.setIfInBounds 0 (rawInt 0)))).trans (uG _ I (Obj.mapFields (·.setIfInBounds 2 Value.none)));exact Hk (A:=A) hh λK k=>l K s.toks λb o d e=>k b o ((m.2 b (~~~d)).trans e)
 self:=λi s Q E ⟨c,_⟩ l=>G5 c l
end
def ZgG:typeLookup (.type "set") "__len__"=pure (U (.builtin "set.__len__")):=by rw[typeLookup_type,builtinLookup_eq_fast];kernel_rfl
section
def ZiH {es:Array (Int×Value)}{a:p9}(b:a.Perm (List.range es.size)):(a.map λp=>(es.getD p (0,.none)).2).Perm (es.toList.map (·.2)):=by
 let q:=b.map (λp=>(es.getD p (0,.none)).2);calc q.trans (.of_eq ?_);apply vO
 .simp
 .intro n e c;let d:n<es.size:=by simpa using c
  simp[d]
def Zi5 (T:iK prog w s.heap S ls (!sI w))
  (h:∀(F:Heap)(d:Drawn)(I:AD)(n:List AD)(vs:AC)(ms:qi)(St:Nat->Heap->Prop),(∀a:AH,a.handled=O->Walks prog w a I n [I] ⇑ls (λi v=>vs[i]?=U v) St)->St 0 F ->
   (∀b∈n,b=S\/↥s<=b)->↥s<=I->(∀b o,s.heap.get? b=U o->F.get? b=U o)->ms.Perm ls->hJ (ms.map tx) vs->Q (.ref I) { s with heap:=F,drawn:=d }):
  wpAny (model prog w) A (pyIter (.ref S)) Q E s:=by
 let#[o,g,u,t,ms,m,G,B,N,y,k,D,p,x,j]:=T;let f:g.size=⇑ls:=by let q:=⇑x;rw[qm,qm]at q;rw[<-su,<-q,p.length_eq]
 let M:=qQ m;refine Zl2 m G B y (fits_of_scanBound j) (λhc=>?_) λps d K=>?_
 .let r:S≠↥s:=rK M;let L:(s.heap.push ({ cls:=.type "set_iterator",data:=.fields ↑[.int 0 0,.int 0 0,.ref S,.int g.size 0,.int u 0] }:Obj)).get? ↥s=U { cls:=.type "set_iterator",data:=.fields ↑[.int 0 0,.int 0 0,.ref S,.int g.size 0,.int u 0] }:=rS _ Z;let n:∀b∈[↥s,S],b=S\/↥s<=b:=λb j=>by
   rcases qS.mp j with z | z
   .exact .inr (vK z.symm)
   .exact .inl (~~~z)
  cases hby:sI w with
  | true=>
   let#[c,C,H]:=FO ((Hx (next:=w.params.setOrder S u) (xs:=g)).map (·.2)) x;let W:∀a:AH,a.handled=O->_:=λa l=>Zjn (prog:=prog) (w:=w) (A:=a) (I:=↥s) (S:=S) (o:=o) l r B y hby;rw[f]at W;exact h _ s.drawn _ _ _ c _ W #[#[_,L,Z,by rw[f];rfl],qU _ m] n (qG _) (λb o e=>qU _ e) (C.trans p) H
  | false=>
   let V:g.size<=1:=by
    rcases hc with z | z | z
    .rw[hby]at z;cases z
    .rw[D z];exact rM _
    .exact z
   let X:t.led=Y:=by rw[k,hby];rfl
   let W:∀a:AH,a.handled=O->_:=λa l=>Zjo (prog:=prog) (w:=w) (A:=a) (I:=↥s) (S:=S) (o:=o) l r B y hby X V;rw[f]at W;exact h _ s.drawn _ _ _ ms _ W #[#[_,L,Z,by rw[f];rfl],qU _ m] n (qG _) (λb o e=>qU _ e) p x
 .let r:S≠↥s+1:=rK (Nat.lt_succ_of_lt M);let P:↥s≠↥s+1:=rK (Nat.lt_succ_self _);let#[c,C,H]:=FO (ZiH K) x;let W:∀a:AH,a.handled=O->_:=λa l=>Zg9 (prog:=prog) (w:=w) (A:=a) (I:=↥s+1) (S:=S) (o:=o) (tp:=↥s) l r P B y K;rw[f]at W;refine h _ d _ _ _ c _ W #[#[{ cls:=.type "set_iterator",data:=.fields ↑[.ref ↥s,.int 0 0,.ref S,.int g.size 0,.int u 0] },?_,Z,by rw[f];rfl],qU _ (qU _ m),qU _ (rS _ Z)] ?_ (vt _) (λb o e=>qU _ (qU _ e)) (C.trans p) H
  .rw[<-vD];exact rS _ Z
  .intro b j;rcases qS.mp j with z | z
   .exact .inr (by rw[z];calc vt _)
   .rcases qS.mp z with z | z
    .exact .inl z
    .let z:b=↥s:=by simpa using z
     calc .inr (vK z.symm)
def ZhH (hh:A.handled=O)(V:iK prog w s.heap S ls (!sI w))(hn:⇑ls<=sizeLine)
  (hQ:∀(s':AE)(vs:AC)(ms:qi),(∀b o,s.heap.get? b=U o->s'.heap.get? b=U o)->s'.gens=s.gens->s'.os=s.os->ms.Perm ls->hJ (ms.map tx) vs->Q vs s'):wpAny (model prog w) A (collect (.ref S)) Q E s:=by
 unfold collect;calc qd (wpAny_runValue (codeAny_builtin F.entry_proto_collect ?_));rw[xE F.plain_proto_collect _];show wpAny _ A.in1 (newList [] >>= λl=>again (.builtin "list.__iadd__" #[[l,.ref S],[]])) _ _ s;calc qd (x8 (qv #[plainId_quiet F.plain_list_iadd _,codeAny_builtin F.entry_list_iadd ?_]));rw[xE F.plain_list_iadd _];generalize hH:s.heap.push { cls:=.type "list",data:=.seq ↑([]:AC) }=H;let h:H.objs.size=↥s+1:=by rw[<-hH,vD]
 let hL:H.get? ↥s=U { cls:=.type "list",data:=.seq ↑([]:AC) }:=hH▸rS _ Z;let M:∀b o,s.heap.get? b=U o->H.get? b=U o:=λb o e=>hH▸qU _ e;let g:iK prog w H S ls (!sI w):=V.keep λo e=>M S o e;let hT:Shared.TypeIs { s with heap:=H } (.ref S) "set":=g.typ (s:={ s with heap:=H });let N:S≠↥s:=by let#[o,_,_,_,_,ho,_]:=V;exact rK (qQ ho)
 show wpAny _ A.in1 (Builtin.List.listExtendWith (.ref ↥s) (.ref S) (.ref ↥s)) _ _ { s with heap:=H };unfold Builtin.List.listExtendWith;calc qd (wpAny_typeOf hT ?_);let h1:Builtin.List.listSameRef (.ref ↥s) (.ref S)=J:=by simp[Builtin.List.listSameRef,qy N]
 let h2:(Value.type "set" == Value.type "list")=J:=by decide
 let h3:(Value.type "set" == Value.type "tuple")=J:=by decide
 simp only[h1,h2,h3,Bool.or_false,yY,if_false];calc qd (Zi5 (s:={ s with heap:=H }) g λc d I fp vs ms St W st D hI x P X=>?_);let f:Shared.TypeIs { s with heap:=c,drawn:=d } (.ref S) "set":=(g.keep λo e=>x S o e).typ (s:={ s with heap:=c,drawn:=d });calc qd (uI ?_);unfold Builtin.List.listLengthHint;refine qd (wpAny_specialOf f ZgG ?_)
 wp_delta
 calc qd (wpAny_isInstance (T:="set") (v:=.ref S) (b:=Y) f (by rw[isSubtype_type];kernel_rfl) ?_);show wpAny _ A.in1 (typeOf (Value.ref S) >>= λr=>_) _ _ _;calc qd (wpAny_typeOf f ?_);calc qv ?_;rw[qg ⋯];calc qd (vk ?_);let i:c.get? ↥s=U { cls:=.type "list",data:=.seq ↑([]:AC) }:=x _ _ hL;calc qd ?_;show wpAny _ A.in1 (updateSeq ↥s (·.push .none) >>= λ_=>updateSeq ↥s (·.pop)) _ _ _;calc qd (wpAny_updateSeq i Z ?_);let p:=xD (Obj.mapSeq (·.push Value.none)) i Z;calc wpAny_updateSeq p Z ?_;let K:=xD (Obj.mapSeq (·.pop)) p Z;let m:∀b o,b≠↥s->c.get? b=U o->((c.update ↥s (Obj.mapSeq (·.push Value.none))).update ↥s (Obj.mapSeq (·.pop))).get? b=U o:=
  λb o t e=>(wj _ _ (qy t)).trans ((wj _ _ (qy t)).trans e)
 let G:↥s+1<=I:=by rw[<-h];exact hI
 let k:↥s∉fp:=λz=>by
  rcases D _ z with q | q
  .exact N q.symm
  .let q':H.objs.size<=↥s:=q;rw[h]at q';exact NR q' (Nat.not_succ_le_self _)
 calc qv #[plainId_quiet F.plain_extend_loop _,codeAny_extend_loopS (W A.in1 hh).toS hn _ k _ ⇑ls 0 _ _ _ Z (rM _) ((W A.in1 hh).frame 0 c _ st λb t o e=>m b o (λz=>k (z▸t)) e) K (ItemsOf.nil _) λs' a c' u y C=>?_];show wpAny _ A (load ↥s >>= λr=>_) _ _ s';calc qd (wpAny_load y ?_);let B:a.toList=vs:=by
  let hl:⇑vs=⇑ls:=by rw[<-⇑X,qm,P.length_eq]
  apply zO;intro j;rw[uW];by_cases hj:j<⇑ls
  .let L:j<a.size:=by rw[C.1];exact hj
   let e:a[j]?=U a[j]:=by simp[L]
   rw[e,C.2 j _ e]
  .rw[Array.getElem?_eq_none (by rw[C.1];lia),wP ∅]
 let done:=hQ s' vs ms (λb o e=>by
  let n:=qQ e;calc u.heap b o (λz=>?_) (m b o (rK n) (x b o (M b o e)));rcases qS.mp z with q | q
  .rw[q]at n;exact tJ _ n
  .let q:b=I:=by simpa using q
   rw[q]at n;calc NR n (Nat.not_lt.mpr (Nat.le_of_succ_le G))) u.gens u.os P X
 rw[<-B]at done;calc qv done
end
noncomputable def vh (a b:p9):Bool:=!R (b<a)
def sU (ls:qi):qi:=ls.mergeSort vh
def wR:vh a b=Y↔a<=b:=by unfold vh;rw[Bool.not_eq_true',NP];calc List.not_lt
def vP (ls:qi):(sU ls).Perm ls:=List.mergeSort_perm _ _
def ED (ls:qi):(sU ls).Pairwise (λa b=>vh a b=Y):=
 List.pairwise_mergeSort (le:=vh) (λa b c d e=>wR.mpr (List.le_trans (wR.mp d) (wR.mp e))) (λa b=>Bool.or_eq_true_iff.mpr ((List.le_total a b).imp wR.mpr wR.mpr)) ls
def Hg (p:ms.Perm ls)(h:ms.Pairwise (λa b=>vh a b=Y)):ms=sU ls:=
 List.Perm.eq_of_pairwise (λa b _ _ c d=>List.le_antisymm (wR.mp c) (wR.mp d)) h (ED ls) (p.trans (vP ls).symm)
def Zhh (p:ms.Perm ls):sU ms=sU ls:=Hg ((vP ms).trans p) (ED ms)
theorem K8:∀ {us:AC} {ss:AJ},StrsAre us ss->hJ ((ss.map λx=>x.cps.toList).map tx) us
 | _,_,.nil=>.nil
 | _,_,.cons x t h=>.cons #[t,Z] (K8 h)
def Zfo:∀ {ss:AJ},sortedS ss=Y->(ss.map λx=>x.cps.toList).Pairwise (λa b=>vh a b=Y):=by
 let d:∀(p:Str)(l:AJ),risingS p l=Y->((p::l).map λx=>x.cps.toList).Pairwise (λa b=>vh a b=Y):=by
  intro p l;induction l generalizing p with
  | nil=>intro _;simp
  | cons x r g=>
   intro h;let c:(!ltCps x.cps.toList p.cps.toList&&risingS x r)=Y:=h;rw[rB,ltCps_eq]at c;let q:=g x c.2;rw[rC,u9];calc#[λb f=>?_,q];let e:vh p.cps.toList x.cps.toList=Y:=c.1;rw[rC]at f q;rcases qS.mp f with z | z
   .rw[z];exact e
   .exact wR.mpr (List.le_trans (wR.mp e) (wR.mp ((u9.mp q).1 b z)))
 intro ss h;cases ss with
 | nil=>simp
 | cons x r=>calc d x r h
def ZjD {us:AC}{ls:qi}(r:hJ (ls.map tx) us):StrsAre us (ls.map λl=>(#[↑l]:Str)):=FW r
def Zmp (ls:qi):(ls.map λl=>(#[↑l]:Str)).map (λx=>x.cps.toList)=ls:=by
 rw[rO]
 conv=>rhs;rw[<-List.map_id ls]
 apply zk;intro l _;simp
section
end
structure uS (B:Heap)(l:List Env)(e:AD)(C:Value)(d:Option AD)(fl:Value)(h:Heap):Prop where
 st:B.StaysIn h
 ne:B.get? e=O
 fr:h.FunFrames B l
 tr:∃oe vs T oT ts,h.get? e=U oe/\oe.cls=C/\oe.dict=d/\oe.data=.fields vs/\vs[1]?=U (.ref T)/\B.get? T=O/\T≠e/\h.get? T=U oT/\oT.data=.fields ts/\ts[3]?=U fl
def Zmi (o:Obj)(f:Array Value->Array Value):(o.mapFields f).dict=o.dict:=by let#[c,d,a,b]:=o;cases a<;>rfl
section
variable {M:Model}{A:AH}{E:rh}{s:AE}{B:Heap}{env:Env}{outer:List Env}{L e:AD}{C:Value}{d:Option AD}{Q:Unit->AE->Prop}
def Mu (v:A.frames=U (env::outer))(l:s.heap.FunFrames B (env::outer))(V:env.frame=U L)(r:s.heap.get? e=U oe)(w:B.StaysIn s.heap)(j:B.get? e=O)
  (W:oe.cls=C) (y:oe.dict=d) (m:oe.data=.fields vs) (hsz:1<vs.size) (h:∀h',uS B (env::outer) e C d (rawInt L) h'->s.heap.UpToSlots h'->Q () { s with heap:=h' }):
  wpAny M A (do let a <-frameOf env;let pl <-entryPlaceOf L hadNext;let b <-EntryCells.newEntry head a .none (rawInt L) .none pl;setField (.ref e) 1 b) Q E s:=by
 let i:e∉(env::outer).filterMap (·.frame):=λt=>by let#[_,o,I,p]:=l.mem t;rw[r]at I;cases I;exact p vs m
 calc qd (wpAny_frameOf_fun v l V λh1 k=>qd (wpAny_entryPlaceOf λpl u=>?_));unfold EntryCells.newEntry newFields;calc qd (x8 ?_ (u.sizeOk5 _ _ _ _ _));let K:h1.get? e=U oe:=(k.2.1 e i).trans r;let D:B.StaysIn h1:=λb o g=>(k.2.1 b λt=>by rw[(l.mem t).1]at g;cases g).trans (w b o g);generalize eT:({ cls:=.type "traceback",dict:=O,data:=.fields ↑([head,.ref L,.none,rawInt L,.none]++(if pl.isEmpty then List.replicate 6 Value.none else pl)) }:Obj)=oT;let N:(h1.push oT).get? e=U oe:=qU _ K;calc vV N m hsz ?_;let G:h1.objs.size≠e:=Nat.ne_of_gt (qQ K);let H:=Cy m (·.setIfInBounds 1 (Value.ref h1.objs.size));let T:=xD (Obj.mapFields (·.setIfInBounds 1 (Value.ref h1.objs.size))) N (Obj.isFreed_of_fields H);let P:((h1.push oT).update e (Obj.mapFields (·.setIfInBounds 1 (Value.ref h1.objs.size)))).get? h1.objs.size=U oT:=by rw[wj _ _ (qy G)];calc rS _ ?_;rw[<-eT];rfl
 let c:∀b o,b≠e->h1.get? b=U o->((h1.push oT).update e (Obj.mapFields (·.setIfInBounds 1 (Value.ref h1.objs.size)))).get? b=U o:=λb o S q=>by rw[wj _ _ (qy S)];exact qU _ q
 let f:∀b o,s.heap.get? b=U o->(∀vs,o.data≠.fields vs)->b≠e:=λb o q n z=>by rw[z,r]at q;cases q;exact n vs m
 let dT:oT.data=.fields ↑([head,.ref L,.none,rawInt L,.none]++(if pl.isEmpty then List.replicate 6 Value.none else pl)):=by rw[<-eT]
 refine h _ #[λb o q=>c b o (λz=>by rw[z,j]at q;cases q) (D b o q),j,l.of_keeps λb o q n=>?_,_,_,h1.objs.size,oT,_,T,(Obj.cls_mapFields _ _).trans W,(Zmi _ _).trans y,H,?_,D.fresh,G,P,dT,?_] λb o q n=>?_
 .obtain⟨F,x⟩:=k.2.2 b o q;exact#[_,c b _ (f b o q n) x,Z]
 .simp[hsz]
 .simp
 .obtain⟨F,x⟩:=k.2.2 b o q;calc#[F,c b _ (f b o q n) x]
def ZiY (a:A.frames=U (env::outer))(l:s.heap.FunFrames B (env::outer))(i:env.frame=U L)(g:s.heap.get? e=U oe)(b:B.StaysIn s.heap)(c:B.get? e=O)
  (m:oe.cls=C) (f:oe.dict=d) (j:oe.data=.fields vs) (k:vs[1]?=U .none) (h:∀h',uS B (env::outer) e C d (rawInt L) h'->s.heap.UpToSlots h'->Q () { s with heap:=h' }):wpAny M A (noteFrame (.ref e) env) Q E s:=by
 unfold noteFrame;simp only[i];calc qd (wpAny_field g j k ?_);rw[qe ⋯];calc Mu a l i g b c m f j (Ct.mp k).1 h
def KR (g:A.frames=U (env::outer))(w:env.frame=U L)(x:uS B (env::outer) e C d .none s.heap)(h:∀h',uS B (env::outer) e C d (rawInt L) h'->s.heap.UpToSlots h'->Q () { s with heap:=h' }):
  wpAny M A (noteFrame (.ref e) env) Q E s:=by
 let#[i,m,H,K,vs,T,N,F,r,I,p,D,v,k,l,j,f,t]:=x;unfold noteFrame;simp only[w];calc qd (wpAny_field r D v ?_);rw[qg (show (Value.ref T != Value.none)=Y from by simp)];calc qd (wpAny_field j f t ?_);rw[qe (show ¬((Value.none == rawInt L)=Y) from by simp[rawInt])];calc qd (vV j f (Ct.mp t).1 ?_);let a:∀b,b≠T->(s.heap.update T (Obj.mapFields (·.setIfInBounds 3 Value.none))).get? b=s.heap.get? b:=λb G=>wj _ _ (qy G);let c:∀b o,s.heap.get? b=U o->(∀vs,o.data≠.fields vs)->b≠T:=λb o q n z=>by rw[z,j]at q;cases q;exact n F f
 refine Mu (s:={ s with heap:=s.heap.update T (Obj.mapFields (·.setIfInBounds 3 Value.none)) }) g (H.of_keeps λb o q n=>#[o,(a b (c b o q n)).trans q,Z]) w ((a e (qy l)).trans r)
  (λb o q=>(a b λz=>by rw[z,k]at q;cases q).trans (i b o q)) m I p D (Ct.mp v).1 λh' y u=>h h' y λb o q n=>u b o ((a b (c b o q n)).trans q) n
def Dw (x:uS B l e C d fl s.heap)(h:∀h',uS B l e C d .none h'->s.heap.UpToSlots h'->Q () { s with heap:=h' }):wpAny M A (setFlight (.ref e) O) Q E s:=by
 let#[k,p,H,G,vs,T,K,v,u,I,r,y,w,i,j,m,a,D]:=x;let t:3<v.size:=(Ct.mp D).1;let c:∀b,b≠T->(s.heap.update T (Obj.mapFields (·.setIfInBounds 3 ((O:Option AD).elim Value.none λf=>rawInt f)))).get? b=s.heap.get? b:=λb F=>wj _ _ (qy F);let g:∀b o,s.heap.get? b=U o->(∀vs,o.data≠.fields vs)->b≠T:=λb o q n z=>by rw[z,m]at q;cases q;exact n v a
 unfold setFlight;calc qd (wpAny_field u y w ?_);rw[qg (show (Value.ref T != Value.none)=Y from by simp)];refine vV m a t (h _ ⟨λb o q=>(c b λz=>by rw[z,i]at q;cases q).trans (k b o q),p,H.of_keeps λb o q n=>⟨o,(c b (g b o q n)).trans q,Z⟩,G,vs,T,_,_,(c e (qy j)).trans u,I,r,y,w,i,j,
  xD _ m (Obj.isFreed_of_fields (Cy a _)),Cy a _,by simp[t]⟩ λb o q n=>⟨o.slots,(c b (g b o q n)).trans q⟩)
def uS.pop (x:uS B (env::outer) e C d fl h):uS B outer e C d fl h:=#[x.st,x.ne,x.fr.2.2,x.tr]
def Zht (a:A.frames=U (env::outer))(k:s.heap.FunFrames B (env::outer))(m:env.frame=U L)(l:s.heap.get? e=U oe)(b:B.StaysIn s.heap)(c:B.get? e=O)
  (o:oe.cls=C) (g:oe.dict=d) (q:oe.data=.fields vs) (f:vs[1]?=U .none) (h:∀h',uS B outer e C d .none h'->s.heap.UpToSlots h'->Q () { s with heap:=h' }):wpAny M A (leaving env (.ref e)) Q E s:=by
 unfold leaving;calc qd (ZiY a k m l b c o g q f λf i n=>Dw (s:={ s with heap:=f }) i λr j p=>h r j.pop (n.trans p))
def Zi3 (a:A.frames=U (env::outer))(f:env.frame=U L)(x:uS B (env::outer) e C d .none s.heap)(h:∀h',uS B outer e C d .none h'->s.heap.UpToSlots h'->Q () { s with heap:=h' }):wpAny M A (leaving env (.ref e)) Q E s:=by unfold leaving;calc qd (KR a f x λj b g=>Dw (s:={ s with heap:=j }) b λk c i=>h k c.pop (g.trans i))
end
open PySem.W (Frag findIn typeIn mroIn clsIn InstAt Looks)
noncomputable def xr (a C:AD)(d:Option AD):HO:=.ext λh=>∃(o:Obj)(vs:Array Value),h.get? a=U o/\o.cls=.ref C/\o.dict=d/\o.data=.fields vs
def Jm (b:h.get? e=U o)(j:o.cls=.ref C)(g:o.dict=d)(c:o.data=.fields vs):iA P w H h e (xr e C d):=
 #[#[o,vs,b,j,g,c],#[o,b],λl m ⟨i,a,f,q⟩ k=>#[i,a,k _ f,q]]
inductive jq (H:Hp)(e C:AD):List (Str×V)->Prop where
 | un {fs:List (Str×V)}:vi H e C fs->jq H e C fs
 | bare:H e=U (xr e C O)->jq H e C []
 | full {d:AD} {fs:List (Str×V)}:H e=U (xr e C (U d))->H d=U (B9 d fs)->d≠e->jq H e C fs
section
def ZjU (H:A.handled=O)
  (h:wpAny M A x (λv s_1=>∃(e t:AD) (od:Option AD) (o:Array (Option Value)) (C:AD) (y q:Str) (N:AD) (w i:AC) (z:Bool) (m:AJ) (c:AC) (D:Bool) (f:Option Bool) (dd:Option AD) (u l r p B:Option Value) (a:String),v=.ref e/\i.contains (.type "BaseException")=Y /\
   s_1.heap.get? C=U (excClassObj y q C N w i z m c D f dd u l r p B a)/\s_1.heap.get? e=U { cls:=.ref C,dict:=od,data:=.fields ↑[.ref t,.none,.none,.none,.bool J,.none],slots:=o }/\E (.ref e) s_1) E s):wpAny M A (raiseStmt env (U x) O) Q E s:=by
 unfold raiseStmt;calc qd (tw h (λv s_1 k=>?_) λ_ _ x=>x);let#[e,t,od,o,C,y,q,N,w,i,z,m,c,D,f,dd,u,l,r,p,B,a,Z,b,n,F,G]:=k;let j:(Value.ref C::i).contains (.type "BaseException")=Y:=by rw[zV,b,Bool.or_true]
 let#[K,g,d,L,I]:=s_1;repeat (first | with_reducible calc wM F ?_ | with_reducible calc wM n ?_ | (with_reducible calc Ds n ?_;rw[j]) | wp_step)
 calc wpAny_raiseNew_none H G
end
def rP (P:AG)(w:AI):v0:=λa H s E h g=>∃(e C:AD)(d:Option AD)(c:Hp)(f B:Heap),h=.ref e/\g.os=s.os/\AllBare g.gens/\Un (rZ a) [] H c s.heap f/\rQ P w c f/\c e=U (xr e C d) /\
 (∀b o,f.get? b=U o->b≠e->((∃u,c b=U u)\/((∃o',s.heap.get? b=U o')/\b∉rZ a))->B.get? b=U o)/\uS B a e (.ref C) d .none g.heap/\f.UpToSlots g.heap/\E (.ref C) (U e) c
def lm (X:Cx)(a:XK):Prop:=∀(b:AA)(σ:St)(H:Hp)(s:AE)(e C:AD)(d:Option AD),qb X b σ H s->H e=U (xo e C d)->a (.ref C) (U e) (upd H e (xr e C d))->X.xe (.ref e) s
def qb.raised (I:qb X A1 σ H s)(h:H e=U (xo e C d)):qb X A1 σ (upd H e (xr e C d)) s:=by let#[o,t,a,f,g,c]:=zc I h;calc I.write (x:=e) (e:=e) (o:=xr e C d) (h':=s.heap) (t':=s.toks) (by rw[h];calc trivial) (.inl Z) (λb u _ q=>q) #[o,a] (Jm a f g c)
def Zog (e:(hideAll h as).get? b=U o):h.get? b=U o:=of_hideAll _ e
def Bq {P:AG}{w:AI}{K:Frag}{M:AB}{h:Heap}{N:AJ}{g:Str}{c:Scope}{f:AD}{cd:Value}{A:AH}{outer:List Env}{s0:AE}{H0:Hp}{E:XK}:
  lm (jj (rP P w) P w K M h N g c f cd A outer s0 H0 E) E:=by
 intro A1 σ H s e C d I G hE;let#[o,t,h1,h2,h3,h4]:=zc I G;let m:=I.raised G;generalize hX:jj (rP P w) P w K M h N g c f cd A outer s0 H0 E=X at I m ⊢;let eA:X.A=A.deeper (envOfC g c ↥s0 f cd):=by rw[<-hX];rfl
 let D:X.stack=envOfC g c ↥s0 f cd::outer:=by rw[<-hX];rfl
 let W:X.fs=rZ outer:=by rw[<-hX];rfl
 let V:X.s_0=s0:=by rw[<-hX];rfl
 let eH:X.H_0=H0:=by rw[<-hX];rfl
 let eX:X.ex=[]:=by rw[<-hX];rfl
 let eL:X.env=envOfC g c ↥s0 f cd:=by rw[<-hX];rfl
 let v:X.prog=P:=by rw[<-hX];rfl
 let eW:X.w=w:=by rw[<-hX];rfl
 let y:∀n s',wpAny (model P w) (A.deeper (envOfC g c ↥s0 f cd)) (leaving (envOfC g c ↥s0 f cd) n) (λ_ j=>rP P w outer H0 s0 E n j) (λe' j=>rP P w outer H0 s0 E e' j) s'->X.xe n s':=by intro n s' z;rw[<-hX];exact z
 calc y _ _ ?_;let r:(A.deeper (envOfC g c ↥s0 f cd)).frames=U (envOfC g c ↥s0 f cd::outer):=by rw[<-eA,<-D];exact I.ok.frames
 let p:s.heap.FunFrames X.base X.stack:=I.stack;let F:∀env∈X.stack,∀a,env.frame=U a->a∈rZ X.stack++[e]:=λenv k a ha=>wO _ (List.mem_filterMap.mpr #[env,k,ha]);let S:=PySem.W.funFrames_hide (as:=rZ X.stack++[e]) p F;rw[D]at S;let i:(hideAll s.heap (rZ (envOfC g c ↥s0 f cd::outer)++[e])).StaysIn s.heap:=λb o q=>Zog q;calc Zht (B:=hideAll s.heap (rZ (envOfC g c ↥s0 f cd::outer)++[e])) (L:=↥s0) r S Z h1 i (hideAll_none _ {}) h2 h3 h4 {} λh' fl up=>?_;let os:s.os=s0.os:=by rw[<-V];exact I.os
 let un:Un (rZ outer) [] H0 (upd H e (xr e C d)) s0.heap s.heap:=by
  have:=m.base
  rwa [W,eX,eH,V]at this
 let ok:rQ P w (upd H e (xr e C d)) s.heap:=by
  have:=m.hok
  rwa [v,eW]at this
 calc#[e,C,d,upd H e (xr e C d),s.heap,_,Z,os,I.bare,un,ok,qu,λb o hb x hc=>?_,fl,up,hE];calc hideAll_get _ hb λz=>?_;rcases rJ.mp z with z | z
 .let T:b∈rZ X.stack:=by rw[D];exact z
  rcases hc with⟨u,Q⟩|⟨⟨o',l⟩,hn⟩
  .rw[m.stkFree b T]at Q;cases Q
  .rcases qS.mp (I.stkSub b T) with q | q
   .rw[q,eL]at l;exact NR (qQ l) (tJ _)
   .rw[W]at q;exact hn q
 .exact x (~~~z)
def J3 (K:Frag)(c:XK)(b:TE):TS:=λ_ σ H=>b σ H λv a=>∃e C d,v=.ref e/\a e=U (xo e C d)/\Xm K C/\c (.ref C) (U e) (upd a e (xr e C d))
def BR (W:lm X Ex)(hc:X.calm=Y)(w:PE X e te):PS X (.Raise (U e) O pos) (J3 X.K Ex te):=by intro n s σ H D I h;rw[arm_exec_Raise];show wpAny _ X.A (do standAt pos;raiseStmt X.env (U (do let v <-eval e X.env;standAt pos;pure v)) O) _ _ s;calc qd (wpAny_standAt ?_);calc ZjU (I.ok.hd hc) (qd (qx (w n s σ H _ I h) λv s1 ⟨x,K,g,B,a,C,d,A,k,m,q⟩=>qd (wpAny_standAt (qv ?_))));subst A;obtain rfl:v=Value.ref a:=B;let#[o,t,M,p,l,j]:=zc g k;let#[T,S,N,P,r,A8,y,b,ab,i,dd,L,u,G,E,k5,V,f]:=m.parts;let#[oc,Q,aa,F]:=o;dsimp only at p l j;subst p l j;let c:(Value.ref C::r).contains (.type "BaseException")=Y:=Bt nofun f;rw[zV]at c;calc#[a,t,_,_,C,T,S,N,P,r,A8,y,b,ab,i,dd,L,u,G,E,k5,_,Z,?_,g.kIn _ _ V,M,W n σ K s1 a C _ g k q];let z:(Value.type "BaseException" == Value.ref C)=J:=rfl;rw[z,Bool.false_or]at c;calc c
section
variable {P:AG}{w:AI}{K:Frag}{mg:AB}{base:Heap}
def uE.okX {x b:Str}{st:Stmt}{f:AD}{j:AF}{N e:AJ}{k:Nat}{sp:Sp}(F:uE K x b st f j)(S:g6 N e (uc st))
  (c:∀(d:Value)(A:AH)(a:List Env)(s:AE)(H:Hp)(vs:NU)(Q:VK)(E:XK),iJ k (A.deeper (envOfC b (uc st) ↥s f d))->sp vs H Q E ->
   ∃t,uk (jj (rP P w) P w K mg base N b (uc st) f d A a s H E) (vC st) t/\t { nx:=λ_ H'=>Q .non H',rt:=Q } (start N vs) H)(h:autoParam (∀vs H Q E,sp vs H Q E->⇑vs=⇑e) Qv._auto_1):g9 P w K mg base (rP P w) (k+1) f j e sp:=by
 let#[u,p,kV,l,q,v,d,r,m,Z,o,g]:=F.ex;calc Fv o g S h λA a s H vs Q E n i=>c d A a s H vs Q E n i
end
abbrev TX:=St->Hp->VK->XK->Prop
def Mg (X:Cx)(e:Expr)(t:TX):Prop:=∀(a:AA)(s:AE)(σ:St)(H:Hp)(Q:VK)(E:XK),qb X a σ H s->t σ H Q E ->
 wpAny (model X.prog X.w) X.A (eval e X.env) (EP X a σ Q) (λd f=>∃c b,qb X a σ c b/\rP X.prog X.w X.stack c b E d f) s
abbrev Dt:=jn->(St->XK)->St->Hp->Prop
def XH (X:Cx)(d:AA)(f:St->XK)(e:Value)(s':AE):Prop:=∃a c b,qb X d a c b/\rP X.prog X.w X.stack c b (f a) e s'
def NA (X:Cx)(st:Stmt)(t:Dt):Prop:=∀(a:AA)(s:AE)(σ:St)(H:Hp)(D:jn)(b:St->XK),qb X a σ H s->t D b σ H->wpAny (model X.prog X.w) X.A (exec st X.env) (SP X a D) (XH X a b) s
def PSsx (X:Cx)(st:List Stmt)(t:Dt):Prop:=∀(a:AA)(s:AE)(σ:St)(H:Hp)(D:jn)(b:St->XK),qb X a σ H s->t D b σ H->wpAny (model X.prog X.w) X.A (execs st X.env) (SP X a D) (XH X a b) s
section
def ZnP (F:g9 X.prog X.w X.K X.mg X.base (rP X.prog X.w) k f fd ps sp)(j:iJ k X.A)(i:iP X.K fd ps ds)(l:hJ BA ds)
  (I:qb X A1 σ H s) (r:hJ vs us) (h:sp (vs++BA) H Q E):wpAny (model X.prog X.w) X.A (call (.ref f) us) (EP X A1 σ Q) (λev s'=>∃c b,qb X A1 σ c b/\rP X.prog X.w X.stack c b E ev s') s:=by
 let d:hJ (vs++BA) (us++ds):=r.append l;let g:⇑(us++ds)=⇑ps:=by rw[<-⇑d];exact F.len _ _ _ _ h
 calc vY (codeAny_mono (F.run X.A X.stack s H #[us,[]] (us++ds) (vs++BA) Q E j I.env0 (i s us I.kIn g) d h) λr s' a=>?_);cases r with
 | error e=>exact#[H,s,I,a]
 | ok m=>
  cases m with
  | ret u=>exact I.after a
  | next=>exact False.elim a
  | brk=>exact False.elim a
  | cont=>calc False.elim a
noncomputable def Ls (i:Nat)(b:TX):Dt:=λD c σ H=>b σ H (λy a=>D.nx (σ.set i (U y)) a) (c σ)
def ZnR (f:X.N.Nodup)(r:X.N[i]?=U x)(c:zW X.env.scope x)(g:Mg X e te)(p:autoParam (swapsWith e (U (.Name x pos')) pos.line X.env=pure J) Qq._auto_1)(l:autoParam (X.fn x=Y\/X.env.scope.names.lookup x=U .local) Qz._auto_1):
  NA X (.Assign [.Name x pos'] e pos) (Ls i te):=by
 intro j s σ H D u I h;calc wpAny_Assign_Name (tw (g j s σ H _ _ I h) (λv w ⟨y,o,k,d,n⟩=>?_) λt z ⟨m,b,a,q⟩=>#[σ,m,b,a,q]) p;calc Cs k f r c d (λb a=>#[_,o,a,n]) l
def ZlC {st:Stmt}{t:Dt}(b:NA X st t):PSsx X [st] t:=by
 intro c s σ H D a I h;calc wpAny_execs_cons (qx (b c s σ H D a I h) λf d q=>?_);cases f with
 | next=>exact Ck q
 | ret v=>exact q
 | brk=>exact q
 | cont=>calc q
end
section
variable {X:Cx}{A1:AA}{σ:St}{H H':Hp}{s s1:AE}{e C:AD}{d:Option AD}{h1 h5 B:Heap}
def Zjg (I:qb X A1 σ H s)(G:s1.os=s.os)(bare:AllBare s1.gens)(un:Un (rZ X.stack) [] H H' s.heap h1)(V:rQ X.prog X.w H' h1)(r:H' e=U (xr e C d))
  (f:∀b o,h1.get? b=U o->b≠e->((∃u,H' b=U u)\/((∃o',s.heap.get? b=U o')/\b∉rZ X.stack))->B.get? b=U o) (l:uS B X.stack e (.ref C) d .none h5) (F:h1.UpToSlots h5):
  qb X A1 σ H' { s1 with heap:=h5 }:=by
 let P:∀b o,s.heap.get? b=U o->H b=O->b≠e:=λb o q n z=>by have:=un.free b o q n {};rw[z,r]at this;cases this
 let i:∀b o,s.heap.get? b=U o->H b=O->b∉rZ X.stack->h5.get? b=U o:=λb o q n m=>
  l.st b o (f b o (un.keep b o q n m {}) (P b o q n) (.inr #[#[o,q],m]))
 let h:∀b o,s.heap.get? b=U o->H b=O->b∈rZ X.stack->∃t,h5.get? b=U { o with slots:=t }:=λb o q n g=>by let#[t,w]:=un.slot b o q n g {};let#[_,o',k,p]:=I.stack.mem g;rw[q]at k;cases k;let#[x,y]:=F b _ w p;exact#[x,y]
 let Cg:∀c u,(∃v,H' c=U v)->h1.get? c=U u->c≠e->h5.get? c=U u:=λc u Q q n=>l.st c u (f c u q n (.inl Q));refine I.call' (s':={ s1 with heap:=h5 }) (ch:=[]) G #[λb o q n m _=>i b o q n m,λb o q n g _=>h b o q n g,λb o q n _=>un.free b o q n {},λb o q _=>?_,un.tups,un.frzs,un.tbls] (λb A j=>?_) bare (λb j=>by cases j)
 .by_cases a:b=e
  .obtain⟨D,S,T,oT,K,h1,_⟩:=l.tr;exact#[D,by rw[a];calc h1]
  .cases hH:H b with
   | none=>
    by_cases g:b∈rZ X.stack
    .obtain⟨t,y⟩:=h b o q hH g;exact#[_,y]
    .exact#[o,i b o q hH g]
   | some u=>
    let#[o',w]:=un.there b o q {};by_cases g:b∈rZ X.stack
    .rw[I.stkFree b g]at hH;cases hH
    .exact#[o',l.st b o' (f b o' w a (.inr #[#[o,q],g]))]
 .by_cases a:b=e
  .subst a;rw[r]at j;cases j;let#[D,S,T,oT,K,W,M,L,N,_]:=l.tr;exact Jm W M L N
  .refine(V b A j).stay (λc u E q=>Cg c u ?_ q ?_) (λ_ q=>q) λ_ _ q=>q
   .rcases E with z | z
    .exact#[A,z▸j]
    .exact#[_,z]
   .rintro rfl;rcases E with z | z
    .exact a z.symm
    .rw[r]at z;cases z
end
noncomputable def sux (X:Cx)(e:AD):Cx:={ X with A:=X.A.mark (U (.ref e)),calm:=J,xe:=λ_ _=>False }
section
def qb.sux (I:qb X A1 σ H s)(e:AD):qb (L2.sux X e) A1 σ H s:=
 #[#[I.ok.mod,I.ok.kind,I.ok.glob,I.ok.blt,I.ok.above,I.ok.inj,I.ok.has,I.ok.cab,(λz=>by cases z),I.ok.frames,I.ok.stk,I.ok.exf,I.ok.bs,I.ok.bsz,I.ok.noex,I.ok.exfs,I.ok.funs,I.ok.frf],I.os,I.bare,I.base,I.loc,I.cell,I.free,I.freeC,I.pin,I.hok,I.len]
def qb.unsux (a:X.calm=Y->X.A.handled=O)(I:qb (L2.sux X e) A1 σ H s):qb X A1 σ H s:=
 #[#[I.ok.mod,I.ok.kind,I.ok.glob,I.ok.blt,I.ok.above,I.ok.inj,I.ok.has,I.ok.cab,a,I.ok.frames,I.ok.stk,I.ok.exf,I.ok.bs,I.ok.bsz,I.ok.noex,I.ok.exfs,I.ok.funs,I.ok.frf],I.os,I.bare,I.base,I.loc,I.cell,I.free,I.freeC,I.pin,I.hok,I.len]
def qb.unbind (I:qb X A1 σ H s)(L:X.N.Nodup)(N:X.N[i]?=U x)(F:∀(i:Nat)(x:Str)(v:V),X.N[i]?=U x->σ[i]?=U (U v)->Br X.env.scope x->∃u,ia v u/\Look X.env s.heap m x u)
  (w:h'.Ns X.env.locals (λy=>if y=x then v else m y)) (a:Heap.SameBut X.env.locals s.heap h'):qb X A1 (σ.set i O) H { s with heap:=h',toks:=t' }:=by
 let#[m0,T,_]:=id I.loc;let#[oL,_,_,aa,_]:=id T;let A:∀b o,X.s_0.heap.get? b=U o->b≠X.env.locals:=λb o e=>rK (sK (qQ e) I.ok.above);refine#[I.ok,I.os,I.bare,#[λb o e n r h=>(a.2 b (A b o e)).trans (I.base.keep b o e n r h),λb o e n r h=>?_,I.base.free,λb o e h=>?_,I.base.tups,I.base.frzs,I.base.tbls],#[_,w,λj y Q f g P=>?_],λy c e=>?_,I.free,I.freeC,λp K=>?_,λb M e=>?_,~~~I.len]
 .obtain⟨E,f⟩:=I.base.slot b o e n r h;exact#[E,(a.2 b (A b o e)).trans f]
 .obtain⟨S,f⟩:=I.base.there b o e h;exact#[S,(a.2 b (A b o e)).trans f]
 .let B:j≠i:=by
   rintro rfl;by_cases t:j<⇑σ
   .rw[List.getElem?_set_self t]at g;cases g
   .rw[List.set_eq_of_length_le (Nat.le_of_not_lt t),wP (Nat.le_of_not_lt t)]at g;cases g
  rw[List.getElem?_set_ne (qy B)]at g;let#[G,r',q]:=F j y Q f g P;calc#[G,r',?_];rcases q with⟨k,e⟩|⟨k,c,e,z⟩
  .refine .inl #[k,?_];have:y≠x:=λe=>B (FB L f (e▸N));simp[this,e]
  .exact .inr #[k,c,e,z.sameBut a (I.cne y c e)]
 .obtain⟨D,z⟩:=I.cell y c e;exact#[D,z.sameBut a (I.cne y c e)]
 .obtain⟨e,n,C,W,d⟩:=I.pin p K;exact#[(a.2 p.1 C).trans e,n,C,W,d]
 .refine(I.hok b M e).stay (λc D l q=>(a.2 c ?_).trans q) (λ_ q=>q) λ_ _ q=>q;rintro rfl;rcases l with z | l
  .rw[<-z,I.free]at e;cases e
  .rw[I.free]at l;cases l
end
abbrev TH:=Addr->AD->jn->St->Hp->Prop
def B1 (X:Cx)(c:List ExceptHandler)(f:TH):Prop:=∀(b:AA)(s:AE)(σ:St)(H:Hp)(D:jn)(e C:AD)(d:Option AD)(B:Heap),(∀a,uS B X.stack e (.ref C) d .none a->s.heap.UpToSlots a->qb X b σ H { s with heap:=a })->H e=U (xr e C d)->uS B X.stack e (.ref C) d .none s.heap->f e C D σ H ->
 wpAny (model X.prog X.w) X.A (handleBy (.ref e) X.env c) (SP X b D) X.xe s
def FK (i:Nat)(D:jn):jn:={ nx:=λσ H=>D.nx (σ.set i O) H,rt:=D.rt,bk:=λσ H=>D.bk (σ.set i O) H,ct:=λσ H=>D.ct (σ.set i O) H }
def IK (K:Frag)(a:AD)(i:Nat)(d:TS)(c:TH):TH:=λe C D σ H=>∃b,exmOne K (.ref C) (.ref a)=U b/\if b=Y then d (FK i D) (σ.set i (U (.ref e))) H else c e C D σ H
def lW:TH:=λ_ _ _ _ _=>False
def Zpm:B1 X [] lW:=λ_ _ _ _ _ _ _ _ _ _ _ _ h=>h.elim
def Jz (b:h.get? e=U o)(c:o.cls=.ref C):Looks M h (typeOf (.ref e)) (.ref C):=by
 intro A Q E s k q;let a:=k _ _ b;let#[j,g,d,f,i]:=s;unfold typeOf;repeat (first | (with_reducible calc wM a ?_;rw[c]) | wp_step)
 calc q
section
variable {X:Cx}{x n:Str}{np pos:Pos}{b9:Stmt}{suite:List Stmt}{iI:List ExceptHandler}{ts:TS}{tr:TH}{C0:AD}{i:Nat}
def Io (hc:X.calm=Y->X.A.handled=O)(hg:Gl X x)(S:X.mg x=U (.ref C0))(L:X.N.Nodup)(N:X.N[i]?=U n)(G:X.env.scope.names.lookup n=U .local)(hs:∀e,uk (sux X e) (b9::suite) ts)(W:B1 X iI tr)
  (w:autoParam ((x == ("__debug__":Str))=J) Qw._auto_1):B1 X (.ExceptHandler (U (.Name x np)) (U n) (b9::suite) pos::iI) (IK X.K C0 i ts tr):=by
 intro r s σ H D e C d B F P t h;let#[b,hb,h]:=h;let I:qb X r σ H s:=F s.heap t (Heap.UpToSlots.refl _);let V:=I.sux e;calc wpAny_handleBy_cons (codeAny_handlers_test (xU (X:=sux X e) V hg S ?_ w)) (by intro q;cases q);let#[oe,vs,T,oT,tt,g1,g2,_]:=id t.tr;calc(exm_one (M:=model X.prog X.w) I.kIn (Jz g1 g2) hb).here ?_;let hp:(X.env.scope.kind == .class || (X.env.scope.kind == .module&&X.env.locals != X.env.globals))=J:=by rw[I.ok.kind];rfl
 cases b with
 | false=>exact W r s σ H D e C d B F P t h
 | true=>
  calc codeAny_handlers_suite_as (Dw t λh6 y A=>?_);let J6:=(F h6 y A).sux e;calc Cs (X:=sux X e) (i:=i) J6 L N (.inl G) (v:=.ref e) Z (λs7 I7=>?_) (.inr G);calc tw (hs e r s7 _ H (FK i D) I7 h) (λf s8 q=>?_) λ_ _ z=>False.elim z;let c:∀ {a:St} {g:Hp} {Q:Unit->AE->Prop} (j:qb (sux X e) r a g s8),(∀p,qb X r (a.set i O) g p->Q () p)->wpAny (model X.prog X.w) X.A (do bindName X.env n .none;unbindBehindTheSuite X.env n pos) Q X.xe s8:=λ{a g Q} j k=>by let l:=j.unsux hc;let#[m,hn,E]:=l.loc;exact wpAny_nameGoes_keeps G hn hp λh' v K sb=>k _ (l.unbind L N E K sb)
  cases f with
  | next=>
   let#[a,g,j,o]:=q;exact c j λp l=>#[_,g,l,o]
  | brk=>
   let#[a,g,j,o]:=q;exact c j λp l=>#[_,g,l,o]
  | cont=>
   let#[a,g,j,o]:=q;exact c j λp l=>#[_,g,l,o]
  | ret u=>
   let#[v,a,g,j,r8,o]:=q;calc c j λp l=>#[v,_,g,l,r8,o]
def IF (K:Frag)(C0:AD)(ts:TS)(tr:TH):TH:=λe C D σ H=>∃b,exmOne K (.ref C) (.ref C0)=U b/\if b=Y then ts D σ H else tr e C D σ H
def FQ (j:X.calm=Y->X.A.handled=O)(K:Gl X x)(t:X.mg x=U (.ref C0))(L:∀e,uk (sux X e) (b9::suite) ts)(y:B1 X iI tr)(l:autoParam ((x == ("__debug__":Str))=J) Qw._auto_1):
  B1 X (.ExceptHandler (U (.Name x np)) O (b9::suite) pos::iI) (IF X.K C0 ts tr):=by
 intro o s σ H D e C d B p r k h;let#[b,E,h]:=h;let I:qb X o σ H s:=p s.heap k (Heap.UpToSlots.refl _);let w:=I.sux e;calc wpAny_handleBy_cons (codeAny_handlers_test (xU (X:=sux X e) w K t ?_ l)) (by intro q;cases q);let#[S,P,T,W,V,N,F,_]:=id k.tr;calc(exm_one (M:=model X.prog X.w) I.kIn (Jz N F) E).here ?_;cases b with
 | false=>exact y o s σ H D e C d B p r k h
 | true=>
  calc codeAny_handlers_suite (Dw k λG m n=>?_);calc tw (L e o _ _ H D ((p G m n).sux e) h) (λf Q q=>?_) λ_ _ z=>False.elim z;cases f with
  | next=>let#[i,c,a,g]:=q;exact#[_,c,a.unsux j,g]
  | brk=>let#[i,c,a,g]:=q;exact#[_,c,a.unsux j,g]
  | cont=>let#[i,c,a,g]:=q;exact#[_,c,a.unsux j,g]
  | ret u=>let#[v,i,c,a,A,g]:=q;calc#[v,_,c,a.unsux j,A,g]
def tTry (tb:Dt)(d:TH):TS:=λD σ H=>tb D (λb a f c=>∃e C,a=.ref C/\f=U e/\d e C D b c) σ H
def Zpk (a:X.stack=X.env::X.outer)(m:X.env.frame=U X.env.locals)(A:PSsx X body tb)(K:B1 X (h₀::hs) th):
  PS X (.Try body (h₀::hs) [] [] pos) (tTry tb th):=by
 intro r s σ H D I h;refine wpAny_Try_except (tw (A r s σ H D _ I h) (λf s1 q=>?_) λW s1 q=>?_)
 .cases f with
  | next=>exact Ck q
  | ret v=>exact q
  | brk=>exact q
  | cont=>exact q
 .obtain⟨k,V,N,G,e,C,d,L,Q,B,rfl,x,bare,un,F,p,c,t,w,S,T,E,M,n⟩:=q;cases E;cases M;let y:X.A.frames=U (X.env::X.outer):=by rw[<-a];exact I.ok.frames
  rw[a]at t;calc KR y m t λu i o=>Dw (s:={ s1 with heap:=u }) i λz b j=>?_;rw[<-a]at b;calc K r { s1 with heap:=z } k L D e C d B (λP g l=>Zjg (s1:=s1) G x bare un F p c g (w.trans (o.trans (j.trans l)))) p b n
end
open PySem.W (Frag findIn specialIn typeIn mroIn clsIn subIn kitOne kitCls InstAt Looks)
section
def Ic (I:qb X A1 σ H s)(h:H e=U (xr e C d)):∃(o:Obj)(vs:Array Value),s.heap.get? e=U o/\o.cls=.ref C/\o.dict=d/\o.data=.fields vs:=(I.hok e _ h).1
def jq.inst (I:qb X A1 σ H s)(x:jq H e C fs):∃(ox:Obj)(od:Option Obj),InstAt s.heap e ox C od/\∀name,∃r,(match od with | some o=>lookIn name o | none=>U O)=U r/\iT (fs.lookup name) r:=by
 cases x with
 | un h=>exact h.inst I
 | bare h=>
  let#[o,l,f,g,c,a]:=Ic I h;exact#[o,O,#[f,g,by unfold notCls;rw[a],by rw[c];trivial],λname=>#[O,Z,by trivial]]
 | @full d _ h i j=>
  let#[o,l,f,g,c,a]:=Ic I h;let#[#[_,n,p,m,_],_]:=I.hok d _ i;let#[od,b,k]:=GL p;calc#[o,U od,#[f,g,by unfold notCls;rw[a],by rw[c];calc b],λname=>#[n name,k name,m name]]
def ZqF (I:qb X A1 σ H s)(x:jq H e C fs)(c:Xc X.K C)(n:ik X.K C f)(l:fs.lookup f=U v)(h:∀u s',qb X A1 σ H s'->ia v u->Q u s'):wpAny (model X.prog X.w) A (getAttr (.ref e) f b) Q E s:=by
 let#[m,i,j,k]:=x.inst I;let#[r,a,d]:=k f;rw[l]at d;let#[u,Z,g]:=iT.some_of d;calc ZiG I.kIn j c ?_ (MB g) (h u _ (I.tok _) g);cases i with
 | none=>cases a
 | some o=>calc findObj_own c.hd n Z a
end
def Nu (K:Frag)(b:TE)(f:Str):TE:=λσ H Q=>b σ H λx a=>∃e C fs v,x=.ref e/\jq a e C fs/\Xc K C/\ik K C f/\fs.lookup f=U v/\Q v a
def Ld {X:Cx}{K:Frag}{e:Expr}{f:Str}{b:Pos}{d:TE}(y:X.K=K)(k:PE X e d)(t:attributeBase e f X.env (eval e X.env)=eval e X.env):PE X (.Attribute e f b) (Nu K d f):=by subst y;intro m s σ H Q I h;calc MN t (qx (k m s σ H _ I h) λu D g=>?_);let#[x,z,p,w,a,C,E,v,o,i,c,n,l,q]:=g;subst o;obtain rfl:u=Value.ref a:=w;calc ZqF p i c n l λB A j r=>#[v,z,j,r,q]
inductive FM (K:Frag)(H:Hp):V->Value->Prop where
 | ty {x:V} {t:Value} (h:BI K H x t):FM K H x t
 | exc {e C:AD} {fs:List (Str×V)} (x:jq H e C fs) (i:Xi K C):FM K H (.ref e) (.ref C)
def El {X:Cx}{K:Frag}(p:X.K=K):ud X (.builtin "isinstance") (λxs H Q=>∃x c t k b,xs=[x,c]/\clsV c=U k/\FM K H x t/\kitOne K t k=U b/\Q (.bl b) H):=by
 subst p;rintro j s σ H xs m Q I r ⟨x,c,t,k,b,rfl,d,ty,e,q⟩;cases ty with
 | ty h=>exact ZhL j s σ H _ m Q I r #[x,c,t,k,b,Z,d,h,e,q]
 | exc g i=>
  let#[u,v,Z,w,f]:=r.two;let l:v=k:=by
   cases c with
   | ref a=>cases d;exact f
   | ty n=>cases d;exact f
   | _=>cases d
  subst l;cases w;let#[B,A,o,_]:=g.inst I;calc u4 (JR i) I.kIn o e (λz=>nomatch z) λy=>#[.bl b,H,I.tok _,Z,q]
def NK {K:Frag}{C D:AD}{e f:AC}{b:Bool}(c:jd K C e)(d:jd K D f)(j:f.contains (.type "BaseException")=Y)(h:e.contains (.ref D)=b):exmOne K (.ref C) (.ref D)=U b:=by
 let#[n,g,i]:=c.cd;let#[k,a,l]:=d.cd;let m:PySem.W.subIn K (.ref D) (.type "BaseException")=U Y:=by unfold PySem.W.subIn mroIn;dsimp only;rw[a,Bc,l,d.ne,j];rfl
 unfold exmOne;rw[qg (by rw[m];rfl)];unfold PySem.W.kitCls;dsimp only;rw[a,d.ty];simp only[Option.isSome_some,yh,beq_self_eq_true,if_true];unfold PySem.W.subIn mroIn;dsimp only;rw[g,Bc,i,c.ne,h];rfl
open PySem.W (Frag)
theorem iA.there {P:AG}{w:AI}{H:Hp}{h:Heap}{a:AD}:∀ {o:HO},iA P w H h a o->∃u,h.get? a=U u
 | .lst _,x=>by let#[_,_,_,_,e]:=x;exact#[_,e]
 | .tup _,x=>by let#[_,_,_,b,e,_]:=x;exact#[_,e]
 | .dK _,x=>by let#[_,_,_,_,b,_,_,e,_]:=x;exact#[_,e]
 | .dT _,x=>by let#[_,_,_,_,b,_,_,e,_]:=x;exact#[_,e]
 | .set _ _,x=>by let#[b,_,_,_,e,_]:=x;exact#[_,e]
 | .ins _ _ _,x=>by let#[_,_,_,e,_]:=x;exact#[_,e]
 | .own _,x=>x
 | .xd _,x=>by let#[_,#[b,_,_,e,_],_]:=x;exact#[_,e]
 | .met _ _,x=>#[_,x]
 | .rng _ _,x=>by let#[_,_,_,e]:=x;exact#[_,e]
 | .frz _ _,x=>#[_,x.1]
 | .tbl _,x=>#[_,x]
 | .ext _,x=>x.2.1
def rQ.none_of (c:rQ P w H h)(n:h.get? a=O):H a=O:=by
 cases q:H a with
 | none=>rfl
 | some o=>
  let#[u,b]:=(c a o q).there;rw[n]at b;cases b
def qb.laid2 (I:qb X A1 σ H s)(l:s'.os=s.os)(j:s'.gens=s.gens)(k:∀b u,s.heap.get? b=U u->s'.heap.get? b=U u)(g:s.heap.get? a=O)
  (f:iA X.prog X.w (upd H a o) s'.heap a o):qb X A1 σ (upd H a o) s':=by
 let m:=I.hok.none_of g;let h:∀b u,s.heap.get? b=U u->b≠a:=λb u q z=>by rw[z,g]at q;cases q
 let d:∀b u,H b=U u->b≠a:=λb u q=>qN q m;refine I.call' (ch:=[]) l #[λb u q _ _ _=>k b u q,λb u q _ _ _=>#[u.slots,k b u q],λb u q n _=>by rw[qh (h b u q)];calc n,λb u q _=>#[u,k b u q],λb i q=>by rw[qh (d b _ q)];calc q,λb u v q=>by rw[qh (d b _ q)];calc q,λb r q=>#[↑[],by rw[qh (d b _ q),Array.append_empty];calc q]]
  (λb u q=>?_) (by rw[j];calc I.bare) (λb e=>by cases e)
 by_cases e:b=a
 .subst e;rw[qu]at q;cases q;exact f
 .rw[qh e]at q;calc(I.hok b u q).stay (λc p _ q=>k c p q) (λc q=>by rw[qh (d c _ q)];calc q) λc i q=>by rw[qh (d c _ q)];calc q
section
noncomputable def iy (l:p9):qi:=l.map λc=>[c]
def Zhz (h:ItemsOf (SignAt #[↑l]) acc (#[↑l]:Str).cps.size):hJ ((iy l).map tx) acc.toList:=by
 let#[d,k]:=h;let a:(#[↑l]:Str).cps.size=⇑l:=by show l.toArray.size=_;simp
 rw[a]at d;let b:∀(l:p9)(us:AC),⇑us=⇑l->(∀(j:Nat)(v:Value),us[j]?=U v->∃(c:Nat)(u:Tok),l[j]?=U c/\v=Value.str #[↑[c]] u)->hJ ((iy l).map tx) us:=by
  intro l;induction l with
  | nil=>
   intro us a _;have:us=[]:=Fu a;subst this;exact .nil
  | cons c l i=>
   intro us a h;cases us with
   | nil=>cases a
   | cons u us=>
    let#[m,t,e,Z]:=h 0 u Z;cases e;refine .cons #[t,Z] (i us (~~~a) λj v e=>h (j+1) v e)
 calc b l acc.toList (by rw[su,d]) λj v e=>?_;rw[uW]at e;let#[c,u,f,g]:=k j v e;calc#[c,u,~~~f,g]
def Jl (g:X.calm=Y):ud X (.type "list") (λxs H Q=>∃l,xs=[tx l]/\⇑l<=1000/\iH ((iy l).map tx) H Q):=by
 rintro j s σ H xs m Q I r ⟨l,rfl,b,q⟩;let#[u,Z,t,Z]:=r.one;let f:(#[↑l]:Str).cps.size=⇑l:=by show l.toArray.size=_;simp
 calc call_list_str (I.ok.hd g) _ t (λi d a c k e h=>?_) (by rw[f];calc Nat.le_of_lt (G6 b));calc#[.ref ↥s,_,I.laid (t':=d) k (qG _) ?_,Z,q _ I.fresh];calc#[by unfold iy;rw[qm,qm];calc Nat.le_of_lt (G6 b),a.toList,c,Zhz h,by rw[Array.toArray_toList];calc e]
def Km (N:X.calm=Y):ud X (.builtin "all") (λxs H Q=>∃(a:AD)(d:List Bool),xs=[.ref a]/\H a=U (.lst (d.map V.bl))/\Q (.bl (d.all id)) H):=by
 rintro B s σ H xs S Q I r ⟨a,d,rfl,C,q⟩;let#[u,Z,G]:=r.one;cases G;let#[_,c,n,t,T,e]:=I.lstM C;let p:s.heap.IsList a ↑c:=PySem.IsL.isList e;let m:a≠↥s:=rK (qQ e);calc call_all_walkS (CF p ?_);let K:c.toArray.size=⇑d:=by rw[rN,<-⇑t,qm]
 let W:=(Walks.list (prog:=X.prog) (w:=X.w) (A:=X.A.in1) (~~~I.ok.hd N) ↥s a m ↑c).toS;refine#[↥s,_,_,_,_,_,_,λi=>d.getD i Y,Z,W,#[#[_,rS _ Z,Z,Z],p.push _],?_,λs' l=>?_]
 .intro i v s Q E F y;let D:c[i]?=U v:=by simpa using F
  let#[x,j,P]:=HB t D;rw[se]at j;cases f:d[i]? with
  | none=>rw[f]at j;cases j
  | some b=>
   rw[f]at j;cases j;obtain rfl:v=Value.bool b:=P;have:d.getD i Y=b:=by rw[sw,f];rfl
   let k:Q (d.getD i Y) s:=y;rw[this]at k;exact ww k
 .let M:(List.range c.toArray.size).all (λi=>d.getD i Y)=d.all id:=by
   rw[K];rw[vf,ur,ur];constructor
   .intro h b f;let#[i,g,Z]:=xc f;have:=h i (sT.mpr g);rw[sw,rD g]at this;exact this
   .intro h i g;let g:=sT.mp g;rw[sw,rD g];exact h _ (xu g)
  rw[M];let L:qb X B σ H s':=I.call' (ch:=[]) l.os (Un.kept λb o q=>l.heap b o (λz=>?_) (qU _ q)) (I.hok.kept λb o q=>l.heap b o (λz=>?_) (qU _ q)) (by rw[show s'.gens=s.gens from l.gens];calc I.bare) (λb f=>by cases f)
  .exact#[.bl _,H,L,Z,q]
  .let z:b=↥s:=by simpa using z
   rw[z]at q;exact NR (qQ q) (tJ _)
  .let z:b=↥s:=by simpa using z
   rw[z]at q;calc NR (qQ q) (tJ _)
noncomputable def nU (P:AG)(w:AI)(a:AD)(ls:qi):HO:=.ext λh=>iK P w h a ls (!sI w)
def Znn (x:iK P w h a ls (!sI w)):iA P w H h a (nU P w a ls):=by let#[o,g,d,t,c,b,r]:=id x;calc#[x,#[o,b],λe f y k=>y.keep k]
def tE (ls:qi):qi:=ls.foldl ji []
def EY:dd (λi=>ls.getD i []) ⇑ls=tE ls:=by
 unfold dd tE;congr 1;apply vO
 .simp
 .intro n b a;simp[a]
def HE (e:X.calm=Y):ud X (.type "set") (λxs H Q=>∃ls:qi,⇑ls<=1000/\((∃l,xs=[tx l]/\ls=iy l)\/∃a,xs=[.ref a]/\rl X.K H a (ls.map tx))/\∀p,H p=O->Q (.ref p) (upd H p (nU X.prog X.w p (tE ls)))):=by
 rintro h s σ H xs B Q I r ⟨ls,A,g,q⟩;let d:⇑ls+1<scanBound:=by show _<4096;lia
 let fin:∀(h':Heap)(tk:Nat),iK X.prog X.w h' ↥s (tE ls) (!sI X.w)->(∀b o,s.heap.get? b=U o->h'.get? b=U o)->EP X h σ Q (.ref ↥s) { s with heap:=h',toks:=tk }:=λh' tk c k=>
  #[.ref ↥s,_,I.laid (t':=tk) k (qG _) (Znn c),Z,q _ I.fresh]
 rcases g with⟨l,rfl,rfl⟩|⟨a,rfl,x⟩
 .obtain⟨u,rfl,t,rfl⟩:=r.one;let m:⇑(iy l)=⇑l:=by unfold iy;rw[qm]
  let f:dd (λi=>[l.getD i 0]) ⇑l=tE (iy l):=by
   unfold dd tE iy;congr 1;apply vO
   .simp
   .intro n C z;have:n<⇑l:=by simpa using z
    simp[this]
  calc KL (I.ok.hd e) (Zha (prog:=X.prog) (w:=X.w) (s:=s) (l:=l) (t:=t)) F.sub_str_set F.sub_str_frozenset ⋯ (by rw[<-m];calc d) λh' tk c k _=>?_;rw[f]at c;exact fin h' tk c k
 .obtain⟨u,rfl,y⟩:=r.one;cases y;let#[j,v,p,_]:=I.list x;calc KL (I.ok.hd e) (Zhb (prog:=X.prog) (w:=X.w) (s:=s) p.isList v) F.sub_list_set F.sub_list_frozenset ⋯ d λh' tk c k _=>?_;rw[EY]at c;calc fin h' tk c k
end
def qF (h:x=#[↑l]):PE X (.Constant (.str x) j pos) (tC (tx l)):=by subst h;calc Zpq
def Bb (b:Gl X x)(a:∃t,X.mg x=U (.str y t))(c:autoParam ((x == ("__debug__":Str))=J) Qw._auto_1):PE X (.Name x pos) (tC (.str y)):=by let#[t,h]:=a;calc Dd b h #[t,Z] c
def yD (b:Gl X x)(a:∃t,X.mg x=U (.int y t))(c:autoParam ((x == ("__debug__":Str))=J) Qw._auto_1):PE X (.Name x pos) (tC (.int y)):=by let#[t,h]:=a;calc Dd b h #[t,Z] c
section
variable {CX:v0}{P:AG}{w:AI}{K:qj}{mg:AB}{base:Heap}{N:AJ}{qual:Str}{scope:Scope}{f:AD}{cd:Value}{A:AH}{outer:List Env}{s:AE}{H:Hp}{E:XK}{X:Cx}{e:AD}
def cxPr:(jj CX P w K mg base N qual scope f cd A outer s H E).prog=P:=rfl
def cxWo:(jj CX P w K mg base N qual scope f cd A outer s H E).w=w:=rfl
def suxK:(sux X e).K=X.K:=rfl
def ZqO:(sux X e).prog=X.prog:=rfl
def ZqN:(sux X e).w=X.w:=rfl
end
open PySem.W (Frag KeqHits)
section
end
open PySem.W (Frag)
def sM {P:AG}{w:AI}{K:Frag}{Q:AB}{h:Heap}{N:AJ}{c:Str}{a:Scope}{f:AD}{j:Value}{A:AH}{outer:List Env}{s0:AE}{H0:Hp}{E:XK}:
  vy (rP P w) (jj (rP P w) P w K Q h N c a f j A outer s0 H0 E) E:=by
 intro A1 σ H s q s' I M;generalize hX:jj (rP P w) P w K Q h N c a f j A outer s0 H0 E=X at I M ⊢;let eA:X.A=A.deeper (envOfC c a ↥s0 f j):=by rw[<-hX];rfl
 let x:X.stack=envOfC c a ↥s0 f j::outer:=by rw[<-hX];rfl
 let W:X.fs=rZ outer:=by rw[<-hX];rfl
 let D:X.s_0=s0:=by rw[<-hX];rfl
 let T:X.H_0=H0:=by rw[<-hX];rfl
 let S:X.ex=[]:=by rw[<-hX];rfl
 let u:X.prog=P:=by rw[<-hX];rfl
 let eW:X.w=w:=by rw[<-hX];rfl
 let v:∀q s',wpAny (model P w) (A.deeper (envOfC c a ↥s0 f j)) (leaving (envOfC c a ↥s0 f j) q) (λ_ k=>rP P w outer H0 s0 E q k) (λe' k=>rP P w outer H0 s0 E e' k) s'->X.xe q s':=by intro q s' z;rw[<-hX];exact z
 let#[e,C,d,F,h1,B,Z,m,g,un,V,he,i,fl,up,hE]:=M;calc v _ _ ?_;let t:(A.deeper (envOfC c a ↥s0 f j)).frames=U (envOfC c a ↥s0 f j::outer):=by rw[<-eA,<-x];exact I.ok.frames
 let J_:qb X A1 σ F { s' with heap:=h1 }:=I.call' (s':={ s' with heap:=h1 }) (ch:=[]) m un (by rw[u,eW];calc V) g (λb r=>by cases r);rw[x]at fl;calc Zi3 t Z fl λh' L G=>?_;let os:s'.os=s0.os:=by rw[m,<-D];exact I.os
 let y:Un (rZ outer) [] H0 F s0.heap h1:=by
  have:=J_.base
  rwa [W,S,T,D]at this
 calc#[e,C,d,F,h1,B,Z,os,g,y,V,he,λb o r n hc=>?_,L,up.trans G,hE];rcases hc with hu | ⟨⟨o',l⟩,hn⟩
 .exact i b o r n (.inl hu)
 .refine i b o r n (.inr #[?_,λz=>?_])
  .have:=I.base;rw[W,S,T,D]at this;exact this.there b o' l {}
  .rw[x]at z;let p:b=↥s0\/b∈rZ outer:=by have:=z;unfold rZ at this;rw[List.filterMap_cons]at this;simpa [envOfC,rZ] using this
   rcases p with p | p
   .rw[p]at l;exact NR (qQ l) (tJ _)
   .exact hn p
section
end
section
end
def Itz (K:qj)(a b:AD):It:=
  ⟨λi H=>∃xs ys x y,sG K H a xs/\sG K H b ys/\⇑xs=⇑ys/\xs[i]?=U x/\ys[i]?=U y,
   λi H v c=>∃p x y,H p=O/\v=.ref p/\c=upd H p (.tup [x,y])/\(∀xs,sG K H a xs->xs[i]?=U x)/\∀ys,sG K H b ys->ys[i]?=U y,
   λi H=>∃xs ys,sG K H a xs/\sG K H b ys/\⇑xs=⇑ys/\⇑xs=i⟩
section
end
section
end
section
end
open PySem.W (Frag)
def GA {X:Cx}{K:Frag}{T id:String}{name:Str}{o e:Expr}{es:List Expr}{i:TE}{t:TA}{j f:Pos}{r:V->NU->Hp->VK->Prop}(n:X.K=K)(k:PlainAttrs T)(d:Slot T name id)(h:typeOf (.builtin id)=pure (.type "method_descriptor"))(m:FC X id r)(q:PE X o i)(l:PA X (e::es) t)
  (c:autoParam (attributeBase o name X.env (eval o X.env)=eval o X.env) Qq._auto_1)
  (g:autoParam (((backTo f (starEach (e::es) X.env)).all (λx=>!x.1)&&(backToKw f (keywordEach [] X.env)).all (λx=>x.1.isSome)&&R (⇑(e::es)+⇑([]:List Keyword)+(if ([]:List Keyword).isEmpty then 0 else 1)<30))=Y) Qq._auto_1)
  (b:autoParam ((j.endLine == f.line)=Y) Qq._auto_1) (p:autoParam (starEach (e::es) X.env=(J,eval e X.env)::starEach es X.env) Qq._auto_1) (a:autoParam ((backTo f (starEach es X.env)).any (·.1)=J) Qq._auto_1):PE X (.Call (.Attribute o name j) (e::es) [] f) (G9 K T r i t):=by
 subst n;calc uu k d h m q l c g b p a
def Lh:TS:=λ_ _ _=>False
def wD {X:Cx}{st:Stmt}:PS X st Lh:=λ_ _ _ _ _ _ h=>h.elim
section
def IB (hg:Gl X x)(hm:X.mg x=U (.ref L))(cr:jc X.K L "__init__" (.ref f))(F:g9 X.prog X.w X.K X.mg X.base CX k f fd ps sp)(hr:iJ k X.A)(hk:keepIn X.K (.ref f)=Y)(hb:iP X.K fd ps ds)(hd:hJ BA ds)(hx:vy CX X E)
  (ha:PA X (e::es) t) (hdb:autoParam ((x == ("__debug__":Str))=J) Qw._auto_1) (hst:autoParam (starEach (e::es) X.env=(J,eval e X.env)::starEach es X.env) Qq._auto_1) (hpl:autoParam ((backTo pos (starEach es X.env)).any (·.1)=J) Qq._auto_1)
  (ht:autoParam (eval (.Call (.Attribute (.Name x np) "__init__" A6) (e::es) [] pos) X.env=(do
   let ov <-eval (.Name x np) X.env
   standAt A6.atName
   let (f,first) <-holding [ov] (getMethod ov "__init__" pl)
   callWith pos f first (backTo pos (starEach (e::es) X.env)) (backToKw pos (keywordEach [] X.env)))) Qq._auto_1):PE X (.Call (.Attribute (.Name x np) "__init__" A6) (e::es) [] pos) (Ff sp BA E t):=by
 intro A1 s σ H Q I h;calc Cn (pl:=pl) (xU I hg hm ?_ hdb) ht;calc method_cls I.kIn cr.sp (cls_value I.kIn cr.rd cr.fd cr.hn ?_);calc yZ (first:=[]) (h₀:=X.base) I.ok.mod.kin hk (qx (ha pos A1 _ σ H _ (I.tok _) h) λus s1 ⟨vs,H1,I1,r,q⟩=>#[I1.kIn,?_]) hst hpl;calc CZ F hr hb hd hx I1 r q
end
def js (c:TT)(tb:TS)(D:jn)(σ:St)(H:Hp):Prop:=GF c tb D σ H
def ZnQ:GF c tb D σ H=js c tb D σ H:=rfl
def js.by (d:St->Hp->Prop)(μ:St->Hp->Nat)(f:d σ H)
  (j:∀σ H,d σ H->∃b:Bool,(∀Q:Bool->Hp->Prop,(∀a,g7 H a->Q b a)->c σ H Q)/\∀a,g7 H a->if b=Y then tb { D with nx:=λσ' H'=>d σ' H'/\μ σ' H'<μ σ H,ct:=λσ' H'=>d σ' H'/\μ σ' H'<μ σ H,bk:=D.nx } σ a else D.nx σ a):js c tb D σ H:=by
 calc#[λm σ H=>m=μ σ H/\d σ H,#[_,Z,f],?_];rintro m σ H ⟨rfl,p⟩;let#[b,h,g]:=j σ H p;calc h _ λa i=>?_;let q:=g a i;cases b with
 | true=>exact#[_,λσ' H' ⟨e,l⟩=>#[_,l,Z,e],q]
 | false=>calc q
section
def Jo (C:AD)(m:Str)(sp:Sp)(d:NU)(g:TE)(t:TA):TX:=λσ H Q E=>g σ H λx b=>∃a f fs,x=.ref a/\b a=U (.ins C f fs)/\fs.lookup m=O/\t σ b λe c=>sp (x::(e++d)) c Q E
def ZlE (he:PE X.nox o ta)(c:uP X.K C)(hm:iN X.K C m f)(F:g9 X.prog X.w X.K X.mg X.base (rP X.prog X.w) k f fd ps sp)(hr:iJ k X.A)(hb:iP X.K fd ps ds)(hd:hJ BA ds)(ha:PA X.nox (e::es) t)
  (hst:autoParam (starEach (e::es) X.env=(J,eval e X.env)::starEach es X.env) Qq._auto_1) (hpl:autoParam ((backTo pos (starEach es X.env)).any (·.1)=J) Qq._auto_1)
  (ht:autoParam (eval (.Call (.Attribute o m A6) (e::es) [] pos) X.env=(do
   let ov <-eval o X.env
   standAt A6.atName
   let (f,first) <-holding [ov] (getMethod ov m pl)
   callWith pos f first (backTo pos (starEach (e::es) X.env)) (backToKw pos (keywordEach [] X.env)))) Qq._auto_1):Mg X (.Call (.Attribute o m A6) (e::es) [] pos) (Jo C m sp BA ta t):=by
 intro A1 s σ H Q E I h;calc Cn (pl:=pl) (tw (he A1 s σ H _ (I.wish _) h) (λu s1 ⟨y,H1,I1,rx,a,dx,fs,ex,ea,l,q⟩=>?_) λ_ _ z=>False.elim z) ht;subst ex;obtain rfl:u=Value.ref a:=rx;calc Ga I1.unwish ea c hm l ?_;calc yZ (first:=[.ref a]) (h₀:=X.base) I.ok.mod.kin hm.kp (tw (ha pos A1 s1 σ H1 _ I1 q) (λus s2 ⟨vs,H2,I2,r,q2⟩=>#[I2.kIn,?_]) λ_ _ z=>False.elim z) hst hpl;calc ZnP (us:=.ref a::us) (vs:=.ref a::vs) F hr hb hd I2.unwish (.cons Z r) q2
end
def EN:XK:=λ_ _ _=>False
def wQ:vy (rP X.prog X.w) X EN:=by intro _ _ _ _ _ _ _ h;let#[_,_,_,_,_,_,_,_,_,_,_,_,_,_,_,z]:=h;calc z.elim
section
end
section
def ZoB:HO->Prop
 | .tup _=>False
 | .tbl _=>False
 | .own _=>False
 | _=>True
def qb.shift (I:qb X A1 σ H s)(f:H a=U u)(g:ZoB u)(w:∀o v,X.H_0 a≠U (.frz o v))(i:iA X.prog X.w (upd H a u') s.heap a u'):qb X A1 σ (upd H a u') s:=by
 let h:∀b,H b=O->b≠a:=λb n z=>by rw[z,f]at n;cases n
 refine#[I.ok,I.os,I.bare,#[I.base.keep,I.base.slot,λb o e n l=>?_,I.base.there,λb j e=>?_,λb o v e=>?_,λb t e=>?_],I.loc,I.cell,?_,λx c e=>?_,λp A=>?_,λb y e=>?_,I.len]
 .have:=I.base.free b o e n l;rw[qh (h b this)];exact this
 .have:=I.base.tups b j e;let d:b≠a:=λz=>by rw[z,f]at this;cases this;exact g
  rw[qh d];exact this
 .let d:b≠a:=λz=>w o v (by rw[<-z];calc e);rw[qh d];exact I.base.frzs b o v e
 .obtain⟨m,q⟩:=I.base.tbls b t e;let d:b≠a:=λz=>by rw[z,f]at q;cases q;exact g
  exact#[m,by rw[qh d];calc q]
 .rw[qh (h _ I.free)];exact I.free
 .rw[qh (h _ (I.freeC x c e))];exact I.freeC x c e
 .obtain⟨e,n,r⟩:=I.pin p A;exact#[e,by rw[qh (h _ n)];calc n,r]
 .by_cases k:b=a
  .subst k;rw[qu]at e;cases e;exact i
  .rw[qh k]at e;refine(I.hok b y e).stay (λ_ _ _ q=>q) (λc q=>?_) λc j q=>?_
   .let d:c≠a:=λz=>by rw[z,f]at q;cases q;exact g
    rw[qh d];exact q
   .let d:c≠a:=λz=>by rw[z,f]at q;cases q;exact g
    rw[qh d];calc q
def qb.notFrz (I:qb X A1 σ H s)(b:H a=U u)(c:∀o v,u≠.frz o v):∀o v,X.H_0 a≠U (.frz o v):=λo v e=>by have:=I.base.frzs a o v e;rw[b]at this;calc c o v (Option.some.inj this)
def qb.freezeD (I:qb X A1 σ H s)(d:H a=U (.dK kvs)):∃o es b,o.data=.dict es b/\s.heap.get? a=U o/\qb X A1 σ (upd H a (.frz o (.dK kvs))) s:=by let#[z,y,g,r,f,es,b,e,c]:=I.hok a _ d;calc#[f,es,b,c.2.1,e,I.shift d trivial (I.notFrz d λo v q=>by cases q) #[e,z,y,g,r,f,es,b,e,c]]
def qb.thawD (I:qb X A1 σ H s)(b:H a=U (.frz o (.dK kvs)))(d:∀o v,X.H_0 a≠U (.frz o v)):qb X A1 σ (upd H a (.dK kvs)) s:=by let#[e,z,y,f,r,c]:=I.hok a _ b;calc I.shift b trivial d #[z,y,f,r,c]
end
def Hm (h:(rG P w).is k u=Y):ia (kV k) u:=by
 cases k with
 | inl i=>
  let a:(intKind P w).is i u=Y:=h;cases u<;>first | (calc NR a qO) | skip
  rename_i j t
  let e:(i == j)=Y\/(j == i)=Y:=by first | exact .inl a | exact .inr a
  rcases e with e | e
  .exact#[t,by rw[beq_iff_eq.mp e]]
  .exact#[t,by rw[beq_iff_eq.mp e]]
 | inr x=>
  let a:(strKind P w).is x u=Y:=h;cases u<;>first | (calc NR a qO) | skip
  rename_i j t
  let e:(x == j)=Y\/(j == x)=Y:=by first | exact .inl a | exact .inr a
  rcases e with e | e
  .exact#[t,by rw[beq_iff_eq.mp e]]
  .exact#[t,by rw[beq_iff_eq.mp e]]
def DD (o:Obj)(kvs:List (qt×V))(a:AD):It:=
 #[λi H=>H a=U (.frz o (.dK kvs))/\i<⇑kvs,λi H x b=>b=H/\∃p,kvs[i]?=U p/\x=kV p.1,λi H=>H a=U (.frz o (.dK kvs))/\⇑kvs<=i]
def KV.getK (r:KV kvs vs):∀ {i:Nat} {p:qt×V},kvs[i]?=U p->∃v,vs[i]?=U (p.1,v):=by
 intro i p h;let c:=r.keys;let d:=⇑r;let b:i<⇑vs:=by rw[<-d];exact(rY.mp h).1
 let a:(kvs.map (·.1))[i]?=U p.1:=by rw[se,h];rfl
 rw[c,se,rD b]at a;calc#[vs[i].2,?_];rw[rD b];have:vs[i].1=p.1:=Option.some.inj a;rw[<-this]
def Zjv {P:AG}{w:AI}{K:qj}{tg:Expr}{o:Obj}{es:Array DictEntry}{ep:Nat}{kvs:List (qt×V)}(a it:AD)(t:o.data=.dict es ep):kz P w K tg (DD o kvs a) [it] it (λi h=>h.IsKeyIter it a i ⇑kvs ep) where
 mem:=by simp
 obj:=λi h f b g=>by
  let e:b=it:=by simpa using g
  subst e;let#[o,e,c,d]:=f;exact#[o,e,λv z=>by rw[d]at z;cases z]
 keep:=λi h p f k=>let ⟨o,ho,r⟩:=f;#[o,k it {} o ho,r]
 item:=by intro X x C T hc i A1 s σ H E I q f M;subst x C T;let#[D,l]:=M;let#[e,z,y,vs,r,o',L,S,m,Q,n,N]:=I.hok a _ D;rw[e]at m;cases m;rw[t]at n;cases n;let#[v,hv]:=r.getK (rD l);let#[W,F,f2,G,u,A]:=q it {};rw[⇑r]at f;calc wpAny_pyNext_dict_item f #[o,es,e,Q,t,N] hv λB p hk j sb=>?_;let I1:qb X A1 σ H { s with heap:=p }:=I.turned (t':=s.toks) (λb o g e=>(sb.2 b g).trans e) W F G u A;let#[oi,ei,ci,di]:=id j;rw[<-⇑r]at j;exact#[B,Z,CO (s:={ s with heap:=p }) ei ci di ⋯ #[kV kvs[i].1,H,I1,Hm hk,#[Z,_,rD l,Z],j,λb g=>(q b g).1]]
 done:=by intro X x C T hc i A1 s σ H E I q f M;subst x C T;let#[D,l]:=M;let#[e,z,y,vs,r,o',L,S,m,Q,n,N]:=I.hok a _ D;rw[e]at m;cases m;rw[t]at n;cases n;let#[W,F,f2,G,u,A]:=q it {};rw[⇑r]at f l;exact wpAny_pyNext_dict_end (I.ok.hd hc) f #[o,es,e,Q,t,N] (wP l) λp eb=>#[Z,I.turned (t':=s.toks) (λb o g e=>eb b o g e) W F G u A]
 self:=λ_ _ _ _ _ f h=>wpAny_pyIter_keyiter f h
section
def Ir (c:TE):TI:=λσ H d=>c σ H λx b=>∃a kvs,x=.ref a/\b a=U (.dK kvs)/\∀o,d (DD o kvs a) (upd b a (.frz o (.dK kvs)))
def Ew (G:PE X l tl):PI X tg l (Ir tl):=by
 intro w s σ H T I h;calc qx (G w s σ H _ I h) λv d n=>?_;let#[x,N,j,u,C]:=n;let#[a,kvs,e,g,q]:=C;subst e;cases u;let#[z,y,Q,r,_]:=id (j.hok a _ g);let#[o,L,P,f,k,c]:=j.freezeD g;let#[_,M,p,t,A,S,D,K,i,F,m,E]:=c.hok a _ qu;rw[k]at i;cases i;rw[f]at m;cases m;calc wpAny_pyIter_dict p #[o,L,k,F,f,E] ?_;calc#[↥d,[↥d],_,_,_,Z,c.kept (t':=d.toks) λb o e=>qU _ e,Zjv (kvs:=kvs) a _ f,#[_,rS _ Z,Z,by rw[⇑A];rfl],λb B=>?_,q o];let e:b=↥d:=by simpa using B
 subst e;calc c.fpOk (qG _) (c.hok.fresh (qG _))
def Ea (a:AD)(P:Hp->Prop)(b:Hp):Prop:=∃o kvs,b a=U (.frz o (.dK kvs))/\P (upd b a (.dK kvs))
noncomputable def thD (a:AD)(D:jn):jn:={ nx:=λσ H=>Ea a (D.nx σ) H,rt:=λv H=>Ea a (D.rt v) H,bk:=λσ H=>Ea a (D.bk σ) H,ct:=λσ H=>Ea a (D.ct σ) H }
def MK (b:TS):TS:=λD σ H=>∃a kvs,H a=U (.dK kvs)/\b (thD a D) σ H
def Dq {st:Stmt}{k:TS}(h:PS X st k):PS X st (MK k):=by
 intro n s σ H D I ⟨a,l,p,m⟩;let g:=I.notFrz p λo v q=>by cases q
 calc tw (h n s σ H _ I m) (λf t q=>?_) λ_ _ z=>z;cases f with
 | next=>let#[b,j,d,o,i,c,e]:=q;exact#[b,_,d.thawD c g,e]
 | brk=>let#[b,j,d,o,i,c,e]:=q;exact#[b,_,d.thawD c g,e]
 | cont=>let#[b,j,d,o,i,c,e]:=q;exact#[b,_,d.thawD c g,e]
 | ret u=>let#[v,b,j,d,r,o,i,c,e]:=q;calc#[v,b,_,d.thawD c g,r,e]
end
section
def io.dict (b:Nat->St->Hp->Prop)(l:b 0 σ H)(h:∀i σ H,b i σ H->H a=U (.frz o (.dK kvs)))
  (s:∀i p σ H,kvs[i]?=U p->b i σ H->g (kV p.1) σ H λσ2 H2=>tb { D with nx:=b (i+1),ct:=b (i+1),bk:=D.nx } σ2 H2) (n:∀σ H,b ⇑kvs σ H->D.nx σ H):io (DD o kvs a) g tb D σ H:=by
 calc#[λi m σ H=>m=⇑kvs-i/\i<=⇑kvs/\b i σ H,#[⇑kvs,{},rM _,l],?_];rintro i m σ H ⟨rfl,u,p⟩;let q:=h i σ H p;by_cases c:i<⇑kvs
 .refine .inr #[#[q,c],b (i+1),λt d k=>#[⇑kvs-(i+1),∅,Z,c,k],λx d y=>?_];let#[e,r,f,j]:=y;subst e j;exact s i r σ _ f p
 .let e:i=⇑kvs:=by lia
  subst e;calc .inl #[#[q,qG _],n σ H p]
end
def g7.thaw (d:H a=U (.dK kvs))(s:g7 (upd H a (.frz o (.dK kvs))) H2):g7 H (upd H2 a (.dK kvs)):=λb u c=>by
 by_cases e:b=a
 .rw[e]at c ⊢;rw[qu,<-c,d]
 .rw[qh e];calc s b u (by rw[qh e];calc c)
def ZfL:typeLookup (.type "dict") "__len__"=pure (U (.builtin "dict.__len__")):=by rw[typeLookup_type,builtinLookup_eq_fast];kernel_rfl
theorem FP:∀ {vs:NU} {us:AC},⇑vs=⇑us->(∀(i:Nat)(x:V)(u:Value),vs[i]?=U x->us[i]?=U u->ia x u)->hJ vs us
 | [],[],_,_=>.nil
 | [],_::_,h,_=>by simp at h
 | _::_,[],h,_=>by simp at h
 | x::vs,u::us,h,r=>.cons (r 0 x u Z Z) (FP (~~~h) λi y v h1 h2=>r (i+1) y v h1 h2)
section
def ZgX (hh:A.handled=O)(hd:(S == sysModules)=J)(hS:s.heap.DictAt (rG prog w) S ls ep)(hn:⇑ls<=sizeLine)
  (hQ:∀(s':AE)(vs:AC),(∀b o,s.heap.get? b=U o->s'.heap.get? b=U o)->s'.gens=s.gens->s'.os=s.os->hJ (ls.map λp=>kV p.1) vs->Q vs s'):wpAny (model prog w) A (collect (.ref S)) Q E s:=by
 unfold collect;calc qd (wpAny_runValue (codeAny_builtin F.entry_proto_collect ?_));rw[xE F.plain_proto_collect _];show wpAny _ A.in1 (newList [] >>= λl=>again (.builtin "list.__iadd__" #[[l,.ref S],[]])) _ _ s;calc qd (x8 (qv #[plainId_quiet F.plain_list_iadd _,codeAny_builtin F.entry_list_iadd ?_]));rw[xE F.plain_list_iadd _];generalize hH:s.heap.push { cls:=.type "list",data:=.seq ↑([]:AC) }=H;let m:H.objs.size=↥s+1:=by rw[<-hH,vD]
 let hL:H.get? ↥s=U { cls:=.type "list",data:=.seq ↑([]:AC) }:=hH▸rS _ Z;let k1:∀b o,s.heap.get? b=U o->H.get? b=U o:=λb o e=>hH▸qU _ e;let d:H.DictAt (rG prog w) S ls ep:=hS.keep k1;let hT:Shared.TypeIs { s with heap:=H } (.ref S) "dict":=d.dictOf.typeIs;let nS:S≠↥s:=rK hS.lt_size;show wpAny _ A.in1 (Builtin.List.listExtendWith (.ref ↥s) (.ref S) (.ref ↥s)) _ _ { s with heap:=H };unfold Builtin.List.listExtendWith;calc qd (wpAny_typeOf hT ?_);let G:Builtin.List.listSameRef (.ref ↥s) (.ref S)=J:=by simp[Builtin.List.listSameRef,qy nS]
 let K:(Value.type "dict" == Value.type "list")=J:=by decide
 let h3:(Value.type "dict" == Value.type "tuple")=J:=by decide
 simp only[G,K,h3,Bool.or_false,yY,if_false];calc qd (wpAny_pyIter_dict (s:={ s with heap:=H }) hd d ?_);obtain⟨I,c⟩:∃I,I=H.objs.size:=#[_,Z];obtain⟨a,h⟩:∃a,a=H.push { cls:=.type "dict_keyiterator",data:=.fields ↑[.ref S,.int 0 0,.int ⇑ls 0,.int ep 0] }:=#[_,Z];rw[<-h];show wpAny _ A.in1 (holding [.ref H.objs.size] (Builtin.List.listLengthHint (.ref S)) >>= _) _ _ _;rw[<-c];let P:∀b o,H.get? b=U o->a.get? b=U o:=λb o e=>by rw[h];exact qU _ e
 let hI:H.objs.size<=I:=vK c.symm;let nI:S≠I:=by rw[c];exact rK d.lt_size
 let M:a.IsKeyIter I S 0 ⇑ls ep:=#[_,by rw[h,c];calc rS _ Z,Z,Z];let n:a.DictAt (rG prog w) S ls ep:=d.keep P;let W:∀N:AH,N.handled=O->_:=λN hA=>Walks.dictKeys (prog:=prog) (w:=w) (knd:=rG prog w) (A:=N) hA I S nI ls ep;let st:=And.intro M n;let aa:∀b∈[I,S],b=S\/H.objs.size<=b:=λb j=>by
  rcases qS.mp j with z | z
  .exact .inr (by rw[z];calc hI)
  .exact .inl (~~~z)
 let g:Shared.TypeIs { s with heap:=a } (.ref S) "dict":=n.dictOf.typeIs;calc qd (uI ?_);unfold Builtin.List.listLengthHint;refine qd (wpAny_specialOf g ZfL ?_)
 wp_delta
 calc qd (wpAny_isInstance (T:="dict") (v:=.ref S) (b:=Y) g (by rw[isSubtype_type];kernel_rfl) ?_);show wpAny _ A.in1 (typeOf (Value.ref S) >>= λr=>_) _ _ _;calc qd (wpAny_typeOf g ?_);calc qv ?_;rw[qg ⋯];calc qd (vk ?_);let t:a.get? ↥s=U { cls:=.type "list",data:=.seq ↑([]:AC) }:=P _ _ hL;calc qd ?_;show wpAny _ A.in1 (updateSeq ↥s (·.push .none) >>= λ_=>updateSeq ↥s (·.pop)) _ _ _;calc qd (wpAny_updateSeq t Z ?_);let C:=xD (Obj.mapSeq (·.push Value.none)) t Z;calc wpAny_updateSeq C Z ?_;let ac:=xD (Obj.mapSeq (·.pop)) C Z;let B:∀b o,b≠↥s->a.get? b=U o->((a.update ↥s (Obj.mapSeq (·.push Value.none))).update ↥s (Obj.mapSeq (·.pop))).get? b=U o:=
  λb o j e=>(wj _ _ (qy j)).trans ((wj _ _ (qy j)).trans e)
 let ab:↥s+1<=I:=by rw[<-m];exact hI
 let y:↥s∉[I,S]:=λz=>by
  rcases aa _ z with q | q
  .exact nS q.symm
  .let q':H.objs.size<=↥s:=q;rw[m]at q';exact NR q' (Nat.not_succ_le_self _)
 calc qv #[plainId_quiet F.plain_extend_loop _,codeAny_extend_loopS (W A.in1 hh).toS hn _ y _ ⇑ls 0 _ _ _ Z (rM _) ((W A.in1 hh).frame 0 a _ st λb j o e=>B b o (λz=>y (z▸j)) e) ac (ItemsOf.nil _) λs' f c' L V A4=>?_];show wpAny _ A (load ↥s >>= λr=>_) _ _ s';calc qd (wpAny_load V ?_);let X:hJ (ls.map λp=>kV p.1) f.toList:=by calc FP (by rw[qm];calc(Array.length_toList.trans A4.1).symm) λi x u G K=>?_;rw[uW]at K;let#[k,v,e,hk]:=A4.2 i u K;rw[se,e]at G;cases G;exact Hm hk
 let done:=hQ s' f.toList (λb o e=>by
  let D:=qQ e;calc L.heap b o (λz=>?_) (B b o (rK D) (P b o (k1 b o e)));rcases qS.mp z with q | q
  .rw[q]at D;exact tJ _ D
  .let q:b=I:=by simpa using q
   rw[q]at D;calc NR D (Nat.not_lt.mpr (Nat.le_of_succ_le ab))) L.gens L.os X
 calc qv done
end
def qf (l:p9):qt:=.inr #[↑l]
def Dn (l:p9):kV (qf l)=tx l:=rfl
section
end
def vo:Obj->List (Str×Tok×Value)
 | ⟨_,_,.dict es _,_⟩=>es.toList.filterMap λe=>match e.key with | .str x t=>U (x,t,e.val) | _=>O
 | _=>[]
def BL:Obj->Nat
 | ⟨_,_,.dict _ n,_⟩=>n
 | _=>0
def DL (w:AI)(T:List (Str×Tok×Value))(n:Nat):Obj:=#[.type "dict",O,.dict ↑(T.map λt=>(#[PyData.keyHash w.params t.1,.str t.1 t.2.1,t.2.2]:DictEntry)) n,↑[]]
def GB:Value->V
 | .ref b=>.ref b
 | _=>.non
def GN:Value->Bool
 | .ref _=>Y
 | _=>J
def EC (T:List (Str×Tok×Value)):List (qt×V):=T.map λt=>(.inr t.1,GB t.2.2)
def Bj:AJ->Bool
 | []=>Y
 | x::r=>!r.contains x&&Bj r
theorem HS:∀ {l:AJ},Bj l=Y->l.Nodup
 | [],_=>List.nodup_nil
 | x::r,h=>by unfold Bj at h;rw[rB,Bool.not_eq_true']at h;calc uX.mpr #[λz=>by rw[List.contains_iff_mem.mpr z]at h;calc Bool.noConfusion h.1,HS h.2]
def ve.of {w:AI}{K:qj}{a:AD}{o:Obj}(d:K.lookup a=U o)(m:o=DL w (vo o) (BL o))(l:(a == sysModules)=J)(i:Bj ((vo o).map (·.1))=Y)(c:((vo o).all λt=>GN t.2.2)=Y):ve w K a (EC (vo o)):=by
 generalize vo o=T at *;generalize BL o=n at *;subst m;let f:=HS i;clear i;refine#[l,_,T.map λt=>((.inr t.1:qt),t.2.2),d,?_,λP=>#[_,_,#[Z,Z,Z],Z,?_,?_,?_]]
 .clear d f;unfold EC;induction T with
  | nil=>exact .nil
  | cons t r g=>
   rw[yE,rB]at c;calc .cons #[Z,?_] (g c.2);let#[x,k,v]:=t;show ia (GB v) v
   match v,c.1 with
   | .ref b,_=>exact Z
 .intro e j;let#[t,_,Z]:=rj.mp (List.mem_toArray.mp j);exact#[.inr t.1,beq_self_eq_true _,Z]
 .clear d f c;show Pairs _ (T.map _).toArray.toList _;rw[List.toList_toArray];induction T with
  | nil=>exact .nil
  | cons t r g=>exact .cons (beq_self_eq_true _) Z g
 .rw[rO];have:(T.map ((λx=>x.1) ∘ λt=>((.inr t.1:qt),t.2.2)))=(T.map (·.1)).map Sum.inr:=by rw[rO];rfl
  rw[this];calc List.Pairwise.map _ (λa b h e=>h (Sum.inr.inj e)) f
def NE {w:AI}{K:qj}{a b:AD}{o:Obj}{x:Str}(d:K.lookup a=U o)(f:o=DL w (vo o) (BL o))(h:nsIn K a x=U (U (.ref b))):hW (EC (vo o)) (.inr x)=U (.ref b):=by
 unfold nsIn at h;rw[d]at h;generalize vo o=T at *;generalize BL o=n at *;subst f;clear d;replace h:(match (T.map λt=>(#[PyData.keyHash w.params t.1,.str t.1 t.2.1,t.2.2]:DictEntry)).toArray.toList.find? (λe=>e.key.isStr x) with | some e=>U (U e.val) | none=>if ((T.map λt=>(#[PyData.keyHash w.params t.1,.str t.1 t.2.1,t.2.2]:DictEntry)).toArray.toList.any λe=>e.refKey)=Y then O else U O)=U (U (Value.ref b)):=h;rw[List.toList_toArray]at h;split at h
 .rename_i e c
  injection h with h;injection h with h;clear n;induction T with
  | nil=>cases c
  | cons t r g=>
   unfold hW EC;rw[rC,yK];rw[rC,yK]at c;by_cases z:t.1=x
   .rw[show (Value.str t.1 t.2.1).isStr x=Y from beq_iff_eq.mpr z]at c;injection c with c;subst c;rw[NM (show (Sum.inr t.1:qt)=.inr x by rw[z])];show U (GB t.2.2)=_;rw[show t.2.2=Value.ref b from h];rfl
   .rw[show (Value.str t.1 t.2.1).isStr x=J from beq_eq_false_iff_ne.mpr z]at c;rw[NN (λe:(Sum.inr t.1:qt)=.inr x=>z (Sum.inr.inj e))];exact g c
 .split at h<;>cases h
def o5 (o:Obj):Option AJ:=match o.data with
 | .seq its _=>if its.size<=100 then its.toList.mapM λv=>match v with | .str x _=>U x | _=>O else O
 | _=>O
theorem Ib:∀ {vs:AC} {xs:AJ},(vs.mapM λv=>match v with | .str x _=>U x | _=>O)=U xs->hJ (xs.map V.str) vs
 | [],xs,h=>by
  rw[List.mapM_nil]at h;cases h;exact .nil
 | v::vs,xs,h=>by
  rw[List.mapM_cons]at h
  match v,h with
  | .str x t,h=>
   cases e:vs.mapM (m:=Option) λv=>match v with | .str x _=>some x | _=>none with
   | none=>rw[e]at h;cases h
   | some ys=>
    rw[e]at h;cases h;calc .cons #[t,Z] (Ib e)
def Znm {K:qj}{H:Hp}{a:AD}{o:Obj}{xs:AJ}(e:K.lookup a=U o)(c:o.cls=.type "tuple")(h:o5 o=U xs):sG K H a (xs.map V.str):=by
 unfold o5 at h;split at h
 .rename_i b n d
  split at h
  .rename_i z
   exact .inr #[_,b,n,e,c,d,qJ z (by rw[sizeLine_eq];decide),Ib h]
  .cases h
 .cases h
abbrev pD (l:p9):Str:=#[↑l]
inductive lR (K:qj)(a:AD):List (Str×AJ)->Prop
 | nil:lR K a []
 | cons:∀ {x:Str} {b:AD} {o:Obj} {xs:AJ} {r},nsIn K a x=U (U (.ref b))->K.lookup b=U o->o.cls=.type "tuple"->o5 o=U xs->lR K a r->lR K a ((x,xs)::r)
inductive lP (K:qj)(a:AD):List (Str×Str)->Prop
 | nil:lP K a []
 | cons:∀ {x y:Str} {b:AD} {r},nsIn K a x=U (U (.ref b))->nsIn K mainGlobals y=U (U (.ref b))->lP K a r->lP K a ((x,y)::r)
def Hy (w:AI)(K:qj)(a:AD)(L:List (Str×AJ)):Prop:=∃kvs,ve w K a kvs/\∀p∈L,∃b,hW kvs (.inr p.1)=U (.ref b)/\∀H,sG K H b (p.2.map V.str)
def Gq (w:AI)(K:qj)(c:AB)(a:AD)(L:List (Str×Str)):Prop:=∃kvs,ve w K a kvs/\∀p∈L,∃b,hW kvs (.inr p.1)=U (.ref b)/\c p.2=U (.ref b)
def Hy.of {w:AI}{K:qj}{a:AD}{o:Obj}{L:List (Str×AJ)}(b:K.lookup a=U o)(d:o=DL w (vo o) (BL o))(k:(a == sysModules)=J)(g:Bj ((vo o).map (·.1))=Y)(i:((vo o).all λt=>GN t.2.2)=Y)(h:lR K a L):Hy w K a L:=by
 calc#[_,ve.of b d k g i,λp c=>?_];induction h with
 | nil=>cases c
 | cons l m e j _ f=>
  rcases qS.mp c with rfl | z
  .exact#[_,NE b d l,λH=>Znm m e j]
  .exact f z
def Gq.of {w:AI}{K:qj}{b:Heap}{e:AB}(X:K.In b)(G:b.Ns mainGlobals e){a:AD}{o:Obj}{L:List (Str×Str)}(c:K.lookup a=U o)(d:o=DL w (vo o) (BL o))(k:(a == sysModules)=J)(i:Bj ((vo o).map (·.1))=Y)(j:((vo o).all λt=>GN t.2.2)=Y)(h:lP K a L):Gq w K e a L:=by
 calc#[_,ve.of c d k i j,λp b=>?_];induction h with
 | nil=>cases b
 | cons f l _ g=>
  rcases qS.mp b with rfl | z
  .exact#[_,NE c d f,sV X G l]
  .exact g z
def sd_at {K:qj}{d:Heap}{c:AB}{x:Str}{a b:AD}{p:AD->Prop}(X:K.In d)(G:d.Ns mainGlobals c)(e:nsIn K mainGlobals x=U (U (.ref b)))(h:p b)(e2:c x=U (.ref a)):p a:=by let f:=(sV X G e).symm.trans e2;cases f;calc h
def kQ:List (Str×AJ):=[("strip",["NAME"]),("take",["NAME"]),("put",["NAME","LETTERS"]),("drop",["NAME"]),("back",["NAME"]),("from",["NAME","LETTERS",".."]),("names",[]),("text",["NAME"]),("lacks",["NAME"]),("ask",["NAME","LETTERS"]),("often",["NAME","LETTERS"]),("most",["NAME","NUMBER"]),("lone",["NAME","NUMBER"]),("rooms",["NAME"]),("near",["NAME"]),("ring",["LETTERS"]),("same",["LETTERS","LETTERS"])]
def lZ:List (Str×Str):=[("strip","answer_strip"),("take","answer_take"),("put","answer_put"),("drop","answer_drop"),("back","answer_back"),("from","answer_from"),("names","answer_names"),("text","answer_text"),("lacks","answer_lacks"),("ask","answer_ask"),("often","answer_often"),("most","answer_most"),("lone","answer_lone"),("rooms","answer_rooms"),("near","answer_near"),("ring","answer_ring"),("same","answer_same")]
theorem J9 {c:Nat}:∀ {p q r s:p9},c∉p->c∉q->p++c::r=q++c::s->p=q/\r=s
 | [],[],r,s,_,_,e=>by injection e with _ e;exact#[Z,e]
 | [],b::q,r,s,_,hq,e=>by
  rw[xC,yw]at e;injection e with e _;exact NR (e▸sA) hq
 | a::p,[],r,s,hp,_,e=>by
  rw[xC,yw]at e;injection e with e _;exact NR (e▸sA) hp
 | a::p,b::q,r,s,hp,hq,e=>by rw[yw,yw]at e;injection e with e1 e2;let#[h1,h2]:=J9 (λz=>hp (si _ z)) (λz=>hq (si _ z)) e2;calc#[by rw[e1,h1],h2]
def we:ir [c] (p::q::r)=p++c::ir [c] (q::r):=by show p++[c]++_=_;simp
theorem Jx {c:Nat}:∀ {a b:qi},a≠[]->b≠[]->(∀p∈a,c∉p)->(∀q∈b,c∉q)->ir [c] a=ir [c] b->a=b
 | [],_,h,_,_,_,_=>NR Z h
 | _,[],_,h,_,_,_=>NR Z h
 | [p],[q],_,_,_,_,e=>by
  let e:p=q:=e;rw[e]
 | [p],q::q2::b,_,_,hp,hq,e=>by
  rw[we]at e;let e:p=_:=e;exact NR (by rw[e];simp) (hp p {})
 | p::p2::a,[q],_,_,hp,hq,e=>by
  rw[we]at e;let e:_=q:=e;exact NR (by rw[<-e];simp) (hq q {})
 | p::p2::a,q::q2::b,_,_,hp,hq,e=>by rw[we,we]at e;let#[f,g]:=J9 (hp p {}) (hq q {}) e;rw[f,Jx {} {} (λx d=>hp x (si _ d)) (λx d=>hq x (si _ d)) g]
def Zlp (h:ps≠[])(g:∀p∈ps,32∉p):Txt.split #[↑(ir [32] ps)] #[↑[32]]=ps.map λp=>(#[↑p]:Str):=by
 let j:=StrLaws.join_split #[↑(ir [32] ps)] #[↑[32]];let c:=StrLaws.split_free #[↑(ir [32] ps)] 32;generalize hS:Txt.split #[↑(ir [32] ps)] #[↑[32]]=S at j c;let b:S=(S.map λx=>x.cps.toList).map λp=>(#[↑p]:Str):=by rw[rO];exact(List.map_id S).symm
 let d:S.map (λx=>x.cps.toList)≠[]:=λz=>by
  let z:S=[]:=by simpa using z
  rw[<-hS]at z;unfold Txt.split at z;split at z
  .cases z
  .split at z
   .cases z
   .rw[StrLaws.partsBetween_eq]at z;let#[_,_,e]:=StrLaws.partsFrom_ne #[↑(ir [32] ps)] ⇑(#[↑[32]]:Str) 0 (Builtin.Str.occurrences #[↑(ir [32] ps)] #[↑[32]] 0 ⇑(#[↑(ir [32] ps)]:Str) (⇑(#[↑(ir [32] ps)]:Str)+1));rw[z]at e;cases e
 let i:ir [32] (S.map λx=>x.cps.toList)=ir [32] ps:=by let a:=Hj [32] (S.map λx=>x.cps.toList);rw[<-b]at a;have:(#[↑(ir [32] (S.map λx=>x.cps.toList))]:Str)=#[↑(ir [32] ps)]:=a.symm.trans j;injection this with this;simpa using NQ Array.toList this
 rw[b,Jx d h (λp k=>by let#[x,f,Z]:=rj.mp k;calc c x f) g i]
theorem Lg:∀ {a:qi} {l:List (Str×Tok)},l.map (·.1)=(a.map λp=>(#[↑p]:Str))->hJ (a.map tx) (strValues l)
 | [],[],_=>.nil
 | [],_::_,h=>by cases h
 | _::_,[],h=>by cases h
 | p::a,(x,t)::l,h=>by rw[rC,rC]at h;injection h with h1 h2;calc .cons #[t,by rw[<-h1]] (Lg h2)
theorem HJ {c:Nat}:∀b:qi,⇑b<=⇑(ir [c] b)+1
 | []=>rM _
 | [_]=>by simp
 | p::q::r=>by
  have:=HJ (c:=c) (q::r);rw[we,qP,rF,rF,rF (a:=c)];rw[rF]at this
  lia
section
def ID:zP X "str.split" (λx vs H Q=>∃a,x=tx (ir [32] a)/\vs=[tx [32]]/\a≠[]/\(∀p∈a,32∉p)/\⇑(ir [32] a)<=100000/\iH (a.map tx) H Q):=by
 rintro m s σ H x vs v A Q I w n ⟨a,rfl,rfl,o,d,z,q⟩;let#[t,Z]:=w;let#[u,Z,y]:=n.one;let#[f,Z]:=y;let g:=Zlp o d;let h:⇑(#[↑(ir [32] a)]:Str)=⇑(ir [32] a):=wW _;let pl:⇑a<=sizeLine:=by have:=HJ (c:=32) a;rw[sizeLine_eq];lia
 let j:⇑(#[↑(ir [32] a)]:Str)<=sizeLine:=by rw[h,sizeLine_eq];lia
 generalize hx:(#[↑(ir [32] a)]:Str)=x at g h j;let fin:∀(l:List (Str×Tok)) (k:Nat),l.map (·.1)=Txt.split x #[↑[32]]->EP X m σ Q (.ref ↥s) { s with heap:=s.heap.push { cls:=.type "list",data:=.seq ↑(strValues l) },toks:=k }:=λl k i=>by rw[g]at i;calc#[.ref ↥s,_,I.laid (t':=k) (λb u e=>qU _ e) (qG _) ?_,Z,q _ I.fresh];exact#[by rw[qm];calc pl,strValues l,0,Lg i,rS _ Z]
 show wpAny _ _ (call (.builtin "str.split") [.str x t,.str #[↑[32]] f]) _ _ _;cases h1:(R (⇑x<⇑(#[↑[32]]:Str)) || R (Builtin.Str.strKind x<Builtin.Str.strKind #[↑[32]]))
 .cases d:(Builtin.Str.occurrences x #[↑[32]] 0 ⇑x (⇑x+1)).isEmpty
  .let e:Builtin.Str.partsBetween x (Builtin.Str.occurrences x #[↑[32]] 0 ⇑x (⇑x+1)) ⇑(#[↑[32]]:Str)=Txt.split x #[↑[32]]:=((qe (ne_true_of_eq_false h1)).trans (qe (ne_true_of_eq_false d))).symm;calc call_meets F.slot_str_split (typeIs_str _ _ _) F.entry_str_split (F.args_str_split_2 _ _) (meets_str_split_sep x #[↑[32]] t f h1 Z d j (by rw[e,g,qm];calc pl)) ?_;let r:=fin (numbered s.toks (Builtin.Str.partsBetween x (Builtin.Str.occurrences x #[↑[32]] 0 ⇑x (⇑x+1)) ⇑(#[↑[32]]:Str))) (s.toks+⇑(Builtin.Str.partsBetween x (Builtin.Str.occurrences x #[↑[32]] 0 ⇑x (⇑x+1)) ⇑(#[↑[32]]:Str))) ((numbered_texts _ _).trans e);rw[<-strsFrom_eq]at r;exact r
  .exact call_meets F.slot_str_split (typeIs_str _ _ _) F.entry_str_split (F.args_str_split_2 _ _) (meets_str_split_not_found x #[↑[32]] t f h1 Z d) (fin [(x,t)] s.toks ((qe (ne_true_of_eq_false h1)).trans (qg d)).symm)
 .exact call_meets F.slot_str_split (typeIs_str _ _ _) F.entry_str_split (F.args_str_split_2 _ _) (meets_str_split_cannot_occur x #[↑[32]] t f h1) (fin [(x,t)] s.toks (qg h1).symm)
end
def ZhK:ud X (.type "str") (λxs H Q=>∃l,xs=[tx l]/\Q (tx l) H):=by rintro b s σ H xs a Q I r ⟨l,rfl,q⟩;let#[u,Z,t,Z]:=r.one;calc PySem.P.str_of_str #[tx l,H,I,#[_,Z],q]
end L2
namespace L2
open PySem PySem.W
def DG (K:Frag)(x:Str)(s:Stmt)(f:AD)(e:AF):Prop:=nsIn K mainGlobals x=U (U (.ref f))/\uE K x x s f e
def MG (K:Frag)(x q:Str)(s:Stmt)(f:AD)(e:AF):Prop:=uE K x q s f e/\isFn K (.ref f)=Y
structure XG (K:Frag)(x:Str)(C:AD)(L:AC):Prop where
 a:nsIn K mainGlobals x=U (U (.ref C))
 m:Xm K C
 i:Xi K C
 k:jd K C L
def xg_mk {K:Frag}{x:Str}{C:AD}{L:AC}{d:ClassData}{p w:Str}{N:AD}{o u:AC}{y:Bool}{h:AJ}{b:AC}{D:Bool}{e:Option Bool}{dd:Option AD}{n g m k z:Option Value}(a:nsIn K mainGlobals x=U (U (.ref C)))(q:clsIn K C=U d)(r:d.mro=L)(ty:typeIn K (.ref C)=U (.type "type"))
  (i:findIn K (.ref C) "__getattribute__"=U (U (.builtin "BaseException.__getattribute__"))) (v:findIn K (.ref C) "__getattr__"=U O) (A:findIn K (.ref C) "__setattr__"=U (U (.builtin "object.__setattr__"))) (B:hasDictIn K C=Y)
  (ob:K.lookup C=U (excClassObj p w C N o u y h b D e dd n g m k z "ValueError.__new__")) (j:keepIn K (.ref C)=Y) (l:findIn K (.ref C) "__class__"=U (U (.builtin "object.__class__")))
  (s:specialIn K (.builtin "object.__class__") "__get__"=U (U (.builtin "getset_descriptor.__get__"))) (tk:takesIn K (.builtin "object.__class__")=U Y) (t:jE L=Y) (f:L.isEmpty=J):XG K x C L:=
 let c:Xc K C:=#[i,v,A,B,by rw[q];show jE d.mro=Y;rw[r];calc t]
 #[a,#[c,#[_,_,_,_,_,_,_,_,_,_,_,_,_,_,_,_,ob],j],#[c,l,s,tk],#[#[_,q,r],ty,f]]
def dg_mk {K:Frag}{x:Str}{st:Stmt}{f:AD}{j:Value}{od i:Option AD}{e:Array (Option Value)}{kV b g d h:Value}(a:nsIn K mainGlobals x=U (U (.ref f)))(l:K.lookup f=U #[j,od,.func (fnOf x x (xi st) (vC st) (uc st) .none kV b g i d h),e])
  (c:codeIn K d x=Y) (k:keepIn K (.ref f)=Y):DG K x st f (fnOf x x (xi st) (vC st) (uc st) .none kV b g i d h):=#[a,LN l c k]
def mg_mk {K:Frag}{x q:Str}{st:Stmt}{f:AD}{i:Value}{od h:Option AD}{d:Array (Option Value)}{kV a e b g:Value}(l:K.lookup f=U #[i,od,.func (fnOf x q (xi st) (vC st) (uc st) .none kV a e h b g),d])
  (c:codeIn K b q=Y) (k:keepIn K (.ref f)=Y) (n:isFn K (.ref f)=Y):MG K x q st f (fnOf x q (xi st) (vC st) (uc st) .none kV a e h b g):=#[LN l c k,n]
structure DF (K:Frag)(mg:AB)(x:Str)(st:Stmt)(f:AD)(d:AF)(ps:AJ):Prop where
 m:mg x=U (.ref f)
 u:uE K x x st f d
 b:iP K d ps []
structure MF (K:Frag)(x q:Str)(st:Stmt)(f:AD)(d:AF)(ps:AJ):Prop where
 u:uE K x q st f d
 b:iP K d ps []
section
def qX (X:K.In h)(G:h.Ns mainGlobals mg)(D:DG K x st f d)(b:∀(kV a c:Value)(i:Option AD)(e g:Value)(us:AC),⇑us=⇑ps->bindArgs (fnOf x x (xi st) (vC st) (uc st) .none kV a c i e g) #[us,[]]=pure (ps.zip us)):DF K mg x st f d ps:=#[mg_of X G D.1,D.2,D.2.binds b]
def sv (D:MG K x q st f d)(b:∀(kV a c:Value)(h:Option AD)(e g:Value)(us:AC),⇑us=⇑ps->bindArgs (fnOf x q (xi st) (vC st) (uc st) .none kV a c h e g) #[us,[]]=pure (ps.zip us)):MF K x q st f d ps:=#[D.1,D.1.binds b]
end
section
def qC (F:g9 X.prog X.w X.K X.mg X.base CX k f fd ps sp)(i:iJ k X.A)(c:Gl X x)(D:DF X.K X.mg x st f fd ps)(d:vy CX X E)
  (h:PA X (e::es) t) (a:autoParam ((x == ("__debug__":Str))=J) Qw._auto_1) (g:autoParam (starEach (e::es) X.env=(J,eval e X.env)::starEach es X.env) Qq._auto_1) (b:autoParam ((backTo pos (starEach es X.env)).any (·.1)=J) Qq._auto_1):
  PE X (.Call (.Name x p) (e::es) [] pos) (Ff sp [] E t):=ZnX F i c D.m D.u.kp D.b .nil d h a g b
def hM (a:iJ n A)(h:autoParam (k<=n) Qw._auto_1):iJ k A:=a.mono h
def qM (a:X.N.Nodup)(c:PE X e te)(g:autoParam (X.N[i]?=U x) Qq._auto_1)(b:zW X.env.scope x:=by calc Or.inl Z)(f:autoParam (swapsWith e (U (.Name x pos')) pos.line X.env=pure J) Qq._auto_1)(d:autoParam (X.fn x=Y\/X.env.scope.names.lookup x=U .local) Qz._auto_1):PS X (.Assign [.Name x pos'] e pos) (k9 te (uD i)):=vX a g b c f d
end
end L2
namespace L2
open PySem PySem.Spec PyProof.Rows
def iu (l:p9)(n:Nat):qi:=sU (tE ((List.range (⇑l+1-n)).map λi=>(l.drop i).take n))
theorem Ix {x:p9}:∀(ls a:qi),x∈ls.foldl ji a↔x∈a\/x∈ls
 | [],a=>by simp
 | y::ls,a=>by
  rw[zN,Ix ls];let h:x∈ji a y↔x∈a\/x=y:=by
   unfold ji;split
   .rename_i h
    constructor
    .exact .inl
    .rintro (q | q)
     .exact q
     .rw[q];exact h
   .rw[rJ,qR]
  rw[h,qS,or_assoc]
def Gy:x∈tE ls↔x∈ls:=by unfold tE;rw[Ix];simp
def Zke (ls:qi):(tE ls).Nodup:=by rw[<-EY];exact Dx _
open PySem.W (Frag)
def sP (l w:p9)(i:Nat):Prop:=i+⇑w<=⇑l/\(l.drop i).take ⇑w=w
def qI (w l:p9):Prop:=∃i,sP l w i
def yR (l w:p9)(i:Nat):StrLaws.At #[↑l] #[↑w] ⇑(#[↑l]:Str) i↔sP l w i:=by
 let a:⇑(#[↑l]:Str)=⇑l:=wW l;let c:⇑(#[↑w]:Str)=⇑w:=wW w;unfold StrLaws.At sP Builtin.Str.subAt;rw[a,c];calc and_congr_right λh=>?_;let b:l.toArray.extract i (i+⇑w)=↑((l.drop i).take ⇑w):=by
  apply Array.ext';simp only[List.extract_toArray,List.extract_eq_take_drop];have:i+⇑w-i=⇑w:=by lia
  rw[this]
 show (l.toArray.extract i (i+⇑w) == ↑w)=Y↔_;rw[b,NS];calc#[λz=>by simpa using NQ Array.toList z,λz=>by rw[z]]
def sP.nil (l:p9):sP l [] 0:=#[{},{}]
def qI.nil (l:p9):qI [] l:=#[0,sP.nil l]
def qI.len (h:qI w l):⇑w<=⇑l:=by let#[i,h,_]:=h;lia
def qI.mem (h:qI w l){c:Nat}(a:c∈w):c∈l:=by let#[i,_,h]:=h;rw[<-h]at a;calc ua (tH a)
def qI.refl (l:p9):qI l l:=#[0,{},{}]
def sP.trans (c:sP v u i)(d:sP w v j):sP w u (j+i):=by
 let#[f,b]:=c;let#[g,a]:=d;calc#[∅,?_];let e:(w.drop (j+i)).take ⇑u=((((w.drop j).take ⇑v).drop i).take ⇑u):=by
  rw[List.drop_take,wG,xO];congr 1
  lia
 rw[e,a,b]
def qI.trans (a:qI u v)(b:qI v w):qI u w:=by let#[i,a]:=a;let#[j,b]:=b;calc#[_,a.trans b]
def GY (w:p9):qI w.tail w:=by
 cases w with
 | nil=>exact qI.nil _
 | cons c w=>calc#[1,by simp;lia,{}]
def Gd (w:p9):qI w.dropLast w:=#[0,{},by rw[vI,vF,Cu]]
def JJ (h:qI v w)(c:⇑v<⇑w):qI v w.dropLast\/qI v w.tail:=by
 let#[i,b,a]:=h;cases i with
 | zero=>
  calc .inl #[0,by rw[vF];lia,?_];rw[vI]at a ⊢;rw[Cu,xO];have:min ⇑v (⇑w-1)=⇑v:=by lia
  rw[this];exact a
 | succ i=>
  calc .inr #[i,by rw[BJ];lia,?_];rw[List.drop_tail];calc a
def D7 (h:qI v w)(c:⇑w<=⇑v):v=w:=by
 let#[i,d,a]:=h;let b:i=0:=by lia
 subst b;rw[vI,uU c]at a;calc a.symm
def xN (e:n<=⇑l+1):x∈iu l n↔⇑x=n/\qI x l:=by
 unfold iu;rw[(vP _).mem_iff,Gy,rj];constructor
 .rintro⟨i,b,rfl⟩;let b:=sT.mp b;let a:⇑((l.drop i).take n)=n:=by rw[rL,tG];lia
  exact#[a,i,∅,by rw[a]]
 .rintro⟨rfl,i,d,c⟩;calc#[i,sT.mpr ∅,c]
def KQ (l:p9)(n:Nat):⇑(iu l n)<=⇑l+1:=by
 unfold iu;rw[(vP _).length_eq];have:∀(ls a:qi),⇑(ls.foldl ji a)<=⇑a+⇑ls:=by
  intro ls;induction ls with
  | nil=>intro a;simp
  | cons x ls b=>
   intro a;rw[zN];calc qJ (b _) ?_;unfold ji;split<;>simp<;>lia
 let h:=this ((List.range (⇑l+1-n)).map λi=>(l.drop i).take n) [];rw[qm,uY]at h;unfold tE;simp only[y8]at h
 lia
noncomputable def vp (a st:qi)(h:p9)(c:Nat):Bool:=R ((h++[c]).tail∈a)&&!R (h++[c]∈st)
def xP (a st:qi)(m h:p9):qi:=(m.filter (vp a st h)).map λc=>h++[c]
noncomputable def xx (a st:qi)(m:p9):qi:=a.flatMap (xP a st m)
def yy (l m:p9)(i:Nat):qi:=(List.range i).flatMap λk=>xx (iu l k) (iu l (k+1)) m
noncomputable def qE (l m:p9):qi:=yy l m (⇑l+1)
def JW (l m:p9)(i:Nat):yy l m (i+1)=yy l m i++xx (iu l i) (iu l (i+1)) m:=by unfold yy;rw[wX,List.flatMap_append,List.flatMap_singleton]
def LX (a st:qi)(m h:p9):⇑(xP a st m h)<=⇑m:=by unfold xP;rw[qm];calc ug _ _
theorem CA {α β:Type}{f:α->List β}{b:Nat}(h:∀x,⇑(f x)<=b):∀l:List α,⇑(l.flatMap f)<=⇑l*b
 | []=>by simp
 | x::l=>by
  rw[List.flatMap_cons,qP,rF,Nat.succ_mul];have:=h x;have:=CA h l
  lia
def Zkt (a st:qi)(m:p9):⇑(xx a st m)<=⇑a*⇑m:=CA (LX a st m) a
def HD {b st:qi}{m w:p9}:w∈xx b st m↔∃h c,h∈b/\c∈m/\w=h++[c]/\w.tail∈b/\w∉st:=by
 unfold xx xP vp;simp only[Dj,rj,uK,rB,Bool.not_eq_true',NL,NP];constructor
 .rintro⟨h,a,c,⟨d,e,f⟩,rfl⟩;exact#[h,c,a,d,Z,e,f]
 .rintro⟨h,c,a,d,rfl,e,f⟩;calc#[h,a,c,#[d,e,f],Z]
structure jS (l w:p9):Prop where
 ne:w≠[]
 init:qI w.dropLast l
 tail:qI w.tail l
 no:¬qI w l
def tP:w∈qE l m↔jS l w/\∃c∈m,w.getLast?=U c:=by
 unfold qE yy;rw[Dj];constructor
 .rintro⟨k,j,o⟩;let j:=sT.mp j;let#[h,c,b,f,Z,i,n]:=HD.mp o;rw[xN ∅]at b i;refine#[#[{},~~~b.2,i.2,λz=>n ((xN ∅).mpr #[by simp[b.1],z])],c,f,{}]
 .rintro⟨⟨d,a,p,r⟩,c,f,g⟩;let e:w.dropLast++[c]=w:=by rw[BK d]at g;let h:=DP d;rw[Option.some.inj g]at h;exact h
  let q:⇑w.dropLast=⇑w-1:=vF;let b:1<=⇑w:=wC.mpr d;refine#[⇑w-1,sT.mpr (by have:=a.len;lia),HD.mpr #[w.dropLast,c,?_,f,e.symm,?_,?_]]
  .rw[xN (by have:=a.len;lia)];exact#[q,a]
  .rw[xN (by have:=a.len;lia)];exact#[BJ,p]
  .rw[xN (by have:=a.len;lia)];calc λz=>r z.2
def K1:∀(n:Nat)(w:p9),⇑w=n->(∀c∈w,c∈m)->¬qI w l->∃v,v∈qE l m/\qI v w:=by
 intro n;induction n with
 | zero=>
  intro w b _ d;have:w=[]:=zB.mp b;rw[this]at d;exact NR (qI.nil l) d
 | succ n k=>
  intro w b h d;let a:w≠[]:=λe=>by rw[e]at b;simp at b
  by_cases o:qI w.dropLast l
  .by_cases j:qI w.tail l
   .refine#[w,tP.mpr #[#[a,o,j,d],w.getLast a,h _ (List.getLast_mem a),BK a],qI.refl w]
   .obtain⟨v,f,i⟩:=k w.tail (by rw[BJ];lia) (λc g=>h c (List.mem_of_mem_tail g)) j;exact#[v,f,i.trans (GY w)]
  .obtain⟨v,f,i⟩:=k w.dropLast (by rw[vF];lia) (λc g=>h c (tH (by rw[<-Cu];calc g))) o;calc#[v,f,i.trans (Gd w)]
def Zkq (d:∀c∈w,c∈m):qI w l↔∀v∈qE l m,¬qI v w:=by
 constructor
 .intro h v e b;exact(tP.mp e).1.no (b.trans h)
 .intro h;by_cases a:qI w l
  .exact a
  .obtain⟨v,f,g⟩:=K1 (m:=m) _ w Z d a;calc NR g (h v f)
def Zi4 (b:v∈qE l m)(c:w∈qE l m)(h:qI v w):v=w:=by
 rcases Nat.lt_or_ge ⇑v ⇑w with a | a
 .rcases JJ h a with h | h
  .exact NR (h.trans (tP.mp c).1.init) (tP.mp b).1.no
  .exact NR (h.trans (tP.mp c).1.tail) (tP.mp b).1.no
 .exact D7 h a
def KH (a:1<=⇑m):0<⇑(qE l m):=by obtain⟨c,d⟩:∃c,c∈m:=List.exists_mem_of_ne_nil m (λe=>by rw[e]at a;simp at a);let#[v,h,_]:=K1 (l:=l) (m:=m) (⇑l+1) (List.replicate (⇑l+1) c) {} (λx b=>by rw[List.eq_of_mem_replicate b];calc d) (λh=>by have:=h.len;simp at this;lia);calc List.length_pos_of_mem h
def jU (h:H e=O)(s:g7 H H2):g7 H (upd H2 e o'):=λb u a=>by
 have:b≠e:=λz=>by rw[z,h]at a;cases a
 rw[qh this];calc s _ _ a
section
end
noncomputable def jk (w l:p9):Bool:=(List.range (⇑l+1)).any λi=>R (i+⇑w<=⇑l)&&R ((l.drop i).take ⇑w=w)
def zH:jk w l=Y↔qI w l:=by
 unfold jk qI sP;rw[vQ];constructor
 .rintro⟨i,_,h⟩;rw[rB,NT,NT]at h;exact#[i,h]
 .rintro⟨i,a,b⟩;calc#[i,sT.mpr ∅,?_];rw[rB,NT,NT];calc#[a,b]
def Nv:jk w l=J↔¬qI w l:=by rw[<-zH,Bool.not_eq_true]
def Mc (w l:p9):(!(Builtin.Str.occurrences #[↑l] #[↑w] 0 ⇑(#[↑l]:Str) 1).isEmpty)=jk w l:=by rw[vf,StrLaws.found_iff,zH];calc#[λ⟨i,h⟩=>#[i,(yR l w i).mp h],λ⟨i,h⟩=>#[i,(yR l w i).mpr h]]
section
def E9:rV X (compareOp .In) (λx y H Q=>∃w l,x=tx w/\y=tx l/\Q (.bl (jk w l)) H):=by rintro b s σ H x y v u Q I c a ⟨w,l,rfl,rfl,q⟩;calc KA b s σ H _ _ v u Q I c a #[_,_,Z,Z,?_];rw[Mc];calc q
def Ih:rV X (compareOp .NotIn) (λx y H Q=>∃w l,x=tx w/\y=tx l/\Q (.bl (!jk w l)) H):=by rintro b s σ H x y v u Q I c a ⟨w,l,rfl,rfl,q⟩;calc Zgl b s σ H _ _ v u Q I c a #[_,_,Z,Z,?_];rw[Mc];calc q
end
section
def Zk8 (N:X.calm=Y):ud X (.builtin "any") (λxs H Q=>∃(a:AD)(d:List Bool),xs=[.ref a]/\H a=U (.lst (d.map V.bl))/\Q (.bl (d.any id)) H):=by
 rintro B s σ H xs S Q I r ⟨a,d,rfl,C,q⟩;let#[u,Z,G]:=r.one;cases G;let#[_,c,n,t,T,e]:=I.lstM C;let p:s.heap.IsList a ↑c:=PySem.IsL.isList e;let m:a≠↥s:=rK (qQ e);calc call_any_walkS (CF p ?_);let K:c.toArray.size=⇑d:=by rw[rN,<-⇑t,qm]
 let W:=(Walks.list (prog:=X.prog) (w:=X.w) (A:=X.A.in1) (~~~I.ok.hd N) ↥s a m ↑c).toS;refine#[↥s,_,_,_,_,_,_,λi=>d.getD i Y,Z,W,#[#[_,rS _ Z,Z,Z],p.push _],?_,λs' l=>?_]
 .intro i v s Q E F y;let D:c[i]?=U v:=by simpa using F
  let#[x,j,P]:=HB t D;rw[se]at j;cases f:d[i]? with
  | none=>rw[f]at j;cases j
  | some b=>
   rw[f]at j;cases j;obtain rfl:v=Value.bool b:=P;have:d.getD i Y=b:=by rw[sw,f];rfl
   let k:Q (d.getD i Y) s:=y;rw[this]at k;exact ww k
 .let M:(List.range c.toArray.size).any (λi=>d.getD i Y)=d.any id:=by
   rw[K];rw[vf,vQ,vQ];constructor
   .rintro⟨i,g,h⟩;let g:=sT.mp g;rw[sw,rD g]at h;exact#[_,xu g,h]
   .rintro⟨b,f,h⟩;let#[i,g,Z]:=xc f;calc#[i,sT.mpr g,?_];rw[sw,rD g];exact h
  rw[M];let L:qb X B σ H s':=I.call' (ch:=[]) l.os (Un.kept λb o q=>l.heap b o (λz=>?_) (qU _ q)) (I.hok.kept λb o q=>l.heap b o (λz=>?_) (qU _ q)) (by rw[show s'.gens=s.gens from l.gens];calc I.bare) (λb f=>by cases f)
  .exact#[.bl _,H,L,Z,q]
  .let z:b=↥s:=by simpa using z
   rw[z]at q;exact NR (qQ q) (tJ _)
  .let z:b=↥s:=by simpa using z
   rw[z]at q;calc NR (qQ q) (tJ _)
end
section
end
section
end
section
end
open PySem.W (Frag)
def NC:zP X "str.find" (λx vs H Q=>∃l w,x=tx l/\vs=[tx w]/\∀r:Int,((r=-1/\¬qI w l)\/∃i:Nat,r=(i:Int)/\sP l w i/\∀j,j<i->¬sP l w j)->Q (.int r) H):=by
 rintro k s σ H x vs v n Q I d c ⟨l,w,rfl,rfl,q⟩;let#[t,Z]:=d;let#[u,Z,m,Z]:=c.one;calc SC.find ?_;calc#[.int _,H,I.tok _,#[_,Z],q _ ?_];rcases find_whole (#[↑l]:Str) #[↑w] with⟨a,b⟩|⟨i,a,b,e⟩
 .exact .inl #[a,λ⟨i,h⟩=>b i ((yR l w i).mpr h)]
 .exact .inr #[i,a,(yR l w i).mp b,λj g f=>e j g ((yR l w j).mpr f)]
section
end
section
end
section
end
section
end
open PySem.W (Frag)
section
end
end L2
namespace L2
open PySem PySem.Spec PyProof.Rows PySem.W
section
end
end L2
namespace L2
open PySem PySem.Spec PyProof.Rows
open PySem.W (Frag)
section
variable {tt:TT}{te:TE}{Q:VK}{τ0:St}{H:Hp}{K:Frag}{a:AD}{xs:NU}
def ib.dataF (b:Nat->Bool)(D:Hp->V->Nat->Prop)(g:∀H d y i,(∀c us,H c=U (.tup us)->d c=U (.tup us))->D H y i->D d y i)(hz:⇑xs<=100000)(I:rl K H a xs)
  (ht:∀i d u (h:i<⇑xs),g7 H d->(∀H'',g7 d H''->u (b i) H'')->tt (τ0.set 0 (U (xs.getD i .non))) d u)
  (X:∀i d u (h:i<⇑xs),b i=Y->g7 H d->(∀y H'',g7 d H''->D H'' y i->u y H'')->te (τ0.set 0 (U (xs.getD i .non))) d u)
  (hQ:∀p ys d,g7 H d->H p=O->d p=U (.lst ys)->⇑ys=⇑((List.range ⇑xs).filter b)->(∀(k:Nat)(y:V),ys[k]?=U y->∃i,((List.range ⇑xs).filter b)[k]?=U i/\D d y i)->Q (.ref p) d):ib (xK K a) τ0 (uD 0) tt te H Q:=by
 intro n L;refine⟨λi m τ C=>i<=⇑xs/\m=⇑xs-i/\(∀w:Option V,τ.set 0 w=τ0.set 0 w)/\g7 H C/\∃ys,C n=U (.lst ys)/\⇑ys=⇑((List.range i).filter b)/\∀(k:Nat)(y:V),ys[k]?=U y->∃j,((List.range i).filter b)[k]?=U j/\D C y j,
  ⟨⇑xs,rM _,Z,λ_=>rfl,rm L,[],qu,Z,λi y h=>by simp at h⟩,?_⟩
 rintro i m τ C ⟨hi,rfl,P,s,ys,E,t,l⟩;by_cases G:i<⇑xs
 .refine .inr #[#[xs,xs[i],s.seq I,by simp[G]],λv d=>(∀w:Option V,v.set 0 w=τ0.set 0 w)/\g7 H d/\∃ys,d n=U (.lst ys)/\⇑ys=⇑((List.range (i+1)).filter b)/\∀(k:Nat)(y:V),ys[k]?=U y->∃j,((List.range (i+1)).filter b)[k]?=U j/\D d y j,λv d q=>#[⇑xs-(i+1),∅,G,Z,q],λx H3 y=>?_];let#[Z,y]:=y;let ex:x=xs.getD i .non:=by rw[sw,y xs (s.seq I)];rfl
  subst ex;show tt (τ.set 0 (U (xs.getD i .non))) _ _;rw[P];let o:∀w:Option V,(τ0.set 0 (U (xs.getD i .non))).set 0 w=τ0.set 0 w:=λw=>by rw[List.set_set]
  calc ht i _ _ G s λH4 r=>?_;cases hb:b i with
  | false=>
   rw[qe qO];let A:(List.range (i+1)).filter b=(List.range i).filter b:=by rw[wX,x9];simp[hb]
   calc#[o,s.trans r,ys,r _ _ E,by rw[A];calc t,λk y hy=>?_];let#[j,M,N]:=l k y hy;exact#[j,by rw[A];calc M,g _ _ _ _ (λc us e=>r _ _ e) N]
  | true=>
   rw[qg Z];let A:(List.range (i+1)).filter b=(List.range i).filter b++[i]:=by rw[wX,x9];simp[hb]
   let fl:=ug b (List.range i);rw[uY]at fl;calc X i _ _ G hb (s.trans r) λy T F hD=>#[ys,F _ _ (r _ _ E),by rw[t,sizeLine_eq];lia,o,jU L ((s.trans r).trans F),ys++[y],qu,by rw[A,qP,qP,t];rfl,λk z f=>?_];let S:∀c us,T c=U (.tup us)->upd T n (.lst (ys++[y])) c=U (.tup us):=λc us h=>by rw[qh (λe=>by rw[e,F _ _ (r _ _ E)]at h;cases h)];exact h
   rw[A];by_cases W:k<⇑ys
   .rw[vj W]at f;let#[j,M,N]:=l k z f;exact#[j,by rw[vj (by rw[<-t];calc W)];calc M,g _ _ _ _ S (g _ _ _ _ (λc us e=>F _ _ (r _ _ e)) N)]
   .rw[vH ∅]at f;let B:k-⇑ys=0:=by
     rcases Nat.eq_zero_or_pos (k-⇑ys) with h | h
     .exact h
     .rw[wP (by simp;lia)]at f;cases f
    rw[B]at f;cases f;exact#[i,by rw[vH (by rw[<-t];lia),<-t,B];rfl,g _ _ _ _ S hD]
 .let e:i=⇑xs:=by lia
  subst e;calc .inl #[#[xs,s.seq I,qG _],hQ n ys C s L E t l]
end
def ZlS:zP X "str.index" (λx vs H Q=>∃l w,x=tx l/\vs=[tx w]/\qI w l/\∀i:Nat,sP l w i->(∀j,j<i->¬sP l w j)->Q (.int i) H):=by
 rintro m s σ H x vs v o Q I d c ⟨l,w,rfl,rfl,⟨k,f⟩,q⟩;let#[t,Z]:=d;let#[u,Z,n,Z]:=c.one;rcases StrLaws.occ_head (#[↑l]:Str) #[↑w] 1 (qG 1) with⟨b,a⟩|⟨i,r,b,h,a⟩
 .exact NR ((yR l w k).mpr f) (a k)
 .exact SC.index b #[.int _,H,I.tok _,#[_,Z],q i ((yR l w i).mp h) λj g e=>a j g ((yR l w j).mpr e)]
section
end
open PySem.W (Frag)
section
variable {tt:TT}{te:TE}{Q:VK}{τ0:St}{H:Hp}{K:Frag}{a:AD}{xs:NU}
def ib.listM (b:Nat->Bool)(f:Nat->V)(m:⇑xs<=100000)(l:rl K H a xs)
  (v:∀i c d (h:i<⇑xs),g7 H c->(∀H'',g7 c H''->d (b i) H'')->tt (τ0.set 0 (U (xs.getD i .non))) c d)
  (o:∀i c d (h:i<⇑xs),b i=Y->g7 H c->(∀H'',g7 c H''->d (f i) H'')->te (τ0.set 0 (U (xs.getD i .non))) c d)
  (r:∀p c,g7 H c->H p=O->c p=U (.lst (((List.range ⇑xs).filter b).map f))->Q (.ref p) c):ib (xK K a) τ0 (uD 0) tt te H Q:=
 .dataF b (λ_ y i=>y=f i) (λ_ _ _ _ _ h=>h) m l v (λi c d h u s q=>o i c d h u s λH'' g=>q _ H'' g Z) λp B c s n e t z=>r p c s n (by rw[e];congr 2;calc vO (by rw[qm];calc t) λk x A=>?_;let#[j,w,e]:=z k _ (rD x);rw[e,List.getElem_map,(rY.mp w).2])
def ib.tupsM (P:Nat->NU->Prop)(r:⇑xs<=100000)(o:rl K H a xs)
  (u:∀i b c (h:i<⇑xs),g7 H b->(∀p vs H'',g7 b H''->H'' p=U (.tup vs)->P i vs->c (.ref p) H'')->te (τ0.set 0 (U (xs.getD i .non))) b c)
  (v:∀p ys b,g7 H b->H p=O->b p=U (.lst ys)->⇑ys=⇑xs->(∀i y,ys[i]?=U y->∃t vs,y=.ref t/\b t=U (.tup vs)/\P i vs)->Q (.ref p) b):ib (xK K a) τ0 (uD 0) lL te H Q:=
 .dataF (λ_=>Y) (λH y i=>∃t vs,y=.ref t/\H t=U (.tup vs)/\P i vs) (λ_ _ _ _ k ⟨t,vs,e,h,p⟩=>#[t,vs,e,k _ _ h,p]) r o (λi b c _ _ q=>q b (g7.refl _)) (λi b c h _ s q=>u i b c h s λp vs H'' m e w=>q _ H'' m #[p,vs,Z,e,w]) λp ys b s n e d l=>by let x:(List.range ⇑xs).filter (λ_=>Y)=List.range ⇑xs:=List.filter_eq_self.mpr λ_ _=>rfl;rw[x]at d l;rw[uY]at d;calc v p ys b s n e d λi y f=>?_;let#[j,g,h]:=l i y f;rw[List.getElem?_range (by have:=(rY.mp f).1;lia)]at g;cases g;calc h
end
def vg [Decidable c]{a b:StateT SortSt Sem α}{Q:α->SortSt->Prop}{st:SortSt}(d:c->wpS M A E s a Q st)(e:¬c->wpS M A E s b Q st):wpS M A E s (if c then a else b) Q st:=by
 by_cases h:c
 .rw[qg h];exact d h
 .rw[qe h];calc e h
def za {α:Type}{M:Model}{A:AH}{E:rh}{s:AE}{i j:Nat}{a b:StateT SortSt Sem α}{Q:α->SortSt->Prop}{st:SortSt}(c:i=j->wpS M A E s a Q st)(d:¬i=j->wpS M A E s b Q st):wpS M A E s (if (i == j)=Y then a else b) Q st:=
 vg (λh=>c (eq_of_beq h)) λh=>d λe=>h (beq_iff_eq.mpr e)
noncomputable def vU:Bool->Keyed->Array Keyed->Nat->Nat->Nat->StateT SortSt Sem (Option Nat):=sortPriv% PySem.Builtin.gallop
noncomputable def pM (bey:Nat->StateT SortSt Sem (Option Bool))(n h:Nat):StateT SortSt Sem (Option Nat):=do
  let mut la:=0
  let mut o:=1
  let mut lo:=0
  let mut hi:=0
  let U rt <-bey h | return O
  if rt then
   let mx:=n-h
   for _ in [0:n] do
    if o>=mx then break
    let U mo <-bey (h+o) | return O
    if !mo then break
    la:=o
    o:=2*o+1
   lo:=h+la+1
   hi:=h+min o mx
  else
   let mx:=h+1
   for _ in [0:n] do
    if o>=mx then break
    let U fo <-bey (h-o) | return O
    if fo then break
    la:=o
    o:=2*o+1
   lo:=h+1-min o mx
   hi:=h-la
  for _ in [0:n] do
   if lo>=hi then break
   let m:=lo+(hi-lo)/2
   let U mo <-bey m | return O
   if mo then lo:=m+1 else hi:=m
  return U hi
noncomputable def pY (lf:Bool)(ky:Keyed)(ar:Array Keyed)(bs:Nat)(i:Nat):StateT SortSt Sem (Option Bool):=do
 let x <-elem' ar (bs+i)
 if lf then lt' x ky else return (<-lt' ky x).map (!·)
def Zqs (c:Bool)(b:Keyed)(a:Array Keyed)(d n h:Nat):vU c b a d n h=pM (pY c b a d) n h:=rfl
noncomputable def mW (bey:Nat->StateT SortSt Sem (Option Bool))(n l0 h0:Nat):StateT SortSt Sem (Option Nat):=do
  let mut lo:=l0
  let mut hi:=h0
  for _ in [0:n] do
   if lo>=hi then break
   let m:=lo+(hi-lo)/2
   let U mo <-bey m | return O
   if mo then lo:=m+1 else hi:=m
  return U hi
section
variable {M:Model}{A:AH}{E:rh}{s:AE}{bey:Nat->StateT SortSt Sem (Option Bool)}{B:Nat->Bool}{n h:Nat}{st:SortSt}{Q:Option Nat->SortSt->Prop}
noncomputable def kg (B:Nat->Bool)(n a b:Nat):Prop:=(∀i,i<a->B i=Y)/\∀i,b<=i->i<n->B i=J
inductive kW {α:Type}(B:Nat->Bool)(n:Nat)(st:SortSt)(m:Nat):Option α×Nat×Nat->SortSt->Prop
 | mk (lo hi:Nat) (h1:lo<=hi) (h2:hi<=n) (h3:hi-lo<=n-m) (hp:kg B n lo hi):kW B n st m (O,lo,hi) st
inductive kZ {α:Type}(B:Nat->Bool)(st:SortSt)(P:Nat->Nat->Prop)(i:Nat):Option α×Nat×Nat->SortSt->Prop
 | mk (la o:Nat) (h1:i<o) (h2:la<o) (h3:P la o):kZ B st P i (O,la,o) st
inductive kB {α:Type}(B:Nat->Bool)(st:SortSt)(P R_:Nat->Nat->Prop):Option α×Nat×Nat->SortSt->Prop
 | mk (la o:Nat) (h2:la<o) (h3:P la o) (h5:R_ la o):kB B st P R_ (O,la,o) st
def Zoi {a hi:Nat}(v:∀i (Q:Option Bool->SortSt->Prop),i<n->Q (U (B i)) st->wpS M A E s (bey i) Q st)(d:∀i j,i<=j->j<n->B j=Y->B i=Y)(g:a<=hi)(f:hi<=n)(b:kg B n a hi)
  (q:∀k,k<=n->kg B n k k->Q (U k) st):wpS M A E s (mW bey n a hi) Q st:=by
 unfold mW;refine qA (uf (uO (I:=kW B n st) (Q:=kW B n st n) ?step (λ_ _ h=>h.casesOn λa hi g f r b=>.mk a hi g f ∅ b) (.mk a hi g f ∅ b)) ?post)
 case step=>
  calc λi c l _ u h=>h.casesOn λa hi g f r b=>?_;dsimp only;refine vg (λt=>?_) λt=>?_
  .exact qL (kW.mk a hi g f ∅ b)
  .let p:a<=a+(hi-a)/2:=by lia
   let o:a+(hi-a)/2<hi:=by lia
   generalize a+(hi-a)/2=m at p o;calc qA (v m _ ∅ ?_);cases hB:B m with
   | true=>exact qL (kW.mk (m+1) hi ∅ f ∅ #[λi hi=>d i m ∅ ∅ hB,b.2])
   | false=>
    calc qL (kW.mk a m ∅ ∅ ∅ #[b.1,λi hi w=>?_]);cases hx:B i with
    | false=>rfl
    | true=>rw[d m i hi w hx]at hB;cases hB
 case post=>
  calc λc l h=>h.casesOn λa hi g f r b=>?_;let e:a=hi:=by lia
  calc qL (q hi f #[λi z=>b.1 i ∅,b.2])
def Zoj (F:h<n)
  (w:∀i (Q:Option Bool->SortSt->Prop),i<n->Q (U (B i)) st->wpS M A E s (bey i) Q st) (f:∀i j,i<=j->j<n->B j=Y->B i=Y)
  (q:∀k,k<=n->kg B n k k->Q (U k) st):wpS M A E s (pM bey n h) Q st:=by
 let t:∀ {i j},B i=J->i<=j->j<n->B j=J:=λ{i j} u l e=>by
  cases hx:B j with
  | false=>rfl
  | true=>rw[f i j l e hx]at u;cases u
 let D:∀x p,x<=p->p<=n->kg B n x p->wpS M A E s (mW bey n x p) Q st:=λx p a b c=>Zoi w f a b c q;unfold pM;calc qA (w h _ F ?_);cases hB:B h with
 | true=>
  dsimp only;rw[qg Z];refine qA (uf (uO (I:=kZ B st λd _=>h+d<n/\B (h+d)=Y) (Q:=kB B st (λd _=>h+d<n/\B (h+d)=Y) λ_ o=>n-h<=o\/B (h+o)=J) ?step ?fin (.mk 0 1 ∅ ∅ #[∅,hB])) ?post)
  case step=>
   calc λi c m _ z g=>g.casesOn λd o u l e=>?_;dsimp only;refine vg (λv=>?_) λv=>?_
   .exact qL (kB.mk d o l e (.inl v))
   .refine qA (w (h+o) _ ∅ ?_);cases hx:B (h+o) with
    | false=>exact qL (kB.mk d o l e (.inr hx))
    | true=>exact qL (kZ.mk o (2*o+1) ∅ ∅ #[∅,hx])
  case fin=>
   exact λc m g=>g.casesOn λd o u l e=>.mk d o l e (.inl ∅)
  case post=>
   calc λc m g=>g.casesOn λd o l e r=>?_;let#[e,y]:=e;calc D (h+d+1) (h+min o (n-h)) ∅ ∅ #[λi p=>f i (h+d) ∅ e y,λi p C=>?_];rcases r with r | r
   .lia
   .exact t r ∅ C
 | false=>
  dsimp only;rw[qe qO];refine qA (uf (uO (I:=kZ B st λd _=>d<=h/\B (h-d)=J) (Q:=kB B st (λd _=>d<=h/\B (h-d)=J) λ_ o=>h+1<=o\/(o<=h/\B (h-o)=Y)) ?step2 ?fin2 (.mk 0 1 ∅ ∅ #[∅,hB])) ?post2)
  case step2=>
   calc λi c m _ z g=>g.casesOn λd o u l e=>?_;dsimp only;refine vg (λv=>?_) λv=>?_
   .exact qL (kB.mk d o l e (.inl v))
   .refine qA (w (h-o) _ ∅ ?_);cases hx:B (h-o) with
    | true=>exact qL (kB.mk d o l e (.inr #[∅,hx]))
    | false=>exact qL (kZ.mk o (2*o+1) ∅ ∅ #[∅,hx])
  case fin2=>
   exact λc m g=>g.casesOn λd o u l e=>.mk d o l e (.inl ∅)
  case post2=>
   calc λc m g=>g.casesOn λd o l e r=>?_;let#[e,y]:=e;calc D (h+1-min o (h+1)) (h-d) ∅ ∅ #[λi p=>?_,λi p C=>t y p C];rcases r with r | ⟨r,G⟩
   .lia
   .exact f i (h-o) ∅ ∅ G
end
structure uV (D:Keyed->Prop)(L:Keyed->Keyed->Bool):Prop where
 asym:∀x y,D x->D y->L x y=Y->L y x=J
 tr:∀x y z,D x->D y->D z->L y x=J->L z y=J->L z x=J
abbrev Le (L:Keyed->Keyed->Bool)(x y:Keyed):Prop:=L y x=J
structure MS (D:Keyed->Prop)(L:Keyed->Keyed->Bool)(T:List Keyed)(o x y:List Keyed):Prop where
 perm:(o++(x++y)).Perm T
 so:o.Pairwise (Le L)
 ox:∀u∈o,∀v∈x,Le L u v
 oy:∀u∈o,∀v∈y,Le L u v
 sx:x.Pairwise (Le L)
 sy:y.Pairwise (Le L)
section
def MS.movX (h:MS D L T o (p++x) y)(g:∀u∈p,∀v∈y,Le L u v):MS D L T (o++p) x y:=by
 let#[i,j,d,e,c,f]:=h;rw[u6]at c;refine#[by simpa [tD] using i,u6.mpr #[j,c.1,λu a v b=>d u a v (by simp[b])],?_,?_,c.2.1,f]
 .intro u a v b;rcases rJ.mp a with a | a
  .exact d u a v (by simp[b])
  .exact c.2.2 u a v b
 .intro u a v b;rcases rJ.mp a with a | a
  .exact e u a v b
  .exact g u a v b
def MS.swap (h:MS D L T o x y):MS D L T o y x:=
 #[(D9 o List.perm_append_comm).trans h.perm,h.so,h.oy,h.ox,h.sy,h.sx]
def MS.movY (h:MS D L T o x (p++y))(a:∀u∈p,∀v∈x,Le L u v):MS D L T (o++p) x y:=(h.swap.movX a).swap
def MS.fin (h:MS D L T o x []):(o++x).Perm T/\(o++x).Pairwise (Le L):=
 #[~~~h.perm,u6.mpr #[h.so,h.sx,h.ox]]
def MS.all (h:MS D L T o x y)(a:∀u∈x,∀v∈y,Le L u v):(o++x++y).Perm T/\(o++x++y).Pairwise (Le L):=by have:=(MS.movX (x:=[]) (~~~h) a).swap.fin;simpa using this
end
noncomputable def Fq:Array Keyed->Array Keyed->StateT SortSt Sem (Array Keyed):=sortPriv% PySem.Builtin.mergeLo
abbrev sR (st:SortSt)(g:Nat):SortSt:=SortSt.mk' (kindOf st) (arrOf st) (pendingOf st) g (failedOf st)
noncomputable def kX (g:Nat):StateT SortSt Sem Unit:=modify λs=>sR s g
noncomputable def mLoB (p q:Array Keyed):StateT SortSt Sem (Array Keyed):=do
 rule "list.sort.merge-lo"
 let tt:=p.size+q.size
 let dn (o:Array Keyed) (i j:Nat):=o++p.extract i p.size++q.extract j q.size
 let lp (o:Array Keyed) (i j:Nat):=o++q.extract j q.size++p.extract i p.size
 let mut o:Array Keyed:=↑[<-elem' q 0]
 let mut i:=0
 let mut j:=1
 if j == q.size then return dn o i j
 if i+1 == p.size then return lp o i j
 let mut mg:=gallopOf (<-get)
 for _ in [0:tt] do
  let mut ca:=0
  let mut cb:=0
  for _ in [0:tt] do
   let U wn <-lt' (<-elem' q j) (<-elem' p i) | return dn o i j
   if wn then
    o:=o.push (<-elem' q j);j:=j+1;cb:=cb+1;ca:=0
    if j == q.size then return dn o i j
    if cb>=mg then break
   else
    o:=o.push (<-elem' p i);i:=i+1;ca:=ca+1;cb:=0
    if i+1 == p.size then return lp o i j
    if ca>=mg then break
  rule "list.sort.gallop"
  mg:=mg+1
  for _ in [0:tt] do
   if mg>1 then mg:=mg-1
   kX mg
   let U k <-vU J (<-elem' q j) p i (p.size-i) 0 | return dn o i j
   ca:=k
   if k>0 then
    o:=o++p.extract i (i+k);i:=i+k
    if i+1 == p.size then return lp o i j
    if i == p.size then return dn o i j
   o:=o.push (<-elem' q j);j:=j+1
   if j == q.size then return dn o i j
   let U k <-vU Y (<-elem' p i) q j (q.size-j) 0 | return dn o i j
   cb:=k
   if k>0 then
    o:=o++q.extract j (j+k);j:=j+k
    if j == q.size then return dn o i j
   o:=o.push (<-elem' p i);i:=i+1
   if i+1 == p.size then return lp o i j
   if ca<7&&cb<7 then break
  mg:=mg+1
  kX mg
 unsupported "internal:list.sort.merge-bound"
def Zp2 (p q:Array Keyed):Fq p q=mLoB p q:=rfl
section
noncomputable def iR (M:Model)(A:AH)(E:rh)(s:AE)(D:Keyed->Prop)(L:Keyed->Keyed->Bool)(a:SortKind):Prop:=
 ∀(st:SortSt)(x y:Keyed)(Q:Option Bool->SortSt->Prop),kindOf st=a->D x->D y->Q (U (L x y)) st->wpS M A E s (lt' x y) Q st
def tL {a:Array Keyed}{i:Nat}{x:Keyed}{Q:Keyed->SortSt->Prop}{st:SortSt}(h:a[i]?=U x)(q:Q x st):wpS M A E s (elem' a i) Q st:=by rw[elem'_eq,h];calc qL q
def BG (F:uV D L)(G:iR M A E s D L kd){f:Bool}{b:Keyed}{g:Array Keyed}{m n h:Nat}{st:SortSt}{Q:Option Nat->SortSt->Prop}(N:kindOf st=kd)
  (X:m+n<=g.size) (S:h<n) (x:D b) (T:∀u∈g.toList,D u) (K:((g.toList.drop m).take n).Pairwise (Le L))
  (q:∀k,k<=n->(∀u∈((g.toList.drop m).take n).take k,if f then L u b=Y else Le L u b)->(∀u∈((g.toList.drop m).take n).drop k,if f then Le L b u else L b u=Y)->Q (U k) st):
  wpS M A E s (vU f b g m n h) Q st:=by
 rw[Zqs];obtain⟨xs,c⟩:∃xs,xs=(g.toList.drop m).take n:=#[_,Z];rw[<-c]at K q;let W:⇑xs=n:=by rw[c,rL,tG,su];lia
 let y:∀i (d:i<⇑xs),g[m+i]?=U xs[i]:=by intro i d;have:xs[i]?=U xs[i]:=rD d;rw[<-this,c,B2,qg ∅,BV,uW]
 let l:∀u∈xs,D u:=λu p=>T u (ua (tH (c▸p)));refine Zoj (B:=λi=>if d:i<⇑xs then (if f then L xs[i] b else !L b xs[i]) else J) S ?_ ?_ ?_
 .intro i Q d z;let a:i<⇑xs:=by lia
  rw[dif_pos a]at z;calc qA (tL (y i a) ?_);let I:=l _ (xu a);cases f with
  | true=>exact G st _ _ _ N I x z
  | false=>exact qA (G st _ _ _ N x I (qL z))
 .intro i j P V;let o:j<⇑xs:=by lia
  let a:i<⇑xs:=by lia
  rw[dif_pos o,dif_pos a];by_cases e:i=j
  .subst e;exact id
  .let v:Le L xs[i] xs[j]:=Co.mp K i j a o ∅;let t:=l _ (xu a);let w:=l _ (xu o);cases f with
   | true=>
    rw[qg Z,qg Z];intro r;cases h2:L xs[i] b with
    | true=>rfl
    | false=>rw[F.tr b _ _ x t w h2 v]at r;cases r
   | false=>
    rw[qe qO,qe qO];intro r;rw[Bool.not_eq_true']at r ⊢;exact F.tr _ _ b t w x v r
 .intro k C H;refine q k C (λu p=>?_) (λu p=>?_)
  .obtain⟨i,d,rfl⟩:=xc p;rw[rL]at d;have:=H.1 i ∅;dsimp only at this;rw[dif_pos ∅]at this;rw[List.getElem_take];cases f with
   | true=>exact this
   | false=>simpa using this
  .obtain⟨i,d,rfl⟩:=xc p;rw[tG]at d;have:=H.2 (k+i) ∅ ∅;dsimp only at this;rw[dif_pos ∅]at this;rw[List.getElem_drop];cases f with
   | true=>exact this
   | false=>simpa using this
end
abbrev BM:=Option (Array Keyed)×Array Keyed×Nat×Nat×Nat×Nat×Nat
noncomputable def yB (p q o:Array Keyed)(i j:Nat):Array Keyed:=o++p.extract i p.size++q.extract j q.size
noncomputable def De (p q o:Array Keyed)(i j:Nat):Array Keyed:=o++q.extract j q.size++p.extract i p.size
noncomputable def D6 (p q o:Array Keyed)(i j mg ca cb:Nat):StateT SortSt Sem (ForInStep BM):=do
 let e <-elem' p i
 if (i+1+1 == p.size)=Y then pure (ForInStep.done (U (De p q (o.push e) (i+1) j),o.push e,i+1,j,mg,ca,cb))
 else if (R (ca<7)&&R (cb<7))=Y then pure (ForInStep.done (O,o.push e,i+1,j,mg,ca,cb))
 else pure (ForInStep.yield (O,o.push e,i+1,j,mg,ca,cb))
noncomputable def Ep (p q o:Array Keyed)(i j mg ca cb:Nat):StateT SortSt Sem (ForInStep BM):=do
 let e <-elem' q j
 if (j+1 == q.size)=Y then pure (ForInStep.done (U (yB p q (o.push e) i (j+1)),o.push e,i,j+1,mg,ca,cb))
 else do
  let U k <-vU Y (<-elem' p i) q (j+1) (q.size-(j+1)) 0 | pure (ForInStep.done (U (yB p q (o.push e) i (j+1)),o.push e,i,j+1,mg,ca,cb))
  if k>0 then
   if (j+1+k == q.size)=Y then pure (ForInStep.done (U (yB p q (o.push e++q.extract (j+1) (j+1+k)) i (j+1+k)),o.push e++q.extract (j+1) (j+1+k),i,j+1+k,mg,ca,k))
   else D6 p q (o.push e++q.extract (j+1) (j+1+k)) i (j+1+k) mg ca k
  else D6 p q (o.push e) i (j+1) mg ca k
noncomputable def Ht (p q o:Array Keyed)(i j mg ca cb:Nat):StateT SortSt Sem (ForInStep BM):=do
 kX mg
 let U k <-vU J (<-elem' q j) p i (p.size-i) 0 | pure (ForInStep.done (U (yB p q o i j),o,i,j,mg,ca,cb))
 if k>0 then
  if (i+k+1 == p.size)=Y then pure (ForInStep.done (U (De p q (o++p.extract i (i+k)) (i+k) j),o++p.extract i (i+k),i+k,j,mg,k,cb))
  else if (i+k == p.size)=Y then pure (ForInStep.done (U (yB p q (o++p.extract i (i+k)) (i+k) j),o++p.extract i (i+k),i+k,j,mg,k,cb))
  else Ep p q (o++p.extract i (i+k)) (i+k) j mg k cb
 else Ep p q o i j mg k cb
section
variable {M:Model}{A:AH}{E:rh}{s:AE}{D:Keyed->Prop}{L:Keyed->Keyed->Bool}{kd:SortKind}{p q:Array Keyed}{T:List Keyed}{st:SortSt}
structure xF (D:Keyed->Prop)(L:Keyed->Keyed->Bool)(p q:Array Keyed)(T:List Keyed)(o:Array Keyed)(i j:Nat):Prop where
 ms:MS D L T o.toList (p.toList.drop i) (q.toList.drop j)
 li:i+1<p.size
 lj:j<q.size
noncomputable def jr (L:Keyed->Keyed->Bool)(T:List Keyed)(z:Array Keyed):Prop:=z.toList.Perm T/\z.toList.Pairwise (Le L)
def zt (h:p[i]?=U e):p.toList.drop i=e::p.toList.drop (i+1):=by let#[a,Z]:=Ct.mp h;rw[<-Array.getElem_toList];calc DO (~~~a)
def at? (h:i<p.size):∃e,p[i]?=U e/\e∈p.toList:=#[p[i],getElem?_pos p i h,{}]
def Zmh (p q o:Array Keyed)(i j:Nat):(yB p q o i j).toList=o.toList++p.toList.drop i++q.toList.drop j:=by unfold yB;rw[wc,wc,vN,vN,List.extract,List.extract,uU {},uU {}]
def ZlW (p q o:Array Keyed)(i j:Nat):(De p q o i j).toList=o.toList++q.toList.drop j++p.toList.drop i:=by unfold De;rw[wc,wc,vN,vN,List.extract,List.extract,uU {},uU {}]
def Ie (p:Array Keyed)(i k:Nat):(p.extract i (i+k)).toList=(p.toList.drop i).take k:=by simp[vN,List.extract]
def HV (l:List Keyed)(i k:Nat):l.drop i=(l.drop i).take k++l.drop (i+k):=by rw[<-wG,u5]
structure Bx (D:Keyed->Prop)(L:Keyed->Keyed->Bool)(p q:Array Keyed):Prop where
 dp:∀u∈p.toList,D u
 dq:∀u∈q.toList,D u
 sp:p.toList.Pairwise (Le L)
 sq:q.toList.Pairwise (Le L)
 last:∀u∈q.toList,∀v∈p.toList.drop (p.size-1),L u v=Y
def Bx.fin_lp (b:Bx D L p q)(f:uV D L)(h:MS D L T o.toList (p.toList.drop i) (q.toList.drop j))(e:i+1=p.size):jr L T (De p q o i j):=by
 unfold jr;rw[ZlW];calc h.swap.all λu a v c=>?_;let a:=ua a;let d:i=p.size-1:=by lia
 subst d;calc f.asym _ _ (b.dq u a) (b.dp v (ua c)) (b.last u a v c)
def DZ (h:MS D L T o.toList (p.toList.drop i) (q.toList.drop j))(e:j=q.size):jr L T (yB p q o i j):=by unfold jr;rw[Zmh];let a:q.toList.drop j=[]:=xJ (by simp;lia);rw[a]at h ⊢;simpa using h.fin
inductive vS (D:Keyed->Prop)(L:Keyed->Keyed->Bool)(p q:Array Keyed)(T:List Keyed)(st:SortSt)(w:Nat):BM->SortSt->Prop
 | fin (g:Nat) (z o:Array Keyed) (i j mg ca cb:Nat) (h:jr L T z):vS D L p q T st w (U z,o,i,j,mg,ca,cb) (sR st g)
 | go (g:Nat) (o:Array Keyed) (i j mg ca cb:Nat) (h:xF D L p q T o i j) (hw:w<=i+j):vS D L p q T st w (O,o,i,j,mg,ca,cb) (sR st g)
inductive BD (D:Keyed->Prop)(L:Keyed->Keyed->Bool)(p q:Array Keyed)(T:List Keyed)(st:SortSt)(w:Nat):BM->SortSt->Prop
 | mk (g:Nat) (o:Array Keyed) (i j mg ca cb:Nat) (h:xF D L p q T o i j) (hw:w<=i+j):BD D L p q T st w (O,o,i,j,mg,ca,cb) (sR st g)
noncomputable def GH (D:Keyed->Prop)(L:Keyed->Keyed->Bool)(p q:Array Keyed)(T:List Keyed)(w:Nat)(st:SortSt)(r:ForInStep BM)(a:SortSt):Prop:=
 match r with | .done c=>vS D L p q T st w c a | .yield c=>BD D L p q T st w c a
inductive Gi (D:Keyed->Prop)(L:Keyed->Keyed->Bool)(p q:Array Keyed)(T:List Keyed)(st:SortSt)(x:Nat):Option (Array Keyed)×Array Keyed×Nat×Nat×Nat->SortSt->Prop
 | mk (g:Nat) (o:Array Keyed) (i j mg:Nat) (h:xF D L p q T o i j) (hx:x<=i+j):Gi D L p q T st x (O,o,i,j,mg) (sR st g)
inductive Ec (L:Keyed->Keyed->Bool)(T:List Keyed)(st:SortSt):Option (Array Keyed)×Array Keyed×Nat×Nat×Nat->SortSt->Prop
 | mk (g:Nat) (z o:Array Keyed) (i j mg:Nat) (h:jr L T z):Ec L T st (U z,o,i,j,mg) (sR st g)
inductive EX (D:Keyed->Prop)(L:Keyed->Keyed->Bool)(p q:Array Keyed)(T:List Keyed)(st:SortSt)(x y:Nat):Option (Array Keyed)×Array Keyed×Nat×Nat×Nat×Nat->SortSt->Prop
 | mk (o:Array Keyed) (i j ca cb:Nat) (h:xF D L p q T o i j) (hx:y+x<=i+j):EX D L p q T st x y (O,o,i,j,ca,cb) st
inductive zI (D:Keyed->Prop)(L:Keyed->Keyed->Bool)(p q:Array Keyed)(T:List Keyed)(st:SortSt)(x:Nat):Option (Array Keyed)×Array Keyed×Nat×Nat×Nat×Nat->SortSt->Prop
 | fin (z o:Array Keyed) (i j ca cb:Nat) (h:jr L T z):zI D L p q T st x (U z,o,i,j,ca,cb) st
 | go (o:Array Keyed) (i j ca cb:Nat) (h:xF D L p q T o i j) (hx:x+1<=i+j):zI D L p q T st x (O,o,i,j,ca,cb) st
def JQ (l:Bx D L p q)(m:uV D L)(z:i+1<p.size)(x:j<q.size)(d:w<=i+1+j)(h:MS D L T o.toList (p.toList.drop i) (q.toList.drop j))
  (a:∀u∈(p.toList.drop i).take 1,∀v∈q.toList.drop j,Le L u v):wpS M A E s (D6 p q o i j mg ca cb) (GH D L p q T w st) (sR st g):=by
 let#[e,c,y]:=at? (p:=p) (i:=i) ∅;let t:=zt c;let k:MS D L T (o.push e).toList (p.toList.drop (i+1)) (q.toList.drop j):=by rw[wq];rw[t]at h a;exact MS.movX (p:=[e]) h (λu n v r=>a u (~~~n) v r)
 unfold D6;calc qA (tL c ?_);refine za (λf=>?_) λf=>?_
 .exact qL (vS.fin g _ _ _ _ _ _ _ (l.fin_lp m k f))
 .let b:xF D L p q T (o.push e) (i+1) j:=#[k,∅,x];split
  .exact qL (vS.go g _ _ _ _ _ _ b d)
  .exact qL (BD.mk g _ _ _ _ _ _ b d)
def Ly (c:Bx D L p q)(m:uV D L)(S:iR M A E s D L kd)(hk:kindOf st=kd)(P:i+1<p.size)(V:j<q.size)(hw:w<=i+1+j)(h:MS D L T o.toList (p.toList.drop i) (q.toList.drop j))
  (t:∀u∈(q.toList.drop j).take 1,∀v∈p.toList.drop i,Le L u v):wpS M A E s (Ep p q o i j mg ca cb) (GH D L p q T w st) (sR st g):=by
 let#[e,I,hm]:=at? (p:=q) (i:=j) V;let#[x,r,a]:=at? (p:=p) (i:=i) ∅;let X:=zt I;let n:MS D L T (o.push e).toList (p.toList.drop i) (q.toList.drop (j+1)):=by rw[wq];rw[X]at h t;exact MS.movY (p:=[e]) h (λu l v b=>t u (~~~l) v b)
 unfold Ep;calc qA (tL I ?_);refine za (λQ=>?_) λQ=>?_
 .exact qL (vS.fin g _ _ _ _ _ _ _ (DZ n Q))
 .refine qA (tL r ?_);let N:(q.toList.drop (j+1)).take (q.size-(j+1))=q.toList.drop (j+1):=uU {};calc qA (BG m S (by calc hk) ∅ ∅ (c.dp x a) c.dq (by rw[N];calc n.sy) ?_);rw[N];intro k W F C;replace F:∀u∈(q.toList.drop (j+1)).take k,L u x=Y:=F;replace C:∀u∈(q.toList.drop (j+1)).drop k,Le L x u:=C;dsimp only;let f:=zt r;let z:=n.sx;rw[f,u9]at z;let B:∀v∈p.toList.drop i,Le L x v:=by
   intro v b;rw[f]at b;rcases qS.mp b with rfl | b
   .cases r:L v v with
    | false=>exact r
    | true=>exact m.asym v v (c.dp v a) (c.dp v a) r
   .exact z.1 v b
  let K:MS D L T (o.push e++q.extract (j+1) (j+1+k)).toList (p.toList.drop i) (q.toList.drop (j+1+k)):=by rw[wc,Ie];rw[HV q.toList (j+1) k]at n;calc n.movY λu l v b=>?_;let y:=c.dq u (ua (tH l));exact m.tr u x v y (c.dp x a) (c.dp v (ua b)) (m.asym u x y (c.dp x a) (F u l)) (B v b)
  let d:∀u∈(p.toList.drop i).take 1,∀v∈q.toList.drop (j+1+k),Le L u v:=by
   intro u l v b;rw[f]at l;have:u=x:=by simpa using l
   subst this;exact C v (by rwa [wG])
  refine vg (λH=>?_) λH=>?_
  .by_cases G:j+1+k=q.size
   .rw[qg (~~~G)];exact qL (vS.fin g _ _ _ _ _ _ _ (DZ K G))
   .rw[qe (~~~G)];exact JQ c m P ∅ ∅ K d
  .have:k=0:=by lia
   subst this;calc JQ c m P ∅ ∅ n d
def Zp7 (b:Bx D L p q)(f:uV D L)(C:iR M A E s D L kd)(P:kindOf st=kd)(hw:w<=i+1+j)(hI:xF D L p q T o i j):
  wpS M A E s (Ht p q o i j mg ca cb) (GH D L p q T w st) (sR st g):=by
 let#[h,hi,I]:=hI;let#[x,n,a]:=at? (p:=q) (i:=j) I;let m:=zt n;let z:=h.sy;rw[m,u9]at z;let F:∀v∈q.toList.drop j,Le L x v:=by
  intro v c;rw[m]at c;rcases qS.mp c with rfl | c
  .cases n:L v v with
   | false=>exact n
   | true=>exact f.asym v v (b.dq v a) (b.dq v a) n
  .exact z.1 v c
 unfold Ht;calc qA (xf ?_);calc qA (tL n ?_);let V:(p.toList.drop i).take (p.size-i)=p.toList.drop i:=uU {};calc qA (BG f C (by calc P) ∅ ∅ (b.dq x a) b.dp (by rw[V];calc h.sx) ?_);rw[V];intro k aa B G;replace B:∀u∈(p.toList.drop i).take k,Le L u x:=B;replace G:∀u∈(p.toList.drop i).drop k,L x u=Y:=G;dsimp only;let S:MS D L T (o++p.extract i (i+k)).toList (p.toList.drop (i+k)) (q.toList.drop j):=by rw[wc,Ie];rw[HV p.toList i k]at h;calc h.movX λu t v c=>?_;exact f.tr u x v (b.dp u (ua (tH t))) (b.dq x a) (b.dq v (ua c)) (B u t) (F v c)
 let d:∀u∈(q.toList.drop j).take 1,∀v∈p.toList.drop (i+k),Le L u v:=by
  intro u t v c;rw[m]at t;have:u=x:=by simpa using t
  subst this;let H:v∈(p.toList.drop i).drop k:=by rwa [wG]
  exact f.asym u v (b.dq u a) (b.dp v (ua c)) (G v H)
 let l:i+k≠p.size:=by
  intro e;let#[y,hy,X]:=at? (p:=p) (i:=p.size-1) ∅;let r:=zt hy;let W:=b.last x a y (by rw[r];simp);let K:y∈(p.toList.drop i).take k:=by
   rw[uU (by simp;lia)];have:y∈p.toList.drop (p.size-1):=by rw[r];simp
   rw[show p.size-1=i+(p.size-1-i) by lia,<-wG]at this;exact ua this
  let h6:=B y K;rw[show L x y=J from h6]at W;cases W
 refine vg (λQ=>?_) λQ=>?_
 .by_cases N:i+k+1=p.size
  .rw[qg (~~~N)];exact qL (vS.fin _ _ _ _ _ _ _ _ (b.fin_lp f S N))
  .rw[qe (~~~N),qe (~~~l)];exact Ly b f C P ∅ I ∅ S d
 .have:k=0:=by lia
  subst this;calc Ly b f C P hi I hw h d
def Bz {β γ:Type}{r:Std.Legacy.Range}{i:β}{F:Nat->β->StateT SortSt Sem (ForInStep β)}{G:β->StateT SortSt Sem γ}{M:Model}{A:AH}{E:rh}{s:AE}{Q:γ->SortSt->Prop}{st:SortSt}(h:let F':=F;let G':=G;wpS M A E s (forIn r i F' >>= G') Q st):wpS M A E s (forIn r i F >>= G) Q st:=h
def Zp1 (C:Bx D L p q)(N:uV D L)(hP:iR M A E s D L kd)(hk:kindOf st=kd)(hp:0<p.size)(hq:0<q.size)
  (h0:∀u∈q.toList.take 1,∀v∈p.toList,Le L u v) (hQ:∀z g,jr L (p.toList++q.toList) z->Q z (sR st g)):wpS M A E s (Fq p q) Q st:=by
 rw[Zp2];unfold mLoB;let#[e,he,hm]:=at? (p:=q) (i:=0) hq;let hd:q.toList=e::q.toList.drop 1:=by simpa using zt he
 let h1:MS D L (p.toList++q.toList) (↑[e]:Array Keyed).toList (p.toList.drop 0) (q.toList.drop 1):=by have:MS D L (p.toList++q.toList) [] p.toList ([e]++q.toList.drop 1):=#[by rw[hd];simp,List.Pairwise.nil,{},{},C.sp,by have:=C.sq;rw[hd]at this;calc this];calc this.movY λu W v hv=>h0 u ?_ v hv;rw[hd];simpa using W
 calc qA (wpS_lift (vk #[Z,?_]));calc qA (tL he ?_);refine za (λc1=>?_) λc1=>?_
 .exact qL (hQ _ _ (DZ h1 c1))
 refine za (λc2=>?_) λc2=>?_
 .exact qL (hQ _ _ (C.fin_lp N h1 c2))
 calc qA (wpS_get ?_);let f:xF D L p q (p.toList++q.toList) ↑[e] 0 1:=#[h1,∅,∅];generalize p.toList++q.toList=T at f hQ;calc Bz ?_;intro F1 G1;refine qA (uf (uO (I:=Gi D L p q T st) (Q:=Ec L T st) ?step ?fin (.mk (gallopOf st) _ _ _ _ f ∅)) ?post)
 case post=>
  exact λc d h=>h.casesOn λg z o i j k F=>qL (hQ z g F)
 case fin=>
  calc λc d h=>h.casesOn λg o i j k f hx=>?_;have:=f.li;have:=f.lj
  lia
 case step=>
  calc λx c d _ hx h=>h.casesOn λg o i j k f ad=>?_;dsimp only[F1];calc Bz ?_;intro F2 G2;refine qA (uf (uO (I:=EX D L p q T (sR st g) x) (Q:=zI D L p q T (sR st g) x) ?s1 ?f1 (.mk _ _ _ _ _ f ∅)) ?p1)
  case f1=>
   calc λc d h=>h.casesOn λo i j l m f hx=>?_;have:=f.li;have:=f.lj
   lia
  case s1=>
   calc λy c d _ hy h=>h.casesOn λo i j l m f ad=>?_;let#[h,hi,hj]:=f;let#[u,W,ab]:=at? (p:=q) (i:=j) hj;let#[v,hv,ac]:=at? (p:=p) (i:=i) ∅;let B:=C.dq u ab;let t:=C.dp v ac;let K:=zt W;let G:=zt hv;let aa:=h.sx;let X:=h.sy;rw[G,u9]at aa;rw[K,u9]at X;dsimp only[F2];calc qA (tL W (qA (tL hv (qA (hP _ _ _ _ hk B t ?_)))));dsimp only;cases hL:L u v with
   | true=>
    rw[qg Z];calc qA (tL W ?_);let h2:MS D L T (o.push u).toList (p.toList.drop i) (q.toList.drop (j+1)):=by
     rw[wq];rw[K]at h;calc MS.movY (p:=[u]) h λa H b n=>?_;let H:a=u:=by simpa using H
     subst H;let S:Le L a v:=N.asym _ _ B t hL;rw[G]at n;rcases qS.mp n with rfl | n
     .exact S
     .exact N.tr a v b B t (C.dp b (ua n)) S (aa.1 b n)
    refine za (λc3=>?_) λc3=>?_
    .exact qL (zI.fin _ _ _ _ _ _ (DZ h2 c3))
    .let f:xF D L p q T (o.push u) i (j+1):=#[h2,hi,∅];split
     .exact qL (zI.go _ _ _ _ _ f ∅)
     .exact qL (EX.mk _ _ _ _ _ f ∅)
   | false=>
    rw[qe qO];calc qA (tL hv ?_);let h2:MS D L T (o.push v).toList (p.toList.drop (i+1)) (q.toList.drop j):=by
     rw[wq];rw[G]at h;calc MS.movX (p:=[v]) h λa H b n=>?_;let H:a=v:=by simpa using H
     subst H;rw[K]at n;rcases qS.mp n with rfl | n
     .exact hL
     .exact N.tr a u b t B (C.dq b (ua n)) hL (X.1 b n)
    refine za (λc3=>?_) λc3=>?_
    .exact qL (zI.fin _ _ _ _ _ _ (C.fin_lp N h2 c3))
    .let f:xF D L p q T (o.push v) (i+1) j:=#[h2,∅,hj];split
     .exact qL (zI.go _ _ _ _ _ f ∅)
     .exact qL (EX.mk _ _ _ _ _ f ∅)
  case p1=>
   calc λc d h=>h.casesOn (λz o i j l m F=>qL (Ec.mk g z o i j k F)) λo i j l m f hw=>?_;dsimp only[G2];calc qA (wpS_lift (vk #[Z,?_]));calc Bz ?_;intro F3 G3;refine qA (uf (uO (I:=λy=>BD D L p q T st (y+(x+1))) (Q:=vS D L p q T st (x+1)) ?s2 ?f2 (.mk g _ _ _ _ _ _ f ∅)) ?p2)
   case f2=>
    calc λc d h=>h.casesOn λg o i j k l m f hx=>?_;have:=f.li;have:=f.lj
    lia
   case p2=>exact λc d h=>h.casesOn (λg z o i j k l m F=>qL (Ec.mk g z o i j k F)) λg o i j k l m f hw=>qA (xf (qL (Gi.mk _ _ _ _ _ f hw)))
   case s2=>
    calc λy c d _ hy h=>h.casesOn λg o i j k l m f hw=>?_;let V:∀k,wpS M A E s (Ht p q o i j k l m) (λr d=>match r with | .done c'=>vS D L p q T st (x+1) c' d | .yield c'=>BD D L p q T st (y+1+(x+1)) c' d) (sR st g):=by
     calc λk=>uf (Zp7 (w:=y+1+(x+1)) C N hP hk ∅ f) λr d hr=>?_;cases r with
     | done c=>exact vS.casesOn hr (λg z o i j k l m F=>.fin g z o i j k l m F) λg o i j k l m f hw=>.go g o i j k l m f ∅
     | yield c=>exact hr
    calc uf (Q:=λr d=>match r with | .done c'=>vS D L p q T st (x+1) c' d | .yield c'=>BD D L p q T st (y+1+(x+1)) c' d) ?_ (λr d hr=>by cases r<;>calc hr);by_cases P:k>1
    .dsimp only[F3];rw[qg P];exact V (k-1)
    .dsimp only[F3];rw[qe P];calc V k
end
noncomputable def FR:Array Keyed->Array Keyed->StateT SortSt Sem (Array Keyed):=sortPriv% PySem.Builtin.mergeHi
noncomputable def mHiB (p q:Array Keyed):StateT SortSt Sem (Array Keyed):=do
 rule "list.sort.merge-hi"
 let tt:=p.size+q.size
 let dn (o:Array Keyed) (i j:Nat):=p.extract 0 i++q.extract 0 j++o.reverse
 let fb (o:Array Keyed) (i j:Nat):=q.extract 0 j++p.extract 0 i++o.reverse
 let mut i:=p.size-1
 let mut j:=q.size
 let mut o:Array Keyed:=↑[<-elem' p i]
 if i == 0 then return dn o i j
 if j == 1 then return fb o i j
 let mut mg:=gallopOf (<-get)
 for _ in [0:tt] do
  let mut ca:=0
  let mut cb:=0
  for _ in [0:tt] do
   let U wn <-lt' (<-elem' q (j-1)) (<-elem' p (i-1)) | return dn o i j
   if wn then
    i:=i-1;o:=o.push (<-elem' p i);ca:=ca+1;cb:=0
    if i == 0 then return dn o i j
    if ca>=mg then break
   else
    j:=j-1;o:=o.push (<-elem' q j);cb:=cb+1;ca:=0
    if j == 1 then return fb o i j
    if cb>=mg then break
  rule "list.sort.gallop"
  mg:=mg+1
  for _ in [0:tt] do
   if mg>1 then mg:=mg-1
   kX mg
   let U a <-vU J (<-elem' q (j-1)) p 0 i (i-1) | return dn o i j
   let k:=i-a
   ca:=k
   if k>0 then
    o:=o++(p.extract a i).reverse;i:=a
    if i == 0 then return dn o i j
   j:=j-1;o:=o.push (<-elem' q j)
   if j == 1 then return fb o i j
   let U a <-vU Y (<-elem' p (i-1)) q 0 j (j-1) | return dn o i j
   let k:=j-a
   cb:=k
   if k>0 then
    o:=o++(q.extract a j).reverse;j:=a
    if j == 1 then return fb o i j
    if j == 0 then return dn o i j
   i:=i-1;o:=o.push (<-elem' p i)
   if i == 0 then return dn o i j
   if ca<7&&cb<7 then break
  mg:=mg+1
  kX mg
 unsupported "internal:list.sort.merge-bound"
def Zp4 (p q:Array Keyed):FR p q=mHiB p q:=rfl
abbrev BS:=Option (Array Keyed)×Nat×Nat×Array Keyed×Nat×Nat×Nat
noncomputable def yC (p q o:Array Keyed)(i j:Nat):Array Keyed:=p.extract 0 i++q.extract 0 j++o.reverse
noncomputable def CQ (p q o:Array Keyed)(i j:Nat):Array Keyed:=q.extract 0 j++p.extract 0 i++o.reverse
noncomputable def Er (p q o:Array Keyed)(i j mg ca cb:Nat):StateT SortSt Sem (ForInStep BS):=do
 let e <-elem' p (i-1)
 if (i-1 == 0)=Y then pure (ForInStep.done (U (yC p q (o.push e) (i-1) j),i-1,j,o.push e,mg,ca,cb))
 else if (R (ca<7)&&R (cb<7))=Y then pure (ForInStep.done (O,i-1,j,o.push e,mg,ca,cb))
 else pure (ForInStep.yield (O,i-1,j,o.push e,mg,ca,cb))
noncomputable def Fa (p q o:Array Keyed)(i j mg ca cb:Nat):StateT SortSt Sem (ForInStep BS):=do
 let e <-elem' q (j-1)
 if (j-1 == 1)=Y then pure (ForInStep.done (U (CQ p q (o.push e) i (j-1)),i,j-1,o.push e,mg,ca,cb))
 else do
  let U a <-vU Y (<-elem' p (i-1)) q 0 (j-1) (j-1-1) | pure (ForInStep.done (U (yC p q (o.push e) i (j-1)),i,j-1,o.push e,mg,ca,cb))
  if j-1-a>0 then
   if (a == 1)=Y then pure (ForInStep.done (U (CQ p q (o.push e++(q.extract a (j-1)).reverse) i a),i,a,o.push e++(q.extract a (j-1)).reverse,mg,ca,j-1-a))
   else if (a == 0)=Y then pure (ForInStep.done (U (yC p q (o.push e++(q.extract a (j-1)).reverse) i a),i,a,o.push e++(q.extract a (j-1)).reverse,mg,ca,j-1-a))
   else Er p q (o.push e++(q.extract a (j-1)).reverse) i a mg ca (j-1-a)
  else Er p q (o.push e) i (j-1) mg ca (j-1-a)
noncomputable def Go (p q o:Array Keyed)(i j mg ca cb:Nat):StateT SortSt Sem (ForInStep BS):=do
 kX mg
 let U a <-vU J (<-elem' q (j-1)) p 0 i (i-1) | pure (ForInStep.done (U (yC p q o i j),i,j,o,mg,ca,cb))
 if i-a>0 then
  if (a == 0)=Y then pure (ForInStep.done (U (yC p q (o++(p.extract a i).reverse) a j),a,j,o++(p.extract a i).reverse,mg,i-a,cb))
  else Fa p q (o++(p.extract a i).reverse) a j mg (i-a) cb
 else Fa p q o i j mg (i-a) cb
section
variable {M:Model}{A:AH}{E:rh}{s:AE}{D:Keyed->Prop}{L:Keyed->Keyed->Bool}{kd:SortKind}{p q:Array Keyed}{T:List Keyed}{st:SortSt}
noncomputable abbrev Fl (L:Keyed->Keyed->Bool):Keyed->Keyed->Bool:=λx y=>L y x
def Jj {l:List Keyed}:l.reverse.Pairwise (Le (Fl L))↔l.Pairwise (Le L):=by rw[List.pairwise_reverse]
abbrev MR (D:Keyed->Prop)(L:Keyed->Keyed->Bool)(T:List Keyed)(p q o:Array Keyed)(i j:Nat):Prop:=MS D (Fl L) T o.toList (p.toList.take i).reverse (q.toList.take j).reverse
structure wS (D:Keyed->Prop)(L:Keyed->Keyed->Bool)(p q:Array Keyed)(T:List Keyed)(o:Array Keyed)(i j:Nat):Prop where
 ms:MR D L T p q o i j
 li:0<i
 lj:1<j
 hi:i<=p.size
 hj:j<=q.size
structure BP (D:Keyed->Prop)(L:Keyed->Keyed->Bool)(p q:Array Keyed):Prop where
 dp:∀u∈p.toList,D u
 dq:∀u∈q.toList,D u
 sp:p.toList.Pairwise (Le L)
 sq:q.toList.Pairwise (Le L)
 first:∀u∈q.toList.take 1,∀v∈p.toList,L u v=Y
def Ce (a:0<i)(h:p[i-1]?=U e):p.toList.take i=p.toList.take (i-1)++[e]:=by obtain⟨i,rfl⟩:∃k,i=k+1:=#[i-1,∅];rw[Nat.add_sub_cancel]at h ⊢;rw[List.take_succ,uW,h];rfl
def Fb (a:0<i)(h:p[i-1]?=U e):(p.toList.take i).reverse=[e]++(p.toList.take (i-1)).reverse:=by rw[Ce a h,List.reverse_append];rfl
def M6 (l:List Keyed){a i:Nat}(h:a<=i):(l.take i).reverse=((l.take i).drop a).reverse++(l.take a).reverse:=by
 rw[<-List.reverse_append];congr 1;have:l.take a=(l.take i).take a:=by rw[xO,xG h]
 rw[this,u5]
def Nn (p:Array Keyed)(a i:Nat):(p.extract a i).reverse.toList=((p.toList.take i).drop a).reverse:=by rw[Array.toList_reverse,vN,List.extract,List.drop_take]
def Zmg (p q o:Array Keyed)(i j:Nat):(yC p q o i j).toList=p.toList.take i++q.toList.take j++o.toList.reverse:=by unfold yC;rw[wc,wc,vN,vN,Array.toList_reverse,List.extract,List.extract];simp
def Zmd (p q o:Array Keyed)(i j:Nat):(CQ p q o i j).toList=q.toList.take j++p.toList.take i++o.toList.reverse:=by unfold CQ;rw[wc,wc,vN,vN,Array.toList_reverse,List.extract,List.extract];simp
def LU {l m:List Keyed}(h:l.Perm T/\l.Pairwise (Le (Fl L)))(e:m=l.reverse):m.Perm T/\m.Pairwise (Le L):=by subst e;calc#[(List.reverse_perm l).trans h.1,?_];rw[List.pairwise_reverse];calc h.2
def EK (h:MR D L T p q o i j)(e:i=0):jr L T (yC p q o i j):=by unfold jr;rw[Zmg];subst e;let a:=h.swap;calc LU (l:=o.toList++(q.toList.take j).reverse) (MS.fin (D:=D) (~~~a)) {}
def BP.fin_fb (c:BP D L p q)(d:uV D L)(h:MR D L T p q o i j)(e:j=1):jr L T (CQ p q o i j):=by unfold jr;rw[Zmd];subst e;calc LU (h.all λu b v a=>?_) {};let b:u∈p.toList:=tH (wE.mp b);let a:=wE.mp a;calc d.asym v u (c.dq v (tH a)) (c.dp u b) (c.first v a u b)
inductive wg (D:Keyed->Prop)(L:Keyed->Keyed->Bool)(p q:Array Keyed)(T:List Keyed)(st:SortSt)(w:Nat):BS->SortSt->Prop
 | fin (g:Nat) (z o:Array Keyed) (i j mg ca cb:Nat) (h:jr L T z):wg D L p q T st w (U z,i,j,o,mg,ca,cb) (sR st g)
 | go (g:Nat) (o:Array Keyed) (i j mg ca cb:Nat) (h:wS D L p q T o i j) (hw:i+j<=w):wg D L p q T st w (O,i,j,o,mg,ca,cb) (sR st g)
inductive Cb (D:Keyed->Prop)(L:Keyed->Keyed->Bool)(p q:Array Keyed)(T:List Keyed)(st:SortSt)(w:Nat):BS->SortSt->Prop
 | mk (g:Nat) (o:Array Keyed) (i j mg ca cb:Nat) (h:wS D L p q T o i j) (hw:i+j<=w):Cb D L p q T st w (O,i,j,o,mg,ca,cb) (sR st g)
noncomputable def GI (D:Keyed->Prop)(L:Keyed->Keyed->Bool)(p q:Array Keyed)(T:List Keyed)(w:Nat)(st:SortSt)(r:ForInStep BS)(a:SortSt):Prop:=
 match r with | .done c=>wg D L p q T st w c a | .yield c=>Cb D L p q T st w c a
inductive FJ (D:Keyed->Prop)(L:Keyed->Keyed->Bool)(p q:Array Keyed)(T:List Keyed)(st:SortSt)(x:Nat):Option (Array Keyed)×Nat×Nat×Array Keyed×Nat->SortSt->Prop
 | mk (g:Nat) (o:Array Keyed) (i j mg:Nat) (h:wS D L p q T o i j) (hx:x+(i+j)<=p.size+q.size):FJ D L p q T st x (O,i,j,o,mg) (sR st g)
inductive DQ (L:Keyed->Keyed->Bool)(T:List Keyed)(st:SortSt):Option (Array Keyed)×Nat×Nat×Array Keyed×Nat->SortSt->Prop
 | mk (g:Nat) (z o:Array Keyed) (i j mg:Nat) (h:jr L T z):DQ L T st (U z,i,j,o,mg) (sR st g)
inductive Ev (D:Keyed->Prop)(L:Keyed->Keyed->Bool)(p q:Array Keyed)(T:List Keyed)(st:SortSt)(x y:Nat):Option (Array Keyed)×Nat×Nat×Array Keyed×Nat×Nat->SortSt->Prop
 | mk (o:Array Keyed) (i j ca cb:Nat) (h:wS D L p q T o i j) (hx:y+x+(i+j)<=p.size+q.size):Ev D L p q T st x y (O,i,j,o,ca,cb) st
inductive zD (D:Keyed->Prop)(L:Keyed->Keyed->Bool)(p q:Array Keyed)(T:List Keyed)(st:SortSt)(x:Nat):Option (Array Keyed)×Nat×Nat×Array Keyed×Nat×Nat->SortSt->Prop
 | fin (z o:Array Keyed) (i j ca cb:Nat) (h:jr L T z):zD D L p q T st x (U z,i,j,o,ca,cb) st
 | go (o:Array Keyed) (i j ca cb:Nat) (h:wS D L p q T o i j) (hx:x+1+(i+j)<=p.size+q.size):zD D L p q T st x (O,i,j,o,ca,cb) st
def NI (z:BP D L p q)(m:0<i)(t:i<=p.size)(y:1<j)(b:j<=q.size)(l:i-1+j<=w)(h:MR D L T p q o i j)
  (c:∀u∈(p.toList.take i).drop (i-1),∀v∈q.toList.take j,Le L v u):wpS M A E s (Er p q o i j mg ca cb) (GI D L p q T w st) (sR st g):=by
 let#[e,a,B]:=at? (p:=p) (i:=i-1) ∅;let x:=Fb m a;let n:MR D L T p q (o.push e) (i-1) j:=by
  unfold MR at h ⊢;rw[wq];rw[x]at h;calc MS.movX h λu d v r=>?_;let d:u=e:=by simpa using d
  subst d;calc c u ?_ v (wE.mp r);rw[Ce m a,zy (by simp;lia)];simp
 unfold Er;calc qA (tL a ?_);by_cases f:i-1=0
 .rw[qg (~~~f)];exact qL (wg.fin g _ _ _ _ _ _ _ (EK n f))
 .rw[qe (~~~f)];let k:wS D L p q T (o.push e) (i-1) j:=#[n,∅,y,∅,b];split
  .exact qL (wg.go g _ _ _ _ _ _ k (l))
  .exact qL (Cb.mk g _ _ _ _ _ _ k (l))
def jG (a:uV D L){v:Keyed}(h:D v):Le L v v:=by
 cases hx:L v v with
 | false=>exact hx
 | true=>calc a.asym v v h h hx
def EO (d:uV D L)(f:∀u∈p.toList,D u)(g:p.toList.Pairwise (Le L)){i:Nat}{x:Keyed}(h:0<i)(c:p[i-1]?=U x)(e:x∈p.toList):∀v∈p.toList.take i,Le L v x:=by
 intro v a;let b:=g.sublist (zj i p.toList);rw[Ce h c]at b a;rcases rJ.mp a with a | a
 .exact(u6.mp b).2.2 v a x {}
 .have:v=x:=by simpa using a
  subst this;calc jG d (f v e)
def Fg (b:0<i)(c:i<=p.size)(a:p[i-1]?=U x):u∈(p.toList.take i).drop (i-1)↔u=x:=by rw[Ce b a,zy (by simp;lia),xJ (by simp;lia)];simp
def Ia (b:BP D L p q)(n:uV D L)(hP:iR M A E s D L kd)(hk:kindOf st=kd)(F:0<i)(m:i<=p.size)(hj:1<j)(K:j<=q.size)(hw:i-1+j<=w)
  (h:MR D L T p q o i j) (N:∀v∈(q.toList.take j).drop (j-1),∀u∈p.toList.take i,Le L u v):wpS M A E s (Fa p q o i j mg ca cb) (GI D L p q T w st) (sR st g):=by
 let#[e,H,hm]:=at? (p:=q) (i:=j-1) ∅;let#[x,G,c]:=at? (p:=p) (i:=i-1) ∅;let r:MR D L T p q (o.push e) i (j-1):=by
  unfold MR at h ⊢;rw[wq];rw[Fb ∅ H]at h;calc MS.movY h λu d v f=>?_;let d:u=e:=by simpa using d
  exact N u ((Fg ∅ K H).mpr d) v (wE.mp f)
 unfold Fa;calc qA (tL H ?_);by_cases P:j-1=1
 .rw[qg (~~~P)];exact qL (wg.fin g _ _ _ _ _ _ _ (b.fin_fb n r P))
 .rw[qe (~~~P)];calc qA (tL G ?_);calc qA (BG n hP (by calc hk) ∅ ∅ (b.dp x c) b.dq (by rw[vI];calc b.sq.sublist (zj _ _)) ?_);rw[vI];intro a t C B;replace C:∀u∈(q.toList.take (j-1)).take a,L u x=Y:=C;replace B:∀u∈(q.toList.take (j-1)).drop a,Le L x u:=B;rw[xO,xG t]at C;dsimp only;let I:=EO n b.dp b.sp F G c;let V:MR D L T p q (o.push e++(q.extract a (j-1)).reverse) i a:=by unfold MR at r ⊢;rw[wc,Nn];rw[M6 q.toList t]at r;calc r.movY λu d v f=>?_;let d:=wE.mp d;let f:=wE.mp f;exact n.tr v x u (b.dp v (tH f)) (b.dp x c) (b.dq u (tH (ua d))) (I v f) (B u d)
  let k:∀u∈(p.toList.take i).drop (i-1),∀v∈q.toList.take a,Le L v u:=by intro u d v f;have:=(Fg F m G).mp d;subst this;exact n.asym v u (b.dq v (tH f)) (b.dp u c) (C v f)
  let S:a≠0:=by
   rintro rfl;let#[y,hy,X]:=at? (p:=q) (i:=0) ∅;let l:q.toList.take 1=[y]:=by have:=Ce (p:=q) (i:=1) ∅ hy;simpa using this
   let W:=b.first y (by rw[l];simp) x c
   let h6:y∈q.toList.take (j-1):=by
    have:q.toList.take 1=(q.toList.take (j-1)).take 1:=by rw[xO,xG ∅]
    rw[this]at l;exact tH (i:=1) (by rw[l];simp)
   rw[show L y x=J from B y h6]at W;cases W
  by_cases z:j-1-a>0
  .rw[qg z];by_cases Q:a=1
   .rw[qg (~~~Q)];exact qL (wg.fin g _ _ _ _ _ _ _ (b.fin_fb n V Q))
   .rw[qe (~~~Q),qe (~~~S)];exact NI b F m ∅ ∅ ∅ V k
  .rw[qe z];have:a=j-1:=by lia
   subst this;calc NI b F m ∅ ∅ ∅ r k
def Zqr (b:BP D L p q)(f:uV D L)(z:iR M A E s D L kd)(G:kindOf st=kd)(N:i-1+j<=w)(Q:wS D L p q T o i j):
  wpS M A E s (Go p q o i j mg ca cb) (GI D L p q T w st) (sR st g):=by
 let#[h,P,K,H,e]:=Q;let#[x,y,c]:=at? (p:=q) (i:=j-1) ∅;unfold Go;calc qA (xf ?_);calc qA (tL y ?_);calc qA (BG f z (by calc G) ∅ ∅ (b.dq x c) b.dp (by rw[vI];calc b.sp.sublist (zj _ _)) ?_);rw[vI];intro a n t B;replace t:∀u∈(p.toList.take i).take a,Le L u x:=t;replace B:∀u∈(p.toList.take i).drop a,L x u=Y:=B;rw[xO,xG n]at t;dsimp only;let C:=EO f b.dq b.sq ∅ y c;let I:MR D L T p q (o++(p.extract a i).reverse) a j:=by unfold MR at h ⊢;rw[wc,Nn];rw[M6 p.toList n]at h;calc h.movX λu k v l=>?_;let k:=wE.mp k;let l:=wE.mp l;let m:=b.dp u (tH (ua k));exact f.tr v x u (b.dq v (tH l)) (b.dq x c) m (C v l) (f.asym x u (b.dq x c) m (B u k))
 let d:∀v∈(q.toList.take j).drop (j-1),∀u∈p.toList.take a,Le L u v:=by intro v l u k;have:=(Fg ∅ e y).mp l;subst this;exact t u k
 by_cases r:i-a>0
 .rw[qg r];by_cases F:a=0
  .rw[qg (~~~F)];exact qL (wg.fin _ _ _ _ _ _ _ _ (EK I F))
  .rw[qe (~~~F)];exact Ia b f z G ∅ ∅ K e ∅ I d
 .rw[qe r];have:a=i:=by lia
  subst this;calc Ia b f z G P H K e N h d
def Zp3 (l:BP D L p q)(F:uV D L)(hP:iR M A E s D L kd)(hk:kindOf st=kd)(hp:0<p.size)(hq:0<q.size)
  (h0:∀u∈p.toList.drop (p.size-1),∀v∈q.toList,Le L v u) (hQ:∀z g,jr L (p.toList++q.toList) z->Q z (sR st g)):wpS M A E s (FR p q) Q st:=by
 rw[Zp4];unfold mHiB;let#[e,he,hm]:=at? (p:=p) (i:=p.size-1) ∅;let hd:p.toList=p.toList.take (p.size-1)++[e]:=by
  have:=Ce hp he
  rwa [uU {}]at this
 let h1:MR D L (p.toList++q.toList) p q ↑[e] (p.size-1) q.size:=by
  unfold MR;let e2:(q.toList.take q.size)=q.toList:=uU {};rw[e2];have:MS D (Fl L) (p.toList++q.toList) [] ([e]++(p.toList.take (p.size-1)).reverse) q.toList.reverse:=by
   let e3:[e]++(p.toList.take (p.size-1)).reverse=p.toList.reverse:=by
    conv=>rhs;rw[hd]
    simp
   rw[e3];exact#[by simpa using (List.reverse_perm _).append (List.reverse_perm _),List.Pairwise.nil,{},{},Jj.mpr l.sp,Jj.mpr l.sq]
  calc this.movX λu G v P=>h0 u ?_ v (wE.mp P);let G:u=e:=by simpa using G
  subst G;rw[hd,zy {}];simp
 calc qA (wpS_lift (vk #[Z,?_]));calc qA (tL he ?_);by_cases c1:p.size-1=0
 .rw[qg (~~~c1)];exact qL (hQ _ _ (EK h1 c1))
 rw[qe (~~~c1)];by_cases c2:q.size=1
 .rw[qg (~~~c2)];exact qL (hQ _ _ (l.fin_fb F h1 c2))
 rw[qe (~~~c2)];calc qA (wpS_get ?_);let f:wS D L p q (p.toList++q.toList) ↑[e] (p.size-1) q.size:=#[h1,∅,∅,∅,∅];generalize p.toList++q.toList=T at f hQ;calc Bz ?_;intro F1 G1;refine qA (uf (uO (a:=0) (b:=p.size+q.size) (I:=FJ D L p q T st) (Q:=DQ L T st) ?step ?fin (.mk (gallopOf st) ↑[e] (p.size-1) q.size (gallopOf st) f ∅)) ?post)
 case post=>
  exact λc d h=>h.casesOn λg z o i j k H=>qL (hQ z g H)
 case fin=>
  calc λc d h=>h.casesOn λg o i j k f hx=>?_;have:=f.li;have:=f.lj
  lia
 case step=>
  calc λx c d _ hx h=>h.casesOn λg o i j k f ac=>?_;dsimp only[F1];calc Bz ?_;intro F2 G2;refine qA (uf (uO (I:=Ev D L p q T (sR st g) x) (Q:=zD D L p q T (sR st g) x) ?s1 ?f1 (.mk _ _ _ _ _ f ∅)) ?p1)
  case f1=>
   calc λc d h=>h.casesOn λo i j m n f hx=>?_;have:=f.li;have:=f.lj
   lia
  case s1=>
   calc λy c d _ hy h=>h.casesOn λo i j m n f ac=>?_;let#[h,hi,hj,ae,ad]:=f;let#[u,G,W]:=at? (p:=q) (i:=j-1) ∅;let#[v,P,X]:=at? (p:=p) (i:=i-1) ∅;let C:=l.dq u W;let t:=l.dp v X;let ab:=EO F l.dq l.sq ∅ G W;let aa:=EO F l.dp l.sp hi P X;dsimp only[F2];calc qA (tL G (qA (tL P (qA (hP _ _ _ _ hk C t ?_)))));dsimp only;cases hL:L u v with
   | true=>
    rw[qg Z];calc qA (tL P ?_);let h2:MR D L T p q (o.push v) (i-1) j:=by
     unfold MR at h ⊢;rw[wq];rw[Fb hi P]at h;calc MS.movX h λa K b B=>?_;let K:a=v:=by simpa using K
     subst K;let B:=wE.mp B;exact F.tr b u a (l.dq b (tH B)) C t (ab b B) (F.asym _ _ C t hL)
    by_cases N:i-1=0
    .rw[qg (~~~N)];exact qL (zD.fin _ _ _ _ _ _ (EK h2 N))
    .rw[qe (~~~N)];let f:wS D L p q T (o.push v) (i-1) j:=#[h2,∅,∅,∅,∅];split
     .exact qL (zD.go _ _ _ _ _ f ∅)
     .exact qL (Ev.mk _ _ _ _ _ f ∅)
   | false=>
    rw[qe qO];calc qA (tL G ?_);let h2:MR D L T p q (o.push u) i (j-1):=by
     unfold MR at h ⊢;rw[wq];rw[Fb ∅ G]at h;calc MS.movY h λa K b B=>?_;let K:a=u:=by simpa using K
     subst K;let B:=wE.mp B;exact F.tr b v a (l.dp b (tH B)) t C (aa b B) hL
    by_cases N:j-1=1
    .rw[qg (~~~N)];exact qL (zD.fin _ _ _ _ _ _ (l.fin_fb F h2 N))
    .rw[qe (~~~N)];let f:wS D L p q T (o.push u) i (j-1):=#[h2,∅,∅,∅,∅];split
     .exact qL (zD.go _ _ _ _ _ f ∅)
     .exact qL (Ev.mk _ _ _ _ _ f ∅)
  case p1=>
   calc λc d h=>h.casesOn (λz o i j m n H=>qL (DQ.mk g z o i j k H)) λo i j m n f hw=>?_;dsimp only[G2];calc qA (wpS_lift (vk #[Z,?_]));calc Bz ?_;intro F3 G3;refine qA (uf (uO (I:=λy=>Cb D L p q T st (p.size+q.size-y-(x+1))) (Q:=wg D L p q T st (p.size+q.size-(x+1))) ?s2 ?f2 (.mk g _ _ _ _ _ _ f ∅)) ?p2)
   case f2=>
    calc λc d h=>h.casesOn λg o i j k m n f hx=>?_;have:=f.li;have:=f.lj
    lia
   case p2=>exact λc d h=>h.casesOn (λg z o i j k m n H=>qL (DQ.mk g z o i j k H)) λg o i j k m n f hw=>qA (xf (qL (FJ.mk _ o i j (k+1) f (by have:=f.li;lia))))
   case s2=>
    calc λy c d _ hy h=>h.casesOn λg o i j k m n f hw=>?_;let V:∀k,wpS M A E s (Go p q o i j k m n) (λr d=>match r with | .done c'=>wg D L p q T st (p.size+q.size-(x+1)) c' d | .yield c'=>Cb D L p q T st (p.size+q.size-(y+1)-(x+1)) c' d) (sR st g):=by
     intro k;have:=f.li;calc uf (Zqr (w:=p.size+q.size-(y+1)-(x+1)) l F hP hk ∅ f) λr d hr=>?_;cases r with
     | done c=>exact wg.casesOn hr (λg z o i j k m n H=>.fin g z o i j k m n H) λg o i j k m n f hw=>.go g o i j k m n f ∅
     | yield c=>exact hr
    calc uf (Q:=λr d=>match r with | .done c'=>wg D L p q T st (p.size+q.size-(x+1)) c' d | .yield c'=>Cb D L p q T st (p.size+q.size-(y+1)-(x+1)) c' d) ?_ (λr d hr=>by cases r<;>calc hr);by_cases S:k>1
    .dsimp only[F3];rw[qg S];exact V (k-1)
    .dsimp only[F3];rw[qe S];calc V k
end
noncomputable def mAtB (i:Nat):StateT SortSt Sem Bool:=do
 let v <-get
 let (U (sa,na,pw),U (sb,nb,_)):=((pendingOf v)[i]?,(pendingOf v)[i+1]?) | unsupported "internal:list.sort.pending"
 set (setPending v (((pendingOf v).setIfInBounds i (sa,na+nb,pw)).eraseIdxIfInBounds (i+1)))
 let U k <-vU J (<-elem' (arrOf v) sb) (arrOf v) sa na 0 | return J
 let (sa,na):=(sa+k,na-k)
 if na == 0 then return Y
 let U nb <-vU Y (<-elem' (arrOf v) (sa+na-1)) (arrOf v) sb nb (nb-1) | return J
 if nb == 0 then return Y
 let x:=(arrOf v).extract sa sb
 let y:=(arrOf v).extract sb (sb+nb)
 let mm <-if na<=nb then Fq x y else FR x y
 modify λu=>setArr u (mm.toList.zipIdx.foldl (λa (p,j)=>a.setIfInBounds (sa+j) p) (arrOf u))
 return (failedOf (<-get)).isNone
def Zp6 (i:Nat):mergeAt' i=mAtB i:=rfl
def Znk {M:Model}{A:AH}{E:rh}{s:AE}{σ:Type}{v:σ}{Q:PUnit->σ->Prop}{st:σ}(h:Q #[] v):wpS M A E s (set v:StateT σ Sem PUnit) Q st:=by unfold wpS;rw[StateT.run_set];calc qv #[Z,h]
noncomputable def nR (a:Array Keyed)(b:Nat)(l:List Keyed):Array Keyed:=l.zipIdx.foldl (λa (p,j)=>a.setIfInBounds (b+j) p) a
theorem Kr:∀(l:List Keyed)(n b:Nat)(a:Array Keyed)(x y z:List Keyed),a.toList=x++y++z->⇑x=b+n->⇑y=⇑l ->
  ((l.zipIdx n).foldl (λa (p,j)=>a.setIfInBounds (b+j) p) a).toList=x++l++z
 | [],n,b,a,x,y,z,h,hx,hy=>by
  have:y=[]:=zB.mp hy;subst this;simpa using h
 | e::l,n,b,a,x,y,z,h,hx,hy=>by
  cases y with
  | nil=>simp at hy
  | cons f y=>
   rw[List.zipIdx_cons,zN];have:=Kr l (n+1) b (a.setIfInBounds (b+n) e) (x++[e]) y z (by rw[Array.toList_setIfInBounds,h,<-hx,tD,yw,List.set_append_right _ _ (qG _),yd];simp) (by simp;lia) (~~~hy)
   rw[this];simp
def ZjV (h:a.toList=x++y++z)(d:⇑x=b)(c:⇑y=⇑l):(nR a b l).toList=x++l++z:=
 Kr l 0 b a x y z h ∅ c
section
variable {M:Model}{A:AH}{E:rh}{s:AE}{D:Keyed->Prop}{L:Keyed->Keyed->Bool}{kd:SortKind}{st:SortSt}
def slice {a:Array Keyed}{x y z:List Keyed}{b n:Nat}(h:a.toList=x++y++z)(c:b=⇑x)(d:n=⇑y):(a.toList.drop b).take n=y:=by rw[h,c,d,tD,List.drop_left,List.take_left]
def Zp5 (hC:uV D L)(hP:iR M A E s D L kd)(hk:kindOf st=kd)(hf:failedOf st=O)
  (ha:(arrOf st).toList=W++X++Y_++Z_) (hd:∀u∈(arrOf st).toList,D u) (hX:X≠[]) (hY:Y_≠[]) (sX:X.Pairwise (Le L)) (sY:Y_.Pairwise (Le L))
  (h1:(pendingOf st)[i]?=U (⇑W,⇑X,pw)) (h2:(pendingOf st)[i+1]?=U (⇑W+⇑X,⇑Y_,pw2))
  (hQ:∀(V:List Keyed) (a:Array Keyed) g,a.toList=W++V++Z_->V.Perm (X++Y_)->V.Pairwise (Le L)->Q Y (SortSt.mk' kd a (((pendingOf st).setIfInBounds i (⇑W,⇑X+⇑Y_,pw)).eraseIdxIfInBounds (i+1)) g O)):
  wpS M A E s (mergeAt' i) Q st:=by
 rw[Zp6];unfold mAtB;calc qA (wpS_get ?_);rw[h1,h2];dsimp only;calc qA (Znk ?_);let hsz:(arrOf st).size=⇑W+⇑X+⇑Y_+⇑Z_:=by rw[<-su,ha];simp;lia
 let hXp:0<⇑X:=wC.mpr hX;let hYp:0<⇑Y_:=wC.mpr hY;let dX:∀u∈X,D u:=λu hu=>hd u (by rw[ha];simp[hu]);let dY:∀u∈Y_,D u:=λu hu=>hd u (by rw[ha];simp[hu]);obtain⟨y0,Y',rfl⟩:∃y l,Y_=y::l:=by cases Y_ with | nil=>exact NR rfl hY | cons y l=>exact⟨y,l,rfl⟩
 let hy0:(arrOf st)[⇑W+⇑X]?=U y0:=by rw[<-uW,ha,tD,vH {}];simp
 let dy0:=dY y0 {};calc qA (tL hy0 ?_);let sl1:=slice (a:=arrOf st) (x:=W) (y:=X) (z:=y0::Y'++Z_) (b:=⇑W) (n:=⇑X) (by rw[ha];simp) Z Z;let sl2:=slice (a:=arrOf st) (x:=W++X) (y:=y0::Y') (z:=Z_) (b:=⇑W+⇑X) (n:=⇑(y0::Y')) (by rw[ha]) {} Z;calc qA (BG hC hP (by calc hk) ∅ hXp dy0 hd (by rw[sl1];calc sX) ?_);rw[sl1];intro k hkn ha1 hb1;replace ha1:∀u∈X.take k,Le L u y0:=ha1;replace hb1:∀u∈X.drop k,L y0 u=Y:=hb1;dsimp only;let y0le:∀v∈y0::Y',Le L y0 v:=by
  intro v hv;rcases qS.mp hv with rfl | hv
  .exact jG hC dy0
  .exact(u9.mp sY).1 v hv
 let X1Y:∀u∈X.take k,∀v∈y0::Y',Le L u v:=λu hu v hv=>hC.tr u y0 v (dX u (tH hu)) dy0 (dY v hv) (ha1 u hu) (y0le v hv);refine za (λc1=>?_) λc1=>?_
 .refine qL ?_;let e:X.take k=X:=uU ∅;rw[e]at X1Y;have:=hQ (X++(y0::Y')) (arrOf st) (gallopOf st) (by rw[ha];simp) (List.Perm.refl _) (u6.mpr #[sX,sY,X1Y]);rw[<-hk,<-hf]at this;exact this
 obtain⟨xl,hxl⟩:∃xl,X[⇑X-1]?=U xl:=#[X[⇑X-1],rD ∅];let hxm:xl∈X:=sC hxl;let hxl2:xl∈X.drop k:=by calc sC (i:=⇑X-1-k) ?_;rw[BV,<-hxl];congr 1;lia
 let hxa:(arrOf st)[⇑W+k+(⇑X-k)-1]?=U xl:=by rw[<-uW,ha,tD,tD,vH ∅,vj ∅,<-hxl];congr 1;lia
 calc qA (tL hxa ?_);calc qA (BG hC hP (by calc hk) (by simp at hsz ⊢;lia) {} (dX xl hxm) hd (by rw[sl2];calc sY) ?_);rw[sl2];intro n hnn ha2 hb2;replace ha2:∀u∈(y0::Y').take n,L u xl=Y:=ha2;replace hb2:∀u∈(y0::Y').drop n,Le L xl u:=hb2;dsimp only;let hn0:n≠0:=by rintro rfl;let h5:=hb1 xl hxl2;rw[show L y0 xl=J from hb2 y0 {}]at h5;cases h5
 rw[qe (~~~hn0)];obtain⟨x,hx⟩:∃x,x=(arrOf st).extract (⇑W+k) (⇑W+⇑X):=#[_,Z];obtain⟨y,hy⟩:∃y,y=(arrOf st).extract (⇑W+⇑X) (⇑W+⇑X+n):=#[_,Z];let xL:x.toList=X.drop k:=by rw[hx,vN,List.extract];exact slice (x:=W++X.take k) (z:=y0::Y'++Z_) (by rw[ha];simp only[tD];rw[<-tD (X.take k),u5]) (by rw[qP,rL,xG hkn]) (by rw[tG];lia)
 let yL:y.toList=(y0::Y').take n:=by rw[hy,vN,List.extract];exact slice (x:=W++X) (z:=(y0::Y').drop n++Z_) (by rw[ha];simp only[tD];rw[<-tD (List.take n _),u5]) (by rw[qP]) (by rw[rL,xG hnn];lia)
 let xS:x.size=⇑X-k:=by rw[<-su,xL,tG]
 let yS:y.size=n:=by rw[<-su,yL,rL,xG hnn]
 let y1:y.toList.take 1=[y0]:=by rw[yL,xO,xG ∅];simp
 let xd:∀v∈x.toList.drop (x.size-1),v=xl:=by
  intro v hv;rw[xL,xS,wG]at hv;have:X.drop (k+(⇑X-k-1))=[xl]:=by let#[h5,h6]:=rY.mp hxl;rw[show k+(⇑X-k-1)=⇑X-1 by lia,DO h5,h6,xJ ∅]
  rw[this]at hv;simpa using hv
 let dx:∀u∈x.toList,D u:=λu hu=>dX u (ua (xL▸hu));let dy:∀u∈y.toList,D u:=λu hu=>dY u (tH (yL▸hu));let sx:x.toList.Pairwise (Le L):=by rw[xL];exact sX.sublist (List.drop_sublist _ _)
 let sy:y.toList.Pairwise (Le L):=by rw[yL];exact sY.sublist (zj _ _)
 let y0x:∀v∈x.toList,L y0 v=Y:=λv hv=>hb1 v (xL▸hv);let yxl:∀u∈y.toList,L u xl=Y:=λu hu=>ha2 u (yL▸hu);let main:∀(z:Array Keyed) g,jr L (x.toList++y.toList) z->wpS M A E s (do
   modify λu=>setArr u (nR (arrOf u) (⇑W+k) z.toList)
   return (failedOf (<-get)).isNone) Q (sR (setPending st (((pendingOf st).setIfInBounds i (⇑W,⇑X+⇑(y0::Y'),pw)).eraseIdxIfInBounds (i+1))) g):=by
  rintro z g ⟨hz1,hz2⟩;calc qA (xf (qA (wpS_get (qL ?_))));show Q (failedOf st).isNone _;rw[hf];let hzl:⇑(X.drop k++(y0::Y').take n)=⇑z.toList:=by rw[hz1.length_eq,xL,yL]
  let hp:(nR (arrOf st) (⇑W+k) z.toList).toList=W++(X.take k++z.toList++(y0::Y').drop n)++Z_:=by
   rw[ZjV (x:=W++X.take k) (y:=X.drop k++(y0::Y').take n) (z:=(y0::Y').drop n++Z_) (by rw[ha];simp only[tD];rw[<-tD (List.take n _),u5,<-tD (X.take k),u5]) (by rw[qP,rL,xG hkn]) hzl]
   simp only[tD]
  let zm:∀v∈z.toList,v∈X.drop k\/v∈(y0::Y').take n:=λv hv=>by have:=hz1.mem_iff.mp hv;rw[xL,yL]at this;exact rJ.mp this
  let dxl:=dX xl hxm;have:=hQ (X.take k++z.toList++(y0::Y').drop n) _ g hp ?_ ?_
  .rw[<-hk,<-hf]at this;exact this
  .let e1:(X.take k++z.toList++(y0::Y').drop n).Perm (X.take k++(X.drop k++(y0::Y').take n)++(y0::Y').drop n):=by calc List.Perm.append_right _ (D9 _ ?_);rw[xL,yL]at hz1;exact hz1
   calc e1.trans (List.Perm.of_eq ?_);rw[<-tD,u5,tD,u5]
  .let zY2:∀u∈z.toList,∀v∈(y0::Y').drop n,Le L u v:=by
    intro u hu v hv;rcases zm u hu with h | h
    .let hux:Le L u xl:=by
      let e5:X=X.take (⇑X-1)++[xl]:=by
       let#[h5,h6]:=rY.mp hxl
       conv=>lhs;rw[<-u5 (⇑X-1) X,DO h5,h6,xJ ∅]
      let hu':u∈X:=ua h;rw[e5]at sX hu';rcases rJ.mp hu' with hu' | hu'
      .exact(u6.mp sX).2.2 u hu' xl {}
      .have:u=xl:=by simpa using hu'
       subst this;exact jG hC dxl
     exact hC.tr u xl v (dX u (ua h)) dxl (dY v (ua hv)) hux (hb2 v hv)
    .let e5:=sY;rw[<-u5 n (y0::Y')]at e5;exact(u6.mp e5).2.2 u h v hv
   rw[u6,u6];refine#[#[sX.sublist (zj _ _),hz2,λu hu v hv=>?_],sY.sublist (List.drop_sublist _ _),λu hu v hv=>?_]
   .rcases zm v hv with h | h
    .let e5:=sX;rw[<-u5 k X]at e5;exact(u6.mp e5).2.2 u hu v h
    .exact X1Y u hu v (tH h)
   .rcases rJ.mp hu with hu | hu
    .exact X1Y u hu v (ua hv)
    .exact zY2 u hu v hv
 let xp:0<x.size:=by lia
 let yp:0<y.size:=by lia
 rw[<-hx,<-hy];refine vg (λc3=>?_) λc3=>?_
 .refine qA (Zp1 (st:=setPending st _) #[dx,dy,sx,sy,λu hu v hv=>by rw[xd v hv];calc yxl u hu] hC hP (by calc hk) xp yp (λu hu v hv=>?_) λz g hz=>main z g hz);let hu:u=y0:=by rw[y1]at hu;simpa using hu
  subst hu;exact hC.asym u v dy0 (dx v hv) (y0x v hv)
 .refine qA (Zp3 (st:=setPending st _) #[dx,dy,sx,sy,λu hu v hv=>by rw[y1]at hu;rw[show u=y0 by simpa using hu];calc y0x v hv] hC hP (by calc hk) xp yp (λu hu v hv=>?_) λz g hz=>main z g hz);rw[xd u hu];calc hC.asym v xl (dy v hv) (dX xl hxm) (yxl v hv)
end
abbrev ja (L:Keyed->Keyed->Bool):Prop:=uV (λ_=>True) L
def ja.to (h:ja L):uV D L:=#[λx y _ _=>h.asym x y trivial trivial,λx y z _ _ _=>h.tr x y z trivial trivial trivial]
def ja.rf (h:ja L)(x:Keyed):Le L x x:=jG h trivial
def ja.le (h:ja L){x y:Keyed}(e:L x y=Y):Le L x y:=h.asym x y trivial trivial e
def ja.t (h:ja L){x y z:Keyed}(e:Le L x y)(f:Le L y z):Le L x z:=h.tr x y z trivial trivial trivial e f
def ja.lt_le (h:ja L){x y z:Keyed}(e:L x y=Y)(f:Le L y z):L x z=Y:=by
 cases hx:L x z with
 | true=>rfl
 | false=>rw[h.tr y z x trivial trivial trivial f hx]at e;cases e
noncomputable def qW (a:Array Keyed)(i:Nat):Keyed:=(a[i]?).getD (.none,.none)
def Gm (h:a[i]?=b[j]?):qW a i=qW b j:=by unfold qW;rw[h]
noncomputable def jK (L:Keyed->Keyed->Bool)(a:Array Keyed)(l h:Nat):Prop:=∀i j,l<=i->i<=j->j<h->Le L (qW a i) (qW a j)
noncomputable def jx (L:Keyed->Keyed->Bool)(a:Array Keyed)(l h:Nat):Prop:=∀i j,l<=i->i<=j->j<h->Le L (qW a j) (qW a i)
structure iz (lo:Nat)(a b:Array Keyed):Prop where
 perm:b.Perm a
 pre:∀k,k<lo->b[k]?=a[k]?
def iz.rf (b:Nat)(a:Array Keyed):iz b a a:=#[Array.Perm.refl _,λ_ _=>rfl]
def iz.tr {d:Nat}{a b c:Array Keyed}(h:iz d a b)(k:iz d b c):iz d a c:=#[k.perm.trans h.perm,λi e=>(k.pre i e).trans (h.pre i e)]
def iz.sz {c:Nat}{a b:Array Keyed}(h:iz c a b):b.size=a.size:=h.perm.size_eq
def iz.d {d:Nat}{a b:Array Keyed}{D:Keyed->Prop}(h:iz d a b)(c:∀u∈a.toList,D u):∀u∈b.toList,D u:=λu e=>c u ((Array.perm_iff_toList_perm.mp h.perm).mem_iff.mp e)
def Ks (a:src<xs.size)(b:d<=src)(k:Nat):
  qW (bubble xs src d) k=if k=src-d then qW xs src else if src-d<k/\k<=src then qW xs (k-1) else qW xs k:=by
 let e:=getElem?_bubble a d b k;repeat' split
 all_goals (calc Gm (e.trans ?_);first | rw[qg (by assumption)] | (rw[qe (by assumption)];first | rw[qg (by assumption)] | rw[qe (by assumption)]))
def Hq (a:j<=xs.size)(k:Nat):
  qW (mirror xs i j ((j-i)/2)) k=if i<=k/\k<j then qW xs (i+j-1-k) else qW xs k:=by
 let e:=getElem?_mirror_all (i:=i) a k;split
 .exact Gm (e.trans (qg (by assumption)))
 .exact Gm (e.trans (qe (by assumption)))
def iz.bub {c b d:Nat}{a:Array Keyed}(e:b<a.size)(g:c+d<=b):iz c a (bubble a b d):=
 #[bubble_perm _ _ _,λk f=>by rw[getElem?_bubble e d ∅,qe ∅,qe ∅]]
def iz.mir {b i j:Nat}{a:Array Keyed}(c:j<=a.size)(e:b<=i):iz b a (mirror a i j ((j-i)/2)):=
 #[mirror_perm _ _ _ _,λk d=>by rw[getElem?_mirror_all c,qe ∅]]
section
variable {M:Model}{A:AH}{E:rh}{s:AE}{D:Keyed->Prop}{L:Keyed->Keyed->Bool}{kd:SortKind}{st:SortSt}
inductive lO (L:Keyed->Keyed->Bool)(a:Array Keyed)(lo:Nat)(st:SortSt)(m:Nat):Option Bool×Unit->SortSt->Prop
 | mk (b:Array Keyed) (h1:iz lo a b) (h2:jK L b lo (lo+m)):lO L a lo st m (O,()) (setArr st b)
inductive lG (L:Keyed->Keyed->Bool)(b:Array Keyed)(lo k:Nat)(st:SortSt)(x:Nat):Option Bool×Nat×Nat->SortSt->Prop
 | mk (l r:Nat) (h1:l<=r) (h2:r<=k) (h3:r-l<=k-x) (h4:∀i,lo<=i->i<lo+l->Le L (qW b i) (qW b (lo+k))) (h5:∀i,lo+r<=i->i<lo+k->L (qW b (lo+k)) (qW b i)=Y):lG L b lo k st x (O,l,r) (setArr st b)
def Dm (g:iR M A E s D L kd)(l:kindOf st=kd)(e:∀u∈a.toList,D u)(n:i<a.size)(m:j<a.size)
  (q:Q (U (L (qW a i) (qW a j))) (setArr st a)):wpS M A E s (ltAt' i j) Q (setArr st a):=by
 let#[x,d,c]:=at? n;let#[y,f,b]:=at? m;let h:qW a i=x:=by unfold qW;rw[d];rfl
 let k:qW a j=y:=by unfold qW;rw[f];rfl
 rw[h,k]at q;rw[ltAt'_eq];calc qA (wpS_get ?_);calc qA (tL d (qA (tL f (g _ _ _ _ l (e x c) (e y b) q))))
def Zoy {a:Array Keyed}{d n B:Nat}{Q:Bool->SortSt->Prop}(w:ja L)(P:iR M A E s D L kd)(hk:kindOf st=kd)(hd:∀u∈a.toList,D u)(hn:d+n<=a.size)(ac:B<=n)
  (hs:jK L a d (d+B)) (h:∀b,iz d a b->jK L b d (d+n)->Q Y (setArr st b)):wpS M A E s (binarySort' d n B) Q (setArr st a):=by
 rw[binarySort'_eq];refine qA (uf (uO (I:=λk=>lO L a d st (min k n)) (Q:=lO L a d st n) ?step ?fin ?init) ?post)
 case post=>
  rintro c C ⟨b,p,e⟩;exact qL (h b p e)
 case init=>
  calc#[a,iz.rf _ _,λi j N z X=>?_];by_cases v:B=0
  .have:i=j:=by lia
   subst this;exact w.rf _
  .exact hs i j N z ∅
 case fin=>
  rintro c C ⟨b,p,e⟩;refine#[b,p,?_]
  rwa [show min (max (max B 1) n) n=n by lia]at e
 case step=>
  rintro k c C V aa ⟨b,p,e⟩;rw[show min k n=k by lia]at e;let ab:=p.sz;let G:=p.d hd;refine qA (uf (uO (I:=lG L b d k st) (Q:=lG L b d k st k) ?istep ?ifin ?iinit) ?ipost)
  case iinit=>exact#[0,k,∅,∅,∅,λi v hi=>by lia,λi v F=>by lia]
  case ifin=>
   rintro c o ⟨l,r,m,q,K,g,f⟩;exact#[l,r,m,q,∅,g,f]
  case istep=>
   rintro x c o _ W ⟨l,r,m,q,K,g,f⟩;dsimp only;refine vg (λH=>?_) λH=>?_
   .exact qL (.mk l r m q ∅ g f)
   .refine qA (Dm P hk G ∅ ∅ ?_);cases hless:L (qW b (d+k)) (qW b (d+(l+r)/2)) with
    | true=>exact qL (lG.mk l ((l+r)/2) ∅ ∅ ∅ g λi v F=>w.lt_le hless (e _ _ ∅ v F))
    | false=>exact qL (lG.mk ((l+r)/2+1) r ∅ ∅ ∅ (λi T v=>w.t (e i (d+(l+r)/2) T ∅ ∅) hless) f)
  case ipost=>
   rintro c o ⟨l,r,m,S,K,g,y⟩;let f:∀i,d+l<=i->i<d+k->L (qW b (d+k)) (qW b i)=Y:=λi v F=>y i ∅ F;show wpS _ _ _ _ (do moveDown' (d+k) (d+l);pure (ForInStep.yield (O,()))) _ _;rw[moveDown'_eq];let t:d+k<b.size:=by lia
   calc qA (xf (qL (lO.mk (bubble b (d+k) (d+k-(d+l))) (p.tr (iz.bub t ∅)) ?_)));rw[show min (k+1) n=k+1 by lia];intro i j N z X;rw[Ks t ∅,Ks t ∅,show d+k-(d+k-(d+l))=d+l by lia];repeat' split
   all_goals first
    | (exfalso;lia)
    | exact w.rf _
    | exact g _ ∅ ∅
    | exact w.le (f _ ∅ ∅)
    | calc e _ _ ∅ ∅ ∅
end
noncomputable def kA (lo a nr:Nat):StateT SortSt Sem AscSt:=
 forIn [a:nr] ((O,a):AscSt) λ_ c=>do
  let x <-ltAt' (lo+c.snd) (lo+c.snd-1)
  match x with
  | some sm=>if sm=Y then pure (ForInStep.done (O,c.snd)) else pure (ForInStep.yield (O,c.snd+1))
  | _=>pure (ForInStep.done (U O,c.snd))
noncomputable def jX (lo n nr:Nat):StateT SortSt Sem (Option Nat):=do
 reverseSlice' lo (lo+n)
 let c <-kA lo n nr
 match c.fst with
 | some r=>pure r
 | none=>pure (U c.snd)
noncomputable def ma (lo n nr:Nat):StateT SortSt Sem DescSt:=
 forIn [n:nr] ((O,n,0):DescSt) λ_ c=>do
  let x <-ltAt' (lo+c.snd.fst) (lo+c.snd.fst-1)
  match x with
  | some sm=>
   if sm=Y then
    if c.snd.snd>0 then do
     reverseSlice' (lo+c.snd.fst-(c.snd.snd+1)) (lo+c.snd.fst)
     pure (ForInStep.yield (O,c.snd.fst+1,0))
    else pure (ForInStep.yield (O,c.snd.fst+1,0))
   else do
    let y <-ltAt' (lo+c.snd.fst-1) (lo+c.snd.fst)
    match y with
    | some lg=>
     if lg=Y then pure (ForInStep.done (O,c.snd.fst,c.snd.snd))
     else pure (ForInStep.yield (O,c.snd.fst+1,c.snd.snd+1))
    | _=>pure (ForInStep.done (U O,c.snd.fst,c.snd.snd))
  | _=>pure (ForInStep.done (U O,c.snd.fst,c.snd.snd))
section
variable {M:Model}{A:AH}{E:rh}{s:AE}{D:Keyed->Prop}{L:Keyed->Keyed->Bool}{kd:SortKind}{st:SortSt}
noncomputable def BQ (L:Keyed->Keyed->Bool)(x y:Keyed):Prop:=Le L x y/\Le L y x
def C5 (q:Q () (setArr st (mirror a i j ((j-i)/2)))):wpS M A E s (reverseSlice' i j) Q (setArr st a):=by rw[reverseSlice'_eq];calc xf q
def MH {a:Array Keyed}{b g e:Nat}{Q:AscSt->SortSt->Prop}(t:ja L)(v:iR M A E s D L kd)(B:kindOf st=kd)(z:∀u∈a.toList,D u)(G:b+e<=a.size)(F:1<=g)(o:g<=e)
  (y:jK L a b (b+g)) (h:∀n,g<=n->n<=e->jK L a b (b+n)->(n=e\/L (qW a (b+n)) (qW a (b+n-1))=Y)->Q (O,n) (setArr st a)):wpS M A E s (kA b g e) Q (setArr st a):=by
 unfold kA;refine uO (I:=λx c f=>f=setArr st a/\c=(O,x)/\jK L a b (b+x)) ?step ?fin #[Z,Z,y]
 case fin=>
  rintro c f ⟨rfl,rfl,d⟩;rw[show max g e=e by lia]at d ⊢;exact h e o (qG _) d (.inl Z)
 case step=>
  rintro x c f m w ⟨rfl,rfl,d⟩;dsimp only;calc qA (Dm v B z ∅ ∅ ?_);cases hl:L (qW a (b+x)) (qW a (b+x-1)) with
  | true=>exact qL (h x m ∅ d (.inr hl))
  | false=>
   calc qL #[Z,Z,λi j k p C=>?_];by_cases q:j<b+x
   .exact d i j k p q
   .let r:j=b+x:=by lia
    subst r;by_cases l:i=b+x
    .subst l;exact t.rf _
    .exact t.t (d i (b+x-1) k ∅ ∅) hl
def Ee {a:Array Keyed}{c n d:Nat}{Q:Option Nat->SortSt->Prop}(p:ja L)(o:iR M A E s D L kd)(q:kindOf st=kd)(t:∀u∈a.toList,D u)(y:c+d<=a.size)(x:1<=n)(g:n<=d)
  (w:jx L a c (c+n)) (h:∀b m,iz c a b->1<=m->m<=d->jK L b c (c+m)->Q (U m) (setArr st b)):wpS M A E s (jX c n d) Q (setArr st a):=by
 unfold jX;calc qA (C5 ?_);let k:iz c a (mirror a c (c+n) ((c+n-c)/2)):=iz.mir ∅ (qG _);calc qA (MH p o q (k.d t) (by rw[k.sz];calc y) x g ?_ λm v f e _=>qL (h _ m k ∅ f e));intro i j l r z;rw[Hq ∅,Hq ∅,qg ∅,qg ∅];calc w _ _ ∅ ∅ ∅
def EH (b:ja L)(f:j<=a.size)(e:∀k,i<=k->k<j->BQ L (qW a k) (qW a (j-1)))(k:Nat):BQ L (qW (mirror a i j ((j-i)/2)) k) (qW a k):=by
 rw[Hq f];split
 .let c:=e (i+j-1-k) ∅ ∅;let d:=e k ∅ ∅;exact#[b.t c.1 d.2,b.t d.1 c.2]
 .exact#[b.rf _,b.rf _]
def jx.eqv (d:ja L)(f:jx L a l h)(c:∀k,BQ L (qW b k) (qW a k)):jx L b l h:=
 λi j g m e=>d.t (c j).1 (d.t (f i j g m e) (c i).2)
def jx.more (h:ja L)(k:jx L a l x)(e:l<x->Le L (qW a x) (qW a (x-1))):jx L a l (x+1):=by
 intro i j b g m;by_cases d:j<x
 .exact k i j b g d
 .let f:j=x:=by lia
  subst f;by_cases c:i=j
  .subst c;exact h.rf _
  .exact h.t (e ∅) (k i (j-1) b ∅ ∅)
def J4 {a:Array Keyed}{d n o:Nat}{Q:DescSt->SortSt->Prop}(f:ja L)(F:iR M A E s D L kd)(G:kindOf st=kd)(P:∀u∈a.toList,D u)(S:d+o<=a.size)(w:1<=n)(z:n<=o)
  (K:jx L a d (d+n))
  (h:∀b m g,iz d a b->n<=m->m<=o->jx L b d (d+m)->g+1<=m->(∀i,d+m-(g+1)<=i->i<d+m->BQ L (qW b i) (qW b (d+m-1)))->Q (O,m,g) (setArr st b)):
  wpS M A E s (ma d n o) Q (setArr st a):=by
 unfold ma;refine uO (I:=λx c p=>∃b g,p=setArr st b/\c=(O,x,g)/\iz d a b/\jx L b d (d+x)/\g+1<=x /\
   (∀i,d+x-(g+1)<=i->i<d+x->BQ L (qW b i) (qW b (d+x-1)))) ?step ?fin #[a,0,Z,Z,iz.rf _ _,K,∅,λi w B=>by rw[show i=d+n-1 by lia];calc#[f.rf _,f.rf _]]
 case fin=>
  rintro c p ⟨b,g,rfl,rfl,l,j,v,q⟩;rw[show max n o=o by lia]at j v q ⊢;exact h b o g l z (qG _) j v q
 case step=>
  rintro x c p y H ⟨b,g,rfl,rfl,l,j,v,q⟩;let N:=l.sz;let r:=l.d P;dsimp only;calc qA (Dm F G r ∅ ∅ ?_);cases hl:L (qW b (d+x)) (qW b (d+x-1)) with
  | true=>
   let k:jx L b d (d+x+1):=j.more f λ_=>f.le hl;dsimp only;by_cases t:g>0
   .rw[qg Z,qg t];calc qA (C5 (qL #[_,0,Z,Z,l.tr (iz.mir ∅ ∅),k.eqv f (EH f ∅ q),∅,λi w B=>?_]));rw[show i=d+(x+1)-1 by lia];exact#[f.rf _,f.rf _]
   .rw[qg Z,qe t];calc qL #[b,0,Z,Z,l,k,∅,λi w B=>?_];rw[show i=d+(x+1)-1 by lia];exact#[f.rf _,f.rf _]
  | false=>
   dsimp only;rw[qe qO];calc qA (Dm F G r ∅ ∅ ?_);cases hg:L (qW b (d+x-1)) (qW b (d+x)) with
   | true=>exact qL (h b x g l y ∅ j v q)
   | false=>
    calc qL #[b,g+1,Z,Z,l,j.more f λ_=>hg,∅,λi w B=>?_];rw[show d+(x+1)-1=d+x by lia];by_cases C:i=d+x
    .subst C;exact#[f.rf _,f.rf _]
    .let e:=q i ∅ ∅;calc#[f.t e.1 hl,f.t hg e.2]
def Zov {a:Array Keyed}{e G:Nat}{Q:Option Nat->SortSt->Prop}(g:ja L)(w:iR M A E s D L kd)(x:kindOf st=kd)(H:∀u∈a.toList,D u)(hn:e+G<=a.size)(V:1<=G)
  (h:∀b m,iz e a b->1<=m->m<=G->jK L b e (e+m)->Q (U m) (setArr st b)):wpS M A E s (countRun' e G) Q (setArr st a):=by
 rw[countRun'_eq];calc qA (uf (MH (Q:=λc S=>∃n,c=(O,n)/\S=setArr st a/\1<=n/\n<=G/\jK L a e (e+n)/\(n=G\/L (qW a (e+n)) (qW a (e+n-1))=Y)) g w x H hn (qG 1) V (λi j hl ag hj=>by have:i=j:=∅;subst this;calc g.rf _) λn a1 a2 a3 a4=>#[n,Z,Z,a1,a2,a3,a4]) ?_);rintro c S ⟨n,rfl,rfl,I,T,v,ab⟩;dsimp only;refine za (λN=>?_) λN=>?_
 .exact qL (h a n (iz.rf _ _) I T v)
 .let BB:=ab.resolve_left N;refine vg (λac=>?_) λac=>?_
  .refine qA (Dm w x H ∅ ∅ ?_);cases hrose:L (qW a e) (qW a (e+n-1)) with
   | true=>
    dsimp only;rw[qg Z];exact qL (h a n (iz.rf _ _) I T v)
   | false=>
    dsimp only;rw[qe qO];let p:∀k,e<=k->k<e+n->BQ L (qW a k) (qW a (e+n-1)):=by intro k P aa;let a1:=v e k ∅ P aa;let a2:=v k (e+n-1) P ∅ ∅;exact#[a2,g.t hrose a1]
    let X:jx L a e (e+(n+1)):=by calc jx.more g (λi j V h2 F=>?_) λ_=>g.le BB;replace F:j<e+n:=F;exact g.t (p j ∅ F).1 (p i V ∅).2
    let t:iz e a (mirror a e (e+n) ((e+n-e)/2)):=iz.mir ∅ (qG _);calc qA (C5 ?_);obtain⟨b,hb,f,C⟩:∃b,b=mirror a e (e+n) ((e+n-e)/2)/\iz e a b/\jx L b e (e+(n+1)):=#[_,Z,t,X.eqv g (EH g ∅ p)];rw[<-hb];let ae:=iz.sz f;calc qA (wpS_lift (vk #[Z,?_]));calc qA (J4 g w x (iz.d f H) ∅ ∅ ∅ C λc m K t af o q hq W=>?_);let ad:=t.sz;let r:=t.d (iz.d f H);dsimp only;refine vg (λy=>?_) λy=>?_
    .let l:iz e c (mirror c (e+m-(K+1)) (e+m) ((e+m-(e+m-(K+1)))/2)):=iz.mir ∅ ∅;calc qA (C5 ?_);calc Eq.mp ?_ (Ee (Q:=Q) g w x (l.d r) (by rw[l.sz];lia) ∅ o (q.eqv g (EH g ∅ W)) λd k B=>h d k (iz.tr f (t.tr (l.tr B))));calc NQ (λm=>wpS _ _ _ _ m _ _) ?_;unfold jX kA;calc NQ _ (funext λ_=>NQ _ (funext λc=>?_));let#[z,n3]:=c;cases z<;>rfl
    .refine Eq.mp ?_ (Ee (Q:=Q) g w x r ∅ ∅ o q λd k B=>h d k (iz.tr f (t.tr B)));calc NQ (λm=>wpS _ _ _ _ m _ _) ?_;unfold jX kA;calc NQ _ (funext λ_=>NQ _ (funext λc=>?_));let#[z,n3]:=c;cases z<;>rfl
  .obtain⟨b,hb,f,C⟩:∃b,b=a/\iz e a b/\jx L b e (e+(n+1)):=#[_,Z,iz.rf _ _,jx.more g (λi j V h2 F=>by replace F:j<e+n:=F;rw[show i=j by lia];calc g.rf _) λ_=>g.le BB]
   rw[<-hb];let ae:=iz.sz f;calc qA (wpS_lift (vk #[Z,?_]));calc qA (J4 g w x (iz.d f H) ∅ ∅ ∅ C λc m K t af o q hq W=>?_);let ad:=t.sz;let r:=t.d (iz.d f H);dsimp only;refine vg (λy=>?_) λy=>?_
   .let l:iz e c (mirror c (e+m-(K+1)) (e+m) ((e+m-(e+m-(K+1)))/2)):=iz.mir ∅ ∅;calc qA (C5 ?_);calc Eq.mp ?_ (Ee (Q:=Q) g w x (l.d r) (by rw[l.sz];lia) ∅ o (q.eqv g (EH g ∅ W)) λd k B=>h d k (iz.tr f (t.tr (l.tr B))));calc NQ (λm=>wpS _ _ _ _ m _ _) ?_;unfold jX kA;calc NQ _ (funext λ_=>NQ _ (funext λc=>?_));let#[z,n3]:=c;cases z<;>rfl
   .refine Eq.mp ?_ (Ee (Q:=Q) g w x r ∅ ∅ o q λd k B=>h d k (iz.tr f (t.tr B)));calc NQ (λm=>wpS _ _ _ _ m _ _) ?_;unfold jX kA;calc NQ _ (funext λ_=>NQ _ (funext λc=>?_));let#[z,n3]:=c;cases z<;>rfl
end
noncomputable def Pd (L:Keyed->Keyed->Bool):Nat->List (Nat×Nat×Nat)->List (List Keyed)->Prop
 | _,[],[]=>True
 | o,t::ps,r::rs=>t.1=o/\t.2.1=⇑r/\r≠[]/\r.Pairwise (Le L)/\Pd L (o+⇑r) ps rs
 | _,_,_=>False
section
variable {M:Model}{A:AH}{E:rh}{s:AE}{D:Keyed->Prop}{L:Keyed->Keyed->Bool}{kd:SortKind}{st:SortSt}
theorem Pd.len:∀ {b:List (Nat×Nat×Nat)} {a:List (List Keyed)} {o:Nat},Pd L o b a->⇑b=⇑a
 | [],[],_,_=>rfl
 | t::b,r::a,o,h=>by have:=Pd.len h.2.2.2.2;simp[this]
 | [],_::_,_,h=>h.elim
 | _::_,[],_,h=>h.elim
theorem Pd.le:∀ {b:List (Nat×Nat×Nat)} {a:List (List Keyed)} {o:Nat},Pd L o b a->⇑b<=⇑a.flatten
 | [],[],_,_=>by simp
 | t::b,r::a,o,h=>by
  let h1:=Pd.le h.2.2.2.2;let c:=wC.mpr h.2.2.1;rw[xH,qP,rF];lia
 | [],_::_,_,h=>h.elim
 | _::_,[],_,h=>h.elim
theorem Pd.app:∀ {b:List (Nat×Nat×Nat)} {a:List (List Keyed)} {o:Nat} {t:Nat×Nat×Nat} {r:List Keyed},Pd L o b a->t.1=o+⇑a.flatten->t.2.1=⇑r->r≠[]->r.Pairwise (Le L)->Pd L o (b++[t]) (a++[r])
 | [],[],o,t,r,_,h1,h2,h3,h4=>#[~~~h1,h2,h3,h4,trivial]
 | t::b,r::a,o,t',r',h,h1,h2,h3,h4=>#[h.1,h.2.1,h.2.2.1,h.2.2.2.1,Pd.app h.2.2.2.2 (by rw[h1,xH,qP];lia) h2 h3 h4]
 | [],_::_,_,_,_,h,_,_,_,_=>h.elim
 | _::_,[],_,_,_,h,_,_,_,_=>h.elim
theorem Pd.pow:∀ {c a:List (Nat×Nat×Nat)} {b:List (List Keyed)} {o:Nat},Pd L o c b->c.map (λt=>(t.1,t.2.1))=a.map (λt=>(t.1,t.2.1))->Pd L o a b
 | [],a,[],_,_,e=>by
  have:a=[]:=by simpa using e.symm
  subst this;trivial
 | t::c,a,r::b,o,h,e=>by
  cases a with
  | nil=>simp at e
  | cons u a=>
   simp only[rC,List.cons.injEq,Prod.mk.injEq]at e;exact#[e.1.1▸h.1,e.1.2▸h.2.1,h.2.2.1,h.2.2.2.1,Pd.pow h.2.2.2.2 e.2]
 | [],_,_::_,_,h,_=>h.elim
 | _::_,_,[],_,h,_=>h.elim
theorem Pd.pick:∀ {c:List (Nat×Nat×Nat)} {g:List (List Keyed)} {o i:Nat},Pd L o c g->i+1<⇑c ->
  ∃d X a j k b,g=d++X::a::j/\c[i]?=U (o+⇑d.flatten,⇑X,k)/\c[i+1]?=U (o+⇑d.flatten+⇑X,⇑a,b)/\X≠[]/\a≠[]/\X.Pairwise (Le L)/\a.Pairwise (Le L) /\
   ∀V:List Keyed,⇑V=⇑X+⇑a->V.Pairwise (Le L)->Pd L o ((c.set i (o+⇑d.flatten,⇑X+⇑a,k)).eraseIdx (i+1)) (d++V::j)
 | t::u::c,r::r2::g,o,0,h,_=>by
  let#[a1,a2,a3,a4,b1,b2,b3,b4,b5]:=h;let#[C,E,p]:=t;let#[D,B,v]:=u;dsimp only at a1 a2 b1 b2;subst a1 a2 b1 b2;calc#[[],r,r2,g,p,v,Z,{},{},a3,b3,a4,b4,λV f l=>?_];refine#[{},~~~f.symm,?_,l,?_]
  .intro e;rw[e]at f;have:=wC.mpr a3;simp at f;lia
  .rw[f,<-Nat.add_assoc];exact b5
 | t::c,r::g,o,i+1,h,hi=>by
  let#[a1,a2,a3,a4,q]:=h;let#[d,X,a,j,k,b,x,y,n,m,s,w,z,A]:=Pd.pick q (i:=i) (~~~hi);refine#[r::d,X,a,j,k,b,by rw[x];rfl,?_,?_,m,s,w,z,λV f l=>?_]
  .rw[List.getElem?_cons_succ,y,xH,qP,Nat.add_assoc]
  .rw[List.getElem?_cons_succ,n,xH,qP,Nat.add_assoc o]
  .have:=A V f l;rw[List.set_cons_succ,List.eraseIdx_cons_succ,xH,qP,<-Nat.add_assoc];exact#[a1,a2,a3,a4,this]
 | [_],[_],_,0,_,h=>by simp at h
 | [],_,_,_,_,h=>by simp at h
 | _::_,[],_,_,h,_=>h.elim
 | _::_::_,[_],_,0,h,_=>h.2.2.2.2.elim
 | [_],_::_::_,_,0,h,_=>h.2.2.2.2.elim
structure SI (L:Keyed->Keyed->Bool)(kd:SortKind)(a0:List Keyed)(n:Nat)(Z_:List Keyed)(st:SortSt):Prop where
 kind:kindOf st=kd
 fail:failedOf st=O
 perm:(arrOf st).toList.Perm a0
 runs:∃rs:List (List Keyed),(arrOf st).toList=rs.flatten++Z_/\⇑rs.flatten=n/\Pd L 0 (pendingOf st).toList rs
def SI.merge (w:ja L)(v:iR M A E s D L kd)(S:∀u∈a0,D u)(h:SI L kd a0 n Z_ st)(o:i+1<(pendingOf st).size)
  (q:∀b,SI L kd a0 n Z_ b->(pendingOf b).size+1=(pendingOf st).size->Q Y b):wpS M A E s (mergeAt' i) Q st:=by
 let#[G,H,j,T,r,B,F]:=h;let#[e,X,K,c,W,t,Z,f,p,y,z,N,P,x]:=F.pick (i:=i) (~~~o);rw[Nat.zero_add]at f p;let m:(arrOf st).toList=e.flatten++X++K++(c.flatten++Z_):=by rw[r];simp
 calc Zp5 w.to v G H m (λu C=>S u (j.mem_iff.mp C)) y z N P (by rw[<-uW];calc f) (by rw[<-uW];calc p) λV a g l k I=>?_;let d:=k.length_eq;rw[qP]at d;refine q _ #[Z,Z,?_,e++V::c,?_,?_,?_] ?_
 .show a.toList.Perm a0;calc List.Perm.trans ?_ j;rw[l,m];have:=(D9 e.flatten k).append_right (c.flatten++Z_);simpa using this
 .show a.toList=_;rw[l];simp
 .rw[<-B];simp[d];lia
 .show Pd L 0 (Array.eraseIdxIfInBounds _ _).toList _;have:=x V d I;rw[Nat.zero_add]at this;rw[Array.toList_eraseIdxIfInBounds,Array.toList_setIfInBounds];exact this
 .show (Array.eraseIdxIfInBounds _ _).size+1=_;rw[<-su,Array.toList_eraseIdxIfInBounds,Array.toList_setIfInBounds,List.length_eraseIdx_of_lt (~~~o),List.length_set,su]
  lia
end
def iz.pref {lo:Nat}{a b:Array Keyed}{F d:List Keyed}(h:iz lo a b)(f:a.toList=F++d)(g:⇑F=lo):b.toList=F++b.toList.drop lo:=by
 let e:b.toList.take lo=F:=by
  calc zO λi=>?_;rw[B2];by_cases c:i<lo
  .rw[qg c,uW,h.pre i c,<-uW,f,vj ∅]
  .rw[qe c,wP ∅]
 conv=>lhs;rw[<-u5 lo b.toList,e]
def jK.pw {L:Keyed->Keyed->Bool}{b:Array Keyed}{a m:Nat}(h:jK L b a (a+m)):((b.toList.drop a).take m).Pairwise (Le L):=by
 rw[Co];intro i j d g f;rw[rL,tG,su]at d g;let e:∀k (c:k<⇑((b.toList.drop a).take m)),qW b (a+k)=((b.toList.drop a).take m)[k]:=by intro k c;rw[rL,tG,su]at c;unfold qW;rw[getElem?_pos b (a+k) ∅];simp
 rw[<-e i (by simp;lia),<-e j (by simp;lia)];calc h _ _ ∅ ∅ ∅
section
variable {M:Model}{A:AH}{E:rh}{s:AE}{D:Keyed->Prop}{L:Keyed->Keyed->Bool}{kd:SortKind}{st:SortSt}
def SI.push {a0 R_ c:List Keyed}{a n p:Nat}(h:SI L kd a0 a (R_++c) st)(d:⇑R_=n)(l:R_≠[])(j:R_.Pairwise (Le L)):SI L kd a0 (a+n) c (setPending st ((pendingOf st).push (a,n,p))):=by
 let#[f,i,k,m,g,b,e]:=h;refine#[f,i,k,m++[R_],?_,?_,?_]
 .show (arrOf st).toList=_;rw[g];simp
 .simp[b,d]
 .show Pd L 0 ((pendingOf st).push (a,n,p)).toList _;rw[wq];calc e.app (by simp[b]) d.symm l j
def Zi0 (g:α->β)(f:α->α)(h:∀x,g (f x)=g x)(l:List α)(k:Nat):(l.modify k f).map g=l.map g:=by
 calc zO λi=>?_;rw[se,se,List.getElem?_modify];cases l[i]? with
 | none=>rfl
 | some x=>by_cases e:k=i<;>simp[e,h]
def SI.pow {a0 a:List Keyed}{b k w:Nat}(h:SI L kd a0 b a st):SI L kd a0 b a (setPending st ((pendingOf st).modify k λx=>(x.1,x.2.1,w))):=by let#[e,g,i,j,f,c,d]:=h;calc#[e,g,i,j,f,c,?_];show Pd L 0 ((pendingOf st).modify k _).toList _;rw[Array.toList_modify];calc d.pow (Zi0 (λt=>(t.1,t.2.1)) (λx=>(x.1,x.2.1,w)) (λ_=>rfl) _ _).symm
inductive xI {α:Type}(P:SortSt->Prop):Option α×Unit->SortSt->Prop
 | mk (st:SortSt) (h:P st):xI P (O,()) st
inductive kU {α:Type}(L:Keyed->Keyed->Bool)(kd:SortKind)(a0:List Keyed)(N x:Nat):Option α×Nat->SortSt->Prop
 | mk (lo:Nat) (Z_:List Keyed) (st:SortSt) (h:SI L kd a0 lo Z_ st) (hx:x<=lo) (hl:lo<=N):kU L kd a0 N x (O,lo) st
def ZsI {α:Type}{T:Nat->StateT SortSt Sem α}{P:α->SortSt->Prop}{C:Nat->Array Keyed->Prop}{f:Array Keyed->SortSt}{G:Prop}(h:∀n b,C n b->wpS M A E s (T n) P (f b))(g:(∀n b,C n b->wpS M A E s (T n) P (f b))->G):G:=g h
def Lr (hC:ja L)(hP:iR M A E s D L kd)(hd:∀u∈a0,D u)(hk:kindOf st=kd)(hf:failedOf st=O)(aq:pendingOf st=↑[])(ha:(arrOf st).toList=a0)
  (q:∀d,(arrOf d).toList.Perm a0->(arrOf d).toList.Pairwise (Le L)->failedOf d=O->Q () d):wpS M A E s sortRuns' Q st:=by
 rw[sortRuns'_eq];calc qA (wpS_get ?_);dsimp only;obtain⟨N,hN⟩:∃N,N=(arrOf st).size:=#[_,Z];let aa:⇑a0=N:=by rw[hN,<-ha,su]
 rw[<-hN];let ao:SI L kd a0 0 a0 st:=#[hk,hf,by rw[ha],[],~~~ha,Z,by rw[aq];trivial];refine qA (uf (uO (a:=0) (b:=N) (I:=kU L kd a0 N) (Q:=kU L kd a0 N N) ?step (λc d h=>h.casesOn λg B d l hx V=>.mk g B d l ∅ V) (.mk 0 a0 st ao ∅ ∅)) ?post)
 case post=>
  calc λc d h=>h.casesOn λg B d l hx V=>?_;let hZ:∀d,SI L kd a0 g B d->B=[]:=by intro d l;let#[S,X,w,z,F,K,o]:=l;have:=w.length_eq;rw[F,qP,K,aa]at this;exact zB.mp ∅
  dsimp only;refine qA (uf (uO (a:=0) (b:=N) (I:=λx=>xI λd=>SI L kd a0 g B d/\(pendingOf d).size+x<=N) (Q:=xI λd=>SI L kd a0 g B d/\(pendingOf d).size<=1) ?s2 (λc d h=>h.casesOn λd h=>.mk d #[h.1,by have:=h.2;lia]) (.mk d #[l,?_])) ?p2)
  case p2=>
   calc λc d h=>h.casesOn λd h=>?_;let#[#[S,X,w,z,F,K,o],hx]:=h;have:=hZ d #[S,X,w,z,F,K,o];subst this;calc qL (q d w ?_ X);let V:=o.len;rw[su]at V;rw[F,wH];cases z with
   | nil=>exact List.Pairwise.nil
   | cons r z=>
    cases z with
    | nil=>
     cases hps:(pendingOf d).toList with
     | nil=>rw[hps]at o;exact o.elim
     | cons t ps=>rw[hps]at o;simpa using o.2.2.2.1
    | cons r2 z=>simp at V;lia
  case s2=>
   calc λx c d _ hx h=>h.casesOn λd h=>?_;let#[l,aw]:=h;calc qA (wpS_get ?_);refine vg (λag=>?_) λag=>?_
   .exact qL (xI.mk d #[l,ag])
   .refine qA (l.merge hC hP hd ?_ λi j ax=>?_)
    .let am:∀(c:Prop) [Decidable c] (k:Nat),(if c then k-1 else k)<=k:=λc _ k=>by split<;>lia
     exact CJ (Bi (am _ _)) ∅
    .exact qL (xI.mk i #[j,∅])
  .obtain⟨S,X,w,z,F,K,o⟩:=l;have:=o.le;rw[su]at this
   lia
 case step=>
  calc λx c d _ hx h=>h.casesOn λg B d l av V=>?_;dsimp only;refine vg (λad=>?_) λad=>?_
  .exact qL (kU.mk g B d l ad V)
  let#[S,X,w,z,F,K,o]:=l;let aA:(arrOf d).size=N:=by rw[<-su,w.length_eq,aa]
  let ab:∀u∈(arrOf d).toList,D u:=λu hu=>hd u (w.mem_iff.mp hu);calc qA (Eq.mp (NQ (λv=>wpS M A E s (countRun' g (N-g)) _ v) (show setArr d (arrOf d)=d from Z)) (Zov hC hP S ab ∅ ∅ λb m hK aB as ae=>?_));dsimp only;let az:=hK.sz;refine ZsI (α:=ForInStep (Option Unit×Nat)) (M:=M) (A:=A) (E:=E) (s:=s) (T:=?T) (P:=?P) (C:=λn b=>iz g (arrOf d) b/\1<=n/\n<=N-g/\jK L b g (g+n)) (f:=setArr d) ?jh λjp=>?jg
  case jg=>
   refine vg (λaj=>?_) λaj=>?_
   .obtain⟨n,hn⟩:∃n,n=min (N-g) (minRun' N N 0):=#[_,Z];rw[<-hn];calc qA (wpS_lift (vk #[Z,?_]));calc qA (Zoy hC hP S (hK.d ab) ∅ ∅ ae λW al H=>?_);rw[qe {}];exact jp n W #[hK.tr al,∅,∅,H]
   .exact jp m b #[hK,∅,∅,ae]
  case jh=>
   rintro n W ⟨G,au,ay,H⟩;let ar:=iz.sz G;let ap:=iz.pref G F K;obtain⟨R_,hR⟩:∃R_,R_=(List.drop g (Array.toList W)).take n:=#[_,Z];obtain⟨Z2,an⟩:∃Z2,Z2=(List.drop g (Array.toList W)).drop n:=#[_,Z];let ak:(List.drop g (Array.toList W))=R_++Z2:=by rw[hR,an,u5]
   let p:⇑R_=n:=by rw[hR,rL,tG,su];lia
   let af:R_≠[]:=by intro e;rw[e]at p;simp at p;lia
   let ac:R_.Pairwise (Le L):=by rw[hR];exact jK.pw H
   let l:SI L kd a0 g (R_++Z2) (setArr d W):=#[S,X,(Array.perm_iff_toList_perm.mp (iz.perm G)).trans w,z,by rw[<-ak];calc ap,K,o];calc qA (wpS_get ?_);cases hb:(pendingOf (setArr d W)).back? with
   | none=>
    dsimp only;exact qA (xf (qL (kU.mk (g+n) Z2 _ (l.push p af ac) ∅ ∅)))
   | some t=>
    let#[s1,n1,p1]:=t;dsimp only;refine qA (uf (uO (a:=0) (b:=N) (I:=λ_=>xI (SI L kd a0 g (R_++Z2))) (Q:=xI (SI L kd a0 g (R_++Z2))) ?_ (λ_ _ h=>h) (.mk _ l)) ?_)
    .refine λy c i _ _ h=>h.casesOn λi j=>?_;calc qA (wpS_get ?_);by_cases hp:(pendingOf i).size>1
     .rw[qg hp];obtain⟨t,ht⟩:∃t,(pendingOf i)[(pendingOf i).size-2]?=U t:=#[_,getElem?_pos _ _ ∅];let#[t1,t2,t3]:=t;rw[ht];dsimp only;split
      .exact qL (xI.mk i j)
      .exact qA (j.merge hC hP hd ∅ λah ai _=>qL (xI.mk ah ai))
     .rw[qe hp];exact qL (xI.mk i j)
    .exact λc i h=>h.casesOn λi j=>qA (xf (qA (xf (qL (kU.mk (g+n) Z2 _ (j.pow.push p af ac) ∅ ∅)))))
end
noncomputable def lA (κ:KeyKind)(p:Keyed):κ.α:=(κ.keyOf p.1).getD κ.dflt
noncomputable def DB (κ:KeyKind)(x y:Keyed):Bool:=κ.blt (lA κ x) (lA κ y)
def Zn8 (κ:KeyKind):ja (DB κ):=
 #[λx y _ _ h=>KeyOrd.klt_asymm (O:=κ.toKeyOrd) h,λx y z _ _ _ a b=>KeyOrd.kle_trans (O:=κ.toKeyOrd) a b]
section
def ZlV (f:κ.OneLt):iR (model prog w) A E s (λp=>∃a,κ.keyOf p.1=U a) (DB κ) oneType':=by
 rintro h ⟨x,p⟩ ⟨y,r⟩ Q g ⟨a,d⟩ ⟨b,c⟩ q;let e:DB κ (x,p) (y,r)=κ.blt a b:=by unfold DB lA;rw[d,c];rfl
 rw[e]at q;rw[lt'_eq];calc qA (wpS_get ?_);rw[g,keyLt'_oneType];calc qA (wpS_lift (zf (f prog w A _ s x y a b d c #[Z,qL q])))
def Zlr {a0:Array Keyed}{st:SortSt}{Q:Unit->SortSt->Prop}(f:κ.OneLt)(h:KeysOf κ a0)(b:kindOf st=oneType')(g:failedOf st=O)(o:pendingOf st=↑[])(l:arrOf st=a0)
  (q:∀a,(arrOf a).Perm a0->failedOf a=O->SortedToK κ (arrOf a) a0.size->Q () a):wpS (model prog w) A E s sortRuns' Q st:=by
 calc Lr (a0:=a0.toList) (Zn8 κ) (ZlV f) h b g o (by rw[l]) λa c p r=>q a (Array.perm_iff_toList_perm.mpr c) r ?_;let m:(arrOf a).size=a0.size:=by rw[<-su,c.length_eq,su]
 intro i j n t;let d:∀k (b:k<(arrOf a).size),KK κ (arrOf a) k=lA κ ((arrOf a).toList[k]'(~~~b)):=by intro k b;unfold KK lA;rw[getElem?_pos _ k b];rfl
 rw[d i ∅,d j ∅];by_cases e:i=j
 .subst e;exact KeyOrd.kle_refl _
 .exact Co.mp p i j (by simp;lia) (by simp;lia) ∅
end
section
def Zlq (m:κ.OneLt){a:AD}{vs:AC}{n:Nat}{P:Fin->AE->Prop}(b:s.heap.get? a=U (seqObj "list" ↑vs n))
  (o:KeysOf κ (pairsOf vs)) (f:∀x y r,vs=x::y::r->keyKind' ↑(x::y::r)=pure oneType') (u:⇑vs<=sizeLine)
  (h:∀v:SortSt,(arrOf v).Perm (pairsOf vs)->SortedToK κ (arrOf v) (pairsOf vs).size->P (.done (.ret .none)) { s with heap:=sortedHeap s.heap a vs ((arrOf v).map (·.2)) }):
  wpAny (model prog w) A (Builtin.«list.sort» #[[.ref a],[]]) P E s:=by
 by_cases c:⇑vs<64
 .exact list_sort_treeK m b o f c h
 obtain⟨x,y,r,q⟩:∃x y r,vs=x::y::r:=by
  match vs,c with
  | x::y::r,_=>exact#[x,y,r,Z]
  | [x],h=>simp at h
  | [],h=>simp at h
 let t:¬vs.toArray.size<2:=by rw[rN];lia
 let p:a<↥s:=qQ b;let i:=get?_update_seq b (λ_=>↑[]);generalize hep:(if (↑[]:Array Value).size == vs.toArray.size then n else n+1)=ep at i;let d:(((s.heap.update a (Obj.mapSeq λ_=>↑[])).push (seqObj "tuple" ↑vs 0)).push (seqObj "list" ↑[] 0)).get? a=U (seqObj "list" ↑[] ep):=by
  rw[Heap.get?_push_ne,Heap.get?_push_ne]
  .exact i
  .rw[Heap.size_update];exact rK p
  .rw[size_push',Heap.size_update];exact rK (Nat.lt_succ_of_lt p)
 rw[list_sort_plain];calc qd (listItems_at b Z (qd (listUpdate_at b Z (qd (seqEpoch_at i Z (qd (wpAny_newTuple (qd (wpAny_newList (uI ?_)))))) ) (hsz:=by rw[rN];calc u))));dsimp only;rw[qe t,qe t];let l:keyKind' ↑vs=pure oneType':=by rw[q];exact f x y r q
 rw[l];calc qd (qv (qd (tw (Zlr m o (st:=SortSt.mk' oneType' (pairsOf vs) ↑[] 7 O) (Q:=λ_ v=>(arrOf v).Perm (pairsOf vs)/\failedOf v=O/\SortedToK κ (arrOf v) (pairsOf vs).size) Z Z Z Z λv g k j=>#[g,k,j]) ?_ λ_ _ e=>e)));rintro⟨⟨⟩,v⟩ z ⟨rfl,g,k,j⟩;dsimp only;refine qd (seqEpoch_at d Z (qd (listUpdate_at d Z ?_ (hsz2:=?_))))
 .rw[k,bne_self_eq_false];exact qv (h v g j)
 .rw[Array.size_map,g.size_eq,pairsOf_size];lia
end
section
def KC {vs:AC}{ms:qi}{Q:rh}(k:hJ (ms.map tx) vs)(f:⇑ms<=sizeLine)
  (h:∀(h':Heap)(us:AC)(e:Nat),(∀b o,s.heap.get? b=U o->h'.get? b=U o)->h'.get? ↥s=U { cls:=.type "list",data:=.seq ↑us e }->hJ ((sU ms).map tx) us->Q (.ref ↥s) { s with heap:=h' }):
  wpAny (model prog w) A (do let l <-newList vs;let _ <-holding [l] (call (.builtin "list.sort") [l] []);ret l) (λfin s'=>∃v,fin=Fin.done (Flow.ret v)/\Q v s') E s:=by
 let i:=ZjD k;let j:⇑vs<=sizeLine:=by rw[<-⇑k,qm];exact f
 refine qd (wpAny_newList ?_ ?_)
 .let c:(s.heap.push (seqObj "list" ↑vs 0)).get? ↥s=U (seqObj "list" ↑vs 0):=rS _ Z;calc qd (uI (CN slot_list_sort #[_,c,Z] entry_list_sort (Zlq strKind_oneLt c i.keysOf (λD y iI e=>keyKind_strs (by rw[<-e];calc i)) j λa t u=>#[_,Z,?_]) (args_list_sort _)));let#[g,r,C,z]:=sorted_out_str i t u;let#[e,n]:=sortedHeap_at (out:=(arrOf a).map (·.2)) c;refine qv #[_,Z,h _ ((arrOf a).map (·.2)).toList e (λb o q=>?_) ?_ ?_]
  .let m:=qQ q;let d:b<(s.heap.push (seqObj "list" ↑vs 0)).objs.size:=by rw[vD];exact Nat.lt_succ_of_lt m
   exact(sortedHeap_old (rK m) d).trans (qU _ q)
  .let q:↑((arrOf a).map (·.2)).toList=(arrOf a).map (·.2):=Array.toArray_toList;rw[q];exact n
  .let p:(g.map λx=>x.cps.toList).Perm ms:=by
    have:=C.map (λx:Str=>x.cps.toList)
    rwa [Zmp]at this
   let B:=Hg p (Zfo z);rw[<-B];exact K8 r
 .exact j
def Zhf (f:A.handled=O)(n:iK prog w s.heap S ls (!sI w))(c:⇑ls<=sizeLine)
  (h:∀(s':AE)(a:AD)(us:AC)(e:Nat),s.heap.get? a=O->(∀b o,s.heap.get? b=U o->s'.heap.get? b=U o)->s'.gens=s.gens->s'.os=s.os->s'.heap.get? a=U { cls:=.type "list",data:=.seq ↑us e }->hJ ((sU ls).map tx) us->Q (.ref a) s'):
  wpAny (model prog w) A (call (.builtin "sorted") [.ref S]) Q E s:=by
 calc Calls.call_function_entry kind_sorted plain_sorted entry_sorted (args_sorted1 _) ?_;unfold Builtin.«sorted»;calc qd (m:=checkCount "sorted" 1 1 _) (qv ?_);calc qd (ZhH (by first | calc f | simpa using f) n c λs' x j d i u g p=>?_);let l:⇑j<=sizeLine:=by rw[g.length_eq];exact c
 calc KC p l λv us e t k r=>?_;rw[Zhh g]at r;exact h _ _ us e (by
  cases q:s.heap.get? ↥s' with
  | none=>rfl
  | some o=>calc NR (qQ (d _ _ q)) (tJ _)) (λb o q=>t b o (d b o q)) i u k r
end
section
end
def ZgB (b:Bool)(x y:Value):keyLt' (tuples' b) x y=(do
  let xs <-Builtin.List.listItems x
  let ys <-Builtin.List.listItems y
  for ((p,r),i) in (xs.toList.zip ys.toList).zipIdx do
   if !(<-eqBool p r) then return <-oneLt' (b&&i == 0) p r
  return xs.size<ys.size):=rfl
noncomputable def j9 (h:Heap):Value->Int×p9
 | .ref a=>match h.get? a with
  | some o=>match o.data with
   | .seq xs _=>match xs.toList with
    | [.int n _,.str w _]=>(n,w.cps.toList)
    | _=>(0,[])
   | _=>(0,[])
  | none=>(0,[])
 | _=>(0,[])
noncomputable def uN (a b:Int×p9):Bool:=R (a.1<b.1) || (a.1 == b.1&&R (a.2<b.2))
noncomputable def Ba (h:Heap)(x y:Keyed):Bool:=uN (j9 h x.1) (j9 h y.1)
def Fy:uN a b=Y↔a.1<b.1\/(a.1=b.1/\a.2<b.2):=by unfold uN;simp
def IE:uN b a=J↔a.1<b.1\/(a.1=b.1/\¬b.2<a.2):=by
 rw[<-Bool.not_eq_true,Fy];constructor
 .intro h;by_cases e:a.1=b.1
  .exact .inr #[e,λk=>h (.inr #[e.symm,k])]
  .exact .inl (by
    have:¬b.1<a.1:=λk=>h (.inl k)
    lia)
 .rintro (h | ⟨h,k⟩) (l | ⟨l,m⟩)
  .lia
  .lia
  .lia
  .exact k m
def Zn6 (h:Heap):ja (Ba h):=by
 refine#[λx y _ _ e=>?_,λx y z _ _ _ e f=>?_]
 .unfold Ba at e ⊢;rw[Fy]at e;rw[IE];rcases e with e | ⟨e,f⟩
  .exact .inl e
  .exact .inr #[e,List.lt_asymm f]
 .unfold Ba at e f ⊢;rw[IE]at e f ⊢;rcases e with e | ⟨e,b⟩<;>rcases f with f | ⟨f,a⟩
  .exact .inl ∅
  .exact .inl ∅
  .exact .inl ∅
  .exact .inr #[∅,List.not_lt.mpr (List.le_trans (List.not_lt.mp b) (List.not_lt.mp a))]
noncomputable def vd (h:Heap)(v:Value)(n:Int)(c:p9):Prop:=∃a t w u e,v=.ref a/\h.get? a=U (seqObj "tuple" ↑[.int n t,.str w u] e)/\w.cps.toList=c
def vd.key (k:vd h v n c):j9 h v=(n,c):=by let#[a,t,w,u,e,Z,b,Z]:=k;unfold j9;dsimp only;rw[b]
section
def ZiW (h:Q (R (a.cps.toList<b.cps.toList)) s):wpAny (model prog w) A (oneLt' J (.str a t) (.str b u)) Q E s:=by rw[oneLt'_eq];simp only[yY,if_false];calc qd (wpAny_richCompare_same (typeIs_str s a t) (typeIs_str s b u) slot_str_lt (call_str_lt #[(λz=>nomatch z),?_]));calc ww h
def ZlU:iR (model prog w) A E s (λp=>∃n c,vd s.heap p.1 n c) (Ba s.heap) (tuples' Y):=by
 rintro D ⟨x,p⟩ ⟨y,r⟩ Q B ⟨n,c,i⟩ ⟨m,d,k⟩ q;let e:Ba s.heap (x,p) (y,r)=uN (n,c) (m,d):=by unfold Ba;rw[i.key,k.key]
 rw[e]at q;let#[a,t,v,u,F,Z,C,Z]:=i;let#[b,z,g,l,o,Z,h,Z]:=k;rw[lt'_eq];calc qA (wpS_get ?_);rw[B,ZgB];calc qA (wpS_lift (zf (qd (listItems_at C Z (qd (listItems_at h Z ?_))))));show wpAny _ _ (forIn [((Value.int n t,Value.int m z),0),((Value.str v u,Value.str g l),1)] _ _ >>= _) _ _ _;rw[List.forIn_cons];calc qd (qd (qd (wpAny_eqBool_int ?_)));by_cases f:n=m
 .subst f;rw[qe {}];calc qv ?_;dsimp only;rw[List.forIn_cons];calc qd (qd (eqBool_str ?_));by_cases j:v=g
  .subst j;rw[qe {}];calc qv ?_;dsimp only;rw[List.forIn_nil];calc qv ?_;dsimp only;calc qv #[Z,qL ?_];have:uN (n,v.cps.toList) (n,v.cps.toList)=J:=by unfold uN;simp[List.lt_irrefl]
   rw[this]at q;simpa using q
  .rw[qg (~~~j)];calc qd (ZiW (qv (qv ?_)));dsimp only;calc qv #[Z,qL ?_];have:uN (n,v.cps.toList) (n,g.cps.toList)=R (v.cps.toList<g.cps.toList):=by unfold uN;simp
   rw[this]at q;exact q
 .rw[qg (~~~f)];calc qd (oneLt_int (qv (qv ?_)));dsimp only;calc qv #[Z,qL ?_];have:uN (n,v.cps.toList) (m,g.cps.toList)=R (n<m):=by unfold uN;simp[f]
  rw[this]at q;calc q
end
section
theorem Lm:∀ {vs:AC} {Q:List (Option Value)->AE->Prop},(∀v∈vs,∃n c,vd s.heap v n c) ->
  (∀us:AC,⇑us=⇑vs->(∀u∈us,∃n t,u=.int n t)->Q (us.map U) s)->wpAny (model prog w) A (vs.mapM firstOfTuple') Q E s
 | [],Q,_,q=>by rw[List.mapM_nil];exact qv (q [] Z {})
 | v::vs,Q,h,q=>by
  let#[n,c,a,t,x,u,e,Z,ho,Z]:=h v {};rw[List.mapM_cons];calc qd ?_;show wpAny _ _ (do
   if (<-typeOf (.ref a)) != .type "tuple" then return O
   return (<-Builtin.List.listItems (.ref a))[0]?) _ _ _
  calc qd (wpAny_typeOf_ref ho ?_);rw[qe (show ¬((Value.type "tuple" != Value.type "tuple")=Y) by decide)];calc qd (listItems_at ho Z (qv ?_));calc qd (Lm (λv hv=>h v (by simp[hv])) λus hl hu=>qv ?_);calc q (.int n t::us) (by simp[hl]) λu hu'=>?_;rcases qS.mp hu' with rfl | hu'
  .exact#[n,t,Z]
  .exact hu u hu'
def Zhx (j:∀v∈vs,∃n c,vd s.heap v n c)(d:vs≠[])(q:Q (tuples' Y) s):wpAny (model prog w) A (keyKind' ↑vs) Q E s:=by
 rw[keyKind'_eq,List.mapM_toArray,map_eq_pure_bind,bind_assoc];calc qd (Lm j λa f i=>?_);rw[pure_bind,qg {}];calc qd (vk ?_);let g:IntsAre a (a.map numOf):=intsAre_map a i;let e:((a.map U).toArray.filterMap id)=↑a:=by simp
 rw[e,oneTypeOnly'_eq,List.mapM_toArray,mapM_typeOf_ints g];cases a with
 | nil=>
  cases vs with
  | nil=>exact NR Z d
  | cons v vs=>simp at f
 | cons u a=>
  simp only[map_pure,pure_bind];let h:(List.map (λ_=>Value.type "int") (u::a)).toArray[0]?=U (Value.type "int"):=by simp
  let b:((List.map (λ_=>Value.type "int") (u::a)).toArray.all λz=>z == Value.type "int")=Y:=by rw[List.all_toArray,List.all_map,ur];exact λ_ _=>rfl
  rw[h];simp only[b,if_true,pure_bind];calc qv q
end
theorem ZiN (a g:AD):Builtin.«list.sort» #[[.ref a],[(Str.ofString "key",.ref g)]]=(do
  let its <-Builtin.List.listItems (.ref a)
  Builtin.List.listUpdate (.ref a) λ_=>↑[]
  let be <-seqEpoch a
  let hd <-newTuple its.toList
  let ks <-newList []
  holding [hd,ks] do
   rule "list.sort.key"
   for x in its do
    match <-(call (.ref g) [x]).attempt with
    | .ok k=>Builtin.List.listUpdate ks (·.push k)
    | .error e=>
     rule "list.sort.key-raised"
     let md <-Builtin.List.listItems ks
     Builtin.List.listUpdate ks λ_=>↑[]
     letGo md.toList.reverse [e]
     Builtin.List.listUpdate (.ref a) λ_=>its
     throw e
   let kys <-Builtin.List.listItems ks
   let kind <-if its.size<2 then pure general' else keyKind' kys
   let ((),v) <-(if its.size<2 then pure () else sortRuns').run (SortSt.mk' kind (kys.zip its) ↑[] 7 O)
   Builtin.List.listUpdate ks λ_=>↑[]
   letGo ((arrOf v).map (·.1)).toList (failedOf v).toList
   let tch:=(<-seqEpoch a) != be
   Builtin.List.listUpdate (.ref a) λ_=>(arrOf v).map (·.2)
   if let U e:=failedOf v then rule "list.sort.comparison-raised";throw e
   if tch then rule "list.sort.modified";raiseError "ValueError" "list modified during sort"
   ret .none):=rfl
noncomputable def Kp (h g:Heap):Prop:=∀b o,h.get? b=U o->g.get? b=U o
noncomputable def jQ (M:Model)(A:AH)(g:AD)(vs:AC)(b:Value->Int×p9)(s:AE):Prop:=
 ∀(E:rh)(s':AE)(v:Value)(Q:rh),v∈vs->Kp s.heap s'.heap->s'.gens=s.gens->s'.os=s.os ->
  (∀(a:AE)(k:Value),Kp s'.heap a.heap->a.gens=s'.gens->a.os=s'.os->vd a.heap k (b v).1 (b v).2->Q k a)->wpAny M A (call (.ref g) [v]) Q E s'
def vd.kp (k:vd h v n c)(q:Kp h g):vd g v n c:=by let#[a,t,w,u,e,d,b,f]:=k;calc#[a,t,w,u,e,d,q _ _ b,f]
def vd.up {h:Heap}{v:Value}{n:Int}{c:p9}{K:AD}{xs:Array Value}{m:Nat}{f:Obj->Obj}(k:vd h v n c)(d:h.get? K=U (seqObj "list" xs m)):vd (h.update K f) v n c:=by
 let#[a,t,w,u,e,g,b,i]:=k;calc#[a,t,w,u,e,g,?_,i];rw[(uG h K f).2 a ?_]
 .exact b
 .rintro rfl;rw[b]at d;have:=NQ Obj.cls (Option.some.inj d);calc NR (show Value.type "tuple"=Value.type "list" from this) ⋯
noncomputable def ka (h:Heap)(a:Value->Int×p9)(b vs:AC):Prop:=⇑b=⇑vs/\∀(i:Nat)(k v:Value),b[i]?=U k->vs[i]?=U v->vd h k (a v).1 (a v).2
section
theorem Jf {g K a:AD}{vs:AC}{kf:Value->Int×p9}{oa:Obj}{Q:PUnit->AE->Prop}{er:Value->Sem (ForInStep PUnit)}(hc:jQ (model prog w) A g vs kf s)(hK0:s.heap.get? K=O)(ha0:a≠K)(hN:⇑vs<=sizeLine)
  (q:∀(s2:AE) ks n,Kp s.heap s2.heap->s2.gens=s.gens->s2.os=s.os->s2.heap.get? K=U (seqObj "list" ↑ks n)->ka s2.heap kf ks vs->s2.heap.get? a=U oa->Q #[] s2):
  ∀(l dn ks:AC)(s':AE)(n:Nat),vs=dn++l->Kp s.heap s'.heap->s'.gens=s.gens->s'.os=s.os->s'.heap.get? K=U (seqObj "list" ↑ks n)->ka s'.heap kf ks dn->s'.heap.get? a=U oa ->
   wpAny (model prog w) A (forIn l PUnit.unit λx _=>do
    match <-(call (.ref g) [x]).attempt with
    | .ok k=>do
     Builtin.List.listUpdate (.ref K) (·.push k)
     pure (ForInStep.yield PUnit.unit)
    | .error e=>er e) Q E s'
 | [],dn,ks,s',n,hv,h1,h2,h3,h4,h5,h6=>by
  rw[wH]at hv;subst hv;rw[List.forIn_nil];exact qv (q s' ks n h1 h2 h3 h4 h5 h6)
 | x::l,dn,ks,s',n,hv,h1,h2,h3,h4,h5,h6=>by
  rw[List.forIn_cons];calc qd (qd (zf (hc _ s' x _ (by rw[hv];simp) h1 h2 h3 λs2 k k1 k2 k3 k4=>?_)));let A3:⇑ks<⇑vs:=by rw[h5.1,hv];simp
  let hK2:=k1 _ _ h4;calc qd (listUpdate_at hK2 Z (qv ?_) (hsz:=by rw[rN];lia) (hsz2:=by rw[Array.size_push,rN];lia));dsimp only;let sb:=uG s2.heap K (Obj.mapSeq λz=>z.push k);refine Jf hc hK0 ha0 hN q l (dn++[x]) (ks++[k]) _ _ (by rw[hv];simp) ?_ (k2.trans h2) (k3.trans h3) (by have:=get?_update_seq hK2 (λz=>z.push k);rw[List.push_toArray]at this;calc this) ?_ ?_
  .intro b o hb;calc(sb.2 b ?_).trans (k1 b o (h1 b o hb));rintro rfl;rw[hK0]at hb;cases hb
  .refine#[by simp[h5.1],λi k' v' e1 e2=>?_];by_cases hi:i<⇑ks
   .rw[vj hi]at e1;rw[vj (by rw[<-h5.1];calc hi)]at e2;exact((h5.2 i k' v' e1 e2).kp k1).up hK2
   .let hi2:i=⇑ks:=by have:=(rY.mp e1).1;simp at this;lia
    subst hi2;rw[vH (qG _),yd]at e1;rw[h5.1,vH (qG _),yd]at e2;cases e1;cases e2;exact k4.up hK2
  .exact(sb.2 a ha0).trans (k1 a oa h6)
end
section
def GT (b:ka h kf ks vs){p:Keyed}(a:p∈ks.zip vs):j9 h p.1=kf p.2/\∃n c,vd h p.1 n c:=by
 let#[i,e,Z]:=xc a;rw[List.length_zip]at e;let d:i<⇑ks:=by lia
 let f:i<⇑vs:=by lia
 have:=b.2 i ks[i] vs[i] (rD d) (rD f);rw[List.getElem_zip];calc#[this.key,_,_,this]
def ZiM (hc:jQ (model prog w) A g vs kf s0)(hb:Kp s0.heap s.heap)(hg:s.gens=s0.gens)(hos:s.os=s0.os)(ha0:s0.heap.get? a=O)
  (ho:s.heap.get? a=U (seqObj "list" ↑vs n)) (hN:⇑vs<=sizeLine)
  (h:∀(s':AE)(us:AC)(e:Nat),Kp s0.heap s'.heap->s'.gens=s0.gens->s'.os=s0.os->s'.heap.get? a=U (seqObj "list" ↑us e)->us.Perm vs->us.Pairwise (λx y=>uN (kf y) (kf x)=J)->P (.done (.ret .none)) s'):
  wpAny (model prog w) A (Builtin.«list.sort» #[[.ref a],[(Str.ofString "key",.ref g)]]) P E s:=by
 let BB:a<↥s:=qQ ho;let up:=get?_update_seq ho (λ_=>↑[]);generalize hep:(if (↑[]:Array Value).size == vs.toArray.size then n else n+1)=ep at up;obtain⟨h1,hh1⟩:∃h1,h1=s.heap.update a (Obj.mapSeq λ_=>↑[]):=#[_,Z];let k1:Kp s0.heap h1:=by
  intro b o q;rw[hh1,(uG s.heap a _).2 b ?_]
  .exact hb b o q
  .rintro rfl;rw[ha0]at q;cases q
 rw[<-hh1]at up;obtain⟨K,hK⟩:∃K,K=(h1.push (seqObj "tuple" ↑vs 0)).objs.size:=#[_,Z];obtain⟨h3,hh3⟩:∃h3,h3=(h1.push (seqObj "tuple" ↑vs 0)).push (seqObj "list" ↑[] 0):=#[_,Z];let k3:Kp h1 h3:=λb o q=>by rw[hh3];exact qU _ (qU _ q)
 let oK:h3.get? K=U (seqObj "list" ↑[] 0):=by rw[hh3,hK];exact rS _ Z
 let nK:s0.heap.get? K=O:=by
  cases z:s0.heap.get? K with
  | none=>rfl
  | some o=>
   have:=qQ (k1 _ _ z);rw[hK,size_push']at this;exact NR this (Nat.not_lt.mpr (vt _))
 let aK:a≠K:=by rintro rfl;let h8:=qQ up;rw[hK,size_push']at h8;exact NR h8 (Nat.not_lt.mpr (vt _))
 subst hK;rw[ZiN];calc qd (listItems_at ho Z (qd (listUpdate_at ho Z ?_ (hsz:=by rw[rN];calc hN))));rw[<-hh1];calc qd (seqEpoch_at up Z (qd (wpAny_newTuple (qd (wpAny_newList (uI ?_))))));calc qd (vk ?_);rw[List.forIn_toArray];show wpAny _ _ _ _ _ { s with heap:=(h1.push (seqObj "tuple" ↑vs 0)).push (seqObj "list" ↑[] 0) };rw[<-hh3];calc qd (Jf hc nK aK hN ?_ vs [] [] { s with heap:=h3 } 0 Z (λb o q=>k3 b o (k1 b o q)) hg hos oK #[Z,λi k v e _=>by simp at e] (k3 a _ up));intro s2 ks m j1 j2 j3 j4 j5 j6;dsimp only;calc qd (listItems_at j4 Z ?_);let fin:∀v:SortSt,failedOf v=O->((arrOf v).map (·.2)).toList.Perm vs->((arrOf v).map (·.2)).toList.Pairwise (λx y=>uN (kf y) (kf x)=J) ->
   wpAny (model prog w) A (do
    Builtin.List.listUpdate (.ref (h1.push (seqObj "tuple" ↑vs 0)).objs.size) λ_=>↑[]
    letGo ((arrOf v).map (·.1)).toList (failedOf v).toList
    let tch:=(<-seqEpoch a) != ep
    Builtin.List.listUpdate (.ref a) λ_=>(arrOf v).map (·.2)
    if let U e:=failedOf v then rule "list.sort.comparison-raised";throw e
    if tch then rule "list.sort.modified";raiseError "ValueError" "list modified during sort"
    ret .none) P E s2:=by
  intro v f1 f2 f3;let hl:=j5.1;calc qd (listUpdate_at j4 Z (qd (wpAny_letGo ?_)) (hsz:=by rw[rN];lia));let sb:=uG s2.heap (h1.push (seqObj "tuple" ↑vs 0)).objs.size (Obj.mapSeq λ_=>↑[]);let a1:(s2.heap.update (h1.push (seqObj "tuple" ↑vs 0)).objs.size (Obj.mapSeq λ_=>↑[])).get? a=U (seqObj "list" ↑[] ep):=(sb.2 a aK).trans j6;refine qd (seqEpoch_at a1 Z (qd (listUpdate_at a1 Z ?_ (hsz2:=by
   have:=f2.length_eq;rw[su]at this
   lia))))
  rw[f1,bne_self_eq_false];obtain⟨out,hout⟩:∃out,out=(arrOf v).map (·.2):=#[_,Z];rw[<-hout]at f2 f3 ⊢;let a2:=get?_update_seq a1 (λ_=>out);generalize (if out.size == (↑[]:Array Value).size then ep else ep+1)=e5 at a2;let e3:↑out.toList=out:=Array.toArray_toList;calc qv (h _ out.toList e5 ?_ j2 j3 (by rw[e3];calc a2) f2 f3);intro b o q;refine((uG _ a _).2 b ?_).trans ((sb.2 b ?_).trans (j1 b o q))
  .rintro rfl;rw[ha0]at q;cases q
  .rintro rfl;rw[nK]at q;cases q
 let zs:(ks.toArray.zip ↑vs)=↑(ks.zip vs):=by simp
 let zm:((ks.zip vs).map (·.2))=vs:=List.map_snd_zip (by rw[j5.1];calc qG _);by_cases h2:vs.toArray.size<2
 .rw[qg h2,qg h2];calc qd (qv ?_);rw[StateT.run_pure];calc qd (qv ?_);refine fin (SortSt.mk' general' (ks.toArray.zip ↑vs) ↑[] 7 O) Z ?_ ?_
  .show ((ks.toArray.zip ↑vs).map (·.2)).toList.Perm vs;rw[zs,Array.toList_map,zm]
  .show ((ks.toArray.zip ↑vs).map (·.2)).toList.Pairwise _;rw[zs,Array.toList_map,zm]
   match vs,h2 with
   | [],_=>exact List.Pairwise.nil
   | [x],_=>exact List.pairwise_singleton _ _
   | _::_::_,h2=>simp at h2;lia
 .rw[qe h2,qe h2];let hne:ks≠[]:=by intro e;have:=j5.1;rw[e]at this;rw[rN,<-this]at h2;simp at h2
  refine qd (Zhx (λv hv=>?_) hne ?_)
  .obtain⟨i,hi,rfl⟩:=xc hv;let h2:i<⇑vs:=by rw[<-j5.1];exact hi
   exact#[_,_,j5.2 i ks[i] vs[i] (rD hi) (rD h2)]
  .refine qd (tw (Lr (a0:=ks.zip vs) (st:=SortSt.mk' (tuples' Y) (ks.toArray.zip ↑vs) ↑[] 7 O) (Q:=λ_ v=>(arrOf v).toList.Perm (ks.zip vs)/\(arrOf v).toList.Pairwise (Le (Ba s2.heap))/\failedOf v=O)
    (Zn6 _) ZlU (λu hu=>(GT j5 hu).2) Z Z Z (by show (ks.toArray.zip ↑vs).toList=_;rw[zs]) λv p1 p2 p3=>#[p1,p2,p3]) ?_ λ_ _ e=>e)
   rintro⟨⟨⟩,v⟩ s3 ⟨rfl,p1,p2,p3⟩;refine fin v p3 ?_ ?_
   .rw[Array.toList_map];have:=p1.map (λp:Keyed=>p.2);rw[zm]at this;exact this
   .rw[Array.toList_map,wf];calc p2.imp_of_mem λ{x y} hx hy e=>?_;let e1:=(GT j5 (p1.mem_iff.mp hx)).1;let e2:=(GT j5 (p1.mem_iff.mp hy)).1;let e':uN (j9 s3.heap y.1) (j9 s3.heap x.1)=J:=e;rw[e1,e2]at e';calc e'
end
noncomputable def Ho:Value->Int×p9
 | .str x _=>((⇑x:Nat),x.cps.toList)
 | _=>(0,[])
abbrev Cw (x:Str)(b d c e a:Pos)(k:Nat):Expr:=.Tuple [.Call (.Name "len" b) [.Name x d] [] c,.Name x e] k a
structure me (scope:Scope)(x:Str):Prop where
 kind:scope.kind=.function
 co:scope.isCoroutine=J
 gen:scope.isGenerator=J
 loc:scope.names.lookup x=U .local
 glb:scope.names.lookup ("len":Str)=U .globalImplicit
 nodbg:(x == ("__debug__":Str))=J
section
def Zla (f:Str->Option NameKind){x:Str}{v:Value}(h:f x=U .local):bindL f [(x,v)] (λ_=>O) x=U v:=by unfold bindL bindL;rw[qg h,qg Z]
def Zn9 
  (ho:s.heap.get? g=U o) (G:o.data=.func (kla_fn name qual params (Cw x p1 p2 p3 p4 p5 k) scope [] pm cv ctv)) (D:s.heap.CodeRec cv qual) (S:me scope x)
  (V:∀(s:AE)(u:Value),BindsTo s (kla_fn name qual params (Cw x p1 p2 p3 p4 p5 k) scope [] pm cv ctv) #[[u],[]] [(x,u)]) (d:A.depth<recursionLimit) (h:s.heap.NoLimit)
  (hg:s.heap.Ns mainGlobals mg) (F:mg "len"=O) (n:s.heap.Ns builtinsNs mb) (H:mb "len"=bootBuiltins "len") (hv:∀v∈vs,∃y t,v=.str y t/\⇑y<=sizeLine):jQ (model prog w) A g vs Ho s:=by
 intro E m v Q p j K P q;let#[y,t,Z,hy]:=hv v p;let hs:sizeLine=16777216:=sizeLine_eq;calc vY (PySem.W.kla_callFunE d (j _ _ ho) G S.co S.gen Z (let ⟨c,oc,ws,tq,l,e2,r⟩:=D;#[c,oc,ws,tq,l,j _ _ e2,r]) (V _ _ _ _ _ _ ?_));calc wpAny_newFunctionEnv_cells S.kind (λz M=>.inl (by rw[qR.mp M];calc S.loc)) λT N f X=>?_;calc#[(h.keeps j).keeps X.toInCall.keep,PySem.W.kla_codeExpr ?_];subst N;let#[h1,aa,l]:=X.toInCall.same;let a:Kp m.heap f.heap:=X.toInCall.keep;let i:∀(L:Pos)(B:AH)(I:rh)(s2:AE)(C:rh),Kp f.heap s2.heap->C (.str y t) s2->wpAny (model prog w) B (eval (.Name x L) (newEnv scope ↥m mainGlobals (cellsFrom (↥m+1) scope.names []) (qual++".<locals>.") (U g) cv O builtinsNs)) C I s2:=λL B I s2 C W q2=>
  wpAny_Name (wpAny_loadName_local S.kind S.loc (X.toInCall.ns.keeps W) (by calc Zla _ S.loc) q2) S.nodbg
 calc wpAny_Tuple_spliced ?_;show wpAny _ _ (spliced ((J,eval (.Call (.Name "len" p1) [.Name x p2] [] p3) _)::backTo p5 (starEach [.Name x p4] _))) _ _ f;calc xZ ?_;calc yj (Calls.Name_function_global S.kind S.glb (Calls.loadGlobal_builtin (v:=.builtin "len") (show f.heap.Ns mainGlobals mg from(hg.keeps j).keeps a) F (show f.heap.Ns builtinsNs mb from(n.keeps j).keeps a) (H.trans Z) ?_) ⋯);calc FN ?_ Z Z;show wpAny _ _ (spliced ((J,eval (.Name x p2) _)::backTo p3 (starEach [] _))) _ _ f;calc xZ (i p2 _ _ _ _ (λ_ _ e=>e) (B3 ?_));calc len_str ∅ ?_;show wpAny _ _ (spliced ((J,eval (.Name x p4) _)::backTo p5 (starEach [] _))) _ _ _;calc xZ (i p4 _ _ _ _ (λ_ _ e=>e) (B3 ?_));calc#[by rw[hs];show 2<=16777216;decide,?_];rw[l];calc q _ _ (λb o e=>qU _ (by have:=a b o e;rw[l]at this;calc this)) Z Z #[_,_,_,_,_,Z,rS _ Z,Z]
end
def ZeD (a v:Value):argsOk "sorted" #[[a],[(Str.ofString "key",v)]]:=by unfold argsOk;kernel_rfl
def Zds (a v:Value):argsOk "list.sort" #[[a],[(Str.ofString "key",v)]]:=by unfold argsOk;kernel_rfl
section
def Zhg (k:s.heap.get? a=U (seqObj "list" ↑its n))(q:jQ (model prog w) A.in1.in1 g its kf s)(d:⇑its<=sizeLine)
  (h:∀(s':AE)(r:AD)(us:AC)(e:Nat),s.heap.get? r=O->Kp s.heap s'.heap->s'.gens=s.gens->s'.os=s.os->s'.heap.get? r=U (seqObj "list" ↑us e)->us.Perm its->us.Pairwise (λx y=>uN (kf y) (kf x)=J)->Q (.ref r) s'):
  wpAny (model prog w) A (call (.builtin "sorted") [.ref a] [(Str.ofString "key",.ref g)]) Q E s:=by
 calc call_function_entry_kw kind_sorted plain_sorted entry_sorted (ZeD _ _) ?_;unfold Builtin.«sorted»;calc qd (m:=checkCount "sorted" 1 1 _) (qv ?_);calc qd (collect_list (PySem.IsL.isList k) ?_ d);let u:=uG (s.heap.push (seqObj "list" ↑[] 0)) ↥s (Obj.mapSeq (·++↑its));let f:Kp s.heap ((s.heap.push (seqObj "list" ↑[] 0)).update ↥s (Obj.mapSeq (·++↑its))):=λb o e=>(u.2 b (rK (qQ e))).trans (qU _ e);generalize ((s.heap.push (seqObj "list" ↑[] 0)).update ↥s (Obj.mapSeq (·++↑its)))=g1 at f ⊢;let i:s.heap.get? g1.objs.size=O:=by
  cases z:s.heap.get? g1.objs.size with
  | none=>rfl
  | some o=>exact NR (qQ (f _ _ z)) (tJ _)
 calc qd (wpAny_newList ?_ d);let c:(g1.push (seqObj "list" ↑its 0)).get? g1.objs.size=U (seqObj "list" ↑its 0):=rS _ Z;calc qd (uI (wpAny_call_entry_kw slot_list_sort #[_,c,Z] entry_list_sort (ZiM (s0:=s) q (λb o e=>qU _ (f b o e)) Z Z i c d λs' us e v j l p B t=>#[_,Z,?_]) (Zds _ _)));calc qv #[_,Z,h s' _ us e i v j l p B t]
end
def iM (a b:p9):Prop:=⇑a<⇑b\/(⇑a=⇑b/\a<b)
theorem Kg:∀ {a b:p9} {x y:p9},⇑a=⇑b->a<b->a++x<b++y
 | [],[],_,_,_,h=>by cases h
 | [],_::_,_,_,e,_=>by simp at e
 | _::_,[],_,_,e,_=>by simp at e
 | c::a,d::b,x,y,e,h=>by
  rw[yw,yw];cases h with
  | rel h=>exact List.Lex.rel h
  | cons h=>calc List.Lex.cons (Kg (~~~e) h)
theorem Kk:∀(a:p9) {c d:Nat},c<d->a++[c]<a++[d]
 | [],_,_,h=>List.Lex.rel h
 | _::a,_,_,h=>List.Lex.cons (Kk a h)
theorem Hb:∀(a b:p9),a<b\/a=b\/b<a
 | [],[]=>.inr (.inl Z)
 | [],_::_=>.inl .nil
 | _::_,[]=>.inr (.inr .nil)
 | c::a,d::b=>by
  rcases Nat.lt_trichotomy c d with h | h | h
  .exact .inl (List.Lex.rel h)
  .subst h;rcases Hb a b with h | h | h
   .exact .inl (List.Lex.cons h)
   .exact .inr (.inl (by rw[h]))
   .exact .inr (.inr (List.Lex.cons h))
  .exact .inr (.inr (List.Lex.rel h))
def Zf2 (l:p9)(n:Nat):(iu l n).Pairwise (· < ·):=by
 let d:(iu l n).Pairwise (λa b=>vh a b=Y):=ED _;let e:(iu l n).Nodup:=(vP _).nodup_iff.mpr (by rw[<-EY];calc Dx _);calc(d.and e).imp ?_;rintro a b ⟨x,y⟩;let c:¬b<a:=by simpa [vh] using x
 rcases Hb a b with z | z | z
 .exact z
 .exact NR z y
 .exact NR z c
def wx (B:m.Pairwise (· < ·)):(qE l m).Pairwise iM:=by
 unfold qE yy;let e:∀k w,k<=⇑l->w∈xx (iu l k) (iu l (k+1)) m->⇑w=k+1:=λk w o v=>by let#[h,c,t,_,Z,_]:=HD.mp v;rw[xN ∅]at t;rw[qP,t.1];rfl
 rw[List.pairwise_flatMap];refine#[λk o=>?_,?_]
 .let o:=sT.mp o;unfold xx;rw[List.pairwise_flatMap];refine#[λh D=>?_,?_]
  .unfold xP;rw[wf];exact(B.filter _).imp λ{c d} n=>.inr #[{},Kk h n]
  .refine List.Pairwise.imp_of_mem ?_ (Zf2 l k);intro a b A z p x f y g;let r:=((xN (l:=l) ∅).mp A).1;let q:=((xN (l:=l) ∅).mp z).1;unfold xP at f g;let#[c,_,Z]:=rj.mp f;let#[d,_,Z]:=rj.mp g;exact .inr #[by simp[r,q],Kg (by rw[r,q]) p]
 .refine List.Pairwise.imp_of_mem ?_ List.pairwise_lt_range;intro i j u s C x f y g;let u:=sT.mp u;let s:=sT.mp s;calc .inl (by rw[e i x ∅ f,e j y ∅ g];lia)
def CW:¬iM a a:=λh=>h.elim (λh=>tJ _ h) λh=>List.lt_irrefl _ h.2
def Kq (c:m.Pairwise (· < ·)):(qE l m).Nodup:=by unfold List.Nodup;calc(wx c).imp λ{a b} h e=>by subst e;calc CW h
theorem F9 {α:Type}[DecidableEq α]:∀(l m:List α),l.Nodup->(∀x∈l,x∈m)->⇑l<=⇑m
 | [],m,_,_=>rM _
 | x::l,m,nd,h=>by
  let hx:=h x sA;let a:=uX.mp nd;have:=F9 l (m.erase x) a.2 λy b=>(List.mem_erase_of_ne (λe=>by rw[e]at b;calc a.1 b)).mpr (h y (si _ b));rw[List.length_erase_of_mem hx]at this;let c:0<⇑m:=List.length_pos_of_mem hx;rw[rF]
  lia
def Zja (c:sP l u i)(d:sP l v j)(e:i+⇑u=j+⇑v)(h:⇑v<=⇑u):v=u.drop (⇑u-⇑v):=by
 let#[g,b]:=c;let#[k,a]:=d;let f:j=i+(⇑u-⇑v):=by lia
 rw[<-b,rL,tG,xG ∅,List.drop_take,wG,<-f];rw[show ⇑u-(⇑u-⇑v)=⇑v by lia];calc a.symm
def Zme (h:qI u l)(k:Nat):qI (u.drop k) l:=by
 let#[i,c,a]:=h;by_cases b:k<=⇑u
 .refine#[i+k,by rw[tG];lia,?_];rw[tG];have:(l.drop (i+k)).take (⇑u-k)=((l.drop i).take ⇑u).drop k:=by rw[List.drop_take,wG]
  rw[this,a]
 .rw[xJ ∅];calc qI.nil l
def LS (h:w.getLast?=U c):w=w.dropLast++[c]:=by
 let a:w≠[]:=λe=>by rw[e]at h;cases h
 rw[BK a]at h;let b:=DP a;rw[Option.some.inj h]at b;calc b.symm
def HU (a:jS l w)(b:jS l v)(o:w.getLast?=U c)(h:v.getLast?=U c)(k:sP l w.dropLast i)(p:sP l v.dropLast j)(e:i+⇑w.dropLast=j+⇑v.dropLast)(r:⇑v<=⇑w):v=w:=by
 let g:=LS o;let m:=LS h;let y:⇑w.dropLast=⇑w-1:=vF;let t:⇑v.dropLast=⇑v-1:=vF;let u:1<=⇑w:=wC.mpr a.ne;let x:1<=⇑v:=wC.mpr b.ne;let s:=Zja k p e ∅;rw[show ⇑w.dropLast-⇑v.dropLast=⇑w-⇑v by lia]at s;let q:(w.dropLast++[c]).drop (⇑w-⇑v)=w.dropLast.drop (⇑w-⇑v)++[c]:=zy ∅;let d:v=w.drop (⇑w-⇑v):=by let f:v.dropLast++[c]=w.dropLast.drop (⇑w-⇑v)++[c]:=NQ (·++[c]) s;rw[<-q,<-g,<-m]at f;exact f
 by_cases n:⇑v=⇑w
 .rw[d,n,yd];rfl
 .exfalso;apply b.no;have:v=w.tail.drop (⇑w-⇑v-1):=by rw[<-List.drop_one,wG,show 1+(⇑w-⇑v-1)=⇑w-⇑v by lia];exact d
  rw[this];calc Zme a.tail _
noncomputable def jN (l w:p9):Nat:=((List.range (⇑l+1)).find? λe=>(List.range (⇑l+1)).any λi=>R (i+⇑w.dropLast=e)&&R (i+⇑w.dropLast<=⇑l)&&R ((l.drop i).take ⇑w.dropLast=w.dropLast)).getD 0
def FY (h:qI w.dropLast l):∃i,sP l w.dropLast i/\jN l w=i+⇑w.dropLast:=by
 unfold jN;cases f:(List.range (⇑l+1)).find? λe=>(List.range (⇑l+1)).any λi=>R (i+⇑w.dropLast=e)&&R (i+⇑w.dropLast<=⇑l)&&R ((l.drop i).take ⇑w.dropLast=w.dropLast) with
 | none=>
  let#[i,b,c]:=h;have:=List.find?_eq_none.mp f (i+⇑w.dropLast) (sT.mpr ∅);exfalso;apply this;rw[vQ];exact#[i,sT.mpr ∅,by rw[NM Z,NM b,NM c];rfl]
 | some e=>
  have:=List.find?_some f;rw[vQ]at this;let#[i,_,a]:=this;simp only[rB,NL]at a;calc#[i,#[a.1.2,a.2],a.1.1.symm]
theorem Do {α β:Type}{f:α->β}:∀ {l:List α},l.Nodup->(∀x∈l,∀y∈l,f x=f y->x=y)->(l.map f).Nodup
 | [],_,_=>by simp
 | x::l,nd,h=>by let nd':=uX.mp nd;rw[rC,uX];calc#[λz=>?_,Do nd'.2 λa g b d=>h a (si _ g) b (si _ d)];let#[y,c,e]:=rj.mp z;have:=h y (si _ c) x sA e;rw[this]at c;calc nd'.1 c
def Mq (v:m.Pairwise (· < ·)):⇑(qE l m)<=⇑m*(⇑l+1):=by
 let u:=Kq (l:=l) v;let g:∀x∈qE l m,∀y∈qE l m,(x.getLast?,jN l x)=(y.getLast?,jN l y)->x=y:=by
  intro x t y D e;let#[n,c,s,o]:=tP.mp t;let#[k,d,M,G]:=tP.mp D;let F:x.getLast?=y.getLast?:=NQ Prod.fst e;let L:jN l x=jN l y:=NQ Prod.snd e;let#[i,b,E]:=FY n.init;let#[j,r,H]:=FY k.init;let a:y.getLast?=U c:=by rw[<-F];exact o
  rcases Nat.le_total ⇑y ⇑x with h | h
  .exact(HU n k o a b r ∅ h).symm
  .exact HU k n a o r b ∅ h
 let q:=Do (f:=λw:p9=>(w.getLast?,jN l w)) u g;let h:=F9 _ (m.flatMap λc=>(List.range (⇑l+1)).map λe=>(U c,e)) q λp z=>by let#[w,A,Z]:=rj.mp z;let#[C,c,s,B]:=tP.mp A;let#[i,b,E]:=FY C.init;rw[Dj];refine#[c,s,rj.mpr #[jN l w,sT.mpr (by have:=b.1;lia),by rw[B]]]
 rw[qm]at h;let e:⇑(m.flatMap λc=>(List.range (⇑l+1)).map λe=>(U c,e))=⇑m*(⇑l+1):=by
  rw[List.length_flatMap];have:(m.map λc=>⇑((List.range (⇑l+1)).map λe=>(U c,e)))=List.replicate ⇑m (⇑l+1):=by apply vO {};intro i I K;simp
  rw[this,List.sum_replicate_nat]
 rw[e]at h;calc h
end L2
namespace L2
open PySem PySem.Spec PyProof.Rows PySem.W
def ub:HO->Bool
 | .tbl _=>Y
 | _=>J
def iD (H a:Hp):Prop:=∀b o,H b=U o->ub o=J->a b=U o
def iD.refl (H:Hp):iD H H:=λ_ _ e _=>e
def iD.trans (a:iD H H1)(b:iD H1 H2):iD H H2:=λc o e n=>b c o (a c o e n) n
def g7.l (s:g7 H H'):iD H H':=λb o e _=>s b o e
def xT (c:AD)(q:Str):HO:=.ext λh=>h.CodeRec (.ref c) q
def Zml (x:h.CodeRec (.ref c) q):iA P w H h c (xT c q):=by let#[f,o,b,t,e,a,r]:=id x;cases e;calc#[x,#[o,a],λg i d k=>?_];let#[f,o,b,t,e,a,r]:=d;cases e;calc#[c,o,b,t,Z,k _ a,r]
def iO (H:Hp)(P:AD)(a:Pos)(q:Str):Prop:=∃b,H P=U (.tbl b)/\TriplesOk b.toList/\(codeAmong a b.toList=O\/∃c,codeAmong a b.toList=U (.ref c)/\H c=U (xT c q))
def iO.same (t:iO H P pos q)(s:g7 H H'):iO H' P pos q:=by let#[f,e,b,h]:=t;calc#[f,s _ _ e,b,h.imp id λ⟨c,a,d⟩=>#[c,a,s _ _ d]]
def pZ (h:H P=U (.tbl ↑[])):iO H P pos q:=#[↑[],h,trivial,.inl Z]
def ZeB {e d:Pos}{c:Value}(f:d.line≠e.line\/d.col≠e.col)(l:AC)(h:TriplesOk l):codeAmong d (l++[rawInt e.line,rawInt e.col,c])=codeAmong d l:=by
 fun_induction TriplesOk l with
 | case1=>
  simp only[xC,codeAmong,rawInt];rw[qe];intro z;simp only[rB,NS]at z;rcases f with n | n
  .exact n (by have:=z.1;lia)
  .exact n (by have:=z.2;lia)
 | case2 a t b u x iI g=>
  simp only[yw,codeAmong];rw[g h]
 | case3 l i j=>calc h.elim
def jY (b:Pos)(H c:Hp):Prop:=iD H c/\∀(d:AD)(a:Pos)(e:Str),(a.line≠b.line\/a.col≠b.col)->iO H d a e->iO c d a e
def jY.then (s:jY pos H H1)(t:g7 H1 H2):jY pos H H2:=#[s.1.trans t.l,λa b c n T=>(s.2 a b c n T).same t]
structure jB (base:Heap)(mg:AB)(c P:AD):Prop where
 hd:CodeHd base c P
 bm:base.BuiltinsAt mg P
section
def qb.table (I:qb X A1 σ H s)(g:H P=U (.tbl h))(f:Heap.ExtBut P s.heap h')(r:↥s<=c')(A:h'.CodeRec (.ref c') q)(t:h'.get? P=U (tabObj (h++more))):
  qb X A1 σ (upd (upd H P (.tbl (h++more))) c' (xT c' q)) { s with heap:=h',toks:=t' }:=by
 let w:H c'=O:=I.hok.fresh r;let m:P≠c':=qN g w;let a:∀ {b u},H b=U u->(∀h,u≠.tbl h)->b≠P:=λe n z=>by rw[z,g]at e;exact n _ (Option.some.inj e).symm
 let c:∀ {b u},H b=U u->b≠c':=λe=>qN e w;let y:∀ {b o},s.heap.get? b=U o->b≠c':=λe z=>NR (qQ e) (by rw[z];calc Nat.not_lt.mpr r);let l:∀ {b},H b=O->b≠P:=λe z=>by rw[z,g]at e;cases e
 refine I.call' (s':={ s with heap:=h',toks:=t' }) (ch:=[]) Z #[λb o e n _ _=>f b o (l n) e,λb o e n _ _=>#[o.slots,f b o (l n) e],λb o e n _=>?_,λb o e _=>?_,λb x e=>?_,λb o u e=>?_,λb B e=>?_] (λb u e=>?_) I.bare (λb z=>by cases z)
 .rw[qh (y e),qh (l n)];exact n
 .by_cases z:b=P
  .exact#[_,by rw[z];calc t]
  .exact#[o,f b o z e]
 .rw[qh (c e),qh (a e λ_ z=>by cases z)];exact e
 .rw[qh (c e),qh (a e λ_ z=>by cases z)];exact e
 .by_cases z:b=P
  .subst z;rw[g]at e;cases e;exact#[more,by rw[qh m,qu]]
  .exact#[↑[],by rw[qh (c e),qh z,e];simp]
 .by_cases p:b=c'
  .subst p;rw[qu]at e;cases e;exact Zml A
  .rw[qh p]at e;by_cases i:b=P
   .subst i;rw[qu]at e;cases e;exact t
   .rw[qh i]at e;refine(I.hok b u e).stay (λd v j k=>?_) (λd k=>?_) λd x k=>?_
    .refine f d v ?_ k;rcases j with rfl | j
     .exact i
     .exact a j λ_ z=>by cases z
    .rw[qh (c k),qh (a k λ_ z=>by cases z)];exact k
    .rw[qh (c k),qh (a k λ_ z=>by cases z)];calc k
def Zko (I:qb X A1 σ H s)(L:jB X.base X.mg c P)(f:X.env.code=.ref c)(w:closureFor scope X.env=pure clos)(v:defaultsOf params X.env=([],[]))
  (hq:X.env.qual++"<lambda>"=q) (T:iO H P pos q)
  (h:∀(p:Hp)(h':Heap)(tk:Nat)(c':AD)(g:Value),jY pos H p->iO p P pos q->(∀b,p b=O->H b=O)->qb X A1 σ p { s with heap:=h',toks:=tk }->h'.CodeRec (.ref c') q->p c'=U (xT c' q)->Q (.ref h'.objs.size) { s with heap:=h'.push (kla_obj "<lambda>" q params body scope clos ((X.mg "__name__").getD .none) c' g),toks:=tk }):
  wpAny (model X.prog X.w) X.A (eval (.Lambda params body scope pos) X.env) Q E s:=by
 let#[m,j,l,hc]:=T;let M:s.heap.get? P=U (tabObj m):=I.hok P _ j;let C:CodeHd s.heap c P:=L.hd.keeps I.bk;let K:s.heap.Ns mainGlobals X.mg:=I.mod.glob.keeps I.bk;let V:mainGlobals≠P:=λz=>by let#[o,es,ep,e,hd,_]:=K;rw[z,M]at e;cases e;cases hd
 let u:s.heap.BuiltinsAt X.mg P:=let ⟨bm,o,a1,a2,a3,a4,a5,r⟩:=L.bm;#[bm,o,a1,a2,a3,a4,I.bk _ _ a5,r];calc kla_eval v ?_;rw[hq];rcases hc with hn | ⟨c',hf,k⟩
 .refine kla_makeFunction w I.ok.glob K f C M l hn V u λc' g h' tk hx A BB a y=>?_;let x:H c'=O:=I.hok.fresh A;let J_:=I.table (t':=tk) j hx A a y;let t:P≠c':=qN j x;let B:(m++↑[rawInt pos.line,rawInt pos.col,Value.ref c']).toList=m.toList++[rawInt pos.line,rawInt pos.col,.ref c']:=by simp
  refine h _ _ _ c' g #[λb o e n=>?_,λP' aa q' F T'=>?_] #[_,by rw[qh t,qu],by rw[B];calc TriplesOk_snoc _ _ _ _ l,.inr #[c',by rw[B];calc codeAmong_snoc _ l hn,qu]] (λb e=>?_) J_ a qu
  .rw[qh (qN e x),qh (λz=>by rw[z,j]at e;cases e;cases n)];exact e
  .obtain⟨N,D,t1,h1⟩:=T';let i:∀d,H d=U (xT d q')->upd (upd H P (.tbl (m++↑[rawInt pos.line,rawInt pos.col,Value.ref c']))) c' (xT c' q) d=U (xT d q'):=λd e=>by rw[qh (qN e x),qh (λz=>by rw[z,j]at e;cases e)];exact e
   by_cases z:P'=P
   .subst z;rw[j]at D;cases D;calc#[_,by rw[qh t,qu],by rw[B];calc TriplesOk_snoc _ _ _ _ l,?_];rw[B,ZeB F _ l];exact h1.imp id λ⟨d,G,S⟩=>#[d,G,i d S]
   .exact#[N,by rw[qh (qN D x),qh z];calc D,t1,h1.imp id λ⟨d,G,S⟩=>#[d,G,i d S]]
  .by_cases z1:b=c'
   .rw[z1];exact x
   .rw[qh z1]at e;by_cases z2:b=P
    .rw[z2,qu]at e;cases e
    .rw[qh z2]at e;exact e
 .refine kla_makeFunctionHit w I.ok.glob K f C M l hf u λg h' tk W ab=>?_;let a:s.heap.CodeRec (.ref c') q:=(I.hok c' _ k).1;calc h H _ _ c' g #[iD.refl _,λ_ _ _ _ T=>T] #[m,j,l,.inr #[c',hf,k]] (λb e=>e) (I.kept (t':=tk) W) (a.keeps W) k
def Zkp (I:qb X A1 σ H s)(L:jB X.base X.mg c P)(d:X.env.code=.ref c)(k:closureFor scope X.env=pure [])(i:defaultsOf params X.env=([],[]))
  (w:X.env.qual++"<lambda>"=q) (T:iO H P pos q)
  (h:∀(g:AD)(f:Hp)(s1:AE)(l a p:Value),jY pos H f->iO f P pos q->(∀b,f b=O->H b=O)->qb X A1 σ f s1->s1.heap.get? g=U { cls:=.type "function",data:=.func (kla_fn "<lambda>" q params body scope [] p l a) }->s1.heap.CodeRec l q->Q (.ref g) s1):
  wpAny (model X.prog X.w) X.A (eval (.Lambda params body scope pos) X.env) Q E s:=
 Zko I L d k i w T λf x n t a r m v u j _=>h _ f _ (.ref t) a _ r m v (u.kept (t':=n) λb o e=>qU _ e) (rS _ Z) (j.push _)
end
def Zjj:bootBuiltins "sorted"=U (.builtin "sorted"):=rfl
noncomputable def u8:Value->p9
 | .str x _=>x.cps.toList
 | _=>[]
theorem Lx:∀ {ws:qi} {us:AC},hJ (ws.map tx) us->ws=us.map u8/\(∀v∈us,∃y t,v=.str y t/\⇑y=⇑(u8 v))
 | [],_,.nil=>#[Z,λv hv=>by cases hv]
 | w::ws,_,.cons ⟨t,e⟩ r=>by
  let#[h1,h2]:=Lx (ws:=ws) r;subst e;calc#[by rw[rC,<-h1];simp[u8],λv hv=>?_];rcases qS.mp hv with rfl | hv
  .exact#[_,t,Z,by simp[u8,Str.length]]
  .exact h2 v hv
theorem HP:∀(us:AC),(∀v∈us,∃y t,v=.str y t)->hJ ((us.map u8).map tx) us
 | [],_=>.nil
 | v::us,h=>by let#[y,t,Z]:=h v sA;calc .cons #[t,by simp[u8]] (HP us λu a=>h u (si _ a))
def ND (P:AD)(lpos:Pos)(q:Str)(g:TA):TE:=λσ H Q=>g σ H λf e=>∃(a:AD)(ws:qi),f=[.ref a]/\e a=U (.lst (ws.map tx))/\(∀w∈ws,⇑w<=sizeLine)/\iO e P lpos q /\
 ∀(c:qi)(r:AD)(d:Hp),c.Perm ws->c.Pairwise (λa b=>¬iM b a)->jY lpos e d->iO d P lpos q->e r=O->d r=U (.lst (c.map tx))->Q (.ref r) d
def Zn7:uN ((⇑b:Nat),b) ((⇑a:Nat),a)=J↔¬iM b a:=by
 rw[yI,Ne,Fy];unfold iM;dsimp only;let c:((⇑b:Int)<(⇑a:Int))↔⇑b<⇑a:=by lia
 let d:((⇑b:Int)=(⇑a:Int))↔⇑b=⇑a:=by lia
 rw[c,d]
section
def ZlF (hr:iJ k X.A)(L:jB X.base X.mg c P)(d:X.env.code=.ref c)(hg:Gl X "sorted")(hm:X.mg "sorted"=O)(A3:X.mg "len"=O)(ha:PA X [e] ta)(ac:closureFor scope X.env=pure [])(C:defaultsOf params X.env=([],[]))(hq:X.env.qual++"<lambda>"=q)
  (S:me scope x) (hb:∀(s:AE)(u pm cv i:Value),BindsTo s (kla_fn "<lambda>" q params (Cw x p1 p2 p3 p4 p5 kk) scope [] pm cv i) #[[u],[]] [(x,u)])
  (he:autoParam (backTo pos (starEach [e] X.env)=(J,eval e X.env)::backTo pos (starEach [] X.env)) Qq._auto_1) (F:autoParam ((backTo pos (starEach [e] X.env)).any (·.1)=J) Qq._auto_1):
  PE X (.Call (.Name "sorted" p) [e] [#[U "key",.Lambda params (Cw x p1 p2 p3 p4 p5 kk) scope lpos,kpos]] pos) (ND P lpos q ta):=by
 intro A1 s σ H Q I h;calc yj (BC I hg hm Zjj ?_);calc PyProof.Rows.callWith_kw (qx (ha pos A1 s σ H _ I h) λus s1 zz=>?_) he F;let#[vs,H1,I1,r1,q1]:=zz;let#[a,ws,Z,hH,hw,T,q]:=q1;show wpAny _ _ (evalAll ((do let v <-eval (.Lambda params (Cw x p1 p2 p3 p4 p5 kk) scope lpos) X.env;standAt pos;pure v)::[])) _ _ s1;calc wpAny_evalAll_cons (qd (Zkp I1 L d ac C hq T λg H2 s2 cv i pm sl T2 fr b ho aa=>qd (wpAny_standAt (qv (wpAny_evalAll_nil ?_)))));let#[u,Z,ru]:=r1.one;cases ru;let ab:=sl.1 _ _ hH Z;let#[E,j,n,r,M,eo]:=b.lstM ab;let#[ew,hs]:=Lx r;let hN:⇑j<=sizeLine:=by rw[<-⇑r];exact E
 let#[mb,b1,b2]:=b.mod.blt;let G:=Zn9 (prog:=X.prog) (w:=X.w) (A:=X.A.in1.in1) (vs:=j) ho Z aa S (λs u=>hb s u pm cv i) (show X.A.depth<recursionLimit by have:=hr.dp;lia) (b.mod.nolimit.keeps b.bk) (b.mod.glob.keeps b.bk) A3 (b1.keeps b.bk) (b2 _ ⋯) (λv m=>by let#[y,t,e1,e2]:=hs v m;calc#[y,t,e1,by rw[e2];calc hw _ (by rw[ew];calc yx m)])
 calc Zhg eo G hN λs' D us e N kp g1 o1 er l pw=>?_;let f:∀v∈us,∃y t,v=.str y t/\⇑y=⇑(u8 v):=λv m=>hs v (l.mem_iff.mp m);let rv:hJ ((us.map u8).map tx) us:=HP us λv m=>let ⟨y,t,e,_⟩:=f v m;#[y,t,e];let ae:⇑us=⇑j:=l.length_eq;let ad:H1 D=O:=fr _ (b.hok.none_of N);let J_:=b.laid2 (s':=s') (a:=D) (o:=.lst ((us.map u8).map tx)) o1 g1 kp N #[by rw[qm,qm];lia,us,e,rv,er];let B:=b.hok.none_of N;calc#[.ref D,_,J_,Z,q (us.map u8) D _ (by rw[ew];calc l.map _) ?_ (sl.then (rm B)) (T2.same (rm B)) ad qu];rw[wf];calc pw.imp_of_mem λ{y z} hy E e=>?_;rw[<-Zn7];let#[V,K,e1,e2]:=f y hy;let#[W,t2,e3,e4]:=f z E;subst e1 e3;let f1:Ho (.str V K)=(((⇑(u8 (.str V K)):Nat):Int),u8 (.str V K)):=by rw[<-e2];rfl
 let f2:Ho (.str W t2)=(((⇑(u8 (.str W t2)):Nat):Int),u8 (.str W t2)):=by rw[<-e4];rfl
 rw[f1,f2]at e;calc e
end
def Jp (o:Obj):Bool:=match o.cls,o.data with
 | .none,.fields _=>Y
 | _,_=>J
def Em (K:Frag):Bool:=K.all λp=>!Jp p.2
def Zgr {K:Frag}(h:Em K=Y){b:AD}{o:Obj}(e:K.lookup b=U o):Jp o=J:=by
 unfold Em at h;rw[ur]at h;have:∀(l:AA),l.lookup b=U o->(b,o)∈l:=λl=>by
  induction l with
  | nil=>intro e;cases e
  | cons q r c=>
   intro e;let#[a,f]:=q;rw[vR]at e;by_cases z:b=a
   .subst z;simp at e;subst e;exact sA
   .let d:(b == a)=J:=by simpa using z
    rw[d]at e;exact si _ (c e)
 have:=h _ (this K e);simpa using this
structure kn (mg:AB)(h:Heap)(n:Str)(c P:AD):Prop where
 fn:∃a o fd,mg n=U (.ref a)/\h.get? a=U o/\o.data=.func fd/\fd.code=.ref c
 code:h.IsCode c P ↑[]
 tab:h.TableAt c P ↑[]
def kn.codeEq (t:kn mg h n c P)(f:mg n=U (.ref a))(e2:h.get? a=U o)(i:o.data=.func fd):fd.code=.ref c:=by let#[k,l,j,b,e,d,g]:=t.fn;rw[f]at b;cases b;rw[e2]at e;cases e;rw[i]at d;cases d;calc g
def Zkn {P:AG}{w:AI}{K:qj}{t mb:AB}{CX:v0}{k:Nat}{fa a:AD}{fd:AF}{x:Str}{sp:Sp}{s_1:AE}{vs:AC}{ns:List Int}{i:AJ}{tb:Str->AD×AD}
  (KX:K.In s_1.heap) (L:s_1.heap.Ns mainGlobals t) (f:s_1.heap.Ns builtinsNs mb) (ak:∀x:Str,x≠"__name__"->mb x=bootBuiltins x) (X:s_1.heap.NoLimit) (hg:s_1.gens=↑[])
  (S:s_1.heap.get? a=U { cls:=.type "list",data:=.seq ↑vs }) (hi:IntsAre vs ns) (hl:⇑ns<=sizeLine) (hr:iJ k callerA)
  (hT:∀n∈i,kn t s_1.heap n (tb n).1 (tb n).2) (aj:Em K=Y) (ag:∃bm ob,t "__builtins__"=U (.ref bm)/\bm≠builtinsNs/\s_1.heap.get? bm=U ob/\ob.cls=.type "module"/\ob.dict=U builtinsNs/\ob.data=.plain)
  (F:∀l:Heap,K.In l->l.Ns mainGlobals t->(∀n∈i,jB l t (tb n).1 (tb n).2)->g9 P w K t l CX k fa fd [x] sp) (N:∀(s:AE)(u:Value),BindsTo s fd #[[u],[]] [(x,u)])
  (ai:∀H:Hp,(∀n∈i,H (tb n).2=U (.tbl ↑[]))->rl K H a (ns.map V.int)->sp [.ref a] H (λv _=>v=.bl Y) λ_ _ _=>False)
  (ah:∀H e s',CX [] H s_1 (λ_ _ _=>False) e s'->False):
  codeAny (model P w) callerA (.call (.ref fa) #[[.ref a],[]]) (λr s'=>r=.ok (.ret (.bool Y))/\OldK s_1.heap s'.heap/\s'.os=s_1.os/\AllBare s'.gens) s_1:=by
 let rv:=LY hi;let ab:=⇑hi;let j:∀n∈i,s_1.heap.get? (tb n).2=U (tabObj ↑[]):=λn g=>(hT n g).tab.2;let aP:∀n∈i,(tb n).2≠a:=λn g z=>by let e:=j n g;rw[z,S]at e;have:=NQ Obj.cls (Option.some.inj e);exact NR (show Value.type "list"=Value.none from this) {}
 refine let isP:AD->Prop:=λb=>∃n∈i,(tb n).2=b;?_
 let A:∀H:Hp,rl K H a (ns.map V.int)->rQ P w H s_1.heap->(∀b,H b≠O->(b=a/\∃o xs,H b=U (.frz o (.lst xs)))\/(isP b/\H b=U (.tbl ↑[])))->(∀b,isP b->H b=U (.tbl ↑[]))->(H a≠O->K.lookup a=O) ->
   codeAny (model P w) callerA (.call (.ref fa) #[[.ref a],[]]) (λr s'=>r=.ok (.ret (.bool Y))/\OldK s_1.heap s'.heap/\s'.os=s_1.os/\AllBare s'.gens) s_1:=by
  intro H hS Q hA ae hK;let c:∀ {b:AD} {o:Obj},s_1.heap.get? b=U o->H b=O->(jV s_1.heap H).get? b=U o:=λe n=>Zl6 e n;let aa:∀ {b:AD} {o:Obj},s_1.heap.get? b=U o->o≠tabObj ↑[]->o.cls≠.type "list"->H b=O:=λ{b o} e n1 n2=>by
   cases q:H b with
   | none=>rfl
   | some u=>
    rcases hA b (by rw[q];simp) with⟨p,_⟩|⟨⟨n,g,p⟩,_⟩
    .subst p;rw[S]at e;cases e;exact NR Z n2
    .subst p;rw[j n g]at e;cases e;exact NR Z n1
  let ad:∀ {b:AD} {o:Obj} {es:Array DictEntry} {ep:Nat},s_1.heap.get? b=U o->o.data=.dict es ep->H b=O:=λ{b o es ep} e d=>by
   cases q:H b with
   | none=>rfl
   | some u=>
    rcases hA b (by rw[q];simp) with⟨p,_⟩|⟨⟨n,g,p⟩,_⟩
    .subst p;rw[S]at e;cases e;let d':Data.seq ↑vs _=Data.dict es ep:=d;cases d'
    .subst p;rw[j n g]at e;cases e;cases d
  let y:∀ {b:AD} {m:AB},s_1.heap.Ns b m->(jV s_1.heap H).Ns b m:=λ{b m} ⟨o,es,ep,e,d,r⟩=>#[o,es,ep,c e (ad e d),d,r];let W:K.In (jV s_1.heap H):=λb o e=>c (KX b o e) (by
   cases q:H b with
   | none=>rfl
   | some u=>
    rcases hA b (by rw[q];simp) with⟨p,_⟩|⟨⟨n,g,p⟩,_⟩
    .subst p;rw[hK (by rw[q];simp)]at e;cases e
    .subst p;let E:=KX _ _ e;rw[j n g]at E;let T:=Zgr aj e;rw[<-Option.some.inj E]at T;cases T)
  let hM:Mod K t (jV s_1.heap H):=#[W,y L,#[mb,y f,ak],let ⟨mc,h1,h2⟩:=X;#[mc,y h1,h2]];let e0:kN P w K t (jV s_1.heap H) callerA [] s_1 H:=#[Z,hM,λb o e=>Zn4 e,vK (ZkJ _ _),trivial,λb f=>NR (show b∈([]:List AD) from f) {},Q,.of_eq hg];let hL:∀n∈i,jB (jV s_1.heap H) t (tb n).1 (tb n).2:=λn g=>by
   let#[bm,ob,b1,b2,b3,b4,b5,b6]:=ag;let#[oc,vc,ac,tf,M,tg,af,text,tt,c1,c2,c3,r]:=CodeHd.of (hT n g).code (hT n g).tab;refine#[#[oc,vc,ac,tf,M,tg,af,text,tt,c c1 (aa c1 (λz=>by rw[z]at c2;cases c2) (λz=>by rw[c2]at z;calc NR z ⋯)),c2,c3,r],bm,ob,b1,b2,λz=>?_,λz=>?_,c b3 (aa b3 (λz=>by rw[z]at b4;cases b4) (λz=>by rw[b4]at z;calc NR z ⋯)),b4,b5,b6]
   .obtain⟨o,es,ep,e,d,_⟩:=L;rw[<-z,b3]at e;cases e;rw[b6]at d;cases d
   .rw[z,j n g]at b3;cases b3;cases b4
  calc codeAny_mono ((F _ W (y L) hL).run callerA [] s_1 H #[[.ref a],[]] [.ref a] [.ref a] _ _ hr e0 (N s_1 (.ref a)) (.cons Z .nil) (ai H (λn g=>ae _ #[n,g,Z]) hS)) λr s' h=>?_;cases r with
  | error e=>exact(ah H e s' h).elim
  | ok fl=>
   cases fl with
   | next=>exact False.elim h
   | brk=>exact False.elim h
   | cont=>exact False.elim h
   | ret u=>
    let#[v,H',os,bare,un,C,r',q]:=h;let q':v=.bl Y:=q;subst q';obtain rfl:u=Value.bool Y:=r';calc#[Z,#[λb o e=>?_,λb o e=>un.there b o e {}],os,bare];cases q:H b with
    | none=>exact .inl (un.keep b o e q (by intro z;calc NR (show b∈([]:List AD) from z) {}) {})
    | some u=>
     rcases hA b (by rw[q];simp) with⟨_,ob,xs,z⟩|⟨⟨n,g,p⟩,z⟩
     .let I:=un.frzs b ob _ z;let#[E,_]:=Q b _ z;let#[T,_]:=C b _ I;rw[e]at E;cases E;exact .inl T
     .obtain⟨D,I⟩:=un.tbls b _ z;let E:s_1.heap.get? b=U (tabObj ↑[]):=Q b _ z;let T:s'.heap.get? b=U (tabObj (↑[]++D)):=C b _ I;rw[e]at E;cases E;exact .inr (.inl #[by rw[<-p];calc(hT n g).tab.isCodeTable,Z,↑[],D,Z,T])
 cases hk:K.lookup a with
 | some o=>
  let e:=KX a o hk;rw[S]at e;cases e
  haveI:DecidablePred isP:=λ_=>Classical.propDecidable _
  refine A (λb=>if isP b then U (.tbl ↑[]) else O) (.inr #[_,↑vs,_,hk,Z,Z,Z,by rw[rN,ab];calc hl,~~~rv]) (λb u z=>?_) (λb z=>?_) (λb f=>qg f) λz=>?_
  .by_cases f:isP b
   .let B:=(qg f).symm.trans z;cases B;let#[n,g,Z]:=f;exact j n g
   .let B:=(qe f).symm.trans z;cases B
  .by_cases f:isP b
   .exact .inr #[f,qg f]
   .exact NR (qe f) z
  .have:¬isP a:=λ⟨n,g,e⟩=>aP n g e;exact NR (qe this) z
 | none=>
  haveI:DecidablePred isP:=λ_=>Classical.propDecidable _
  refine A (λb=>if b=a then U (.frz { cls:=.type "list",data:=.seq ↑vs } (.lst (ns.map V.int))) else if isP b then U (.tbl ↑[]) else O) (.inl (.inr #[{ cls:=.type "list",data:=.seq ↑vs },qg Z])) (λb u z=>?_) (λb z=>?_) (λb f=>?_) λ_=>hk
  .by_cases f:b=a
   .let B:=(qg f).symm.trans z;cases B;subst f;exact#[S,by rw[qm];calc hl,vs,_,rv,S]
   .let B:=(qe f).symm.trans z;by_cases G:isP b
    .let I:=(qg G).symm.trans B;cases I;let#[n,g,Z]:=G;exact j n g
    .let I:=(qe G).symm.trans B;cases I
  .by_cases f:b=a
   .exact .inl #[f,_,_,qg f]
   .by_cases G:isP b
    .exact .inr #[G,by rw[qe f,qg G]]
    .exact NR (by rw[qe f,qe G]) z
  .let nb:b≠a:=by let#[n,g,Z]:=f;exact aP n g
   rw[qe nb,qg f]
def pW {l:PySem.W.OpenLaw}{n k:Nat}{q:AG}{j:AJ}{XP:(AB)->Heap->Prop}{YP:AI->Heap->Prop}{d:DefRec}{K:Params->qj}{CX:v0}{sp:qj->(Str->AD×AD)->Sp}{x:Str}(g:AJ)
  (hn:l.most=U n) (S:n<=sizeLine) (D:d.params.defaults=[]) (hr:iJ k callerA)
  (hY:∀(w:AI)(h:Heap),YP w h->(K w.params).In h) (N:∀P:Params,Em (K P)=Y) (t:(g.all λn=>(recsOf q).any λe=>e.name == n)=Y)
  (F:∀(w:AI)(i:AB)(B:AD)(h:Heap)(tb:Str->AD×AD),(K w.params).In h->h.Ns mainGlobals i->i d.name=U (.ref B)->(∀n∈g,kn i h n (tb n).1 (tb n).2) ->
   ∃E:AF,(∀(s:AE)(u:Value),BindsTo s E #[[u],[]] [(x,u)]) /\
    ∀b:Heap,(K w.params).In b->b.Ns mainGlobals i->(∀n∈g,jB b i (tb n).1 (tb n).2)->g9 l.prog w (K w.params) i b CX k B E [x] (sp (K w.params) tb))
  (M:∀(K:qj)(tb:Str->AD×AD)(H:Hp)(a:AD)(A:List Int),⇑A<=n->(∀n∈g,H (tb n).2=U (.tbl ↑[]))->rl K H a (A.map V.int)->sp K tb [.ref a] H (λv _=>v=.bl Y) λ_ _ _=>False)
  (L:∀(H:Hp)(s:AE)(e:Value)(s':AE),CX [] H s (λ_ _ _=>False) e s'->False):
  PySem.W.WalkO q j XP YP l.row.toRowW d [] (λf vs=>PySem.call f vs):=by
 calc Att.attach_call hn D λw ab y i mb B o pm cd aa a vs A G Y_ ho hd ac C p m T hg=>?_;let X:=hY w _ Y_;let ex:∀n:Str,∃W:AD×AD,n∈g->kn i y.heap n W.1 W.2:=λn=>by
  by_cases h:n∈g
  .rw[ur]at t;have:=t n h;rw[vQ]at this;let#[e,he,I]:=this;let I:e.name=n:=by simpa using I
   let#[a',o',Q,c,P,h1,h2,h3,h4,h5,h6]:=G.T.tab e he;exact#[(c,P),λ_=>#[#[a',o',Q,by rw[<-I];calc h1,h2,h3,h4],h5,h6]]
  .exact#[(0,0),λz=>NR z h]
 let#[tb,r]:=Classical.skolem.mp ex;let#[E,hb,hF]:=F w i B _ tb X G.T.g C r;calc Zkn X G.T.g G.T.b G.T.builtins G.T.nolimit hg p m (qJ T S) hr r (N _) G.T.bmain hF hb (λH hP hS=>M (K w.params) tb H a A T hP hS) λH e s'=>L H y e s'
section
variable {P:AG}{w:AI}{K:qj}{mg:AB}{base:Heap}
def uE.okC {x b:Str}{st:Stmt}{f:AD}{g:AF}{N e:AJ}{k:Nat}{sp:Sp}{c:Value}(F:uE K x b st f g)(o:g.code=c)(S:g6 N e (uc st))
  (d:∀(A:AH)(a:List Env)(s:AE)(H:Hp)(vs:NU)(Q:VK)(E:XK),iJ k (A.deeper (envOfC b (uc st) ↥s f c))->sp vs H Q E ->
   ∃t,uk (jj qK P w K mg base N b (uc st) f c A a s H E).nox (vC st) t/\t { nx:=λ_ H'=>Q .non H',rt:=Q } (start N vs) H)(i:autoParam (∀vs H Q E,sp vs H Q E->⇑vs=⇑e) Qv._auto_1):g9 P w K mg base qK (k+1) f g e sp:=by
 let#[#[B,v,kV,n,y,C,m,z,r,Z,l,p],_]:=F;obtain rfl:m=c:=o;calc Fv l p S i λA a s H vs Q E u j=>?_;let#[t,h,q]:=d A a s H vs Q E u j;calc#[t,h.nox,q]
def uE.at {x a:Str}{st:Stmt}{f:AD}{fd:AF}{h:Heap}(F:uE K x a st f fd)(b:K.In h):∃o,h.get? f=U o/\o.data=.func fd:=by let#[#[m,e,kV,c,g,n,i,j,d,Z,l,k],_]:=F;calc#[_,b _ _ l,Z]
end
section
end
end L2
namespace L2
open PySem PySem.Spec PyProof.Rows
def IV (f:AD)(sp:Sp)(b:NU)(E:XK)(e:TE)(t:TA):TE:=λσ H Q=>e σ H λv d=>v=.ref f/\t σ d λc a=>sp (c++b) a Q E
section
def yt (F:g9 X.prog X.w X.K X.mg X.base CX k f fd ps sp)(l:iJ k X.A)(A:PE X (.Name x p) tf)(D:keepIn X.K (.ref f)=Y)(o:iP X.K fd ps ds)(C:hJ BA ds)(i:vy CX X E)
  (w:PA X (e::es) t) (j:autoParam (starEach (e::es) X.env=(J,eval e X.env)::starEach es X.env) Qq._auto_1) (a:autoParam ((backTo pos (starEach es X.env)).any (·.1)=J) Qq._auto_1):
  PE X (.Call (.Name x p) (e::es) [] pos) (IV f sp BA E tf t):=by
 intro b s σ H Q I h;calc yj (qx (A b s σ H _ I h) λu z g=>?_);let#[v,y,d,n,B,m]:=g;subst B;obtain rfl:u=Value.ref f:=n;calc yZ (h₀:=X.base) d.ok.mod.kin D (qx (w pos b z σ y _ d m) λG M ⟨L,K,c,r,q⟩=>#[c.kIn,?_]) j a;calc CZ F l o C i c r q
end
end L2
namespace L2
open PySem PySem.Spec PyProof.Rows PySem.W
section
end
section
end
section
end
section
end
section
end
section
end
end L2
namespace L2
open PySem PySem.Spec PyProof.Rows
structure Lin {α:Type}(lt:α->α->Bool):Prop where
 asym:∀a b,lt a b=Y->lt b a=J
 trans:∀a b c,lt a b=Y->lt b c=Y->lt a c=Y
 tri:∀a b,lt a b=J->lt b a=J->a=b
section
end
section
end
section
end
noncomputable def wT (l w:p9):Nat:=((List.range (⇑l+1)).find? λi=>R (i+⇑w<=⇑l)&&R ((l.drop i).take ⇑w=w)).getD 0
def IT (h:sP l w i)(a:∀j,j<i->¬sP l w j):wT l w=i:=by
 unfold wT;have:((List.range (⇑l+1)).find? λi=>R (i+⇑w<=⇑l)&&R ((l.drop i).take ⇑w=w))=U i:=by
  rw[List.find?_range_eq_some];calc#[by rw[NM h.1,NM h.2];rfl,sT.mpr (by have:=h.1;lia),λj b=>?_];rw[Bool.not_eq_true',Bool.and_eq_false_iff,NP,NP];by_cases c:j+⇑w<=⇑l
  .exact .inr λz=>a j b #[c,z]
  .exact .inl c
 rw[this];rfl
def HZ (d:iM a b)(c:iM b a):False:=by
 rcases d with d | ⟨d,e⟩<;>rcases c with c | ⟨c,f⟩
 .lia
 .lia
 .lia
 .exact List.lt_asymm e f
theorem C3:∀ {a b:qi},a.Pairwise iM->b.Pairwise iM->(∀x,x∈a↔x∈b)->a=b
 | [],[],_,_,_=>rfl
 | [],y::b,_,_,h=>by have:=(h y).mpr sA;cases this
 | x::a,[],_,_,h=>by have:=(h x).mp sA;cases this
 | x::a,y::b,ha,hb,h=>by
  let g:=u9.mp ha;let f:=u9.mp hb;let e:x=y:=by
   rcases qS.mp ((h x).mp sA) with z | z
   .exact z
   .rcases qS.mp ((h y).mpr sA) with d | d
    .exact d.symm
    .exact(HZ (f.1 x z) (g.1 y d)).elim
  subst e;congr 1;calc C3 g.2 f.2 λz=>?_;constructor
  .intro c;rcases qS.mp ((h z).mp (si _ c)) with e | e
   .rw[e]at c;exact(CW (g.1 x c)).elim
   .exact e
  .intro c;rcases qS.mp ((h z).mpr (si _ c)) with e | e
   .rw[e]at c;exact(CW (f.1 x c)).elim
   .exact e
def tZ (e:qf x=qf y):x=y:=by unfold qf at e;injection e with e;injection e with e;injection e
section
end
section
end
open PySem.W (Frag)
section
end
noncomputable def hop (N:Nat):Nat->Nat->Nat
 | 0,i=>i
 | n+1,i=>hop N n ((i*5+1) % N)
section
end
section
end
section
end
section
end
section
end
section
end
end L2
namespace L2
open PySem PySem.Spec PyProof.Rows PySem.Builtin.Str
def tOr2 (a b:TE):TE:=λσ H Q=>a σ H Q\/b σ H Q
def zn (b:PE X e t1)(c:PE X e t2):PE X e (tOr2 t1 t2):=λa s σ H Q I h=>h.elim (b a s σ H Q I) (c a s σ H Q I)
section
end
end L2
namespace L2
open PySem PySem.Spec PyProof.Rows
def GM:mroOf (.type "dict")=pure [.type "dict",.type "object"]:=by rw[mroOf_type];kernel_rfl
def ZeN:typeLookup (.type "dict") "__new__"=pure (U (.builtin "dict.__new__")):=by rw[typeLookup_type,builtinLookup_eq_fast];kernel_rfl
def Zjh:TypeCalled "dict" "dict.__new__" "dict.__init__":=
 #[nofun,nofun,#[_,_,GM],madeBy_type GM ZeN nofun,nofun,by rw[isSubtype_type];kernel_rfl,F.slot_dict_init]
def Zf9 (a:Value):checkTypeCall "dict" #[[a],[]]=pure ():=by kernel_rfl
def Zhm (a:Value):checkBuiltinCall "dict.__new__" #[[.type "dict",a],[]]=pure ():=by kernel_rfl
def ZfP:entryFor table "dict.__new__"=U Builtin.«dict.__new__»:=entryFor_of_tree (by kernel_rfl)
def Js:plainId "dict.__new__"=Y:=by decide +kernel
def Ju:entryFor table "dict.update.loop"=U Builtin.«dict.update.loop»:=entryFor_of_tree (by kernel_rfl)
def DW:plainId "dict.update.loop"=Y:=by decide +kernel
def Zgb:isSubtype (.type "dict") (.type "dict")=pure Y:=by rw[isSubtype_type];kernel_rfl
def Zki:typeLookup (.type "list") "keys"=pure O:=by rw[typeLookup_type,builtinLookup_eq_fast];kernel_rfl
abbrev jR:Obj:={ cls:=.type "dict",data:=.dict ↑[] }
section
def Zot (a:Value){Q₁:rh}(h:Q₁ (.ref ↥s) { s with heap:=s.heap.push jR }):
  codeAny (model prog w) A (.call (.builtin "dict.__new__") #[[.type "dict",a],[]]) (wants Q₁ E) s:=by
 calc codeAny_of_tree ?_;show wpAny _ A.in1 (checkBuiltinCall "dict.__new__" #[[.type "dict",a],[]] >>= λ_=>again (.builtin "dict.__new__" #[[.type "dict",a],[]])) _ _ s;calc qd (wpAny_of_eq (Zhm a) (qv #[plainId_quiet Js _,codeAny_builtin ZfP ?_]));rw[xE Js _];unfold Builtin.«dict.__new__»;let b:=Zgb;let c:=GM;let#[i,g,d,e,f]:=s;dsimp only
 wp_walk
 calc h
def Zkj (l:s.heap.get? a=U o)(n:o.cls=.type "list")(f:o.data=.seq xs k)(p:o.dict=O)(u:A.handled=O)
  (h:∀h' tk,(∀b ob,s.heap.get? b=U ob->h'.get? b=U ob)->Q O { s with heap:=h',toks:=tk }):
  wpAny (model prog w) A (getAttr? (.ref a) "keys") Q E s:=by
 let#[c,v,x,r]:=o;simp only at n f p;subst n f p;let#[t,g,d,tk,q]:=s;let m:∀i,(#[t,g,d,i,q]:AE).TypeIs (.ref a) "list":=λ_=>#[_,l,Z];let G:=sub_AttributeError;let H:=F.slot_list_getattribute.lookup;let y:=F.slot_list_getattribute.bind (.ref a);let C:=am_list_getattr_none;unfold getAttr? getAttrBy? getAttrBy;repeat (any_goals (first | assumption | calc m _ | ((with_reducible show wpAny _ _ (call (Value.builtin "list.__getattribute__") _ _) _ _ _);calc call_meets F.slot_list_getattribute (m _) am_entry_list_getattribute (F.args_list_getattribute_2 _ _) (meets_getattribute_miss_list a xs k r "keys" _ Zki nofun) ⟨l,u,λh' i e j=>?_⟩) | wp_step))
 let#[D,B,z]:=j.there;show wpAny _ _ (getattributeRaised _ _ _ _ _ _ _) _ _ _;unfold getattributeRaised;repeat (any_goals (first | assumption | wp_step))
 calc h _ _ j.keeps
def jJ (P:AG)(w:AI)(h:Heap)(u:Value)(x:qt×Value):Prop:=∃b a,u=.ref b/\h.IsTuple b ↑[a,x.2]/\(rG P w).is x.1 a=Y
def jJ.keep {h h':Heap}{u:Value}{x:qt×Value}{d It l:AD}{i:Nat}{kvs:List (qt×Value)}(p:jJ prog w h u x)(m:h.DictOf (rG prog w) d kvs)(s:h.IsListIter It l i)(k:∀b o,b≠d->b≠It->h.get? b=U o->h'.get? b=U o):jJ prog w h' u x:=by
 let#[b,n,Z,#[o,j,g,r],q]:=p;let#[t,_,_,e,f,_]:=m;let#[v,c,a,_]:=s;refine#[b,n,Z,#[o,k b o (λz=>?_) (λz=>?_) j,g,r],q]
 .subst z;rw[j]at e;cases e;have:=f.1;rw[g]at this;exact NR this ⋯
 .subst z;rw[j]at c;cases c;rw[g]at a;calc NR a ⋯
def ZfC (kvs:List (qt×Value))(k:qt)(v:Value):⇑(stored kvs k v)<=⇑kvs+1:=by unfold stored;split<;>simp
def Zmj {R_:Result->AE->Prop}{l It d:AD}{us:AC}(hh:A.handled=O)(K:It≠d)(n2:l≠d)(n3:l≠It):∀(xs:List (qt×Value)) (i:Nat) (n:Int) (tk:Tok) (s:AE) (kvs:List (qt×Value)),i+⇑xs=⇑us ->
  (∀j x,xs[j]?=U x->∃u,us[i+j]?=U u/\jJ prog w s.heap u x)->s.heap.IsListIter It l i->s.heap.IsList l ↑us->s.heap.DictOf (rG prog w) d kvs->⇑kvs+⇑xs<=sizeLine ->
  (∀h' g,(∀b o,b≠d->b≠It->s.heap.get? b=U o->h'.get? b=U o)->h'.DictOf (rG prog w) d (xs.foldl (λa x=>stored a x.1 x.2) kvs)->R_ (.ok (.ret .none)) { s with heap:=h',toks:=g }) ->
  codeAny (model prog w) A (.builtin "dict.update.loop" #[[.ref d,.ref It,.int n tk,.none],[]]) R_ s:=by
 intro xs;induction xs with
 | nil=>
  intro i n tk s kvs z B f v m Q P;calc codeAny_builtin Ju ?_;rw[xE DW _];show wpAny _ A.in1 (pyNext (.ref It) >>= λr=>_) _ _ s;calc qd (wpAny_pyNext_list_end (by simp[hh]) f v (by simp at z;simp[z]) λh' S=>?_);dsimp only;unfold Builtin.Dict.addKeywords
  wp_walk
  exact P h' _ (λb o k f e=>S b o f e) (m.extBut S (qy K))
 | cons x xs ih=>
  intro i n tk s kvs z B f v m Q P;calc codeAny_builtin Ju ?_;rw[xE DW _];show wpAny _ A.in1 (pyNext (.ref It) >>= λr=>_) _ _ s;let#[u,hu,pu]:=B 0 x Z;calc qd (wpAny_pyNext_list_item f v (x:=u) (~~~hu) λq H c=>?_);let C:=pu.keep m f (h':=q) (λb o _ k e=>(c.2 b k).trans e);let#[b,V,Z,k,hk]:=C;let hT:Shared.TypeIs { s with heap:=q } (.ref b) "tuple":=k.typeIs;let G:q.DictOf (rG prog w) d kvs:=m.sameBut c (qy K);let N:q.IsList l ↑us:=(let ⟨o,L,r⟩:=v;#[o,(c.2 l n3).trans L,r]);dsimp only;calc qd (uI (qd (wpAny_tryCatch ?_)));unfold Builtin.Dict.pairItems;calc qd (wpAny_typeOf hT ?_);rw[qg ⋯];let#[o,L,hc,nn,hd]:=k;calc qd (wpAny_seqItems L hd (qv ?_));show wpAny _ _ (holding [V,x.2] (dictSet d V x.2)) _ _ _;let aa:⇑kvs+(⇑xs+1)<=sizeLine:=Q;calc uI (wpAny_dictSet_pairs hk G (λh2 M h=>?_) (hsz:=by lia));let T:∀b o,b≠d->b≠It->s.heap.get? b=U o->h2.get? b=U o:=λb o t p e=>(h.2 b t).trans ((c.2 b p).trans e);refine qv #[plainId_quiet DW _,ih (i+1) _ _ _ _ (by have:i+(⇑xs+1)=⇑us:=z;lia) (λj y hy=>?_) ?_ ?_ M ?_ (λh' g kp I=>P h' g (λb o t p e=>kp b o t p (T b o t p e)) I)]
  .obtain⟨W,D,p2⟩:=B (j+1) y hy;exact#[W,by rw[<-D];congr 1;lia,p2.keep m f T]
  .obtain⟨oi,F,r⟩:=H;exact#[oi,(h.2 It K).trans F,r]
  .obtain⟨X,E,r⟩:=N;exact#[X,(h.2 l n2).trans E,r]
  .have:=ZfC kvs x.1 x.2
   lia
def Zmk {a:AD}{us:AC}{o:Obj}{K:Nat}{xs:List (qt×Value)}{Q:rh}(N:A.handled=O)(L:s.heap.get? a=U o)(B:o.cls=.type "list")(d:o.data=.seq ↑us K)(hd:o.dict=O)(hl:⇑us=⇑xs)
  (P:∀(j:Nat)(x:qt×Value),xs[j]?=U x->∃u,us[j]?=U u/\jJ prog w s.heap u x) (S:⇑xs<=sizeLine)
  (h:∀h' f,(∀b o,s.heap.get? b=U o->h'.get? b=U o)->h'.DictOf (rG prog w) ↥s (xs.foldl (λa x=>stored a x.1 x.2) [])->Q (.ref ↥s) { s with heap:=h',toks:=f }):
  wpAny (model prog w) A (call (.type "dict") [.ref a]) Q E s:=by
 calc callType_codes (Q₁:=λl n=>l=.ref ↥s/\n={ s with heap:=s.heap.push jR }) Zjh (Zf9 _) F.entry_dict_init (Zot _ #[Z,Z]) λl n p=>?_;let#[Z,Z]:=p;let lt:=qQ L;let H:(s.heap.push jR).get? ↥s=U jR:=rS _ Z;let M:Shared.TypeIs { s with heap:=s.heap.push jR } (.ref ↥s) "dict":=#[_,H,Z];calc#[M,F.args_dict_init_2 _ _,?_];unfold Builtin.«dict.__init__» Builtin.Dict.selfAndRest;calc qd (qd (wpAny_notOrdered_dict M ?_));show wpAny _ _ (pure (↥s,[Value.ref a])) _ _ _;calc qv ?_;show wpAny _ _ (Builtin.Dict.updateFrom "dict.__init__" ↥s (.ref a) [] .none) _ _ _;unfold Builtin.Dict.updateFrom;let c:(s.heap.push jR).get? a=U o:=qU _ L;let y:Shared.TypeIs { s with heap:=s.heap.push jR } (.ref a) "list":=#[_,c,B];calc qd (wpAny_typeOf y ?_);rw[qg ⋯];calc qd (Zkj c B d hd (by simp[N]) λk aa i=>?_);rw[qg (show (O:Option Value).isNone=Y from Z)];calc qd (vk ?_);let g:k.IsList a ↑us:=#[o,i _ _ c,B,K,d];let m:↥s<k.objs.size:=qQ (i _ _ H);let C:a<k.objs.size:=qQ (i _ _ c);show wpAny _ _ (pyIter (.ref a) >>= λX=>again (.builtin "dict.update.loop" #[[.ref ↥s,X,rawInt 0,.none],[]])) _ _ _;calc qd (CF g ?_);let G:∀b o,s.heap.get? b=U o->(k.push { cls:=.type "list_iterator",data:=.fields ↑[.ref a,.int 0 0] }).get? b=U o:=λb o e=>qU _ (i b o (qU _ e));let t:(k.push { cls:=.type "list_iterator",data:=.fields ↑[.ref a,.int 0 0] }).DictOf (rG prog w) ↥s []:=by let#[od,es,ep,v,r]:=Heap.DictOf.new (knd:=rG prog w) s.heap;exact#[od,es,ep,qU _ (i _ _ v),r]
 refine qv #[plainId_quiet DW _,Zmj (by simp[N]) (Nat.ne_of_gt m) (rK lt) (rK C) xs 0 _ _ _ [] (by rw[hl];simp) (λj x hj=>?_) #[_,rS _ Z,Z,Z] (g.push _) t (~~~S) λh' f T q=>?_]
 .obtain⟨u,W,b,kv,rfl,⟨V,D,r⟩,hk⟩:=P j x hj;exact#[_,~~~W,b,kv,Z,#[V,G _ _ D,r],hk]
 .refine#[Z,h h' f (λb o e=>T b o (rK (qQ e)) (λz=>?_) (G b o e)) q];let I:=qQ e;rw[z]at I;calc NR (Nat.lt_trans I m) (tJ _)
end
section
def MX (H:Hp)(ys:NU)(xs:List (qt×V)):Prop:=⇑ys=⇑xs/\∀(i:Nat)(y:V),ys[i]?=U y->∃(x:qt×V)(b:AD),xs[i]?=U x/\y=.ref b/\H b=U (.tup [kV x.1,x.2])
def rDct:NU->Hp->VK->Prop:=λa H Q=>∃p ys xs,a=[.ref p]/\H p=U (.lst ys)/\MX H ys xs/\∀d,H d=O->Q (.ref d) (upd H d (.dK (uM [] xs)))
theorem IH {k:AA}{σ:St}{H:Hp}{s:AE}(I:qb X k σ H s):∀(xs:List (qt×V)) (ys:NU) (its:AC),hJ ys its->MX H ys xs->∃vs:List (qt×Value),KV xs vs/\∀(j:Nat)(x:qt×Value),vs[j]?=U x->∃u,its[j]?=U u/\jJ X.prog X.w s.heap u x
 | [],ys,its,r,⟨hl,hx⟩=>#[[],.nil,λj x h=>by simp at h]
 | x::xs,ys,its,r,⟨hl,hx⟩=>by
  cases r with
  | nil=>simp at hl
  | @cons y u ys its ry r=>
   let#[x',b,e1,Z,hb]:=hx 0 y Z;cases e1;obtain rfl:u=Value.ref b:=ry;let#[c,m,f,_]:=I.tuple (a:=b) (xs:=[kV x.1,x.2]) (.inl (.inl hb));obtain⟨e,v',rfl,l,o⟩:∃e v',c=[e,v']/\ia (kV x.1) e/\ia x.2 v':=by
    cases m with
    | cons p q=>
     cases q with
     | cons n A=>cases A;exact#[_,_,Z,p,n]
   let#[vs,v,w]:=IH I xs ys its r #[~~~hl,λi z d=>by let#[g,t,B,C]:=hx (i+1) z d;calc#[g,t,B,C]]
   calc#[(x.1,v')::vs,.cons #[Z,o] v,λj z d=>?_];cases j with
   | zero=>
    cases d;exact#[_,Z,b,e,Z,f,vT l]
   | succ j=>calc w j z d
def Zmo (x:X.calm=Y):ud X (.type "dict") rDct:=by
 rintro D s σ H m C Q I r ⟨p,g,xs,rfl,j,e,q⟩;let#[u,Z,t]:=r.one;cases t;let#[c,f,#[o,n,w,d,y,v],A]:=I.list (a:=p) (xs:=g) (.inl (.inl j));let#[m,h,i]:=IH I xs g c f e;let B:=⇑f;let E:=⇑h;let F:=e.1;calc Zmk (I.ok.hd x) w d v y ∅ i ∅ λz b k l=>?_;refine#[.ref ↥s,_,I.laid (t':=b) k (qG _) (Cv (kvs:=uM [] xs) ?_ ?_ (KV.merge h .nil) l),Z,q _ I.fresh]
 .have:=EF xs [];simp only[y8]at this
  lia
 .exact beq_eq_false_iff_ne.mpr (qy (rK I.big))
end
structure PAz (X:Cx)(es:List Expr)(t:TA):Prop where
 h:PA X es t
def uj (s L:p9):Prop:=(∃c,L=s++[c])\/∃c,L=c::s
def uj.len (h:uj s L):⇑L=⇑s+1:=by rcases h with⟨c,rfl⟩|⟨c,rfl⟩<;>simp
def uj.inf (h:uj s L):qI s L:=by
 rcases h with⟨c,rfl⟩|⟨c,rfl⟩
 .have:=Gd (s++[c]);rwa [Cf]at this
 .exact GY (c::s)
def sZ (s L w:p9):Prop:=qI w L/\¬qI w s
def sZ.ne (h:sZ s L w):w≠[]:=λe=>h.2 (e▸qI.nil s)
def D3 (l:p9)(k:Nat):qI (l.take k) l:=#[0,by rw[rL];lia,by rw[vI,List.take_eq_take_iff,rL];lia]
def Gk (l:p9)(k:Nat):qI (l.drop k) l:=by
 by_cases h:k<=⇑l
 .exact#[k,by rw[tG];lia,by rw[uJ]]
 .rw[xJ ∅];calc qI.nil l
def EZ (h:uj s L)(f:sZ s L w):((∃c,L=s++[c])/\w=L.drop (⇑L-⇑w))\/((∃c,L=c::s)/\w=L.take ⇑w):=by
 let#[#[i,b,a],d]:=f;rcases h with⟨c,rfl⟩|⟨c,rfl⟩
 .refine .inl #[#[c,Z],?_];rw[qP,r6]at b ⊢;let g:i+⇑w=⇑s+1:=by
   by_cases z:i+⇑w<=⇑s
   .refine NR #[i,z,?_] d;rw[zy ∅,Bm (by rw[tG];lia)]at a;exact a
   .lia
  let e:⇑s+1-⇑w=i:=by lia
  rw[e];rw[uU (by rw[tG,qP,r6];lia)]at a;exact a.symm
 .refine .inr #[#[c,Z],?_];cases i with
  | zero=>rw[vI]at a;exact a.symm
  | succ i=>
   refine NR #[i,?_,?_] d
   .rw[rF]at b;lia
   .rw[List.drop_succ_cons]at a;calc a
def Iq (h:uj s L):sZ s L w↔(∃k,1<=k/\k<=⇑L/\(w=L.take k\/w=L.drop (⇑L-k)))/\¬qI w s:=by
 constructor
 .intro f;let b:1<=⇑w:=wC.mpr f.ne;calc#[#[⇑w,b,f.1.len,?_],f.2];rcases EZ h f with⟨_,e⟩|⟨_,e⟩
  .exact .inr e
  .exact .inl e
 .rintro⟨⟨k,_,_,rfl | rfl⟩,a⟩
  .exact#[D3 _ _,a]
  .exact#[Gk _ _,a]
def Mt (h:uj s L)(f:sZ s L u)(b:sZ s L v)(l:⇑u<=⇑v):qI u v:=by
 let n:=f.1.len;let m:=b.1.len;rcases EZ h f with⟨⟨c,e⟩,g⟩|⟨⟨c,e⟩,g⟩
 .rcases EZ h b with⟨_,a⟩|⟨⟨d,j⟩,a⟩
  .have:u=v.drop (⇑v-⇑u):=by
    have:v.drop (⇑v-⇑u)=L.drop (⇑L-⇑u):=by
     conv=>lhs;rw[a]
     rw[wG,tG];congr 1
     lia
    rw[this];exact g
   rw[this];exact Gk _ _
  .
   let i:⇑v=⇑L:=by
    by_cases z:⇑v=⇑L
    .exact z
    .exfalso;calc b.2 ?_;have:v=s.take ⇑v:=by
      conv=>lhs;rw[a,e]
      rw[Bm];have:=h.len;lia
     rw[this];exact D3 _ _
   have:v=L:=by rw[a,i,uJ]
   rw[this];exact f.1
 .rcases EZ h b with⟨⟨d,j⟩,a⟩|⟨_,a⟩
  .let i:⇑v=⇑L:=by
    by_cases z:⇑v=⇑L
    .exact z
    .exfalso;calc b.2 ?_;have:v=s.drop (⇑s-⇑v):=by
      let o:=h.len
      conv=>lhs;rw[a,e]
      let k:⇑(c::s)-⇑v=(⇑s-⇑v)+1:=by rw[rF];lia
      rw[k,List.drop_succ_cons]
     rw[this];exact Gk _ _
   have:v=L:=by rw[a,i,yd,vI]
   rw[this];exact f.1
  .have:u=v.take ⇑u:=by
    have:v.take ⇑u=L.take ⇑u:=by
     conv=>lhs;rw[a]
     rw[xO];congr 1
     lia
    rw[this];exact g
   rw[this];calc D3 _ _
def Zok (h:uj s L)(a:sZ s L u)(b:sZ s L v)(c:⇑u=⇑v):u=v:=D7 (Mt h a b ∅) ∅
def Ge (h:uj s L)(b:sZ s L w0)(l:∀w,sZ s L w->¬iM w w0)(w:p9):jS s w/\qI w L↔w=w0:=by
 let g:∀w,sZ s L w->⇑w0<=⇑w:=λw f=>by
  by_cases z:⇑w<⇑w0
  .exact NR (.inl z) (l w f)
  .lia
 let d:=b.ne;let o:1<=⇑w0:=wC.mpr d;constructor
 .rintro⟨c,m⟩;let e:sZ s L w:=#[m,c.no];let i:=Mt h b e (g w e);by_cases z:⇑w0<⇑w
  .rcases JJ i z with k | k
   .exact NR (k.trans c.init) b.2
   .exact NR (k.trans c.tail) b.2
  .exact(D7 i ∅).symm
 .rintro rfl;let a:∀u,qI u L->⇑u<⇑w->qI u s:=λu j n=>by
   by_cases z:qI u s
   .exact z
   .have:=g u #[j,z];lia
  calc#[#[d,a _ ((Gd w).trans b.1) (by rw[vF];lia),a _ ((GY w).trans b.1) (by rw[BJ];lia),b.2],b.1]
noncomputable def j7 (s w:p9)[Decidable (qI w.dropLast s)]:p9:=if qI w.dropLast s then w.tail else w.dropLast
instance (w l:p9):Decidable (qI w l):=decidable_of_iff (∃i,i<⇑l+1/\i+⇑w<=⇑l/\(l.drop i).take ⇑w=w) #[λ⟨i,_,h⟩=>#[i,h],λ⟨i,h⟩=>#[i,by have:=h.1;lia,h]]
def Opn (s L m w:p9):Prop:=∃a c,sZ s L a/\c∈m/\(w=a++[c]\/w=c::a)/\jS L w
def ZnZ (h:uj s L)(o:∀x∈L,x∈m):Opn s L m w↔w∈qE L m/\w∉qE s m:=by
 constructor
 .rintro⟨t,c,f,i,e,g⟩;refine#[tP.mpr #[g,?_],λl=>?_]
  .rcases e with rfl | rfl
   .exact#[c,i,{}]
   .refine#[t.getLast f.ne,o _ (f.1.mem (List.getLast_mem _)),?_];rw[BK {},List.getLast_cons f.ne]
  .let k:=(tP.mp l).1;rcases e with rfl | rfl
   .exact f.2 (by have:=k.init;rwa [Cf]at this)
   .exact f.2 k.tail
 .rintro⟨l,v⟩;let#[g,c,i,j]:=tP.mp l;let u:¬qI w s:=λz=>g.no (z.trans h.inf);let n:¬(qI w.dropLast s/\qI w.tail s):=λ⟨a,b⟩=>v (tP.mpr #[#[g.ne,a,b,u],c,i,j]);by_cases z:qI w.dropLast s
  .let q:¬qI w.tail s:=λk=>n #[z,k];let f:sZ s L w.tail:=#[g.tail,q]
   match w,g,f with
   | d::r,g,f=>
    let f:sZ s L r:=f;refine#[r,d,f,?_,.inr Z,g]
    match r,f.ne with
    | e::r,_=>exact o _ (g.init.mem {})
  .refine#[w.dropLast,c,#[g.init,z],i,.inl ?_,g];rw[BK g.ne]at j;let p:=DP g.ne;rw[Option.some.inj j]at p;calc p.symm
def Zpw (h:uj s L)(f:sZ s L sh)(e:w=sh++[c]\/w=c::sh)(ms:jS L w):j7 s w=sh:=by
 unfold j7;rcases e with rfl | rfl
 .rw[Cf,qe f.2]
 .by_cases z:qI (c::sh).dropLast s
  .rw[qg z];rfl
  .rw[qe z];calc Zok h #[ms.init,z] f (by rw[vF];simp)
def JT (h:uj s L)(c:sZ s L w0)(a:∀w,sZ s L w->¬iM w w0)(d:w∈qE s m):w∈qE L m↔w≠w0:=by
 let#[b,e]:=tP.mp d;constructor
 .rintro k rfl;exact(tP.mp k).1.no ((Ge h c a w).mpr Z).2
 .intro k;let f:¬qI w L:=λz=>k ((Ge h c a w).mp #[b,z]);calc tP.mpr #[#[b.ne,b.init.trans h.inf,b.tail.trans h.inf,f],e]
def Zoo (h:uj s L)(b:∀x∈L,x∈m)(c:sZ s L w0)(a:∀w,sZ s L w->¬iM w w0):w0∈qE s m:=by let k:=(Ge h c a w0).mpr Z;calc tP.mpr #[k.1,w0.getLast k.1.ne,b _ (k.2.mem (List.getLast_mem _)),BK _]
def jP (s L m:p9):qi:=(qE L m).filter λw=>R (w∉qE s m)
def lh (s L m:p9):qi:=(qE s m).filter λw=>R (w∉qE L m)
def Gn:w∈jP s L m↔w∈qE L m/\w∉qE s m:=by unfold jP;simp
def GP:w∈lh s L m↔w∈qE s m/\w∉qE L m:=by unfold lh;simp
def Zmc (h:uj s L)(e:∀x∈L,x∈m)(f:m.Pairwise (· < ·))(d:sZ s L w0)(c:∀w,sZ s L w->¬iM w w0):lh s L m=[w0]:=by
 calc C3 ((wx f).filter _) {} λw=>?_;rw[GP,qR];constructor
 .rintro⟨a,b⟩;by_cases z:w=w0
  .exact z
  .exact NR ((JT h d c a).mpr z) b
 .rintro rfl;let k:=Zoo h e d c;calc#[k,λz=>(JT h d c k).mp z Z]
def GO {ws c:qi}(e:c.Perm ws)(f:c.Pairwise λa b=>¬iM b a)(g:ws.Nodup):c.Pairwise iM:=by
 calc(f.and (e.nodup_iff.mpr g)).imp ?_;rintro a b ⟨d,h⟩;rcases Nat.lt_trichotomy ⇑a ⇑b with z | z | z
 .exact .inl z
 .rcases Hb a b with k | k | k
  .exact .inr #[z,k]
  .exact NR k h
  .exact NR (.inr #[z.symm,k]) d
 .exact NR (.inl z) d
def E6 {ws:qi}(h:ws.Pairwise iM):ws.Nodup:=h.imp λa e=>by rw[e]at a;calc CW a
def Zoa {d new c f g:qi}(r:d.Pairwise iM)(q:new.Pairwise iM)(i:∀w,w∈c↔w∈new/\w∉d)(n:c.Nodup)(j:∀w,w∈f↔w∈d/\w∉new)(h:g.Perm (d.filter (λw=>R (w∉f))++c))(p:g.Pairwise λa b=>¬iM b a):g=new:=by
 let o:(d.filter (λw=>R (w∉f))++c).Nodup:=by rw[z8];calc#[(E6 r).filter _,n,λa m b l e=>?_];subst e;exact((i a).mp l).2 (uK.mp m).1
 calc C3 (GO h p o) q λw=>?_;rw[h.mem_iff,rJ,uK,i,NL,j];constructor
 .rintro (⟨a,b⟩|⟨a,b⟩)
  .by_cases z:w∈new
   .exact z
   .exact NR #[a,z] b
  .exact a
 .intro a;by_cases z:w∈d
  .exact .inl #[z,λk=>k.2 a]
  .exact .inr #[a,z]
def ZlZ (f:m.Pairwise (· < ·)):qE [] m=iy m:=by
 unfold iy;refine C3 (wx f) ?_ λw=>?_
 .rw[wf];exact f.imp λh=>.inr #[Z,List.Lex.rel h]
 .rw[tP,rj];constructor
  .rintro⟨e,c,b,a⟩;let h:=e.init.len;rw[vF,y8]at h;let g:1<=⇑w:=wC.mpr e.ne
   match w,h,g,a with
   | [d],_,_,a=>exact#[c,b,~~~a.symm]
  .rintro⟨c,b,rfl⟩;calc#[#[{},qI.nil _,qI.nil _,λz=>by have:=z.len;simp at this],c,b,Z]
def qV (S:List AD)(H a:Hp):Prop:=∀b o,H b=U o->b∉S->ub o=J->a b=U o
def iD.chg (s:iD H H'):qV S H H':=λb o e _ t=>s b o e t
def g7.chg (s:g7 H H'):qV S H H':=λb o e _ _=>s b o e
def qV.trans (a:qV S H H1)(b:qV S H1 H2):qV S H H2:=λc o e n t=>b c o (a c o e n t) n t
def qV.upd (h:a∈S):qV S H (upd H a o):=λb u e n _=>by rw[qh (show b≠a from λz=>n (by rw[z];calc h))];calc e
def qV.mono (h:qV S H H')(k:∀b∈S,b∈S'):qV S' H H':=λb o e n t=>h b o e (λz=>n (k b z)) t
def qV.l (h:qV [] H H'):iD H H':=λb o e t=>h b o e {} t
def Nw (H:Hp)(r:AD):Prop:=∀o,H r=U o->ub o=Y
def Nw.of (h:H r=O):Nw H r:=λo e=>by rw[h]at e;cases e
def Nw.ne (n:Nw H r)(h:H b=U o)(t:ub o=J):b≠r:=λz=>by rw[z]at h;rw[n o h]at t;cases t
def Nw.l (n:Nw H1 r)(s:iD H H1):Nw H r:=λo e=>by
 cases t:ub o with
 | true=>rfl
 | false=>rw[<-t];calc n o (s r o e t)
def Nw.same (n:Nw H1 r)(s:g7 H H1):Nw H r:=n.l s.l
def Nw.chg (n:Nw H1 r)(c:qV S H H1)(a:∀b∈S,∃o,H1 b=U o/\ub o=J):Nw H r:=λo e=>by
 by_cases z:r∈S
 .obtain⟨u,f,d⟩:=a r z;exact NR Z (n.ne f d)
 .cases t:ub o with
  | true=>rfl
  | false=>rw[<-t];calc n o (c r o e z t)
def Ey:HO->Bool
 | .ext _=>Y
 | _=>J
def iO.upd (T:iO H P pos q)(h:H a=U o)(t:ub o=J)(x:Ey o=J):iO (L2.upd H a o') P pos q:=by
 let#[g,e,f,i]:=T;refine#[g,?_,f,i.imp id ?_]
 .rw[qh (λz=>by rw[z,h]at e;cases e;cases t)];exact e
 .rintro⟨c,d,b⟩;calc#[c,d,?_];rw[qh (λz=>by rw[z,h]at b;unfold xT at b;cases b;cases x)];calc b
def RowA (H:Hp)(y:V)(r:p9×NU):Prop:=∃a b,y=.ref a/\H a=U (.tup [tx r.1,.ref b])/\H b=U (.tup r.2)
def iL (H:Hp)(ys:NU)(a:List (p9×NU)):Prop:=⇑ys=⇑a/\∀(i:Nat)(y:V),ys[i]?=U y->∃r,a[i]?=U r/\RowA H y r
def iL.chg (h:iL H ys rs)(c:qV S H H')(d:∀b∈S,∀us,H b≠U (.tup us)):iL H' ys rs:=by calc#[h.1,λi y k=>?_];let#[r,j,a,b,e,f,g]:=h.2 i y k;calc#[r,j,a,b,e,c _ _ f (λz=>d _ z _ f) Z,c _ _ g (λz=>d _ z _ g) Z]
def iL.l (h:iL H ys rs)(s:iD H H'):iL H' ys rs:=h.chg (S:=[]) s.chg {}
def iL.same (h:iL H ys rs)(s:g7 H H'):iL H' ys rs:=h.l s.l
theorem Me {K:qj}{H:Hp}:∀ {a:List DT} {vs:NU},⇑vs=⇑a->(∀(i:Nat)(v:V),vs[i]?=U v->∃d,a[i]?=U d/\ij K H d v)->DatsOk K H a vs
 | [],[],_,_=>by unfold DatsOk;rfl
 | [],_::_,h,_=>by simp at h
 | _::_,[],h,_=>by simp at h
 | d::a,v::vs,h,g=>by unfold DatsOk;let#[d',e,hd]:=g 0 v Z;cases e;calc#[v,vs,Z,hd,Me (~~~h) λi u b=>g (i+1) u b]
theorem Li {n:Nat}:∀ {a:List DT},(∀d∈a,uA d<=n)->deps a<=n
 | [],_=>by unfold deps;exact rM _
 | d::a,h=>by unfold deps;calc Nat.max_le.mpr #[h d sA,Li λe he=>h e (si _ he)]
def wF (a:p9)(s L m:p9):List (p9×NU):=(jP s L m).map λw=>(w,[tx a,tx (j7 s w),.int (wT L (j7 s w):Nat)])
def xv (a:p9)(s L m:p9):List (p9×NU):=(lh s L m).map λw=>(w,[tx a,.int (wT L w:Nat)])
noncomputable def JS:p9:=[112,117,116]
noncomputable def DROP:p9:=[100,114,111,112]
def BH (d:Bool×Nat):NU:=[tx (if d.1 then JS else DROP),tx [d.2]]
def iG (H:Hp)(b:NU)(a:List (Bool×Nat)):Prop:=⇑b=⇑a/\∀(i:Nat)(y:V),b[i]?=U y->∃d,a[i]?=U d/\∃t,y=.ref t/\H t=U (.tup (BH d))
def iG.chg (h:iG H ts ds)(c:qV S H H')(f:∀b∈S,∀us,H b≠U (.tup us)):iG H' ts ds:=by calc#[h.1,λi y j=>?_];let#[d,g,t,e,a]:=h.2 i y j;calc#[d,g,t,e,c _ _ a (λz=>f _ z _ a) Z]
def iG.snoc (h:iG H ts ds)(f:H t=U (.tup (BH d))):iG H (ts++[.ref t]) (ds++[d]):=by
 calc#[by rw[qP,qP,h.1];rfl,λi y a=>?_];by_cases z:i<⇑ts
 .rw[vj z]at a;let#[c,b,r]:=h.2 i y a;exact#[c,by rw[vj (by rw[<-h.1];calc z)];calc b,r]
 .rw[vH ∅]at a;let e:i-⇑ts=0:=by
   rcases Nat.eq_zero_or_pos (i-⇑ts) with q | q
   .exact q
   .rw[wP (by simp;lia)]at a;cases a
  rw[e]at a;cases a;calc#[d,?_,t,Z,f];rw[vH (by rw[<-h.1];lia),<-h.1,e];rfl
def iG.init (h:iG H ts (ds++[d])):∃f t,ts=f++[.ref t]/\H t=U (.tup (BH d))/\iG H f ds:=by
 let j:⇑ts=⇑ds+1:=by rw[h.1];simp
 let g:ts≠[]:=λe=>by rw[e]at j;simp at j
 let e:=DP g;let a:ts[⇑ds]?=U (ts.getLast g):=by
  rw[List.getLast_eq_getElem,rD ∅];congr 2
  lia
 let#[k,b,t,l,m]:=h.2 _ _ a;rw[vH (qG _),yd]at b;cases b;calc#[ts.dropLast,t,by rw[<-l];calc e.symm,m,by rw[vF];lia,λi y c=>?_];rw[Cu,B2]at c;by_cases z:i<⇑ts-1
 .rw[qg z]at c;let#[k,b,r]:=h.2 i y c;rw[vj ∅]at b;exact#[k,b,r]
 .rw[qe z]at c;cases c
def BF (d:Bool×Nat):DT:=.t ((BH d).map .f)
def iG.dat {K:qj}{H:Hp}{ts:NU}{a:List (Bool×Nat)}(h:iG H ts a):DatsOk K H (a.map BF) ts:=by calc Me (by rw[qm];calc h.1) λi y c=>?_;let#[d,b,t,Z,e]:=h.2 i y c;calc#[BF d,by rw[se,b];rfl,datT (.mk e) Z]
def ZkY (d:Bool×Nat):uA (BF d)<=1:=by unfold BF uA;rw[Nt];calc qG _
inductive uz (m:p9):List (Bool×Nat)->p9->Prop
 | nil:uz m [] []
 | put {ds:List (Bool×Nat)} {l:p9} {c:Nat} (h:uz m ds l) (hc:c∈m) (hl:⇑l<40):uz m (ds++[(Y,c)]) (l++[c])
 | drop {ds:List (Bool×Nat)} {l:p9} {c:Nat} (h:uz m ds (c::l)):uz m (ds++[(J,c)]) l
def uz.len (h:uz m ds l):⇑l<=40:=by
 induction h with
 | nil=>simp
 | put h b c a=>simp;lia
 | drop h a=>simp at a;lia
def uz.mem (h:uz m ds l):∀x∈l,x∈m:=by
 induction h with
 | nil=>intro x a;cases a
 | put h c d b=>
  intro x a;rcases rJ.mp a with a | a
  .exact b x a
  .rw[qR.mp a];exact c
 | drop h b=>calc λx a=>b x (si _ a)
def uz.last (h:uz m ds' l)(d:ds'≠[]):∃a c,(ds'=a++[(Y,c)]/\∃b,l=b++[c]/\uz m a b)\/(ds'=a++[(J,c)]/\uz m a (c::l)):=by
 cases h with
 | nil=>exact NR Z d
 | put h f e=>exact#[_,_,.inl #[Z,_,Z,h]]
 | drop h=>calc#[_,_,.inr #[Z,h]]
def sF (l m:p9)(b a:AD):List (Str×V):=[("own_text",tx l),("own_kinds",tx m),("own_lacking",.ref b),("own_deeds",.ref a)]
def f_tk:¬(("own_text":Str)="own_kinds"):=by decide +kernel
def nW:¬(("own_text":Str)="own_lacking"):=by decide +kernel
def oh:¬(("own_text":Str)="own_deeds"):=by decide +kernel
def nu:¬(("own_kinds":Str)="own_lacking"):=by decide +kernel
def o6:¬(("own_kinds":Str)="own_deeds"):=by decide +kernel
def nN:¬(("own_lacking":Str)="own_deeds"):=by decide +kernel
def Hc:iq f v ((f,x)::r)=(f,v)::r:=by unfold iq;rw[qg Z]
def wA (h:¬g=f):iq f v ((g,x)::r)=(g,x)::iq f v r:=by
 conv=>lhs;unfold iq
 rw[qe h]
def Mv:iq "own_text" (tx l') (sF l m la da)=sF l' m la da:=Hc
def LB:iq "own_lacking" (.ref la') (sF l m la da)=sF l m la' da:=by unfold sF;rw[wA nW,wA nu,Hc]
def Zlx:iq "own_deeds" (.ref da') (sF l m la da)=sF l m la da':=by unfold sF;rw[wA oh,wA o6,wA nN,Hc]
def LP:iq "own_deeds" (.ref da) (iq "own_lacking" (.ref la) (iq "own_kinds" (tx m) (iq "own_text" (tx l) [])))=sF l m la da:=by let a:∀(f:Str)(v:V),iq f v []=[(f,v)]:=λ_ _=>rfl;rw[a,wA f_tk,a,wA nW,wA nu,a,wA oh,wA o6,wA nN,a];rfl
def CC:sF l m la da=iq "own_deeds" (.ref da) (iq "own_lacking" (.ref la) (iq "own_kinds" (tx m) (iq "own_text" (tx l) []))):=LP.symm
def vv:(sF l m la da).lookup ("own_text":Str)=U (tx l):=by rw[CC,sD,qe oh,sD,qe nW,sD,qe f_tk,sD,qg Z]
def Di:(sF l m la da).lookup ("own_kinds":Str)=U (tx m):=by rw[CC,sD,qe o6,sD,qe nu,sD,qg Z]
def FI:(sF l m la da).lookup ("own_lacking":Str)=U (.ref la):=by rw[CC,sD,qe nN,sD,qg Z]
def Bw:(sF l m la da).lookup ("own_deeds":Str)=U (.ref da):=by rw[CC,sD,qg Z]
def ZrK {l m:p9}{b c:AD}{x:Str}(e:¬x="own_text")(f:¬x="own_kinds")(d:¬x="own_lacking")(a:¬x="own_deeds"):(sF l m b c).lookup x=O:=by rw[CC,sD,qe a,sD,qe d,sD,qe f,sD,qe e];rfl
noncomputable def LETx:p9:=[97,98,99,100,101,102,103,104,105,106,107,108,109,110,111,112,113,114,115,116,117,118,119,120,121,122]
def iskx (l:p9):Bool:=R (1<=⇑l)&&R (⇑l<=4)&&(l.all λc=>LETx.contains c)&&R (iy l=sU (tE (iy l)))
def yW (C:AD)(H:Hp)(p b a:AD)(l m:p9):Prop:=∃c,H p=U (.ins C c (sF l m b a))
structure jH (m:p9):Prop where
 k:iskx m=Y
 m1:1<=⇑m
 m4:⇑m<=4
 rise:m.Pairwise (· < ·)
structure g8 (C:AD)(H:Hp)(p la da:AD)(l m:p9)(ds:List (Bool×Nat)):Prop where
 fld:yW C H p la da l m
 lack:H la=U (.lst ((qE l m).map tx))
 deed:∃ts,H da=U (.lst ts)/\iG H ts ds
 run:uz m ds l
 ok:jH m
 ne:la≠da
def g8.chg (h:g8 C H p la da l m ds)(c:qV S H H')(e:∀b∈S,∀us,H b≠U (.tup us))(j:p∉S)(q:la∉S)(a:da∉S):g8 C H' p la da l m ds:=by let#[#[i,f],k,#[d,g,s],r,o,n]:=h;calc#[#[i,c _ _ f j Z],c _ _ k q Z,#[d,c _ _ g a Z,s.chg c e],r,o,n]
def g8.l {C:AD}{H c:Hp}{p b a:AD}{l m:p9}{ds:List (Bool×Nat)}(h:g8 C H p b a l m ds)(s:iD H c):g8 C c p b a l m ds:=h.chg (S:=[]) s.chg {} {} {} {}
def g8.same {C:AD}{H c:Hp}{p b a:AD}{l m:p9}{ds:List (Bool×Nat)}(h:g8 C H p b a l m ds)(s:g7 H c):g8 C c p b a l m ds:=h.l s.l
structure kc (H H2:Hp)(t c g la:AD)(rc rg:List (p9×NU)):Prop where
 tup:H2 t=U (.tup [.ref c,.ref g])
 came:∃ys,H2 c=U (.lst ys)/\iL H2 ys rc
 went:∃zs,H2 g=U (.lst zs)/\iL H2 zs rg
 nc:Nw H c
 ng:Nw H g
 nl:Nw H la
 ncg:c≠g
 ncl:c≠la
 ngl:g≠la
section
def Gf (l:X.calm=Y):ud X (.builtin "sorted") (λxs H Q=>∃a kvs ls,xs=[.ref a]/\Rd H a (.dK kvs)/\kvs.map (·.1)=ls.map qf/\iH ((sU ls).map tx) H Q):=by
 rintro S s σ H xs P Q I r ⟨a,kvs,ls,rfl,B,n,q⟩;let#[u,Z,E]:=r.one;cases E;let#[z,y,d,h,o,M,ep,x]:=B.ok I.hok;let w:s.heap.DictAt (rG X.prog X.w) a d ep:=#[o,M,x];let c:⇑d=⇑ls:=by rw[<-⇑h];have:=NQ List.length n;simpa using this
 let f:⇑ls<=sizeLine:=by rw[<-c,<-⇑h];exact z
 let K:⇑(sU ls)<=sizeLine:=by rw[(vP ls).length_eq];exact f
 calc Calls.call_function_entry kind_sorted plain_sorted entry_sorted (args_sorted1 _) ?_;unfold Builtin.«sorted»;calc qd (m:=checkCount "sorted" 1 1 _) (qv ?_);calc qd (ZgX (by first | calc I.ok.hd l | simpa using I.ok.hd l) y w (by rw[c];calc f) λs' N i D F j=>?_);let L:(d.map λp=>kV p.1)=ls.map tx:=by
  let G:(d.map λp=>kV p.1)=(d.map (·.1)).map kV:=by rw[rO];rfl
  rw[G,<-h.keys,n,rO];rfl
 rw[L]at j;calc KC j f λt g e C v A=>?_;let k:s.heap.get? ↥s'=O:=by
  cases q:s.heap.get? ↥s' with
  | none=>rfl
  | some o=>exact NR (qQ (i _ _ q)) (tJ _)
 calc#[.ref ↥s',_,I.laid2 (s':={ s' with heap:=t }) (o:=.lst ((sU ls).map tx)) F D (λb o z=>C b o (i b o z)) k #[by rw[qm];calc K,g,e,A,v],Z,q _ (I.hok.none_of k)]
end
section
def Gu (n:X.calm=Y):ud X (.builtin "sorted") (λxs H Q=>∃a ls,xs=[.ref a]/\H a=U (nU X.prog X.w a ls)/\⇑ls<=sizeLine/\iH ((sU ls).map tx) H Q):=by
 rintro v s σ H xs f Q I r ⟨a,ls,rfl,m,c,q⟩;let#[u,Z,p]:=r.one;cases p;let i:iK X.prog X.w s.heap a ls (!sI X.w):=(I.hok a _ m).1;calc Zhf (I.ok.hd n) i c λw b f e d k g t l j=>?_;let h:⇑(sU ls)<=sizeLine:=by rw[(vP ls).length_eq];exact c
 calc#[.ref b,_,I.laid2 (o:=.lst ((sU ls).map tx)) t g k d #[by rw[qm];calc h,f,e,j,l],Z,q b (I.hok.none_of d)]
def Zji (K:X.calm=Y):ud X (.type "list") (λxs H Q=>∃a kvs,xs=[.ref a]/\Rd H a (.dK kvs)/\iH (kvs.map λp=>kV p.1) H Q):=by
 rintro P s σ H xs N Q I r ⟨a,kvs,rfl,A,q⟩;let#[u,Z,D]:=r.one;cases D;let#[z,y,c,h,o,L,ep,t]:=A.ok I.hok;let m:s.heap.DictAt (rG X.prog X.w) a c ep:=#[o,L,t];let F:⇑c<=sizeLine:=by rw[<-⇑h];exact z
 calc PySem.W.kdl_call (PySem.W.kdl_dict y) (I.ok.hd K) m F λM n b l d w j=>?_;let C:hJ (kvs.map λp=>kV p.1) b.toList:=by
  let E:(kvs.map λp=>kV p.1)=(c.map λp=>kV p.1):=by
   let G:(kvs.map λp=>kV p.1)=(kvs.map (·.1)).map kV:=by rw[rO];rfl
   let B:(c.map λp=>kV p.1)=(c.map (·.1)).map kV:=by rw[rO];rfl
   rw[G,B,h.keys]
  rw[E];calc FP (by rw[qm];calc(Array.length_toList.trans j.1).symm) λi x u f g=>?_;rw[uW]at g;let#[k,v,e,d]:=j.2 i u g;rw[se,e]at f;cases f;exact Hm d
 calc#[.ref ↥s,_,I.laid (t':=n) (o:=.lst (kvs.map λp=>kV p.1)) d (qG _) #[by rw[qm];calc z,b.toList,l,C,by rw[Array.toArray_toList];calc w],Z,q _ I.fresh]
end
section
end
section
end
section
end
def By (t:TS):TS:=t
def qp {X:Cx}{st:List Stmt}{t:TS}(h:uk X st t):uk X st (By t):=h
def qH (h:t D σ H):By t D σ H:=h
section
end
section
end
section
end
section
end
open PySem.W (Frag)
end L2
namespace L2
open PySem PySem.Spec PyProof.Rows
def Av (W:qi)(w:p9):Prop:=∀v∈W,¬qI v w
def jm (W:qi)(u:p9):Prop:=u=[]\/∃v∈W,∃k,k<⇑v/\u=v.take k
def xR (W:qi)(u e:p9):Prop:=∃d,d<=⇑u/\e=u.drop d/\jm W e/\∀j,j<d->¬jm W (u.drop j)
def Av.inf (h:Av W w)(c:qI u w):Av W u:=λv a b=>h v a (b.trans c)
def Zl5 (a b:p9):qI a (a++b):=#[0,by rw[qP];lia,by rw[vI,List.take_left]]
def JF (j:Av W u)(g:xR W u e)(x:p9):Av W (u++x)↔Av W (e++x):=by
 let#[d,m,Z,o,l]:=g;let c:(u++x).drop d=u.drop d++x:=zy m;constructor
 .intro h;calc h.inf ?_;rw[<-c];by_cases z:d<=⇑(u++x)
  .exact#[d,by rw[tG];lia,by rw[uJ]]
  .rw[xJ ∅];exact qI.nil _
 .rintro h v b ⟨i,n,a⟩;rw[qP]at n;by_cases k:i+⇑v<=⇑u
  .refine j v b #[i,k,?_];rw[zy ∅,Bm (by rw[tG];lia)]at a;exact a
  .by_cases p:d<=i
   .refine h v b #[i-d,?_,?_]
    .rw[qP,tG];lia
    .rw[<-c,wG];have:d+(i-d)=i:=by lia
     rw[this];exact a
   .refine l i ∅ (.inr #[v,b,⇑u-i,∅,?_]);rw[<-a,xO];let f:min (⇑u-i) ⇑v=⇑u-i:=by lia
    rw[f,zy ∅,Bm (by rw[tG];calc qG _),uU (by rw[tG];calc qG _)]
def Anti (W:qi):Prop:=∀v∈W,∀w∈W,qI v w->v=w
def Znu (f:Anti W)(g:∀v∈W,v≠[]){u:p9}(h:jm W u):Av W u:=by
 rintro v c a;rcases h with rfl | ⟨w,d,k,i,rfl⟩
 .have:=a.len;exact g v c (zB.mp (~~~this))
 .let b:=a.len;rw[rL]at b;let e:=f v c w d (a.trans (D3 w k));rw[e]at b
  lia
def Ii (W:qi)(u:p9):∃e,xR W u e:=by
 classical
 have:∃d,jm W (u.drop d):=#[⇑u,.inl (xJ (qG _))];obtain⟨d,a,g⟩:∃d,jm W (u.drop d)/\∀j,j<d->¬jm W (u.drop j):=by
  let#[d,a]:=this;induction d using Nat.strongRecOn with
  | _ d h=>
   by_cases c:∃j,j<d/\jm W (u.drop j)
   .obtain⟨j,f,b⟩:=c;exact h j f b
   .exact#[d,a,λj f b=>c #[j,f,b]]
 calc#[u.drop d,d,?_,Z,a,g];by_cases z:d<=⇑u
 .exact z
 .exact NR (.inl (xJ (qG _))) (g ⇑u ∅)
def ZkE (h:xR W u e)(i:xR W u f):e=f:=by
 let#[d,_,Z,g,c]:=h;let#[d2,_,Z,b,a]:=i;have:d=d2:=by
  rcases Nat.lt_trichotomy d d2 with z | z | z
  .exact NR g (a d z)
  .exact z
  .exact NR b (c d2 z)
 rw[this]
def ES (d:xR W (u++[c]) e):Av W (u++c::x)↔Av W (u++[c])/\Av W (e++x):=by
 let b:u++c::x=(u++[c])++x:=by simp
 constructor
 .intro h;let a:Av W (u++[c]):=h.inf (by rw[b];calc Zl5 _ _);exact#[a,(JF a d x).mp (by rw[<-b];calc h)]
 .rintro⟨a,f⟩;rw[b];calc(JF a d x).mpr f
noncomputable abbrev Wd:=p9
def wu (o:Wd->List Wd)(P:List Wd)(s:Wd):Nat:=⇑((o s).filter λt=>R (t∉P))
def Jy:wu o P s=0↔∀t∈o s,t∈P:=by unfold wu;rw[zB,List.filter_eq_nil_iff];simp
def lU:wu o [] s=⇑(o s):=by unfold wu;simp
def FZ (h:r∉P):wu o (P++[r]) s+(o s).count r=wu o P s:=by
 unfold wu;induction o s with
 | nil=>simp
 | cons t d f=>
  rw[List.count_cons,CB,CB];by_cases e:t=r
  .subst e;let a:R (t∉P++[t])=J:=by simp
   let c:R (t∉P)=Y:=by simpa using h
   rw[a,c];simp only[yY,if_false,if_true,beq_self_eq_true,rF]
   lia
  .let b:R (t∉P++[r])=R (t∉P):=by simp[e]
   rw[b,qe (show ¬(t == r)=Y by simpa using e)];split<;>(try simp only[rF])<;>lia
structure KI (N:List Wd)(o:Wd->List Wd)(n:Nat)(es:List Wd)(f:Wd->Nat):Prop where
 le:n<=⇑es
 nd:es.Nodup
 sub:∀s∈es,s∈N
 left:∀s∈N,f s=wu o (es.take n) s
 zero:∀s∈N,s∈es↔f s=0
 ord:∀(k:Nat)(s:Wd),es[k]?=U s->∀t∈o s,t∈es.take k
structure KJ (N:List Wd)(o:Wd->List Wd)(n:Nat)(r:Wd)(S:List Wd)(j:Nat)(es:List Wd)(f:Wd->Nat):Prop where
 at_:es[n]?=U r
 src:∀s∈N,S.count s=(o s).count r
 nd:es.Nodup
 sub:∀s∈es,s∈N
 left:∀s∈N,f s+(S.take j).count s=wu o (es.take n) s
 zero:∀s∈N,s∈es↔f s=0
 ord:∀(k:Nat)(s:Wd),es[k]?=U s->∀t∈o s,t∈es.take k
def KI.start {N:List Wd}{o:Wd->List Wd}{f:Wd->Nat}(nd:N.Nodup)(a:∀s∈N,f s=⇑(o s)):KI N o 0 (N.filter λs=>R (f s=0)) f where
 le:=rM _
 nd:=nd.filter _
 sub:=λs h=>(uK.mp h).1
 left:=λs h=>by rw[xY,lU];exact a s h
 zero:=λs h=>by simp[uK,h]
 ord:=λk s h t c=>by
  let b:=uK.mp (sC h);let z:f s=0:=by simpa using b.2
  rw[a s b.1,zB]at z;rw[z]at c;cases c
def B7 {es:List Wd}{n:Nat}{r:Wd}(c:es.Nodup)(h:es[n]?=U r):r∉es.take n:=by intro b;let#[k,d,e]:=xc b;rw[rL]at d;rw[List.getElem_take]at e;let#[f,a]:=rY.mp h;have:=(List.nodup_iff_pairwise_ne.mp c);rw[Co]at this;calc this k n ∅ f ∅ (by rw[e,a])
def KI.enter (h:KI N o n es f)(c:es[n]?=U r)(b:∀s∈N,S.count s=(o s).count r):KJ N o n r S 0 es f:=
 #[c,b,h.nd,h.sub,λs a=>by rw[xY,List.count_nil,Nat.add_zero];calc h.left s a,h.zero,h.ord]
def z5 {es:List Wd}{n:Nat}{r:Wd}(h:es[n]?=U r):es.take (n+1)=es.take n++[r]:=by rw[yJ,h];rfl
def KJ.leave {N:List Wd}{o:Wd->List Wd}{n:Nat}{es S:List Wd}{f:Wd->Nat}{r:Wd}(h:KJ N o n r S ⇑S es f):KI N o (n+1) es f where
 le:=(rY.mp h.at_).1
 nd:=h.nd
 sub:=h.sub
 left:=λs a=>by
  let b:=h.left s a;let c:=FZ (o:=o) (s:=s) (B7 h.nd h.at_);rw[uJ,h.src s a]at b;rw[z5 h.at_]
  lia
 zero:=h.zero
 ord:=h.ord
def Lz {S:List Wd}{j:Nat}{s t:Wd}(h:S[j]?=U s):(S.take (j+1)).count t=(S.take j).count t+if t=s then 1 else 0:=by
 rw[z5 h,List.count_append,List.count_singleton];by_cases e:t=s
 .subst e;simp
 .have:(s == t)=J:=by simpa using λz=>e z.symm
  rw[this,qe e];rfl
def KJ.pos (h:KJ N o n r S j es f)(c:S[j]?=U s)(a:s∈N):1<=f s:=by
 let d:=h.left s a;let e:=FZ (o:=o) (s:=s) (B7 h.nd h.at_);let b:(S.take (j+1)).count s<=S.count s:=(zj _ _).count_le _;rw[Lz c,qg Z,h.src s a]at b
 lia
def KJ.next (h:KJ N o n r S j es f)(v:S[j]?=U s)(i:s∈N)(g:Wd->Nat)(q:∀t,g t=if t=s then f s-1 else f t):
  (g s=0->KJ N o n r S (j+1) (es++[s]) g)/\(g s≠0->KJ N o n r S (j+1) es g):=by
 let p:=h.pos v i;let H:g s=f s-1:=by rw[q,qg Z]
 let left:∀t∈N,g t+(S.take (j+1)).count t=wu o (es.take n) t:=λt d=>by
  let K:=h.left t d;rw[Lz v,q];by_cases e:t=s
  .subst e;rw[qg Z,qg Z];lia
  .rw[qe e,qe e];lia
 let F:=(rY.mp h.at_).1;let y:s∉es:=λz=>by have:=(h.zero s i).mp z;lia
 constructor
 .intro z;let A:(es++[s]).take n=es.take n:=Bm ∅;refine#[by rw[vj F];calc h.at_,h.src,?_,?_,?_,?_,?_]
  .rw[z8];calc#[h.nd,{},λa D b C=>?_];rw[qR.mp C];exact λe=>y (e▸D)
  .intro t d;rcases rJ.mp d with d | d
   .exact h.sub t d
   .rw[qR.mp d];exact i
  .intro t d;rw[A];exact left t d
  .intro t d;rw[rJ,qR];by_cases e:t=s
   .subst e;simp[z]
   .rw[q,qe e];constructor
    .rintro (k | k)
     .exact(h.zero t d).mp k
     .exact NR k e
    .intro k;exact .inl ((h.zero t d).mpr k)
  .intro k t m u w;by_cases c:k<⇑es
   .rw[vj c]at m;rw[Bm ∅];exact h.ord k t m u w
   .let E:=(rY.mp m).1;rw[qP,r6]at E;let B:k=⇑es:=by lia
    subst B;rw[vH (qG _),yd]at m;cases m;rw[List.take_left];let l:=left s i;let I:=FZ (o:=o) (s:=s) (B7 h.nd h.at_);let G:(S.take (j+1)).count s<=S.count s:=(zj _ _).count_le _;rw[h.src s i]at G;let x:wu o (es.take n++[r]) s=0:=by lia
    rw[<-z5 h.at_]at x;exact tH (Jy.mp x u w)
 .intro z;calc#[h.at_,h.src,h.nd,h.sub,left,λt d=>?_,h.ord];by_cases e:t=s
  .subst e;exact#[λk=>NR k y,λk=>NR k z]
  .rw[q,qe e];calc h.zero t d
theorem KI.all {N:List Wd}{o:Wd->List Wd}{es:List Wd}{f:Wd->Nat}{D:Nat->Wd->Prop}(h:KI N o ⇑es es f)(d:∀s∈N,¬D 0 s)(c:∀k s,s∈N->D (k+1) s->∀t∈o s,t∈N/\D k t):∀k s,s∈N->D k s->s∈es
 | 0,s,hN,hd=>NR hd (d s hN)
 | k+1,s,hN,hd=>by rw[h.zero s hN,h.left s hN,uJ,Jy];intro t ht;let#[a,b]:=c k s hN hd t ht;calc KI.all h d c k t a b
section
end
section
def ZgS (I:qb X A1 σ H s)(e:H a=U (.dK kvs))(o:ia (kV k) u)(m:ia v w)(D:⇑kvs<sizeLine)
  (t:∀x g s',hW kvs k=U x->ia x g->qb X A1 σ H s'->Q g s') (B:hW kvs k=O->∀s',qb X A1 σ (upd H a (.dK (ii kvs k v))) s'->Q w s'):
  wpAny (model X.prog X.w) A (call (.builtin "dict.setdefault") [.ref a,u,w]) Q E s:=by
 let#[z,f,n,b,dd]:=CG I.hok e;refine call_meetsIn PySem.F.slot_dict_setdefault dd.typeIs PySem.F.entry_dict_setdefault (PySem.F.args_dict_setdefault_3 _ _ _) (kt_meets_setdefault (rG X.prog X.w) a (vT o) f w) #[n,dd,by rw[<-⇑b];calc z,λx i=>?_,λC h d p=>?_]
 .let r:=b.val k;rw[i]at r;cases c:hW kvs k with
  | none=>rw[c]at r;exact(by cases r)
  | some y=>rw[c]at r;exact t y x _ c (by first | calc r | cases r;assumption) (I.tok _)
 .let r:=b.val k;rw[C]at r;let c:hW kvs k=O:=by
   cases c:hW kvs k with
   | none=>rfl
   | some y=>rw[c]at r;exact(by cases r)
  let j:∃q,h.get? a=U q:=let ⟨q,_,_,hq,_⟩:=d;#[q,hq];let l:⇑(ii kvs k v)<=sizeLine:=by have:=xq kvs k v;lia
  calc B c _ (CI I (by rw[e];calc True.intro) p j (Cv l f (b.put k m) d))
def Kb (e ty tx:TE):TE:=λσ H Q=>e σ H λx c=>∃a,x=.ref a/\E1 c a/\ty σ c λy d=>tx σ d λz b=>∃kvs k,b a=U (.dK kvs)/\y=kV k/\⇑kvs<sizeLine /\
 (∀v,hW kvs k=U v->Q v b)/\(hW kvs k=O->Q z (upd b a (.dK (ii kvs k z))))
def ZeL {o e f:Expr}{n ty tx:TE}{j i:Pos}(S:PE X o n)(v:PE X e ty)(hf:PE X f tx)(m:M2 X o "setdefault" j e f i):PE X (.Call (.Attribute o "setdefault" j) [e,f] [] i) (Kb n ty tx):=by
 intro b s σ H Q I h;calc wpAny_Call_method m.base m.few m.line EL PySem.F.slot_dict_setdefault PySem.F.type_dict_setdefault (qx (S b s σ H _ I h) λu s1 p=>?_);let#[x,K,l,rx,a,w,d,F]:=p;subst w;obtain rfl:u=Value.ref a:=rx;let#[C,t2,_]:=Hw l d;calc#[C,t2,?_];rw[m.trees];refine Dg Z (Calls.evalArgs_plain (xZ (qx (v b s1 σ K _ l F) λiv q ⟨y,H2,V,G,q2⟩=>
  xZ (qx (hf b q σ H2 _ V q2) λfv s3 ⟨z,L,M,g,D,k,W,A,t,E,P⟩=>B3 ?_))))
 subst A;calc ZgS M W G g t (λx w' B N r c=>#[x,L,c,r,E x N]) λT B c=>#[z,_,c,g,P T]
end
end L2
namespace PySem
section
variable {prog:AG}{w:AI}{K:Type}[DecidableEq K]{knd:HeapKind prog w K}{A:AH}{E:rh}{s:AE}
end
end PySem
namespace L2
open PySem PySem.Spec PyProof.Rows
section
end
end L2
namespace L2
open PySem PySem.Spec PyProof.Rows PySem.W
section
end
section
end
section
end
def KV.getV (r:KV kvs vs):∀ {i:Nat} {p:qt×V},kvs[i]?=U p->∃v,vs[i]?=U (p.1,v)/\ia p.2 v:=by
 induction r with
 | nil=>intro i p h;simp at h
 | cons c _ e=>
  intro i p h;cases i with
  | zero=>
   rename_i b a _ _ _
   let h:b=p:=by simpa using h
   subst h;exact#[a.2,by show U a=U (b.1,a.2);rw[c.1],c.2]
  | succ i=>
   let#[v,d,f]:=e (~~~h);calc#[v,~~~d,f]
noncomputable def FX (o:Obj)(kvs:List (qt×V))(a:AD):It:=
 #[λi H=>H a=U (.frz o (.dK kvs))/\i<⇑kvs,λi H x b=>b=H/\∃p,kvs[i]?=U p/\x=p.2,λi H=>H a=U (.frz o (.dK kvs))/\⇑kvs<=i]
def Zhd {P:AG}{w:AI}{K:qj}{tg:Expr}{o:Obj}{es:Array DictEntry}{ep:Nat}{kvs:List (qt×V)}(a it:AD)(t:o.data=.dict es ep):kz P w K tg (FX o kvs a) [it] it (λi h=>h.IsValIter it a i ⇑kvs ep) where
 mem:=by simp
 obj:=λi h f b g=>by
  let e:b=it:=by simpa using g
  subst e;let#[o,e,c,d]:=f;exact#[o,e,λv z=>by rw[d]at z;cases z]
 keep:=λi h p f k=>let ⟨o,ho,r⟩:=f;#[o,k it {} o ho,r]
 item:=by intro X x B S hc i W s σ H E I q f L;subst x B S;let#[C,l]:=L;let#[e,z,y,vs,r,o',G,Q,m,N,n,M]:=I.hok a _ C;rw[e]at m;cases m;rw[t]at n;cases n;let#[v,hv,rv]:=KV.getV r (rD l);let#[T,D,f2,F,u,A]:=q it {};rw[⇑r]at f;calc wpAny_pyNext_values_item f #[o,es,e,N,t,M] hv λp j sb=>?_;let I1:qb X W σ H { s with heap:=p }:=I.turned (t':=s.toks) (λb o g e=>(sb.2 b g).trans e) T D F u A;let#[oi,ei,ci,di]:=id j;rw[<-⇑r]at j;exact#[v,Z,CO (s:={ s with heap:=p }) ei ci di ⋯ #[kvs[i].2,H,I1,rv,#[Z,_,rD l,Z],j,λb g=>(q b g).1]]
 done:=by intro X x B S hc i W s σ H E I q f L;subst x B S;let#[C,l]:=L;let#[e,z,y,vs,r,o',G,Q,m,N,n,M]:=I.hok a _ C;rw[e]at m;cases m;rw[t]at n;cases n;let#[T,D,f2,F,u,A]:=q it {};rw[⇑r]at f l;exact wpAny_pyNext_values_end (I.ok.hd hc) f #[o,es,e,N,t,M] (wP l) λp eb=>#[Z,I.turned (t':=s.toks) (λb o g e=>eb b o g e) T D F u A]
 self:=λ_ _ _ _ _ f h=>wpAny_pyIter_valiter f h
section
def Lk (c:TE):TI:=λσ H d=>c σ H λx b=>∃a kvs,x=.ref a/\b a=U (.dK kvs)/\∀o,d (FX o kvs a) (upd b a (.frz o (.dK kvs)))
def Zj0 (M:PE X o td)(c:autoParam (attributeBase o "values" X.env (eval o X.env)=eval o X.env) Qq._auto_1)(d:autoParam ((ap.endLine == cp.line)=Y) Qq._auto_1):PI X tg (.Call (.Attribute o "values" ap) [] [] cp) (Lk td):=by
 intro n s σ H R_ I h;calc wpAny_Call_method (T:="dict") (id:="dict.values") c Z d EL PySem.F.slot_dict_values PySem.F.type_dict_values (qx (M n s σ H _ I h) λu f A=>?_);let#[x,F,v,P,a,kvs,B,p,q]:=A;subst B;obtain rfl:u=Value.ref a:=P;let#[V,Q,w,r,dd]:=CG v.hok p;let#[j,S,G,m,y,k,C]:=id dd;refine#[dd.typeIs,λb z=>?_,?_]
 .cases z;exact#[j,m,y.2.1]
 calc method_meetsIn PySem.F.slot_dict_values PySem.F.entry_dict_values Z (PySem.evalArgs_none #[Z,dd.typeIs,PySem.F.args_dict_values_1 _,_,meets_dict_values _ a Q,#[w,dd],?_]);let#[W,E,L,g,i,N]:=v.freezeD p;rw[m]at i;cases i;rw[k]at g;cases g;generalize hg2:f.heap.push { cls:=.type "dict_values",data:=.fields ↑[.ref a] }=g2;let t:∀b o,f.heap.get? b=U o->g2.get? b=U o:=λb o e=>by rw[<-hg2];exact qU _ e
 let K:g2.IsValuesView ↥f a:=#[_,by rw[<-hg2];calc rS _ Z,Z,Z];let l:qb X n σ (upd F a (.frz j (.dK kvs))) { f with heap:=g2 }:=N.kept (t':=f.toks) t;calc wpAny_pyIter_values (s:={ f with heap:=g2 }) K (show g2.DictAt (rG X.prog X.w) a w G from#[j,S,t _ _ m,y,k,C]) ?_;calc#[g2.objs.size,[g2.objs.size],_,_,_,Z,l.kept (t':=f.toks) λb o e=>qU _ e,Zhd (kvs:=kvs) a _ k,#[_,rS _ Z,Z,by rw[⇑r];rfl],λb D=>?_,q j];let e:b=g2.objs.size:=by simpa using D
 subst e;calc l.fpOk (qG _) (l.hok.fresh (qG _))
end
section
end
section
end
end L2
namespace PySem
noncomputable def pO (h:Heap)(d:AD)(es:Array DictEntry)(a:Nat):Prop:=∃o,h.get? d=U o/\o.ExactDict/\o.data=.dict es a
section
def pO.at (x:pO h d es ep)(e:∀o,h.get? d=U o->h'.get? d=U o):pO h' d es ep:=let ⟨o,ho,r⟩:=x;#[o,e _ ho,r]
end
end PySem
namespace L2
open PySem PySem.Spec PyProof.Rows PySem.W
def KT.at (r:KT H kvs xs):∀(i:Nat)(x:List qt×V)(u:List qt×AD×Value),kvs[i]?=U x->xs[i]?=U u->ia x.2 u.2.2:=by
 induction r with
 | nil=>intro i x u h;simp at h
 | cons e _ f=>
  intro i x u a b;cases i with
  | zero=>
   let c:=Option.some.inj a;let d:=Option.some.inj b;rw[<-c,<-d];exact e.2.2
  | succ i=>calc f i x u (~~~a) (~~~b)
section
end
end L2
namespace L2
open PySem PySem.Spec PyProof.Rows
section
def ib.keys (b:Nat->Bool)(f:Nat->V)(E:⇑kvs<=100000)(u:H a=U (.frz o (.dK kvs)))
  (D:∀i p c j,kvs[i]?=U p->g7 H c->(∀H'',g7 c H''->j (b i) H'')->tt (τ0.set 0 (U (kV p.1))) c j)
  (B:∀i p c j,kvs[i]?=U p->b i=Y->g7 H c->(∀H'',g7 c H''->j (f i) H'')->te (τ0.set 0 (U (kV p.1))) c j)
  (C:∀p c,g7 H c->H p=O->c p=U (.lst (((List.range ⇑kvs).filter b).map f))->Q (.ref p) c):ib (DD o kvs a) τ0 (uD 0) tt te H Q:=by
 intro g r;calc#[λi m τ n=>i<=⇑kvs/\m=⇑kvs-i/\(∀w:Option V,τ.set 0 w=τ0.set 0 w)/\g7 H n/\n g=U (.lst (((List.range i).filter b).map f)),#[⇑kvs,rM _,Z,λ_=>rfl,rm r,qu],?_];rintro i m τ n ⟨G,rfl,t,h,s⟩;by_cases A:i<⇑kvs
 .refine .inr #[#[h _ _ u,A],λk c=>(∀w:Option V,k.set 0 w=τ0.set 0 w)/\g7 H c/\c g=U (.lst (((List.range (i+1)).filter b).map f)),λk c q=>#[⇑kvs-(i+1),∅,A,Z,q],λx I y=>?_];let#[Z,p,v,Z]:=y;show tt (τ.set 0 (U (kV p.1))) _ _;rw[t];let d:∀w:Option V,(τ0.set 0 (U (kV p.1))).set 0 w=τ0.set 0 w:=λw=>by rw[List.set_set]
  calc D i p _ _ v h λF l=>?_;cases hb:b i with
  | false=>
   rw[qe qO];calc#[d,h.trans l,?_];rw[l _ _ s,wX,x9];simp[hb]
  | true=>
   rw[qg Z];refine B i p _ _ v hb (h.trans l) λK z=>#[_,z _ _ (l _ _ s),?_,d,jU r ((h.trans l).trans z),?_]
   .rw[qm];have:=ug b (List.range i);rw[uY]at this;rw[sizeLine_eq];lia
   .rw[qu,wX,x9];simp[hb]
 .let e:i=⇑kvs:=by lia
  subst e;calc .inl #[#[h _ _ u,qG _],C g n h r s]
end
section
end
instance (l w:p9) (i:Nat):Decidable (sP l w i):=by unfold sP;infer_instance
def GW (l S:p9)(c:Nat):p9:=(S.filter λs=>R (l[s]?=U c)).map (· + 1)
def GE (l:p9):p9:=(List.range (⇑l+1)).filter λi=>R (∀j,j<i->¬sP l (l.drop i) j)
def x0 (l w:p9):p9:=((GE l).filter λi=>R (sP l w i)).map (· + ⇑w)
theorem Ez {α:Type}[DecidableEq α]:∀(l m:List α),l.Nodup->(∀x∈l,x∈m)->⇑l<=⇑m
 | [],m,_,_=>rM _
 | x::l,m,nd,h=>by
  let hx:=h x sA;let a:=uX.mp nd;have:=Ez l (m.erase x) a.2 λy b=>(List.mem_erase_of_ne (λe=>by rw[e]at b;calc a.1 b)).mpr (h y (si _ b));rw[List.length_erase_of_mem hx]at this;let c:0<⇑m:=List.length_pos_of_mem hx;rw[rF]
  lia
def Way (l:p9)(sp:qi)(s:p9)(c:Nat)(v:Option V):Prop:=(GW l s c=[]/\v=O)\/(GW l s c≠[]/\∃j:Nat,sp[j]?=U (GW l s c)/\v=U (.int (j:Int)))
def Rd.same (h:Rd H a u)(s:g7 H H'):Rd H' a u:=h.elim (λh=>.inl (s _ _ h)) λ⟨o,h⟩=>.inr #[o,s _ _ h]
def ZsO (H:Hp)(l m:p9)(sp:qi)(i:Nat)(y:V):Prop:=∃(t d:AD) (w:p9) (kvs:List (qt×V)),y=.ref t/\H t=U (.tup [tx w,.ref d])/\Rd H d (.dK kvs)/\qI w l/\⇑w<=⇑l/\sp[i]?=U (x0 l w)/\∀c∈m,Way l sp (x0 l w) c (hW kvs (qf [c]))
structure MachOk (H:Hp)(l m:p9)(sp:qi)(ys:NU):Prop where
 first:sp[0]?=U (GE l)
 len:⇑ys=⇑sp
 nd:sp.Nodup
 rooms:∀i y,ys[i]?=U y->ZsO H l m sp i y
structure Numb (l m:p9)(ws:qi):Prop where
 srt:ws.Pairwise iM
 st:∀w∈ws,qI w l
 nd:∀u∈ws,∀v∈ws,x0 l u=x0 l v->u=v
 nil:[]∈ws
 cl:∀w∈ws,∀c∈m,qI (w++[c]) l->∃u∈ws,x0 l u=x0 l (w++[c])/\¬iM (w++[c]) u
structure Grow (l m:p9)(ws:qi)(n k:Nat):Prop where
 srt:ws.Pairwise iM
 nil:[]∈ws
 frm:∀w∈ws,w=[]\/∃(i:Nat)(v:p9)(c:Nat),ws[i]?=U v/\w=v++[c]/\(i<n\/(i=n/\c∈m.take k))
 dn:∀(i:Nat)(v:p9),ws[i]?=U v->∀c∈m,(i<n\/(i=n/\c∈m.take k))->qI (v++[c]) l->∃u∈ws,x0 l u=x0 l (v++[c])/\¬iM (v++[c]) u
structure Firs {κ:Type}(f:p9->κ)(ks ds:qi):Prop where
 srt:ds.Pairwise iM
 sub:∀d∈ds,d∈ks
 all:∀w∈ks,∃u∈ds,f u=f w/\¬iM w u
 one:∀u∈ds,∀v∈ds,f u=f v->u=v
def Firs.nil (f:p9->κ):Firs f [] []:=#[.nil,(λ_ h=>by cases h),(λ_ h=>by cases h),(λ_ h=>by cases h)]
end L2
set_option maxHeartbeats 400000000
namespace Pk86
open PySem L2
noncomputable def qD (i:Nat):Stmt:=PySem.Challenge.pw_lackword_k86_lines_that_move.main.body.getD i (.Pass #[0,0,0,0])
abbrev mj:Stmt:=qD 25
abbrev pj:Stmt:=qD 26
abbrev mO:Stmt:=qD 27
abbrev oU:Stmt:=qD 28
abbrev og:Stmt:=qD 29
abbrev nE:Stmt:=qD 30
abbrev pI:Stmt:=qD 31
abbrev nM:Stmt:=qD 34
abbrev oC:Stmt:=qD 35
abbrev oE:Stmt:=qD 37
abbrev pK:Stmt:=qD 41
abbrev nO:Stmt:=qD 55
abbrev pA:Stmt:=qD 56
abbrev pN:Stmt:=qD 58
abbrev oW:Stmt:=qD 59
abbrev mL:Stmt:=qD 60
abbrev oR:Stmt:=qD 61
abbrev nJ:Stmt:=qD 62
abbrev m8:Stmt:=qD 64
abbrev mY:Stmt:=qD 65
abbrev nj:Stmt:=qD 66
abbrev oq:Stmt:=qD 73
abbrev mt:Stmt:=qD 78
abbrev mG:Stmt:=qD 85
abbrev ph:Stmt:=qD 86
abbrev mi:Stmt:=qD 87
abbrev oz:Stmt:=qD 88
abbrev pG:Stmt:=qD 89
abbrev oP:Stmt:=qD 90
abbrev mC:Stmt:=qD 91
abbrev mH:Stmt:=qD 106
abbrev mf:Stmt:=qD 107
abbrev pJ:Stmt:=qD 108
abbrev pB:Stmt:=qD 111
abbrev mM:Stmt:=qD 112
abbrev on:Stmt:=qD 113
abbrev oI:Stmt:=qD 115
abbrev ot:Stmt:=qD 116
abbrev pC:Stmt:=qD 117
abbrev o9:Stmt:=qD 118
abbrev oX:Stmt:=qD 119
abbrev m7:Stmt:=qD 120
abbrev oY:Stmt:=qD 121
abbrev m6:Stmt:=qD 122
abbrev oj:Stmt:=qD 123
abbrev m9:Stmt:=qD 135
abbrev oV:Stmt:=qD 136
abbrev mS:Stmt:=qD 137
abbrev GQ:Stmt:=qD 138
abbrev nQ:Stmt:=qD 140
abbrev py:Stmt:=qD 141
abbrev oG:Stmt:=qD 142
abbrev mK:Stmt:=qD 143
abbrev pQ:Stmt:=qD 144
abbrev oo:Stmt:=qD 145
abbrev ml:Stmt:=qD 146
abbrev oO:Stmt:=qD 147
abbrev oN:Stmt:=qD 148
abbrev mN:Stmt:=qD 149
abbrev FU:Stmt:=qD 150
abbrev Gz:Stmt:=ie (qD 12) 0
abbrev Gv:Stmt:=ie (qD 13) 0
abbrev pR:Stmt:=ie (qD 38) 0
abbrev pz:Stmt:=ie (qD 38) 1
abbrev nY:Stmt:=ie (qD 38) 2
abbrev mD:Stmt:=ie (qD 38) 3
abbrev pi:Stmt:=ie (qD 38) 4
abbrev oH:Stmt:=ie (qD 38) 7
abbrev o4:Stmt:=ie (qD 38) 8
abbrev mT:Stmt:=ie (qD 39) 0
abbrev pU:Stmt:=ie (qD 79) 0
abbrev oS:Stmt:=ie (qD 79) 1
abbrev mI:Stmt:=ie (qD 79) 2
abbrev oQ:Stmt:=ie (qD 79) 3
abbrev nP:Stmt:=ie (qD 79) 4
abbrev pE:Stmt:=ie (qD 79) 5
abbrev nV:Stmt:=ie (qD 79) 6
abbrev mV:Stmt:=ie (qD 79) 7
abbrev mX:Stmt:=ie (qD 79) 8
abbrev mR:Stmt:=ie (qD 79) 9
abbrev mJ:Stmt:=ie (qD 79) 10
abbrev mU:Stmt:=ie (qD 109) 0
abbrev mQ:Stmt:=ie (qD 109) 1
abbrev pP:Stmt:=ie (qD 109) 2
abbrev o8:Stmt:=ie (qD 109) 3
abbrev oZ:Stmt:=ie (qD 109) 4
abbrev nD:Stmt:=ie (qD 109) 5
abbrev nv:Stmt:=ie (qD 109) 6
abbrev oJ:Stmt:=ie (qD 109) 7
abbrev om:Stmt:=ie (qD 109) 8
abbrev mP:Stmt:=ie (qD 109) 9
abbrev mZ:Stmt:=ie (qD 133) 0
abbrev pH:Stmt:=ie (qD 133) 1
set_option genInjectivity false
structure Ad where
 (c_LH c_L9 c_LI c_M6 c_M4 c_L8 c_M3 c_MP c_MQ c_MR c_M5 ak aj bC bD bE bF bG bH bI bf bg bJ bK bL bM bO bP bQ bR bS bT bh bU bV bW bX bY bZ b8 ce cf bi cg f_LS f_LU f_L5 f_LM f_LB f_LP f_KQ f_LT f_MO f_MT f_MX f_LO f_MF f_LV f_M2 f_MG f_NA f_MV f_L6 f_L7 f_LW f_LC f_L4 f_LA f_LN f_L2 f_LR f_L3 f_LX f_M7 f_MW f_MH f_MN f_LD f_KR f_KS f_L1 f_MD f_MS f_MB f_MA f_MC f_L0 f_ME f_LZ f_MY f_MZ f_MJ f_row f_ML f_MI f_MK f_M8 f_MM f_M0 f_MU f_M9 f_M1 f_NB f_law t_LT k_LT v_FORMS v_ANSWERS:AD)
 (ay ao cJ cK cL cM cN cO cP cQ cR cS cT cU cV cW cX cY cZ c7 c9 db dc de df dh dj dm du dv dw dC dD d_LS d_LU d_L5 d_LM d_LB d_LP d_KQ d_LT d_MO d_MT d_MX d_LO d_MF d_LV d_M2 d_MG d_NA d_MV d_L6 d_L7 d_LW d_LC d_L4 d_LA d_LN d_L2 d_LR d_L3 d_LX d_M7 d_MW d_MH d_MN d_LD d_KR d_KS d_L1 d_MD d_MS d_MB d_MA d_MC d_L0 d_ME d_LZ d_MY d_MZ d_MJ d_row d_ML d_MI d_MK d_M8 d_MM d_M0 d_MU d_M9 d_M1 d_NB d_law:AF)
structure Txt (K:qj)(mg:AB)(a:Ad):Prop where
 d7:DF K mg "has_only" mj a.f_LS a.d_LS ["text","letters"]
 fL:DF K mg "is_kinds" pj a.f_LU a.d_LU ["thing"]
 eI:DF K mg "is_word" mO a.f_L5 a.d_L5 ["thing","kinds","most"]
 fA:DF K mg "is_letter" oU a.f_LM a.d_LM ["thing","kinds"]
 dN:DF K mg "need_kinds" og a.f_LB a.d_LB ["thing"]
 fB:DF K mg "need_word" nE a.f_LP a.d_LP ["thing","kinds","most"]
 eC:DF K mg "need_letter" pI a.f_KQ a.d_KQ ["thing","kinds"]
 dO:DF K mg "in_order" nM a.f_LT a.d_LT ["words"]
 gq:DF K mg "pieces" oC a.f_MO a.d_MO ["text","length"]
 gC:DF K mg "lacking_among" oE a.f_MT a.d_MT ["shorter","standing","kinds"]
 gD:DF K mg "lacks" pK a.f_MX a.d_MX ["text","word"]
 fC:DF K mg "need_list" nO a.f_LO a.d_LO ["words","kinds"]
 fZ:DF K mg "avoids" pA a.f_MF a.d_MF ["words","word"]
 fM:DF K mg "refuse_inside" pN a.f_LV a.d_LV ["words"]
 gE:DF K mg "stems_of" oW a.f_M2 a.d_M2 ["words"]
 gt:DF K mg "ending_stem" mL a.f_MG a.d_MG ["stems","text"]
 gK:DF K mg "ways_between" oR a.f_NA a.d_NA ["words","kinds"]
 gF:DF K mg "stems_that_end" nJ a.f_MV a.d_MV ["ways"]
 f6:DF K mg "longest_word" m8 a.f_L6 a.d_L6 ["ways","ended"]
 f8:DF K mg "refuse_split" mY a.f_L7 a.d_L7 ["words","kinds","text"]
 fN:DF K mg "strip_of" nj a.f_LW a.d_LW ["words","kinds"]
 eO:DF K mg "need_same_kinds" oq a.f_LC a.d_LC ["one","other"]
 eZ:DF K mg "is_name" mt a.f_L4 a.d_L4 ["thing"]
 eP:DF K mg "is_letters" mG a.f_LA a.d_LA ["word"]
 eJ:DF K mg "is_number" ph a.f_LN a.d_LN ["word"]
 f9:DF K mg "is_as_told" mi a.f_L2 a.d_L2 ["word","form"]
 fO:DF K mg "forms_of" oz a.f_LR a.d_LR ["verb","many"]
 gb:DF K mg "is_line" pG a.f_L3 a.d_L3 ["words"]
 fP:DF K mg "value_of" oP a.f_LX a.d_LX ["word"]
 gL:DF K mg "read" mC a.f_M7 a.d_M7 ["line"]
 gA:DF K mg "fresh_words" mH a.f_MW a.d_MW ["lesser","longer"]
 gc:DF K mg "filled" mf a.f_MH a.d_MH ["lesser","longer","reason"]
 ge:DF K mg "opened" pJ a.f_MN a.d_MN ["lesser","longer","kinds","reason"]
 dM:DF K mg "told_parts" pB a.f_LD a.d_LD ["parts"]
 eD:DF K mg "told_beside" mM a.f_KR a.d_KR ["one","other"]
 dP:DF K mg "told_change" on a.f_KS a.d_KS ["change"]
 e8:DF K mg "answer_strip" oI a.f_L1 a.d_L1 ["shelf","given"]
 fQ:DF K mg "answer_take" ot a.f_MD a.d_MD ["shelf","given"]
 gg:DF K mg "answer_put" pC a.f_MS a.d_MS ["shelf","given"]
 fR:DF K mg "answer_drop" o9 a.f_MB a.d_MB ["shelf","given"]
 fS:DF K mg "answer_back" oX a.f_MA a.d_MA ["shelf","given"]
 fT:DF K mg "answer_from" m7 a.f_MC a.d_MC ["shelf","given"]
 fh:DF K mg "answer_names" oY a.f_L0 a.d_L0 ["shelf","given"]
 fU:DF K mg "answer_text" m6 a.f_ME a.d_ME ["shelf","given"]
 fk:DF K mg "answer_lacks" oj a.f_LZ a.d_LZ ["shelf","given"]
 gB:DF K mg "_law_cell_at" m9 a.f_MY a.d_MY ["_law_script","_law_k"]
 dW:DF K mg "_law_mixed" oV a.f_MZ a.d_MZ ["_law_cell","_law_k"]
 gu:DF K mg "_law_kinds" mS a.f_MJ a.d_MJ ["_law_cell"]
 gO:DF K mg "_law_row" GQ a.f_row a.d_row ["_law_cell","_law_kinds_here","_law_size"]
 gf:DF K mg "_law_shown" nQ a.f_ML a.d_ML ["_law_text_here"]
 eQ:DF K mg "_law_listed" py a.f_MI a.d_MI ["_law_words_here"]
 gx:DF K mg "_law_names" oG a.f_MK a.d_MK ["_law_cell","_law_many"]
 gI:DF K mg "_law_said" mK a.f_M8 a.d_M8 ["_law_desk","_law_line"]
 fV:DF K mg "_law_words" pQ a.f_MM a.d_MM ["_law_answer"]
 gG:DF K mg "_law_moved" oo a.f_M0 a.d_M0 ["_law_strip","_law_word","_law_letter"]
 gh:DF K mg "_law_begun" ml a.f_MU a.d_MU ["_law_kept","_law_name","_law_text_here","_law_kinds_here"]
 gM:DF K mg "_law_step" oO a.f_M9 a.d_M9 ["_law_desk","_law_kept","_law_names_here","_law_kinds_here","_law_cell"]
 gH:DF K mg "_law_right" oN a.f_M1 a.d_M1 ["_law_desk","_law_kept","_law_name"]
 gJ:DF K mg "_law_wide" mN a.f_NB a.d_NB ["_law_cell"]
 gQ:DF K mg "law" FU a.f_law a.d_law ["_law_script"]
 m_LH:mg "LackError"=U (.ref a.c_LH)
 x_LH:Xm K a.c_LH
 xi_LH:Xi K a.c_LH
 k_LH:jd K a.c_LH [.ref a.c_LH,.type "ValueError",.type "Exception",.type "BaseException",.type "object"]
 i_LH:findIn K (.ref a.c_LH) "__init__"=U (U (.builtin "ValueError.__init__"))
 r_LH:jc K a.c_LH "__init__" (.builtin "ValueError.__init__")
 dH:mg "NoName"=U (.ref a.c_L9)
 cj:Xm K a.c_L9
 xi_L9:Xi K a.c_L9
 cD:jd K a.c_L9 [.ref a.c_L9,.ref a.c_LH,.type "ValueError",.type "Exception",.type "BaseException",.type "object"]
 dI:findIn K (.ref a.c_L9) "__init__"=U (U (.ref a.ak))
 dE:isFn K (.ref a.ak)=Y
 aH:ik K a.c_L9 "name"
 fi_L9:uE K "__init__" "NoName.__init__" Gz a.ak a.ay
 b_L9:iP K a.ay ["self","name"] []
 m_LI:mg "NameThere"=U (.ref a.c_LI)
 cE:Xm K a.c_LI
 xi_LI:Xi K a.c_LI
 cF:jd K a.c_LI [.ref a.c_LI,.ref a.c_LH,.type "ValueError",.type "Exception",.type "BaseException",.type "object"]
 i_LI:findIn K (.ref a.c_LI) "__init__"=U (U (.ref a.aj))
 dJ:isFn K (.ref a.aj)=Y
 aD:ik K a.c_LI "name"
 fi_LI:uE K "__init__" "NameThere.__init__" Gv a.aj a.ao
 b_LI:iP K a.ao ["self","name"] []
 m_M6:mg "Full"=U (.ref a.c_M6)
 x_M6:Xm K a.c_M6
 xi_M6:Xi K a.c_M6
 cG:jd K a.c_M6 [.ref a.c_M6,.ref a.c_LH,.type "ValueError",.type "Exception",.type "BaseException",.type "object"]
 i_M6:findIn K (.ref a.c_M6) "__init__"=U (U (.builtin "ValueError.__init__"))
 m_M4:mg "Bare"=U (.ref a.c_M4)
 x_M4:Xm K a.c_M4
 xi_M4:Xi K a.c_M4
 cH:jd K a.c_M4 [.ref a.c_M4,.ref a.c_LH,.type "ValueError",.type "Exception",.type "BaseException",.type "object"]
 i_M4:findIn K (.ref a.c_M4) "__init__"=U (U (.builtin "ValueError.__init__"))
 m_L8:mg "NoBack"=U (.ref a.c_L8)
 x_L8:Xm K a.c_L8
 xi_L8:Xi K a.c_L8
 cI:jd K a.c_L8 [.ref a.c_L8,.ref a.c_LH,.type "ValueError",.type "Exception",.type "BaseException",.type "object"]
 i_L8:findIn K (.ref a.c_L8) "__init__"=U (U (.builtin "ValueError.__init__"))
 m_M3:mg "Band"=U (.ref a.c_M3)
 dF:jc K a.c_M3 "__init__" (.ref a.bC)
 cl_M3:uP K a.c_M3
 k_M3:jd K a.c_M3 [.ref a.c_M3,.type "object"]
 m_MP:mg "Plain"=U (.ref a.c_MP)
 cr_MP:jc K a.c_MP "__init__" (.ref a.bf)
 aZ:uP K a.c_MP
 bj:Mk K a.c_MP a.bf
 aC:iN K a.c_MP "words" a.bG
 az:iN K a.c_MP "laid_out" a.bF
 aE:iN K a.c_MP "reach" a.bH
 aw:iN K a.c_MP "lacking" a.bI
 ax:ik K a.c_MP "own_text"
 aA:ik K a.c_MP "own_kinds"
 aI:ik K a.c_MP "own_lacking"
 aO:ik K a.c_MP "own_deeds"
 aL:ik K a.c_MP "own_strips"
 aQ:ik K a.c_MP "own_shelf"
 ty_MP:∀ {H:Hp} {x dx:AD} {fs:List (Str×V)},H x=U (.ins a.c_MP dx fs)->ju K H (.ref x) (.ref a.c_MP)
 m_MQ:mg "Shelf"=U (.ref a.c_MQ)
 cr_MQ:jc K a.c_MQ "__init__" (.ref a.bg)
 aq:uP K a.c_MQ
 ck:Mk K a.c_MQ a.bg
 ba:iN K a.c_MQ "kinds" a.bJ
 bo:iN K a.c_MQ "need_free" a.bK
 bp:iN K a.c_MQ "lay" a.bL
 cn:iN K a.c_MQ "names" a.bM
 a9:iN K a.c_MQ "kept" a.bO
 bq:iN K a.c_MQ "shown" a.bP
 cq:iN K a.c_MQ "take" a.bQ
 cu:iN K a.c_MQ "put" a.bR
 cz:iN K a.c_MQ "drop" a.bS
 cA:iN K a.c_MQ "back" a.bT
 aV:ik K a.c_MQ "own_text"
 aB:ik K a.c_MQ "own_kinds"
 aJ:ik K a.c_MQ "own_lacking"
 aR:ik K a.c_MQ "own_deeds"
 ag:ik K a.c_MQ "own_strips"
 aS:ik K a.c_MQ "own_shelf"
 ty_MQ:∀ {H:Hp} {x dx:AD} {fs:List (Str×V)},H x=U (.ins a.c_MQ dx fs)->ju K H (.ref x) (.ref a.c_MQ)
 dG:mg "Strip"=U (.ref a.c_MR)
 cr_MR:jc K a.c_MR "__init__" (.ref a.bh)
 ad:uP K a.c_MR
 k_MR:jd K a.c_MR [.ref a.c_MR,.ref a.c_M3,.type "object"]
 bb:Mk K a.c_MR a.bh
 aF:iN K a.c_MR "kinds" a.bD
 am:iN K a.c_MR "text" a.bE
 cB:iN K a.c_MR "deeds" a.bV
 br:iN K a.c_MR "lacking" a.bU
 bc:iN K a.c_MR "put" a.bW
 bt:iN K a.c_MR "drop" a.bX
 bu:iN K a.c_MR "back" a.bY
 bv:iN K a.c_MR "grow" a.bZ
 bw:iN K a.c_MR "shrink" a.b8
 bz:iN K a.c_MR "change" a.ce
 bB:iN K a.c_MR "copied" a.cf
 aa:ik K a.c_MR "own_text"
 ai:ik K a.c_MR "own_kinds"
 ah:ik K a.c_MR "own_lacking"
 af:ik K a.c_MR "own_deeds"
 aM:ik K a.c_MR "own_strips"
 aT:ik K a.c_MR "own_shelf"
 ty_MR:∀ {H:Hp} {x dx:AD} {fs:List (Str×V)},H x=U (.ins a.c_MR dx fs)->ju K H (.ref x) (.ref a.c_MR)
 m_M5:mg "Desk"=U (.ref a.c_M5)
 cr_M5:jc K a.c_M5 "__init__" (.ref a.bi)
 aG:uP K a.c_M5
 cC:Mk K a.c_M5 a.bi
 a8:iN K a.c_M5 "say" a.cg
 a7:ik K a.c_M5 "own_text"
 aW:ik K a.c_M5 "own_kinds"
 aN:ik K a.c_M5 "own_lacking"
 aX:ik K a.c_M5 "own_deeds"
 aU:ik K a.c_M5 "own_strips"
 ae:ik K a.c_M5 "own_shelf"
 ty_M5:∀ {H:Hp} {x dx:AD} {fs:List (Str×V)},H x=U (.ins a.c_M5 dx fs)->ju K H (.ref x) (.ref a.c_M5)
 eK:MF K "__init__" "Band.__init__" pR a.bC a.cJ ["self","text","kinds"]
 gi:MF K "kinds" "Band.kinds" pz a.bD a.cK ["self"]
 d8:MF K "text" "Band.text" nY a.bE a.cL ["self"]
 fD:MF K "laid_out" "Band.laid_out" mD a.bF a.cM ["self","length"]
 fF:MF K "words" "Band.words" pi a.bG a.cN ["self","length"]
 gj:MF K "reach" "Band.reach" oH a.bH a.cO ["self"]
 eR:MF K "lacking" "Band.lacking" o4 a.bI a.cP ["self"]
 fG:MF K "__init__" "Plain.__init__" mT a.bf a.cQ ["self","text","kinds"]
 gk:MF K "__init__" "Shelf.__init__" pU a.bg a.cR ["self","kinds"]
 dU:MF K "kinds" "Shelf.kinds" oS a.bJ a.cS ["self"]
 dZ:MF K "need_free" "Shelf.need_free" mI a.bK a.cT ["self","name"]
 fW:MF K "lay" "Shelf.lay" oQ a.bL a.cU ["self","name","strip"]
 fX:MF K "names" "Shelf.names" nP a.bM a.cV ["self"]
 dQ:MF K "kept" "Shelf.kept" pE a.bO a.cW ["self","name"]
 fz:MF K "shown" "Shelf.shown" nV a.bP a.cX ["self","name"]
 gm:MF K "take" "Shelf.take" mV a.bQ a.cY ["self","name"]
 gy:MF K "put" "Shelf.put" mX a.bR a.cZ ["self","name","letter"]
 gn:MF K "drop" "Shelf.drop" mR a.bS a.c7 ["self","name"]
 gp:MF K "back" "Shelf.back" mJ a.bT a.c9 ["self","name"]
 d9:MF K "__init__" "Strip.__init__" mU a.bh a.db ["self","kinds"]
 eG:MF K "lacking" "Strip.lacking" mQ a.bU a.dc ["self"]
 fY:MF K "deeds" "Strip.deeds" pP a.bV a.de ["self"]
 eN:MF K "put" "Strip.put" o8 a.bW a.df ["self","letter"]
 fH:MF K "drop" "Strip.drop" oZ a.bX a.dh ["self"]
 fJ:MF K "back" "Strip.back" nD a.bY a.dj ["self"]
 fK:MF K "grow" "Strip.grow" nv a.bZ a.dm ["self","longer"]
 eU:MF K "shrink" "Strip.shrink" oJ a.b8 a.du ["self","lesser"]
 eV:MF K "change" "Strip.change" om a.ce a.dv ["self","text","came","went"]
 eY:MF K "copied" "Strip.copied" mP a.cf a.dw ["self"]
 gz:MF K "__init__" "Desk.__init__" mZ a.bi a.dC ["self","kinds"]
 dR:MF K "say" "Desk.say" pH a.cg a.dD ["self","line"]
 nd:[a.c_LH,a.c_L9,a.c_LI,a.c_M6,a.c_M4,a.c_L8].Nodup
 dL:mg "len"=O
 d5:mg "range"=O
 dS:mg "isinstance"=O
 gU:mg "all"=O
 gZ:mg "max"=O
 gV:mg "min"=O
 fE:mg "list"=O
 gS:mg "tuple"=O
 gR:mg "set"=O
 eE:mg "sorted"=O
 gN:mg "str"=O
 gW:mg "int"=O
 gX:mg "bool"=O
 gT:mg "dict"=O
 g0:mg "sum"=O
 gY:mg "any"=O
 aY:mg "ValueError"=O
 c_KD:∃t,mg "SMALL_LETTERS"=U (.str (Str.ofString "abcdefghijklmnopqrstuvwxyz") t)
 c_KY:∃t,mg "MOST_KINDS"=U (.int 4 t)
 c_KC:∃t,mg "MOST_IN_STRIP"=U (.int 40 t)
 c_KX:∃t,mg "MOST_ASKED"=U (.int 60 t)
 c_KZ:∃t,mg "MOST_WORDS"=U (.int 200 t)
 c_KH:∃t,mg "MOST_IN_LIST"=U (.int 41 t)
 c_KI:∃t,mg "MOST_IN_NAME"=U (.int 8 t)
 c_KW:∃t,mg "EMPTY_WORD"=U (.str "-" t)
 c_LY:∃t,mg "FIGURES"=U (.str "0123456789" t)
 c_KG:∃t,mg "MOST_FIGURES"=U (.int 3 t)
 v_FORMS:mg "FORMS"=U (.ref a.v_FORMS)
 v_ANSWERS:mg "ANSWERS"=U (.ref a.v_ANSWERS)
 bl:∀(s:AE)(u:Value),BindsTo s a.d_law #[[u],[]] [("_law_script",u)]
structure TL (w:AI)(K:qj)(mg:AB)(base:Heap)(a:Ad)(tb:Str->AD×AD):Prop extends Txt K mg a where
 sd_FORMS:L2.Hy w K a.v_FORMS L2.kQ
 sd_ANSWERS:L2.Gq w K mg a.v_ANSWERS L2.lZ
 L_in_order:jB base mg a.k_LT a.t_LT
 cd_LT:a.d_LT.code=.ref a.k_LT
 e_LT:a.t_LT=(tb "in_order").2
def lenA {P:AC->Prop}(h:∀a,P [a]):∀us:AC,⇑us=1->P us:=by
 intro us b;cases us with
 | nil=>cases b
 | cons a us=>
  cases us with
  | nil=>exact h a
  | cons _ _=>cases b
local macro_rules | `(tactic| walk_at "b1") => `(tactic| (intro _ _ _ _ _ _; refine lenA ?_; intros; rfl))
local macro_rules | `(tactic| bv_omega) => `(tactic| walk_at "b1")
def lenB {P:AC->Prop}(h:∀a b,P [a,b]):∀us:AC,⇑us=2->P us:=by
 intro us c;cases us with
 | nil=>cases c
 | cons a us=>
  cases us with
  | nil=>cases c
  | cons b us=>
   cases us with
   | nil=>exact h a b
   | cons _ _=>cases c
local macro_rules | `(tactic| walk_at "b2") => `(tactic| (intro _ _ _ _ _ _; refine lenB ?_; intros; rfl))
local macro_rules | `(tactic| eq_refl) => `(tactic| walk_at "b2")
def lenC {P:AC->Prop}(h:∀a b c,P [a,b,c]):∀us:AC,⇑us=3->P us:=by
 intro us d;cases us with
 | nil=>cases d
 | cons a us=>
  cases us with
  | nil=>cases d
  | cons b us=>
   cases us with
   | nil=>cases d
   | cons c us=>
    cases us with
    | nil=>exact h a b c
    | cons _ _=>cases d
local macro_rules | `(tactic| walk_at "b3") => `(tactic| (intro _ _ _ _ _ _; refine lenC ?_; intros; rfl))
def lenD {P:AC->Prop}(h:∀a b c d,P [a,b,c,d]):∀us:AC,⇑us=4->P us:=by
 intro us e;cases us with
 | nil=>cases e
 | cons a us=>
  cases us with
  | nil=>cases e
  | cons b us=>
   cases us with
   | nil=>cases e
   | cons c us=>
    cases us with
    | nil=>cases e
    | cons d us=>
     cases us with
     | nil=>exact h a b c d
     | cons _ _=>cases e
local macro_rules | `(tactic| walk_at "b4") => `(tactic| (intro _ _ _ _ _ _; refine lenD ?_; intros; rfl))
def lenE {P:AC->Prop}(h:∀a b c d e,P [a,b,c,d,e]):∀us:AC,⇑us=5->P us:=by
 intro us f;cases us with
 | nil=>cases f
 | cons a us=>
  cases us with
  | nil=>cases f
  | cons b us=>
   cases us with
   | nil=>cases f
   | cons c us=>
    cases us with
    | nil=>cases f
    | cons d us=>
     cases us with
     | nil=>cases f
     | cons e us=>
      cases us with
      | nil=>exact h a b c d e
      | cons _ _=>cases f
local macro_rules | `(tactic| walk_at "b5") => `(tactic| (intro _ _ _ _ _ _; refine lenE ?_; intros; rfl))
theorem txt_mk (X:K.In h)(G:h.Ns mainGlobals mg){f:ClassData}{g:ClassData}{v_FORMS:AD}{v_ANSWERS:AD}{c_LH c_L9 ak c_LI aj c_M6 c_M4 c_L8 bC bD bE bF bG bH bI bf bg bJ bK bL bM bO bP bQ bR bS bT bh bU bV bW bX bY bZ b8 ce cf bi cg c_M3 c_MP c_MQ c_MR c_M5 f_LS f_LU f_L5 f_LM f_LB f_LP f_KQ f_LT f_MO f_MT f_MX f_LO f_MF f_LV f_M2 f_MG f_NA f_MV f_L6 f_L7 f_LW f_LC f_L4 f_LA f_LN f_L2 f_LR f_L3 f_LX f_M7 f_MW f_MH f_MN f_LD f_KR f_KS f_L1 f_MD f_MS f_MB f_MA f_MC f_L0 f_ME f_LZ f_MY f_MZ f_MJ f_row f_ML f_MI f_MK f_M8 f_MM f_M0 f_MU f_M9 f_M1 f_NB f_law t_LT k_LT:AD}{ay ao cJ cK cL cM cN cO cP cQ cR cS cT cU cV cW cX cY cZ c7 c9 db dc de df dh dj dm du dv dw dC dD d_LS d_LU d_L5 d_LM d_LB d_LP d_KQ d_LT d_MO d_MT d_MX d_LO d_MF d_LV d_M2 d_MG d_NA d_MV d_L6 d_L7 d_LW d_LC d_L4 d_LA d_LN d_L2 d_LR d_L3 d_LX d_M7 d_MW d_MH d_MN d_LD d_KR d_KS d_L1 d_MD d_MS d_MB d_MA d_MC d_L0 d_ME d_LZ d_MY d_MZ d_MJ d_row d_ML d_MI d_MK d_M8 d_MM d_M0 d_MU d_M9 d_M1 d_NB d_law:AF}{ab W N V bd al b6 Q bN a1:Tok}
  (Ax:XG K "LackError" c_LH [.ref c_LH,.type "ValueError",.type "Exception",.type "BaseException",.type "object"])
  (i_LH:findIn K (.ref c_LH) "__init__"=U (U (.builtin "ValueError.__init__")))
  (a4:specialIn K (.ref c_LH) "__getattribute__"=U (U (.builtin "type.__getattribute__")))
  (ap:readsIn K c_LH (.type "type")=Y)
  (E:findCls K (.ref c_LH) (.type "type") "__init__"=U (.val (.builtin "ValueError.__init__")))
  (A0:XG K "NoName" c_L9 [.ref c_L9,.ref c_LH,.type "ValueError",.type "Exception",.type "BaseException",.type "object"])
  (dI:findIn K (.ref c_L9) "__init__"=U (U (.ref ak)))
  (AV:MG K "__init__" "NoName.__init__" Gz ak ay)
  (aH:findIn K (.ref c_L9) "name"=U O)
  (Ay:XG K "NameThere" c_LI [.ref c_LI,.ref c_LH,.type "ValueError",.type "Exception",.type "BaseException",.type "object"])
  (i_LI:findIn K (.ref c_LI) "__init__"=U (U (.ref aj)))
  (AU:MG K "__init__" "NameThere.__init__" Gv aj ao)
  (aD:findIn K (.ref c_LI) "name"=U O)
  (Aw:XG K "Full" c_M6 [.ref c_M6,.ref c_LH,.type "ValueError",.type "Exception",.type "BaseException",.type "object"])
  (i_M6:findIn K (.ref c_M6) "__init__"=U (U (.builtin "ValueError.__init__")))
  (Au:XG K "Bare" c_M4 [.ref c_M4,.ref c_LH,.type "ValueError",.type "Exception",.type "BaseException",.type "object"])
  (i_M4:findIn K (.ref c_M4) "__init__"=U (U (.builtin "ValueError.__init__")))
  (Az:XG K "NoBack" c_L8 [.ref c_L8,.ref c_LH,.type "ValueError",.type "Exception",.type "BaseException",.type "object"])
  (i_L8:findIn K (.ref c_L8) "__init__"=U (U (.builtin "ValueError.__init__")))
  (b:specialIn K (.builtin "object.__class__") "__get__"=U (U (.builtin "getset_descriptor.__get__")))
  (c:takesIn K (.builtin "object.__class__")=U Y)
  (ch:nsIn K mainGlobals "Band"=U (U (.ref c_M3)))
  (I:plainGet K c_M3 Str.empty=Y)
  (an:hasDictIn K c_M3=Y)
  (cb:plainOver K c_M3=Y)
  (a2:findIn K (.ref c_M3) "__setattr__"=U (U (.builtin "object.__setattr__")))
  (P:specialIn K (.ref c_M3) "__getattribute__"=U (U (.builtin "type.__getattribute__")))
  (au:readsIn K c_M3 (.type "type")=Y)
  (bm:findCls K (.ref c_M3) (.type "type") "__init__"=U (.val (.ref bC)))
  (bA:clsIn K c_M3=U f)
  (b2:f.mro=[.ref c_M3,.type "object"])
  (av:typeIn K (.ref c_M3)=U (.type "type"))
  (ci:nsIn K mainGlobals "Plain"=U (U (.ref c_MP)))
  (x:plainGet K c_MP Str.empty=Y)
  (A:hasDictIn K c_MP=Y)
  (p:plainOver K c_MP=Y)
  (w:findIn K (.ref c_MP) "__setattr__"=U (U (.builtin "object.__setattr__")))
  (M:specialIn K (.ref c_MP) "__getattribute__"=U (U (.builtin "type.__getattribute__")))
  (ar:readsIn K c_MP (.type "type")=Y)
  (a6:findCls K (.ref c_MP) (.type "type") "__init__"=U (.val (.ref bf)))
  (bj:makesIn K c_MP=Y)
  (B:findIn K (.ref c_MP) "__init__"=U (U (.ref bf)))
  (L:keepIn K (.ref c_MP)=Y)
  (bn:findIn K (.ref c_MP) "__class__"=U (U (.builtin "object.__class__")))
  (a5:mroIn K c_MP (.type "object")=U Y)
  (aC:findIn K (.ref c_MP) "words"=U (U (.ref bG)))
  (az:findIn K (.ref c_MP) "laid_out"=U (U (.ref bF)))
  (aE:findIn K (.ref c_MP) "reach"=U (U (.ref bH)))
  (aw:findIn K (.ref c_MP) "lacking"=U (U (.ref bI)))
  (ax:findIn K (.ref c_MP) "own_text"=U O)
  (aA:findIn K (.ref c_MP) "own_kinds"=U O)
  (aI:findIn K (.ref c_MP) "own_lacking"=U O)
  (aO:findIn K (.ref c_MP) "own_deeds"=U O)
  (aL:findIn K (.ref c_MP) "own_strips"=U O)
  (aQ:findIn K (.ref c_MP) "own_shelf"=U O)
  (co:nsIn K mainGlobals "Shelf"=U (U (.ref c_MQ)))
  (m:plainGet K c_MQ Str.empty=Y)
  (v:hasDictIn K c_MQ=Y)
  (y:plainOver K c_MQ=Y)
  (z:findIn K (.ref c_MQ) "__setattr__"=U (U (.builtin "object.__setattr__")))
  (F:specialIn K (.ref c_MQ) "__getattribute__"=U (U (.builtin "type.__getattribute__")))
  (be:readsIn K c_MQ (.type "type")=Y)
  (D:findCls K (.ref c_MQ) (.type "type") "__init__"=U (.val (.ref bg)))
  (ck:makesIn K c_MQ=Y)
  (b4:findIn K (.ref c_MQ) "__init__"=U (U (.ref bg)))
  (S:keepIn K (.ref c_MQ)=Y)
  (b5:findIn K (.ref c_MQ) "__class__"=U (U (.builtin "object.__class__")))
  (aK:mroIn K c_MQ (.type "object")=U Y)
  (ba:findIn K (.ref c_MQ) "kinds"=U (U (.ref bJ)))
  (bo:findIn K (.ref c_MQ) "need_free"=U (U (.ref bK)))
  (bp:findIn K (.ref c_MQ) "lay"=U (U (.ref bL)))
  (cn:findIn K (.ref c_MQ) "names"=U (U (.ref bM)))
  (a9:findIn K (.ref c_MQ) "kept"=U (U (.ref bO)))
  (bq:findIn K (.ref c_MQ) "shown"=U (U (.ref bP)))
  (cq:findIn K (.ref c_MQ) "take"=U (U (.ref bQ)))
  (cu:findIn K (.ref c_MQ) "put"=U (U (.ref bR)))
  (cz:findIn K (.ref c_MQ) "drop"=U (U (.ref bS)))
  (cA:findIn K (.ref c_MQ) "back"=U (U (.ref bT)))
  (aV:findIn K (.ref c_MQ) "own_text"=U O)
  (aB:findIn K (.ref c_MQ) "own_kinds"=U O)
  (aJ:findIn K (.ref c_MQ) "own_lacking"=U O)
  (aR:findIn K (.ref c_MQ) "own_deeds"=U O)
  (ag:findIn K (.ref c_MQ) "own_strips"=U O)
  (aS:findIn K (.ref c_MQ) "own_shelf"=U O)
  (cd:nsIn K mainGlobals "Strip"=U (U (.ref c_MR)))
  (t:plainGet K c_MR Str.empty=Y)
  (q:hasDictIn K c_MR=Y)
  (j:plainOver K c_MR=Y)
  (l:findIn K (.ref c_MR) "__setattr__"=U (U (.builtin "object.__setattr__")))
  (b0:specialIn K (.ref c_MR) "__getattribute__"=U (U (.builtin "type.__getattribute__")))
  (b9:readsIn K c_MR (.type "type")=Y)
  (a0:findCls K (.ref c_MR) (.type "type") "__init__"=U (.val (.ref bh)))
  (C:clsIn K c_MR=U g)
  (a3:g.mro=[.ref c_MR,.ref c_M3,.type "object"])
  (b1:typeIn K (.ref c_MR)=U (.type "type"))
  (bb:makesIn K c_MR=Y)
  (b7:findIn K (.ref c_MR) "__init__"=U (U (.ref bh)))
  (bs:keepIn K (.ref c_MR)=Y)
  (bk:findIn K (.ref c_MR) "__class__"=U (U (.builtin "object.__class__")))
  (cc:mroIn K c_MR (.type "object")=U Y)
  (aF:findIn K (.ref c_MR) "kinds"=U (U (.ref bD)))
  (am:findIn K (.ref c_MR) "text"=U (U (.ref bE)))
  (cB:findIn K (.ref c_MR) "deeds"=U (U (.ref bV)))
  (br:findIn K (.ref c_MR) "lacking"=U (U (.ref bU)))
  (bc:findIn K (.ref c_MR) "put"=U (U (.ref bW)))
  (bt:findIn K (.ref c_MR) "drop"=U (U (.ref bX)))
  (bu:findIn K (.ref c_MR) "back"=U (U (.ref bY)))
  (bv:findIn K (.ref c_MR) "grow"=U (U (.ref bZ)))
  (bw:findIn K (.ref c_MR) "shrink"=U (U (.ref b8)))
  (bz:findIn K (.ref c_MR) "change"=U (U (.ref ce)))
  (bB:findIn K (.ref c_MR) "copied"=U (U (.ref cf)))
  (aa:findIn K (.ref c_MR) "own_text"=U O)
  (ai:findIn K (.ref c_MR) "own_kinds"=U O)
  (ah:findIn K (.ref c_MR) "own_lacking"=U O)
  (af:findIn K (.ref c_MR) "own_deeds"=U O)
  (aM:findIn K (.ref c_MR) "own_strips"=U O)
  (aT:findIn K (.ref c_MR) "own_shelf"=U O)
  (cl:nsIn K mainGlobals "Desk"=U (U (.ref c_M5)))
  (n:plainGet K c_M5 Str.empty=Y)
  (r:hasDictIn K c_M5=Y)
  (k:plainOver K c_M5=Y)
  (o:findIn K (.ref c_M5) "__setattr__"=U (U (.builtin "object.__setattr__")))
  (b3:specialIn K (.ref c_M5) "__getattribute__"=U (U (.builtin "type.__getattribute__")))
  (aP:readsIn K c_M5 (.type "type")=Y)
  (ca:findCls K (.ref c_M5) (.type "type") "__init__"=U (.val (.ref bi)))
  (cC:makesIn K c_M5=Y)
  (H:findIn K (.ref c_M5) "__init__"=U (U (.ref bi)))
  (ac:keepIn K (.ref c_M5)=Y)
  (T:findIn K (.ref c_M5) "__class__"=U (U (.builtin "object.__class__")))
  (as:mroIn K c_M5 (.type "object")=U Y)
  (a8:findIn K (.ref c_M5) "say"=U (U (.ref cg)))
  (a7:findIn K (.ref c_M5) "own_text"=U O)
  (aW:findIn K (.ref c_M5) "own_kinds"=U O)
  (aN:findIn K (.ref c_M5) "own_lacking"=U O)
  (aX:findIn K (.ref c_M5) "own_deeds"=U O)
  (aU:findIn K (.ref c_M5) "own_strips"=U O)
  (ae:findIn K (.ref c_M5) "own_shelf"=U O)
  (AK:MG K "__init__" "Band.__init__" pR bC cJ)
  (AL:MG K "kinds" "Band.kinds" pz bD cK)
  (AQ:MG K "text" "Band.text" nY bE cL)
  (AN:MG K "laid_out" "Band.laid_out" mD bF cM)
  (AR:MG K "words" "Band.words" pi bG cN)
  (AO:MG K "reach" "Band.reach" oH bH cO)
  (AM:MG K "lacking" "Band.lacking" o4 bI cP)
  (AW:MG K "__init__" "Plain.__init__" mT bf cQ)
  (AZ:MG K "__init__" "Shelf.__init__" pU bg cR)
  (Ab:MG K "kinds" "Shelf.kinds" oS bJ cS)
  (Af:MG K "need_free" "Shelf.need_free" mI bK cT)
  (Ac:MG K "lay" "Shelf.lay" oQ bL cU)
  (Ae:MG K "names" "Shelf.names" nP bM cV)
  (Aa:MG K "kept" "Shelf.kept" pE bO cW)
  (Ah:MG K "shown" "Shelf.shown" nV bP cX)
  (Ai:MG K "take" "Shelf.take" mV bQ cY)
  (Ag:MG K "put" "Shelf.put" mX bR cZ)
  (AY:MG K "drop" "Shelf.drop" mR bS c7)
  (AX:MG K "back" "Shelf.back" mJ bT c9)
  (Ap:MG K "__init__" "Strip.__init__" mU bh db)
  (Aq:MG K "lacking" "Strip.lacking" mQ bU dc)
  (Am:MG K "deeds" "Strip.deeds" pP bV de)
  (Ar:MG K "put" "Strip.put" o8 bW df)
  (An:MG K "drop" "Strip.drop" oZ bX dh)
  (Aj:MG K "back" "Strip.back" nD bY dj)
  (Ao:MG K "grow" "Strip.grow" nv bZ dm)
  (As:MG K "shrink" "Strip.shrink" oJ b8 du)
  (Ak:MG K "change" "Strip.change" om ce dv)
  (Al:MG K "copied" "Strip.copied" mP cf dw)
  (AS:MG K "__init__" "Desk.__init__" mZ bi dC)
  (AT:MG K "say" "Desk.say" pH cg dD)
  (nd:[c_LH,c_L9,c_LI,c_M6,c_M4,c_L8].Nodup)
  (d7:DG K "has_only" mj f_LS d_LS)
  (fL:DG K "is_kinds" pj f_LU d_LU)
  (eI:DG K "is_word" mO f_L5 d_L5)
  (fA:DG K "is_letter" oU f_LM d_LM)
  (dN:DG K "need_kinds" og f_LB d_LB)
  (fB:DG K "need_word" nE f_LP d_LP)
  (eC:DG K "need_letter" pI f_KQ d_KQ)
  (dO:DG K "in_order" nM f_LT d_LT)
  (gq:DG K "pieces" oC f_MO d_MO)
  (gC:DG K "lacking_among" oE f_MT d_MT)
  (gD:DG K "lacks" pK f_MX d_MX)
  (fC:DG K "need_list" nO f_LO d_LO)
  (fZ:DG K "avoids" pA f_MF d_MF)
  (fM:DG K "refuse_inside" pN f_LV d_LV)
  (gE:DG K "stems_of" oW f_M2 d_M2)
  (gt:DG K "ending_stem" mL f_MG d_MG)
  (gK:DG K "ways_between" oR f_NA d_NA)
  (gF:DG K "stems_that_end" nJ f_MV d_MV)
  (f6:DG K "longest_word" m8 f_L6 d_L6)
  (f8:DG K "refuse_split" mY f_L7 d_L7)
  (fN:DG K "strip_of" nj f_LW d_LW)
  (eO:DG K "need_same_kinds" oq f_LC d_LC)
  (eZ:DG K "is_name" mt f_L4 d_L4)
  (eP:DG K "is_letters" mG f_LA d_LA)
  (eJ:DG K "is_number" ph f_LN d_LN)
  (f9:DG K "is_as_told" mi f_L2 d_L2)
  (fO:DG K "forms_of" oz f_LR d_LR)
  (gb:DG K "is_line" pG f_L3 d_L3)
  (fP:DG K "value_of" oP f_LX d_LX)
  (gL:DG K "read" mC f_M7 d_M7)
  (gA:DG K "fresh_words" mH f_MW d_MW)
  (gc:DG K "filled" mf f_MH d_MH)
  (ge:DG K "opened" pJ f_MN d_MN)
  (dM:DG K "told_parts" pB f_LD d_LD)
  (eD:DG K "told_beside" mM f_KR d_KR)
  (dP:DG K "told_change" on f_KS d_KS)
  (e8:DG K "answer_strip" oI f_L1 d_L1)
  (fQ:DG K "answer_take" ot f_MD d_MD)
  (gg:DG K "answer_put" pC f_MS d_MS)
  (fR:DG K "answer_drop" o9 f_MB d_MB)
  (fS:DG K "answer_back" oX f_MA d_MA)
  (fT:DG K "answer_from" m7 f_MC d_MC)
  (fh:DG K "answer_names" oY f_L0 d_L0)
  (fU:DG K "answer_text" m6 f_ME d_ME)
  (fk:DG K "answer_lacks" oj f_LZ d_LZ)
  (gB:DG K "_law_cell_at" m9 f_MY d_MY)
  (dW:DG K "_law_mixed" oV f_MZ d_MZ)
  (gu:DG K "_law_kinds" mS f_MJ d_MJ)
  (gO:DG K "_law_row" GQ f_row d_row)
  (gf:DG K "_law_shown" nQ f_ML d_ML)
  (eQ:DG K "_law_listed" py f_MI d_MI)
  (gx:DG K "_law_names" oG f_MK d_MK)
  (gI:DG K "_law_said" mK f_M8 d_M8)
  (fV:DG K "_law_words" pQ f_MM d_MM)
  (gG:DG K "_law_moved" oo f_M0 d_M0)
  (gh:DG K "_law_begun" ml f_MU d_MU)
  (gM:DG K "_law_step" oO f_M9 d_M9)
  (gH:DG K "_law_right" oN f_M1 d_M1)
  (gJ:DG K "_law_wide" mN f_NB d_NB)
  (gQ:DG K "law" FU f_law d_law)
  (dL:nsIn K mainGlobals "len"=U O)
  (d5:nsIn K mainGlobals "range"=U O)
  (dS:nsIn K mainGlobals "isinstance"=U O)
  (gU:nsIn K mainGlobals "all"=U O)
  (gZ:nsIn K mainGlobals "max"=U O)
  (gV:nsIn K mainGlobals "min"=U O)
  (fE:nsIn K mainGlobals "list"=U O)
  (gS:nsIn K mainGlobals "tuple"=U O)
  (gR:nsIn K mainGlobals "set"=U O)
  (eE:nsIn K mainGlobals "sorted"=U O)
  (gN:nsIn K mainGlobals "str"=U O)
  (gW:nsIn K mainGlobals "int"=U O)
  (gX:nsIn K mainGlobals "bool"=U O)
  (gT:nsIn K mainGlobals "dict"=U O)
  (g0:nsIn K mainGlobals "sum"=U O)
  (gY:nsIn K mainGlobals "any"=U O)
  (aY:nsIn K mainGlobals "ValueError"=U O)
  (c_KD:nsIn K mainGlobals "SMALL_LETTERS"=U (U (.str (Str.ofString "abcdefghijklmnopqrstuvwxyz") ab)))
  (c_KY:nsIn K mainGlobals "MOST_KINDS"=U (U (.int 4 W)))
  (c_KC:nsIn K mainGlobals "MOST_IN_STRIP"=U (U (.int 40 N)))
  (c_KX:nsIn K mainGlobals "MOST_ASKED"=U (U (.int 60 V)))
  (c_KZ:nsIn K mainGlobals "MOST_WORDS"=U (U (.int 200 bd)))
  (c_KH:nsIn K mainGlobals "MOST_IN_LIST"=U (U (.int 41 al)))
  (c_KI:nsIn K mainGlobals "MOST_IN_NAME"=U (U (.int 8 b6)))
  (c_KW:nsIn K mainGlobals "EMPTY_WORD"=U (U (.str "-" Q)))
  (c_LY:nsIn K mainGlobals "FIGURES"=U (U (.str "0123456789" bN)))
  (c_KG:nsIn K mainGlobals "MOST_FIGURES"=U (U (.int 3 a1)))
  (i:nsIn K mainGlobals "FORMS"=U (U (.ref v_FORMS)))
  (d:nsIn K mainGlobals "ANSWERS"=U (U (.ref v_ANSWERS))):∃a,Txt K mg a/\a.t_LT=t_LT/\a.k_LT=k_LT:=by
 let#[_,_,_,_,_,_,_,_,_,Z,_]:=id gQ.2.ex;calc#[{ c_LH,ak,ay,c_L9,aj,ao,c_LI,c_M6,c_M4,c_L8,c_M3,c_MP,c_MQ,c_MR,c_M5,bC,cJ,bD,cK,bE,cL,bF,cM,bG,cN,bH,cO,bI,cP,bf,cQ,bg,cR,bJ,cS,bK,cT,bL,cU,bM,cV,bO,cW,bP,cX,bQ,cY,bR,cZ,bS,c7,bT,c9,bh,db,bU,dc,bV,de,bW,df,bX,dh,bY,dj,bZ,dm,b8,du,ce,dv,cf,dw,bi,dC,cg,dD,f_LS,d_LS,f_LU,d_LU,f_L5,d_L5,f_LM,d_LM,f_LB,d_LB,f_LP,d_LP,f_KQ,d_KQ,f_LT,d_LT,f_MO,d_MO,f_MT,d_MT,f_MX,d_MX,f_LO,d_LO,f_MF,d_MF,f_LV,d_LV,f_M2,d_M2,f_MG,d_MG,f_NA,d_NA,f_MV,d_MV,f_L6,d_L6,f_L7,d_L7,f_LW,d_LW,f_LC,d_LC,f_L4,d_L4,f_LA,d_LA,f_LN,d_LN,f_L2,d_L2,f_LR,d_LR,f_L3,d_L3,f_LX,d_LX,f_M7,d_M7,f_MW,d_MW,f_MH,d_MH,f_MN,d_MN,f_LD,d_LD,f_KR,d_KR,f_KS,d_KS,f_L1,d_L1,f_MD,d_MD,f_MS,d_MS,f_MB,d_MB,f_MA,d_MA,f_MC,d_MC,f_L0,d_L0,f_ME,d_ME,f_LZ,d_LZ,f_MY,d_MY,f_MZ,d_MZ,f_MJ,d_MJ,f_row,d_row,f_ML,d_ML,f_MI,d_MI,f_MK,d_MK,f_M8,d_M8,f_MM,d_MM,f_M0,d_M0,f_MU,d_MU,f_M9,d_M9,f_M1,d_M1,f_NB,d_NB,f_law,v_FORMS,v_ANSWERS,t_LT,k_LT,d_law:=_ },{ d7:=qX X G d7 (by eq_refl),fL:=qX X G fL (by bv_omega),eI:=qX X G eI (by walk_at "b3"),fA:=qX X G fA (by eq_refl),dN:=qX X G dN (by bv_omega),fB:=qX X G fB (by walk_at "b3"),eC:=qX X G eC (by eq_refl),dO:=qX X G dO (by bv_omega),gq:=qX X G gq (by eq_refl),gC:=qX X G gC (by walk_at "b3"),gD:=qX X G gD (by eq_refl),fC:=qX X G fC (by eq_refl),fZ:=qX X G fZ (by eq_refl),fM:=qX X G fM (by bv_omega),gE:=qX X G gE (by bv_omega),gt:=qX X G gt (by eq_refl),gK:=qX X G gK (by eq_refl),gF:=qX X G gF (by bv_omega),f6:=qX X G f6 (by eq_refl),f8:=qX X G f8 (by walk_at "b3"),fN:=qX X G fN (by eq_refl),eO:=qX X G eO (by eq_refl),eZ:=qX X G eZ (by bv_omega),eP:=qX X G eP (by bv_omega),eJ:=qX X G eJ (by bv_omega),f9:=qX X G f9 (by eq_refl),fO:=qX X G fO (by eq_refl),gb:=qX X G gb (by bv_omega),fP:=qX X G fP (by bv_omega),gL:=qX X G gL (by bv_omega),gA:=qX X G gA (by eq_refl),gc:=qX X G gc (by walk_at "b3"),ge:=qX X G ge (by walk_at "b4"),dM:=qX X G dM (by bv_omega),eD:=qX X G eD (by eq_refl),dP:=qX X G dP (by bv_omega),e8:=qX X G e8 (by eq_refl),fQ:=qX X G fQ (by eq_refl),gg:=qX X G gg (by eq_refl),fR:=qX X G fR (by eq_refl),fS:=qX X G fS (by eq_refl),fT:=qX X G fT (by eq_refl),fh:=qX X G fh (by eq_refl),fU:=qX X G fU (by eq_refl),fk:=qX X G fk (by eq_refl),gB:=qX X G gB (by eq_refl),dW:=qX X G dW (by eq_refl),gu:=qX X G gu (by bv_omega),gO:=qX X G gO (by walk_at "b3"),gf:=qX X G gf (by bv_omega),eQ:=qX X G eQ (by bv_omega),gx:=qX X G gx (by eq_refl),gI:=qX X G gI (by eq_refl),fV:=qX X G fV (by bv_omega),gG:=qX X G gG (by walk_at "b3"),gh:=qX X G gh (by walk_at "b4"),gM:=qX X G gM (by walk_at "b5"),gH:=qX X G gH (by walk_at "b3"),gJ:=qX X G gJ (by bv_omega),gQ:=qX X G gQ (by bv_omega),m_LH:=sV X G Ax.a,x_LH:=Ax.m,xi_LH:=Ax.i,k_LH:=Ax.k,i_LH,r_LH:=#[a4,ap,E,Z],dH:=sV X G A0.a,cj:=A0.m,xi_L9:=A0.i,cD:=A0.k,dI,dE:=AV.2,aH,fi_L9:=AV.1,b_L9:=AV.1.binds (by eq_refl),m_LI:=sV X G Ay.a,cE:=Ay.m,xi_LI:=Ay.i,cF:=Ay.k,i_LI,dJ:=AU.2,aD,fi_LI:=AU.1,b_LI:=AU.1.binds (by eq_refl),m_M6:=sV X G Aw.a,x_M6:=Aw.m,xi_M6:=Aw.i,cG:=Aw.k,i_M6,m_M4:=sV X G Au.a,x_M4:=Au.m,xi_M4:=Au.i,cH:=Au.k,i_M4,m_L8:=sV X G Az.a,x_L8:=Az.m,xi_L8:=Az.i,cI:=Az.k,i_L8,m_M3:=sV X G ch,dF:=#[P,au,bm,Z],cl_M3:=#[I,an,cb,a2],k_M3:=#[#[_,bA,b2],av,Z],m_MP:=sV X G ci,cr_MP:=#[M,ar,a6,Z],aZ:=#[x,A,p,w],bj:=#[bj,B,AW.2,L],aC:=#[aC,AR.2,AR.1.kp],az:=#[az,AN.2,AN.1.kp],aE:=#[aE,AO.2,AO.1.kp],aw:=#[aw,AM.2,AM.1.kp],ax,aA,aI,aO,aL,aQ,ty_MP:=λe=>.ins e #[x,A,p,w] bn b c a5,m_MQ:=sV X G co,cr_MQ:=#[F,be,D,Z],aq:=#[m,v,y,z],ck:=#[ck,b4,AZ.2,S],ba:=#[ba,Ab.2,Ab.1.kp],bo:=#[bo,Af.2,Af.1.kp],bp:=#[bp,Ac.2,Ac.1.kp],cn:=#[cn,Ae.2,Ae.1.kp],a9:=#[a9,Aa.2,Aa.1.kp],bq:=#[bq,Ah.2,Ah.1.kp],cq:=#[cq,Ai.2,Ai.1.kp],cu:=#[cu,Ag.2,Ag.1.kp],cz:=#[cz,AY.2,AY.1.kp],cA:=#[cA,AX.2,AX.1.kp],aV,aB,aJ,aR,ag,aS,ty_MQ:=λe=>.ins e #[m,v,y,z] b5 b c aK,dG:=sV X G cd,cr_MR:=#[b0,b9,a0,Z],ad:=#[t,q,j,l],k_MR:=#[#[_,C,a3],b1,Z],bb:=#[bb,b7,Ap.2,bs],aF:=#[aF,AL.2,AL.1.kp],am:=#[am,AQ.2,AQ.1.kp],cB:=#[cB,Am.2,Am.1.kp],br:=#[br,Aq.2,Aq.1.kp],bc:=#[bc,Ar.2,Ar.1.kp],bt:=#[bt,An.2,An.1.kp],bu:=#[bu,Aj.2,Aj.1.kp],bv:=#[bv,Ao.2,Ao.1.kp],bw:=#[bw,As.2,As.1.kp],bz:=#[bz,Ak.2,Ak.1.kp],bB:=#[bB,Al.2,Al.1.kp],aa,ai,ah,af,aM,aT,ty_MR:=λe=>.ins e #[t,q,j,l] bk b c cc,m_M5:=sV X G cl,cr_M5:=#[b3,aP,ca,Z],aG:=#[n,r,k,o],cC:=#[cC,H,AS.2,ac],a8:=#[a8,AT.2,AT.1.kp],a7,aW,aN,aX,aU,ae,ty_M5:=λe=>.ins e #[n,r,k,o] T b c as,eK:=sv AK (by walk_at "b3"),gi:=sv AL (by bv_omega),d8:=sv AQ (by bv_omega),fD:=sv AN (by eq_refl),fF:=sv AR (by eq_refl),gj:=sv AO (by bv_omega),eR:=sv AM (by bv_omega),fG:=sv AW (by walk_at "b3"),gk:=sv AZ (by eq_refl),dU:=sv Ab (by bv_omega),dZ:=sv Af (by eq_refl),fW:=sv Ac (by walk_at "b3"),fX:=sv Ae (by bv_omega),dQ:=sv Aa (by eq_refl),fz:=sv Ah (by eq_refl),gm:=sv Ai (by eq_refl),gy:=sv Ag (by walk_at "b3"),gn:=sv AY (by eq_refl),gp:=sv AX (by eq_refl),d9:=sv Ap (by eq_refl),eG:=sv Aq (by bv_omega),fY:=sv Am (by bv_omega),eN:=sv Ar (by eq_refl),fH:=sv An (by bv_omega),fJ:=sv Aj (by bv_omega),fK:=sv Ao (by eq_refl),eU:=sv As (by eq_refl),eV:=sv Ak (by walk_at "b4"),eY:=sv Al (by bv_omega),gz:=sv AS (by eq_refl),dR:=sv AT (by eq_refl),nd,dL:=uF X G dL,d5:=uF X G d5,dS:=uF X G dS,gU:=uF X G gU,gZ:=uF X G gZ,gV:=uF X G gV,fE:=uF X G fE,gS:=uF X G gS,gR:=uF X G gR,eE:=uF X G eE,gN:=uF X G gN,gW:=uF X G gW,gX:=uF X G gX,gT:=uF X G gT,g0:=uF X G g0,gY:=uF X G gY,aY:=uF X G aY,c_KD:=#[_,sV X G c_KD],c_KY:=#[_,sV X G c_KY],c_KC:=#[_,sV X G c_KC],c_KX:=#[_,sV X G c_KX],c_KZ:=#[_,sV X G c_KZ],c_KH:=#[_,sV X G c_KH],c_KI:=#[_,sV X G c_KI],c_KW:=#[_,sV X G c_KW],c_LY:=#[_,sV X G c_LY],c_KG:=#[_,sV X G c_KG],v_FORMS:=sV X G i,v_ANSWERS:=sV X G d,bl:=λs u=>.of_eq Z },Z,Z]
end Pk86
namespace Pk86
open PySem L2
def Nr {v:V}{p:V->Prop}:(∃u,U (U v)=U (U u)/\p u)=p v:=
 propext #[λ⟨_,e,h⟩=>by cases e;calc h,λh=>#[v,Z,h]]
def jT (h:C a b/\Q (g a b) H):rT C g (tx a) (tx b) H Q:=h
noncomputable def lpos:Pos:=#[108,29,108,59]
noncomputable def lq:Str:="in_order.<locals>.<lambda>"
def rn:p9:=[97,98,99,100,101,102,103,104,105,106,107,108,109,110,111,112,113,114,115,116,117,118,119,120,121,122]
def vq (l:p9):Bool:=R (1<=⇑l)&&R (⇑l<=4)&&(l.all λc=>rn.contains c)&&R (iy l=sU (tE (iy l)))
noncomputable def vA (l m:p9)(a:Int):Bool:=R ((⇑l:Int)<=a)&&l.all λc=>m.contains c
def yg:p9->p9->Bool
 | _,[]=>Y
 | last,c::r=>R (c∈rn)&&R (last < [c])&&yg [c] r
def DU (l:p9):Bool:=R (1<=⇑l)&&R (⇑l<=4)&&yg [] l
def Fx {a b:Nat}:([a] < [b])↔a<b:=by
 constructor
 .intro h;cases h with
  | rel h=>exact h
  | cons h=>cases h
 .exact λh=>List.Lex.rel h
theorem Kn:∀(l:p9)(d:Nat),yg [d] l=Y↔(∀c∈l,c∈rn)/\(d::l).Pairwise (· < ·)
 | [],d=>by simp[yg]
 | c::r,d=>by
  rw[yg,rB,rB,NL,NL,Fx,Kn r c];simp only[u9,qS,forall_eq_or_imp];constructor
  .rintro⟨⟨h1,h2⟩,h3,h4,h5⟩;exact#[#[h1,h3],#[h2,λx hx=>Nat.lt_trans h2 (h4 x hx)],h4,h5]
  .rintro⟨⟨h1,h3⟩,⟨h2,_⟩,h4,h5⟩;calc#[#[h1,h2],h3,h4,h5]
def GD (l:p9):yg [] l=Y↔(∀c∈l,c∈rn)/\l.Pairwise (· < ·):=by
 cases l with
 | nil=>simp[yg]
 | cons c r=>
  rw[yg,rB,rB,NL,NL,Kn r c];simp only[qS,forall_eq_or_imp];constructor
  .rintro⟨⟨b,_⟩,d,a⟩;exact#[#[b,d],a]
  .rintro⟨⟨b,d⟩,a⟩;calc#[#[b,{}],d,a]
theorem LK:∀(ls acc:qi),(acc++ls).Nodup->ls.foldl ji acc=acc++ls
 | [],acc,_=>by simp
 | x::ls,acc,h=>by
  let hx:¬x∈acc:=by rw[z8]at h;exact λa=>h.2.2 x a x sA Z
  rw[zN,ji,qe hx,LK ls (acc++[x]) (~~~h)];simp
def Zhi (h:l.Pairwise (· < ·)):(iy l).Nodup:=by unfold iy List.Nodup;rw[wf];calc h.imp λa e=>by injection e with e;lia
def Zk4 (ls:qi):(tE ls).Nodup:=by rw[<-EY];calc Dx _
def ZiL (l:p9):iy l=sU (tE (iy l))↔l.Pairwise (· < ·):=by
 constructor
 .intro e;let c:(iy l).Pairwise (λa b=>vh a b=Y):=by rw[e];exact ED _
  let d:(iy l).Nodup:=by rw[e];exact(vP _).nodup_iff.mpr (Zk4 _)
  unfold iy at c;unfold iy List.Nodup at d;rw[wf]at c d;calc(c.and d).imp ?_;rintro a b ⟨x,y⟩;let i:a≠b:=λe=>y (by rw[e]);let f:¬([b] < [a]):=by simpa [vh] using x
  rw[Fx]at f
  lia
 .intro h;let e:tE (iy l)=iy l:=by unfold tE;rw[LK _ _ (~~~Zhi h)];simp
  rw[e];calc Hg (List.Perm.refl _) ?_;unfold iy;rw[wf];calc h.imp λ{a b} g=>?_;have:¬([b] < [a]):=by rw[Fx];lia
  simpa [vh] using this
def M9 (l:p9):vq l=DU l:=by
 let b:(l.all λc=>rn.contains c)=R (∀c∈l,c∈rn):=by rw[vf,ur,NL];simp
 let a:R (iy l=sU (tE (iy l)))=R (l.Pairwise (· < ·)):=by rw[vf,NL,NL,ZiL]
 let d:yg [] l=(R (∀c∈l,c∈rn)&&R (l.Pairwise (· < ·))):=by rw[vf,rB,NL,NL,GD]
 unfold vq DU;rw[b,a,d,Bool.and_assoc]
def kR (l m:p9):((List.range ⇑l).map (λi=>R (l.getD i 0∈m))).all id=l.all λc=>m.contains c:=by
 rw[vf,ur,ur];constructor
 .intro h c d;let#[i,a,Z]:=List.mem_iff_getElem.mp d;have:=h _ (yx (sT.mpr a));simpa [sw,rD a] using this
 .intro h b e;let#[i,a,Z]:=rj.mp e;let a:=sT.mp a;have:=h _ (xu a);simpa [sw,rD a] using this
noncomputable def cell (a:List Int)(k:Int):Int:=a.getD k.toNat 0
def JU {a:List Int}{k:Int}(c:0<=k)(b:k<⇑a):tI (a.map V.int) k=U (.int (cell a k)):=by
 let d:k.toNat<⇑a:=by lia
 unfold tI wI cell;rw[qm,qg c,qg b,Bc,se,sw,rD d];rfl
def tT (h:⇑l<=1000):oM K (tx l) H ⇑l:=by
 let e:⇑(#[↑l]:Str)=⇑l:=by simp[Str.length]
 have:⇑l<=sizeLine:=qJ h (by rw[sizeLine_eq];decide);calc#[by rw[e];calc this,e.symm]
def cm (h:0<m)(a:m<=2 ^ 64):lI (x % m) y:=.inl #[by have:=tY x (show m≠0 by lia);lia,by have:=ue x h;lia]
def DS:kitOne K t t=U Y:=by unfold kitOne;simp
def Bu (c:0<=i)(b:i<⇑xs):∃v,tI xs i=U v/\v∈xs:=by
 let a:i.toNat<⇑xs:=by lia
 calc#[xs[i.toNat],?_,xu a];unfold tI wI;rw[qg c,qg b,Bc,rD a]
def xM (xs:qi):(xs.map tx).all tR=Y:=by rw[ur];intro v a;let#[x,_,Z]:=rj.mp a;rfl
def ip (s:g7 H H2)(h:H e=O):g7 H (upd H2 e o'):=λb u a=>by
 have:b≠e:=λz=>by rw[z,h]at a;cases a
 rw[qh this];calc s _ _ a
def IY (p:α->Bool)(d:α)(ls:List α):((List.range ⇑ls).filter λi=>p (ls.getD i d)).map (λi=>ls.getD i d)=ls.filter p:=by
 let e:(List.range ⇑ls).map (λi=>ls.getD i d)=ls:=by
  apply vO
  .simp
  .intro i b a;simp[a]
 let h:=List.filter_map (p:=p) (f:=λi=>ls.getD i d) (l:=List.range ⇑ls);rw[e]at h;rw[h];rfl
def ze {ls:qi}{k:Nat}(h:k<⇑ls):(ls.map tx).getD k V.non=tx (ls.getD k []):=by rw[sw,se,sw,rD h];rfl
def Bp {x:p9}{ls:qi}:Bn (tx x) (ls.map tx)=R (x∈ls):=by
 unfold Bn;rw[vf,vQ,NL];constructor
 .rintro⟨y,b,e⟩;let#[l,a,Z]:=rj.mp b;rw[M3,NL,Eh]at e;rw[<-e];exact a
 .intro h;calc#[tx x,yx h,by rw[M3];calc NM Z]
theorem Mx:∀(xs ys:qi),deqs ((xs.map tx).map DT.f) ((ys.map tx).map DT.f)=R (xs=ys)
 | [],[]=>by unfold deqs;rfl
 | [],y::ys=>by simp only[rC,zR];unfold deqs;rfl
 | x::xs,[]=>by simp only[rC,zR];unfold deqs;rfl
 | x::xs,y::ys=>by
  simp only[rC];unfold deqs;rw[Mx xs ys];let e:rW (DT.f (tx x)) (DT.f (tx y))=R (x=y):=by unfold rW;rw[<-wN];show ((#[↑x]:Str) == #[↑y])=_;rw[vf,NS,NL];exact#[λh=>by unfold tx;rw[h],λh=>by unfold tx at h;injection h]
  rw[e,vf,rB,NL,NL,NL,List.cons.injEq]
def Zqw {K:qj}{H:Hp}{Q:VK}{a b:AD}{xs ys:qi}(c:rl K H a (xs.map tx))(d:rl K H b (ys.map tx))(q:Q (.bl (R (xs=ys))) H):jC K J (.ref a) (.ref b) H Q:=
 .inr #[_,_,kT c (xM _),kT d (xM _),λz=>qO z.1,(ownL c (xM _)).2.2,by unfold rW;rw[Mx];calc q]
def Fs:V.str (Str.ofString "abcdefghijklmnopqrstuvwxyz")=tx rn:=NQ V.str nofun
def Zos (l:p9):⇑(tE (iy l))<=⇑l:=by
 have:∀(ls a:qi),⇑(ls.foldl ji a)<=⇑a+⇑ls:=by
  intro ls;induction ls with
  | nil=>intro a;simp
  | cons x ls b=>
   intro a;rw[zN];calc qJ (b _) ?_;unfold ji;split<;>simp<;>lia
 let h:=this (iy l) [];unfold tE;unfold iy at h ⊢;simpa using h
def jZ (l:p9):⇑(iy l)=⇑l:=by unfold iy;rw[qm]
def kE (l m:p9):List (Str×V):=iq "own_kinds" (tx m) (iq "own_text" (tx l) [])
def kt:¬(("own_text":Str)="own_kinds"):=by decide +kernel
def IQ:(kE l m).lookup ("own_text":Str)=U (tx l):=by unfold kE;rw[sD,qe kt,sD,qg Z]
def Zi7:(kE l m).lookup ("own_kinds":Str)=U (tx m):=by unfold kE;rw[sD,qg Z]
def BN {l m:p9}{x:Str}(a:¬x="own_text")(b:¬x="own_kinds"):(kE l m).lookup x=O:=by unfold kE;rw[sD,qe b,sD,qe a];rfl
def Ch (C:AD)(H:Hp)(p:AD)(l m:p9):Prop:=∃a,H p=U (.ins C a (kE l m))
structure ig (l m:p9):Prop where
 k:vq m=Y
 m1:1<=⇑m
 m4:⇑m<=4
 l40:⇑l<=40
 mem:∀x∈l,x∈m
def JL (ls:qi):⇑(tE ls)<=⇑ls:=by
 have:∀(ls a:qi),⇑(ls.foldl ji a)<=⇑a+⇑ls:=by
  intro ls;induction ls with
  | nil=>intro a;simp
  | cons x ls b=>
   intro a;rw[zN];calc qJ (b _) ?_;unfold ji;split<;>simp<;>lia
 simpa [tE] using this ls []
def Zqg (h:ig l m):vA l m 40=Y:=by let b:=h.l40;unfold vA;rw[rB,NL,ur];calc#[∅,λx a=>by simpa using h.mem x a]
def Zqh (d:1<=⇑m)(a:⇑m<=4)(b:∀c∈m,c∈rn)(e:m.Pairwise (· < ·)):vq m=Y:=by rw[M9];unfold DU;rw[(GD m).mpr #[b,e]];simp[d,a]
def ly {p q:Prop}[Decidable True](h:p):if True then p else q:=by rw[qg True.intro];calc h
def EG (h:Q (.bl J) H):jC K Y (tx x) (tx x) H Q:=.inl #[Z,by rw[qg Z,NM Z];calc h]
def t5 (h:Q (.bl Y) H):jC K J (tx x) (tx x) H Q:=.inl #[Z,by rw[qe qO,NM Z];calc h]
def Ik (w:p9):tW w O (U (-1))=w.dropLast:=by
 unfold tW;let a:HT.sIx ⇑w ⇑w (U (-1))=⇑w-1:=by
  unfold HT.sIx;simp only[];rw[qg ⋯]
  lia
 let b:HT.sIx ⇑w 0 O=0:=rfl;rw[a,b,vI,Cu];rfl
def DR (w:p9):tW w (U 1) O=w.tail:=by have:=yQ w 1;rw[List.drop_one]at this;calc this
def FA (a:⇑m<=4)(e:⇑l<=40)(c:i<=41):⇑(yy l m i)<=6724:=by
 let b:∀k,⇑(xx (iu l k) (iu l (k+1)) m)<=164:=λk=>qJ (Zkt _ _ _) (qJ (Nat.mul_le_mul (KQ l k) a) ∅);let d:=CA (f:=λk=>xx (iu l k) (iu l (k+1)) m) b (List.range i);rw[uY]at d;have:i*164<=41*164:=Nat.mul_le_mul_right _ c;unfold yy
 lia
def DK (a:⇑l<=40)(h:w∈qE l m):⇑w<=41:=by
 have:=(tP.mp h).1.init.len;rw[vF]at this
 lia
def Dp {α:Type}{l:List α}{i:Nat}{x:α}(h:l[i]?=U x):l.take (i+1)=l.take i++[x]:=by rw[List.take_succ,h];rfl
def zd (f:Str):NU->List (Str×V):=λr=>iq f (r.getD 0 .non) []
def IA:(zd f vs).lookup f=U (vs.getD 0 .non):=by unfold zd;rw[sD,qg Z]
structure wB (m:p9):Prop where
 k:vq m=Y
 m1:1<=⇑m
 m4:⇑m<=4
def ig.kok (h:ig l m):wB m:=#[h.k,h.m1,h.m4]
def Iu (h:(⇑l:Int)<=most)(a:∀x∈l,x∈m):vA l m most=Y:=by unfold vA;rw[rB,NL,ur];calc#[h,λx b=>by simpa using a x b]
def Fc (h:H e=O):g7 H (upd (upd H e o) e o'):=λb u a=>by
 have:b≠e:=λz=>by rw[z,h]at a;cases a
 rw[qh this,qh this];calc a
def KW (x:vi H e C fs):∃d,H e=U (xo e C d)/\jq (upd H e (xr e C d)) e C fs:=by
 cases x with
 | bare h=>exact#[O,h,.bare qu]
 | @full d _ c b a=>calc#[U d,c,.full qu (by rw[qh a];calc b) a]
def CV (l x:p9):Bool:=!jk x l&&(jk x.tail l&&jk x.dropLast l)
def je:tI (x::xs) 0=U x:=by unfold tI wI;rw[qg (Int.le_refl _),qg (by rw[rF];lia)];rfl
def iQ (c k:Int):Int:=
 (((c % 2147483629*48271+k*7919+104729) % 2147483629*((c % 2147483629*48271+k*7919+104729) % 2147483629) % 2147483629*16807+k*104729+11) % 2147483587)*(((c % 2147483629*48271+k*7919+104729) % 2147483629*((c % 2147483629*48271+k*7919+104729) % 2147483629) % 2147483629*16807+k*104729+11) % 2147483587) % 2147483587
def Gp (c k:Int):0<=iQ c k:=tY _ ⋯
def F7:∀k<26,rn.getD k 0=97+k:=by decide
def ZlY (c:97<=x)(b:x<=122):x∈rn:=by
 let h:∀k,k<26->97+k∈rn:=by decide
 let a:=h (x-97) ∅
 rwa [show 97+(x-97)=x by lia]at a
def zK (h:vq m=Y):m.Pairwise (· < ·):=by rw[M9]at h;unfold DU at h;rw[rB]at h;calc((GD m).mp h.2).2
def Bk (l m:p9):Bool:=vA l m 1&&R ((⇑l:Int)=1)
def Zpv:
  PassesOwn (model (jj CX P w K mg base N qual scope f cd A outer s H E).prog (jj CX P w K mg base N qual scope f cd A outer s H E).w) (jj CX P w K mg base N qual scope f cd A outer s H E).A (jj CX P w K mg base N qual scope f cd A outer s H E).env (jj CX P w K mg base N qual scope f cd A outer s H E).xe:=PassesOwn.leaving
def C7 (C:AD)(E:XK)(H:Hp):Prop:=∀e a,g7 H a->jq a e C []->E (.ref C) (U e) a
def C7.same (x:C7 C E H)(s:g7 H H'):C7 C E H':=λe b a h=>x e b (s.trans a) h
def wB.kinds (h:wB m):jH m:=#[h.k,h.m1,h.m4,zK h.k]
def Zkv (h:jH m):wB m:=#[h.k,h.m1,h.m4]
def Zod (h:c∈m):Bk [c] m=Y:=by unfold Bk;rw[Iu (by show ((1:Nat):Int)<=1;decide) (λx a=>by rw[qR.mp a];calc h)];rfl
def Kc (d:x≠[]):CV l x=Y↔jS l x:=by
 unfold CV;rw[rB,rB,Bool.not_eq_true',Nv,zH,zH];constructor
 .rintro⟨a,b,c⟩;exact#[d,c,b,a]
 .rintro⟨_,c,b,a⟩;calc#[a,b,c]
def ut (L:p9)(i:Nat):qi:=(List.range i).flatMap λk=>[L.take (k+1),L.drop (⇑L-(k+1))]
def Je (L:p9)(i:Nat):ut L (i+1)=ut L i++[L.take (i+1),L.drop (⇑L-(i+1))]:=by unfold ut;rw[wX,List.flatMap_append,List.flatMap_singleton]
theorem E5 (L:p9):∀i,⇑(ut L i)=2*i
 | 0=>rfl
 | i+1=>by rw[Je,qP,E5 L i];simp;lia
def M0:w∈ut L i↔∃k,1<=k/\k<=i/\(w=L.take k\/w=L.drop (⇑L-k)):=by
 unfold ut;rw[Dj];constructor
 .rintro⟨k,a,h⟩;let a:=sT.mp a;simp only[qS,yc,or_false]at h;exact#[k+1,∅,∅,h]
 .rintro⟨k,b,c,h⟩;calc#[k-1,sT.mpr ∅,?_];let e:k-1+1=k:=by lia
  rw[e];simpa using h
def Gb (h:iL H zs rs){i:Nat}(a:i<⇑zs):∃t u,zs.getD i .non=.ref t/\H t=U (.tup [tx ((rs.map (·.1)).getD i []),u]):=by let#[r,d,t,b,e,c,_]:=h.2 i zs[i] (rD a);calc#[t,.ref b,by rw[sw,rD a];calc e,?_];rw[c,sw,se,d];rfl
def Hv {a:List (p9×NU)}{n:Nat}(h:n=⇑a):((List.range n).filter λ_=>Y).map (λi=>tx ((a.map (·.1)).getD i []))=(a.map (·.1)).map tx:=by
 subst h;rw[List.filter_eq_self.mpr (λ_ _=>rfl)];apply vO {};intro i d c;let b:i<⇑a:=by simpa using c
 simp[sw,rD b]
def Zhw {kvs:List (qt×V)}{k:qt}{v:V}(h:hW kvs k=U v):k∈kvs.map (·.1):=by
 unfold hW at h;let#[p,a,_]:=Option.map_eq_some_iff.mp h;let e:p.1=k:=by simpa using List.find?_some a
 rw[<-e];calc yx (List.mem_of_find?_eq_some a)
def Zl0 (l:List (qt×V))(v:V)(h:k∈l.map (·.1)):(ii l k v).map (·.1)=l.map (·.1):=by
 unfold ii;let c:(l.any λa=>R (a.1=k))=Y:=by let#[p,b,e]:=rj.mp h;exact vQ.mpr #[p,b,NM e]
 rw[qg c,rO];calc zk λp _=>?_;show (if p.1=k then (p.1,v) else p).1=p.1;split<;>rfl
structure DI (H:Hp)(s L rs:p9)(S:p9->Prop)(kvs:List (qt×V))(ws:qi):Prop where
 keys:kvs.map (·.1)=ws.map qf
 nd:ws.Nodup
 mem:∀w,w∈ws↔jS L w/\S w
 val:∀w∈ws,∃b,hW kvs (qf w)=U (.ref b)/\H b=U (.tup [tx rs,tx (j7 s w),.int (wT L (j7 s w):Nat)])
def DI.grow (h:DI H s L rs S kvs ws)(e:∀b us,H b=U (.tup us)->H' b=U (.tup us))(c:∀w,jS L w->(S w↔S' w)):DI H' s L rs S' kvs ws:=
 #[h.keys,h.nd,λw=>(h.mem w).trans #[λ⟨a,b⟩=>#[a,(c w a).mp b],λ⟨a,b⟩=>#[a,(c w a).mpr b]],λw d=>let ⟨b,h1,h2⟩:=h.val w d;#[b,h1,e _ _ h2]]
def DI.put (h:DI H s L rs S kvs ws)(l:jS L x)(g:H b=U (.tup [tx rs,tx (j7 s x),.int (wT L (j7 s x):Nat)])):
  ∃ws',DI H s L rs (λw=>S w\/w=x) (ii kvs (qf x) (.ref b)) ws':=by
 by_cases d:x∈ws
 .refine#[ws,?_,h.nd,λw=>?_,λw f=>?_]
  .rw[Zl0,h.keys];rw[h.keys];exact yx d
  .rw[h.mem];constructor
   .rintro⟨a,c⟩;exact#[a,.inl c]
   .rintro⟨a,c | rfl⟩
    .exact#[a,c]
    .exact(h.mem w).mp d
  .rw[uT];by_cases e:w=x
   .subst e;exact#[b,by rw[qg Z],g]
   .rw[qe (λz=>e (tZ z))];exact h.val w f
 .let m:hW kvs (qf x)=O:=by
   cases e:hW kvs (qf x) with
   | none=>rfl
   | some v=>
    exfalso;have:=Zhw e;rw[h.keys]at this;let#[y,n,i]:=rj.mp this;exact d (tZ i▸n)
  refine#[ws++[x],?_,?_,λw=>?_,λw f=>?_]
  .rw[zY _ m,sJ,h.keys,sJ];rfl
  .rw[z8];calc#[h.nd,{},λa k c j e=>?_];rw[qR.mp j]at e;exact d (e▸k)
  .rw[rJ,qR,h.mem];constructor
   .rintro (⟨a,c⟩ | rfl)
    .exact#[a,.inl c]
    .exact#[l,.inr Z]
   .rintro⟨a,c | rfl⟩
    .exact .inl #[a,c]
    .exact .inr Z
  .rw[uT];by_cases e:w=x
   .subst e;exact#[b,by rw[qg Z],g]
   .rw[qe (λz=>e (tZ z))];rcases rJ.mp f with z | z
    .exact h.val w z
    .exact NR (qR.mp z) e
def Zlk (T:iO H P pos q)(k:∀b o,H b=U o->b≠pd->H' b=U o)(h:H pd=U o0)(t:ub o0=J)(x:Ey o0=J):iO H' P pos q:=by let#[g,e,f,i]:=T;calc#[g,k _ _ e (λz=>by rw[z,h]at e;cases e;cases t),f,i.imp id ?_];rintro⟨c,d,a⟩;calc#[c,d,k _ _ a (λz=>by rw[z,h]at a;unfold xT at a;cases a;cases x)]
def Dv (a s L m:p9):(wF a s L m).map (·.1)=jP s L m:=by unfold wF;rw[rO];calc List.map_id' _
def Dc (a s L m:p9):(xv a s L m).map (·.1)=lh s L m:=by unfold xv;rw[rO];calc List.map_id' _
def BO (a:⇑m<=4)(b:⇑l<=40):⇑(qE l m)<=6724:=FA a b ∅
def EQ 
  (q:g8 C H p la da l m ds) (i:qV [da] H H3) (e:H3 da=U (.lst ts2)) (w:iG H3 ts2 ds2) (ch:qV [p] H3 H4) (o:yW C H4 p la2 da l2 m) (y:H4 la2=U (.lst ((qE l2 m).map tx))) (a:kc H3 H4 t c g la2 rc rg) (k:uz m ds2 l2):
  qV [p,da] H H4/\g8 C H4 p la2 da l2 m ds2/\kc H H4 t c g la2 rc rg:=by
 let#[#[D,f],E,#[A,u,F],_,x,s]:=id q;let d:p≠da:=λz=>by rw[z,u]at f;cases f
 let v:=i _ _ f (~~~d) Z;let j:∀r,Nw H3 r->Nw H r:=λr n=>n.chg i λb h=>by obtain rfl:=qR.mp h;exact#[_,e,Z]
 calc#[(i.mono {}).trans (ch.mono {}),#[o,y,#[ts2,ch _ _ e (~~~qy d) Z,w.chg ch λb h B z=>by rw[qR.mp h,v]at z;cases z],k,x,qy (a.nl.ne e Z)],#[a.tup,a.came,a.went,j _ a.nc,j _ a.ng,j _ a.nl,a.ncg,a.ncl,a.ngl]]
def Zk0 (h:rl K H r ts)(d:iG H ts ds):ij K H (.l (ds.map BF)) (.ref r):=by unfold ij;calc#[r,ts,Z,h,d.dat]
def ZkZ (b:List (Bool×Nat)):uA (.l (b.map BF))<=2:=by unfold uA;calc Bi (Li λd a=>?_);let#[x,_,Z]:=rj.mp a;calc ZkY x
def wb (h:g8 C H p la da l m ds):ig l m:=#[h.ok.k,h.ok.m1,h.ok.m4,h.run.len,h.run.mem]
noncomputable def Jb (x:Str):Bool:=!R (x="own_text")&&!R (x="own_kinds")&&!R (x="own_lacking")&&!R (x="own_deeds")
def sN (h:autoParam (Jb x=Y) Qj._auto_1):(sF l m la da).lookup x=O:=by unfold Jb at h;simp only[rB,Bool.not_eq_true',NP]at h;calc ZrK h.1.1.1 h.1.1.2 h.1.2 h.2
def zE (ws:qi)(w:p9):Bool:=!(ws.any λp=>jk p w)
def j9 (s:p9):List qt:=s.map λ(i:Nat)=>(Sum.inl ((i:Nat):Int):qt)
def numK (sp:qi):List (List qt×V):=sp.zipIdx.map λp=>(j9 p.1,V.int ((p.2:Nat):Int))
structure RInv (H:Hp)(ps pw pn:AD)(l:p9)(sp ws:qi)(ts:List AD):Prop where
 hs:H ps=U (.lst (ts.map V.ref))
 hw:H pw=U (.lst (ws.map tx))
 hn:H pn=U (.dT (numK sp))
 tl:⇑ts=⇑sp
 tt:∀(i:Nat)(t:AD)(s:p9),ts[i]?=U t->sp[i]?=U s->H t=U (.tup (s.map λ(i:Nat)=>V.int i))
 wl:⇑ws=⇑sp
 wt:∀(i:Nat)(w s:p9),ws[i]?=U w->sp[i]?=U s->s=x0 l w/\qI w l
 nd:sp.Nodup
 f0:sp[0]?=U (GE l)
def tZ (e:qf x=qf y):x=y:=by unfold qf at e;injection e with e;injection e with e;injection e
def Ef {kvs:List (qt×V)}{k a:qt}{v:V}(h:(hW kvs a).isSome=Y\/a=k):(hW (ii kvs k v) a).isSome=Y:=by
 rw[uT];split
 .rfl
 .rcases h with h | h
  .exact h
  .exact NR h (by assumption)
def M4 {kvs:List (qt×V)}{k:qt}(v:V)(a:(kvs.map (·.1)).Nodup):((ii kvs k v).map (·.1)).Nodup:=by
 cases h:hW kvs k with
 | none=>exact Zn5 v a h
 | some x=>
  let e:(ii kvs k v).map (·.1)=kvs.map (·.1):=by unfold ii;rw[qg (by let#[d,b,c]:=rj.mp (Znl h);calc vQ.mpr #[d,b,NM c]),rO];calc zk λp _=>?_;show (if p.1=k then (p.1,v) else p).1=p.1;split<;>rfl
  rw[e];calc a
def TT (a:Ad)(H:Hp):Prop:=iO H a.t_LT lpos lq/\True
def TT.same (t:TT a H)(s:g7 H H'):TT a H':=#[t.1.same s,trivial]
def TT.upd (t:TT a H)(h:H b=U o)(c:ub o=J)(d:Ey o=J):TT a (upd H b o'):=#[t.1.upd h c d,trivial]
def LH (T:TT a H)(k:∀b o,H b=U o->b≠pd->H' b=U o)(h:H pd=U o0)(t:ub o0=J)(x:Ey o0=J):TT a H':=#[Zlk T.1 k h t x,trivial]
def lD (a:Ad)(H:Hp)(p:AD)(l m:p9):Prop:=Ch a.c_MP H p l m\/∃c b d,g8 a.c_MR H p c b l m d
def lD.l {a:Ad}{H b:Hp}{p:AD}{l m:p9}(h:lD a H p l m)(s:iD H b):lD a b p l m:=by
 rcases h with⟨e,h⟩|⟨c,d,f,h⟩
 .exact .inl #[e,s _ _ h Z]
 .exact .inr #[c,d,f,h.l s]
structure LsOk (xs:qi):Prop where
 srt:xs.Pairwise iM
 len:⇑xs<=200
 w:∀w∈xs,1<=⇑w/\⇑w<=41
def lsOk (a:ig l m):LsOk (qE l m):=by
 calc#[wx (zK a.k),qJ (Mq (zK a.k)) (qJ (Nat.mul_le_mul a.m4 (Bi a.l40)) ⋯),λw c=>?_];let b:=(tP.mp c).1;let d:=b.tail.len;rw[BJ]at d;let e:=wC.mpr b.ne;have:=a.l40
 lia
def im (l m:p9)(ws:qi):Prop:=ws.Perm (qE l m)
def im.mem (h:im l m ws){w:p9}:w∈ws↔w∈qE l m:=h.mem_iff
def im.nd (h:im l m ws)(a:ig l m):ws.Nodup:=h.nodup_iff.mpr (Kq (zK a.k))
def im.len (h:im l m ws)(a:ig l m):⇑ws<=200:=by rw[h.length_eq];calc qJ (Mq (zK a.k)) (qJ (Nat.mul_le_mul a.m4 (Bi a.l40)) ⋯)
def im.ne (h:im l m ws){w:p9}(a:w∈ws):w≠[]:=(tP.mp (h.mem.mp a)).1.ne
def im.w41 (h:im l m ws)(b:ig l m){w:p9}(a:w∈ws):⇑w<=41:=by
 have:=(tP.mp (h.mem.mp a)).1.tail.len;rw[BJ]at this;have:=b.l40
 lia
def im.wm (h:im l m ws)(i:ig l m){w:p9}(f:w∈ws):∀c∈w,c∈m:=by
 let#[b,c,g,d]:=tP.mp (h.mem.mp f);intro x a;let e:w=w.dropLast++[c]:=by let#[j,Z]:=List.getLast?_eq_some_iff.mp d;rw[Cf]
 rw[e]at a;rcases rJ.mp a with z | z
 .exact i.mem x (b.init.mem z)
 .rw[qR.mp z];calc g
def im.av (h:im l m ws){w:p9}(d:∀c∈w,c∈m):Av ws w↔qI w l:=by rw[Zkq d];calc#[λa v b=>a v (h.mem.mpr b),λa v b=>a v (h.mem.mp b)]
def im.anti (h:im l m ws):Anti ws:=λv a w b c=>Zi4 (h.mem.mp a) (h.mem.mp b) c
def im.stem (h:im l m ws)(e:ig l m){u:p9}(d:jm ws u):∀c∈u,c∈m:=by
 rcases d with rfl | ⟨v,b,k,_,rfl⟩
 .intro c a;cases a
 .exact λc a=>h.wm e b c (tH a)
def im.stemAv (h:im l m ws){u:p9}(b:jm ws u):Av ws u:=Znu h.anti (λv a=>h.ne a) b
def FV:zE ws w=Y↔Av ws w:=by unfold zE Av;rw[Bool.not_eq_true',List.any_eq_false];calc#[λa v b c=>a v b (zH.mpr c),λa v b c=>a v b (zH.mp c)]
structure ku (ws:qi)(kvs:List (qt×V)):Prop where
 key:∀kv∈kvs,∃u:p9,kv.1=qf u/\jm ws u
 has:∀u,jm ws u->(hW kvs (qf u)).isSome=Y
 nd:(kvs.map (·.1)).Nodup
 len:⇑kvs<=8201
def DC {kvs:List (qt×V)}{k:qt}(h:(hW kvs k).isSome=Y):∃a∈kvs,a.1=k:=by
 unfold hW at h;cases e:kvs.find? λa=>R (a.1=k) with
 | none=>rw[e]at h;cases h
 | some a=>calc#[a,List.mem_of_find?_eq_some e,by simpa using List.find?_some e]
def ku.iff (h:ku ws kvs)(u:p9):(hW kvs (qf u)).isSome=Y↔jm ws u:=by
 constructor
 .intro z;let#[d,a,e]:=DC z;let#[v,c,b]:=h.key d a;rw[tZ (e.symm.trans c)];exact b
 .exact h.has u
def ZpZ (h:∀b:Bool,(b=Y->x≠y)->Q (.bl b) H):jC K Y (tx x) (tx y) H Q:=.inl #[Z,by rw[qg Z];calc h _ λz e=>by rw[e]at z;simp at z]
noncomputable def jI (ws:qi)(u:p9):p9:=Classical.choose (Ii ws u)
def CM (ws:qi)(u:p9):xR ws u (jI ws u):=Classical.choose_spec (Ii ws u)
def iX (ws:qi)(m u:p9):p9:=m.filter λc=>zE ws (u++[c])
noncomputable def sE (ws:qi)(m u:p9):List (Nat×p9):=(iX ws m u).map λc=>(c,jI ws (u++[c]))
noncomputable def iE (ws:qi)(m u:p9):qi:=(sE ws m u).map (·.2)
def jf (x:Nat×p9):qt×V:=(qf [x.1],tx x.2)
def iS (H:Hp)(p:AD)(b:List (qt×V))(ws:qi)(m:p9)(ss:qi):Prop:=⇑b=⇑ss/\∀(i:Nat)(u:p9),ss[i]?=U u->∃a,b[i]?=U (qf u,.ref a)/\a≠p/\H a=U (.dK ((sE ws m u).map jf))
structure j0 (ws ss:qi):Prop where
 nd:ss.Nodup
 iff:∀u,u∈ss↔jm ws u
 len:⇑ss<=8201
structure k8 (ws:qi)(m:p9)(ss es:qi):Prop where
 nd:es.Nodup
 sub:∀s∈es,s∈ss
 nil:[]∈es
 ord:∀(k:Nat)(s:p9),es[k]?=U s->∀t∈iE ws m s,t∈es.take k
def iS.chg (h:iS H p kw ws m ss)(s:∀b o,b≠p->H b=U o->H' b=U o):iS H' p kw ws m ss:=#[h.1,λi u d=>by let#[a,e,n,c]:=h.2 i u d;calc#[a,e,n,s _ _ n c]]
def iS.same (h:iS H p kw ws m ss)(s:g7 H H'):iS H' p kw ws m ss:=h.chg λb o _ e=>s b o e
def iS.snoc (h:iS H p kw ws m ss)(n:a≠p)(f:H a=U (.dK ((sE ws m u).map jf))):iS H p (kw++[(qf u,.ref a)]) ws m (ss++[u]):=by
 calc#[by rw[qP,qP,h.1,r6,r6],λi v b=>?_];by_cases c:i<⇑ss
 .rw[vj c]at b;rw[vj (by rw[h.1];calc c)];exact h.2 i v b
 .let d:=(rY.mp b).1;rw[qP,r6]at d;let e:i=⇑ss:=by lia
  subst e;rw[vH (qG _),yd]at b;cases b;calc#[a,?_,n,f];rw[<-h.1,vH (qG _),yd];rfl
def iS.keys (h:iS H p kw ws m ss):kw.map (·.1)=ss.map qf:=by
 apply zO;intro i;rw[se,se];cases e:ss[i]? with
 | none=>
  have:kw[i]?=O:=by rw[List.getElem?_eq_none_iff]at e ⊢;rw[h.1];exact e
  rw[this];rfl
 | some u=>
  let#[a,b,_]:=h.2 i u e;rw[b];rfl
def ZpY {α:Type}{es:List α}{n:Nat}{r:α}(c:es.Nodup)(h:es[n]?=U r):r∉es.take n:=by intro b;let#[k,d,e]:=xc b;rw[rL]at d;rw[List.getElem_take]at e;let#[f,a]:=rY.mp h;have:=(List.nodup_iff_pairwise_ne.mp c);rw[Co]at this;calc this k n ∅ f ∅ (by rw[e,a])
def MM {kvs:List (qt×V)}{k:qt}(h:k∉kvs.map (·.1)):hW kvs k=O:=by
 cases e:hW kvs k with
 | none=>rfl
 | some v=>
  let#[b,a,c]:=DC (kvs:=kvs) (k:=k) (by rw[e];rfl);calc NR (rj.mpr #[b,a,c]) h
theorem KM:∀(xs a:List (qt×V)),((a++xs).map (·.1)).Nodup->uM a xs=a++xs
 | [],a,_=>by rw[wH];rfl
 | x::xs,a,h=>by
  let e:a++x::xs=(a++[x])++xs:=by simp
  let c:x.1∉a.map (·.1):=by rw[sJ,z8]at h;exact λb=>h.2.2 x.1 b x.1 {} Z
  let r:=KM xs (a++[x]) (by rw[<-e];calc h);rw[e,<-r];show uM (ii a x.1 x.2) xs=_;rw[zY _ (MM c)]
def L8 (a:m.Pairwise (· < ·)):(((sE ws m u).map jf).map (·.1)).Nodup:=by unfold sE iX;rw[rO,rO];have:(m.filter λc=>zE ws (u++[c])).Nodup:=(a.imp λh=>rK h).filter _;calc Do this ?_;intro x _ y _ e;let b:qf [x]=qf [y]:=e;have:=tZ b;simpa using this
def ZkR (P:Nat->Bool)(g:Nat->α)(l:p9):((List.range ⇑l).filter λi=>P (l.getD i 0)).map (λi=>g (l.getD i 0))=(l.filter P).map g:=by
 let e:l=(List.range ⇑l).map λi=>l.getD i 0:=by apply vO {};intro i a b;simp[sw,a]
 conv=>rhs;rw[e]
 rw[List.filter_map,rO];rfl
def zZ {ws:qi}{i:Nat}{x:V}(h:(ws.map tx)[i]?=U x):∃y,ws[i]?=U y/\x=tx y:=by
 rw[se]at h;cases e:ws[i]? with
 | none=>rw[e]at h;cases h
 | some y=>rw[e]at h;cases h;calc#[y,Z,Z]
structure iW (ws:qi)(i j:Nat)(kvs:List (qt×V)):Prop where
 key:∀kv∈kvs,∃u:p9,kv.1=qf u/\jm ws u
 nil:(hW kvs (qf [])).isSome=Y
 has:∀(a:Nat)(w:p9),ws[a]?=U w->∀k,k<⇑w->(a<i\/(a=i/\k<j))->(hW kvs (qf (w.take k))).isSome=Y
 nd:(kvs.map (·.1)).Nodup
def Nd {kvs:List (qt×V)}{k:qt}{v:V}{a:qt×V}(h:a∈ii kvs k v):a.1=k\/∃p∈kvs,p.1=a.1:=by
 unfold ii at h;split at h
 .obtain⟨p,b,e⟩:=rj.mp h;split at e
  .exact .inr #[p,b,by rw[<-e]]
  .exact .inr #[p,b,by rw[<-e]]
 .rcases rJ.mp h with z | z
  .exact .inr #[a,z,Z]
  .rw[qR.mp z];calc .inl Z
def iW.start (ws:qi):iW ws 0 0 (uM [] [(qf [],.bl Y)]) where
 key:=λc h=>by
  rcases Nd (kvs:=[]) h with z | ⟨p,b,_⟩
  .exact#[[],z,.inl Z]
  .cases b
 nil:=Ef (kvs:=[]) (.inr Z)
 has:=λa w _ k _ h=>by rcases h with z | ⟨_,z⟩<;>lia
 nd:=M4 (kvs:=[]) (.bl Y) List.nodup_nil
def iW.put {ws:qi}{i j:Nat}{kvs:List (qt×V)}{w:p9}(h:iW ws i j kvs)(d:ws[i]?=U w)(r:j<⇑w):iW ws i (j+1) (ii kvs (qf (w.take j)) (.bl Y)) where
 key:=λs m=>by
  rcases Nd m with z | ⟨p,o,e⟩
  .exact#[w.take j,z,.inr #[w,sC d,j,r,Z]]
  .obtain⟨u,g,l⟩:=h.key p o;exact#[u,e▸g,l]
 nil:=Ef (.inl h.nil)
 has:=λa v b k q z=>by
  by_cases c:a<i\/(a=i/\k<j)
  .exact Ef (.inl (h.has a v b k q c))
  .let f:a=i:=by lia
   let n:k=j:=by lia
   subst f n;rw[d]at b;cases b;exact Ef (.inr Z)
 nd:=M4 _ h.nd
def iW.one (h:iW ws i 0 kvs)(f:ws[i]?=U w):iW ws i (1+0) kvs:=
 ⟨h.key,h.nil,λa v b k e z=>by
  by_cases c:a<i
  .exact h.has a v b k e (.inl c)
  .let d:k=0:=by lia
   subst d;rw[xY];calc h.nil,h.nd⟩
def iW.next (h:iW ws i j kvs)(e:ws[i]?=U w)(g:⇑w<=j):iW ws (i+1) 0 kvs:=
 ⟨h.key,h.nil,λa v b k f z=>by
  calc h.has a v b k f ?_;by_cases c:a<i
  .exact .inl c
  .let d:a=i:=by lia
   subst d;rw[e]at b;cases b;calc .inr ⟨Z,∅⟩,h.nd⟩
def iW.done (h:iW ws ⇑ws 0 kvs)(c:⇑kvs<=8201):ku ws kvs:=
 ⟨h.key,λu d=>by
  rcases d with rfl | ⟨v,f,k,g,rfl⟩
  .exact h.nil
  .obtain⟨a,b,e⟩:=xc f;calc h.has a v (rY.mpr ⟨b,e⟩) k g (.inl b),h.nd,c⟩
def iY (p:AD)(H a:Hp):Prop:=∀b o,b≠p->H b=U o->a b=U o
def ZrJ (s:g7 H H'):iY p H H':=λb o _ e=>s b o e
def iY.trans (s:iY p H H1)(t:iY p H1 H2):iY p H H2:=λb o n e=>t b o n (s b o n e)
def iY.updX (s:iY p H H'):iY p H (upd H' p o):=λb u n e=>by rw[qh n];calc s b u n e
def iY.updN (s:iY p H H')(h:H a=O):iY p H (upd H' a o):=λb u n e=>by rw[qh (qN e h)];calc s b u n e
def iY.same (s:iY p H H')(h:H p=U o)(h':H' p=U o):g7 H H':=λb u e=>by
 by_cases c:b=p
 .subst c;rw[h]at e;cases e;exact h'
 .exact s b u c e
noncomputable def edges (ws:qi)(m:p9)(ss:qi):List (p9×p9):=ss.flatMap λs=>(iE ws m s).map λr=>(r,s)
def iF (E:List (p9×p9))(r:p9):qi:=(E.filter λe=>R (e.1=r)).map (·.2)
structure iU (H H':Hp)(pS pL:AD)(kS:List (qt×V))(E:List (p9×p9)):Prop where
 no:∀r,hW kS (qf r)=O->iF E r=[]
 yes:∀r v,hW kS (qf r)=U v->∃a,v=.ref a/\H a=O/\a≠pS/\a≠pL/\H' a=U (.lst ((iF E r).map tx))
 inj:∀r r' a,hW kS (qf r)=U (.ref a)->hW kS (qf r')=U (.ref a)->r=r'
 len:⇑kS<=⇑E
def CS (a:List (qt×V))(ss:qi)(f:p9->Nat):Prop:=∀s∈ss,hW a (qf s)=U (.int (f s:Nat))
def Zol (b:Nat->St->Hp->Prop)(l:b 0 σ H)(h:∀i σ H,b i σ H->H a=U (.frz o (.dK kvs)))
  (s:∀i p σ H,kvs[i]?=U p->b i σ H->g p.2 σ H λσ2 H2=>tb { D with nx:=b (i+1),ct:=b (i+1),bk:=D.nx } σ2 H2) (n:∀σ H,b ⇑kvs σ H->D.nx σ H):io (FX o kvs a) g tb D σ H:=by
 calc#[λi m σ H=>m=⇑kvs-i/\i<=⇑kvs/\b i σ H,#[⇑kvs,{},rM _,l],?_];rintro i m σ H ⟨rfl,u,p⟩;let q:=h i σ H p;by_cases c:i<⇑kvs
 .refine .inr #[#[q,c],b (i+1),λt d k=>#[⇑kvs-(i+1),∅,Z,c,k],λx d y=>?_];let#[e,r,f,j]:=y;subst e j;exact s i r σ _ f p
 .let e:i=⇑kvs:=by lia
  subst e;calc .inl #[#[q,qG _],n σ H p]
theorem E3:∀ {kvs:List (qt×V)} {i:Nat} {k:qt} {v:V},(kvs.map (·.1)).Nodup->kvs[i]?=U (k,v)->hW kvs k=U v
 | [],i,k,v,_,h=>by simp at h
 | p::kvs,0,k,v,_,h=>by
  cases h;exact vE Z
 | p::kvs,i+1,k,v,nd,h=>by rw[rC,uX]at nd;let h':kvs[i]?=U (k,v):=h;have:p.1≠k:=λe=>nd.1 (by rw[e];calc rj.mpr #[_,sC h',Z]);rw[vn this];calc E3 nd.2 h'
def iS.val (h:iS H p kw ws m ss)(c:ss.Nodup)(b:u∈ss):∃a,hW kw (qf u)=U (.ref a)/\a≠p/\H a=U (.dK ((sE ws m u).map jf)):=by let#[i,g,e]:=xc b;let#[a,f,j,d]:=h.2 i u (rY.mpr #[g,e]);calc#[a,E3 ?_ f,j,d];rw[h.keys];calc Do c λx _ y _ e=>tZ e
def Bg (E:List (p9×p9))(r s x:p9):iF (E++[(r,s)]) x=if r=x then iF E x++[s] else iF E x:=by
 unfold iF;rw[x9,sJ];by_cases e:r=x
 .simp[e]
 .simp[e]
def iU.keep (h:iU H H' pS pL kS E)(k:∀a xs,H' a=U (.lst xs)->H'' a=U (.lst xs)):iU H H'' pS pL kS E:=
 #[h.no,λr v b=>let ⟨a,e,n,n1,n2,ha⟩:=h.yes r v b;#[a,e,n,n1,n2,k _ _ ha],h.inj,h.len]
def iU.old {H i:Hp}{j g a:AD}{f:List (qt×V)}{E:List (p9×p9)}{r s:p9}(h:iU H i j g f E)(d:hW f (qf r)=U (.ref a)):iU H (upd i a (.lst ((iF E r).map tx++[tx s]))) j g f (E++[(r,s)]) where
 no:=λx b=>by
  have:r≠x:=λe=>by rw[e,b]at d;cases d
  rw[Bg,qe this];exact h.no x b
 yes:=λx v b=>by
  let#[k,e,n,m,o,l]:=h.yes x v b;calc#[k,e,n,m,o,?_];by_cases c:r=x
  .subst c;rw[d]at b;cases b;cases e;rw[qu,Bg,qg Z,sJ];rfl
  .have:k≠a:=λz=>c (h.inj r x a d (by rw[b,e,z]));rw[qh this,Bg,qe c];exact l
 inj:=h.inj
 len:=qJ h.len (by rw[qP];lia)
def iU.new {H p H'':Hp}{q m z:AD}{f:List (qt×V)}{E:List (p9×p9)}{r s:p9}(h:iU H p q m f E)(K:hW f (qf r)=O)(G:H z=O)(i:p z=O)(F:z≠q)(L:z≠m)
  (k:∀a xs,a≠z->p a=U (.lst xs)->H'' a=U (.lst xs)) (D:H'' z=U (.lst [tx s])):iU H H'' q m (ii f (qf r) (.ref z)) (E++[(r,s)]) where
 no:=λx b=>by
  rw[uT]at b;split at b
  .cases b
  .rename_i c
   have:r≠x:=λe=>c (by rw[e]);rw[Bg,qe this];exact h.no x b
 yes:=λx v b=>by
  rw[uT]at b;by_cases c:x=r
  .subst c;rw[qg Z]at b;cases b;calc#[z,Z,G,F,L,?_];rw[D,Bg,qg Z,h.no x K];rfl
  .rw[qe (λe=>c (tZ e))]at b;let#[u,e,n,w,C,g]:=h.yes x v b;calc#[u,e,n,w,C,?_];rw[Bg,qe (λe=>c e.symm)];exact k _ _ (λe=>by rw[e,i]at g;cases g) g
 inj:=λx y a b A=>by
  let d:∀x a,hW (ii f (qf r) (.ref z)) (qf x)=U (.ref a)->(x=r/\a=z)\/(x≠r/\hW f (qf x)=U (.ref a)/\a≠z):=λx a b=>by
   rw[uT]at b;by_cases c:x=r
   .rw[qg (by rw[c])]at b;cases b;exact .inl #[c,Z]
   .rw[qe (λe=>c (tZ e))]at b;let#[u,e,n,w,C,g]:=h.yes x _ b;cases e;exact .inr #[c,b,λe=>by rw[e,i]at g;cases g]
  rcases d x a b with⟨B,o⟩|⟨B,o,I⟩
  .rcases d y a A with⟨l,j⟩|⟨l,j,t⟩
   .rw[B,l]
   .exact NR o t
  .rcases d y a A with⟨l,j⟩|⟨l,j,t⟩
   .exact NR j I
   .exact h.inj x y a o j
 len:=by
  have:=xq f (qf r) (.ref z);have:=h.len;rw[qP,r6]
  lia
def Znv (a:qi)(s r:p9):iF (a.map λt=>(t,s)) r=List.replicate (a.count r) s:=by
 unfold iF;induction a with
 | nil=>rfl
 | cons t a b=>
  rw[rC,CB,List.count_cons];by_cases e:t=r
  .subst e;simp only[decide_true,if_true,beq_self_eq_true,rC,b,yN]
  .let c:(t == r)=J:=by simpa using e
   simp only[NN e,yY,if_false,c,b,Nat.add_zero]
def Znw (E F:List (p9×p9))(r:p9):iF (E++F) r=iF E r++iF F r:=by unfold iF;rw[x9,sJ]
def Iv (h:s∈iF (edges ws m ss) r):s∈ss:=by unfold iF edges at h;let#[e,b,Z]:=rj.mp h;let#[u,a,c]:=Dj.mp (uK.mp b).1;let#[t,_,Z]:=rj.mp c;calc a
theorem II {ws:qi}{m r s:p9}:∀ {ss:qi},ss.Nodup->s∈ss->(iF (edges ws m ss) r).count s=(iE ws m s).count r
 | [],_,h=>by cases h
 | u::ss,nd,h=>by
  let e:iF (edges ws m (u::ss)) r=List.replicate ((iE ws m u).count r) u++iF (edges ws m ss) r:=by unfold edges;rw[List.flatMap_cons,Znw,Znv]
  let a:=uX.mp nd;rw[e,List.count_append,List.count_replicate];by_cases c:u=s
  .subst c;let z:(iF (edges ws m ss) r).count u=0:=List.count_eq_zero.mpr λz=>a.1 (Iv z);rw[z,qg {}];rfl
  .let b:s∈ss:=by
    rcases qS.mp h with z | z
    .exact NR z.symm c
    .exact z
   rw[qe (~~~c),Nat.zero_add];calc II a.2 b
def ML (a:⇑m<=4)(b:⇑ss<=8201):⇑(edges ws m ss)<=32804:=by
 have:⇑(edges ws m ss)<=⇑ss*4:=CA (λs=>by unfold iE sE iX;rw[qm,qm,qm];calc qJ (ug _ _) a) ss
 lia
def ZjH (E:List (p9×p9))(r:p9):⇑(iF E r)<=⇑E:=by unfold iF;rw[qm];calc ug _ _
def Dead (ws:qi)(m:p9)(k:Nat)(s:p9):Prop:=∀x:p9,(∀c∈x,c∈m)->Av ws (s++x)->⇑x<k
def ZnY (h:t∈iE ws m s):∃c∈m,Av ws (s++[c])/\xR ws (s++[c]) t:=by unfold iE sE iX at h;let#[x,a,Z]:=rj.mp h;let#[c,b,Z]:=rj.mp a;have:=uK.mp b;calc#[c,this.1,FV.mp this.2,CM _ _]
def J2 (h:xR ws u e):jm ws e:=let ⟨_,_,_,hs,_⟩:=h;hs
def Zor (v:ig l m)(o:im l m ws)(g:j0 ws ss)(h:KI ss (iE ws m) ⇑es es f):k8 ws m ss es:=by
 calc#[h.nd,h.sub,?_,h.ord];let q:∀s∈ss,¬Dead ws m 0 s:=λs n d=>by
  have:=d [] (λc i=>by cases i) (by rw[wH];calc o.stemAv ((g.iff s).mp n))
  lia
 let p:([]:p9)∈ss:=(g.iff []).mpr (.inl Z);refine KI.all (D:=Dead ws m) h q (λk s n d t r=>?_) (⇑l+1) [] p λx b a=>?_
 .obtain⟨c,i,a,j⟩:=ZnY r;calc#[(g.iff t).mpr (J2 j),λx b e=>?_];have:=d (c::x) (λy u=>by
   rcases qS.mp u with z | z
   .rw[z];exact i
   .exact b y z) ((ES j).mpr #[a,e])
  rw[rF]at this
  lia
 .have:=((o.av b).mp (by rw[xC]at a;calc a)).len
  lia
def Zjb (ws:qi)(m:p9)(ss:qi)(u:p9):edges ws m (ss++[u])=edges ws m ss++(iE ws m u).map λr=>(r,u):=by unfold edges;rw[List.flatMap_append];simp
def Nk {n:Nat}(h:Q (.bl (R (n=0))) H):jC K J (.int (n:Int)) (.int 0) H Q:=.inl ⟨Z,by
 rw[qe qO];have:R (V.int (n:Int)=V.int 0)=R (n=0):=by
  rw[decide_eq_decide];constructor
  .intro e;injection e with e;lia
  .intro e;rw[e];rfl
 rw[this];calc h⟩
def ZkQ (d:α)(P:α->Bool)(g:α->β)(l:List α):((List.range ⇑l).filter λi=>P (l.getD i d)).map (λi=>g (l.getD i d))=(l.filter P).map g:=by
 let e:l=(List.range ⇑l).map λi=>l.getD i d:=by apply vO {};intro i a b;simp[sw,a]
 conv=>rhs;rw[e]
 rw[List.filter_map,rO];rfl
def KP {kvs:List (qt×V)}{k:qt}{v w:V}(h:hW kvs k=U w):⇑(ii kvs k v)=⇑kvs:=by
 unfold ii;split
 .rw[qm]
 .rename_i c
  let#[b,a,e]:=DC (kvs:=kvs) (k:=k) (by rw[h];rfl);calc NR (vQ.mpr #[b,a,~~~e]) c
structure LW (ws:qi)(m s x:p9):Prop where
 mem:∀c∈x,c∈m
 av:Av ws (s++x)
 max:∀y:p9,(∀c∈y,c∈m)->Av ws (s++y)->⇑y<=⇑x
structure PW (ws:qi)(m s:p9)(j:Nat)(x:p9):Prop where
 mem:∀c∈x,c∈m
 av:Av ws (s++x)
 max:∀(c:Nat)(y:p9),c∈(iX ws m s).take j->(∀c∈y,c∈m)->Av ws (s++c::y)->⇑y+1<=⇑x
def PW.start (h:Av ws s):PW ws m s 0 []:=
 #[λc a=>(by cases a),(by rw[wH];calc h),λc y a=>(by rw[xY]at a;cases a)]
def Ke:c∈iX ws m s↔c∈m/\Av ws (s++[c]):=by unfold iX;rw[uK,FV]
def PW.done (h:PW ws m s ⇑(iX ws m s) x):LW ws m s x:=
 ⟨h.mem,h.av,λy b a=>by
  cases y with
  | nil=>exact rM _
  | cons c y=>
   let f:=CM ws (s++[c]);have:=(ES (x:=y) f).mp a;calc h.max c y (by rw[uJ];calc Ke.mpr ⟨b c sA,this.1⟩) (λd e=>b d (si _ e)) a⟩
def PW.next (h:PW ws m s j x)(k:(iX ws m s)[j]?=U c)(g:LW ws m (jI ws (s++[c])) z):
  (⇑x<⇑(c::z)->PW ws m s (j+1) (c::z))/\(¬⇑x<⇑(c::z)->PW ws m s (j+1) x):=by
 let l:=Ke.mp (sC k);let i:=CM ws (s++[c]);let n:(iX ws m s).take (j+1)=(iX ws m s).take j++[c]:=by rw[yJ,k];rfl
 let f:∀(d:Nat)(y:p9),d∈(iX ws m s).take (j+1)->(∀c∈y,c∈m)->Av ws (s++d::y)->(⇑y+1<=⇑x\/⇑y+1<=⇑(c::z)):=λd y a e b=>by
  rw[n]at a;rcases rJ.mp a with q | q
  .exact .inl (h.max d y q e b)
  .rw[qR.mp q]at b;have:=g.max y e ((ES i).mp b).2;exact .inr (by rw[rF];lia)
 constructor
 .intro o;refine#[λd a=>?_,(ES i).mpr #[l.2,g.av],λd y a e b=>?_]
  .rcases qS.mp a with q | q
   .rw[q];exact l.1
   .exact g.mem d q
  .rcases f d y a e b with q | q<;>lia
 .intro o;calc#[h.mem,h.av,λd y a e b=>?_];rcases f d y a e b with q | q<;>lia
def LW.text (b:ig l m)(a:im l m ws)(h:LW ws m [] x):x=l:=by let c:=h.max l b.mem (by rw[xC];calc(a.av b.mem).mpr (qI.refl _));let d:=(a.av h.mem).mp (by have:=h.av;rw[xC]at this;calc this);calc D7 d c
def LW.len (a:ig l m)(b:im l m ws)(f:jm ws s)(h:LW ws m s x):⇑x<=40:=by
 let e:∀c∈s++x,c∈m:=λc d=>by
  rcases rJ.mp d with z | z
  .exact b.stem a f c z
  .exact h.mem c z
 have:=((b.av e).mp h.av).len;rw[qP]at this;have:=a.l40
 lia
def jl (l:p9):p9:=if l=[] then [45] else l
theorem z4 (a:p9):∀ws:qi,⇑(ir a ws)<=(ws.map List.length).sum+⇑ws*⇑a
 | []=>rM _
 | [x]=>by simp[ir]
 | x::y::r=>by
  have:=z4 a (y::r);show ⇑(x++a++ir a (y::r))<=_;rw[qP,qP,rC,yH,rF,Nat.succ_mul]
  lia
def D8 (h:⇑l<=n):⇑(jl l)<=n+1:=by
 unfold jl;split
 .simp
 .lia
def ZgI (a:∀w∈ws,w≠[]):ir [32] ws=[]↔ws=[]:=by
 match ws with
 | []=>exact#[λ_=>rfl,λ_=>rfl]
 | [x]=>exact#[λe=>NR e (a x {}),λe=>by cases e]
 | x::y::r=>calc#[λe=>by rw[we]at e;simp at e,λe=>by cases e]
def Zoq {K:qj}{H:Hp}{Q:VK}{a b:AD}{L:qi}(c:rl K H a (L.map tx))(d:rl K H b [])(q:Q (.bl L.isEmpty) H):jC K J (.ref a) (.ref b) H Q:=
 .inr ⟨_,_,kT c (xM L),kT d Z,λz=>qO z.1,(ownL c (xM L)).2.2,by
  cases L with
  | nil=>exact q
  | cons x r=>calc q⟩
structure Kp where
 n:p9
 p:AD
 la:AD
 da:AD
 l:p9
 ds:List (Bool×Nat)
structure wp (r s:Kp):Prop where
 p:r.p≠s.p
 ll:r.la≠s.la
 ld:r.la≠s.da
 dl:r.da≠s.la
 dd:r.da≠s.da
def rH (n:p9):Bool:=vA n rn 8&&R (n≠[])
def jo (p:AD)(H a:Hp):Prop:=∀b o,H b=U o->b≠p->a b=U o
def jo.chg (k:jo p H H'):qV [p] H H':=λb o e n _=>k b o e (~~~n)
def jo.tt (k:jo p H H')(t:TT a H)(h:H p=U (.dK kvs)):TT a H':=LH t k h Z Z
def yT (m:p9)(a:AD):List (Str×V):=iq "own_strips" (.ref a) (iq "own_kinds" (tx m) [])
def iC (F:List Kp):List (qt×V):=F.map λr=>(qf r.n,V.ref r.p)
structure ic (a:Ad)(H:Hp)(p dA:AD)(m:p9)(F:List Kp):Prop where
 fld:∃dx,H p=U (.ins a.c_MQ dx (yT m dA))
 dct:H dA=U (.dK (iC F))
 str:∀r∈F,g8 a.c_MR H r.p r.la r.da r.l m r.ds
 nm:∀r∈F,rH r.n=Y
 nd:(F.map (·.n)).Nodup
 kok:wB m
def shK:(yT m dA).lookup ("own_kinds":Str)=U (tx m):=by unfold yT;rw[sD,qe nofun,sD,qg Z]
def BT:(yT m dA).lookup ("own_strips":Str)=U (.ref dA):=by unfold yT;rw[sD,qg Z]
def tS {m:p9}{b:AD}{x:Str}(c:autoParam (¬x="own_strips") Qj._auto_1)(a:autoParam (¬x="own_kinds") Qj._auto_1):(yT m b).lookup x=O:=by unfold yT;rw[sD,qe c,sD,qe a];rfl
def B6 (h:rH n=Y):⇑n<=8:=by
 unfold rH vA at h;rw[rB,rB,NL]at h
 lia
def wU (h:∀r∈F,r.n≠n):hW (iC F) (qf n)=O:=by
 induction F with
 | nil=>rfl
 | cons r F b=>
  rw[show iC (r::F)=(qf r.n,V.ref r.p)::iC F from Z,vn (λe=>h r {} (tZ e))];calc b λs a=>h s (by simp[a])
def Zp9 {α:Type}{f:α->p9}{g:α->V}{F:List α}(a:(F.map f).Nodup){r:α}(b:r∈F):hW (F.map λr=>(qf (f r),g r)) (qf (f r))=U (g r):=by
 induction F with
 | nil=>cases b
 | cons s F c=>
  rw[rC,uX]at a;rw[rC];rcases qS.mp b with rfl | z
  .exact vE Z
  .rw[vn (λe=>a.1 (by rw[show f s=f r from tZ e];calc yx z))];calc c a.2 z
def BY (a:(F.map (·.n)).Nodup){r:Kp}(b:r∈F):hW (iC F) (qf r.n)=U (.ref r.p):=Zp9 (f:=Kp.n) (g:=λr=>V.ref r.p) a b
def Jv (F:List Kp)(n:p9):xg (iC F) (qf n)=iC (F.filter λx=>R (x.n≠n)):=by unfold xg iC;rw[List.filter_map];congr 1;calc List.filter_congr λx _=>?_;show R (qf x.n≠qf n)=R (x.n≠n);rw[decide_eq_decide];calc#[λh e=>h (by rw[e]),λh e=>h (tZ e)]
def Ku (F:List Kp):⇑(iC F)=⇑F:=by unfold iC;rw[qm]
def GX (F:List Kp):(iC F).map (·.1)=(F.map (·.n)).map qf:=by unfold iC;rw[rO,rO];rfl
def wz (h:g8 C H p la da l m ds):(∃a fs,H p=U (.ins C a fs))/\(∃xs,H la=U (.lst xs))/\∃xs,H da=U (.lst xs):=by let#[#[a,f],k,#[c,b,_],_]:=h;calc#[#[a,_,f],#[_,k],c,b]
def ic.l (h:ic a H p dA m F)(s:iD H H'):ic a H' p dA m F:=by let#[#[e,f],d,b,i,c,k]:=h;calc#[#[e,s _ _ f Z],s _ _ d Z,λr g=>(b r g).l s,i,c,k]
def ic.same (h:ic a H p dA m F)(s:g7 H H'):ic a H' p dA m F:=h.l s.l
def G8 (st:g8 C H q la da l m ds)(k:jo dA H H')(d:H dA=U (.dK kvs)):g8 C H' q la da l m ds:=by
 let#[#[_,_,f],#[_,g],_,c]:=wz st;let a:∀ {b o},H b=U o->(∀kvs,o≠.dK kvs)->b∉[dA]:=λe n z=>by rw[qR.mp z,d]at e;exact n _ (Option.some.inj e).symm
 calc st.chg k.chg (λb h i z=>by rw[qR.mp h,d]at z;cases z) (a f λ_ z=>by cases z) (a g λ_ z=>by cases z) (a c λ_ z=>by cases z)
def Mz (f:H p=U (.ins C dx fs))(k:jo dA H H')(d:H dA=U (.dK kvs)):H' p=U (.ins C dx fs):=k _ _ f λz=>by rw[z,d]at f;cases f
def ic.lay (h:ic a H p dA m F)(s:g7 H H')(st:g8 a.c_MR H' r.p r.la r.da r.l m r.ds)(u:rH r.n=Y)(j:∀s∈F,s.n≠r.n):
  ic a (upd H' dA (.dK (ii (iC F) (qf r.n) (.ref r.p)))) p dA m (F++[r])/\jo dA H (upd H' dA (.dK (ii (iC F) (qf r.n) (.ref r.p)))):=by
 let g:=h.same s;let i:=g.dct;let k:jo dA H' (upd H' dA (.dK (ii (iC F) (qf r.n) (.ref r.p)))):=λb o e d=>by rw[qh d];exact e
 let#[q,f]:=g.fld;refine#[#[#[q,Mz f k i],?_,λt c=>?_,λt c=>?_,?_,h.kok],λb o e d=>k _ _ (s _ _ e) d]
 .rw[qu,zY _ (wU j)];unfold iC;rw[sJ];rfl
 .rcases rJ.mp c with z | z
  .exact G8 (g.str t z) k i
  .rw[qR.mp z];exact G8 st k i
 .rcases rJ.mp c with z | z
  .exact h.nm t z
  .rw[qR.mp z];exact u
 .rw[sJ,z8];calc#[h.nd,{},λx n y l e=>?_];let#[t,c,Z]:=rj.mp n;rw[zh,qR]at l;calc j t c (e.trans l)
def ic.take (h:ic a H p dA m F)(s:g7 H H'):
  ic a (upd H' dA (.dK (xg (iC F) (qf n)))) p dA m (F.filter λx=>R (x.n≠n))/\jo dA H (upd H' dA (.dK (xg (iC F) (qf n)))):=by
 let d:=h.same s;let i:=d.dct;let k:jo dA H' (upd H' dA (.dK (xg (iC F) (qf n)))):=λb o e c=>by rw[qh c];exact e
 let#[j,f]:=d.fld;calc#[#[#[j,Mz f k i],by rw[qu,Jv],λr g=>G8 (d.str r (uK.mp g).1) k i,λr g=>h.nm r (uK.mp g).1,h.nd.sublist (List.filter_sublist.map _),h.kok],λb o e c=>k _ _ (s _ _ e) c]
def Ng (h:kc H1 H2 t c g la rc rg)(s:g7 H H1):kc H H2 t c g la rc rg:={ h with nc:=h.nc.same s,ng:=h.ng.same s,nl:=h.nl.same s }
def jt (a:Ad)(H:Hp)(m:p9)(A:List Kp):Prop:=(∀r∈A,g8 a.c_MR H r.p r.la r.da r.l m r.ds)/\A.Pairwise wp
def sO (a b:AD)(l:p9)(c:List (Bool×Nat))(r:Kp):Kp:=if r.p=a then #[r.n,r.p,b,r.da,l,c] else r
def wp.symm (h:wp r s):wp s r:=#[qy h.p,qy h.ll,qy h.dl,qy h.ld,qy h.dd]
def Dh {α:Type}{R_:α->α->Prop}(c:∀ {x y},R_ x y->R_ y x){A:List α}(h:A.Pairwise R_){r s:α}(b:r∈A)(d:s∈A):r=s\/R_ r s:=by
 induction A with
 | nil=>cases b
 | cons x A e=>
  let#[a,f]:=u9.mp h;rcases qS.mp b with rfl | z<;>rcases qS.mp d with rfl | y
  .exact .inl Z
  .exact .inr (a s y)
  .exact .inr (c (a r z))
  .exact e f z y
def jt.ap (h:jt a H m A){r s:Kp}(c:r∈A)(b:s∈A)(n:s.p≠r.p):wp r s:=(Dh wp.symm h.2 c b).resolve_left λe=>n (by rw[e])
def jt.one (h:jt a H m A){r s:Kp}(c:r∈A)(b:s∈A)(e:s.p=r.p):s=r:=((Dh wp.symm h.2 b c).resolve_right λz=>z.p e)
def jt.tup (h:jt a H m A){r:Kp}(e:r∈A):∀b∈[r.p,r.da],∀us,H b≠U (.tup us):=λb f us z=>by
 let#[#[_,_,d],_,_,c]:=wz (h.1 r e);rcases qS.mp f with y | y
 .rw[y,d]at z;cases z
 .rw[qR.mp y,c]at z;cases z
def jt.moved (h:jt a H m A)(j:r∈A)(c:qV [r.p,r.da] H H2)(st:g8 a.c_MR H2 r.p la2 r.da l2 m ds2)(g:Nw H la2):jt a H2 m (A.map (sO r.p la2 l2 ds2)):=by
 let#[#[_,_,n],#[_,C],_,v]:=wz (h.1 r j);refine#[λs B=>?_,?_]
 .obtain⟨t,f,rfl⟩:=rj.mp B;unfold sO;by_cases e:t.p=r.p
  .rw[qg e,h.one j f e];exact st
  .rw[qe e];let k:=h.ap j f e;let#[#[_,_,o],#[_,d],_,b]:=wz (h.1 t f);calc(h.1 t f).chg c (h.tup j) ?_ ?_ ?_<;>simp only[qS,yc,or_false,not_or]
   .exact#[e,λz=>by rw[z,v]at o;cases o]
   .exact#[λz=>(by rw[z,n]at d;cases d),qy k.dl]
   .exact#[λz=>(by rw[z,n]at b;cases b),qy k.dd]
 .rw[wf];calc h.2.imp_of_mem λ{x y} p w k=>?_;let#[_,#[_,d],_,b]:=wz (h.1 x p);let#[_,#[_,u],_,q]:=wz (h.1 y w);unfold sO;by_cases l:x.p=r.p
  .let i:y.p≠r.p:=λz=>k.p (by rw[l,z]);rw[qg l,qe i];exact#[k.p,qy (g.ne u Z),qy (g.ne q Z),k.dl,k.dd]
  .rw[qe l];by_cases i:y.p=r.p
   .rw[qg i];exact#[k.p,g.ne d Z,k.ld,g.ne b Z,k.dd]
   .rw[qe i];calc k
def Ij {a b:AD}{l:p9}{d:List (Bool×Nat)}{A:List Kp}(h:∀r∈A,r.p≠a):A.map (sO a b l d)=A:=by
 conv=>rhs;rw[<-List.map_id A]
 calc zk λr c=>qe (h r c)
def yn (r:Kp):(sO p0 la l ds r).n=r.n/\(sO p0 la l ds r).p=r.p/\(sO p0 la l ds r).da=r.da:=by unfold sO;split<;>calc#[Z,Z,Z]
def Lq (A:List Kp):iC (A.map (sO p0 la l ds))=iC A:=by unfold iC;rw[rO];calc zk λs _=>?_;show (qf (sO p0 la l ds s).n,V.ref (sO p0 la l ds s).p)=_;rw[(yn s).1,(yn s).2.1]
def kk (r:Kp):p9×p9×List (Bool×Nat):=(r.n,r.l,r.ds)
def C9 {F G:List Kp}(h:F.map kk=G.map kk):F.map (·.n)=G.map (·.n):=by
 have:=NQ (List.map Prod.fst) h
 rwa [rO,rO]at this
def Ek {F G:List Kp}(h:F.map kk=G.map kk){s:Kp}(a:s∈G):∃r∈F,r.n=s.n/\r.l=s.l/\r.ds=s.ds:=by
 have:kk s∈F.map kk:=by rw[h];exact yx a
 let#[r,b,e]:=rj.mp this;unfold kk at e;injection e with e1 e2;injection e2 with e2 e3;calc#[r,b,e1,e2,e3]
def Zqk {H:Hp}{p q C D d c:AD}{fs b:List (Str×V)}(x:Str)(a:H p=U (.ins C d fs))(e:H q=U (.ins D c b))(n:fs.lookup x≠b.lookup x):p≠q:=λz=>by rw[z,e]at a;injection a with a;injection a with _ _ a;calc n (by rw[a])
def Zl1 {F G:List Kp}(a:F.map kk=G.map kk)(n:p9):(F.filter λx=>R (x.n≠n)).map kk=(G.filter λx=>R (x.n≠n)).map kk:=by
 let e:∀A:List Kp,(A.filter λx=>R (x.n≠n)).map kk=(A.map kk).filter λk=>R (k.1≠n):=λA=>by rw[List.filter_map];rfl
 rw[e,e,a]
def Zjc (h:iG H ts ds)(s:g7 H H'):iG H' ts ds:=h.chg (S:=[]) s.chg {}
def IW (h:rl K H a xs)(s:iD H H'):rl K H' a xs:=by
 rcases h with h | h
 .rcases h with h | ⟨o,h⟩
  .exact .inl (.inl (s _ _ h Z))
  .exact .inl (.inr #[o,s _ _ h Z])
 .exact .inr h
def tV (a:Ad)(E:XK)(H:Hp)(n:p9):Prop:=∀e b,g7 H b->jq b e a.c_L9 (zd "name" [tx n])->E (.ref a.c_L9) (U e) b
def wL (a:Ad)(E:XK)(H:Hp)(n:p9):Prop:=∀e b,g7 H b->jq b e a.c_LI (zd "name" [tx n])->E (.ref a.c_LI) (U e) b
def tV.same (x:tV a E H n)(s:g7 H H'):tV a E H' n:=λe c b h=>x e c (s.trans b) h
def wL.same (x:wL a E H n)(s:g7 H H'):wL a E H' n:=λe c b h=>x e c (s.trans b) h
abbrev jb:p9:=[112,117,116]
abbrev vW:p9:=[100,114,111,112]
abbrev wk:p9:=[98,97,99,107]
abbrev Bd:p9:=[115,116,114,105,112]
abbrev BU:p9:=[116,97,107,101]
abbrev xk:p9:=[102,114,111,109]
abbrev CP:p9:=[110,97,109,101,115]
abbrev E7:p9:=[116,101,120,116]
abbrev Fp:p9:=[108,97,99,107,115]
abbrev Ej:p9:=[111,107]
abbrev zC:=List (p9×NU)
inductive ux (m:p9):p9->qi->p9->List (Bool×Nat)->p9->List (Bool×Nat)->zC->zC->Prop
 | put:∀ {l ds c0},c0∈m->⇑l<40->ux m jb [[c0]] l ds (l++[c0]) (ds++[(Y,c0)]) (wF [102,105,114,115,116] l (l++[c0]) m) (xv [115,116,97,110,100,115] l (l++[c0]) m)
 | drop:∀ {l0 ds c0},ux m vW [] (c0::l0) ds l0 (ds++[(J,c0)]) (xv [115,116,111,111,100] l0 (c0::l0) m) (wF [108,97,115,116] l0 (c0::l0) m)
 | bput:∀ {l0 ds c0},ux m wk [] (l0++[c0]) (ds++[(Y,c0)]) l0 ds (xv [115,116,111,111,100] l0 (l0++[c0]) m) (wF [108,97,115,116] l0 (l0++[c0]) m)
 | bdrop:∀ {l ds c0},ux m wk [] l (ds++[(J,c0)]) (c0::l) ds (wF [102,105,114,115,116] l (c0::l) m) (xv [115,116,97,110,100,115] l (c0::l) m)
inductive j8 (a:Ad):p9->p9->List (Bool×Nat)->AD->Prop
 | put:∀ {l ds},⇑l=40->j8 a jb l ds a.c_M6
 | drop:∀ {ds},j8 a vW [] ds a.c_M4
 | back:∀ {l},j8 a wk l [] a.c_L8
structure MQ (a:Ad)(H:Hp)(m vb:p9)(us:qi)(p da:AD)(l:p9)(ds:List (Bool×Nat))(Q:VK)(E:XK):Prop where
 ok:∀l2 ds2 rc rg,ux m vb us l ds l2 ds2 rc rg->∀(t c g la2:AD)(H2:Hp),qV [p,da] H H2->g8 a.c_MR H2 p la2 da l2 m ds2->kc H H2 t c g la2 rc rg->TT a H2->Q (.ref t) H2
 no:∀c,j8 a vb l ds c->C7 c E H
def MQ.same (h:MQ a H m vb us p da l ds Q E)(s:g7 H H1):MQ a H1 m vb us p da l ds Q E:=
 #[λo d q u f t c g b n k j r i=>h.ok o d q u f t c g b n (s.chg.trans k) j (Ng r s) i,λc e=>(h.no c e).same s]
def tch (a b:zC):p9:=jl (ir [32] (a.map (·.1)))++[32,47,32]++jl (ir [32] (b.map (·.1)))
structure MT (a:Ad)(H:Hp)(m vb:p9)(us:qi)(p da:AD)(l:p9)(ds:List (Bool×Nat))(Q:VK)(E:XK):Prop where
 ok:∀l2 ds2 rc rg,ux m vb us l ds l2 ds2 rc rg->∀(la2:AD)(H2:Hp),qV [p,da] H H2->g8 a.c_MR H2 p la2 da l2 m ds2->Nw H la2->TT a H2->Q (tx (tch rc rg)) H2
 no:∀c,j8 a vb l ds c->C7 c E H
def MT.same (h:MT a H m vb us p da l ds Q E)(s:g7 H H1):MT a H1 m vb us p da l ds Q E:=
 #[λo d q r f b k j i n g=>h.ok o d q r f b k (s.chg.trans j) i (n.same s) g,λc e=>(h.no c e).same s]
def kI (a:Ad)(H:Hp)(p c:AD)(m n l:p9)(d:List (Bool×Nat))(F:List Kp)(out:p9)(Q:VK):Prop:=(∀r∈F,r.n≠n)->∀(r:Kp)(b:Hp),r.n=n->r.l=l->r.ds=d->Nw H r.p->Nw H r.la->Nw H r.da->qV [c] H b->TT a b->ic a b p c m (F++[r])->Q (tx out) b
def kI.same (h:kI a H p dA m n l ds F out Q)(s:g7 H H1):kI a H1 p dA m n l ds F out Q:=
 λf r g b d i k o e c t j=>h f r g b d i (k.same s) (o.same s) (e.same s) (s.chg.trans c) t j
inductive wK (a:Ad)(H:Hp)(p g dA:AD)(m:p9)(F:List Kp)(ws:qi):Prop
 | mk:ic a H p dA m F->H g=U (.lst (ws.map tx))->TT a H->⇑F<=900->(∀r∈F,⇑r.ds<=8000)->wK a H p g dA m F ws
def oF (m vb:p9)(us:qi):Prop:=(vb=jb/\∃c0∈m,us=[[c0]])\/(vb=vW/\us=[])\/(vb=wk/\us=[])
def uB (l:p9):List (Bool×Nat):=l.map λc=>(Y,c)
inductive uH (a:Ad)(H:Hp)(p dA:AD)(m:p9)(F:List Kp)(Q:VK)(E:XK):qi->Prop
 | strip:∀ {n},rH n=Y->kI a H p dA m n [] [] F Ej Q->(∀r∈F,r.n=n->wL a E H n)->uH a H p dA m F Q E [Bd,n]
 | take:∀ {n},rH n=true->(∀r∈F,r.n=n->∀H2,qV [dA] H H2->TT a H2->ic a H2 p dA m (F.filter λx=>R (x.n≠n))->Q (tx Ej) H2)->((∀r∈F,r.n≠n)->tV a E H n)->uH a H p dA m F Q E [BU,n]
 | move:∀ {vb us n},oF m vb us->rH n=Y->(∀r∈F,r.n=n->MT a H m vb us r.p r.da r.l r.ds Q E)->((∀r∈F,r.n≠n)->tV a E H n)->uH a H p dA m F Q E (vb::n::us)
 | from:∀ {n us l},rH n=Y->ig l m->im l m us->kI a H p dA m n l (uB l) F (jl l) Q->(∀r∈F,r.n=n->wL a E H n)->uH a H p dA m F Q E (xk::n::us)
 | names:(∀H2,g7 H H2->Q (tx (jl (ir [32] (sU (F.map (·.n)))))) H2)->uH a H p dA m F Q E [CP]
 | text:∀ {n},rH n=Y->(∀r∈F,r.n=n->∀H2,g7 H H2->Q (tx (jl r.l)) H2)->((∀r∈F,r.n≠n)->tV a E H n)->uH a H p dA m F Q E [E7,n]
 | lacks:∀ {n},rH n=Y->(∀r∈F,r.n=n->∀H2,g7 H H2->Q (tx (jl (ir [32] (qE r.l m)))) H2)->((∀r∈F,r.n≠n)->tV a E H n)->uH a H p dA m F Q E [Fp,n]
def uH.same (h:uH a H p dA m F Q E ws)(s:g7 H H1):uH a H1 p dA m F Q E ws:=by
 cases h with
 | strip i q x=>exact .strip i (q.same s) λr b e=>(x r b e).same s
 | take i q x=>exact .take i (λr b e f c=>q r b e f (s.chg.trans c)) λd=>(x d).same s
 | move o i q x=>exact .move o i (λr b e=>(q r b e).same s) λd=>(x d).same s
 | «from» i j k q x=>exact .from i j k (q.same s) λr b e=>(x r b e).same s
 | names q=>exact .names λf g=>q f (s.trans g)
 | text i q x=>exact .text i (λr b e f g=>q r b e f (s.trans g)) λd=>(x d).same s
 | lacks i q x=>calc .lacks i (λr b e f g=>q r b e f (s.trans g)) λd=>(x d).same s
def uH.mono (h:uH a H p dA m F Q E ws)(g:∀v b,Q v b->Q' v b)(u:∀c e b,E c e b->E' c e b):uH a H p dA m F Q' E' ws:=by
 let L:∀ {n},wL a E H n->wL a E' H n:=λx e b s y=>u _ _ _ (x e b s y);let l:∀ {n},tV a E H n->tV a E' H n:=λx e b s y=>u _ _ _ (x e b s y);cases h with
 | strip i q x=>exact .strip i (λf r b G I B w D A c t k=>g _ _ (q f r b G I B w D A c t k)) λr d e=>L (x r d e)
 | take i q x=>exact .take i (λr d e b c t k=>g _ _ (q r d e b c t k)) λf=>l (x f)
 | move o i q x=>exact .move o i (λr d e=>#[λW C N P S K b V st n T=>g _ _ ((q r d e).ok W C N P S K b V st n T),λc er z b s y=>u _ _ _ ((q r d e).no c er z b s y)]) λf=>l (x f)
 | «from» i M X q x=>exact .from i M X (λf r b G I B w D A c t k=>g _ _ (q f r b G I B w D A c t k)) λr d e=>L (x r d e)
 | names q=>exact .names λb j=>g _ _ (q b j)
 | text i q x=>exact .text i (λr d e b j=>g _ _ (q r d e b j)) λf=>l (x f)
 | lacks i q x=>calc .lacks i (λr d e b j=>g _ _ (q r d e b j)) λf=>l (x f)
def BX (p:AD):List (Str×V):=iq "own_shelf" (.ref p) []
structure iZ (a:Ad)(H:Hp)(dk p dA:AD)(m:p9)(F:List Kp):Prop where
 dsk:∃dx,H dk=U (.ins a.c_M5 dx (BX p))
 sh:ic a H p dA m F
noncomputable abbrev sB:p9:=[78,65,77,69]
noncomputable abbrev sH:p9:=[76,69,84,84,69,82,83]
abbrev wZ:p9:=[46,46]
def FT:List (p9×qi):=[(Bd,[sB]),(BU,[sB]),(jb,[sB,sH]),(vW,[sB]),(wk,[sB]),(xk,[sB,sH,wZ]),(CP,[]),(E7,[sB]),(Fp,[sB])]
def uL (w:p9):Prop:=w≠[]/\⇑w<=60/\(w.all λc=>rn.contains c)=Y
def kH (w f:p9):Prop:=(f=sB/\rH w=Y)\/(f=sH/\uL w)
inductive kC:p9->Nat->qi->Prop
 | one:∀ {vb fs n},FT.lookup vb=U fs->wZ∉fs->kC vb n fs
 | dots:∀ {n},kC xk (n+2) (sB::List.replicate (n+1) sH)
inductive kJ:qi->Prop
 | mk:∀(vb:p9)(us fs:qi),kC vb ⇑us fs->⇑us=⇑fs->(∀(i:Nat)(w f:p9),us[i]?=U w->fs[i]?=U f->kH w f)->⇑us<=900->kJ (vb::us)
def yo (a:zC):Prop:=⇑a<=400/\∀x∈a,x.1≠[]/\⇑x.1<=50
def XT (a:Ad)(Q:VK):XK:=λc d b=>∃e,d=U e/\((∃n:p9,⇑n<=8/\c=.ref a.c_LI/\jq b e a.c_LI (zd "name" [tx n])/\Q (tx ([116,104,101,114,101,32]++n)) b)\/(∃n:p9,⇑n<=8/\c=.ref a.c_L9/\jq b e a.c_L9 (zd "name" [tx n])/\Q (tx ([110,111,32]++n)) b)\/(c=.ref a.c_M6/\jq b e a.c_M6 []/\Q (tx [102,117,108,108]) b)\/(c=.ref a.c_M4/\jq b e a.c_M4 []/\Q (tx [98,97,114,101]) b)\/(c=.ref a.c_L8/\jq b e a.c_L8 []/\Q (tx [110,111,110,101]) b))
theorem Df {c:Nat}:∀ {xs:p9},(∀x∈xs,x<=c)->xs.sum<=⇑xs*c
 | [],_=>rM _
 | x::r,h=>by
  have:=Df (xs:=r) λy a=>h y (by simp[a]);have:=h x {};rw[yH,rF,Nat.succ_mul]
  lia
def J8 (i:g8 a.c_MR H p la da l m ds)(f:H p=U (.ins a.c_MR dx (sF l m la da)))(e:H da=U (.lst ts))(k:iG H ts ds)(s:g7 H H2)(g:H2 td=U (.tup (BH d)))(tk:TT a H):
  ∃H3,upd H2 da (.lst (ts++[.ref td]))=H3/\qV [da] H H3/\H3 da=U (.lst (ts++[.ref td]))/\iG H3 (ts++[.ref td]) (ds++[d])/\H3 p=U (.ins a.c_MR dx (sF l m la da))/\H3 la=U (.lst ((qE l m).map tx))/\TT a H3:=by
 let h:p≠da:=λz=>by rw[z,e]at f;cases f
 let c:qV [da] H (upd H2 da (.lst (ts++[.ref td]))):=s.chg.trans (qV.upd {});calc#[_,Z,c,qu,?_,c _ _ f (~~~h) Z,c _ _ i.lack (~~~i.ne) Z,(tk.same s).upd (s _ _ e) Z Z];calc(k.chg c (λb j n z=>by rw[qR.mp j,e]at z;cases z)).snoc ?_;rw[qh (λz=>by rw[z,s _ _ e]at g;cases g)];calc g
def Gr (F:List Kp)(n:p9):(∃r∈F,r.n=n)\/∀r∈F,r.n≠n:=by
 by_cases h:∃r∈F,r.n=n
 .exact .inl h
 .exact .inr λr a e=>h #[r,a,e]
def Fj (s:g7 H H')(h:H' b=O):Nw H b:=.of (s.free h)
def uR (n:x≠y)(h:Q (.bl J) H):jC K J (tx x) (tx y) H Q:=.inl #[Z,by rw[qe qO,wN,NN n];calc h]
def Fe (d:H c=U (.lst ys))(b:iL H ys rc)(n:⇑rc<=9000)(q:∀r a,g7 H a->H r=O->a r=U (.lst ((rc.map (·.1)).map tx))->Q (.ref r) a):(∃xs,rl K H c xs)/\ib (xK K c) [O] (uD 0) lL (Bl (lS K) (lH 0) (tC (V.int 0))) H Q:=by let k:=b.1;calc#[#[_,.mk d],ib.listM (xs:=ys) (λ_=>Y) (λi=>tx ((rc.map (·.1)).getD i [])) ∅ (.mk d) (λi g w _ _ q=>q g (g7.refl _)) ?_ λr s p v e=>q r s p v (by rw[Hv k]at e;calc e)];intro i h x l _ o m;let#[t,u,f,j]:=Gb b l;rw[f];calc#[t,_,_,_,Z,Z,.mk (o _ _ j),je,m h (g7.refl _)]
def yo.le (h:yo rc):⇑(rc.map (·.1))<=1000/\((rc.map (·.1)).map List.length).sum<=100000/\∀w∈rc.map (·.1),w≠[]:=by
 let#[f,d]:=h;refine#[by rw[qm];lia,qJ (Df (c:=50) λx e=>?_) ?_,λw a=>?_]
 .obtain⟨w,a,rfl⟩:=rj.mp e;let#[r,b,Z]:=rj.mp a;exact(d r b).2
 .rw[qm,qm];lia
 .obtain⟨r,b,rfl⟩:=rj.mp a;calc(d r b).1
def made (a:H p=O)(c:H dx=O)(k:∀b x,upd (upd H dx o) p o' b=U x->b≠p->H1 b=U x):g7 H H1:=λb x e=>k b x (by rw[qh (qN e a),qh (qN e c)];calc e) (qN e a)
def zL (a:H p=O)(c:H dx=O)(h:upd (upd H dx o) p o' b=O):H b=O:=by
 cases e:H b with
 | none=>rfl
 | some x=>rw[qh (qN e a),qh (qN e c),e]at h;cases h
def Nw.sl (n:Nw H' r)(s:iD H H'):Nw H r:=λo e=>by
 cases z:ub o with
 | true=>rfl
 | false=>rw[<-n o (s _ _ e z),z]
def MO (r:⇑l<40)(q:∀(t b:AD)(d:Hp),qV [p,da] H d->g8 a.c_MR d p b da (l++[c0]) m (ds++[(Y,c0)])->Nw H b->TT a d->Q (.ref t) d):MQ a H m jb [[c0]] p da l ds Q E:=
 #[λs o u v f t c g b d k j n i=>by cases f with | put=>calc q t b d k j n.nl i,λc e=>by cases e with | put h=>lia]
inductive km (a:Ad)(H0:Hp)(p da:AD)(m u:p9)(H:Hp):Prop
 | mk:∀la,g8 a.c_MR H p la da u m (uB u)->TT a H->iD H0 H->Nw H0 la->km a H0 p da m u H
def Hf (u:p9)(c:Nat):uB u++[(Y,c)]=uB (u++[c]):=by unfold uB;rw[sJ];rfl
def km.put (k:H0 p=O)(l:H0 da=O)(s:iD H0 H)(i:⇑u<40)(q:∀(t:AD)(d:Hp),km a H0 p da m (u++[c]) d->Q (.ref t) d):MQ a H m jb [[c]] p da u (uB u) Q E:=
 MO i λt f d j g n h=>q t d (by rw[Hf]at g;calc#[f,g,h,λb o e z=>j _ _ (s _ _ e z) ?_ z,Nw.sl n s];simp only[qS,yc,or_false,not_or];calc#[qN e k,qN e l])
def F8 (f:ig l m):⇑(qE l m)<=1000/\((qE l m).map List.length).sum<=100000/\∀w∈qE l m,w≠[]:=by
 let#[_,g,b]:=lsOk f;refine#[∅,qJ (Df (c:=41) λx d=>?_) ?_,λw a e=>?_]
 .obtain⟨w,a,rfl⟩:=rj.mp d;exact(b w a).2
 .rw[qm];lia
 .have:=(b w a).1;rw[e]at this;calc NR this ⋯
def yG {x m:p9}{p:p9->Bool}{f:p9->NU}(c:ig x m):yo (((qE x m).filter p).map λw=>(w,f w)):=by let#[_,g,d]:=lsOk c;calc#[by rw[qm];calc qJ (ug _ _) ∅,λr b=>?_];let#[w,a,Z]:=rj.mp b;have:=d w (uK.mp a).1;calc#[λe=>by rw[show w=[] from e]at this;calc NR this.1 ⋯,qJ this.2 ⋯]
def ux.bd (h:ux m vb us l ds l2 ds2 rc rg)(b:ig l m)(a:ig l2 m):yo rc/\yo rg:=by
 cases h with
 | put=>exact#[yG a,yG b]
 | drop=>exact#[yG a,yG b]
 | bput=>exact#[yG a,yG b]
 | bdrop=>calc#[yG a,yG b]
def J5 (n:x≠y)(h:Q (.bl Y) H):jC K Y (tx x) (tx y) H Q:=.inl #[Z,by rw[qg Z,wN,NN n];calc h]
def Kv:V.str (Str.ofString "-")=tx [45]:=rfl
def Zop:V.str (Str.ofString "0123456789")=tx [48,49,50,51,52,53,54,55,56,57]:=rfl
def uL.no (h:uL w)(a:rn.contains c=J):c∉w:=λz=>by have:=ur.mp h.2.2 c z;rw[a]at this;cases this
def uL.nd (h:uL w):w≠[45]:=λz=>h.no (c:=45) ⋯ (by rw[z];simp)
def uL.nf (h:uL w):(w.all λc=>[48,49,50,51,52,53,54,55,56,57].contains c)=J:=by
 let#[b,_,a]:=h;cases w with
 | nil=>exact NR Z b
 | cons c r=>
  rw[yE,rB]at a;rw[yE,Bool.and_eq_false_iff];calc .inl ?_;have:∀x∈rn,[48,49,50,51,52,53,54,55,56,57].contains x=J:=by decide
  calc this c (List.contains_iff_mem.mp a.1)
def G7 (h:rH n=Y):uL n:=by let a:=B6 h;unfold rH vA at h;rw[rB,rB,NL,NL]at h;calc#[h.2,∅,h.1.2]
def kH.sm (h:kH w f):uL w:=h.elim (λh=>G7 h.2) (λh=>h.2)
theorem Fw {α β:Type}[BEq α][LawfulBEq α]{x:α}{y:β}:∀ {L:List (α×β)},L.lookup x=U y->(x,y)∈L
 | [],h=>by cases h
 | (u,v)::L,h=>by
  rw[vR]at h;cases e:x == u with
  | true=>
   rw[e]at h;cases h;rw[show x=u from eq_of_beq e];exact sA
  | false=>
   rw[e]at h;calc si _ (Fw h)
def Jq (h:Hy w K v kQ):∃kvs,ve w K v kvs/\∀ {vb:p9} {fs:qi},FT.lookup vb=U fs->∃b,hW kvs (qf vb)=U (.ref b)/\∀H,sG K H b (fs.map tx):=by
 let#[kvs,d,h]:=h;calc#[kvs,d,λ{vb fs} e=>?_];let a:∀p∈FT,(pD p.1,p.2.map pD)∈kQ:=by decide +kernel
 let#[b,c,f]:=h _ (a _ (Fw e));calc#[b,c,λH=>by have:=f H;rw[rO]at this;calc this]
def kC.get (h:kC vb n fs):∃gs,FT.lookup vb=U gs:=by
 cases h with
 | one e _=>exact#[_,e]
 | dots=>calc#[[sB,sH,wZ],Z]
def ZsP (h:FT.lookup vb=U fs):32∉vb/\⇑vb<=5:=by
 let a:∀p∈FT,32∉p.1/\⇑p.1<=5:=by decide
 calc a _ (Fw h)
def kJ.ok (g:kC vb ⇑us fs)(h:∀(i:Nat)(w f:p9),us[i]?=U w->fs[i]?=U f->kH w f)(m:⇑us=⇑fs)(n:⇑us<=900):(∀w∈us,uL w)/\(∀w∈vb::us,32∉w)/\⇑(ir [32] (vb::us))<=100000:=by
 let b:∀w∈us,uL w:=λw a=>by let#[i,d]:=List.mem_iff_getElem?.mp a;let#[o,_]:=rY.mp d;exact(h i w _ d (rD ∅)).sm
 let#[l,j]:=g.get;let#[k,p]:=ZsP j;refine#[b,λw a=>?_,?_]
 .rcases qS.mp a with rfl | z
  .exact k
  .exact(b w z).no ⋯
 .refine qJ (z4 [32] (vb::us)) ?_;have:=Df (c:=60) (xs:=us.map List.length) λx e=>by let#[w,a,Z]:=rj.mp e;exact(b w a).2.1
  rw[qm]at this;rw[rC,yH,rF,r6]
  lia
def Zqy:Bn (tx [46,46]) [tx sB,tx sH,tx wZ]=Y:=by show Bn (tx [46,46]) ([sB,sH,wZ].map tx)=Y;rw[Bp];decide
def L6 {α:Type}{xs:List α}{i:Nat}{x:α}(h:xs[i]?=U x):tI xs (i:Int)=U x:=wJ h
def ZjS (v:α):∀n:Nat,(List.range n).map (λ_=>v)=List.replicate n v:=λn=>by rw[List.map_const',uY]
def Zoz (n:Nat):(List.replicate n Y).all id=Y:=by rw[ur];intro x a;calc List.eq_of_mem_replicate a
def kY (us:qi):(List.range ⇑us).map (λi=>tx (us.getD i []))=us.map tx:=by apply vO {};intro i b a;simp[sw,rD (show i<⇑us by simpa using a)]
def Zmb (n:Nat):(List.replicate n [tx sH]).flatten=(List.replicate n sH).map tx:=by
 induction n with
 | zero=>rfl
 | succ n a=>rw[yN,xH,yN,rC,<-a];rfl
theorem ZoI {n:p9}(h:rH n=Y):∀(i:Nat)(w f:p9),[n][i]?=U w->[sB][i]?=U f->kH w f
 | 0,_,_,e1,e2=>by cases e1;cases e2;exact .inl #[Z,h]
 | _+1,_,_,e1,_=>by cases e1
def HI (k:wB m)(h:∀c∈w,c∈m)(a:w≠[])(l:⇑w<=60):uL w:=by calc#[a,l,ur.mpr λc b=>?_];have:=k.k;unfold vq at this;rw[rB,rB]at this;calc ur.mp this.1.2 c (h c b)
theorem Ms {n:p9}{us:qi}(h:rH n=Y)(a:∀w∈us,uL w):∀(i:Nat)(w f:p9),(n::us)[i]?=U w->(sB::List.replicate ⇑us sH)[i]?=U f->kH w f
 | 0,_,_,e1,e2=>by cases e1;cases e2;exact .inl #[Z,h]
 | i+1,w,f,e1,e2=>by rw[List.getElem?_cons_succ]at e1 e2;calc .inr #[List.eq_of_mem_replicate (sC e2),a w (sC e1)]
def uH.line (h:uH a H p dA m F Q E ws)(d:wB m):kJ ws:=by
 let one:∀ {vb n:p9},FT.lookup vb=U [sB]->rH n=Y->kJ [vb,n]:=λ{vb n} e i=>.mk vb [n] [sB] (.one e ⋯) Z (ZoI i) (by show 1<=900;decide);cases h with
 | strip i _ _=>exact one Z i
 | take i _ _=>exact one Z i
 | move o i _ _=>
  rcases o with⟨rfl,v,u,rfl⟩|⟨rfl,rfl⟩|⟨rfl,rfl⟩
  .exact .mk jb _ [sB,sH] (.one Z ⋯) Z (Ms i λw b=>HI d (λc h=>by rw[qR.mp b,qR]at h;rw[h];calc u) (by rw[qR.mp b];simp) (by rw[qR.mp b];show 1<=60;decide)) (by show 2<=900;decide)
  .exact one Z i
  .exact one Z i
 | @«from» n r l i j g _ _=>
  let t:=KH (l:=l) j.m1;rw[<-g.length_eq]at t;let x:=g.len j;obtain⟨k,q⟩:∃k,⇑r=k+1:=#[⇑r-1,∅];let s:=Ms i λw b=>HI d (g.wm j b) (g.ne b) (qJ (g.w41 j b) ⋯);rw[q]at s;refine .mk xk _ (sB::List.replicate (k+1) sH) ?_ ?_ s ?_
  .rw[rF,q];exact .dots
  .rw[rF,rF,List.length_replicate,q]
  .rw[rF];lia
 | names _=>exact .mk CP [] [] (.one Z ⋯) Z (λi w f e _=>by cases e) ⋯
 | text i _ _=>exact one Z i
 | lacks i _ _=>calc one Z i
def ZqE (h:Gq w K mg v lZ):∃kvs,ve w K v kvs/\∀ {vb:p9} {y:Str} {f:AD},(pD vb,y)∈lZ->mg y=U (.ref f)->hW kvs (qf vb)=U (.ref f):=by let#[kvs,d,h]:=h;calc#[kvs,d,λ{vb y f} a e=>?_];let#[b,c,g]:=h _ a;cases e.symm.trans g;calc c
def xV:(BX p).lookup ("own_shelf":Str)=U (.ref p):=by unfold BX;rw[sD,qg Z]
def yq {p:AD}{x:Str}(h:¬x="own_shelf"):(BX p).lookup x=O:=by unfold BX;rw[sD,qe h];rfl
def yf {w:AI}{K:qj}{H:Hp}{t b f:AD}{vb:p9}{g:V}{kvs:List (qt×V)}{P:V->Hp->Prop}(d:H t=U (.tup [tx vb,g]))(c:ve w K b kvs)(e:hW kvs (qf vb)=U (.ref f))(h:P (.ref f) H):lS K (V.ref t) (V.int 0) H λy H2=>∃a kvs k v,V.ref b=V.ref a/\ve w K a kvs/\y=kV k/\hW kvs k=U v/\P v H2:=
 #[t,_,_,_,Z,Z,.mk d,je,b,kvs,qf vb,_,Z,c,Z,e,h]
def kK (C L:AD):AC:=[.ref C,.ref L,.type "ValueError",.type "Exception",.type "BaseException",.type "object"]
def CH (c:jd K C (kK C L)):exmOne K (.ref C) (.ref C)=U Y:=NK c c (by simp[kK,zV]) (by simp[kK,zV])
def wV (c:jd K C (kK C L))(d:jd K D (kK D L))(a:C≠D)(b:L≠D):exmOne K (.ref C) (.ref D)=U J:=NK c d (by simp[kK,zV]) (by simp[kK,zV,a,b,qy a,qy b])
def errT (vb:p9):p9:=if vb=jb then [102,117,108,108] else if vb=vW then [98,97,114,101] else [110,111,110,101]
structure MW (a:Ad)(H:Hp)(m vb:p9)(us:qi)(p da:AD)(l:p9)(ds:List (Bool×Nat))(Q:VK):Prop where
 ok:∀l2 ds2 rc rg,ux m vb us l ds l2 ds2 rc rg->∀(la2:AD)(H2:Hp),qV [p,da] H H2->g8 a.c_MR H2 p la2 da l2 m ds2->Nw H la2->TT a H2->Q (tx (tch rc rg)) H2
 no:∀c,j8 a vb l ds c->∀H2,g7 H H2->Q (tx (errT vb)) H2
def Kx (X:List AD)(H a:Hp):Prop:=∀b∈X,∀o,H b=U o->ub o=J->a b=U o
def Kx.chg (c:qV S H H2)(h:∀b∈X,b∉S):Kx X H H2:=λb a o e t=>c _ _ e (h b a) t
def Kx.trans (h:Kx X H H1)(g:Kx X H1 H2):Kx X H H2:=λb a o e t=>g b a o (h b a o e t) t
def Kx.xs (h:Kx X H H2)(x:∀b∈X,∃o,H b=U o/\ub o=J):∀b∈X,∃o,H2 b=U o/\ub o=J:=λb a=>let ⟨o,e,t⟩:=x b a;#[o,h b a o e t,t]
structure tN (a:Ad)(H:Hp)(dk p dA dB:AD)(m:p9)(F G:List Kp)(X:List AD)(k:Nat):Prop where
 dsk:iZ a H dk p dA m F
 bes:H dB=U (.dK (iC G))
 all:jt a H m (F++G)
 ky:F.map kk=G.map kk
 ne:dA≠dB
 out:dA∉X/\dB∉X/\∀r∈F++G,r.p∉X/\r.da∉X
 bd:40<=k/\⇑F<=k/\∀r∈F++G,⇑r.ds<=k
 xs:∀b∈X,∃o,H b=U o/\ub o=J
def iZ.l (h:iZ a H dk p dA m F)(s:iD H H'):iZ a H' dk p dA m F:=let ⟨⟨dx,f⟩,sh⟩:=h;#[#[dx,s _ _ f Z],sh.l s]
def tN.same (h:tN a H dk p dA dB m F G X k)(s:g7 H H'):tN a H' dk p dA dB m F G X k:=
 #[h.dsk.l s.l,s _ _ h.bes,#[λr c=>(h.all.1 r c).same s,h.all.2],h.ky,h.ne,h.out,h.bd,λb d=>let ⟨o,e,t⟩:=h.xs b d;#[o,s _ _ e,t]]
def tN.le (h:tN a H dk p dA dB m F G X k)(s:k<=k'):tN a H dk p dA dB m F G X k':=
 #[h.dsk,h.bes,h.all,h.ky,h.ne,h.out,#[qJ h.bd.1 s,qJ h.bd.2.1 s,λr b=>qJ (h.bd.2.2 r b) s],h.xs]
def DH {H:Hp}{d b:AD}{kvs:List (qt×V)}{o:HO}(e:H d=U (.dK kvs))(h:H b=U o)(n:∀kvs,o≠.dK kvs):b∉[d]:=λz=>by rw[qR.mp z,e]at h;calc n _ (Option.some.inj h).symm
def zr (st:g8 C H q la da l m ds)(c:qV [d] H H')(e:H d=U (.dK kvs)):g8 C H' q la da l m ds:=by let#[#[_,_,f],#[_,g],_,a]:=wz st;calc st.chg c (λb h i z=>by rw[qR.mp h,e]at z;cases z) (DH e f λ_ z=>by cases z) (DH e g λ_ z=>by cases z) (DH e a λ_ z=>by cases z)
def C6 (f:H p=U (.ins C dx fs))(c:qV [d] H H')(e:H d=U (.dK kvs)):H' p=U (.ins C dx fs):=c _ _ f (DH e f λ_ z=>by cases z) Z
def HG (h:iZ a H dk p dA m F)(c:qV [d] H H')(e:H d=U (.dK kvs))(n:dA≠d):iZ a H' dk p dA m F:=by let#[#[l,f],#[j,g],dd,b,q,k,i]:=h;calc#[#[l,C6 f c e],#[j,C6 g c e],c _ _ dd (~~~n) Z,λr o=>zr (b r o) c e,q,k,i]
def Fd {a:Ad}{H:Hp}{m:p9}{s r:Kp}(st:g8 a.c_MR H s.p s.la s.da s.l m s.ds)(g:Nw H r.p)(e:Nw H r.la)(d:Nw H r.da):wp s r:=by let#[#[_,_,f],#[_,c],_,b]:=wz st;calc#[g.ne f Z,e.ne c Z,d.ne c Z,e.ne b Z,d.ne b Z]
def tN.lay (w:tN a H dk p dA dB m F G X k)(e:kk r=kk g)(hd:⇑r.ds<=40)(S:Nw H r.p)(r2:Nw H r.la)(Q:Nw H r.da)(u:qV [dA] H H1)(P:ic a H1 p dA m (F++[r]))
  (K:Nw H1 g.p) (T:Nw H1 g.la) (C:Nw H1 g.da) (v:qV [dB] H1 H2) (hB:H2 dB=U (.dK (iC (G++[g])))) (gs:g8 a.c_MR H2 g.p g.la g.da g.l m g.ds):tN a H2 dk p dA dB m (F++[r]) (G++[g]) X (k+1)/\Kx X H H2:=by
 let#[#[#[dx,f],I],E,B,ky,D,#[N,o2,o3],#[b1,b2,b3],A]:=w;let d0:=I.dct;let M:=u _ _ E (~~~qy D) Z;let f1:=C6 f u d0;let a1:∀s∈F++G,g8 a.c_MR H1 s.p s.la s.da s.l m s.ds:=λs c=>zr (B.1 s c) u d0;let V:=P.str r {};let j:Kx X H H1:=Kx.chg u λb d=>(by rw[qR];calc λz=>N (z▸d));let q:Kx X H1 H2:=Kx.chg v λb d=>(by rw[qR];calc λz=>o2 (z▸d));let nx:∀ {b:AD},Nw H b->b∉X:=λn d=>by let#[o,e,t]:=A _ d;exact n.ne e t Z
 let l:∀ {b:AD},Nw H1 b->b∉X:=λn d=>by let#[o,e,t]:=A _ d;exact n.ne (j _ d _ e t) t Z
 let dl:g.ds=r.ds:=by unfold kk at e;injection e with _ e;injection e with _ e;exact e.symm
 let W:((F++G)++[r]++[g]).Perm ((F++[r])++(G++[g])):=by simp only[tD];calc D9 F ?_;rw[<-tD,<-tD];exact List.perm_append_comm.append_right _
 let i:∀ {s:Kp},s∈(F++[r])++(G++[g])->s∈F++G\/s=r\/s=g:=λ{s} c=>by
  have:=W.mem_iff.mpr c;simp only[rJ,qR]at this ⊢;rcases this with (h | h) | h
  .exact .inl h
  .exact .inr (.inl h)
  .exact .inr (.inr h)
 refine#[#[HG #[#[dx,f1],P] v M D,hB,#[λs c=>?_,(W.pairwise_iff λ{x y} h=>h.symm).mp ?_],by rw[sJ,sJ,ky,zh,zh,e],D,#[N,o2,λs c=>?_],#[∅,by rw[qP];show _+1<=_;lia,λs c=>?_],(j.trans q).xs A],j.trans q]
 .rcases i c with h | rfl | rfl
  .exact zr (a1 s h) v M
  .exact zr V v M
  .exact gs
 .rw[u6,u6];refine#[#[B.2,{},λs c t L=>?_],{},λs c t L=>?_]
  .rw[qR.mp L];exact Fd (B.1 s c) S r2 Q
  .rw[qR.mp L];rcases rJ.mp c with z | z
   .exact Fd (a1 s z) K T C
   .rw[qR.mp z];exact Fd V K T C
 .rcases i c with h | rfl | rfl
  .exact o3 s h
  .exact#[nx S,nx Q]
  .exact#[l K,l C]
 .rcases i c with h | rfl | rfl
  .exact Nat.le_succ_of_le (b3 s h)
  .lia
  .rw[dl];lia
def tN.less (w:tN a H dk p dA dB m F G X k)(h:qV [dA] H H1)(B:ic a H1 p dA m (F.filter λx=>R (x.n≠n))):tN a (upd H1 dB (.dK (iC (G.filter λx=>R (x.n≠n))))) dk p dA dB m (F.filter λx=>R (x.n≠n)) (G.filter λx=>R (x.n≠n)) X (k+1)/\Kx X H (upd H1 dB (.dK (iC (G.filter λx=>R (x.n≠n))))):=by let#[#[#[C,f],q],l,t,E,j,#[r,u,K],#[L,M,I],A]:=w;let v:=q.dct;let y:=h _ _ l (~~~qy j) Z;let D:=C6 f h v;let o:qV [dB] H1 (upd H1 dB (.dK (iC (G.filter λx=>R (x.n≠n))))):=qV.upd {};let c:((F.filter λx=>R (x.n≠n))++(G.filter λx=>R (x.n≠n))).Sublist (F++G):=List.filter_sublist.append List.filter_sublist;let g:Kx X H H1:=Kx.chg h λb i=>(by rw[qR];calc λz=>r (z▸i));let d:=Kx.chg (X:=X) o λb i=>(by rw[qR];calc λz=>u (z▸i));calc#[#[HG #[#[C,D],B] o y j,qu,#[λs e=>zr (zr (t.1 s (c.subset e)) h v) o y,t.2.sublist c],Zl1 E n,j,#[r,u,λs e=>K s (c.subset e)],#[∅,qJ (ug _ _) ∅,λs e=>Nat.le_succ_of_le (I s (c.subset e))],(g.trans d).xs A],g.trans d]
def wv (st:g8 C H q la da l m ds)(h:H b=U o)(n:(∃kvs,o=.dK kvs)\/∃D d fs,o=.ins D d fs/\fs.lookup ("own_text":Str)=O):b∉[q,da]:=by
 let#[_,#[_,_],_,c]:=wz st;let#[e,a]:=id st.fld;simp only[qS,yc,or_false,not_or];rcases n with⟨kvs,rfl⟩|⟨D,d,fs,rfl,z⟩
 .exact#[λz=>(by rw[z,a]at h;cases h),λz=>(by rw[z,c]at h;cases h)]
 .refine#[Zqk "own_text" h a ?_,λz=>by rw[z,c]at h;cases h];rw[z,vv];calc λz=>by cases z
def Mp (h:iZ a H dk p dA m F)(st:g8 a.c_MR H q la da l m' ds)(c:qV [q,da] H H'):(∃b,H' dk=U (.ins a.c_M5 b (BX p)))/\(∃b,H' p=U (.ins a.c_MQ b (yT m dA)))/\H' dA=U (.dK (iC F)):=by let#[#[b,f],#[d,g],dd,_]:=h;calc#[#[b,c _ _ f (wv st f (.inr #[_,_,_,Z,yq nofun])) Z],#[d,c _ _ g (wv st g (.inr #[_,_,_,Z,tS])) Z],c _ _ dd (wv st dd (.inl #[_,Z])) Z]
def MY {A:List Kp}{y:Kp}{f:AD}{b:p9}{a:List (Bool×Nat)}(j:(A.map (·.n)).Nodup)(i:A.Pairwise wp)(h:y∈A):(A.map (sO y.p f b a)).map kk=(A.map kk).map λk=>if k.1=y.n then (k.1,b,a) else k:=by
 rw[rO,rO];calc zk λx g=>?_;show kk (sO y.p f b a x)=if x.n=y.n then (x.n,b,a) else kk x
 unfold sO;by_cases e:x.n=y.n
 .let c:A.Pairwise (λx y=>x.n≠y.n):=wf.mp j;rcases Dh (λz=>qy z) c g h with z | z
  .rw[qg e,qg (by rw[z])];rfl
  .exact NR e z
 .rw[qe e,qe];intro z;rcases Dh wp.symm i g h with d | d
  .exact e (by rw[d])
  .exact d.p z
def Kh (h:⇑ds<=k)(r:Kp)(a:⇑r.ds<=k):⇑(sO p0 la l ds r).ds<=k:=by
 unfold sO;split
 .exact h
 .exact a
def tN.move (w:tN a H dk p dA dB m F G X k)(Q:s∈F)(o:r∈G)(en:s.n=r.n)(u:qV [s.p,s.da] H H1)(K:g8 a.c_MR H1 s.p la1 s.da l2 m ds2)(P:Nw H la1)(l:qV [r.p,r.da] H1 H2)(S:g8 a.c_MR H2 r.p la2 r.da l2 m ds2)(T:Nw H1 la2)(dl:⇑ds2<=k+1):
  ∃F2 G2,tN a H2 dk p dA dB m F2 G2 X (k+1)/\Kx X H H2:=by
 let#[h,q,C,ky,ne,#[o1,o2,E],#[b1,b2,b3],hX]:=w;let f:s∈F++G:=wO _ Q;let A:r∈F++G:=ui _ o;let B:=u6.mp C.2;let g1:G.map (sO s.p la1 l2 ds2)=G:=Ij λx I=>qy (B.2.2 s Q x I).p;let j:=C.moved f u K P;rw[sJ,g1]at j;let f1:(F.map (sO s.p la1 l2 ds2)).map (sO r.p la2 l2 ds2)=F.map (sO s.p la1 l2 ds2):=Ij λx I=>by let#[y,d,Z]:=rj.mp I;rw[(yn y).2.1];exact(B.2.2 y d r o).p
 let g:=j.1 r (ui _ o);let i:=j.moved (ui _ o) l S T;rw[sJ,f1]at i;let#[#[d1,W],#[d2,V],i3]:=Mp h (C.1 s f) u;let v:=u _ _ q (wv (C.1 s f) q (.inl #[_,Z])) Z;let L:=l _ _ v (wv g v (.inl #[_,Z])) Z;let n:=h.sh.nd;let N:(G.map (·.n)).Nodup:=by rw[<-C9 ky];exact n
 let D:∀ {t:Kp} {H H':Hp},t∈F++G->qV [t.p,t.da] H H'->Kx X H H':=λ{t H H'} e c=>Kx.chg c λb hb=>by simp only[qS,yc,or_false,not_or];exact#[λz=>(E t e).1 (z▸hb),λz=>(E t e).2 (z▸hb)]
 let M:(F.map (sO s.p la1 l2 ds2)).map (·.n)=F.map (·.n):=by rw[rO,show (Kp.n ∘ sO s.p la1 l2 ds2)=Kp.n from funext λs=>(yn s).1]
 let ou:∀t∈F.map (sO s.p la1 l2 ds2)++G.map (sO r.p la2 l2 ds2),(t.p∉X/\t.da∉X)/\⇑t.ds<=k+1:=λt e=>by
  rcases rJ.mp e with z | z
  .obtain⟨y,d,rfl⟩:=rj.mp z;let d:=wO G d;rw[(yn y).2.1,(yn y).2.2];exact#[E y d,Kh dl y (Nat.le_succ_of_le (b3 y d))]
  .obtain⟨y,d,rfl⟩:=rj.mp z;let d:=ui F d;rw[(yn y).2.1,(yn y).2.2];exact#[E y d,Kh dl y (Nat.le_succ_of_le (b3 y d))]
 refine#[_,_,#[#[#[d1,l _ _ W (wv g W (.inr #[_,_,_,Z,yq nofun])) Z],#[d2,l _ _ V (wv g V (.inr #[_,_,_,Z,tS])) Z],?_,λt e=>i.1 t (wO _ e),λt e=>?_,by rw[M];calc n,h.sh.kok],?_,i,?_,ne,#[o1,o2,λt e=>(ou t e).1],#[∅,by rw[qm];lia,λt e=>(ou t e).2],((D f u).trans (D A l)).xs hX],(D f u).trans (D A l)]
 .rw[Lq];exact l _ _ i3 (wv g i3 (.inl #[_,Z])) Z
 .obtain⟨y,d,rfl⟩:=rj.mp e;rw[(yn y).1];exact h.sh.nm y d
 .rw[Lq];exact L
 .rw[MY n B.1 Q,MY N B.2.1 o,ky,en]
def ZkT (b:H x=U (.lst xs))(a:iG H xs ds)(c:H y=U (.lst []))(q:Q (.bl (R (ds=[]))) H):jC K J (.ref x) (.ref y) H Q:=
 .inr ⟨_,_,Zk0 (.mk b) a,kT (vs:=[]) (.mk c) Z,λz=>qO z.1,qJ (ZkZ ds) ⋯,by
  rw[qe qO];cases ds with
  | nil=>exact q
  | cons d ds=>calc q⟩
def Hn {F:List Kp}(f:∀r∈F,rH r.n=Y)(g:⇑F<=900):⇑(sU (F.map (·.n)))<=1000/\((sU (F.map (·.n))).map List.length).sum<=100000/\∀w∈sU (F.map (·.n)),w≠[]:=by
 let b:∀w∈sU (F.map (·.n)),rH w=Y:=λw a=>by let#[t,e,Z]:=rj.mp ((vP _).mem_iff.mp a);exact f t e
 refine#[by rw[(vP _).length_eq,qm];lia,qJ (Df (c:=8) λx d=>?_) ?_,λw a=>(G7 (b w a)).1]
 .obtain⟨w,a,rfl⟩:=rj.mp d;exact B6 (b w a)
 .rw[qm,(vP _).length_eq,qm];lia
def Mh {F:List Kp}(b:(F.map (·.n)).Nodup){t s:Kp}(c:t∈F)(a:s∈F)(e:t.n=s.n):t=s:=
 (Dh (R_:=λx y:Kp=>x.n≠y.n) (λz=>qy z) (wf.mp b) c a).resolve_right λz=>z e
def Gs (f:α->β)(xs:List α)(i:Int):tI (xs.map f) i=(tI xs i).map f:=by
 unfold tI;rw[qm];cases wI ⇑xs i with
 | none=>rfl
 | some j=>calc se
def Et (W:Int):p9:=if W=0 then Bd else if W=1 then xk else if W=2 then BU else if W<5 then vW else wk
def w_at (h:0<=W):tI [tx Bd,tx xk,tx BU,tx vW,tx vW,tx wk,tx wk] (if 6<W then 6 else W)=U (tx (Et W)):=by
 by_cases z:6<W
 .rw[qg z];unfold Et;rw[qe ∅,qe ∅,qe ∅,qe ∅];exact wJ (j:=6) Z
 .rw[qe z];let#[j,Z]:=Int.eq_ofNat_of_zero_le h;have:j<7:=by lia
  match j,this with
  | 0,_=>exact wJ (j:=0) Z
  | 1,_=>exact wJ (j:=1) Z
  | 2,_=>exact wJ (j:=2) Z
  | 3,_=>exact wJ (j:=3) Z
  | 4,_=>exact wJ (j:=4) Z
  | 5,_=>exact wJ (j:=5) Z
  | 6,_=>calc wJ (j:=6) Z
inductive kD (m:p9)(W:Int)(c0:Nat):p9->qi->Prop
 | strip:W=0->kD m W c0 Bd []
 | «from»:W=1->kD m W c0 xk []
 | take:W=2->kD m W c0 BU []
 | move:∀ {vb us},2<W->oF m vb us->(vb=jb->us=[[c0]])->kD m W c0 vb us
def ZqG (g:0<=W)(f:c0∈m):∃vb us,kD m W c0 vb us/\vb=(if 6<W then jb else Et W)/\us=(if vb=jb then [[c0]] else []):=by
 by_cases z:6<W
 .exact#[jb,[[c0]],.move ∅ (.inl #[Z,c0,f,Z]) λ_=>rfl,by rw[qg z],by rw[qg Z]]
 .rw[qe z];unfold Et;by_cases a:W=0
  .exact#[Bd,[],.strip a,by rw[qg a],Z]
  by_cases b:W=1
  .exact#[xk,[],.from b,by rw[qe a,qg b],Z]
  by_cases c:W=2
  .exact#[BU,[],.take c,by rw[qe a,qe b,qg c],Z]
  rw[qe a,qe b,qe c];by_cases d:W<5
  .exact#[vW,[],.move ∅ (.inr (.inl #[Z,Z])) (λe=>by cases e),by rw[qg d],Z]
  .exact#[wk,[],.move ∅ (.inr (.inr #[Z,Z])) (λe=>by cases e),by rw[qe d],Z]
def kD.le (h:kD m W c0 vb us):⇑vb<=5:=by
 cases h with
 | strip=>decide
 | «from»=>decide
 | take=>decide
 | move _ o _=>rcases o with⟨rfl,_⟩|⟨rfl,_⟩|⟨rfl,_⟩<;>decide
def ZqH (e:us=(if vb=jb then [[c0]] else [])):(List.replicate (if R (vb=jb)=Y then (1:Int) else 0).toNat [tx [c0]]).flatten=us.map tx/\(us.map List.length).sum<=1/\⇑us<=1:=by
 by_cases z:vb=jb
 .rw[qg z]at e;subst e;rw[NM z];exact#[Z,qG _,qG _]
 .rw[qe z]at e;subst e;rw[NN z];calc#[Z,rM _,rM _]
def BE (e:x=y)(h:Q (.bl Y) H):jC K J (.int x) (.int y) H Q:=.inl #[Z,by rw[qe qO,NM (by rw[e])];calc h]
def uQ (e:x≠y)(h:Q (.bl J) H):jC K J (.int x) (.int y) H Q:=.inl #[Z,by rw[qe qO,NN (λz=>e (V.int.inj z))];calc h]
def ux.fn (h:ux m vb us l ds l2 ds2 rc rg)(g:ux m vb us l ds l3 ds3 rc3 rg3):l3=l2/\ds3=ds2/\rc3=rc/\rg3=rg:=by
 let d:∀ {x y:List (Bool×Nat)} {b c:Bool×Nat},x++[b]=y++[c]->x=y/\b=c:=λe=>#[(List.append_inj' e Z).1,by injection (List.append_inj' e Z).2];let i:∀ {x y:p9} {b c:Nat},x++[b]=y++[c]->x=y/\b=c:=λe=>#[(List.append_inj' e Z).1,by injection (List.append_inj' e Z).2];generalize el:l=l' at g;generalize ed:ds=ds' at g;cases h with
 | put=>cases g with | put=>subst el ed;exact#[Z,Z,Z,Z]
 | drop=>
  cases g with
  | drop=>injection el with f a;subst f a ed;exact#[Z,Z,Z,Z]
 | bput=>
  cases g with
  | bput=>let#[f,a]:=d ed;let#[j,k]:=i el;injection a with _ a;subst f a j;exact#[Z,Z,Z,Z]
  | bdrop=>let#[_,a]:=d ed;injection a with a _;cases a
 | bdrop=>
  cases g with
  | bput=>let#[_,a]:=d ed;injection a with a _;cases a
  | bdrop=>let#[f,a]:=d ed;injection a with _ a;subst f a el;calc#[Z,Z,Z,Z]
def ux.noE (h:ux m vb us l ds l2 ds2 rc rg)(e:j8 a vb l ds c):False:=by
 generalize el:l=l' at e;generalize ed:ds=ds' at e;cases h with
 | put _ b=>cases e with | put z=>rw[el]at b;lia
 | drop=>cases e with | drop=>cases el
 | bput=>cases e with | back=>simp at ed
 | bdrop=>cases e with | back=>simp at ed
def ux.ds {l m vb c:p9}{us:qi}{b a:List (Bool×Nat)}{d f:zC}{k:Nat}(h:ux m vb us l b c a d f)(e:⇑b<=k):⇑a<=k+1:=by
 cases h with
 | put=>rw[qP];exact Bi e
 | drop=>rw[qP];exact Bi e
 | bput=>rw[qP,r6]at e;lia
 | bdrop=>rw[qP,r6]at e;lia
def j8.xt (h:j8 a vb l ds c)(b:jq H2 e c [])(q:Q (tx (errT vb)) H2):XT a Q (.ref c) (U e) H2:=by
 cases h with
 | put=>exact#[e,Z,.inr (.inr (.inl #[Z,b,q]))]
 | drop=>exact#[e,Z,.inr (.inr (.inr (.inl #[Z,b,q])))]
 | back=>calc#[e,Z,.inr (.inr (.inr (.inr #[Z,b,q])))]
def vB (s:g7 H H2):Kx X H H2:=λ_ _ _ e _=>s _ _ e
def tN.mid (h:tN a H dk p dA dB m F G X k)(n:s∈F)(l:r∈G)(c:qV [s.p,s.da] H H1):g8 a.c_MR H1 r.p r.la r.da r.l m r.ds/\H1 dB=U (.dK (iC G)):=by
 let b:=(u6.mp h.all.2).2.2 s n r l;let d:s∈F++G:=wO _ n;let e:=h.all.1 r (ui _ l);let#[#[_,_,f],#[_,q],_,o]:=wz (h.all.1 s d);let#[#[_,_,g],#[_,i],_,j]:=wz e;calc#[e.chg c (h.all.tup d) ?_ ?_ ?_,c _ _ h.bes (wv (h.all.1 s d) h.bes (.inl #[_,Z])) Z]<;>simp only[qS,yc,or_false,not_or]
 .exact#[qy b.p,λz=>by rw[z,o]at g;cases g]
 .exact#[λz=>(by rw[z,f]at i;cases i),qy b.dl]
 .exact#[λz=>(by rw[z,f]at j;cases j),qy b.dd]
theorem Zl7 {x y:p9}:∀ {ws:qi},ws≠[]->ir [32] (ir [32] [x,y]::ws)=ir [32] (x::y::ws)
 | [],h=>NR Z h
 | u::r,_=>by rw[we,we,we,we];show (x++32::y)++_=_;rw[tD];rfl
def Jh (a:1<=⇑w)(c:⇑w<=8)(h:∀x∈w,x∈rn):rH w=Y:=by unfold rH vA;rw[rB,rB,NL,NL,ur];calc#[#[∅,λx b=>List.contains_iff_mem.mpr (h x b)],λe=>by rw[e]at a;calc NR a ⋯]
def Eu (b:0<=i)(c:i<26):rn.getD i.toNat 0∈rn/\tI rn i=U (rn.getD i.toNat 0):=by
 let#[j,Z]:=Int.eq_ofNat_of_zero_le b;let a:j<⇑rn:=by show j<26;lia
 let e:rn[j]?=U (rn.getD j 0):=by rw[sw,rD a];rfl
 rw[zw];calc#[sC e,wJ e]
def Zl4 (h:c∈m):qI [c] m:=by let#[i,a]:=List.mem_iff_getElem?.mp h;let b:=(rY.mp a).1;calc#[i,by show i+1<=_;lia,?_];rw[DO b,(rY.mp a).2];rfl
structure Bf (a:Ad)(H:Hp)(dk p dA dB:AD)(m:p9)(r g:Kp)(X:List AD):Prop where
 dsk:iZ a H dk p dA m [r]
 bes:H dB=U (.dK (iC [g]))
 all:jt a H m [r,g]
 ne:dA≠dB
 out:dA∉X/\dB∉X/\∀t∈[r,g],t.p∉X/\t.da∉X
 xs:∀b∈X,∃o,H b=U o/\ub o=J
def Bf.wld (h:Bf a H dk p dA dB m r g X)(e:kk r=kk g)(l:⇑r.ds<=40):tN a H dk p dA dB m [r] [g] X 100:=by
 let b:g.ds=r.ds:=by unfold kk at e;injection e with _ e;injection e with _ e;exact e.symm
 calc#[h.dsk,h.bes,h.all,by rw[zh,zh,e],h.ne,h.out,#[⋯,(by show 1<=100;decide),λt c=>?_],h.xs];rcases rJ.mp c with z | z
 .rw[qR.mp z];lia
 .rw[qR.mp z,b];lia
def Bf.put (h:Bf a H dk p dA dB m r g X)(c:qV [r.p,r.da] H H1)(st:g8 a.c_MR H1 r.p la r.da l2 m ds2)(A:Nw H la):Bf a H1 dk p dA dB m #[r.n,r.p,la,r.da,l2,ds2] g X/\Kx X H H1:=by
 let#[d,f,k,x,#[q,B,j],s]:=h;let l:=k.1 r {};let e:=k.moved {} c st A;let C:wp r g:=(u9.mp k.2).1 g {};let y:[r,g].map (sO r.p la l2 ds2)=[#[r.n,r.p,la,r.da,l2,ds2],g]:=by rw[rC,zh];unfold sO;rw[qg Z,qe (qy C.p)]
 rw[y]at e;let#[v,u,w]:=Mp d l c;let o:Kx X H H1:=Kx.chg c λb n=>by simp only[qS,yc,or_false,not_or];exact#[λz=>(j r {}).1 (z▸n),λz=>(j r {}).2 (z▸n)]
 refine#[#[#[v,u,w,λt i=>e.1 t (by rw[qR.mp i];simp),λt i=>?_,d.sh.nd,d.sh.kok],c _ _ f (wv l f (.inl #[_,Z])) Z,e,x,#[q,B,λt i=>?_],o.xs s],o]
 .rw[qR.mp i];exact d.sh.nm r {}
 .rcases qS.mp i with rfl | z
  .exact j r {}
  .exact j t (by simp[qR.mp z])
def sq_x (h:rl K H b xs):∃e:List AD,(∀c∈e,∃o,H c=U o/\ub o=J)/\∀a,Kx e H a->rl K a b xs:=by
 rcases h with (h | ⟨o,h⟩) | h
 .exact#[[b],λc d=>by rw[qR.mp d];calc#[_,h,Z],λa k=>.inl (.inl (k b {} _ h Z))]
 .exact#[[b],λc d=>by rw[qR.mp d];calc#[_,h,Z],λa k=>.inl (.inr #[o,k b {} _ h Z])]
 .exact#[[],{},λa _=>.inr h]
def Kx.sub (h:Kx X H H2)(s:∀b∈Y_,b∈X):Kx Y_ H H2:=λb a=>h b (s b a)
def ZlA (n:p9)(x:Nat):([112,117,116,32]++n++[32])++[x]=ir [32] [jb,n,[x]]:=by rw[we,we];show _=jb++32::(n++32::[x]);simp
inductive KU (H:Hp)(p:AD)(pS:AD)(pL:AD)(o:Obj)(kw:List (qt×V))(ws:qi)(ss:qi)(m:p9)(i:Nat)(σ:St)(H':Hp):Prop
 | mk:∀(v3:Option V) (v4:Option V) (kS:List (qt×V)) (kL:List (qt×V)),σ=[some (.ref p),some (.ref pS),some (.ref pL),v3,v4,none,none]->iY p H H'->H' p=some (.frz o (.dK kw))->H' pS=some (.dK kS)->iU H H' pS pL kS (edges ws m (ss.take i))->H' pL=some (.dK kL)->CS kL (ss.take i) (λs=>⇑(iE ws m s))->⇑kL<=i->KU H p pS pL o kw ws ss m i σ H'
inductive KY (H:Hp)(p:AD)(pS:AD)(pL:AD)(au:AD)(o:Obj)(o1:Obj)(kw:List (qt×V))(kL4:List (qt×V))(ws:qi)(ss:qi)(m:p9)(u:p9)(i:Nat)(j:Nat)(σ:St)(H':Hp):Prop
 | mk:∀(v4:Option V) (kS:List (qt×V)),σ=[some (.ref p),some (.ref pS),some (.ref pL),some (tx u),v4,none,none]->(∀b x,b≠p->b≠au->H b=some x->H' b=some x)->H' p=some (.frz o (.dK kw))->H' au=some (.frz o1 (.dK ((sE ws m u).map jf)))->H' pS=some (.dK kS)->iU H H' pS pL kS (edges ws m (ss.take i)++((iE ws m u).take j).map λr=>(r,u))->H' pL=U (.dK kL4)->KY H p pS pL au o o1 kw kL4 ws ss m u i j σ H'
inductive NH (H:Hp)(p:AD)(pS:AD)(pL:AD)(pe:AD)(kS:List (qt×V))(ws:qi)(ss:qi)(m:p9)(σ:St)(H':Hp):Prop
 | mk:∀(v3:Option V) (v4:Option V) (n:Nat) (es:List Wd) (f:Wd->Nat) (kL:List (qt×V)),σ=[U (.ref p),U (.ref pS),U (.ref pL),v3,v4,U (.ref pe),U (.int n)]->g7 H H'->H' pS=U (.dK kS)->iU H H' pS pL kS (edges ws m ss)->H' pL=U (.dK kL)->CS kL ss f->⇑kL<=8201->H' pe=U (.lst (es.map tx))->KI ss (iE ws m) n es f->NH H p pS pL pe kS ws ss m σ H'
inductive Ll (H:Hp)(p:AD)(pS:AD)(pL:AD)(pe:AD)(al:AD)(kS:List (qt×V))(ws:qi)(ss:qi)(m:p9)(n:Nat)(r:p9)(j:Nat)(σ:St)(H':Hp):Prop
 | mk:∀(v3:Option V) (es:List Wd) (f:Wd->Nat) (kL:List (qt×V)),σ=[U (.ref p),U (.ref pS),U (.ref pL),v3,U (tx r),U (.ref pe),U (.int n)]->g7 H H'->H' al=U (.lst ((iF (edges ws m ss) r).map tx))->H' pS=U (.dK kS)->iU H H' pS pL kS (edges ws m ss)->H' pL=U (.dK kL)->CS kL ss f->⇑kL<=8201->H' pe=U (.lst (es.map tx))->KJ ss (iE ws m) n r (iF (edges ws m ss) r) j es f->Ll H p pS pL pe al kS ws ss m n r j σ H'
inductive Lp (H1:Hp)(pd:AD)(s_:p9)(L:p9)(m:p9)(rs:p9)(F:qi)(i:Nat)(σ:St)(H':Hp):Prop
 | mk:∀(v5:Option V) (v6:Option V) (v7:Option V) (v8:Option V) (kvs:List (qt×V)) (ws:qi),σ=[some (tx s_),some (tx L),some (tx m),some (tx rs),some (.ref pd),v5,v6,v7,v8]->(∀b o,H1 b=some o->b≠pd->H' b=some o)->H' pd=some (.dK kvs)->DI H' s_ L rs (λw=>∃sh∈F.take i,∃c∈m,w=sh++[c]\/w=c::sh) kvs ws->⇑kvs<=i*8->Lp H1 pd s_ L m rs F i σ H'
inductive HM (H1:Hp)(pd:AD)(s_:p9)(L:p9)(m:p9)(rs:p9)(F:qi)(t1:AD)(sh:p9)(i:Nat)(j:Nat)(σ:St)(H':Hp):Prop
 | mk:∀(v7:Option V) (v8:Option V) (kvs:List (qt×V)) (ws:qi),σ=[some (tx s_),some (tx L),some (tx m),some (tx rs),some (.ref pd),some (tx sh),some (.ref t1),v7,v8]->(∀b o,H1 b=some o->b≠pd->H' b=some o)->H' t1=some (.tup [tx rs,tx sh,.int ((wT L sh:Nat):Int)])->H' pd=some (.dK kvs)->DI H' s_ L rs (λw=>(∃sh∈F.take i,∃c∈m,w=sh++[c]\/w=c::sh)\/∃c∈m.take j,w=sh++[c]\/w=c::sh) kvs ws->⇑kvs<=i*8+2*j->HM H1 pd s_ L m rs F t1 sh i j σ H'
inductive NJ (H1:Hp)(pd:AD)(s_:p9)(L:p9)(m:p9)(rs:p9)(F:qi)(t1:AD)(pl:AD)(sh:p9)(i:Nat)(j:Nat)(c:Nat)(k:Nat)(σ:St)(H':Hp):Prop
 | mk:∀(v8:Option V) (kvs:List (qt×V)) (ws:qi),σ=[some (tx s_),some (tx L),some (tx m),some (tx rs),some (.ref pd),some (tx sh),some (.ref t1),some (tx [c]),v8]->(∀b o,H1 b=some o->b≠pd->H' b=some o)->H' t1=some (.tup [tx rs,tx sh,.int ((wT L sh:Nat):Int)])->H' pl=some (.lst [tx (sh++[c]),tx (c::sh)])->H' pd=some (.dK kvs)->DI H' s_ L rs (λw=>((∃sh∈F.take i,∃c∈m,w=sh++[c]\/w=c::sh)\/∃c∈m.take j,w=sh++[c]\/w=c::sh)\/w∈[sh++[c],c::sh].take k) kvs ws->⇑kvs<=i*8+2*j+k->NJ H1 pd s_ L m rs F t1 pl sh i j c k σ H'
inductive Na (H:Hp)(p:AD)(pq:AD)(pl:AD)(ws:qi)(es:qi)(m:p9)(i:Nat)(σ:St)(H':Hp):Prop
 | mk:∀(v3:Option V) (v4:Option V) (v5:Option V) (kO:List (qt×V)),σ=[U (.ref p),U (.ref pq),U (.ref pl),v3,v4,v5]->g7 H H'->H' pl=U (.dK kO)->⇑kO<=i->(∀s∈es.take i,∃x,hW kO (qf s)=U (tx x)/\LW ws m s x)->Na H p pq pl ws es m i σ H'
inductive Mi (H:Hp)(p:AD)(pq:AD)(pl:AD)(au:AD)(o:Obj)(ws:qi)(es:qi)(m:p9)(s_:p9)(i:Nat)(j:Nat)(σ:St)(H':Hp):Prop
 | mk:∀(v4:Option V) (v5:Option V) (kO:List (qt×V)) (x:p9),σ=[U (.ref p),U (.ref pq),U (.ref pl),U (tx s_),v4,v5]->(∀b y,b≠au->H b=U y->H' b=U y)->H' au=U (.frz o (.dK ((sE ws m s_).map jf)))->H' pl=U (.dK kO)->⇑kO<=i+1->(∀s∈es.take i,∃x,hW kO (qf s)=U (tx x)/\LW ws m s x)->hW kO (qf s_)=U (tx x)->PW ws m s_ j x->Mi H p pq pl au o ws es m s_ i j σ H'
inductive Lw (H:Hp)(pn:AD)(c:Int)(k:Nat)(B:p9)(S:Nat)(A:Nat)(i:Nat)(σ:St)(H':Hp):Prop
 | mk:∀(v7:Option V)(v8:Option V)(N:qi),σ=[U (.int c),U (.int k),U (tx rn),U (tx B),U (.int S),U (.int A),U (.ref pn),v7,v8]->g7 H H'->H' pn=U (.lst (N.map tx))->⇑N=i->(∀n∈N,rH n=Y)->Lw H pn c k B S A i σ H'
inductive Ko (H:Hp)(b:AD)(p0:AD)(pw:AD)(o:Obj)(kvs:List (qt×V))(ws:qi)(m:p9)(i:Nat)(σ:St)(H':Hp):Prop
 | mk:∀(v4:Option V) (v5:Option V) (kw:List (qt×V)) (ss:qi),σ=[U (.ref b),U (tx m),U (.ref p0),U (.ref pw),v4,v5]->g7 H H'->H' p0=U (.frz o (.dK kvs))->H' pw=U (.dK kw)->iS H' pw kw ws m ss->ss.map qf=(kvs.map (·.1)).take i->Ko H b p0 pw o kvs ws m i σ H'
inductive Ki (H:Hp)(b:AD)(p:AD)(ws:qi)(i:Nat)(σ:St)(H':Hp):Prop
 | mk:∀(v2:Option V) (v3:Option V) (kvs:List (qt×V)),σ=[U (.ref b),U (.ref p),v2,v3]->g7 H H'->H' p=U (.dK kvs)->iW ws i 0 kvs->⇑kvs<=1+41*i->Ki H b p ws i σ H'
inductive KF (H:Hp)(b:AD)(p:AD)(ws:qi)(w_:p9)(i:Nat)(j:Nat)(σ:St)(H':Hp):Prop
 | mk:∀(v3:Option V) (kvs:List (qt×V)),σ=[U (.ref b),U (.ref p),U (tx w_),v3]->g7 H H'->H' p=U (.dK kvs)->iW ws i (1+j) kvs->⇑kvs<=1+41*i+j->KF H b p ws w_ i j σ H'
inductive Lb (H:Hp)(p:AD)(pf:AD)(l:p9)(m:p9)(i:Nat)(σ:St)(H':Hp):Prop
 | mk:∀(v3:Option V)(v4:Option V)(q0:AD),σ=[U (.ref p),U (.ref pf),U (.ref q0),v3,v4]->g7 H H'->H' pf=U (.lst ((yy l m i).map tx))->H' q0=U (.lst ((iu l i).map tx))->pf≠q0->Lb H p pf l m i σ H'
inductive LD (H1:Hp)(b:AD)(pd:AD)(ws:qi)(m:p9)(i:Nat)(σ:St)(H':Hp):Prop
 | mk:∀(v3:Option V) (kvs:List (qt×V)),σ=[U (.ref b),U (tx m),U (.ref pd),v3]->g7 H1 H'->H' pd=U (.dK kvs)->⇑kvs<=i->(∀w,(hW kvs (qf w)).isSome=Y↔w∈ws.take i)->LD H1 b pd ws m i σ H'
inductive K5 (a:Ad)(H:Hp)(dB:AD)(x:AD)(da:AD)(n:p9)(u:p9)(m:p9)(G:List Kp)(i:Nat)(σ:St)(H':Hp):Prop
 | mk:∀(v4:Option V)(la:AD),σ=[U (.ref dB),U (tx n),U (tx u),U (tx m),v4]->g8 a.c_MR H' x la da (u.take i) m (uB (u.take i))->TT a H'->qV [dB] H H'->H' dB=U (.dK (iC G++[(qf n,.ref x)]))->Nw H la->K5 a H dB x da n u m G i σ H'
inductive Lo (a:Ad)(H2:Hp)(b:AD)(bN:AD)(dk:AD)(p:AD)(dA:AD)(dB:AD)(m:p9)(X:List AD)(i:Nat)(σ:St)(H':Hp):Prop
 | mk:∀(cc:Int)(v6:Option V)(v7:Option V)(F:List Kp)(G:List Kp),σ=[U (V.ref b),U (tx m),U (V.int cc),U (V.ref bN),U (V.ref dk),U (V.ref dB),v6,v7]->tN a H' dk p dA dB m F G X (100+i)->Kx X H2 H'->TT a H'->Lo a H2 b bN dk p dA dB m X i σ H'
inductive MD (a:Ad)(H2:Hp)(b:AD)(bN:AD)(dk:AD)(p:AD)(dA:AD)(dB:AD)(m:p9)(X:List AD)(c:Int)(n:p9)(u:p9)(g:Kp)(i:Nat)(σ:St)(H':Hp):Prop
 | mk:∀(v6:Option V)(r':Kp),σ=[U (V.ref b),U (tx m),U (V.int c),U (V.ref bN),U (V.ref dk),U (V.ref dB),v6,O]->Bf a H' dk p dA dB m r' g X->r'.n=n->r'.l=u.take i->r'.ds=uB (u.take i)->Kx X H2 H'->TT a H'->MD a H2 b bN dk p dA dB m X c n u g i σ H'
abbrev SQ (_:qj)(_:Ad)(_:NU)(_:Hp)(_:VK)(_:XK):=Prop
section
variable (K:qj)(a:Ad)(vs:NU)(H:Hp)(Q:VK)(E:XK)
inductive sp_LS:SQ K a vs H Q E
 | mk:∀l m,vs=[tx l,tx m]->⇑l<=1000->(∀H2,g7 H H2->Q (.bl (l.all λc=>m.contains c)) H2)->sp_LS
inductive sp_LU:SQ K a vs H Q E
 | mk:∀l,vs=[tx l]->⇑l<=1000->(∀H2,g7 H H2->Q (.bl (vq l)) H2)->sp_LU
inductive sp_L5:SQ K a vs H Q E
 | mk:∀l m most,vs=[tx l,tx m,.int most]->⇑l<=1000->(∀H2,g7 H H2->Q (.bl (vA l m most)) H2)->sp_L5
inductive sp_LM:SQ K a vs H Q E
 | mk:∀l m,vs=[tx l,tx m]->⇑l<=1000->(∀H2,g7 H H2->Q (.bl (Bk l m)) H2)->sp_LM
inductive sp_LB:SQ K a vs H Q E
 | mk:∀l,vs=[tx l]->⇑l<=1000->vq l=Y->(∀H2,g7 H H2->Q .non H2)->sp_LB
inductive sp_LP:SQ K a vs H Q E
 | mk:∀l m most,vs=[tx l,tx m,.int most]->⇑l<=1000->vA l m most=Y->(∀H2,g7 H H2->Q .non H2)->sp_LP
inductive sp_KQ:SQ K a vs H Q E
 | mk:∀l m,vs=[tx l,tx m]->⇑l<=1000->Bk l m=Y->(∀H2,g7 H H2->Q .non H2)->sp_KQ
inductive sp_LT:SQ K a vs H Q E
 | mk:∀(p:AD)(ws:qi),vs=[.ref p]->H p=some (.lst (ws.map tx))->(∀w∈ws,⇑w<=1000)->TT a H->(∀(ws':qi)(r:AD)(H2:Hp),ws'.Perm ws->ws'.Pairwise (λa b=>¬iM b a)->iD H H2->TT a H2->H r=O->H2 r=U (.lst (ws'.map tx))->Q (.ref r) H2)->sp_LT
inductive sp_MO:SQ K a vs H Q E
 | mk:∀(l:p9)(n:Nat),vs=[tx l,.int n]->⇑l<=200->n<=⇑l+1->⇑l<n+63->(∀p H2,g7 H H2->H p=O->H2 p=U (.lst ((iu l n).map tx))->Q (.ref p) H2)->sp_MO
inductive sp_MT:SQ K a vs H Q E
 | mk:∀(b1 b2:AD)(sh st:qi)(m:p9),vs=[.ref b1,.ref b2,tx m]->H b1=U (.lst (sh.map tx))->H b2=U (.lst (st.map tx))->⇑sh<=100->⇑m<=4->(∀w∈sh,⇑w<=100)->(∀p H2,g7 H H2->H p=O->H2 p=U (.lst ((xx sh st m).map tx))->Q (.ref p) H2)->sp_MT
inductive sp_LE:SQ K a vs H Q E
 | mk:∀(p dx C:AD)(l m:p9),vs=[.ref p,tx l,tx m]->(C=a.c_MP\/C=a.c_MR)->H p=U (.ins C dx [])->(∀H2,H2 p=U (.ins C dx (iq "own_kinds" (tx m) (iq "own_text" (tx l) [])))->(∀b o,H b=U o->b≠p->H2 b=U o)->Q .non H2)->sp_LE
inductive sp_KT:SQ K a vs H Q E
 | mk:∀(p la da:AD) (l m:p9) (ds:List (Bool×Nat)),vs=[.ref p]->g8 a.c_MR H p la da l m ds->Q (tx m) H->sp_KT
inductive sp_LF:SQ K a vs H Q E
 | mk:∀(p la da:AD) (l m:p9) (ds:List (Bool×Nat)),vs=[.ref p]->g8 a.c_MR H p la da l m ds->Q (tx l) H->sp_LF
inductive sp_KB:SQ K a vs H Q E
 | mk:∀(p:AD)(l m:p9)(n:Nat),vs=[.ref p,.int n]->Ch a.c_MP H p l m->Q (tx l) H->sp_KB
inductive sp_KV:SQ K a vs H Q E
 | mk:∀(p:AD)(l m:p9)(n:Nat),vs=[.ref p,.int n]->Ch a.c_MP H p l m->ig l m->n<=⇑l+1->(∀q H2,g7 H H2->H q=O->H2 q=U (.lst ((iu l n).map tx))->Q (.ref q) H2)->sp_KV
inductive sp_KU:SQ K a vs H Q E
 | mk:∀(p:AD)(l m:p9),vs=[.ref p]->Ch a.c_MP H p l m->ig l m->Q (.int ((⇑l:Nat)+1)) H->sp_KU
inductive sp_KF:SQ K a vs H Q E
 | mk:∀(p:AD)(l m:p9),vs=[.ref p]->Ch a.c_MP H p l m->ig l m->(∀q H2,g7 H H2->H2 q=U (.lst ((qE l m).map tx))->Q (.ref q) H2)->sp_KF
inductive sp_K0:SQ K a vs H Q E
 | mk:∀(p dx:AD)(l m:p9),vs=[.ref p,tx l,tx m]->H p=U (.ins a.c_MP dx [])->ig l m->(∀H2,Ch a.c_MP H2 p l m->(∀b o,H b=U o->b≠p->H2 b=U o)->Q .non H2)->sp_K0
inductive sp_MX:SQ K a vs H Q E
 | mk:∀(l x:p9),vs=[tx l,tx x]->⇑l<=1000->⇑x<=1000->Q (.bl (CV l x)) H->sp_MX
inductive sp_LO:SQ K a vs H Q E
 | mk:∀(b:AD)(ws:qi)(l m:p9),vs=[.ref b,tx m]->H b=U (.lst (ws.map tx))->ig l m->im l m ws->(∀H2,g7 H H2->Q .non H2)->sp_LO
inductive sp_MF:SQ K a vs H Q E
 | mk:∀(b:AD)(ws:qi)(w:p9),vs=[.ref b,tx w]->H b=U (.lst (ws.map tx))->⇑ws<=1000->⇑w<=1000->(∀H2,g7 H H2->Q (.bl (zE ws w)) H2)->sp_MF
inductive sp_LV:SQ K a vs H Q E
 | mk:∀(b:AD)(ws:qi)(l m:p9),vs=[.ref b]->H b=U (.lst (ws.map tx))->ig l m->im l m ws->(∀H2,g7 H H2->Q .non H2)->sp_LV
inductive sp_M2:SQ K a vs H Q E
 | mk:∀(b:AD)(ws:qi),vs=[.ref b]->H b=U (.lst (ws.map tx))->⇑ws<=200->(∀w∈ws,⇑w<=41)->(∀(p:AD) (kvs:List (qt×V)) (H2:Hp),g7 H H2->H p=O->H2 p=U (.dK kvs)->ku ws kvs->Q (.ref p) H2)->sp_M2
inductive sp_MG:SQ K a vs H Q E
 | mk:∀(p:AD) (kvs:List (qt×V)) (ws:qi) (u:p9),vs=[.ref p,tx u]->Rd H p (.dK kvs)->ku ws kvs->⇑u<=1000->(∀e H2,g7 H H2->xR ws u e->Q (tx e) H2)->sp_MG
inductive sp_NA:SQ K a vs H Q E
 | mk:∀(b:AD)(ws:qi)(l m:p9),vs=[.ref b,tx m]->H b=U (.lst (ws.map tx))->ig l m->im l m ws->(∀(p:AD) (kw:List (qt×V)) (ss:qi) (H2:Hp),g7 H H2->H p=O->H2 p=U (.dK kw)->iS H2 p kw ws m ss->j0 ws ss->Q (.ref p) H2)->sp_NA
inductive sp_MV:SQ K a vs H Q E
 | mk:∀(p:AD) (kw:List (qt×V)) (ws ss:qi) (l m:p9),vs=[.ref p]->H p=U (.dK kw)->iS H p kw ws m ss->j0 ws ss->ig l m->im l m ws->(∀(q:AD)(es:qi)(H2:Hp),g7 H H2->H q=O->H2 q=U (.lst (es.map tx))->k8 ws m ss es->Q (.ref q) H2)->sp_MV
inductive sp_L6:SQ K a vs H Q E
 | mk:∀(p q:AD) (kw:List (qt×V)) (ws ss es:qi) (l m:p9),vs=[.ref p,.ref q]->H p=U (.dK kw)->iS H p kw ws m ss->j0 ws ss->ig l m->im l m ws->H q=U (.lst (es.map tx))->k8 ws m ss es->(∀H2,g7 H H2->Q (tx l) H2)->sp_L6
inductive sp_L7:SQ K a vs H Q E
 | mk:∀(b:AD)(ws:qi)(l m:p9),vs=[.ref b,tx m,tx l]->H b=U (.lst (ws.map tx))->ig l m->im l m ws->(∀H2,g7 H H2->Q .non H2)->sp_L7
inductive sp_LW:SQ K a vs H Q E
 | mk:∀(b:AD)(ws:qi)(l m:p9),vs=[.ref b,tx m]->H b=U (.lst (ws.map tx))->ig l m->im l m ws->TT a H->(∀H2,iD H H2->TT a H2->Q (tx l) H2)->sp_LW
inductive sp_LC:SQ K a vs H Q E
 | mk:∀(p q dA la da:AD) (l m:p9) (ds:List (Bool×Nat)) (F:List Kp),vs=[.ref p,.ref q]->ic a H p dA m F->g8 a.c_MR H q la da l m ds->Q .non H->sp_LC
inductive sp_L4:SQ K a vs H Q E
 | mk:∀n,vs=[tx n]->rH n=Y->(∀H2,g7 H H2->Q (.bl Y) H2)->sp_L4
inductive sp_K3:SQ K a vs H Q E
 | mk:∀(p dx:AD)(m:p9),vs=[.ref p,tx m]->H p=U (.ins a.c_MQ dx [])->wB m->(∀dA H2,ic a H2 p dA m []->H dA=O->(∀b o,H b=U o->b≠p->H2 b=U o)->Q .non H2)->sp_K3
inductive sp_KM:SQ K a vs H Q E
 | mk:∀(p dA:AD)(m:p9)(F:List Kp),vs=[.ref p]->ic a H p dA m F->Q (tx m) H->sp_KM
inductive sp_KA:SQ K a vs H Q E
 | mk:∀(p dA:AD)(m n:p9)(F:List Kp),vs=[.ref p,tx n]->ic a H p dA m F->rH n=Y->((∀r∈F,r.n≠n)->∀H2,g7 H H2->Q .non H2)->(∀r∈F,r.n=n->wL a E H n)->sp_KA
inductive sp_LJ:SQ K a vs H Q E
 | mk:∀(p dA q la da:AD) (l m n:p9) (ds:List (Bool×Nat)) (F:List Kp),vs=[.ref p,tx n,.ref q]->ic a H p dA m F->g8 a.c_MR H q la da l m ds->rH n=Y->⇑F<=1000->((∀r∈F,r.n≠n)->∀(r:Kp)(H2:Hp),r.n=n->r.l=l->r.ds=ds->H r.p=O->H r.la=O->H r.da=O->jo dA H H2->ic a H2 p dA m (F++[r])->Q .non H2)->(∀r∈F,r.n=n->wL a E H n)->sp_LJ
inductive sp_KN:SQ K a vs H Q E
 | mk:∀(p dA:AD)(m:p9)(F:List Kp),vs=[.ref p]->ic a H p dA m F->⇑F<=1000->(∀r H2,g7 H H2->H r=O->H2 r=U (.lst ((sU (F.map (·.n))).map tx))->Q (.ref r) H2)->sp_KN
inductive sp_K4:SQ K a vs H Q E
 | mk:∀(p dA:AD)(m n:p9)(F:List Kp),vs=[.ref p,tx n]->ic a H p dA m F->rH n=Y->(∀r∈F,r.n=n->∀H2,g7 H H2->Q (.ref r.p) H2)->((∀r∈F,r.n≠n)->tV a E H n)->sp_K4
inductive sp_KO:SQ K a vs H Q E
 | mk:∀(p dA:AD)(m n:p9)(F:List Kp),vs=[.ref p,tx n]->ic a H p dA m F->rH n=Y->(∀r∈F,r.n=n->∀(p2 la2 da2:AD)(H2:Hp),g7 H H2->g8 a.c_MR H2 p2 la2 da2 r.l m r.ds->H p2=O->H la2=O->H da2=O->Q (.ref p2) H2)->((∀r∈F,r.n≠n)->tV a E H n)->sp_KO
inductive sp_K5:SQ K a vs H Q E
 | mk:∀(p dA:AD)(m n:p9)(F:List Kp),vs=[.ref p,tx n]->ic a H p dA m F->rH n=true->(∀r∈F,r.n=n->∀H2,jo dA H H2->ic a H2 p dA m (F.filter λx=>R (x.n≠n))->Q (.ref r.p) H2)->((∀r∈F,r.n≠n)->tV a E H n)->sp_K5
inductive sp_LK:SQ K a vs H Q E
 | mk:∀(p dA:AD)(m n:p9)(F:List Kp)(c0:Nat),vs=[.ref p,tx n,tx [c0]]->ic a H p dA m F->rH n=Y->TT a H->c0∈m->(∀r∈F,r.n=n->⇑r.ds<=9000/\MQ a H m jb [[c0]] r.p r.da r.l r.ds Q E)->((∀r∈F,r.n≠n)->tV a E H n)->sp_LK
inductive sp_K2:SQ K a vs H Q E
 | mk:∀(p dA:AD)(m n:p9)(F:List Kp),vs=[.ref p,tx n]->ic a H p dA m F->rH n=Y->TT a H->(∀r∈F,r.n=n->⇑r.ds<=9000/\MQ a H m vW [] r.p r.da r.l r.ds Q E)->((∀r∈F,r.n≠n)->tV a E H n)->sp_K2
inductive sp_K1:SQ K a vs H Q E
 | mk:∀(p dA:AD)(m n:p9)(F:List Kp),vs=[.ref p,tx n]->ic a H p dA m F->rH n=Y->TT a H->(∀r∈F,r.n=n->⇑r.ds<=9000/\MQ a H m wk [] r.p r.da r.l r.ds Q E)->((∀r∈F,r.n≠n)->tV a E H n)->sp_K1
inductive sp_LA:SQ K a vs H Q E
 | mk:∀w,vs=[tx w]->uL w->(∀H2,g7 H H2->Q (.bl Y) H2)->sp_LA
inductive sp_LN:SQ K a vs H Q E
 | mk:∀w,vs=[tx w]->uL w->(∀H2,g7 H H2->Q (.bl J) H2)->sp_LN
inductive sp_L2:SQ K a vs H Q E
 | mk:∀w f,vs=[tx w,tx f]->kH w f->(∀H2,g7 H H2->Q (.bl Y) H2)->sp_L2
inductive sp_LR:SQ K a vs H Q E
 | mk:∀(vb:p9)(n:Nat)(fs:qi),vs=[tx vb,.int n]->kC vb n fs->n<=900->(∀(r:AD) H2,g7 H H2->H r=O->H2 r=U (.lst (fs.map tx))->Q (.ref r) H2)->sp_LR
inductive sp_L3:SQ K a vs H Q E
 | mk:∀(b:AD)(ws:qi),vs=[.ref b]->H b=U (.lst (ws.map tx))->kJ ws->(∀H2,g7 H H2->Q (.bl Y) H2)->sp_L3
inductive sp_LX:SQ K a vs H Q E
 | mk:∀w,vs=[tx w]->uL w->(∀H2,g7 H H2->Q (tx w) H2)->sp_LX
inductive sp_M7:SQ K a vs H Q E
 | mk:∀(ws:qi),vs=[tx (ir [32] ws)]->kJ ws->(∀(t g:AD)(vb:p9)(us:qi)(H2:Hp),ws=vb::us->g7 H H2->H2 t=U (.tup [tx vb,.ref g])->H2 g=U (.lst (us.map tx))->Q (.ref t) H2)->sp_M7
inductive sp_MW:SQ K a vs H Q E
 | mk:∀(s L:p9),vs=[tx s,tx L]->⇑L<=41->uj s L->TT a H->(∀(F:qi)(r:AD)(H2:Hp),F.Pairwise iM->(∀w,w∈F↔sZ s L w)->iD H H2->TT a H2->Nw H r->H2 r=U (.lst (F.map tx))->Q (.ref r) H2)->sp_MW
inductive sp_MH:SQ K a vs H Q E
 | mk:∀(s L rs m:p9),vs=[tx s,tx L,tx rs]->⇑L<=41->uj s L->(∀x∈L,x∈m)->m.Pairwise (· < ·)->TT a H->(∀(ys:NU)(r:AD)(H2:Hp),iD H H2->TT a H2->Nw H r->H2 r=U (.lst ys)->iL H2 ys (xv rs s L m)->Q (.ref r) H2)->sp_MH
inductive sp_MN:SQ K a vs H Q E
 | mk:∀(s L rs m:p9),vs=[tx s,tx L,tx m,tx rs]->⇑L<=41->uj s L->(∀x∈L,x∈m)->m.Pairwise (· < ·)->⇑m<=4->TT a H->(∀(ys:NU)(r:AD)(H2:Hp),iD H H2->TT a H2->Nw H r->H2 r=U (.lst ys)->iL H2 ys (wF rs s L m)->Q (.ref r) H2)->sp_MN
inductive sp_K9:SQ K a vs H Q E
 | mk:∀(p dx:AD)(m:p9),vs=[.ref p,tx m]->H p=U (.ins a.c_MR dx [])->wB m->(∀la da H2,g8 a.c_MR H2 p la da [] m []->H la=O->H da=O->(∀b o,H b=U o->b≠p->H2 b=U o)->Q .non H2)->sp_K9
inductive sp_KE:SQ K a vs H Q E
 | mk:∀(p la da:AD) (l m:p9) (ds:List (Bool×Nat)),vs=[.ref p]->g8 a.c_MR H p la da l m ds->(∀r,H r=O->Q (.ref r) (upd H r (.lst ((qE l m).map tx))))->sp_KE
inductive sp_KP:SQ K a vs H Q E
 | mk:∀(p la da:AD) (l m:p9) (ds:List (Bool×Nat)),vs=[.ref p]->g8 a.c_MR H p la da l m ds->(∀r ts,H r=O->iG H ts ds->Q (.ref r) (upd H r (.lst ts)))->sp_KP
inductive sp_LL:SQ K a vs H Q E
 | mk:∀(p la da:AD) (l m:p9) (ds:List (Bool×Nat)) (c0:Nat),vs=[.ref p,tx [c0]]->g8 a.c_MR H p la da l m ds->⇑ds<=9000->TT a H->c0∈m->MQ a H m jb [[c0]] p da l ds Q E->sp_LL
inductive sp_K7:SQ K a vs H Q E
 | mk:∀(p la da:AD) (l m:p9) (ds:List (Bool×Nat)),vs=[.ref p]->g8 a.c_MR H p la da l m ds->⇑ds<=9000->TT a H->MQ a H m vW [] p da l ds Q E->sp_K7
inductive sp_K6:SQ K a vs H Q E
 | mk:∀(p la da:AD) (l m:p9) (ds:List (Bool×Nat)),vs=[.ref p]->g8 a.c_MR H p la da l m ds->⇑ds<=9000->TT a H->MQ a H m wk [] p da l ds Q E->sp_K6
inductive sp_K8:SQ K a vs H Q E
 | mk:∀(p la da:AD)(s L m:p9),vs=[.ref p,tx L]->yW a.c_MR H p la da s m->H la=U (.lst ((qE s m).map tx))->⇑L<=40->uj s L->(∀x∈L,x∈m)->jH m->TT a H->(∀(t c g la2:AD)(H2:Hp),qV [p] H H2->yW a.c_MR H2 p la2 da L m->H2 la2=U (.lst ((qE L m).map tx))->kc H H2 t c g la2 (wF [102,105,114,115,116] s L m) (xv [115,116,97,110,100,115] s L m)->TT a H2->Q (.ref t) H2)->sp_K8
inductive sp_KL:SQ K a vs H Q E
 | mk:∀(p la da:AD)(s L m:p9),vs=[.ref p,tx s]->yW a.c_MR H p la da L m->H la=U (.lst ((qE L m).map tx))->⇑L<=40->uj s L->(∀x∈L,x∈m)->jH m->TT a H->(∀(t c g la2:AD)(H2:Hp),qV [p] H H2->yW a.c_MR H2 p la2 da s m->H2 la2=U (.lst ((qE s m).map tx))->kc H H2 t c g la2 (xv [115,116,111,111,100] s L m) (wF [108,97,115,116] s L m)->TT a H2->Q (.ref t) H2)->sp_KL
inductive sp_KJ:SQ K a vs H Q E
 | mk:∀(p la da c g:AD) (l l2 m:p9) (old new:qi) (ys zs:NU) (rc rg:List (p9×NU)),vs=[.ref p,tx l2,.ref c,.ref g]->yW a.c_MR H p la da l m->H la=U (.lst (old.map tx))->H c=U (.lst ys)->iL H ys rc->H g=U (.lst zs)->iL H zs rg->old.Pairwise iM->new.Pairwise iM->(rc.map (·.1)).Nodup->(∀w,w∈rc.map (·.1)↔w∈new/\w∉old)->(∀w,w∈rg.map (·.1)↔w∈old/\w∉new)->⇑old<=9000->⇑rc<=9000->⇑rg<=9000->(∀w∈old,⇑w<=1000)->(∀w∈new,⇑w<=1000)->TT a H->(∀(t la2:AD)(H2:Hp),qV [p] H H2->yW a.c_MR H2 p la2 da l2 m->Nw H la2->H2 la2=U (.lst (new.map tx))->H2 t=U (.tup [.ref c,.ref g])->TT a H2->Q (.ref t) H2)->sp_KJ
inductive sp_KK:SQ K a vs H Q E
 | mk:∀(p la da:AD) (l m:p9) (ds:List (Bool×Nat)),vs=[.ref p]->g8 a.c_MR H p la da l m ds->(∀(p2 la2 da2:AD)(H2:Hp),g7 H H2->g8 a.c_MR H2 p2 la2 da2 l m ds->H p2=O->H la2=O->H da2=O->Q (.ref p2) H2)->sp_KK
inductive sp_LD:SQ K a vs H Q E
 | mk:∀(b:AD)(ws:qi),vs=[.ref b]->H b=U (.lst (ws.map tx))->⇑ws<=1000->(ws.map List.length).sum<=100000->(∀H2,g7 H H2->Q (tx (jl (ir [32] ws))) H2)->sp_LD
inductive sp_KR:SQ K a vs H Q E
 | mk:∀(b c:AD)(ws us:qi),vs=[.ref b,.ref c]->H b=U (.lst (ws.map tx))->H c=U (.lst (us.map tx))->⇑ws<=1000->(ws.map List.length).sum<=100000->⇑us<=1000->(us.map List.length).sum<=100000->(∀H2,g7 H H2->Q (tx (jl (ir [32] ws)++[32,47,32]++jl (ir [32] us))) H2)->sp_KR
inductive sp_KS:SQ K a vs H Q E
 | mk:∀(t c g:AD)(ys zs:NU)(rc rg:zC),vs=[.ref t]->H t=U (.tup [.ref c,.ref g])->H c=U (.lst ys)->H g=U (.lst zs)->iL H ys rc->iL H zs rg->yo rc->yo rg->(∀H2,g7 H H2->Q (tx (tch rc rg)) H2)->sp_KS
inductive sp_L1:SQ K a vs H Q E
 | mk:∀(p g dA:AD)(m n:p9)(F:List Kp),vs=[.ref p,.ref g]->wK a H p g dA m F [n]->rH n=Y->kI a H p dA m n [] [] F Ej Q->(∀r∈F,r.n=n->wL a E H n)->sp_L1
inductive sp_MD:SQ K a vs H Q E
 | mk:∀(p g dA:AD)(m n:p9)(F:List Kp),vs=[.ref p,.ref g]->wK a H p g dA m F [n]->rH n=true->(∀r∈F,r.n=n->∀H2,qV [dA] H H2->TT a H2->ic a H2 p dA m (F.filter λx=>R (x.n≠n))->Q (tx Ej) H2)->((∀r∈F,r.n≠n)->tV a E H n)->sp_MD
inductive sp_MS:SQ K a vs H Q E
 | mk:∀(p g dA:AD)(m n:p9)(F:List Kp)(c0:Nat),vs=[.ref p,.ref g]->wK a H p g dA m F [n,[c0]]->rH n=Y->c0∈m->(∀r∈F,r.n=n->MT a H m jb [[c0]] r.p r.da r.l r.ds Q E)->((∀r∈F,r.n≠n)->tV a E H n)->sp_MS
inductive sp_MB:SQ K a vs H Q E
 | mk:∀(p g dA:AD)(m n:p9)(F:List Kp),vs=[.ref p,.ref g]->wK a H p g dA m F [n]->rH n=Y->(∀r∈F,r.n=n->MT a H m vW [] r.p r.da r.l r.ds Q E)->((∀r∈F,r.n≠n)->tV a E H n)->sp_MB
inductive sp_MA:SQ K a vs H Q E
 | mk:∀(p g dA:AD)(m n:p9)(F:List Kp),vs=[.ref p,.ref g]->wK a H p g dA m F [n]->rH n=Y->(∀r∈F,r.n=n->MT a H m wk [] r.p r.da r.l r.ds Q E)->((∀r∈F,r.n≠n)->tV a E H n)->sp_MA
inductive sp_MC:SQ K a vs H Q E
 | mk:∀(p g dA:AD)(m n:p9)(F:List Kp)(us:qi)(l:p9),vs=[.ref p,.ref g]->wK a H p g dA m F (n::us)->rH n=Y->ig l m->im l m us->kI a H p dA m n l (uB l) F (jl l) Q->(∀r∈F,r.n=n->wL a E H n)->sp_MC
inductive sp_L0:SQ K a vs H Q E
 | mk:∀(p g dA:AD)(m:p9)(F:List Kp),vs=[.ref p,.ref g]->wK a H p g dA m F []->(∀H2,g7 H H2->Q (tx (jl (ir [32] (sU (F.map (·.n)))))) H2)->sp_L0
inductive sp_ME:SQ K a vs H Q E
 | mk:∀(p g dA:AD)(m n:p9)(F:List Kp),vs=[.ref p,.ref g]->wK a H p g dA m F [n]->rH n=Y->(∀r∈F,r.n=n->∀H2,g7 H H2->Q (tx (jl r.l)) H2)->((∀r∈F,r.n≠n)->tV a E H n)->sp_ME
inductive sp_LZ:SQ K a vs H Q E
 | mk:∀(p g dA:AD)(m n:p9)(F:List Kp),vs=[.ref p,.ref g]->wK a H p g dA m F [n]->rH n=Y->(∀r∈F,r.n=n->∀H2,g7 H H2->Q (tx (jl (ir [32] (qE r.l m)))) H2)->((∀r∈F,r.n≠n)->tV a E H n)->sp_LZ
inductive sp_LG:SQ K a vs H Q E
 | mk:∀(dk dx:AD)(m:p9),vs=[.ref dk,tx m]->H dk=U (.ins a.c_M5 dx [])->wB m->(∀p dA H2,iZ a H2 dk p dA m []->H p=O->H dA=O->(∀b o,H b=U o->b≠dk->H2 b=U o)->Q .non H2)->sp_LG
inductive sp_LQ:SQ K a vs H Q E
 | mk:∀(dk p dA:AD)(m:p9)(F:List Kp)(ws:qi),vs=[.ref dk,tx (ir [32] ws)]->iZ a H dk p dA m F->TT a H->⇑F<=900->(∀r∈F,⇑r.ds<=8000)->uH a H p dA m F Q E ws->sp_LQ
inductive sp_MY:SQ K a vs H Q E
 | mk:∀(b:AD)(ns:List Int)(k:Int),vs=[.ref b,.int k]->rl K H b (ns.map V.int)->0<=k->(∀r:Int,Q (.int r) H)->sp_MY
inductive sp_MZ:SQ K a vs H Q E
 | mk:∀(c k:Int),vs=[.int c,.int k]->Q (.int (iQ c k)) H->sp_MZ
inductive sp_MJ:SQ K a vs H Q E
 | mk:∀c,vs=[.int c]->(∀m H2,vq m=Y->1<=⇑m->⇑m<=4->g7 H H2->Q (tx m) H2)->sp_MJ
inductive sp_row:SQ K a vs H Q E
 | mk:∀(c:Int)(m:p9)(n:Int),vs=[.int c,tx m,.int n]->1<=⇑m->⇑m<=4->0<=n->n<=100->(∀l:p9,⇑l=n.toNat->(∀x∈l,x∈m)->Q (tx l) H)->sp_row
inductive sp_ML:SQ K a vs H Q E
 | mk:∀l:p9,vs=[tx l]->Q (tx (jl l)) H->sp_ML
inductive sp_MI:SQ K a vs H Q E
 | mk:∀(b:AD)(ws:qi),vs=[.ref b]->H b=U (.lst (ws.map tx))->⇑ws<=1000->(ws.map List.length).sum<=100000->(∀w∈ws,w≠[])->(∀H2,g7 H H2->Q (tx (jl (ir [32] ws))) H2)->sp_MI
inductive sp_MK:SQ K a vs H Q E
 | mk:∀(c:Int)(k:Nat),vs=[.int c,.int k]->1<=k->k<=4->(∀(N:qi)(r:AD)(H2:Hp),g7 H H2->H r=O->H2 r=U (.lst (N.map tx))->⇑N=k->(∀n∈N,rH n=Y)->Q (.ref r) H2)->sp_MK
inductive sp_M8:SQ K a vs H Q E
 | mk:∀(dk p dA:AD)(m:p9)(F:List Kp)(ws:qi),vs=[.ref dk,tx (ir [32] ws)]->iZ a H dk p dA m F->TT a H->⇑F<=900->(∀r∈F,⇑r.ds<=8000)->uH a H p dA m F Q (XT a Q) ws->sp_M8
inductive sp_MM:SQ K a vs H Q E
 | mk:∀(t c g:AD)(ys zs:NU)(rc rg:zC),vs=[.ref t]->H t=U (.tup [.ref c,.ref g])->H c=U (.lst ys)->H g=U (.lst zs)->iL H ys rc->iL H zs rg->yo rc->yo rg->(∀H2,g7 H H2->Q (tx (tch rc rg)) H2)->sp_MM
inductive sp_M0:SQ K a vs H Q E
 | mk:∀(p la da:AD) (l m vb:p9) (ds:List (Bool×Nat)) (us:qi) (c0:Nat),vs=[.ref p,tx vb,tx [c0]]->g8 a.c_MR H p la da l m ds->⇑ds<=8000->TT a H->oF m vb us->c0∈m->(vb=jb->us=[[c0]])->MW a H m vb us p da l ds Q->sp_M0
inductive sp_MU:SQ K a vs H Q E
 | mk:∀(dB:AD)(n u m:p9)(G:List Kp),vs=[.ref dB,tx n,tx u,tx m]->H dB=U (.dK (iC G))->(∀r∈G,r.n≠n)->ig u m->TT a H->⇑G<=1000->(∀(g:Kp)(H2:Hp),g.n=n->g.l=u->g.ds=uB u->Nw H g.p->Nw H g.la->Nw H g.da->qV [dB] H H2->TT a H2->H2 dB=U (.dK (iC (G++[g])))->g8 a.c_MR H2 g.p g.la g.da g.l m g.ds->Q .non H2)->sp_MU
inductive sp_M9:SQ K a vs H Q E
 | mk:∀(dk p dA dB:AD)(m:p9)(F G:List Kp)(X:List AD)(k:Nat)(b:AD)(N:qi)(c:Int),vs=[.ref dk,.ref dB,.ref b,tx m,.int c]->tN a H dk p dA dB m F G X k->k<=500->TT a H->H b=U (.lst (N.map tx))->1<=⇑N->⇑N<=4->(∀n∈N,rH n=Y)->(∀(F2 G2:List Kp)(H2:Hp),tN a H2 dk p dA dB m F2 G2 X (k+1)->Kx X H H2->TT a H2->Q (.bl Y) H2)->sp_M9
inductive sp_M1:SQ K a vs H Q E
 | mk:∀(dk p dA dB:AD)(m:p9)(F G:List Kp)(X:List AD)(k:Nat)(n:p9),vs=[.ref dk,.ref dB,tx n]->tN a H dk p dA dB m F G X k->k<=600->TT a H->rH n=Y->(∀H2,g7 H H2->Q (.bl Y) H2)->sp_M1
inductive sp_NB:SQ K a vs H Q E
 | mk:∀(c:Int),vs=[.int c]->(∀d:Int,Q (.int d) H)->sp_NB
end
def spLaw (K:qj)(tb:Str->AD×AD):Sp:=λd H Q _=>∃(b:AD)(a:List Int),d=[.ref b]/\rl K H b (a.map V.int)/\⇑a<=63/\iO H (tb "in_order").2 lpos lq/\∀c,Q (.bl Y) c
def sz (k:Nat)(h:k<=9000):k<=sizeLine:=qJ h (by rw[sizeLine_eq];decide)
section
local macro_rules | `(tactic| walk_at "r0") => do
 let l<-("lQ k9 Bl Mf lH tC uD gNil K2 tRet tIfS HH tB tNot tAnd LA Mb tOrV Mj KN JV mh LM ZrP ZrM ZrO ZrN JA Ff F5 My Jk G9 tBM0 M5 HY kP lY L2.start cxK bxK cxPr cxWo suxK ZqO ZqN J3 tTry Ls IK IF lW FK Nu HX Eb ZrQ Zpi K7 LG F6 Kt gTup pick Option.bind_some Option.bind_none Option.join_some Option.join_none List.map_cons List.map_nil List.length_cons List.length_nil Nat.zero_add Nat.reduceAdd Nat.reduceSub List.replicate_succ List.replicate_zero List.cons_append List.nil_append List.append_nil List.getElem?_cons_zero List.getElem?_cons_succ List.set_cons_zero List.set_cons_succ q_I q_I0 q_U q_T yA pX mE ZnQ KB Ft nh sFld Lh tAug HN Jo lE IN ND Im tDIn Ny MK Ir JO LL Jt Kb rDct Lk Nr HR tOr2 M8 LV IV".splitOn " ").toArray.mapM λs=>do return Lean.mkIdent (`_root_++((<-Lean.Macro.resolveGlobalName s.toName).head!.1))
 `(tactic| simp only [$[$l:ident],*])
local macro_rules | `(tactic| walk_at "r1") => do
 let some t <-Lean.Macro.expandMacro? (<-`(tactic| walk_at "r0")) | Lean.Macro.throwUnsupported
 match (⟨t⟩:Lean.TSyntax `tactic) with
 | `(tactic| simp only[$l,*])=>let d:=⟨l.elemsAndSeps⟩;`(tactic| dsimp only[$d,*])
 | _=>Lean.Macro.throwUnsupported
def ZlX (h:let T:=By t;lQ s T D σ H):lQ s (By t) D σ H:=h
local macro_rules | `(tactic| walk_at "rd") => `(tactic| ((try (with_reducible refine ZlX ?_; intro)); first | (walk_at "r1"; try walk_at "r0") | walk_at "r0"))
local macro_rules | `(tactic| omega) => `(tactic| walk_at "rd")
abbrev p8 (k:Nat)(l:List Str)(s:Stmt):=g6 l (l.take k) (uc s)
local macro_rules | `(tactic| walk_at "sc") => `(tactic| exact ⟨rfl, rfl, rfl, by decide +kernel, rfl, by decide +kernel, by decide +kernel⟩)
local macro_rules | `(tactic| grind) => `(tactic| walk_at "sc")
local macro_rules | `(tactic| walk_at "rd?") => `(tactic| (try walk_at "rd"))
local macro_rules | `(tactic| walk_at "g") => `(tactic| (refine qH ?_;walk_at "rd"))
local macro_rules | `(tactic| ac_rfl) => `(tactic| walk_at "g")
local macro_rules | `(tactic| walk_at "h") => `(tactic| (show By _ _ _ _;walk_at "g"))
local macro_rules | `(tactic| walk_at "k") => `(tactic| (walk_at "rd?";walk_at "g"))
local macro_rules | `(tactic| walk_at "ln") => `(tactic| (intro _ _ _ _ h; rcases h with ⟨⟩; subst_vars; rfl))
def Zq7:p8 2 ["text","letters"] mj:=by grind
def Zq6:p8 1 ["words"] nM:=by grind
def ZqT:p8 2 ["text","length"] oC:=by grind
def Cr:p8 3 ["shorter","standing","kinds","found","head","letter","word"] oE:=by grind
def ZqR:p8 2 ["text","word"] pK:=by grind
def ZqW:p8 2 ["words","word"] pA:=by grind
def HA:p8 1 ["words","other","one"] pN:=by grind
def D2:p8 1 ["words","stems","word","size"] oW:=by grind
def GC:p8 2 ["stems","text","start"] mL:=by grind
def xy:p8 1 ["ways","sources","left","stem","reached","ended","at"] nJ:=by grind
def C4:p8 2 ["ways","ended","longest","stem","letter","word"] m8:=by grind
def Zrz:p8 1 ["self"] mQ:=by grind
def ZrA:p8 2 ["self","length"] mD:=by grind
def Zrq:p8 1 ["self"] oH:=by grind
def Zrg:p8 3 ["self","text","kinds"] pR:=by grind
def Zrr:p8 1 ["self"] pz:=by grind
def Gg:p8 2 ["verb","many","forms","needed"] oz:=by grind
def HK:p8 1 ["parts","told"] pB:=by grind
def Zdw:p8 2 ["self","name"] Gv:=by grind
def ZeH:p8 2 ["self","name"] Gz:=by grind
def Zry:p8 1 ["self"] oS:=by grind
def Zrx:p8 1 ["self"] nP:=by grind
def Zrf:p8 1 ["self"] nY:=by grind
def ZqQ:p8 2 ["_law_script","_law_k"] m9:=by grind
def Fm:p8 2 ["_law_cell","_law_k","_law_number"] oV:=by grind
def ZqU:p8 1 ["_law_text_here"] nQ:=by grind
def ZqV:p8 1 ["_law_words_here"] py:=by grind
def Zrv:p8 1 ["self"] pP:=by grind
def Zq5:p8 1 ["thing"] pj:=by grind
def Zrk:p8 3 ["thing","kinds","most"] mO:=by grind
def Dr:p8 2 ["words","kinds","stems","ways","stem","onward"] oR:=by grind
def Zrp:p8 2 ["self","length"] pi:=by grind
def Zrh:p8 2 ["one","other"] oq:=by grind
def Zrj:p8 1 ["word"] mG:=by grind
def Zq9:p8 1 ["word"] ph:=by grind
def Hh:p8 2 ["lesser","longer","edges","size"] mH:=by grind
def Zrt:p8 2 ["one","other"] mM:=by grind
def Fz:p8 4 ["self","text","came","went","gone","kept"] om:=by grind
def Zro:p8 2 ["shelf","given"] oY:=by grind
def DY:p8 1 ["_law_cell","_law_letters","_law_step_here","_law_first"] mS:=by grind
def yP:p8 3 ["_law_cell","_law_kinds_here","_law_size","_law_found","_law_left","_law_k","_law_number"] GQ:=by grind
def y9:p8 2 ["_law_cell","_law_many","_law_letters","_law_base","_law_size","_law_at","_law_names_here","_law_k","_law_sign"] oG:=by grind
def Gj:p8 1 ["_law_answer","_law_came","_law_went"] pQ:=by grind
def ZqP:p8 1 ["_law_cell"] mN:=by grind
def Zra:p8 2 ["thing","kinds"] oU:=by grind
def Zri:p8 1 ["thing"] og:=by grind
def Zq8:p8 3 ["thing","kinds","most"] nE:=by grind
def Cd:p8 1 ["self","found","shorter","length","standing"] o4:=by grind
def Zrl:p8 1 ["thing"] mt:=by grind
def Zq4:p8 1 ["word"] oP:=by grind
def Ma:p8 3 ["lesser","longer","reason","word"] mf:=by grind
def B8:p8 4 ["lesser","longer","kinds","reason","found","shorter","told","letter","word"] pJ:=by grind
def Zrs:p8 1 ["change"] on:=by grind
def Zru:p8 2 ["thing","kinds"] pI:=by grind
def Hd:p8 2 ["words","kinds","ahead","word"] nO:=by grind
def ZrI:p8 3 ["self","text","kinds"] mT:=by grind
def Zrm:p8 2 ["word","form"] mi:=by grind
def ZrB:p8 2 ["self","name"] mI:=by grind
def ZrC:p8 2 ["self","kinds"] mU:=by grind
def ZrE:p8 2 ["self","name"] pE:=by grind
def FG:p8 2 ["self","longer","came","went"] nv:=by grind
def Ha:p8 2 ["self","lesser","came","went"] oJ:=by grind
def ZrF:p8 2 ["self","kinds"] pU:=by grind
def GS:p8 1 ["words","given","forms"] pG:=by grind
def Is:p8 2 ["self","name","strip"] mV:=by grind
def Zrb:p8 2 ["self","letter"] o8:=by grind
def ZrD:p8 1 ["self"] oZ:=by grind
def LJ:p8 1 ["self","deed"] nD:=by grind
def JI:p8 3 ["words","kinds","text","word"] mY:=by grind
def Iz:p8 1 ["line","words"] mC:=by grind
def Nl:p8 1 ["self","twin"] mP:=by grind
def ZqY:p8 2 ["shelf","given"] ot:=by grind
def Zrc:p8 3 ["self","name","letter"] mX:=by grind
def ZrG:p8 2 ["self","name"] mR:=by grind
def ZrH:p8 2 ["self","name"] mJ:=by grind
def Zq2:p8 3 ["_law_strip","_law_word","_law_letter"] oo:=by grind
def Kf:p8 4 ["_law_kept","_law_name","_law_text_here","_law_kinds_here","_law_letter"] ml:=by grind
def Zre:p8 2 ["self","kinds"] mZ:=by grind
def Db:p8 2 ["words","kinds","ordered","ways","ended","text"] nj:=by grind
def Zrd:p8 3 ["self","name","strip"] oQ:=by grind
def ZqS:p8 2 ["shelf","given"] pC:=by grind
def ZqZ:p8 2 ["shelf","given"] o9:=by grind
def Zq0:p8 2 ["shelf","given"] oX:=by grind
def Zrw:p8 2 ["self","name"] nV:=by grind
def Zrn:p8 2 ["shelf","given"] oI:=by grind
def EA:p8 2 ["shelf","given","text","strip","letter"] m7:=by grind
def ZqX:p8 2 ["shelf","given"] m6:=by grind
def Zq3:p8 2 ["shelf","given"] oj:=by grind
def FS:p8 2 ["self","line","told","answer"] pH:=by grind
def xj:p8 2 ["_law_desk","_law_line","_law_found","e"] mK:=by grind
def vJ:p8 5 ["_law_desk","_law_kept","_law_names_here","_law_kinds_here","_law_cell","_law_way","_law_name","_law_letter","_law_text_here","_law_word","_law_line","_law_words_here","_law_at","_law_heard"] oO:=by grind
def Zq1:p8 3 ["_law_desk","_law_kept","_law_name"] oN:=by grind
def x5:p8 1 ["_law_script","_law_kinds_here","_law_cell","_law_names_here","_law_desk","_law_kept","_law_letter","_law_k"] FU:=by grind
local macro_rules | `(ql $a $b)=>`(@ql _ _ _ _ _ $a $b) | `(qp $a)=>`(@qp _ _ _ $a) | `(qk $a)=>`(@qk _ _ _ $a) | `(qz $a)=>`(@qz _ _ _ _ $a) | `(uC $a)=>`(@uC _ _ _ _ $a) | `(re $a $b $c $d)=>`(@re _ _ _ _ _ _ _ $a $b $c $d) | `(qB $a $b $c)=>`(@qB _ _ _ _ _ _ _ _ $a $b $c) | `(qZ $a $b $c)=>`(@qZ _ _ _ _ _ _ _ _ $a $b $c) | `(ri $a $b $c $d)=>`(@ri _ _ _ _ _ _ _ _ $a $b $c $d) | `(tF $a $b $c $d)=>`(@tF _ _ _ _ _ _ _ _ $a $b $c $d) | `(qM (i:=$n) $a $b)=>`(@qM _ _ _ $n _ _ _ $a $b (by rfl) (by exact Or.inl rfl) (by rfl) (by first | exact .inl rfl | exact .inr rfl)) | `(qa $a $b)=>`(@qa _ _ _ _ _ $a $b (by rfl)) | `(uu $a $b $c $d $e $f)=>`(@uu _ _ _ _ _ _ _ _ _ _ _ _ $a $b $c $d $e $f (by rfl) (by rfl) (by rfl) (by rfl) (by rfl))
variable (T:TL w K mg base a tb)
include T
def EI:g9 P w K mg base qK 1 a.f_LS a.d_LS ["text","letters"] (sp_LS K a):=by
 calc T.d7.u.ok Zq7 (λn A d s H o Q E r h=>?_);let#[l,m,Z,f,q]:=h;calc#[_,(qk (qz (rq (Km Z) Z T.gU LR (qa (uq (N:=["sign","letters"]) (ix:=[O,U 1]) Z (tU Z) Z (Be (pv 0)) (λ_ _ _ _=>(rp (i:=0) (show (["sign","letters"]:AJ).Nodup from by decide +kernel) Z (Or.inl Z) (Or.inr Z))) (λ_ _ _ _=>uv) (λ_ _ _ _=>(tF ZiS (pv 0) (pv 1) Z))) qc)))),?_];omega;refine#[l,Z,ib.text (λ_=>Y) (λi=>.bl (R (l.getD i 0∈m))) f ?_ ?_ ?_]
 .intro i b g j e c;exact c b (g7.refl _)
 .intro i b g j _ e c;omega;exact#[_,m,Z,Z,c b (g7.refl _)]
 .intro p b e t k;refine#[p,(List.range ⇑l).map (λi=>R (l.getD i 0∈m)),Z,?_,?_]
  .rw[k,i5,rO];rfl
  .rw[kR];calc q b e
def Dz:g9 P w K mg base qK 1 a.f_LT a.d_LT ["words"] (sp_LT K a):=by calc T.dO.u.okC T.cd_LT Zq6 (λA e s H o Q E l h=>?_);let#[p,n,Z,m,j,g,q]:=h;calc#[_,(qk (qz (ZlF (q:="in_order.<locals>.<lambda>") l T.L_in_order Z Z T.eE T.dL (qa (pv 0) qc) Z Z (by kernel_rfl) #[Z,Z,Z,Z,Z,Z] (λ_ _ _ _ _=>.of_eq Z)))),?_];let sz:∀k:Nat,k<=1000->k<=sizeLine:=λk h=>qJ h (by rw[sizeLine_eq];decide);omega;calc#[p,n,Z,m,λw h=>sz _ (j w h),g.1,λf r i a b c d=>q f r i a b c.1 #[d,trivial]]
def ZrZ:g9 P w K mg base qK 1 a.f_MO a.d_MO ["text","length"] (sp_MO K a):=by
 calc T.gq.u.ok ZqT (λM A b s H I Q E C h=>?_);let#[l,n,Z,x,L,u,q]:=h;calc#[_,(qk (qz (rq (Gu Z) Z T.eE Bv (qa (uZ (HE Z) Z T.gR FD (qa (uq (N:=["start","length","text"]) (ix:=[O,U 1,U 0]) Z (tU Z) Z (zA Z T.d5 (qa (qB t7 (qB DN (rq (sk (K:=K) Z) Z T.dL sj (qa (pv 0) qc)) (pv 1)) qr) qc)) (λ_ _ _ _=>(rp (i:=0) (show (["start","length","text"]:AJ).Nodup from by decide +kernel) Z (Or.inl Z) (Or.inr Z))) (λ_ _ _ _=>uv) (λ_ _ _ _=>(tX vm (pv 2) (tM (pv 0)) (tM (qB t7 (pv 0) (pv 1)))))) qc)) qc)))),?_];omega;let sz:⇑l<=sizeLine:=qJ x (by rw[sizeLine_eq];decide);let k:((⇑l:Int)-(n:Nat)+1).toNat=⇑l+1-n:=by lia
 calc#[_,_,Z,tT ∅,_,Z,∅,∅,?_];rw[k];refine ib.rangeA (λi=>tx ((l.drop i).take n)) ∅ ?_ ?_
 .intro i d D F c j;omega;calc#[_,Z,_,Z,l,Z,sz,?_];let v:(0+(i:Int))=((i:Nat):Int):=by lia
  let y:((i:Nat):Int)+(n:Nat)=((i+n:Nat):Int):=by lia
  rw[v,y,Nc];let r:i+n-i=n:=by lia
  rw[r];exact j d (g7.refl _)
 .intro p d c G f;calc#[(List.range (⇑l+1-n)).map (λi=>(l.drop i).take n),by simp;lia,.inr #[p,Z,.mk (by rw[f,rO];rfl)],λt e=>#[t,_,Z,qu,?_,iH.of λg m z o B=>q g m (c.trans ((rm e).trans z)) ((c.trans (rm e)).free o) B]];calc qJ (JL _) ?_;rw[qm,uY,sizeLine_eq]
  lia
def ZrX:g9 P w K mg base qK 1 a.f_MT a.d_MT ["shorter","standing","kinds"] (sp_MT K a):=by
 calc T.gC.u.ok Cr (λA2 A F s H vs Q E hr h=>?_);let⟨y,L,d,g,m,rfl,n,I,aa,W,hw,q⟩:=h;refine⟨_,(ql (qM (i:=3) Cr.nd (uC qc))
  (ql (sW sS Z (tQ (K:=K) Z (pv 0)) (rp (i:=4) Cr.nd Z (Or.inl Z))
  (qk (sW sS Z (Be (pv 2)) (rp (i:=5) Cr.nd Z (Or.inl Z))
  (ql (qM (i:=6) Cr.nd (qB sL (pv 4) (pv 5)))
  (qk (qZ (PW.pt (Bo (ri (ZiT (K:=K) Z) (tX vm (pv 6) (tM qr) uo) (pv 0) Z) (Bs (ri (DJ (K:=K) Z) (pv 6) (pv 1) Z)))) (qk (rR (uu xA zb yz ye (pv 3) (qa (pv 6) qc)))) qY))))))
  (qk (qz (pv 3))))),?_⟩
 omega;refine#[rM _,iH.of λt H1 V N lf=>#[y,Z,#[_,.mk (V _ _ n)],io.list (xs:=d.map tx) (λi σ r=>∃G k l,σ=[U (.ref y),U (.ref L),U (tx m),U (.ref t),G,k,l]/\g7 H r/\r t=U (.lst (((d.take i).flatMap (xP d g m)).map tx))) #[_,_,_,Z,V,lf] (λi σ r _ ⟨_,_,_,_,X,_⟩=>.mk (X _ _ n)) ?_ ?_]]
 .rintro i x σ S u ⟨G,k,l,rfl,D,B⟩;obtain⟨h,M,rfl⟩:∃h,d[i]?=U h/\x=tx h:=by
   rw[se]at u;cases e:d[i]? with
   | none=>rw[e]at u;cases u
   | some h=>rw[e]at u;exact#[h,Z,(Option.some.inj u).symm]
  let ab:=hw h (sC M);let fl:=CA (f:=xP d g m) (b:=4) (λx=>qJ (LX _ _ _ _) W) (d.take i);let tl:⇑(d.take i)<=100:=by rw[rL];lia
  omega;refine#[m,Z,io.text (λj σ r=>∃k l,σ=[U (.ref y),U (.ref L),U (tx m),U (.ref t),U (tx h),k,l]/\g7 H r/\r t=U (.lst (((d.take i).flatMap (xP d g m)++((m.take j).filter (vp d g h)).map (λc=>h++[c])).map tx))) #[_,_,Z,D,~~~B] ?_ ?_]
  .rintro j c σ H3 hc ⟨k,l,rfl,o,p⟩;let fj:=ug (vp d g h) (m.take j);rw[rL]at fj;let fe:(m.take (j+1)).filter (vp d g h)=(m.take j).filter (vp d g h)++if vp d g h c=Y then [c] else []:=by
    rw[Dp hc,x9];congr 1;by_cases z:vp d g h c=Y
    .rw[qg z,List.filter_cons_of_pos z];rfl
    .rw[qe z,List.filter_cons_of_neg z];rfl
   rw[fe];omega;calc#[by rw[sizeLine_eq];lia,_,Z,_,Z,by rw[qP,r6,sizeLine_eq];lia,?_];rw[DR];calc#[y,_,Z,.inl (.mk (o _ _ n)),Z,xM _,?_];rw[qe qO,Bp];by_cases v:(h++[c]).tail∈d
   .rw[NM v];calc iB #[L,_,Z,.inl (.mk (o _ _ I)),Z,xM _,?_];rw[qg Z,Bp];by_cases C:h++[c]∈g
    .let e:¬vp d g h c=Y:=by unfold vp;rw[NM C];simp
     rw[NM C,Bool.not_true,qe e,wH];exact hU #[_,_,Z,o,p]
    .let e:vp d g h c=Y:=by unfold vp;rw[NM v,NN C];rfl
     rw[NN C,Bool.not_false,qg e];calc iB #[.inl #[Z,_,.mk p],t,_,_,Z,Z,p,by rw[qm,qP,qm,sizeLine_eq];lia,_,_,Z,ip o N,?_];rw[qu];simp
   .let e:¬vp d g h c=Y:=by unfold vp;rw[NN v];simp
    rw[NN v,qe e,wH];exact hU (hU #[_,_,Z,o,p])
  .rintro σ H3 ⟨k,l,rfl,o,p⟩;calc#[_,_,_,Z,o,?_];rw[p,Dp M,List.flatMap_append,List.flatMap_singleton,uJ];rfl
 .rintro σ S ⟨G,k,l,rfl,D,B⟩;omega;rw[qm,uJ]at B;calc q t S D N B
def ZrV:g9 P w K mg base qK 1 a.f_MX a.d_MX ["text","word"] (sp_MX K a):=by
 calc T.gD.u.ok ZqR (λi A d s H j Q E k h=>?_);let#[l,x,Z,g,f,q]:=h;calc#[_,(qk (qz (xW (tF Ih (pv 1) (pv 0) Z) (xW (tF E9 (tX vm (pv 1) (tM qr) uo) (pv 0) Z) (xQ (tF E9 (tX vm (pv 1) uo (tM (Du C1 qr))) (pv 0) Z)))))),?_];omega;let e:⇑x<=sizeLine:=qJ f (by rw[sizeLine_eq];decide);unfold CV at q;refine#[x,l,Z,Z,i9 (λc=>#[_,Z,x,Z,e,_,l,Z,Z,i9 (λb=>#[_,Z,x,Z,e,_,l,Z,Z,?_]) (λb=>?_)]) (λc=>?_)]
 .rw[DR]at b;rw[Ik];rw[c,b,yh,yh]at q;exact q
 .rw[DR]at b;rw[c,yI.mpr b,vZ,yX]at q;exact q
 .rw[yI.mpr c,vZ]at q;calc q
def K9:g9 P w K mg base qK 1 a.f_MF a.d_MF ["words","word"] (sp_MF K a):=by
 calc T.fZ.u.ok ZqW (λC A f s H z Q E r h=>?_);let#[b,c,w_,Z,k,B,v,q]:=h;calc#[_,(qk (qz (Zps (rq (Zk8 Z) Z T.gY ZqD (qa (uq (N:=["piece","word"]) (ix:=[O,U 1]) Z (tU Z) Z (tQ (K:=K) Z (pv 0)) (λ_ _ _ _=>(rp (i:=0) (show (["piece","word"]:AJ).Nodup from by decide +kernel) Z (Or.inl Z) (Or.inr Z))) (λ_ _ _ _=>uv) (λ_ _ _ _=>(tF E9 (pv 0) (pv 1) Z))) qc))))),?_];omega;refine#[b,Z,#[_,.mk k],ib.listM (xs:=c.map tx) (λ_=>Y) (λi=>.bl (jk (c.getD i []) w_)) (by rw[qm];lia) (.mk k) (λi o t _ _ q=>q o (g7.refl _)) ?_ ?_]
 .intro i g u d _ l m;rw[qm]at d;rw[ze d];omega;exact#[_,w_,Z,Z,m g (g7.refl _)]
 .intro p g l y j;rw[i5,qm]at j;refine#[p,c.map λp=>jk p w_,Z,?_,?_]
  .rw[j,rO];congr 2;apply vO {};intro i x n;let d:i<⇑c:=by simpa using n
   simp[sw,rD d]
  .let e:(c.map λp=>jk p w_).any id=c.any λp=>jk p w_:=by rw[List.any_map];rfl
   rw[e];calc q g l
def Zsg:g9 P w K mg base qK 1 a.f_LV a.d_LV ["words"] (sp_LV K a):=by
 calc T.fM.u.ok HA (λW A o s H S Q E D h=>?_);let I:=D.units;let⟨b,v,l,m,rfl,g,V,F,q⟩:=h;refine⟨_,(qk (sW sS Z (tQ (K:=K) Z (pv 0)) (rp (i:=1) HA.nd Z (Or.inl Z))
  (qk (sW sS Z (tQ (K:=K) Z (pv 0)) (rp (i:=2) HA.nd Z (Or.inl Z))
  (qk (qZ (PW.pt (Bo (ri (zx (K:=K) Z I) (pv 2) (pv 1) (qT _)) (Bs (ri E9 (pv 2) (pv 1) Z)))) (qk wD) qY)))))),?_⟩
 omega;refine#[b,Z,#[_,.mk g],io.list (xs:=v.map tx) (λi σ d=>∃t c,σ=[U (.ref b),t,c]/\g7 H d) #[_,_,Z,g7.refl _] (λi σ d _ ⟨_,_,_,p⟩=>.mk (p _ _ g)) ?_ ?_]
 .rintro i x σ u B ⟨t,c,rfl,n⟩;let#[y,G,Z]:=zZ B;omega;refine#[b,Z,#[_,.mk (n _ _ g)],io.list (xs:=v.map tx) (λj σ d=>∃c,σ=[U (.ref b),U (tx y),c]/\g7 H d) #[_,Z,n] (λi σ d _ ⟨_,_,p⟩=>.mk (p _ _ g)) ?_ ?_]
  .rintro j x σ M r ⟨c,rfl,f⟩;let#[z,C,Z]:=zZ r;omega;calc ZpZ λk N=>(i9 (λe=>#[z,y,Z,Z,i9 (λL=>?_) (λ_=>#[_,Z,f])]) (λ_=>hU #[_,Z,f]));exact N e (F.anti z (sC C) y (sC G) (zH.mp L))
  .rintro σ M ⟨c,rfl,f⟩;exact#[_,_,Z,f]
 .rintro σ u ⟨t,c,rfl,n⟩;calc q u n
def Zsa:g9 P w K mg base qK 1 a.f_M2 a.d_M2 ["words"] (sp_M2 K a):=by
 calc T.gE.u.ok D2 (λA2 A t s H vs Q E S h=>?_);let y:=u7 S;let⟨b,f,rfl,G,hn,o,q⟩:=h;refine⟨_,(ql (qM (i:=1) D2.nd (ZnW (ZlD (qF (l:=[]) nofun) vM ZnT) Z Z {} ⋯))
  (ql (sW sS Z (tQ (K:=K) Z (pv 0)) (rp (i:=2) D2.nd Z (Or.inl Z))
  (qk (sW sS Z (En Z T.d5 (qa qr (qa (rq (sk (K:=K) Z) Z T.dL sj (qa (pv 2) qc)) qc))) (rp (i:=3) D2.nd Z (Or.inl Z))
  (qk (yu y (pv 1) (tX vm (pv 2) uo (tM (pv 3))) vM Z)))))
  (qk (qz (pv 1))))),?_⟩
 omega;intro p r;let m:g7 H (upd (upd H p (.dK [])) p (.dK (uM [] [(qf [],.bl Y)]))):=Fc r;let z:upd (upd H p (.dK [])) p (.dK (uM [] [(qf [],.bl Y)])) p=U (.dK (uM [] [(qf [],.bl Y)])):=qu;calc#[qu,[(qf [],.bl Y)],Z,by show (1:Nat)<=15;decide,b,Z,#[_,.mk (m _ _ G)],?_];let F:iW f 0 0 (uM [] [(qf [],.bl Y)]):=iW.start f;let N:⇑(uM [] [(qf [],.bl Y)])<=1:=EF _ _;generalize uM [] [(qf [],.bl Y)]=kv0 at m z F N;generalize upd (upd H p (.dK [])) p (.dK kv0)=H1 at m z;refine io.list (xs:=f.map tx) (Ki H b p f) #[_,_,_,Z,m,z,F,∅] (λi σ H' _ hh=>by let#[_,_,_,_,V,_]:=hh;calc .mk (V _ _ G)) ?_ ?_
 .rintro i x σ L M ⟨X,D,c,rfl,n,B,g,I⟩;let#[d,e,Z]:=zZ M;let aa:=o d (sC e);let hi:=(rY.mp e).1;omega;calc#[_,_,Z,tT ∅,_,_,Z,#[∅,∅,∅,∅],?_];refine io.range (KF H b p f d i) #[_,_,Z,n,B,g.one e,∅] ?_ ?_
  .rintro j σ H3 hj ⟨D,c,rfl,C,u,v,n3⟩;let e1:(1+(j:Int))=((1+j:Nat):Int):=by lia
   let W:j<=41:=by lia
   omega;calc#[_,Z,d,Z,sz _ ∅,?_];rw[e1,CK];refine#[p,_,Z,jy.k (k:=qf (d.take (1+j))) u (sK (show _<9000 by lia) (sz 9000 (qG _))),_,_,Z,ip C r,qu,?_,?_]
   .have:=v.put e (show 1+j<⇑d by lia);rw[show 1+(j+1)=1+j+1 by lia];exact this
   .have:=xq c (qf (d.take (1+j))) (.bl Y)
    lia
  .rintro σ H3 ⟨D,c,rfl,C,u,v,n3⟩;exact#[_,_,_,Z,C,u,v.next e ∅,∅]
 .rintro σ L ⟨X,D,c,rfl,n,B,g,I⟩;omega;rw[qm]at g I;calc q p c L n r B (g.done ∅)
def Zr2:g9 P w K mg base qK 1 a.f_MG a.d_MG ["stems","text"] (sp_MG K a):=by
 calc T.gt.u.ok GC (λS A f s H N Q E y h=>?_);let g:=u7 y;let⟨p,b,r,u,rfl,B,x,o,q⟩:=h;refine⟨_,(ql (qM (i:=2) GC.nd qr)
  (ql (Ln sS (yF (Ei g (tX vm (pv 1) (tM (pv 2)) uo) (pv 0)))
  (qk (Il (i:=2) GC.nd Z (Or.inl Z) qr IS)))
  (qk (qz (tX vm (pv 1) (tM (pv 2)) uo))))),?_⟩
 let sz:∀k:Nat,k<=1000->k<=sizeLine:=λk h=>qJ h (by rw[sizeLine_eq];decide);omega;refine js.by (λσ v=>∃d:Nat,σ=[U (.ref p),U (tx u),U (.int d)]/\g7 H v/\d<=⇑u/\∀j,j<d->¬jm r (u.drop j)) (λσ v=>match σ with | [_,_,some (.int d)]=>⇑u-d.toNat | _=>0) #[0,Z,g7.refl _,rM _,λj h=>by lia] ?_
 rintro σ D ⟨d,rfl,l,I,n⟩;refine#[!(hW b (qf (u.drop d))).isSome,λL C=>?_,λG m=>?_]
 .omega;calc#[_,Z,u,Z,sz _ o,?_];rw[yQ];exact#[p,_,Z,.inl #[b,qf (u.drop d),B.same l,Z,Z],C D (g7.refl _)]
 .cases e:(hW b (qf (u.drop d))).isSome with
  | true=>
   calc hU ?_;omega;calc#[_,Z,u,Z,sz _ o,?_];rw[yQ];exact q _ G (l.trans m) #[d,I,Z,(x.iff _).mp e,n]
  | false=>
   calc iB ?_;let t:¬jm r (u.drop d):=λz=>by rw[(x.iff _).mpr z]at e;cases e
   let F:d<⇑u:=by
    by_cases c:d<⇑u
    .exact c
    .exact NR (.inl (xJ ∅)) t
   omega;refine#[_,_,Z,Z,#[d+1,Z,l.trans m,F,λj M=>?_],?_]
   .by_cases c:j=d
    .subst c;exact t
    .exact n j ∅
   .show ⇑u-((d:Int)+1).toNat<⇑u-(d:Int).toNat
    lia
def ZrW:g9 P w K mg base qK 1 a.f_MV a.d_MV ["ways"] (sp_MV K a):=by
 calc T.gF.u.ok xy (λA2 A a2 s H vs Q E hr h=>?_);let A5:=hr.units;let aa:=u7 hr;let⟨p,B,ws,ss,l,m,rfl,hp,wl,sl,ok,lk,q⟩:=h;refine⟨_,(ql (qM (i:=1) xy.nd yV)
  (qp (ql (vX (i:=2) xy.nd Z (Or.inr Z) yV)
  (ql (Dq (sW sS Z (Ew (pv 0)) (rp (i:=3) xy.nd Z (Or.inl Z))
  (qp (ql (yu aa (pv 2) (pv 3) (rq Zk7 Z T.dL sj (qa (uw aa (pv 0) (pv 3) (λ_ _=>rfl)) qc)) Z)
  (qk (Dq (sW sS Z (Zj0 (uw aa (pv 0) (pv 3) (λ_ _=>rfl))) (rp (i:=4) xy.nd Z (Or.inl Z))
  (qp (qk (rR (uu xA zb yz ye (ZeL (pv 1) (pv 4) (uC qc) #[Z,Z,Z,Z]) (qa (pv 3) qc))))))))))))
  (ql (Dq (Hu (i:=5) (N:=["stem","left"]) (ix:=[O,U 2]) Z xy.nd Z Z Z (tU Z) Z (Ew (pv 0)) (λ_ _ _ _=>(rp (i:=0) (show (["stem","left"]:AJ).Nodup from by decide +kernel) Z (Or.inl Z) (Or.inr Z))) (λ_ _ _ _=>(EU (ri (rE (K:=K) Z A5) (uw aa (pv 1) (pv 0) (λ_ _=>rfl)) qr (qT _)))) (λ_ _ _ _=>(pv 0))))
  (qp (ql (qM (i:=6) xy.nd qr)
  (qp (ql (Ln sS (ri CD (pv 6) (rq (sk (K:=K) Z) Z T.dL sj (qa (pv 5) qc)) (qT _))
  (ql (qM (i:=4) xy.nd (re (sQ (K:=K) Z) (pv 5) (pv 6) (λ_ _=>rfl)))
  (qp (ql (sW sS Z (tQ (K:=K) Z (ZlG aa (pv 1) (pv 4) (uC qc) #[Z,Z,Z,Z])) (rp (i:=3) xy.nd Z (Or.inl Z))
  (ql (ZnS aa (pv 2) (pv 3) qr Zql (λ_ _ _=>rfl))
  (qp (qk (qZ (ri (rE (K:=K) Z A5) (uw aa (pv 2) (pv 3) (λ_ _=>rfl)) qr (qT _)) (qp (qk (rR (uu xA zb yz ye (pv 5) (qa (pv 3) qc))))) qY)))))
  (qp (qk (Il (i:=6) xy.nd Z (Or.inl Z) qr IS)))))))
  (qk (qz (pv 5)))))))))))),?_⟩
 let sz:∀k:Nat,k<=100000->k<=sizeLine:=λk h=>qJ h (by rw[sizeLine_eq];decide);let m4:=ok.m4;let bg:=sl.len;omega;intro pS nS;let s1:g7 H (upd H pS (.dK [])):=rm nS;let l1:upd H pS (.dK []) pS=U (.dK []):=qu;generalize upd H pS (.dK [])=H1 at s1 l1;ac_rfl;intro pL nL;let s2:g7 H1 (upd H1 pL (.dK [])):=rm nL;let l2:upd H1 pL (.dK []) pL=U (.dK []):=qu;let aj:H pL=O:=s1.free nL;let ar:pS≠pL:=qN l1 nL;generalize upd H1 pL (.dK [])=H2 at s2 l2;let aE:=s1.trans s2;let av:p≠pS:=qN hp nS;let am:p≠pL:=qN hp aj;let aL:=aE _ _ hp;refine#[p,B,aL,p,B,Z,aL,λo=>io.dict (KU H p pS pL o B ws ss m) #[_,_,[],[],Z,?_,qu,?_,?_,?_,?_,?_] (λi σ H' hh=>by let#[_,_,_,_,_,_,h,_]:=hh;calc h) ?_ ?_]
 .exact(ZrJ aE).updX
 .rw[qh (qy av)];exact s2 _ _ l1
 .rw[xY];exact#[λr _=>rfl,λr v h=>(by cases h),λr r' a h=>(by cases h),rM _]
 .rw[qh (qy am)];exact l2
 .rw[xY];exact λs h=>(by cases h)
 .exact qG _
 .rintro i kv σ W C ⟨v3,v4,M,g,rfl,s3,f3,h3,sr,an,la,nk⟩;let il:=(rY.mp C).1;let bk:i<⇑ss:=by rw[<-wl.1];exact il
  obtain⟨u,hu⟩:∃u,ss[i]?=U u:=#[_,rD (by rw[<-wl.1];calc il)];let#[au,G,na,ae]:=wl.2 i u hu;rw[C]at G;cases G;rw[Dn];omega;ac_rfl;let mu:u∈ss:=sC hu;let v3:hW B (qf u)=U (.ref au):=E3 (by rw[wl.keys];calc Do sl.nd λx _ y _ e=>tZ e) C;let az:W au=U (.dK ((sE ws m u).map jf)):=s3 _ _ na ae;let ag:au≠pS:=qN ae nS;let ah:au≠pL:=qN ae aj;let aB:ss.take (i+1)=ss.take i++[u]:=z5 hu;let bj:u∉ss.take i:=B7 sl.nd hu;calc#[p,.ref au,Z,.inl #[B,qf u,.inr #[o,f3],Z,v3.symm],au,_,Z,az,pL,_,Z,jy.k (k:=qf u) an (sK (show _<100000 by lia) (sz 100000 (qG _))),?_];let lo:⇑((sE ws m u).map jf)=⇑(iE ws m u):=by unfold iE;rw[qm,qm]
  rw[lo];let aI:CS (ii g (qf u) (.int (⇑(iE ws m u):Nat))) (ss.take (i+1)) (λs=>⇑(iE ws m s)):=λs hs=>by
   rw[uT];by_cases e:s=u
   .rw[qg (by rw[e]),e]
   .rw[qe (λz=>e (tZ z))];rw[aB]at hs;rcases rJ.mp hs with z | z
    .exact la s z
    .exact NR (qR.mp z) e
  let aQ:⇑(ii g (qf u) (.int (⇑(iE ws m u):Nat)))<=i+1:=by
   have:=xq g (qf u) (.int (⇑(iE ws m u):Nat))
   lia
  let s4:iY p H (upd W pL (.dK (ii g (qf u) (.int (⇑(iE ws m u):Nat))))):=s3.updN aj;let p4:upd W pL (.dK (ii g (qf u) (.int (⇑(iE ws m u):Nat)))) p=U (.frz o (.dK B)):=by rw[qh am];exact f3
  let S4:upd W pL (.dK (ii g (qf u) (.int (⇑(iE ws m u):Nat)))) pS=U (.dK M):=by rw[qh ar];exact h3
  let L4:upd W pL (.dK (ii g (qf u) (.int (⇑(iE ws m u):Nat)))) pL=U (.dK (ii g (qf u) (.int (⇑(iE ws m u):Nat)))):=qu;let ad:iU H (upd W pL (.dK (ii g (qf u) (.int (⇑(iE ws m u):Nat))))) pS pL M (edges ws m (ss.take i)):=sr.keep λD xs e=>by
   let n':D≠pL:=λz=>by rw[z,an]at e;cases e
   rw[qh n'];exact e
  let a4:upd W pL (.dK (ii g (qf u) (.int (⇑(iE ws m u):Nat)))) au=U (.dK ((sE ws m u).map jf)):=by rw[qh ah];exact az
  generalize upd W pL (.dK (ii g (qf u) (.int (⇑(iE ws m u):Nat))))=H4 at s4 p4 S4 L4 ad a4;generalize ii g (qf u) (.int (⇑(iE ws m u):Nat))=kL4 at aI aQ L4;refine#[au,_,a4,p,.ref au,Z,.inl #[B,qf u,.inr #[o,p4],Z,v3.symm],au,_,Z,a4,λo1=>Zol (KY H p pS pL au o o1 B kL4 ws ss m u i) #[_,M,Z,?_,?_,qu,?_,?_,?_] (λj σ H' hh=>by let#[_,_,_,_,_,h,_]:=hh;calc h) ?_ ?_]
  .intro b x n1 n2 e;rw[qh n2];exact s4 b x n1 e
  .rw[qh (qy na)];exact p4
  .rw[qh (qy ag)];exact S4
  .rw[xY,zR,wH];exact ad.keep λD xs e=>by
    let n':D≠au:=λz=>by rw[z,a4]at e;cases e
    rw[qh n'];exact e
  .rw[qh (qy ah)];exact L4
  .rintro j kv σ H5 I ⟨v4,L,rfl,s5,p5,a5,S5,X,L5⟩;obtain⟨x,hx,rfl⟩:∃x,(sE ws m u)[j]?=U x/\kv=jf x:=by
    rw[se]at I;cases e:(sE ws m u)[j]? with
    | none=>rw[e]at I;cases I
    | some x=>rw[e]at I;cases I;exact#[x,Z,Z]
   let hr:(iE ws m u)[j]?=U x.2:=by unfold iE;rw[se,hx];rfl
   show uD 4 (tx x.2) _ _ _;generalize x.2=r at hr;omega;ac_rfl;let a9:⇑L<100000:=by
    have:=X.len;let e1:=ML (ws:=ws) (m:=m) (ss:=ss.take i) m4 (by rw[rL];lia);rw[qP,qm,rL]at this;let e2:⇑(iE ws m u)<=4:=by unfold iE sE iX;rw[qm,qm];exact qJ (ug _ _) m4
    lia
   let tj:((iE ws m u).take (j+1)).map (λr=>(r,u))=((iE ws m u).take j).map (λr=>(r,u))++[(r,u)]:=by rw[z5 hr,sJ];rfl
   refine#[pS,Z,.inl #[L,.inl S5],rM _,iH.of λz H6 s6 nz z6=>#[L,qf r,s6 _ _ S5,Z,sK a9 (sz 100000 (qG _)),λv hv=>?_,λhv=>?_]]
   .obtain⟨D,rfl,aw,bb,a3,ha⟩:=X.yes r v hv;let aG:=s6 _ _ ha;let a6:=(X.keep (H'':=H6) λa xs e=>s6 _ _ e).old (s:=u) hv;refine#[.inl #[Z,_,.mk aG],D,_,tx u,Z,Z,aG,?_,_,L,Z,?_,?_,?_,?_,?_,?_]
    .rw[qm];let e0:=ZjH (edges ws m (ss.take i)++((iE ws m u).take j).map λr=>(r,u)) r;let e1:=ML (ws:=ws) (m:=m) (ss:=ss.take i) m4 (by rw[rL];lia);let e2:⇑(iE ws m u)<=4:=by unfold iE sE iX;rw[qm,qm];exact qJ (ug _ _) m4
     rw[qP,qm,rL]at e0;exact sK (show _<100000 by lia) (sz 100000 (qG _))
    .intro b x n1 n2 e;rw[qh (qN e aw)];exact s6 _ _ (s5 b x n1 n2 e)
    .rw[qh (qN hp aw)];exact s6 _ _ p5
    .rw[qh (qN ae aw)];exact s6 _ _ a5
    .rw[qh (qy bb)];exact s6 _ _ S5
    .rw[tj,<-tD];exact a6
    .rw[qh (qy a3)];exact s6 _ _ L5
   .let ay:pS≠z:=qN S5 nz;let aS:pL≠z:=qN L5 nz;let aD:p≠z:=qN p5 nz;let aC:au≠z:=qN a5 nz;let aK:H z=O:=by
     cases e:H z with
     | none=>rfl
     | some x=>rw[s5 z x (qy aD) (qy aC) e]at nz;cases nz
    let z7:upd H6 pS (.dK (ii L (qf r) (.ref z))) z=U (.lst []):=by rw[qh (qy ay)];exact z6
    refine#[.inl #[Z,_,.mk z7],z,[],tx u,Z,Z,z7,sz 1 ⋯,_,ii L (qf r) (.ref z),Z,?_,?_,?_,?_,?_,?_]
    .intro b x n1 n2 e;rw[qh (qN e aK),qh (qN e nS)];exact s6 _ _ (s5 b x n1 n2 e)
    .rw[qh aD,qh av];exact s6 _ _ p5
    .rw[qh aC,qh ag];exact s6 _ _ a5
    .rw[qh ay,qu]
    .rw[tj,<-tD];calc X.new hv aK nz (qy ay) (qy aS) (λa xs n e=>?_) qu;let e6:=s6 _ _ e;let be:a≠pS:=λz=>by rw[z,S5]at e;cases e
     rw[qh n,qh be];exact e6
    .rw[qh aS,qh (qy ar)];exact s6 _ _ L5
  .rintro σ H5 ⟨v4,L,rfl,s5,p5,a5,S5,X,L5⟩;let ba:⇑((sE ws m u).map jf)=⇑(iE ws m u):=lo;rw[ba,uJ,<-Zjb,<-aB]at X;refine#[o1,_,a5,_,_,L,kL4,Z,?_,?_,?_,?_,?_,aI,aQ]
   .intro b x n e;by_cases c:b=au
    .subst c;rw[ae]at e;cases e;rw[qu]
    .rw[qh c];exact s5 b x n c e
   .rw[qh (qy na)];exact p5
   .rw[qh (qy ag)];exact S5
   .exact X.keep λD xs e=>by
     let n':D≠au:=λz=>by rw[z,a5]at e;cases e
     rw[qh n'];exact e
   .rw[qh (qy ah)];exact L5
 .rintro σ W ⟨v3,v4,M,g,rfl,s3,f3,h3,sr,an,la,nk⟩;rw[wl.1,uJ]at sr la;calc#[o,B,f3,?_];omega;let s4:g7 H (upd W p (.dK B)):=s3.updX.same hp qu;let S4:upd W p (.dK B) pS=U (.dK M):=by rw[qh (qy av)];exact h3
  let L4:upd W p (.dK B) pL=U (.dK g):=by rw[qh (qy am)];exact an
  let ad:iU H (upd W p (.dK B)) pS pL M (edges ws m ss):=sr.keep λD xs e=>by
   let n':D≠p:=λz=>by rw[z,f3]at e;cases e
   rw[qh n'];exact e
  let p4:upd W p (.dK B) p=U (.dK B):=qu;generalize upd W p (.dK B)=H4 at s4 S4 L4 ad p4;refine#[p,B,p4,p,B,Z,p4,λo2=>ib.keys (λi=>R (⇑(iE ws m (ss.getD i []))=0)) (λi=>tx (ss.getD i [])) (by rw[wl.1];lia) qu ?_ ?_ ?_]
  .intro i kv H5 Q5 C s5 q5;let il:=(rY.mp C).1;obtain⟨u,hu⟩:∃u,ss[i]?=U u:=#[_,rD (by rw[<-wl.1];calc il)];let#[au,G,_]:=wl.2 i u hu;rw[C]at G;cases G;let gd:ss.getD i []=u:=by rw[sw,hu];rfl
   rw[gd]at q5;let L5:H5 pL=U (.dK g):=s5 _ _ (by rw[qh (qy am)];calc L4);rw[Dn];omega;refine#[pL,_,Z,.inl #[g,qf u,.inl L5,Z,(la u (sC hu)).symm],Nk (q5 H5 (g7.refl _))]
  .intro i kv H5 Q5 C _ s5 q5;let il:=(rY.mp C).1;obtain⟨u,hu⟩:∃u,ss[i]?=U u:=#[_,rD (by rw[<-wl.1];calc il)];let#[au,G,_]:=wl.2 i u hu;rw[C]at G;cases G;let gd:ss.getD i []=u:=by rw[sw,hu];rfl
   rw[gd]at q5;rw[Dn];omega;exact q5 H5 (g7.refl _)
  .intro pe H5 s5 n5 l5;rw[wl.1,ZkQ [] (λs=>R (⇑(iE ws m s)=0)) tx ss]at l5;let aH:pe≠p:=λz=>by rw[z,qu]at n5;cases n5
   let n4:H4 pe=O:=by rw[qh aH]at n5;exact n5
   let nH:H pe=O:=s4.free n4;let aF:pS≠pe:=qN S4 n4;let ao:pL≠pe:=qN L4 n4;let ab:∀r a,hW M (qf r)=U (.ref a)->a≠pe:=λr a hv=>by let#[D,e,_,_,_,ha]:=ad.yes r _ hv;cases e;exact qN ha n4
   calc#[o2,B,s5 _ _ qu,?_];let ai:g7 H4 (upd H5 p (.dK B)):=g7.thaw p4 s5;let aP:upd H5 p (.dK B) pe=U (.lst ((ss.filter λs=>R (⇑(iE ws m s)=0)).map tx)):=by rw[qh aH];exact l5
   generalize upd H5 p (.dK B)=H6 at ai aP;omega;ac_rfl;ac_rfl;let a1:⇑g<=8201:=by rw[wl.1]at nk;lia
   refine js.by (NH H p pS pL pe M ws ss m) (λσ _=>match σ with | [_,_,_,_,_,_,some (.int n)]=>⇑ss-n.toNat | _=>0) #[_,_,0,_,λs=>⇑(iE ws m s),g,Z,s4.trans ai,ai _ _ S4,ad.keep λa xs e=>ai _ _ e,ai _ _ L4,la,a1,aP,KI.start sl.nd λs _=>rfl] ?_
   rintro σ H7 ⟨v3,v4,n,F,f,g,rfl,s7,S7,bc,L7,aX,bd,e7,ki⟩;let bi:⇑F<=⇑ss:=Ez F ss ki.nd ki.sub;refine#[R (n<⇑F),λQ' hq=>?_,λH8 s8=>?_]
   .omega;calc#[_,_,Z,.inl #[_,.mk e7,Z],?_];rw[qm];let e:R ((n:Int)<((⇑F:Nat):Int))=R (n<⇑F):=by rw[decide_eq_decide];lia
    rw[e];exact hq H7 (g7.refl _)
   .by_cases c:n<⇑F
    .rw[NM c];calc iB ?_;omega;obtain⟨r,hr⟩:∃r,F[n]?=U r:=#[_,rD c];calc#[pe,F.map tx,n,tx r,Z,Z,.mk (s8 _ _ e7),wJ (by rw[se,hr];rfl),?_];walk_at "h";let bm:=s7.trans s8;calc#[pS,Z,.inl #[M,.inl (s8 _ _ S7)],rM _,iH.of λz H9 s9 nz z9=>#[_,.inl #[M,qf r,.inl (s9 _ _ (s8 _ _ S7)),Z,Z],?_]];let af:=s8.trans s9;let L9:=af _ _ L7;let e9:=af _ _ e7;let as:iU H H9 pS pL M (edges ws m ss):=bc.keep λa xs e=>af _ _ e;obtain⟨al,bf,aN,aV,aW⟩:∃al,((hW M (qf r)).getD (.ref z))=.ref al/\H9 al=U (.lst ((iF (edges ws m ss) r).map tx))/\al≠pL/\al≠pe:=by
      cases hv:hW M (qf r) with
      | none=>
       calc#[z,Z,?_,qy (qN (s8 _ _ L7) nz),qy (qN (s8 _ _ e7) nz)];rw[as.no r hv];exact z9
      | some v=>
       let#[D,Z,h1,h2,h3,h4]:=as.yes r v hv;exact#[D,Z,h4,h3,ab r D hv]
     rw[bf];let a8:=s7.trans af;let kj:=ki.enter (S:=iF (edges ws m ss) r) hr (λs hs=>II sl.nd hs);refine#[al,Z,#[_,.mk aN],io.list (xs:=(iF (edges ws m ss) r).map tx) (Ll H p pS pL pe al M ws ss m n r) #[_,F,f,g,Z,a8,aN,af _ _ S7,as,L9,aX,bd,e9,kj] (λj σ H' _ hh=>by let#[_,_,_,_,_,_,h,_]:=hh;calc .mk h) ?_ ?_]
     .rintro j x σ G1 hx ⟨v3,F,f,g,rfl,g1,aT,S1,ax,L1,ak,aq,e1,kj⟩;let#[d,hs,Z]:=zZ hx;let ms:d∈ss:=Iv (sC hs);let fp:=kj.pos hs ms;let vs:=ak d ms;omega;calc#[pL,_,Z,.inl #[g,qf d,.inl L1,Z,vs.symm],_,_,Z,Z,_,jy.k (k:=qf d) L1 (sK (show _<100000 by lia) (sz 100000 (qG _))),?_];let fe:((f d:Nat):Int)-1=((f d-1:Nat):Int):=by lia
      rw[fe];let g2:g7 H (upd G1 pL (.dK (ii g (qf d) (.int ((f d-1:Nat):Int))))):=ip g1 aj;let ap:upd G1 pL (.dK (ii g (qf d) (.int ((f d-1:Nat):Int)))) al=U (.lst ((iF (edges ws m ss) r).map tx)):=by rw[qh aV];exact aT
      let S2:upd G1 pL (.dK (ii g (qf d) (.int ((f d-1:Nat):Int)))) pS=U (.dK M):=by rw[qh ar];exact S1
      let ac:iU H (upd G1 pL (.dK (ii g (qf d) (.int ((f d-1:Nat):Int))))) pS pL M (edges ws m ss):=ax.keep λD xs e=>by
       let n':D≠pL:=λz=>by rw[z,L1]at e;cases e
       rw[qh n'];exact e
      let L2:upd G1 pL (.dK (ii g (qf d) (.int ((f d-1:Nat):Int)))) pL=U (.dK (ii g (qf d) (.int ((f d-1:Nat):Int)))):=qu;let e2:upd G1 pL (.dK (ii g (qf d) (.int ((f d-1:Nat):Int)))) pe=U (.lst (F.map tx)):=by rw[qh (qy ao)];exact e1
      generalize upd G1 pL (.dK (ii g (qf d) (.int ((f d-1:Nat):Int))))=G2 at g2 ap S2 ac L2 e2;let aA:⇑(ii g (qf d) (.int ((f d-1:Nat):Int)))<=8201:=by rw[KP vs];exact aq
      let#[k0,k1]:=kj.next hs ms (λt=>if t=d then f d-1 else f t) (λt=>rfl)
      let gs:(if d=d then f d-1 else f d)=f d-1:=qg Z;let aM:CS (ii g (qf d) (.int ((f d-1:Nat):Int))) ss (λt=>if t=d then f d-1 else f t):=λt ht=>by
       show _=U (V.int ((if t=d then f d-1 else f t:Nat):Int));rw[uT];by_cases e:t=d
       .rw[qg (by rw[e]),qg e]
       .rw[qe (λz=>e (tZ z)),qe e];exact ak t ht
      let v2:hW (ii g (qf d) (.int ((f d-1:Nat):Int))) (qf d)=U (.int ((f d-1:Nat):Int)):=by rw[uT,qg Z]
      ac_rfl;refine#[pL,_,Z,.inl #[_,qf d,.inl L2,Z,v2.symm],Nk (i9 (λh0=>qH ?_) (λh0=>?_))]
      .let z0:f d-1=0:=NO h0;let a0:=k0 (gs.trans z0);let bh:=Ez F ss kj.nd kj.sub;omega;calc#[.inl #[Z,_,.mk e2],pe,_,_,Z,Z,e2,by rw[qm];calc sK (show _<100000 by lia) (sz 100000 (qG _)),_,F++[d],_,_,Z,ip g2 nH,by rw[qh aW];calc ap,by rw[qh aF];calc S2,?_,by rw[qh ao];calc L2,aM,aA,by rw[qu,sJ];rfl,a0];calc#[ac.no,λr v hv=>?_,ac.inj,ac.len];let#[D,Z,h1,h2,h3,h4]:=ac.yes r v hv;exact#[D,Z,h1,h2,h3,by rw[qh (ab r D hv)];calc h4]
      .let z0:f d-1≠0:=λz=>h0 (NM z);exact#[_,F,_,_,Z,g2,ap,S2,ac,L2,aM,aA,e2,k1 (by rw[gs];calc z0)]
     .rintro σ G1 ⟨v3,F,f,g,rfl,g1,aT,S1,ax,L1,ak,aq,e1,kj⟩;rw[qm]at kj;let a7:=kj.leave;ac_rfl;calc#[_,Z,_,_,Z,Z,#[_,_,n+1,F,f,g,Z,g1,S1,ax,L1,ak,aq,e1,a7],?_];show ⇑ss-((n:Int)+1).toNat<⇑ss-(n:Int).toNat
      lia
    .rw[NN c];calc hU ?_;omega;let en:n=⇑F:=by have:=ki.le;lia
     subst en;calc q pe F H8 (s7.trans s8) nH (s8 _ _ e7) (Zor ok lk sl ki)
def Zsr:g9 P w K mg base qK 1 a.f_L6 a.d_L6 ["ways","ended"] (sp_L6 K a):=by
 calc T.f6.u.ok C4 (λA2 A ab s H vs Q E hr h=>?_);let f:=u7 hr;let⟨p,pq,kw,r,ss,G,l,m,rfl,hp,wl,sl,N,lk,hq,M,q⟩:=h;refine⟨_,(ql (qM (i:=2) C4.nd yV)
  (ql (sW sS Z (tQ (K:=K) Z (pv 1)) (rp (i:=3) C4.nd Z (Or.inl Z))
  (qp (ql (yu f (pv 2) (pv 3) (qF (l:=[]) nofun) Z)
  (qp (qk (Dq (sW sS Z (Ew (uw f (pv 0) (pv 3) (λ_ _=>rfl))) (rp (i:=4) C4.nd Z (Or.inl Z))
  (qp (ql (qM (i:=5) C4.nd (qB sL (pv 4) (uw f (pv 2) (uw f (uw f (pv 0) (pv 3) (λ_ _=>rfl)) (pv 4) (λ_ _=>rfl)) (λ_ _=>rfl))))
  (qk (qZ (ri Bh (rq (sk (K:=K) Z) Z T.dL sj (qa (pv 5) qc)) (rq (sk (K:=K) Z) Z T.dL sj (qa (uw f (pv 2) (pv 3) (λ_ _=>rfl)) qc)) (qT _)) (qp (qk (yu f (pv 2) (pv 3) (pv 5) Z))) qY)))))))))))
  (qp (qk (qz (uw f (pv 2) (qF (l:=[]) nofun) (λ_ _=>rfl))))))),?_⟩
 let sz:∀k:Nat,k<=100000->k<=sizeLine:=λk h=>qJ h (by rw[sizeLine_eq];decide);let m4:=N.m4;let ac:=sl.len;let ae:⇑G<=⇑ss:=Ez G ss M.nd M.sub;omega;intro pl nl;let s1:g7 H (upd H pl (.dK [])):=rm nl;let l1:upd H pl (.dK []) pl=U (.dK []):=qu;generalize upd H pl (.dK [])=H1 at s1 l1;refine#[pq,Z,#[_,.mk (s1 _ _ hq)],io.list (xs:=G.map tx) (Na H p pq pl r G m) #[_,_,_,[],Z,s1,l1,qG _,λs h=>by rw[xY]at h;cases h] (λi σ H' _ hh=>by let#[_,_,_,_,_,s',_]:=hh;calc .mk (s' _ _ hq)) ?_ ?_]
 .rintro i x σ X hx ⟨v3,v4,v5,B,rfl,s2,l2,n2,la⟩;let#[s_,hs,Z]:=zZ hx;let il:=(rY.mp hs).1;let ms:s_∈ss:=M.sub s_ (sC hs);let W:=(sl.iff s_).mp ms;let#[D,va,na,C]:=wl.val sl.nd ms;let F:D≠pl:=qN C nl;let af:p≠pl:=qN hp nl;let ni:s_∉G.take i:=B7 M.nd hs;omega;ac_rfl;calc#[pl,_,Z,jy.k (k:=qf s_) l2 (sK (show _<100000 by lia) (sz 100000 (qG _))),qH ?_];let s3:g7 H (upd X pl (.dK (ii B (qf s_) (tx [])))):=ip s2 nl;let l3:upd X pl (.dK (ii B (qf s_) (tx []))) pl=U (.dK (ii B (qf s_) (tx []))):=qu;let n3:⇑(ii B (qf s_) (tx []))<=i+1:=by
   have:=xq B (qf s_) (tx [])
   lia
  let S:∀s∈G.take i,∃x,hW (ii B (qf s_) (tx [])) (qf s)=U (tx x)/\LW r m s x:=λs d=>by have:s≠s_:=λz=>ni (z▸d);rw[uT,qe (λz=>this (tZ z))];exact la s d
  let aa:hW (ii B (qf s_) (tx [])) (qf s_)=U (tx []):=by rw[uT,qg Z]
  generalize upd X pl (.dK (ii B (qf s_) (tx [])))=H3 at s3 l3;generalize ii B (qf s_) (tx [])=kO3 at l3 n3 S aa;omega;refine#[D,_,s3 _ _ C,p,.ref D,Z,.inl #[kw,qf s_,.inl (s3 _ _ hp),Z,va.symm],D,_,Z,s3 _ _ C,λo=>io.dict (Mi H p pq pl D o r G m s_ i) #[_,_,kO3,[],Z,?_,qu,?_,n3,S,aa,PW.start (lk.stemAv W)] (λj σ H' hh=>by let#[_,_,_,_,_,_,h,_]:=hh;calc h) ?_ ?_]
  .intro b y n e;rw[qh n];exact s3 _ _ e
  .rw[qh (qy F)];exact l3
  .rintro j kv σ H4 g ⟨v4,v5,t,x,rfl,s4,V,L,n4,v,u,I⟩;obtain⟨c,hc,rfl⟩:∃c,(iX r m s_)[j]?=U c/\kv=jf (c,jI r (s_++[c])):=by
    unfold sE at g;rw[rO,se]at g;cases e:(iX r m s_)[j]? with
    | none=>rw[e]at g;cases g
    | some c=>rw[e]at g;cases g;exact#[c,Z,Z]
   let eo:jI r (s_++[c])∈iE r m s_:=by unfold iE sE;exact rj.mpr #[_,rj.mpr #[c,sC hc,Z],Z]
   let et:=M.ord i s_ hs _ eo;let#[z,vz,lz]:=v _ et;let ad:=LW.len N lk (J2 (CM r (s_++[c]))) lz;let vc:hW ((sE r m s_).map jf) (qf [c])=U (tx (jI r (s_++[c]))):=E3 (L8 (zK N.k)) g;let p4:H4 p=U (.dK kw):=s4 _ _ (qy na) hp;let#[w1,w2]:=I.next hc lz
   let xl:⇑x<=1000:=by
    let hm:∀c∈s_++x,c∈m:=λc hc=>by
     rcases rJ.mp hc with z | z
     .exact lk.stem N W c z
     .exact I.mem c z
    have:=((lk.av hm).mp I.av).len;rw[qP]at this;have:=N.l40
    lia
   show uD 4 (kV (qf [c])) _ _ _;rw[Dn];omega;ac_rfl;calc#[p,.ref D,Z,.inl #[kw,qf s_,.inl p4,Z,va.symm],D,_,Z,.inl #[_,qf [c],.inr #[o,V],Z,vc.symm],pl,_,Z,.inl #[t,qf (jI r (s_++[c])),.inl L,Z,vz.symm],jT #[sz _ (by rw[r6];lia),?_]];refine#[_,_,Z,tT (by rw[qP,r6];lia),pl,_,Z,.inl #[t,qf s_,.inl L,Z,u.symm],_,_,Z,tT ∅,i9 (λh0=>qH ?_) (λh0=>?_)]
   .let lt:⇑x<⇑(c::z):=by have:=NO h0;rw[qP,r6]at this;rw[rF];lia
    omega;refine#[pl,_,Z,jy.k (k:=qf s_) L (sK (show _<100000 by lia) (sz 100000 (qG _))),_,_,ii t (qf s_) (tx (c::z)),c::z,Z,?_,by rw[qh F];calc V,qu,by rw[KP u];calc n4,λs d=>?_,by rw[uT,qg Z],w1 lt]
    .intro b y n e;rw[qh (qN e nl)];exact s4 b y n e
    .have:s≠s_:=λz=>ni (z▸d);rw[uT,qe (λz=>this (tZ z))];exact v s d
   .let lt:¬⇑x<⇑(c::z):=λq=>h0 (NM (by rw[qP,r6];rw[rF]at q;lia));exact#[_,_,t,x,Z,s4,V,L,n4,v,u,w2 lt]
  .rintro σ H4 ⟨v4,v5,t,x,rfl,s4,V,L,n4,v,u,I⟩;let lo:⇑((sE r m s_).map jf)=⇑(iX r m s_):=by unfold sE;rw[qm,qm]
   rw[lo]at I;refine#[o,_,V,_,_,_,t,Z,?_,by rw[qh (qy F)];calc L,n4,λs d=>?_]
   .intro b y e;by_cases c:b=D
    .subst c;rw[C]at e;cases e;rw[qu]
    .rw[qh c];exact s4 b y c e
   .rw[z5 hs]at d;rcases rJ.mp d with z | z
    .exact v s z
    .rw[qR.mp z];exact#[x,u,I.done]
 .rintro σ X ⟨v3,v4,v5,B,rfl,s2,l2,n2,la⟩;rw[qm,uJ]at la;let#[x,vx,lx]:=la [] M.nil;let ex:=LW.text N lk lx;subst ex;omega;ac_rfl;calc#[pl,_,Z,.inl #[B,qf [],.inl l2,Z,vx.symm],q X s2]
def IJ:g9 P w K mg base qK 1 a.bU a.dc ["self"] (sp_KE K a):=by calc T.eG.u.ok Zrz (λg A b s H j Q E k h=>?_);let#[p,d,i,l,m,n,Z,c,q]:=h;calc#[_,(qk (qz (uZ (Cm (K:=K) Z) Z T.fE ya (qa (rA (K:=K) Z (pv 0) Z) qc)))),?_];let#[e,f]:=c.fld;omega;calc#[p,_,e,_,_,Z,f,T.ad,T.ah,FI,d,_,Z,.inl (.mk c.lack),q]
def ZsC:g9 P w K mg base qK 1 a.bF a.cM ["self","length"] (sp_KB K a):=by calc T.fD.u.ok ZrA (λe A c s H f Q E g h=>?_);let#[p,l,m,n,Z,b,q]:=h;calc#[_,(qk (qz (rA (K:=K) Z (pv 0) Z))),?_];let#[d,b]:=b;omega;calc#[p,_,d,_,_,Z,b,T.aZ,T.ax,IQ,q]
def Zsw:g9 P w K mg base qK 1 a.bH a.cO ["self"] (sp_KU K a):=by calc T.gj.u.ok Zrq (λg A c s H i Q E j h=>?_);let#[p,l,m,Z,b,d,q]:=h;calc#[_,(qk (qz (qB t7 (rq (sk (K:=K) Z) Z T.dL sj (qa (rA (K:=K) Z (pv 0) Z) qc)) qr))),?_];let#[e,b]:=b;let f:=d.l40;omega;calc#[p,_,e,_,_,Z,b,T.aZ,T.ax,IQ,_,_,Z,tT ∅,q]
def NB:g9 P w K mg base qK 1 a.bC a.cJ ["self","text","kinds"] (sp_LE K a):=by
 calc T.eK.u.ok Zrg (λj A f s H k Q E n h=>?_);let⟨p,d,C,l,m,rfl,i,g,q⟩:=h;refine⟨_,(ql (vL (pv 0) (pv 1) Z)
  (qk (vL (pv 0) (pv 2) Z))),?_⟩
 omega;rcases i with rfl | rfl
 .exact#[p,a.c_MP,d,[],Z,g,T.aZ,T.ax,(by show 0<1000;decide),p,a.c_MP,d,_,Z,qu,T.aZ,T.aA,(by show 1<1000;decide),q _ qu (λb o e c=>by rw[qh c,qh c];calc e)]
 .exact#[p,a.c_MR,d,[],Z,g,T.ad,T.aa,(by show 0<1000;decide),p,a.c_MR,d,_,Z,qu,T.ad,T.ai,(by show 1<1000;decide),q _ qu (λb o e c=>by rw[qh c,qh c];calc e)]
def Zsx:g9 P w K mg base qK 1 a.bD a.cK ["self"] (sp_KT K a):=by calc T.gi.u.ok Zrr (λg A b s H j Q E k h=>?_);let#[p,e,i,l,m,n,Z,d,q]:=h;calc#[_,(qk (qz (rA (K:=K) Z (pv 0) Z))),?_];let#[c,f]:=d.fld;omega;calc#[p,_,c,_,_,Z,f,T.ad,T.ai,Di,q]
def Zsi:g9 P w K mg base qK 1 a.f_LR a.d_LR ["verb","many"] (sp_LR K a):=by
 calc T.fO.u.ok Gg (λA2 A m s H W Q E V h=>?_);let⟨vb,n,fs,rfl,F,X,q⟩:=h;refine⟨_,(ql (qM (i:=2) Gg.nd (uZ (Cm (K:=K) Z) Z T.fE ya (qa (KZ (K:=K) (w:=w) Z Z (Dd (v:=.ref a.v_FORMS) Z T.v_FORMS Z) (pv 0) (λ_ _=>rfl)) qc)))
  (qp (ql (qZ (ri (DJ (K:=K) Z) (qF (l:=[46,46]) nofun) (pv 2) Z) (qk (qz (pv 2))) qY)
  (qp (ql (qM (i:=3) Gg.nd (tX (zU (K:=K) Z) (pv 2) uo (tM (Du C1 qr))))
  (qp (qk (qz (qB Dy (pv 3) (qB JK (tX (zU (K:=K) Z) (pv 3) (tM (Du C1 qr)) uo) (qB DN (pv 1) (rq (sk (K:=K) Z) Z T.dL sj (qa (pv 3) qc))))))))))))),?_⟩
 let#[g,C,D]:=Jq T.sd_FORMS;omega;cases F with
 | one e G=>
  let#[b,t,p]:=D e;calc#[_,g,qf vb,_,Z,C,Z,t,b,_,Z,.inr (p H),λl k=>qH ?_];omega;calc#[l,_,Z,.inl (.mk qu),Z,xM _,?_];rw[qg Z,Bp,NN G];exact iB (q l _ (rm k) k qu)
 | @dots n=>
  let#[b,t,p]:=D (vb:=xk) (fs:=[sB,sH,wZ]) Z;calc#[_,g,qf xk,_,Z,C,Z,t,b,_,Z,.inr (p H),λl k=>qH ?_];omega;calc#[l,_,Z,.inl (.mk qu),Z,Z,?_];rw[qg Z,Zqy];calc hU (qH ?_);omega;calc#[_,Z,l,_,Z,.mk qu,λc u=>?_];let S:=rm (o:=.lst [tx sB,tx sH,tx wZ]) k;let y:=S.trans (rm (o:=.lst [tx sB,tx sH]) u);let r:upd (upd H l (.lst [tx sB,tx sH,tx wZ])) c (.lst [tx sB,tx sH]) c=U (.lst [tx sB,tx sH]):=qu;show By _ _ _ (upd (upd H l (.lst [tx sB,tx sH,tx wZ])) c (.lst [tx sB,tx sH]));generalize upd (upd H l (.lst [tx sB,tx sH,tx wZ])) c (.lst [tx sB,tx sH])=H2 at y r;ac_rfl;calc#[_,Z,c,_,Z,.mk r,λx f=>?_];let M:=y.trans (rm (o:=.lst [tx sH]) f);let I:upd H2 x (.lst [tx sH]) x=U (.lst [tx sH]):=qu;let z:=rm (o:=.lst [tx sH]) f _ _ r;calc#[_,_,Z,.inl #[_,.mk z,Z],?_];rw[show ((n+2:Nat):Int)-(⇑[tx sB,tx sH]:Nat)=(n:Nat) by show ((n+2:Nat):Int)-(2:Nat)=_;lia];calc#[x,_,_,Z,Z,I,∅,∅,sz _ (by rw[zw];show 1*n<=9000;lia),λL d=>?_];rw[zw,Zmb];let B:=M.trans (rm (o:=.lst ((List.replicate n sH).map tx)) d);calc#[c,L,_,_,Z,Z,rm d _ _ z,qu,sz _ (by rw[qm,List.length_replicate];show 2+n<=9000;lia),λN j=>q N _ (B.trans (rm j)) (B.free j) ?_];rw[qu];rfl
def B0:g9 P w K mg base qK 1 a.f_LD a.d_LD ["parts"] (sp_LD K a):=by
 calc T.dM.u.ok HK (λG A g s H F Q E n h=>?_);let t:=n.units;let⟨b,c,rfl,k,x,p,q⟩:=h;refine⟨_,(ql (qM (i:=1) HK.nd (uu wy BW B4 Ci (qF (l:=[32]) nofun) (qa (uq (N:=["part"]) (ix:=[O]) Z (tU Z) Z (tQ (K:=K) Z (pv 0)) (λ_ _ _ _=>(rp (i:=0) (show (["part"]:AJ).Nodup from by decide +kernel) Z (Or.inl Z) (Or.inr Z))) (λ_ _ _ _=>uv) (λ_ _ _ _=>(uZ ZhK Z T.gN D1 (qa (pv 0) qc)))) qc)))
  (qk (qz (HW (ri (rE (K:=K) Z t) (pv 1) (qF (l:=[]) nofun) (qT _)) (Bb Z T.c_KW) (pv 1))))),?_⟩
 omega;refine#[Z,b,Z,#[_,.mk k],ib.listM (xs:=c.map tx) (λ_=>Y) (λi=>tx (c.getD i [])) (by rw[qm];lia) (.mk k) (λi u B _ _ q=>q u (g7.refl _)) ?_ ?_]
 .intro i f y d _ m o;rw[qm]at d;rw[ze d];omega;exact#[_,Z,o f (g7.refl _)]
 .intro j f m D v;let e:f j=U (.lst (c.map tx)):=by
   rw[v,i5,qm];congr 2;apply vO {};intro i C r;let d:i<⇑c:=by simpa using r
   simp[sw,d]
  calc#[[32],j,c,Z,Z,e,by rw[r6];lia,.inl #[Z,?_]];rw[qe qO,wN];have:=q f m;unfold jl at this;refine i9 (λh=>?_) (λh=>?_)
  .rw[qg (NO h)]at this;exact this
  .rw[qe (λz=>h (NM z))]at this;calc this
def ZdA:g9 P w K mg base qK 1 a.aj a.ao ["self","name"] (GR K a.c_LI 1 (zd "name")):=by
 refine T.fi_LI.ok Zdw (λu A i s H p Q E v h=>?_) (λp H Q E h=>by let#[e,r,Z,g,_]:=h;simp[g])
 .obtain⟨e,r,rfl,g,f,q⟩:=h;obtain⟨x,rfl⟩:∃x,r=[x]:=by match r,g with | [x],_=>exact#[x,Z]
  refine⟨_,(ql (rR (NF Z T.m_LH T.r_LH (qa (pv 0) (qa (qF (l:=[97,32,115,116,114,105,112,32,104,97,115,32,116,104,105,115,32,110,97,109,101,32,97,108,114,101,97,100,121]) nofun) qc))))
   (qk (KD (pv 0) (pv 1) Z))),?_⟩
  omega;calc#[e,a.c_LI,O,_,Z,f,T.cE,(by show 1<=1000;decide),e,a.c_LI,[],Z,.bare f,T.cE.c,T.aD,(by show 0<1000;decide),λt k m _=>?_];calc q t k λb o n c=>m b o n c λd j=>by rw[f]at j;calc NR j Kl
def Lu:g9 P w K mg base qK 1 a.ak a.ay ["self","name"] (GR K a.c_L9 1 (zd "name")):=by
 refine T.fi_L9.ok ZeH (λu A i s H p Q E v h=>?_) (λp H Q E h=>by let#[e,r,Z,g,_]:=h;simp[g])
 .obtain⟨e,r,rfl,g,f,q⟩:=h;obtain⟨x,rfl⟩:∃x,r=[x]:=by match r,g with | [x],_=>exact#[x,Z]
  refine⟨_,(ql (rR (NF Z T.m_LH T.r_LH (qa (pv 0) (qa (qF (l:=[116,104,105,115,32,105,115,32,110,111,32,110,97,109,101,44,32,111,114,32,110,111,32,115,116,114,105,112,32,104,97,115,32,105,116]) nofun) qc))))
   (qk (KD (pv 0) (pv 1) Z))),?_⟩
  omega;calc#[e,a.c_L9,O,_,Z,f,T.cj,(by show 1<=1000;decide),e,a.c_L9,[],Z,.bare f,T.cj.c,T.aH,(by show 0<1000;decide),λt k m _=>?_];calc q t k λb o n c=>m b o n c λd j=>by rw[f]at j;calc NR j Kl
def EV:g9 P w K mg base qK 1 a.bJ a.cS ["self"] (sp_KM K a):=by calc T.dU.u.ok Zry (λe A b s H i Q E j h=>?_);let#[p,g,m,F,Z,d,q]:=h;calc#[_,(qk (qz (rA (K:=K) Z (pv 0) Z))),?_];let#[c,f]:=d.fld;omega;calc#[p,_,c,_,_,Z,f,T.aq,T.aB,shK,q]
def ZsB:g9 P w K mg base qK 1 a.bM a.cV ["self"] (sp_KN K a):=by calc T.fX.u.ok Zrx (λl A b s H n Q E o h=>?_);let#[p,i,m,F,Z,c,t,q]:=h;calc#[_,(qk (qz (rq (Gf Z) Z T.eE Bv (qa (rA (K:=K) Z (pv 0) Z) qc)))),?_];let#[j,f]:=c.fld;omega;calc#[p,_,j,_,_,Z,f,T.aq,T.ag,BT,i,_,_,Z,.inl c.dct,GX F,iH.of λr g d k e=>q r g d k e]
def Da:g9 P w K mg base qK 1 a.bE a.cL ["self"] (sp_LF K a):=by calc T.d8.u.ok Zrf (λg A b s H j Q E k h=>?_);let#[p,e,i,l,m,n,Z,d,q]:=h;calc#[_,(qk (qz (rA (K:=K) Z (pv 0) Z))),?_];let#[c,f]:=d.fld;omega;calc#[p,_,c,_,_,Z,f,T.ad,T.aa,vv,q]
def Jd:g9 P w K mg base qK 1 a.f_MY a.d_MY ["_law_script","_law_k"] (sp_MY K a):=by
 calc T.gB.u.ok ZqQ (λi A c s H j Q E l h=>?_);let⟨b,g,k,rfl,d,f,q⟩:=h;refine⟨_,(ql (qZ (ri CD (pv 1) (rq (sk (K:=K) Z) Z T.dL sj (qa (pv 0) qc)) (qT _)) (qk (qz (re (sQ (K:=K) Z) (pv 0) (pv 1) (λ_ _=>rfl)))) qY)
  (qk (qz qr))),?_⟩
 omega;calc#[_,_,Z,.inl #[_,d,Z],?_];rw[qm];refine i9 (λh=>?_) (λh=>?_)
 .let e:k<⇑g:=NO h;exact#[b,_,k,_,Z,Z,d,JU f e,q _]
 .exact q _
def xB:g9 P w K mg base qK 1 a.f_MZ a.d_MZ ["_law_cell","_law_k"] (sp_MZ K a):=by
 calc T.dW.u.ok Fm (λf A b s H d Q E e h=>?_);let⟨c,k,rfl,q⟩:=h;refine⟨_,(ql (qM (i:=2) Fm.nd (qB tK (qB t7 (qB t7 (qB yM (qB tK (pv 0) qr) qr) (qB yM (pv 1) qr)) qr) qr))
  (ql (qM (i:=2) Fm.nd (qB tK (qB t7 (qB t7 (qB yM (qB tK (qB yM (pv 2) (pv 2)) qr) qr) (qB yM (pv 1) qr)) qr) qr))
  (qk (qz (qB tK (qB yM (pv 2) (pv 2)) qr))))),?_⟩
 omega;calc#[⋯,.inr #[⋯,⋯],.inr #[⋯,⋯],⋯,cm ⋯ ⋯,⋯,.inr #[⋯,⋯],.inr #[⋯,⋯],⋯,cm ⋯ ⋯,⋯,q]
def IR:g9 P w K mg base qK 1 a.f_ML a.d_ML ["_law_text_here"] (sp_ML K a):=by
 calc T.gf.u.ok ZqU (λe A b s H f Q E c h=>?_);let d:=c.units;let⟨l,rfl,q⟩:=h;refine⟨_,(ql (qZ (ri (rE (K:=K) Z d) (pv 0) (qF (l:=[]) nofun) (qT _)) (qk (qz (qF (l:=[45]) nofun))) qY)
  (qk (qz (pv 0)))),?_⟩
 omega;calc .inl #[Z,?_];rw[qe qO,wN];unfold jl at q;refine i9 (λh=>?_) (λh=>?_)
 .rw[qg (NO h)]at q;exact q
 .rw[qe (λz=>h (NM z))]at q;calc q
def CT:g9 P w K mg base qK 1 a.f_MI a.d_MI ["_law_words_here"] (sp_MI K a):=by
 calc T.eQ.u.ok ZqV (λo A d s H v Q E j h=>?_);let k:=j.units;let⟨b,m,rfl,e,u,n,f,q⟩:=h;refine⟨_,(ql (qZ (ri (rE (K:=K) Z k) (pv 0) (uC qc) (qT _)) (qk (qz (qF (l:=[45]) nofun))) qY)
  (qk (qz (uu wy BW B4 Ci (qF (l:=[32]) nofun) (qa (pv 0) qc))))),?_⟩
 omega;calc#[rM _,iH.of λp g c t i=>Zoq (.mk (c _ _ e)) (.mk i) ?_];have:=q g c;unfold jl at this;cases m with
 | nil=>exact iB this
 | cons x r=>
  rw[qe (λz=>by have:=(ZgI f).mp z;cases this)]at this;calc hU #[Z,[32],b,x::r,Z,Z,c _ _ e,by rw[r6];lia,this]
def ZsA:g9 P w K mg base qK 1 a.bV a.de ["self"] (sp_KP K a):=by calc T.fY.u.ok Zrv (λo A b s H t Q E c h=>?_);let#[p,n,g,l,m,u,Z,d,q]:=h;calc#[_,(qk (qz (uZ (Cm (K:=K) Z) Z T.fE ya (qa (rA (K:=K) Z (pv 0) Z) qc)))),?_];let#[j,f]:=d.fld;let#[e,i,k]:=d.deed;omega;calc#[p,_,j,_,_,Z,f,T.ad,T.af,Bw,g,_,Z,.inl (.mk i),λr c=>q r e c k]
def Zsh:g9 P w K mg base qK 2 a.f_LU a.d_LU ["thing"] (sp_LU K a):=by
 calc T.fL.u.ok Zq5 (λI A f s H G Q E k h=>?_);let p:=k.units;let⟨l,rfl,b,q⟩:=h;refine⟨_,(ql (qZ (vG (uy (rq (El (K:=K) Z) Z T.dS D0 (qa (pv 0) (qa (EW (v:=.ty "str") Z T.gN D1 Z) qc))))) (qk (qz vM)) qY)
  (ql (qZ (PW.pt (yk (ri CD (rq (sk (K:=K) Z) Z T.dL sj (qa (pv 0) qc)) qr (qT _)) (zT (ri Bh (rq (sk (K:=K) Z) Z T.dL sj (qa (pv 0) qc)) (yD Z T.c_KY) (qT _))))) (qk (qz vM)) qY)
  (qk (qz (xW (qC (EI T) (hM k) Z T.d7 qo (qa (pv 0) (qa (Bb Z T.c_KD) qc))) (xQ (tF (rE (K:=K) Z p) (uZ (Jl Z) Z T.fE ya (qa (pv 0) qc)) (rq (Gu Z) Z T.eE Bv (qa (uZ (HE Z) Z T.gR FD (qa (pv 0) qc)) qc)) (qT _)))))))),?_⟩
 omega;calc#[_,_,_,_,Y,Z,Z,.ty (.pl (.str _)),DS,hU ?_];calc#[_,_,Z,tT b,?_];refine i9 (λh=>ly ?_) (λh=>?_)
 .let i:¬1<=⇑l:=by have:=NO h;lia
  let e:=q H (g7.refl _);unfold vq at e;rw[NN i,vZ,vZ,vZ]at e;exact e
 .let i:1<=⇑l:=by have:¬((⇑l:Nat):Int)<1:=λz=>h (NM z);lia
  calc#[_,_,Z,tT b,?_];refine i9 (λd=>?_) (λd=>?_)
  .let c:¬⇑l<=4:=by have:=NO d;lia
   let e:=q H (g7.refl _);unfold vq at e;rw[NN c,yX,vZ,vZ]at e;exact e
  .let c:⇑l<=4:=by have:¬4<((⇑l:Nat):Int):=λz=>d (NM z);lia
   calc#[l,rn,by rw[Fs],b,λt j=>?_];refine i9 (λg=>?_) (λg=>?_)
   .refine#[l,Z,b,iH.of λB D u F y=>?_];calc#[iy l,by rw[jZ];calc b,.inl #[l,Z,Z],λo m=>?_];calc#[o,tE (iy l),Z,qu,qJ (Zos l) (by rw[sizeLine_eq];lia),iH.of λL r n C x=>?_];calc Zqw (.mk ((rm m).trans n _ _ y)) (.mk x) ?_;let e:=q r (j.trans (u.trans ((rm m).trans n)));unfold vq at e;rw[NM i,NM c,g,yh,yh,yh]at e;exact e
   .let e:=q t j;unfold vq at e;rw[yI.mpr g,yX,vZ]at e;calc e
def D5:g9 P w K mg base qK 2 a.f_L5 a.d_L5 ["thing","kinds","most"] (sp_L5 K a):=by
 calc T.eI.u.ok Zrk (λj A b s H k Q E i h=>?_);let#[l,m,c,Z,d,q]:=h;calc#[_,(qk (qz (xW (rq (El (K:=K) Z) Z T.dS D0 (qa (pv 0) (qa (EW (v:=.ty "str") Z T.gN D1 Z) qc))) (xW (tF Nf (rq (sk (K:=K) Z) Z T.dL sj (qa (pv 0) qc)) (pv 2) (qT _)) (xQ (qC (EI T) (hM i) Z T.d7 qo (qa (pv 0) (qa (pv 1) qc)))))))),?_];omega;calc#[_,_,_,_,Y,Z,Z,.ty (.pl (.str _)),DS,iB ?_];calc#[_,_,Z,tT d,?_];refine i9 (λh=>?_) (λh=>?_)
 .refine#[l,m,Z,d,λg f=>?_];let e:=q g f;unfold vA at e;rw[h,yh]at e;exact e
 .let e:=q H (g7.refl _);unfold vA at e;rw[yI.mpr h,vZ]at e;calc e
def ZrU:g9 P w K mg base qK 2 a.f_NA a.d_NA ["words","kinds"] (sp_NA K a):=by
 calc T.gK.u.ok Dr (λA2 A aa s H vs Q E hr h=>?_);let ab:=u7 hr;let⟨b,f,l,m,rfl,hb,V,lk,q⟩:=h;refine⟨_,(ql (vX (i:=2) Dr.nd Z (Or.inr Z) (qC (Zsa T) (hM hr) Z T.gE qo (qa (pv 0) qc)))
  (qp (ql (qM (i:=3) Dr.nd yV)
  (qp (ql (Dq (sW sS Z (Ew (pv 2)) (rp (i:=4) Dr.nd Z (Or.inr Z))
  (ql (Hu (i:=5) (N:=["letter","stem","words"]) (ix:=[O,U 4,U 0]) Z Dr.nd Z Z Z (tU Z) Z (Be (pv 1)) (λ_ _ _ _=>(rp (i:=0) (show (["letter","stem","words"]:AJ).Nodup from by decide +kernel) Z (Or.inl Z) (Or.inr Z))) (λ_ _ _ _=>(EU (uy (qC (K9 T) (hM hr) Z T.fZ qo (qa (pv 2) (qa (qB sL (pv 1) (pv 0)) qc)))))) (λ_ _ _ _=>(pv 0)))
  (qp (qk (yu ab (pv 3) (pv 4) (uZ (Zmo Z) Z T.gT Zox (qa (uq (N:=["letter","stem","stems"]) (ix:=[O,U 4,U 2]) Z (tU Z) Z (tQ (K:=K) Z (pv 5)) (λ_ _ _ _=>(rp (i:=0) (show (["letter","stem","stems"]:AJ).Nodup from by decide +kernel) Z (Or.inl Z) (Or.inr Z))) (λ_ _ _ _=>uv) (λ_ _ _ _=>(yb (qa (pv 0) (qa (qC (Zr2 T) (hM hr) Z T.gt qo (qa (pv 2) (qa (qB sL (pv 1) (pv 0)) qc))) qc))))) qc)) Z))))))
  (qp (qk (qz (pv 3))))))))),?_⟩
 let ln:=lk.len V;let m4:=V.m4;let ac:=V.l40;omega;calc#[b,f,Z,hb,ln,λw hw=>lk.w41 V hw,λp0 g H1 s1 n0 h0 p=>?_];walk_at "h";intro pw G;let s2:g7 H1 (upd H1 pw (.dK [])):=rm G;let l2:upd H1 pw (.dK []) pw=U (.dK []):=qu;let nw:H pw=O:=s1.free G;let ne:p0≠pw:=qN h0 G;generalize upd H1 pw (.dK [])=H2 at s2 l2;ac_rfl;refine#[p0,g,s2 _ _ h0,p0,g,Z,s2 _ _ h0,λo=>io.dict (Ko H b p0 pw o g f m) #[_,_,[],[],Z,ip (s1.trans s2) n0,qu,by rw[qh (qy ne)];calc l2,#[Z,λi u h=>by simp at h],{}] (λi σ H' hh=>by let#[_,_,_,_,_,_,h,_]:=hh;calc h) ?_ ?_]
 .rintro i kv σ H3 B ⟨v4,v5,kw,I,rfl,s3,f3,w3,L,X⟩;let#[u,W,hu]:=p.key kv (sC B);let ul:⇑u<=41:=by
   rcases hu with rfl | ⟨v,hv,k,hk,rfl⟩
   .exact rM _
   .have:=lk.w41 V hv;rw[rL];lia
  rw[W,Dn];omega;refine#[m,Z,ib.text (λi=>zE f (u++[m.getD i 0])) (λi=>tx [m.getD i 0]) ∅ ?_ ?_ ?_]
  .intro j H4 Q4 C S q4;let sl:⇑(u++[m.getD j 0])<=42:=by rw[qP,r6];lia
   omega;exact#[sz _ ∅,b,f,_,Z,S _ _ (s3 _ _ hb),∅,∅,λr M=>q4 r M]
  .intro j H4 Q4 C _ S q4;omega;exact q4 H4 (g7.refl _)
  .intro p1 H4 S n4 l4;rw[ZkR (λc=>zE f (u++[c])) (λc=>tx [c]) m]at l4;ac_rfl;let ol:⇑(iX f m u)<=4:=qJ (ug _ _) m4;refine#[p1,Z,#[_,.mk l4],ib.tupsM (xs:=(iX f m u).map λc=>tx [c]) (λj vs=>∃c,(iX f m u)[j]?=U c/\vs=[tx [c],tx (jI f (u++[c]))]) (by rw[qm];lia) (.mk l4) ?_ ?_]
   .intro j r Q5 C M q5;rw[qm]at C;let hc:(iX f m u)[j]?=U ((iX f m u).getD j 0):=by rw[sw,rD C];rfl
    let eg:((iX f m u).map λc=>tx [c]).getD j .non=tx [(iX f m u).getD j 0]:=by simp[sw,C]
    rw[eg];generalize (iX f m u).getD j 0=c at hc;let sl:⇑(u++[c])<=42:=by rw[qP,r6];lia
    omega;calc#[sz _ ∅,p0,g,f,u++[c],Z,.inr #[o,M _ _ (S _ _ f3)],p,∅,λe H6 F he=>?_];calc#[sz _ ⋯,jF.of λpt H7 s7 n7 l7=>q5 pt _ H7 (F.trans s7) l7 #[c,hc,?_]];rw[ZkE he (CM _ _)]
   .intro p2 ys r M n5 l5 yl hy;refine#[p2,ys,(sE f m u).map jf,Z,l5,#[by unfold sE;rw[yl,qm,qm,qm],λj y C=>?_],λd hd=>?_]
    .obtain⟨t,vs,rfl,ht,c,hc,rfl⟩:=hy j y C;calc#[jf (c,jI f (u++[c])),t,?_,Z,ht];unfold sE;rw[rO,se,hc];rfl
    .rw[KM _ [] (by rw[xC];calc L8 (zK V.k)),xC];let w5:=M _ _ (S _ _ w3);let dn:d≠pw:=qy (qN w5 hd);let ki:(g.map (·.1))[i]?=U (qf u):=by rw[se,B,<-W];rfl
     let nk:hW kw (qf u)=O:=MM (by rw[L.keys,X];calc ZpY p.nd ki);let kl:⇑kw<=i:=by have:=NQ List.length X;rw[qm,rL]at this;rw[L.1];lia
     let il:=(rY.mp B).1;let sl:=p.len;let D:=S.trans M;let F:g7 r (upd r d (.dK ((sE f m u).map jf))):=rm hd;let d6:upd r d (.dK ((sE f m u).map jf)) d=U (.dK ((sE f m u).map jf)):=qu;generalize upd r d (.dK ((sE f m u).map jf))=H6 at F d6;refine#[pw,_,Z,jy.k (k:=qf u) (F _ _ w5) (sK (show _<9000 by lia) (sz 9000 (qG _))),_,_,kw++[(qf u,.ref d)],I++[u],Z,ip (s3.trans (D.trans F)) nw,by rw[qh ne];calc F _ _ (D _ _ f3),by rw[qu,zY _ nk],?_,?_]
     .refine iS.snoc ((L.same (D.trans F)).chg λb o n e=>by rw[qh n];calc e) dn ?_;rw[qh dn];exact d6
     .rw[sJ,X,yJ,ki];rfl
 .rintro σ H3 ⟨v4,v5,kw,I,rfl,s3,f3,w3,L,X⟩;calc#[o,g,f3,?_];omega;ac_rfl;let e4:I.map qf=g.map (·.1):=by rw[X,uU (by rw[qm];calc qG _)]
  let hm:∀v,v∈I↔jm f v:=λv=>by
   constructor
   .intro hv;have:qf v∈g.map (·.1):=by rw[<-e4];exact yx hv
    let#[kv,hk,W]:=rj.mp this;let#[u,eu,hu]:=p.key kv hk;rw[tZ (W.symm.trans eu)];exact hu
   .intro hv;let#[kv,hk,W]:=DC (p.has v hv);have:qf v∈I.map qf:=by rw[e4,<-W];exact yx hk
    let#[x,hx,ex]:=rj.mp this;rw[<-tZ ex];exact hx
  refine q pw kw I (upd H3 p0 (.dK g)) (ip s3 n0) nw (by rw[qh (qy ne)];calc w3) #[L.1,λi u hu=>?_] #[?_,hm,?_]
  .obtain⟨a',h1,h2,h3⟩:=L.2 i u hu;let n3:a'≠p0:=by rintro rfl;let z:=h3.symm.trans f3;exact nomatch z
   calc#[a',h1,h2,?_];rw[qh n3];exact h3
  .have:=p.nd;rw[<-e4]at this;exact List.Pairwise.imp (λh e=>h (by rw[e])) (wf.mp this)
  .have:=NQ List.length e4;rw[qm,qm]at this;have:=p.len
   lia
def Iw:g9 P w K mg base qK 2 a.bG a.cN ["self","length"] (sp_KV K a):=by calc T.fF.u.ok Zrp (λi A c s H j Q E e h=>?_);let#[p,l,m,n,Z,b,f,k,q]:=h;calc#[_,(qk (qz (qC (ZrZ T) (hM e) Z T.gq qo (qa (rX (pv 0) T.aZ T.az (ZsC T) (hM e) T.fD.b .nil qo (qa (pv 1) qc)) (qa (pv 1) qc))))),?_];let#[d,b]:=b;let g:=f.l40;omega;calc#[p,d,_,Z,b,BN nofun nofun,p,l,m,n,Z,#[d,b],l,n,Z,∅,∅,∅,q]
def Zso:g9 P w K mg base qK 2 a.f_LC a.d_LC ["one","other"] (sp_LC K a):=by calc T.eO.u.ok Zrh (λv A c s H x Q E b h=>?_);let t:=b.units;let#[p,e,n,j,k,l,m,u,F,Z,i,d,q]:=h;calc#[_,(qk (qZ (ri (zx (K:=K) Z t) (tO (pv 0) T.aq T.ba (EV T) (hM b) T.dU.b .nil qo) (tO (pv 1) T.ad T.aF (Zsx T) (hM b) T.gi.b .nil qo) (qT _)) (qk wD) qY)),?_];let#[r,f]:=i.fld;let#[o,g]:=id d.fld;omega;calc#[p,r,_,Z,f,tS,p,n,m,F,Z,i,e,o,_,Z,g,sN,e,j,k,l,m,u,Z,d,EG (hU q)]
def Zsp:g9 P w K mg base qK 2 a.f_LA a.d_LA ["word"] (sp_LA K a):=by calc T.eP.u.ok Zrj (λj A c s H k Q E d h=>?_);let e:=d.units;let#[i,Z,b,q]:=h;calc#[_,(qk (qz (MV (tF (rE (K:=K) Z e) (pv 0) (Bb Z T.c_KW) (qT _)) (xQ (xW (tF (zx (K:=K) Z e) (pv 0) (qF (l:=[]) nofun) (qT _)) (xQ (qC (EI T) (hM d) Z T.d7 qo (qa (pv 0) (qa (Bb Z T.c_KD) qc))))))))),?_];omega;rw[Kv,Fs];calc uR b.nd (hU (J5 b.1 (iB #[i,rn,Z,by have:=b.2.1;lia,λg f=>?_])));rw[b.2.2];calc q g f
def HL:g9 P w K mg base qK 2 a.f_LN a.d_LN ["word"] (sp_LN K a):=by
 calc T.eJ.u.ok Zq9 (λk A b s H m Q E e h=>?_);let d:=e.units;let⟨i,rfl,c,q⟩:=h;refine⟨_,(ql (qZ (PW.pt (yk (ri (rE (K:=K) Z d) (pv 0) (qF (l:=[]) nofun) (qT _)) (yk (ri Bh (rq (sk (K:=K) Z) Z T.dL sj (qa (pv 0) qc)) (yD Z T.c_KG) (qT _)) (zT (vG (uy (qC (EI T) (hM e) Z T.d7 qo (qa (pv 0) (qa (Bb Z T.c_LY) qc))))))))) (qk (qz vM)) qY)
  (qk (qz (MV (tF (rE (K:=K) Z d) (pv 0) (qF (l:=[48]) nofun) (qT _)) (xQ (tF (zx (K:=K) Z d) (re yO (pv 0) qr (λ_ _=>rfl)) (qF (l:=[48]) nofun) (qT _))))))),?_⟩
 omega;let j:=c.2.1;calc uR c.1 (hU #[_,_,Z,tT ∅,i9 (λ_=>ly (q H (g7.refl _))) λ_=>?_]);rw[Zop];calc#[i,_,Z,∅,λg f=>?_];rw[c.nf];calc iB (q g f)
def MP:g9 P w K mg base qK 2 a.f_MW a.d_MW ["lesser","longer"] (sp_MW K a):=by
 calc T.gA.u.ok Hh (λA2 A n s H vs Q E X h=>?_);let⟨c,L,rfl,hL,S,tk,q⟩:=h;refine⟨_,(ql (qM (i:=2) Hh.nd (uC qc))
  (qp (ql (sW sS Z (En Z T.d5 (qa qr (qa (qB t7 (rq (sk (K:=K) Z) Z T.dL sj (qa (pv 1) qc)) qr) qc))) (rp (i:=3) Hh.nd Z (Or.inl Z))
  (ql (rR (uu xA zb yz ye (pv 2) (qa (tX vm (pv 1) uo (tM (pv 3))) qc)))
  (qk (rR (uu xA zb yz ye (pv 2) (qa (tX vm (pv 1) (tM (qB DN (rq (sk (K:=K) Z) Z T.dL sj (qa (pv 1) qc)) (pv 3))) uo) qc))))))
  (qp (qk (qz (qC (Dz T) (hM X) Z T.dO qo (qa (rq (Gu Z) Z T.eE Bv (qa (uZ (HE Z) Z T.gR FD (qa (uq (N:=["word","lesser"]) (ix:=[O,U 0]) Z (tU Z) Z (tQ (K:=K) Z (pv 2)) (λ_ _ _ _=>(rp (i:=0) (show (["word","lesser"]:AJ).Nodup from by decide +kernel) Z (Or.inl Z) (Or.inr Z))) (λ_ _ _ _=>(EU (ri Ih (pv 0) (pv 1) Z))) (λ_ _ _ _=>(pv 0))) qc)) qc)) qc)))))))),?_⟩
 omega;calc#[rM _,iH.of λj H1 s1 B le=>?_];ac_rfl;calc#[_,_,Z,tT ∅,_,_,Z,#[⋯,⋯,∅,∅],?_];let ej:((⇑L:Int)+1-1).toNat=⇑L:=by lia
 rw[ej];refine io.range (λi σ F=>∃y,σ=[U (tx c),U (tx L),U (.ref j),y]/\g7 H F/\F j=U (.lst ((ut L i).map tx))) #[_,Z,s1,le] ?_ ?_
 .rintro i σ H2 g ⟨y,rfl,m,k⟩;let el:=E5 L i;let D:(1+(i:Int))=((i+1:Nat):Int):=by lia
  let e2:(⇑L:Int)-(1+(i:Int))=((⇑L-(i+1):Nat):Int):=by lia
  omega;refine#[.inl #[Z,_,.mk k],_,Z,L,Z,sz _ ∅,j,_,_,Z,Z,k,by rw[qm];calc sz _ ∅,.inl #[Z,_,.mk qu],_,_,Z,tT ∅,_,Z,L,Z,sz _ ∅,j,_,_,Z,Z,qu,by rw[qP,qm];calc sz _ (by rw[r6];lia),_,Z,?_,?_]
  .exact ip (ip m B) B
  .rw[qu,D,CK,<-D,e2,yQ,Je,sJ,tD];rfl
 .rintro σ H2 ⟨y,rfl,m,k⟩;walk_at "k";let el:=E5 L ⇑L;refine#[j,Z,#[_,.mk k],ib.listM (xs:=(ut L ⇑L).map tx) (λi=>!jk ((ut L ⇑L).getD i []) c) (λi=>tx ((ut L ⇑L).getD i [])) (by rw[qm];lia) (.mk k) ?_ ?_ ?_]
  .intro i l W g x u;rw[qm]at g;rw[ze g];omega;exact#[_,_,Z,Z,u l (g7.refl _)]
  .intro i l W g _ x u;rw[qm]at g;rw[ze g];omega;exact u l (g7.refl _)
  .intro p3 l x n3 z;let M:((List.range ⇑((ut L ⇑L).map tx)).filter λi=>!jk ((ut L ⇑L).getD i []) c).map (λi=>tx ((ut L ⇑L).getD i []))=((ut L ⇑L).filter λv=>!jk v c).map tx:=by rw[qm,<-IY (λv=>!jk v c) [] (ut L ⇑L),rO];rfl
   rw[M]at z;let fl:=ug (λv=>!jk v c) (ut L ⇑L);generalize hF:(ut L ⇑L).filter (λv=>!jk v c)=F0 at z fl;let G:∀w,w∈F0↔sZ c L w:=λw=>by rw[<-hF,uK,M0,Iq S,Bool.not_eq_true',Nv]
   let dl:=JL F0;calc#[F0,∅,.inr #[p3,Z,.mk z],λp4 n4=>#[p4,_,Z,qu,sz _ ∅,iH.of λp5 H5 s5 n5 l5=>?_]];let f:g7 H H5:=m.trans (x.trans ((rm n4).trans s5));let d:=vP (tE F0);refine#[p5,_,Z,l5,λw hw=>?_,tk.same f,λws r H6 C pw V p nr I=>?_]
   .have:=((G w).mp (Gy.mp (d.mem_iff.mp hw))).1.len
    lia
   .refine q ws r H6 (GO C pw (d.nodup_iff.mpr (Zke F0))) (λw=>?_) (λb o e t=>V _ _ (f _ _ e) t) p ((Nw.of nr).same f) I;rw[C.mem_iff,d.mem_iff,Gy,G]
def Zsy:g9 P w K mg base qK 2 a.f_KR a.d_KR ["one","other"] (sp_KR K a):=by calc T.eD.u.ok Zrt (λy A d s H B Q E g h=>?_);let#[b,c,i,f,Z,r,p,t,j,o,x,q]:=h;calc#[_,(qk (qz (qB sL (qB sL (qC (B0 T) (hM g) Z T.dM qo (qa (pv 0) qc)) (qF (l:=[32,47,32]) nofun)) (qC (B0 T) (hM g) Z T.dM qo (qa (pv 1) qc))))),?_];let sz:∀k:Nat,k<=1000000->k<=sizeLine:=λk h=>qJ h (by rw[sizeLine_eq];decide);omega;let n:=D8 (z4 [32] i);let u:=D8 (z4 [32] f);rw[r6]at n u;calc#[b,i,Z,r,t,j,λz e=>jT #[sz _ (by simp only[rF,y8];lia),c,f,Z,e _ _ p,o,x,λm v=>jT #[sz _ (by simp only[qP,rF,y8];lia),q m (e.trans v)]]]
def Nh:g9 P w K mg base qK 2 a.ce a.dv ["self","text","came","went"] (sp_KJ K a):=by
 calc T.eV.u.ok Fz (λA2 A X s H vs Q E hr h=>?_);let⟨p,la,M,c,g,l,l2,m,b,ab,ys,zs,rc,n,rfl,hp,C,hc,y,hg,B,ho,hn,nd,mc,aa,lo,lc,lg,wo,wn,tk,q⟩:=h;refine⟨_,(qp (ql (vX (i:=4) Fz.nd Z (Or.inr Z) (uq (N:=["told"]) (ix:=[O]) Z (tU Z) Z (tQ (K:=K) Z (pv 3)) (λ_ _ _ _=>(rp (i:=0) (show (["told"]:AJ).Nodup from by decide +kernel) Z (Or.inl Z) (Or.inr Z))) (λ_ _ _ _=>uv) (λ_ _ _ _=>(re (t8 (K:=K) Z) (pv 0) qr (λ_ _=>rfl)))))
  (qp (ql (Hu (i:=5) (N:=["word","gone"]) (ix:=[O,U 4]) Z Fz.nd Z Z Z (tU Z) Z (tQ (K:=K) Z (rA (K:=K) Z (pv 0) Z)) (λ_ _ _ _=>(rp (i:=0) (show (["word","gone"]:AJ).Nodup from by decide +kernel) Z (Or.inl Z) (Or.inr Z))) (λ_ _ _ _=>(EU (ri (DJ (K:=K) Z) (pv 0) (pv 1) Z))) (λ_ _ _ _=>(pv 0)))
  (qp (ql (vL (pv 0) (qC (Dz T) (hM hr) Z T.dO qo (qa (qB Dy (pv 5) (uq (N:=["told"]) (ix:=[O]) Z (tU Z) Z (tQ (K:=K) Z (pv 2)) (λ_ _ _ _=>(rp (i:=0) (show (["told"]:AJ).Nodup from by decide +kernel) Z (Or.inl Z) (Or.inr Z))) (λ_ _ _ _=>uv) (λ_ _ _ _=>(re (t8 (K:=K) Z) (pv 0) qr (λ_ _=>rfl))))) qc)) Z)
  (qp (ql (vL (pv 0) (pv 1) Z)
  (qk (qz (yb (qa (pv 2) (qa (pv 3) qc))))))))))))),?_⟩
 let sz:∀k:Nat,k<=30000->k<=sizeLine:=λk h=>qJ h (by rw[sizeLine_eq];decide);let#[S,f]:=hp;omega;ac_rfl;let zl:=B.1;let yl:=y.1;refine#[g,Z,#[_,.mk hg],ib.listM (xs:=zs) (λ_=>Y) (λi=>tx ((n.map (·.1)).getD i [])) ∅ (.mk hg) (λi H' Q' _ _ q=>q H' (g7.refl _)) ?_ ?_]
 .intro i H1 Q1 e _ x q1;let#[t,u,e1,D]:=Gb B e;rw[e1];omega;exact#[t,_,_,_,Z,Z,.mk (x _ _ D),je,q1 H1 (g7.refl _)]
 .intro pg H1 x n1 l1;rw[Hv zl]at l1;ac_rfl;refine#[p,_,S,_,_,Z,x _ _ f,T.ad,T.ah,FI,la,Z,#[_,.mk (x _ _ C)],ib.listM (xs:=b.map tx) (λi=>!R (b.getD i []∈n.map (·.1))) (λi=>tx (b.getD i [])) (by rw[qm];lia) (.mk (x _ _ C)) ?_ ?_ ?_]
  .intro i G Q2 e L q2;rw[qm]at e;rw[ze e];omega;calc#[pg,_,Z,.inl (.mk (L _ _ l1)),Z,xM _,?_];rw[qg Z,Bp];exact q2 G (g7.refl _)
  .intro i G Q2 e _ L q2;rw[qm]at e;rw[ze e];omega;exact q2 G (g7.refl _)
  .intro pk G L n2 o;let eh:((List.range ⇑(b.map tx)).filter λi=>!R (b.getD i []∈n.map (·.1))).map (λi=>tx (b.getD i []))=(b.filter λv=>!R (v∈n.map (·.1))).map tx:=by rw[qm,<-IY (λv=>!R (v∈n.map (·.1))) [] b,rO];rfl
   let D:(b.filter λv=>!R (v∈n.map (·.1)))=b.filter λv=>R (v∉n.map (·.1)):=by congr 1;funext v;rw[decide_not]
   rw[eh,D]at o;let fl:=ug (λv=>R (v∉n.map (·.1))) b;generalize hk:b.filter (λv=>R (v∉n.map (·.1)))=kept at o fl;let j:=x.trans L;ac_rfl;refine#[c,Z,#[_,.mk (j _ _ hc)],ib.listM (xs:=ys) (λ_=>Y) (λi=>tx ((rc.map (·.1)).getD i [])) ∅ (.mk (j _ _ hc)) (λi H' Q' _ _ q=>q H' (g7.refl _)) ?_ ?_]
   .intro i H3 Q3 e _ I q3;let#[t,u,e1,D]:=Gb y e;rw[e1];omega;exact#[t,_,_,_,Z,Z,.mk ((j.trans I) _ _ D),je,q3 H3 (g7.refl _)]
   .intro pc H3 I n3 l3;rw[Hv yl]at l3;rw[JA];calc#[_,_,I _ _ o,l3,by rw[qm,qm,qm];calc sz _ ∅,iH.of λpw H4 s4 n4 l4=>?_];let d:g7 H H4:=j.trans (I.trans s4);rw[<-sJ]at l4;refine#[pw,_,Z,l4,λw hw=>?_,tk.same d,λws r H5 pm V sl W nr lr=>?_]
    .rcases rJ.mp hw with h | h
     .rw[<-hk]at h;exact wo w (uK.mp h).1
     .exact wn w ((mc w).mp h).1
    .rw[<-hk]at pm;let en:=Zoa ho hn mc nd aa pm V;rw[en]at lr;let f5:=sl _ _ (d _ _ f) Z;calc#[p,_,S,_,Z,f5,T.ad,T.ah,(by show 4<1000;decide),?_];rw[show iq (Str.ofString "own_lacking") (.ref r) (sF l m la M)=sF l m r M from LB];ac_rfl;calc#[p,_,S,_,Z,qu,T.ad,T.aa,(by show 4<1000;decide),sz 2 ⋯,jF.of λt H7 F n7 l7=>?_];rw[show iq (Str.ofString "own_text") (tx l2) (sF l m r M)=sF l2 m r M from Mv]at F;let z:p≠r:=qN (d _ _ f) nr;refine q t r H7 ?_ #[S,F _ _ qu] ((Nw.of nr).same d) (F _ _ (by rw[qh (qy z),qh (qy z)];calc lr)) l7 ?_
     .exact d.chg.trans (sl.chg.trans ((qV.upd {}).trans ((qV.upd {}).trans F.chg)))
     .exact((W.upd f5 Z Z).upd qu Z Z).same F
def Zsv:g9 P w K mg base qK 2 a.f_L0 a.d_L0 ["shelf","given"] (sp_L0 K a):=by calc T.fh.u.ok Zro (λC A c s H z Q E d h=>?_);let#[p,g,j,m,F,Z,t,q]:=h;calc#[_,(qk (qz (qC (B0 T) (hM d) Z T.dM qo (qa (tO (pv 0) T.aq T.cn (ZsB T) (hM d) T.fX.b .nil qo) qc)))),?_];let#[b,y,x,v,G]:=t;let#[l,f]:=b.fld;let#[k,i,_]:=Hn b.nm v;omega;calc#[p,l,_,Z,f,tS,p,j,m,F,Z,b,∅,λr D e B o=>#[r,_,Z,o,k,i,λn u=>q n (e.trans u)]]
def Zr1:g9 P w K mg base qK 2 a.f_MJ a.d_MJ ["_law_cell"] (sp_MJ K a):=by
 calc T.gu.u.ok DY (λA2 A m s H vs Q E k h=>?_);let⟨c,rfl,q⟩:=h;refine⟨_,(ql (vX (i:=1) DY.nd Z (Or.inr Z) (qF (l:=[97,98,99,100,101,102,103,104,105,106,107,108,109,110,111,112,113,114,115,116,117,118,119,120,121,122]) nofun))
  (ql (vX (i:=2) DY.nd Z (Or.inr Z) (qB t7 qr (qB tK (qC (xB T) (hM k) Z T.dW qo (qa (pv 0) (qa qr qc))) qr)))
  (ql (vX (i:=3) DY.nd Z (Or.inr Z) (qB tK (qC (xB T) (hM k) Z T.dW qo (qa (pv 0) (qa qr qc))) (qB DN qr (qB yM qr (pv 2)))))
  (qk (qz (uu wy BW B4 Ci (qF (l:=[]) nofun) (qa (uq (N:=["_law_k","_law_first","_law_letters","_law_step_here"]) (ix:=[O,U 3,U 1,U 2]) Z (tU Z) Z (zA Z T.d5 (qa (qB t7 qr (qB tK (qC (xB T) (hM k) Z T.dW qo (qa (pv 0) (qa qr qc))) qr)) qc)) (λ_ _ _ _=>(rp (i:=0) (show (["_law_k","_law_first","_law_letters","_law_step_here"]:AJ).Nodup from by decide +kernel) Z (Or.inl Z) (Or.inr Z))) (λ_ _ _ _=>uv) (λ_ _ _ _=>(re yO (pv 2) (qB t7 (pv 1) (qB yM (pv 3) (pv 0))) (λ_ _=>rfl)))) qc))))))),?_⟩
 omega;calc#[_,_,Z,?_];let v:=Gp c 1;generalize iQ c 1=r at v;omega;calc#[⋯,_,_,Z,?_];let u:=Gp c 2;generalize iQ c 2=r1 at u;omega;let M:=tY r (show (8:Int)≠0 by decide);let b2:=ue r (show (0:Int)<8 by decide);generalize r % 8=st at M b2;let y:0<26-3*(1+st):=by lia
 calc#[.inl #[⋯,⋯],y,?_];let b3:=tY r1 (show 26-3*(1+st)≠0 by lia);let I:=ue r1 y;generalize r1 % (26-3*(1+st))=fi at b3 I;calc#[Z,_,_,Z,?_];let n:=Gp c 3;generalize iQ c 3=r2 at n;omega;let b5:=tY r2 (show (4:Int)≠0 by decide);let S:=ue r2 (show (0:Int)<4 by decide);generalize r2 % 4=t at b5 S;let b:∀i:Nat,i<(1+t).toNat->0<=fi+(1+st)*(i:Int)/\(fi+(1+st)*(i:Int)).toNat<26:=λi e=>by
  let d:(i:Int)<=3:=by lia
  let G:0<=(1+st)*(i:Int):=Int.mul_nonneg ∅ ∅;let hM:(1+st)*(i:Int)<=(1+st)*3:=Int.mul_le_mul_of_nonneg_left d ∅;constructor<;>lia
 refine#[⋯,_,Z,∅,∅,ib.rangeA (λi=>tx [rn.getD (fi+(1+st)*i).toNat 0]) ∅ ?_ ?_]
 .intro i o Q1 e C L;omega;let B:=b i e;let d:(i:Int)<=3:=by lia
  let G:0<=(1+st)*(i:Int):=Int.mul_nonneg ∅ ∅;let hM:(1+st)*(i:Int)<=(1+st)*3:=Int.mul_le_mul_of_nonneg_left d ∅;calc#[.inl #[∅,∅],rn,_,rn.getD (fi+(1+st)*i).toNat 0,Z,Z,by rw[sizeLine_eq];decide,?_,L o (g7.refl _)];rw[Int.zero_add];let g:(fi+(1+st)*(i:Int)).toNat<⇑rn:=by show _<26;lia
  unfold tI wI;rw[qg ∅,qg (show fi+(1+st)*(i:Int)<(⇑rn:Int) by show _<(26:Int);lia),Bc,sw,rD g];rfl
 .intro p o C n1 F;let z:((List.range (1+t).toNat).map λi:Nat=>[rn.getD (fi+(1+st)*i).toNat 0]).flatten=(List.range (1+t).toNat).map λi:Nat=>rn.getD (fi+(1+st)*i).toNat 0:=by rw[<-List.flatMap_def,<-List.map_eq_flatMap]
  refine#[[],p,(List.range (1+t).toNat).map (λi:Nat=>[rn.getD (fi+(1+st)*i).toNat 0]),Z,Z,?_,?_,?_]
  .rw[F,rO];rfl
  .rw[<-List.length_flatten,z];simp;lia
  .rw[G0,z];let f:⇑((List.range (1+t).toNat).map λi:Nat=>rn.getD (fi+(1+st)*i).toNat 0)=(1+t).toNat:=by rw[qm,uY]
   refine q _ o (Zqh (by rw[f];lia) (by rw[f];lia) ?_ ?_) (by rw[f];lia) (by rw[f];lia) C
   .intro x D;let#[i,e,Z]:=rj.mp D;let B:=b i (sT.mp e);rw[F7 _ B.2];exact ZlY ∅ ∅
   .rw[wf];calc List.Pairwise.imp_of_mem ?_ List.pairwise_lt_range;intro i j e V aa;let W:=b i (sT.mp e);let X:=b j (sT.mp V);rw[F7 _ W.2,F7 _ X.2];have:(1+st)*(i:Int)<(1+st)*(j:Int):=Int.mul_lt_mul_of_pos_left ∅ ∅
    lia
def MA:g9 P w K mg base qK 2 a.f_row a.d_row ["_law_cell","_law_kinds_here","_law_size"] (sp_row K a):=by
 calc T.gO.u.ok yP (λA2 A o s H vs Q E C h=>?_);let D:=C.units;let⟨c,m,n,rfl,S,M,N,W,q⟩:=h;refine⟨_,(ql (qM (i:=3) yP.nd (qF (l:=[]) nofun))
  (ql (qM (i:=4) yP.nd (pv 0))
  (ql (sW sS Z (zA Z T.d5 (qa (pv 2) qc)) (rp (i:=5) yP.nd Z (Or.inl Z))
  (ql (qM (i:=6) yP.nd (pv 4))
  (ql (qZ (PW.pt (yk (ri (rE (K:=K) Z D) (pv 4) qr (qT _)) (zT (ri (rE (K:=K) Z D) (pv 4) (Du C1 qr) (qT _))))) (qk (qM (i:=6) yP.nd (qC (xB T) (hM C) Z T.dW qo (qa (pv 0) (qa (qB t7 qr (pv 5)) qc))))) qY)
  (ql (qM (i:=3) yP.nd (qB sL (pv 3) (re yO (pv 1) (qB tK (pv 6) (rq (sk (K:=K) Z) Z T.dL sj (qa (pv 1) qc))) (λ_ _=>rfl))))
  (qk (qM (i:=4) yP.nd (qB yi (pv 4) (rq (sk (K:=K) Z) Z T.dL sj (qa (pv 1) qc)))))))))
  (qk (qz (pv 3)))))),?_⟩
 omega;refine#[n,Z,∅,∅,io.range (λi σ I=>I=H/\∃(f:p9)(le:Int)(t z:Option V),σ=[U (.int c),U (tx m),U (.int n),U (tx f),U (.int le),t,z]/\⇑f=i/\∀x∈f,x∈m) #[Z,[],c,O,O,Z,Z,{}] ?_ ?_]
 .rintro i σ G X ⟨rfl,f,le,t,z,rfl,k,u⟩;let hM:⇑m<=1000:=by lia
  let sz:⇑m<=sizeLine:=qJ hM (by rw[sizeLine_eq];decide);let p:⇑f+1<=sizeLine:=by rw[sizeLine_eq];lia
  let g:(0:Int)<⇑m:=by lia
  let y:CDiv le ⇑m:=#[g,∅];let e:∀x:Int,∃v,tI m (x % ⇑m)=U v/\v∈m:=λx=>Bu (tY _ ∅) (ue _ g);let B:∀b∈m,∀x∈f++[b],x∈m:=λb L x F=>by
   rcases rJ.mp F with h | h
   .exact u x h
   .rw[qR.mp h];exact L
  omega;refine .inl #[Z,i9 (λh=>ly #[_,_,Z,?_]) (λh=>.inl #[Z,i9 (λh=>#[_,_,Z,?_]) (λh=>?_)])]
  .generalize iQ c (700+(0+(i:Int)))=r;omega;let#[b,d,j]:=e r;exact#[_,_,Z,tT hM,g,m,_,b,Z,Z,sz,d,p,_,_,Z,tT hM,y,by trivial,_,_,_,_,Z,by simp[k],B b j]
  .generalize iQ c (700+(0+(i:Int)))=r;omega;let#[b,d,j]:=e r;exact#[_,_,Z,tT hM,g,m,_,b,Z,Z,sz,d,p,_,_,Z,tT hM,y,by trivial,_,_,_,_,Z,by simp[k],B b j]
  .obtain⟨b,d,j⟩:=e le;exact#[_,_,Z,tT hM,g,m,_,b,Z,Z,sz,d,p,_,_,Z,tT hM,y,by trivial,_,_,_,_,Z,by simp[k],B b j]
 .rintro σ G ⟨rfl,f,le,t,z,rfl,k,u⟩;omega;calc q f ∅ u
def Zr0:g9 P w K mg base qK 2 a.f_MK a.d_MK ["_law_cell","_law_many"] (sp_MK K a):=by
 calc T.gx.u.ok y9 (λA2 A G s H vs Q E d h=>?_);let A5:=d.units;let⟨c,k,rfl,k1,k4,q⟩:=h;refine⟨_,(ql (vX (i:=2) y9.nd Z (Or.inr Z) (qF (l:=[97,98,99,100,101,102,103,104,105,106,107,108,109,110,111,112,113,114,115,116,117,118,119,120,121,122]) nofun))
  (qp (ql (vX (i:=3) y9.nd Z (Or.inr Z) (uu wy BW B4 Ci (qF (l:=[]) nofun) (qa (uq (N:=["_law_j","_law_cell","_law_letters"]) (ix:=[O,U 0,U 2]) Z (tU Z) Z (zA Z T.d5 (qa qr qc)) (λ_ _ _ _=>(rp (i:=0) (show (["_law_j","_law_cell","_law_letters"]:AJ).Nodup from by decide +kernel) Z (Or.inl Z) (Or.inr Z))) (λ_ _ _ _=>uv) (λ_ _ _ _=>(re yO (pv 2) (qB tK (qC (xB T) (hM d) Z T.dW qo (qa (pv 1) (qa (qB t7 qr (pv 0)) qc))) qr) (λ_ _=>rfl)))) qc)))
  (qp (ql (qZ (ri (rE (K:=K) Z A5) (qB tK (qC (xB T) (hM d) Z T.dW qo (qa (pv 0) (qa qr qc))) qr) qr (qT _)) (qk (qz (uq (N:=["_law_k","_law_base","_law_cell"]) (ix:=[O,U 3,U 0]) Z (tU Z) Z (zA Z T.d5 (qa (pv 1) qc)) (λ_ _ _ _=>(rp (i:=0) (show (["_law_k","_law_base","_law_cell"]:AJ).Nodup from by decide +kernel) Z (Or.inl Z) (Or.inr Z))) (λ_ _ _ _=>uv) (λ_ _ _ _=>(tX vm (pv 1) uo (tM (qB t7 qr (qB tK (qB t7 (pv 0) (qC (xB T) (hM d) Z T.dW qo (qa (pv 2) (qa qr qc)))) qr)))))))) qY)
  (qp (ql (qM (i:=4) y9.nd (qB t7 qr (qB tK (qC (xB T) (hM d) Z T.dW qo (qa (pv 0) (qa qr qc))) qr)))
  (qp (ql (qM (i:=5) y9.nd (qB tK (qC (xB T) (hM d) Z T.dW qo (qa (pv 0) (qa qr qc))) (pv 4)))
  (qp (ql (qM (i:=6) y9.nd (uC qc))
  (qp (ql (sW sS Z (zA Z T.d5 (qa (pv 1) qc)) (rp (i:=7) y9.nd Z (Or.inl Z))
  (ql (qM (i:=8) y9.nd (re yO (pv 2) (qB tK (qB t7 (GA (K:=K) Z wy PySem.F.slot_str_index PySem.F.type_str_index ZlS (pv 2) (qa (re yO (pv 3) (pv 5) (λ_ _=>rfl)) qc)) (pv 7)) qr) (λ_ _=>rfl)))
  (qk (rR (uu xA zb yz ye (pv 6) (qa (qB sL (qB sL (tX vm (pv 3) uo (tM (pv 5))) (pv 8)) (tX vm (pv 3) (tM (qB t7 (pv 5) qr)) (tM (pv 4)))) qc))))))
  (qp (qk (qz (pv 6))))))))))))))))),?_⟩
 omega;ac_rfl;refine#[Z,_,Z,⋯,⋯,ib.rangeA (λi=>tx [rn.getD (iQ c (20+i) % 26).toNat 0]) ⋯ ?_ ?_]
 .intro i H1 Q1 hi g q1;omega;rw[Int.zero_add];refine#[c,20+i,Z,(by show (0:Int)<26;decide),rn,_,_,Z,Z,sz 26 ⋯,(Eu (tY _ ⋯) (ue _ ⋯)).2,q1 H1 (g7.refl _)]
 intro p H1 g n1 F;let ef:((List.range 8).map λi:Nat=>[rn.getD (iQ c (20+i) % 26).toNat 0]).flatten=(List.range 8).map λi:Nat=>rn.getD (iQ c (20+i) % 26).toNat 0:=by rw[<-List.flatMap_def,<-List.map_eq_flatMap]
 refine#[[],p,(List.range 8).map (λi:Nat=>[rn.getD (iQ c (20+i) % 26).toNat 0]),Z,Z,?_,?_,?_]
 .rw[show ((8:Int)).toNat=8 from Z]at F;rw[F,rO];rfl
 .rw[<-List.length_flatten,ef];simp
 rw[G0,ef];obtain⟨B,eB,lB,t⟩:∃B,B=((List.range 8).map λi:Nat=>rn.getD (iQ c (20+i) % 26).toNat 0)/\⇑B=8/\∀x∈B,x∈rn:=#[_,Z,by rw[qm,uY],λx e=>by let#[i,_,Z]:=rj.mp e;calc(Eu (tY _ ⋯) (ue _ ⋯)).1]
 rw[<-eB];clear eB ef F n1;ac_rfl;calc#[c,17,Z,(by show (0:Int)<3;decide),?_];by_cases z:iQ c 17 % 3=0
 .refine BE z (iB #[_,Z,∅,∅,?_]);rw[zw];refine ib.rangeA (λi=>tx (B.take (1+(i+iQ c 18) % 8).toNat)) ∅ ?_ ?_
  .intro i C Q2 hi m q2;omega;rw[Int.zero_add];calc#[c,18,Z,(by show (0:Int)<8;decide),_,Z,B,Z,sz _ ∅,?_];let M:=tY ((i:Int)+iQ c 18) (show (8:Int)≠0 by decide);obtain⟨y,o⟩:∃y:Nat,1+((i:Int)+iQ c 18) % 8=(y:Int):=#[(1+((i:Int)+iQ c 18) % 8).toNat,∅];rw[o]at q2 ⊢;rw[CK];rw[zw]at q2;exact q2 C (g7.refl _)
  .intro r C m W V;calc q ((List.range k).map λi:Nat=>B.take (1+((i:Int)+iQ c 18) % 8).toNat) r C (g.trans m) (g.free W) (by rw[V,rO];rfl) (by rw[qm,uY]) λn X=>?_;let#[i,_,Z]:=rj.mp X;let M:=tY ((i:Int)+iQ c 18) (show (8:Int)≠0 by decide);let a2:=ue ((i:Int)+iQ c 18) (show (0:Int)<8 by decide);exact Jh (by rw[rL];lia) (by rw[rL];lia) λx e=>t x (tH e)
 .refine uQ z (hU (qH ?_));omega;calc#[c,18,Z,(by show (0:Int)<8;decide),?_];dsimp only[wY,Cq];obtain⟨S,eS,S1,S8⟩:∃S:Nat,1+iQ c 18 % 8=(S:Int)/\1<=S/\S<=8:=by let M:=tY (iQ c 18) (show (8:Int)≠0 by decide);let a2:=ue (iQ c 18) (show (0:Int)<8 by decide);exact#[(1+iQ c 18 % 8).toNat,∅,∅,∅]
  rw[eS];ac_rfl;calc#[c,19,Z,(by show (0:Int)<(S:Int);lia),?_];dsimp only;obtain⟨A,eA,hA⟩:∃A:Nat,iQ c 19 % (S:Int)=(A:Int)/\A<S:=by let M:=tY (iQ c 19) (show (S:Int)≠0 by lia);let a2:=ue (iQ c 19) (show (0:Int)<(S:Int) by lia);exact#[(iQ c 19 % (S:Int)).toNat,∅,∅]
  rw[eA];ac_rfl;calc#[rM _,iH.of λv C m W V=>qH ?_];let f:H v=O:=g.free W;omega;calc#[_,Z,∅,∅,?_];rw[zw];refine io.range (Lw H v c k B S A) #[_,_,[],Z,g.trans m,V,Z,{}] ?_ ?_
  .rintro i σ H3 hi ⟨v7,v8,N,rfl,s3,D,L,I⟩;omega;let#[x,e,xm]:=Bu (xs:=B) (i:=(A:Int)) ∅ ∅;calc#[Z,B,_,x,Z,Z,sz _ ∅,e,rn,[x],Z,Z,Zl4 (t x xm),λj _ _=>#[⋯,rn,_,_,Z,Z,sz 26 ⋯,(Eu (tY _ ⋯) (ue _ ⋯)).2,.inl #[Z,_,.mk D],_,Z,B,Z,sz _ ∅,?_]];obtain⟨y,o⟩:∃y,y=rn.getD (((j:Int)+(0+(i:Int))) % 26).toNat 0:=#[_,Z];let ym:y∈rn:=by rw[o];exact(Eu (tY _ ⋯) (ue _ ⋯)).1
   rw[<-o];let e1:tW B O (U (A:Int))=B.take A:=CK B A;let e2:tW B (U ((A:Int)+1)) (U (S:Int))=(B.drop (A+1)).take (S-(A+1)):=Nc B (A+1) S;refine#[?_,_,Z,_,Z,B,Z,sz _ ∅,?_,?_]
   .rw[e1,rL];exact sz _ ∅
   .rw[e1,e2,qP,rL,rL,tG,r6];exact sz _ ∅
   rw[e1,e2];calc#[v,_,_,Z,Z,D,by rw[qm];calc sz _ ∅,_,_,N++[B.take A++[y]++(B.drop (A+1)).take (S-(A+1))],Z,ip s3 f,by rw[qu,sJ];rfl,by rw[qP,L];rfl,λn X=>?_];rcases rJ.mp X with z | z
   .exact I n z
   .rw[qR.mp z];refine Jh ?_ ?_ λu b=>?_
    .rw[qP,qP,r6];lia
    .rw[qP,qP,r6,rL,rL,tG];lia
    .rcases rJ.mp b with b | b
     .rcases rJ.mp b with b | b
      .exact t u (tH b)
      .rw[qR.mp b];exact ym
     .exact t u (ua (tH b))
  .rintro σ H3 ⟨v7,v8,N,rfl,s3,D,L,I⟩;walk_at "k";calc q N v H3 s3 f D L I
def Fk:g9 P w K mg base qK 2 a.f_MM a.d_MM ["_law_answer"] (sp_MM K a):=by
 calc T.fV.u.ok Gj (λA2 A d s H vs Q E f h=>?_);let⟨t,c,g,ys,zs,n,p,rfl,V,S,C,v,z,j,m,q⟩:=h;refine⟨_,(ql (Zpl (pv 0) (Zpo Z (Ig (rp (i:=1) Gj.nd Z (Or.inl Z)) (Ig (rp (i:=2) Gj.nd Z (Or.inl Z)) ZnV))))
  (qk (qz (qB sL (qB sL (qC (CT T) (hM f) Z T.eQ qo (qa (uq (N:=["_law_row_here"]) (ix:=[O]) Z (tU Z) Z (tQ (K:=K) Z (pv 1)) (λ_ _ _ _=>(rp (i:=0) (show (["_law_row_here"]:AJ).Nodup from by decide +kernel) Z (Or.inl Z) (Or.inr Z))) (λ_ _ _ _=>uv) (λ_ _ _ _=>(re (t8 (K:=K) Z) (pv 0) qr (λ_ _=>rfl)))) qc)) (qF (l:=[32,47,32]) nofun)) (qC (CT T) (hM f) Z T.eQ qo (qa (uq (N:=["_law_row_here"]) (ix:=[O]) Z (tU Z) Z (tQ (K:=K) Z (pv 2)) (λ_ _ _ _=>(rp (i:=0) (show (["_law_row_here"]:AJ).Nodup from by decide +kernel) Z (Or.inl Z) (Or.inr Z))) (λ_ _ _ _=>uv) (λ_ _ _ _=>(re (t8 (K:=K) Z) (pv 0) qr (λ_ _=>rfl)))) qc)))))),?_⟩
 let sz:∀k:Nat,k<=1000000->k<=sizeLine:=λk h=>qJ h (by rw[sizeLine_eq];decide);let#[G,L,F]:=j.le;let#[M,B,u]:=m.le;let n1:=j.1;let n2:=m.1;let X:=D8 (z4 [32] (n.map (·.1)));let D:=D8 (z4 [32] (p.map (·.1)));rw[r6]at X D;omega;calc#[t,_,Z,.mk V,Z,_,_,Z,_,_,Z,Z,c,Z,Fe S v ∅ λx H1 e e1 o=>#[x,_,Z,o,G,L,F,λH2 b=>jT #[sz _ (by show _+3<=1000000;lia),g,Z,Fe ((e.trans b) _ _ C) (z.same (e.trans b)) ∅ λy H3 W e3 l3=>#[y,_,Z,l3,M,B,u,λr I=>jT #[sz _ ?_,q r (e.trans (b.trans (W.trans I)))]]]]];rw[qP];show _+3+_<=1000000
 lia
def Mm:g9 P w K mg base qK 2 a.f_NB a.d_NB ["_law_cell"] (sp_NB K a):=by
 calc T.gJ.u.ok ZqP (λf A b s H e Q E d h=>?_);let⟨c,rfl,q⟩:=h;refine⟨_,(ql (qZ (ZlB Nf CD qr (pv 0) qr) (qk (qz (qC (xB T) (hM d) Z T.dW qo (qa (pv 0) (qa qr qc))))) qY)
  (qk (qz (pv 0)))),?_⟩
 omega;calc i9 (λ_=>i9 (λ_=>#[c,800,Z,q _]) λ_=>q _) λ_=>hU (q _)
def Zsl:g9 P w K mg base qK 3 a.f_LM a.d_LM ["thing","kinds"] (sp_LM K a):=by
 calc T.fA.u.ok Zra (λj A b s H k Q E d h=>?_);let i:=d.units;let#[l,m,Z,c,q]:=h;calc#[_,(qk (qz (xW (qC (D5 T) (hM d) Z T.eI qo (qa (pv 0) (qa (pv 1) (qa qr qc)))) (xQ (tF (rE (K:=K) Z i) (rq (sk (K:=K) Z) Z T.dL sj (qa (pv 0) qc)) qr (qT _)))))),?_];omega;refine#[l,m,1,Z,c,λg f=>(i9 (λh=>?_) (λh=>?_))]
 .refine#[_,_,Z,tT c,.inl #[Z,?_]];let e:=q g f;unfold Bk at e;rw[h,yh]at e;rw[qe qO];simpa using e
 .let e:=q g f;unfold Bk at e;rw[yI.mpr h,vZ]at e;calc e
def EM:g9 P w K mg base qK 3 a.f_LB a.d_LB ["thing"] (sp_LB K a):=by calc T.dN.u.ok Zri (λi A b s H j Q E f h=>?_);let#[l,Z,d,g,q]:=h;calc#[_,(qk (qZ (vG (uy (qC (Zsh T) (hM f) Z T.fL qo (qa (pv 0) qc)))) (qk wD) qY)),?_];omega;calc#[l,Z,d,λe c=>?_];rw[g];calc hU (q e c)
def Zsj:g9 P w K mg base qK 3 a.f_LP a.d_LP ["thing","kinds","most"] (sp_LP K a):=by calc T.fB.u.ok Zq8 (λj A c s H k Q E g h=>?_);let#[l,m,b,Z,e,i,q]:=h;calc#[_,(qk (qZ (vG (uy (qC (D5 T) (hM g) Z T.eI qo (qa (pv 0) (qa (pv 1) (qa (pv 2) qc)))))) (qk wD) qY)),?_];omega;calc#[l,m,b,Z,e,λf d=>?_];rw[i];calc hU (q f d)
def KG:g9 P w K mg base qK 3 a.bI a.cP ["self"] (sp_KF K a):=by
 calc T.eR.u.ok Cd (λA2 A y s H vs Q E o h=>?_);let⟨p,l,m,rfl,b,g,q⟩:=h;refine⟨_,(ql (qM (i:=1) Cd.nd (uC qc))
  (ql (qM (i:=2) Cd.nd (rX (pv 0) T.aZ T.aC (Iw T) (hM o) T.fF.b .nil qo (qa qr qc)))
  (ql (sW sS Z (En Z T.d5 (qa qr (qa (qB t7 (tO (pv 0) T.aZ T.aE (Zsw T) (hM o) T.gj.b .nil qo) qr) qc))) (rp (i:=3) Cd.nd Z (Or.inl Z))
  (ql (qM (i:=4) Cd.nd (rX (pv 0) T.aZ T.aC (Iw T) (hM o) T.fF.b .nil qo (qa (pv 3) qc)))
  (ql (rR (uu xA PySem.F.slot_list_extend PySem.F.type_list_extend Zkg (pv 1) (qa (qC (ZrX T) (hM o) Z T.gC qo (qa (pv 2) (qa (pv 4) (qa (rA (K:=K) Z (pv 0) Z) qc)))) qc)))
  (qk (qM (i:=2) Cd.nd (pv 4))))))
  (qk (qz (pv 1)))))),?_⟩
 let#[c,b]:=b;let j:=g.l40;let z:=g.m4;omega;calc#[rM _,iH.of λx H1 k nf G=>?_];calc#[p,c,_,Z,k _ _ b,BN nofun nofun,p,l,m,0,Z,#[c,k _ _ b],g,rM _,λt H2 n X e2=>?_];calc#[p,c,_,Z,(k.trans n) _ _ b,BN nofun nofun,p,l,m,Z,#[c,(k.trans n) _ _ b],g,?_];omega;let M:((⇑l:Nat)+1+1-1:Int).toNat=⇑l+1:=by lia
 calc#[_,_,Z,#[∅,∅,∅,∅],?_];rw[M];refine io.range (Lb H p x l m) #[_,_,t,Z,k.trans n,n _ _ G,e2,qN G X] ?_ ?_
 .rintro i σ I hi ⟨v3,V,t,rfl,d,u,D,B⟩;let e1:(1+(i:Int))=((i+1:Nat):Int):=by lia
  let ll:=FA (l:=l) (m:=m) (i:=i) z j ∅;let W:=FA (l:=l) (m:=m) (i:=i+1) z j ∅;rw[JW,qP]at W;rw[e1];omega;calc#[p,c,_,Z,d _ _ b,BN nofun nofun,p,l,m,i+1,Z,#[c,d _ _ b],g,∅,λq1 H4 v N F=>?_];let e:=v _ _ u;let f:x≠q1:=qN u N;calc#[.inl #[Z,_,.mk e],p,_,c,_,_,Z,(d.trans v) _ _ b,T.aZ,T.aA,Zi7,?_];calc#[t,q1,iu l i,iu l (i+1),m,Z,v _ _ D,F,by have:=KQ l i;lia,z,λw S=>by have:=(xN (l:=l) ∅).mp S;lia,λr H5 C n5 L=>?_];refine#[x,r,_,_,Z,Z,C _ _ e,L,by rw[qm,qm,sizeLine_eq];lia,_,_,q1,Z,ip (d.trans (v.trans C)) nf,?_,?_,f]
  .rw[qu,JW,sJ]
  .rw[qh (qy f)];exact C _ _ F
 .rintro σ I ⟨v3,V,t,rfl,d,u,D,B⟩;omega;calc q x I d u
def Fr:g9 P w K mg base qK 3 a.f_L4 a.d_L4 ["thing"] (sp_L4 K a):=by calc T.eZ.u.ok Zrl (λk A c s H m Q E d h=>?_);let i:=d.units;let#[n,Z,b,q]:=h;calc#[_,(qk (qz (xW (qC (D5 T) (hM d) Z T.eI qo (qa (pv 0) (qa (Bb Z T.c_KD) (qa (yD Z T.c_KI) qc)))) (xQ (tF (zx (K:=K) Z i) (pv 0) (qF (l:=[]) nofun) (qT _)))))),?_];omega;rw[Fs];let j:=B6 b;let g:=G7 b;unfold rH at b;rw[rB]at b;calc#[_,rn,8,Z,∅,λf e=>?_];rw[b.1];calc iB (J5 g.1 (q f e))
def Zse:g9 P w K mg base qK 3 a.f_LX a.d_LX ["word"] (sp_LX K a):=by
 calc T.fP.u.ok Zq4 (λj A b s H k Q E c h=>?_);let i:=c.units;let⟨g,rfl,d,q⟩:=h;refine⟨_,(ql (qZ (uy (qC (HL T) (hM c) Z T.eJ qo (qa (pv 0) qc))) (qk (qz (uZ JH Z T.gW NG (qa (pv 0) qc)))) qY)
  (qk (qz (HW (ri (rE (K:=K) Z i) (pv 0) (Bb Z T.c_KW) (qT _)) (qF (l:=[]) nofun) (pv 0))))),?_⟩
 omega;calc#[g,Z,d,λf e=>hU ?_];rw[Kv];try unfold DA
 calc uR d.nd (hU (q f e))
def JY:g9 P w K mg base qK 3 a.f_MH a.d_MH ["lesser","longer","reason"] (sp_MH K a):=by
 calc T.gc.u.ok Ma (λA2 A f s H vs Q E M h=>?_);let⟨B,L,rs,m,rfl,hL,d,I,b,tk,q⟩:=h;refine⟨_,(ql (qM (i:=3) Ma.nd (re (sQ (K:=K) Z) (qC (MP T) (hM M) Z T.gA qo (qa (pv 0) (qa (pv 1) qc))) qr (λ_ _=>rfl)))
  (qk (qz (uC (qa (yb (qa (pv 3) (qa (yb (qa (pv 2) (qa (GA (K:=K) Z wy PySem.F.slot_str_find PySem.F.type_str_find NC (pv 1) (qa (pv 3) qc)) qc))) qc))) qc))))),?_⟩
 omega;calc#[B,L,Z,hL,d,tk,λF r H1 pw p u j nr G=>?_];walk_at "rd?";obtain⟨w0,F',rfl⟩:∃w0 F',F=w0::F':=by
  have:L∈F:=(p L).mpr #[qI.refl L,λz=>by have:=z.len;have:=d.len;lia];cases F with
  | nil=>cases this
  | cons x F'=>exact#[x,F',Z]
 let D:=(p w0).mp sA;let g:∀w,sZ B L w->¬iM w w0:=λw hw v=>by
  rcases qS.mp ((p w).mpr hw) with rfl | h
  .exact CW v
  .exact HZ v ((u9.mp pw).1 w h)
 let eF:=Zmc d I b D g;calc#[r,_,_,_,Z,Z,.mk G,je,Z,L,w0,Z,Z,λk V=>#[sz _ ⋯,jF.of λX H2 t n2 l2=>#[sz _ ⋯,jF.of λC H3 o n3 l3=>#[sz _ ⋯,iH.of λN S l W l4=>?_]]]];let ek:k=((wT L w0:Nat):Int):=by
  rcases V with⟨_,no⟩|⟨i,rfl,e,mn⟩
  .exact NR D.1 no
  .rw[IT e mn]
 let c:=t.trans (o.trans l);calc q [.ref C] N S (u.trans c.l) (j.same c) ((((Nw.of W).same o).same t).l u) l4 ?_;subst ek;unfold xv;rw[eF];refine#[Z,λi y n=>?_]
 match i,n with
 | 0,n=>
  cases n;calc#[_,Z,C,X,Z,l _ _ l3,(o.trans l) _ _ l2]
def LQ:g9 P w K mg base qK 3 a.f_MN a.d_MN ["lesser","longer","kinds","reason"] (sp_MN K a):=by
 calc T.ge.u.ok B8 (λA2 A al s H vs Q E hr h=>?_);let af:=u7 hr;let⟨g,L,rs,m,rfl,hL,ex,hm,W,m4,tk,q⟩:=h;refine⟨_,(ql (vX (i:=4) B8.nd Z (Or.inr Z) yV)
  (qp (ql (sW sS Z (tQ (K:=K) Z (qC (MP T) (hM hr) Z T.gA qo (qa (pv 0) (qa (pv 1) qc)))) (rp (i:=5) B8.nd Z (Or.inl Z))
  (ql (qM (i:=6) B8.nd (yb (qa (pv 3) (qa (pv 5) (qa (GA (K:=K) Z wy PySem.F.slot_str_find PySem.F.type_str_find NC (pv 1) (qa (pv 5) qc)) qc)))))
  (qk (sW sS Z (Be (pv 2)) (rp (i:=7) B8.nd Z (Or.inl Z))
  (qk (sW sS Z (tQ (K:=K) Z (uC (qa (qB sL (pv 5) (pv 7)) (qa (qB sL (pv 7) (pv 5)) qc)))) (rp (i:=8) B8.nd Z (Or.inl Z))
  (qk (qZ (uy (qC (ZrV T) (hM hr) Z T.gD qo (qa (pv 1) (qa (pv 8) qc)))) (qp (qk (yu af (pv 4) (pv 8) (pv 6) Z))) qY))))))))
  (qk (qz (uq (N:=["word","found"]) (ix:=[O,U 4]) Z (tU Z) Z (tQ (K:=K) Z (qC (Dz T) (hM hr) Z T.dO qo (qa (uZ (Zji Z) Z T.fE ya (qa (pv 4) qc)) qc))) (λ_ _ _ _=>(rp (i:=0) (show (["word","found"]:AJ).Nodup from by decide +kernel) Z (Or.inl Z) (Or.inr Z))) (λ_ _ _ _=>uv) (λ_ _ _ _=>(yb (qa (pv 0) (qa (uw af (pv 1) (pv 0) (λ_ _=>rfl)) qc)))))))))),?_⟩
 omega;intro pd ab;ac_rfl;let s0:g7 H (upd H pd (.dK [])):=rm ab;let h0:upd H pd (.dK []) pd=U (.dK []):=qu;generalize upd H pd (.dK [])=H0 at s0 h0;calc#[g,L,Z,hL,ex,tk.same s0,λF pF H1 pw mF sl ah nF lF=>?_];let d1:=sl _ _ h0 Z;let an:pd≠pF:=λz=>by rw[z,lF]at d1;cases d1
 let FL:⇑F<=82:=by
  let nd:F.Nodup:=E6 pw;let hs:∀w∈F,w∈ut L ⇑L:=λw v=>M0.mpr ((Iq ex).mp ((mF w).mp v)).1;have:=F9 F _ nd hs;rw[E5]at this
  lia
 refine#[pF,Z,#[_,.mk lF],io.list (xs:=F.map tx) (Lp H1 pd g L m rs F) #[_,_,_,_,[],[],Z,λb o e _=>e,d1,#[Z,{},λw=>by simp,{}],{}] (λi σ H' _ hh=>by let#[_,_,_,_,_,_,_,k',_]:=hh;calc .mk (k' _ _ lF (qy an))) ?_ ?_]
 .rintro i x σ H2 hx ⟨v5,v6,v7,v8,f,l,rfl,k2,d2,B,n2⟩;obtain⟨sh,V,rfl⟩:∃sh,F[i]?=U sh/\x=tx sh:=by
   rw[se]at hx;cases e:F[i]? with
   | none=>rw[e]at hx;cases hx
   | some sh=>rw[e]at hx;exact#[sh,Z,(Option.some.inj hx).symm]
  let aa:=(mF sh).mp (sC V);let ar:=aa.1.len;let hi:i<⇑F:=(rY.mp V).1;omega;calc#[Z,L,sh,Z,Z,λr hr=>#[sz _ ⋯,jF.of λt1 H3 C n3 l3=>?_]];let er:r=((wT L sh:Nat):Int):=by
   rcases hr with⟨_,no⟩|⟨i,rfl,ap,mn⟩
   .exact NR aa.1 no
   .rw[IT ap mn]
  subst er;let d3:=C _ _ d2;refine#[m,Z,io.text (HM H1 pd g L m rs F t1 sh i) #[_,_,_,_,Z,λb o e u=>C _ _ (k2 b o e u),l3,d3,B.grow (λb us e=>C _ _ e) (λw _=>by simp),∅] ?_ ?_]
  .rintro j c σ H4 hc ⟨v7,v8,f,l,rfl,k4,t4,d4,i4,n4⟩;let aq:c∈m:=sC hc;let hj:j<⇑m:=(rY.mp hc).1;omega;calc#[sz _ ∅,sz _ ∅,sz _ ⋯,iH.of λpl H5 n n5 l5=>?_];let nl:pd≠pl:=qN d4 n5;refine#[pl,Z,#[_,.mk l5],io.list (xs:=[tx (sh++[c]),tx (c::sh)]) (NJ H1 pd g L m rs F t1 pl sh i j c) #[_,_,_,Z,λb o e u=>n _ _ (k4 b o e u),n _ _ t4,l5,n _ _ d4,i4.grow (λb us e=>n _ _ e) (λw _=>by simp),∅] (λk σ H' _ hh=>by let#[_,_,_,_,_,_,l',_]:=hh;calc .mk l') ?_ ?_]
   .rintro k y σ H6 hy ⟨v8,f,l,rfl,k6,D,l6,I,i6,n6⟩;obtain⟨z,hz,rfl,ez⟩:∃z,[sh++[c],c::sh][k]?=U z/\y=tx z/\(z=sh++[c]\/z=c::sh):=by
     match k,hy with
     | 0,hy=>cases hy;exact#[_,Z,Z,.inl Z]
     | 1,hy=>cases hy;exact#[_,Z,Z,.inr Z]
    let zl:⇑z=⇑sh+1:=by rcases ez with rfl | rfl<;>simp
    let ad:z≠[]:=λe=>by rw[e]at zl;simp at zl
    let hk:k<2:=(rY.mp hz).1;omega;calc#[L,z,Z,∅,∅,?_];let ac:∀w,w∈[sh++[c],c::sh].take (k+1)↔(w∈[sh++[c],c::sh].take k\/w=z):=λw=>by rw[Dp hz,rJ,qR]
    cases hb:CV L z with
    | false=>
     let nm:¬jS L z:=λh=>by rw[(Kc ad).mpr h]at hb;cases hb
     calc hU #[_,f,l,Z,k6,D,l6,I,i6.grow (λ_ _ e=>e) (λw mw=>?_),∅];rw[ac];constructor
     .rintro (h | h)
      .exact .inl h
      .exact .inr (.inl h)
     .rintro (h | h | h)
      .exact .inl h
      .exact .inr h
      .exact NR (h▸mw) nm
    | true=>
     let mz:=(Kc ad).mp hb;calc iB ?_;ac_rfl;let es:j7 g z=sh:=Zpw ex aa ez mz;let#[X,i7]:=i6.put (x:=z) (b:=t1) mz (by rw[es];calc D);let np:pd≠pl:=λe=>by rw[e,l6]at I;cases I
     let nt:t1≠pd:=λe=>by rw[e,I]at D;cases D
     let lp:=xq f (qf z) (.ref t1);refine#[pd,_,Z,jy.k (k:=qf z) I (sK (show _<9000 by lia) (sz 9000 (qG _))),_,ii f (qf z) (.ref t1),X,Z,λb o e u=>by rw[qh u];calc k6 b o e u,by rw[qh nt];calc D,by rw[qh (qy np)];calc l6,qu,i7.grow (λb us e=>?_) (λw _=>?_),∅]
     .rw[qh (λe2=>by rw[e2,I]at e;cases e)];exact e
     .rw[ac];constructor
      .rintro ((h | h) | h)
       .exact .inl h
       .exact .inr (.inl h)
       .exact .inr (.inr h)
      .rintro (h | h | h)
       .exact .inl (.inl h)
       .exact .inl (.inr h)
       .exact .inr h
   .rintro σ H6 ⟨v8,f,l,rfl,k6,D,l6,I,i6,n6⟩;calc#[_,_,f,l,Z,k6,D,I,i6.grow (λ_ _ e=>e) (λw _=>?_),by simp at n6;lia];rw[Dp hc];simp only[rJ,qR];constructor
    .rintro ((h | ⟨d,hd,h⟩) | h)
     .exact .inl h
     .exact .inr #[d,.inl hd,h]
     .exact .inr #[c,.inr Z,~~~h]
    .rintro (h | ⟨d,hd | rfl,h⟩)
     .exact .inl (.inl h)
     .exact .inl (.inr #[d,hd,h])
     .exact .inr (~~~h)
  .rintro σ H4 ⟨v7,v8,f,l,rfl,k4,t4,d4,i4,n4⟩;calc#[_,_,_,_,f,l,Z,k4,d4,i4.grow (λ_ _ e=>e) (λw _=>?_),∅];rw[uJ,Dp V];simp only[rJ,qR];constructor
   .rintro (⟨s',hs,h⟩ | h)
    .exact#[s',.inl hs,h]
    .exact#[sh,.inr Z,h]
   .rintro⟨s',hs | rfl,h⟩
    .exact .inl #[s',hs,h]
    .exact .inr h
 .rintro σ H2 ⟨v5,v6,v7,v8,f,l,rfl,k2,d2,B,n2⟩;omega;rw[qm,uJ]at B;let e3:f.map (λp=>kV p.1)=l.map tx:=by
   have:f.map (λp=>kV p.1)=(f.map (·.1)).map kV:=by rw[rO];rfl
   rw[this,B.keys,rO];rfl
  calc#[pd,f,Z,.inl d2,iH.of λp3 H3 C n3 l3=>?_];rw[e3]at l3;let M:∀w,w∈l↔w∈jP g L m:=λw=>by
   rw[B.mem,Gn,<-ZnZ ex hm];constructor
   .rintro⟨ms,sh,h1,c,h2,h3⟩;exact#[sh,c,(mF sh).mp h1,h2,h3,ms]
   .rintro⟨sh,c,h1,h2,h3,ms⟩;exact#[ms,sh,(mF sh).mpr h1,c,h2,h3]
  let ai:=LH ah k2 d1 Z Z;refine#[p3,l,Z,l3,λw v=>?_,ai.same C,λX r H4 pm ao G am nr lr=>?_]
  .have:=((B.mem w).mp v).1.init.len;rw[vF]at this
   lia
  .let ew:X=jP g L m:=C3 (GO pm ao B.nd) ((wx W).filter _) λw=>by rw[pm.mem_iff,M]
   subst ew;let d4:=G _ _ (C _ _ d2) Z;let ol:⇑(jP g L m)<=9000:=by
    have:=pm.length_eq;let e5:=NQ List.length e3;rw[qm,qm]at e5;rw[qm]at n2
    lia
   refine#[r,Z,#[_,.mk lr],ib.tupsM (xs:=(jP g L m).map tx) (λi vs=>∃w b,(jP g L m)[i]?=U w/\vs=[tx w,.ref b]/\hW f (qf w)=U (.ref b)) (by rw[qm];lia) (.mk lr) ?_ ?_]
   .intro i H5 Q5 hi n q5;rw[qm]at hi;rw[ze hi];let v:(jP g L m)[i]?=U ((jP g L m).getD i []):=by rw[sw,rD hi];rfl
    let#[b,hv,_]:=B.val _ ((M _).mpr (sC v));omega;let dg:=jA.k (k:=qf ((jP g L m).getD i [])) (n _ _ d4);rw[hv]at dg;refine#[pd,_,Z,dg,sz _ ⋯,jF.of λD H6 s6 n6 l6=>q5 D _ H6 s6 l6 #[_,b,v,Z,hv]]
   .intro p5 ys H5 n n5 l5 yl ak;let ag:Nw H p5:=((((Nw.of n5).l G).same C).chg (S:=[pd]) (H:=H1) (λb o e u _=>k2 b o e (~~~u)) (λb hb=>by obtain rfl:=qR.mp hb;calc#[_,d2,Z])).l (s0.l.trans sl);refine q ys p5 H5 (λb o e t=>?_) (am.same n) ag l5 #[?_,λi y hy=>?_]
    .let u:b≠pd:=qN e ab;exact n _ _ (G _ _ (C _ _ (k2 _ _ (sl _ _ (s0 _ _ e) t) u)) t)
    .unfold wF;rw[qm,yl,qm]
    .obtain⟨t,vs,rfl,ht,w,b,v,rfl,hv⟩:=ak i y hy;let#[b',ae,aj]:=B.val w ((M w).mpr (sC v));obtain rfl:b=b':=by rw[hv]at ae;injection ae with e;injection e
     calc#[_,by unfold wF;rw[se,v];rfl,t,b,Z,ht,n _ _ (G _ _ (C _ _ aj) Z)]
def Gc:g9 P w K mg base qK 3 a.f_KS a.d_KS ["change"] (sp_KS K a):=by calc T.dP.u.ok Zrs (λA2 A d s H vs Q E m h=>?_);let#[t,c,g,I,S,G,L,Z,k,D,r,n,o,f,j,q]:=h;calc#[_,(qk (qz (qC (Zsy T) (hM m) Z T.eD qo (qa (uq (N:=["told"]) (ix:=[O]) Z (tU Z) Z (tQ (K:=K) Z (re (t8 (K:=K) Z) (pv 0) qr (λ_ _=>rfl))) (λ_ _ _ _=>(rp (i:=0) (show (["told"]:AJ).Nodup from by decide +kernel) Z (Or.inl Z) (Or.inr Z))) (λ_ _ _ _=>uv) (λ_ _ _ _=>(re (t8 (K:=K) Z) (pv 0) qr (λ_ _=>rfl)))) (qa (uq (N:=["told"]) (ix:=[O]) Z (tU Z) Z (tQ (K:=K) Z (re (t8 (K:=K) Z) (pv 0) qr (λ_ _=>rfl))) (λ_ _ _ _=>(rp (i:=0) (show (["told"]:AJ).Nodup from by decide +kernel) Z (Or.inl Z) (Or.inr Z))) (λ_ _ _ _=>uv) (λ_ _ _ _=>(re (t8 (K:=K) Z) (pv 0) qr (λ_ _=>rfl)))) qc))))),?_];let#[v,B,X]:=f.le;let#[C,p,M]:=j.le;let W:=f.1;let n2:=j.1;omega;calc#[t,_,_,_,Z,Z,.mk k,je,c,Z,Fe D n ∅ λx V b e1 l=>#[t,_,_,_,Z,Z,.mk (b _ _ k),Z,g,Z,Fe (b _ _ r) (o.same b) ∅ λy H2 e e2 z=>?_]];calc#[x,y,_,_,Z,e _ _ l,z,v,B,C,p,λu F=>q u (b.trans (e.trans F))]
def Zsz:g9 P w K mg base qK 4 a.f_KQ a.d_KQ ["thing","kinds"] (sp_KQ K a):=by calc T.eC.u.ok Zru (λi A b s H j Q E f h=>?_);let#[l,m,Z,d,g,q]:=h;calc#[_,(qk (qZ (vG (uy (qC (Zsl T) (hM f) Z T.fA qo (qa (pv 0) (qa (pv 1) qc))))) (qk wD) qY)),?_];omega;calc#[l,m,Z,d,λe c=>?_];rw[g];calc hU (q e c)
def Zsk:g9 P w K mg base qK 4 a.f_LO a.d_LO ["words","kinds"] (sp_LO K a):=by
 calc T.fC.u.ok Hd (λA2 A B s H vs Q E r h=>?_);let A5:=r.units;let n:=u7 r;let⟨b,C,l,m,rfl,hb,g,p,q⟩:=h;refine⟨_,(ql (rR (qC (EM T) (hM r) Z T.dN qo (qa (pv 1) qc)))
  (qp (ql (qZ (PW.pt (yk (vG (uy (rq (El (K:=K) Z) Z T.dS D0 (qa (pv 0) (qa (EW (v:=.ty "list") Z T.fE ya Z) qc))))) (zT (ri Bh (rq (sk (K:=K) Z) Z T.dL sj (qa (pv 0) qc)) (yD Z T.c_KZ) (qT _))))) (qk wD) qY)
  (qp (ql (qM (i:=2) Hd.nd yV)
  (qp (qk (sW sS Z (tQ (K:=K) Z (pv 0)) (rp (i:=3) Hd.nd Z (Or.inl Z))
  (ql (qZ (PW.pt (yk (vG (uy (qC (D5 T) (hM r) Z T.eI qo (qa (pv 3) (qa (pv 1) (qa (yD Z T.c_KH) qc)))))) (yk (ri (rE (K:=K) Z A5) (pv 3) (qF (l:=[]) nofun) (qT _)) (zT (yF (Hi n (pv 3) (pv 2))))))) (qk wD) qY)
  (qk (yu n (pv 2) (pv 3) vM Z))))))))))),?_⟩
 let sz:∀k:Nat,k<=1000->k<=sizeLine:=λk h=>qJ h (by rw[sizeLine_eq];decide);let ln:=p.len g;let m4:=g.m4;omega;calc#[m,Z,∅,g.k,λo V=>?_];let u:=V _ _ hb;walk_at "h";calc#[_,_,_,_,Y,Z,Z,.ty (.seqL (.mk u)),DS,hU #[_,_,Z,.inl #[_,.mk u,Z],i9 (λh=>NR (NO h) (by rw[qm];lia)) (λ_=>qH ?_)]];omega;intro f j;let y:g7 o (upd o f (.dK [])):=rm j;let N:upd o f (.dK []) f=U (.dK []):=qu;generalize upd o f (.dK [])=H2 at y N;ac_rfl;refine#[b,Z,#[_,.mk (y _ _ u)],io.list (xs:=C.map tx) (LD o b f C m) #[_,[],Z,y,N,qG _,λw=>by rw[xY];calc Iff.intro (λz=>Bool.noConfusion z) (λz=>nomatch z)] (λi σ H' _ hh=>by let#[_,_,_,s,_]:=hh;calc .mk (s _ _ u)) ?_ ?_]
 .rintro i x σ M W ⟨v3,c,rfl,G,L,X,F⟩;let#[d,t,Z]:=zZ W;let BB:=(rY.mp t).1;let D:=sC t;let aa:=p.w41 g D;let ni:d∉C.take i:=B7 (p.nd g) t;omega;calc#[d,m,41,Z,∅,λH4 S=>?_];rw[Iu ∅ (p.wm g D)];calc hU (.inl #[Z,?_]);rw[qe qO,wN,NN (p.ne D)];let I:=S _ _ L;calc hU #[f,_,Z,jA.k (k:=qf d) I,?_];let ev:(hW c (qf d)).isSome=J:=yI.mpr λz=>ni ((F d).mp z);rw[ev];refine hU #[f,_,Z,jy.k (k:=qf d) I (sK (show _<1000 by lia) (sz 1000 (qG _))),_,ii c (qf d) (.bl Y),Z,ip (G.trans S) j,qu,?_,λw'=>?_]
  .have:=xq c (qf d) (.bl Y);lia
  .rw[uT,z5 t,rJ,qR];by_cases e:w'=d
   .rw[qg (by rw[e])];exact Iff.intro (λ_=>.inr e) (λ_=>rfl)
   .rw[qe (λz=>e (tZ z)),F];exact Iff.intro .inl (λz=>z.elim id (λz=>NR z e))
 .rintro σ M ⟨v3,c,rfl,G,L,X,F⟩;calc q M (V.trans G)
def MI:g9 P w K mg base qK 4 a.bf a.cQ ["self","text","kinds"] (sp_K0 K a):=by
 calc T.fG.u.ok ZrI (λx A f s H B Q E d h=>?_);let⟨p,i,l,m,rfl,u,c,q⟩:=h;refine⟨_,(ql (rR (qC (EM T) (hM d) Z T.dN qo (qa (pv 2) qc)))
  (ql (rR (qC (Zsj T) (hM d) Z T.fB qo (qa (pv 1) (qa (pv 2) (qa (yD Z T.c_KC) qc)))))
  (qk (rR (IB Z T.m_M3 T.dF (NB T) (hM d) T.eK.u.kp T.eK.b .nil qo (qa (pv 0) (qa (pv 1) (qa (pv 2) qc)))))))),?_⟩
 omega;let z:=c.m4;let v:=c.l40;calc#[m,Z,∅,c.k,λC j=>?_];walk_at "rd?";calc#[l,m,40,Z,∅,Zqg c,λy g=>?_];walk_at "rd?";calc#[p,i,_,l,m,Z,.inl Z,j.trans g _ _ u,λt r k=>q t #[i,r] λb o e n=>k b o (j.trans g _ _ e) n]
def Zst:g9 P w K mg base qK 4 a.f_L2 a.d_L2 ["word","form"] (sp_L2 K a):=by
 calc T.f9.u.ok Zrm (λk A c s H m Q E b h=>?_);let e:=b.units;let⟨d,f,rfl,i,q⟩:=h;refine⟨_,(ql (qZ (ri (rE (K:=K) Z e) (pv 1) (qF (l:=[78,65,77,69]) nofun) (qT _)) (qk (qz (qC (Fr T) (hM b) Z T.eZ qo (qa (pv 0) qc)))) qY)
  (ql (qZ (ri (rE (K:=K) Z e) (pv 1) (qF (l:=[78,85,77,66,69,82]) nofun) (qT _)) (qk (qz (qC (HL T) (hM b) Z T.eJ qo (qa (pv 0) qc)))) qY)
  (qk (qz (qC (Zsp T) (hM b) Z T.eP qo (qa (pv 0) qc)))))),?_⟩
 omega;rcases i with⟨rfl,j⟩|⟨rfl,g⟩
 .exact t5 (iB #[d,Z,j,q])
 .exact uR ⋯ (hU (uR ⋯ (hU #[d,Z,g,q])))
def Ka:g9 P w K mg base (rP P w) 4 a.bK a.cT ["self","name"] (sp_KA K a):=by
 calc T.dZ.u.okX ZrB (λG A j s H I Q E b h=>?_);let g:=u7 b;let⟨p,u,m,n,F,rfl,i,C,q,x⟩:=h;refine⟨_,(ql (qZ (vG (uy (qC (Fr T) (hM b) Z T.eZ qo (qa (pv 1) qc)))) (qk (BR Bq Z (Gx T.cj T.dI T.dE (Lu T) (hM b) T.b_L9 qo Z T.dH (qa (pv 1) qc)))) qY)
  (qp (qk (qZ (yF (Hi g (pv 1) (rA (K:=K) Z (pv 0) Z))) (qk (BR Bq Z (Gx T.cE T.i_LI T.dJ (ZdA T) (hM b) T.b_LI qo Z T.m_LI (qa (pv 1) qc)))) qY)))),?_⟩
 let#[B,f]:=i.fld;omega;calc#[n,Z,C,λv c=>hU ?_];walk_at "h";calc#[p,_,B,_,_,Z,c _ _ f,T.aq,T.ag,BT,u,_,Z,.inl #[_,qf n,.inl (c _ _ i.dct),Z,Z],?_];rcases Gr F n with⟨r,b,rfl⟩ | k
 .rw[BY i.nd b];calc iB #[⋯,Dk.of Z λe D y t l=>?_];let#[d,z,o]:=KW l;exact#[e,_,d,Z,z,T.cE,x r b Z e _ (c.trans (ip y t)) o]
 .rw[wU k];calc hU (q k v c)
def EJ:g9 P w K mg base qK 4 a.bh a.db ["self","kinds"] (sp_K9 K a):=by
 calc T.d9.u.ok ZrC (λA2 A r s H vs Q E F h=>?_);let⟨p,d,m,rfl,S,f,q⟩:=h;refine⟨_,(ql (rR (qC (EM T) (hM F) Z T.dN qo (qa (pv 1) qc)))
  (qp (ql (rR (IB Z T.m_M3 T.dF (NB T) (hM F) T.eK.u.kp T.eK.b .nil qo (qa (pv 0) (qa (qF (l:=[]) nofun) (qa (pv 1) qc)))))
  (qp (ql (vL (pv 0) (uZ (Jl Z) Z T.fE ya (qa (pv 1) qc)) Z)
  (qp (qk (vL (pv 0) (uC qc) Z)))))))),?_⟩
 omega;let m4:=f.m4;calc#[m,Z,∅,f.k,λW D=>?_];walk_at "h";calc#[p,d,_,[],m,Z,.inr Z,D _ _ S,λH2 M G=>?_];walk_at "h";calc#[m,Z,∅,iH.of λla v C L l3=>?_];let V:=C _ _ M;calc#[p,_,d,_,Z,V,T.ad,T.ah,(by show 2<1000;decide),?_];ac_rfl;calc#[rM _,iH.of λda H4 x k X=>?_];let g:p≠la:=qN M L;let I:=f.kinds;let N:=x _ _ (qu (H:=v) (a:=p) (o:=.ins a.c_MR d (iq (Str.ofString "own_lacking") (.ref la) (iq "own_kinds" (tx m) (iq "own_text" (tx []) [])))));let j:upd v p (.ins a.c_MR d (iq (Str.ofString "own_lacking") (.ref la) (iq "own_kinds" (tx m) (iq "own_text" (tx []) [])))) la=U (.lst ((iy m).map tx)):=by rw[qh (qy g)];exact l3
 let c:p≠da:=qN qu k;let n:la≠da:=qN j k;let B:v da=O:=by rw[qh (qy c)]at k;exact k
 let back:∀b,b≠p->H2 b=O->H b=O:=λb t e=>by
  cases z:W b with
  | none=>exact D.free z
  | some o=>rw[G b o z t]at e;cases e
 refine#[p,_,d,_,Z,N,T.ad,T.af,(by show 3<1000;decide),q la da _ #[#[d,?_],?_,#[[],?_,Z,λi y h=>by simp at h],.nil,I,n] (back la (qy g) L) (back da (qy c) (C.free B)) λb o t u=>?_]
 .rw[qu];exact NQ (λz=>U (HO.ins a.c_MR d z)) LP
 .rw[qh (qy g),ZlZ I.rise];exact x _ _ j
 .rw[qh (qy c)];exact X
 .rw[qh u];calc x _ _ (by rw[qh u];calc C _ _ (G _ _ (D _ _ t) u))
def Dl:g9 P w K mg base (rP P w) 4 a.bO a.cW ["self","name"] (sp_K4 K a):=by
 calc T.dQ.u.okX ZrE (λM A k s H L Q E b h=>?_);let i:=u7 b;let⟨p,l,m,n,F,rfl,j,B,q,x⟩:=h;refine⟨_,(ql (qZ (PW.pt (yk (vG (uy (qC (Fr T) (hM b) Z T.eZ qo (qa (pv 1) qc)))) (zT (yF (Ei i (pv 1) (rA (K:=K) Z (pv 0) Z)))))) (qk (BR Bq Z (Gx T.cj T.dI T.dE (Lu T) (hM b) T.b_L9 qo Z T.dH (qa (pv 1) qc)))) qY)
  (qk (qz (uw i (rA (K:=K) Z (pv 0) Z) (pv 1) (λ_ _=>rfl))))),?_⟩
 let#[o,f]:=j.fld;omega;calc#[n,Z,B,λC c=>hU ?_];let u:=c _ _ j.dct;calc#[p,_,o,_,_,Z,c _ _ f,T.aq,T.ag,BT,l,_,Z,.inl #[_,qf n,.inl u,Z,Z],?_];rcases Gr F n with⟨r,b,rfl⟩ | t
 .let g:=BY j.nd b;rw[g];exact hU #[p,_,o,_,_,Z,c _ _ f,T.aq,T.ag,BT,l,_,Z,.inl #[_,qf r.n,.inl u,Z,g.symm],q r b Z C c]
 .rw[wU t];calc iB #[⋯,Dk.of Z λe I D z v=>?_];let#[d,G,y]:=KW v;calc#[e,_,d,Z,G,T.cj,x t e _ (c.trans (ip D z)) y]
def Ji:g9 P w K mg base qK 4 a.bZ a.dm ["self","longer"] (sp_K8 K a):=by
 calc T.fK.u.ok FG (λA2 A F s H vs Q E D h=>?_);let⟨p,la,da,y,L,m,rfl,hp,ab,hL,u,hm,r,tk,q⟩:=h;refine⟨_,(qp (ql (qM (i:=2) FG.nd (qC (LQ T) (hM D) Z T.ge qo (qa (rA (K:=K) Z (pv 0) Z) (qa (pv 1) (qa (rA (K:=K) Z (pv 0) Z) (qa (qF (l:=[102,105,114,115,116]) nofun) qc))))))
  (qp (ql (qM (i:=3) FG.nd (qC (JY T) (hM D) Z T.gc qo (qa (rA (K:=K) Z (pv 0) Z) (qa (pv 1) (qa (qF (l:=[115,116,97,110,100,115]) nofun) qc)))))
  (qp (qk (qz (rX (pv 0) T.ad T.bz (Nh T) (hM D) T.eV.b .nil qo (qa (pv 1) (qa (pv 2) (qa (pv 3) qc))))))))))),?_⟩
 let#[v,f]:=hp;let x:=r.m4;omega;ac_rfl;calc#[p,_,v,_,_,Z,f,T.ad,T.aa,vv,p,_,v,_,_,Z,f,T.ad,T.ai,Di,?_];calc#[y,L,_,m,Z,∅,u,hm,r.rise,x,tk,λys c H1 j W n1 l1 r1=>?_];ac_rfl;let S:=j _ _ f Z;calc#[p,_,v,_,_,Z,S,T.ad,T.aa,vv,?_];calc#[y,L,_,m,Z,∅,u,hm,r.rise,W,λzs g H2 d aa n2 X r2=>?_];ac_rfl;let f2:=d _ _ S Z;let o:=d _ _ l1 Z;let ac:=d _ _ (j _ _ ab Z) Z;let k:=j.trans d;let I:c≠g:=n2.ne l1 Z;refine#[p,v,_,Z,f2,sN,p,la,da,c,g,y,L,m,qE y m,qE L m,ys,zs,_,_,Z,#[v,f2],ac,o,r1.l d,X,r2,wx r.rise,wx r.rise,?_,?_,?_,?_,?_,?_,?_,?_,aa,?_]
 .rw[Dv];exact E6 ((wx r.rise).filter _)
 .intro w;rw[Dv,Gn]
 .intro w;rw[Dc,GP]
 .exact qJ (BO x (by have:=u.len;lia)) ⋯
 .rw[<-qm (f:=(·.1)),Dv];exact qJ (ug _ _) (qJ (BO x ∅) ⋯)
 .rw[<-qm (f:=(·.1)),Dc];exact qJ (ug _ _) (qJ (BO x (by have:=u.len;lia)) ⋯)
 .intro w M;have:=DK (by have:=u.len;lia) M;lia
 .intro w M;have:=DK hL M;lia
 .intro t G H3 e f3 n e3 t3 V;let np:∀us,H2 p≠U (.tup us):=λus z=>by rw[f2]at z;cases z
  let C:p≠c:=n1.ne f Z;let B:p≠g:=n2.ne S Z;calc q t c g G H3 (k.chg.trans e) f3 e3 #[t3,#[ys,e _ _ o (~~~qy C) Z,(r1.l d).chg e (λb N us=>by rw[qR.mp N];calc np us)],#[zs,e _ _ X (~~~qy B) Z,r2.chg e (λb N us=>by rw[qR.mp N];calc np us)],n1,n2.l j,n.l k,I,n.ne o Z,n.ne X Z] V
def IM:g9 P w K mg base qK 4 a.b8 a.du ["self","lesser"] (sp_KL K a):=by
 calc T.eU.u.ok Ha (λA2 A G s H vs Q E F h=>?_);let⟨p,la,da,B,L,m,rfl,hp,ab,hL,v,hm,r,tk,q⟩:=h;refine⟨_,(ql (qM (i:=2) Ha.nd (qC (JY T) (hM F) Z T.gc qo (qa (pv 1) (qa (rA (K:=K) Z (pv 0) Z) (qa (qF (l:=[115,116,111,111,100]) nofun) qc)))))
  (ql (qM (i:=3) Ha.nd (qC (LQ T) (hM F) Z T.ge qo (qa (pv 1) (qa (rA (K:=K) Z (pv 0) Z) (qa (rA (K:=K) Z (pv 0) Z) (qa (qF (l:=[108,97,115,116]) nofun) qc))))))
  (qk (qz (rX (pv 0) T.ad T.bz (Nh T) (hM F) T.eV.b .nil qo (qa (pv 1) (qa (pv 2) (qa (pv 3) qc)))))))),?_⟩
 let#[u,f]:=hp;let y:=r.m4;omega;calc#[p,_,u,_,_,Z,f,T.ad,T.aa,vv,?_];calc#[B,L,_,m,Z,∅,v,hm,r.rise,tk,λys c H1 j W n1 l1 r1=>?_];walk_at "rd?";let x:=j _ _ f Z;calc#[p,_,u,_,_,Z,x,T.ad,T.aa,vv,p,_,u,_,_,Z,x,T.ad,T.ai,Di,?_];calc#[B,L,_,m,Z,∅,v,hm,r.rise,y,W,λzs g H2 d aa n2 X r2=>?_];walk_at "rd?";let f2:=d _ _ x Z;let o:=d _ _ l1 Z;let ac:=d _ _ (j _ _ ab Z) Z;let k:=j.trans d;let M:c≠g:=n2.ne l1 Z;refine#[p,u,_,Z,f2,sN,p,la,da,c,g,L,B,m,qE L m,qE B m,ys,zs,_,_,Z,#[u,f2],ac,o,r1.l d,X,r2,wx r.rise,wx r.rise,?_,?_,?_,?_,?_,?_,?_,?_,aa,?_]
 .rw[Dc];exact E6 ((wx r.rise).filter _)
 .intro w;rw[Dc,GP]
 .intro w;rw[Dv,Gn]
 .exact qJ (BO y ∅) ⋯
 .rw[<-qm (f:=(·.1)),Dc];exact qJ (ug _ _) (qJ (BO y (by have:=v.len;lia)) ⋯)
 .rw[<-qm (f:=(·.1)),Dv];exact qJ (ug _ _) (qJ (BO y ∅) ⋯)
 .intro w N;have:=DK hL N;lia
 .intro w N;have:=DK (by have:=v.len;lia) N;lia
 .intro t I H3 e f3 n e3 t3 V;let np:∀us,H2 p≠U (.tup us):=λus z=>by rw[f2]at z;cases z
  let D:p≠c:=n1.ne f Z;let C:p≠g:=n2.ne x Z;calc q t c g I H3 (k.chg.trans e) f3 e3 #[t3,#[ys,e _ _ o (~~~qy D) Z,(r1.l d).chg e (λb S us=>by rw[qR.mp S];calc np us)],#[zs,e _ _ X (~~~qy C) Z,r2.chg e (λb S us=>by rw[qR.mp S];calc np us)],n1,n2.l j,n.l k,M,n.ne o Z,n.ne X Z] V
def ZsE:g9 P w K mg base qK 4 a.bg a.cR ["self","kinds"] (sp_K3 K a):=by
 calc T.gk.u.ok ZrF (λx A l s H z Q E f h=>?_);let⟨p,d,m,rfl,v,c,q⟩:=h;refine⟨_,(ql (rR (qC (EM T) (hM f) Z T.dN qo (qa (pv 1) qc)))
  (qp (ql (vL (pv 0) (pv 1) Z)
  (qp (qk (vL (pv 0) yV Z)))))),?_⟩
 omega;let y:=c.m4;calc#[m,Z,∅,c.k,λt u=>?_];walk_at "h";calc#[p,_,d,_,Z,u _ _ v,T.aq,T.aB,(by show 0<1000;decide),qH ?_];let j:upd t p (.ins a.c_MQ d (iq (Str.ofString "own_kinds") (tx m) [])) p=U (.ins a.c_MQ d (iq "own_kinds" (tx m) [])):=qu;let i:∀b o,H b=U o->b≠p->upd t p (.ins a.c_MQ d (iq (Str.ofString "own_kinds") (tx m) [])) b=U o:=λb o e n=>by rw[qh n];exact u _ _ e
 generalize upd t p (.ins a.c_MQ d (iq (Str.ofString "own_kinds") (tx m) []))=H2 at j i;omega;intro dA g;let k:p≠dA:=qN j g;refine#[p,_,d,_,Z,by rw[qh k];calc j,T.aq,T.ag,(by show 1<1000;decide),q dA _ #[#[d,qu],by rw[qh (qy k),qu];rfl,λr f=>(by cases f),λr f=>(by cases f),.nil,c] ?_ λb o e n=>?_]
 .cases e:H dA with
  | none=>rfl
  | some o=>rw[i _ _ e (qy k)]at g;cases g
 .rw[qh n,qh (qN (i _ _ e n) g)];calc i _ _ e n
def Zss:g9 P w K mg base qK 5 a.f_L3 a.d_L3 ["words"] (sp_L3 K a):=by
 calc T.gb.u.ok GS (λA2 A n s H vs Q E m h=>?_);let V:=m.units;let⟨b,ws,rfl,t,lo,q⟩:=h;refine⟨_,(ql (qZ (yF (Zj4 (K:=K) (w:=w) Z Z (re (sQ (K:=K) Z) (pv 0) qr (λ_ _=>rfl)) (Dd (v:=.ref a.v_FORMS) Z T.v_FORMS Z))) (qk (qz vM)) qY)
  (qp (ql (vX (i:=1) GS.nd Z (Or.inr Z) (tX (zU (K:=K) Z) (pv 0) (tM qr) uo))
  (qp (ql (vX (i:=2) GS.nd Z (Or.inr Z) (qC (Zsi T) (hM m) Z T.fO qo (qa (re (sQ (K:=K) Z) (pv 0) qr (λ_ _=>rfl)) (qa (rq (sk (K:=K) Z) Z T.dL sj (qa (pv 1) qc)) qc))))
  (qp (qk (qz (xW (tF (rE (K:=K) Z V) (rq (sk (K:=K) Z) Z T.dL sj (qa (pv 1) qc)) (rq (sk (K:=K) Z) Z T.dL sj (qa (pv 2) qc)) (qT _)) (xQ (rq (Km Z) Z T.gU LR (qa (uq (N:=["at","forms","given"]) (ix:=[O,U 2,U 1]) Z (tU Z) Z (zA Z T.d5 (qa (rq (sk (K:=K) Z) Z T.dL sj (qa (pv 2) qc)) qc)) (λ_ _ _ _=>(rp (i:=0) (show (["at","forms","given"]:AJ).Nodup from by decide +kernel) Z (Or.inl Z) (Or.inr Z))) (λ_ _ _ _=>uv) (λ_ _ _ _=>(qC (Zst T) (hM m) Z T.f9 qo (qa (re (sQ (K:=K) Z) (pv 2) (pv 0) (λ_ _=>rfl)) (qa (re (sQ (K:=K) Z) (pv 1) (pv 0) (λ_ _=>rfl)) qc))))) qc)))))))))))),?_⟩
 let#[p,sd,fa]:=Jq T.sd_FORMS;let#[d,c,f,z,hl,X,L]:=lo;let#[gs,S]:=z.get;let#[b0,W,_]:=fa S;omega;calc#[b,_,_,_,Z,Z,.mk t,je,_,p,qf d,Z,sd,Z,?_];rw[W];calc hU (qH ?_);omega;calc#[_,Z,b,_,Z,.mk t,λg G=>?_];let y:=rm (o:=.lst (jD ((d::c).map tx) (U 1) O)) G;let e:upd H g (.lst (jD ((d::c).map tx) (U 1) O)) g=U (.lst (c.map tx)):=by rw[qu];exact NQ (λx=>U (HO.lst x)) (yQ ((d::c).map tx) 1)
 generalize upd H g (.lst (jD ((d::c).map tx) (U 1) O))=H1 at y e;ac_rfl;calc#[b,_,_,_,Z,Z,.mk (y _ _ t),je,_,_,Z,.inl #[_,.mk e,Z],d,⇑c,f,by rw[qm],z,L,λr H2 k n2 u=>?_];ac_rfl;calc#[_,_,Z,.inl #[_,.mk (k _ _ e),Z],_,_,Z,.inl #[_,.mk u,Z],?_];rw[qm,qm,hl];calc .inl #[Z,?_];rw[qe qO,NM Z];calc iB #[_,_,Z,.inl #[_,.mk u,Z],_,Z,∅,by rw[qm];lia,?_];rw[qm,zw];refine ib.rangeA (λ_=>.bl Y) ∅ ?_ ?_
 .intro i C Q3 M j I;omega;rw[Int.zero_add];let D:=rD (l:=c) (i:=i) ∅;let B:=rD (l:=f) (i:=i) M;refine#[g,_,_,_,Z,Z,.mk ((k.trans j) _ _ e),(L6 (by rw[se,D];rfl)),r,_,_,_,Z,Z,.mk (j _ _ u),(L6 (by rw[se,B];rfl)),c[i],f[i],Z,X i _ _ D B,I]
 .intro F C j n3 l3;calc#[F,List.replicate ⇑f Y,Z,by rw[l3,List.map_replicate];congr 2;calc ZjS _ _,?_];rw[Zoz];calc q C (y.trans (k.trans j))
def ZsD:g9 P w K mg base (rP P w) 5 a.bQ a.cY ["self","name"] (sp_K5 K a):=by
 calc T.gm.u.okX Is (λy A d s H z Q E c h=>?_);let⟨p,k,m,n,F,rfl,b,v,q,x⟩:=h;refine⟨_,(ql (qM (i:=2) Is.nd (rX (pv 0) T.aq T.a9 (Dl T) (hM c) T.dQ.b .nil sM (qa (pv 1) qc)))
  (qp (ql (rR (IX (rA (K:=K) Z (pv 0) Z) (pv 1) #[Z,Z,Z,Z]))
  (qp (qk (qz (pv 2))))))),?_⟩
 let#[o,f]:=b.fld;omega;calc#[p,o,_,Z,f,tS,p,k,m,n,F,Z,b,v,λr c e B j=>?_,x];let g:=BY b.nd c;rw[e]at g;walk_at "h";let l:=j _ _ b.dct;let#[t,u]:=b.take (n:=n) j;calc#[p,_,o,_,_,Z,j _ _ f,T.aq,T.ag,BT,k,Z,.inl #[_,.inl l],_,qf n,_,l,Z,g,qH ?_];omega;calc q r c e _ u t
def E4:g9 P w K mg base (rP P w) 5 a.bW a.df ["self","letter"] (sp_LL K a):=by
 calc T.eN.u.okX Zrb (λA2 A u s H vs Q E G h=>?_);let⟨p,la,F,l,m,ds,o,rfl,r,hd,tk,C,q⟩:=h;refine⟨_,(qp (ql (rR (qC (Zsz T) (hM G) Z T.eC qo (qa (pv 1) (qa (rA (K:=K) Z (pv 0) Z) qc))))
  (ql (qZ (ri ZrS (rq (sk (K:=K) Z) Z T.dL sj (qa (rA (K:=K) Z (pv 0) Z) qc)) (yD Z T.c_KC) (qT _)) (qp (qk (BR Bq Z (G4 T.x_M6 T.i_M6 Z T.m_M6 (qa (qF (l:=[116,104,101,32,115,116,114,105,112,32,104,97,115,32,102,111,114,116,121,32,108,101,116,116,101,114,115]) nofun) qc))))) qY)
  (qp (ql (rR (uu xA zb yz ye (rA (K:=K) Z (pv 0) Z) (qa (yb (qa (qF (l:=[112,117,116]) nofun) (qa (pv 1) qc))) qc)))
  (qk (qz (rX (pv 0) T.ad T.bv (Ji T) (hM G) T.fK.b .nil qo (qa (qB sL (rA (K:=K) Z (pv 0) Z) (pv 1)) qc))))))))),?_⟩
 let sz:∀k:Nat,k<=30000->k<=sizeLine:=λk h=>qJ h (by rw[sizeLine_eq];decide);let#[#[b,f],hk,#[ts,x,M],j,I,aa]:=id r;let m4:=I.m4;let ab:=j.len;let tl:=M.1;omega;ac_rfl;calc#[p,_,b,_,_,Z,f,T.ad,T.ai,Di,?_];calc#[[o],m,Z,{},Zod C,λH1 n=>?_];walk_at "rd?";calc#[p,_,b,_,_,Z,n _ _ f,T.ad,T.aa,vv,_,_,Z,tT ∅,?_];by_cases L:⇑l<40
 .rw[NN ∅];calc hU ?_;ac_rfl;calc#[p,_,b,_,_,Z,n _ _ f,T.ad,T.af,Bw,.inl #[Z,_,.mk (n _ _ x)],sz _ ⋯,jF.of λtd H2 N n2 l2=>?_];let i:=n.trans N;calc#[F,_,_,Z,Z,i _ _ x,by rw[tl];calc sz _ ∅,?_];let#[H3,eH,c3,X,e3,y,k3,z]:=J8 (d:=(Y,o)) r f x M i l2 tk;rw[eH];let v:=j.put C L;calc#[p,b,_,Z,y,sN,p,_,b,_,_,Z,y,T.ad,T.aa,vv,jT #[sz _ (by rw[r6];lia),?_]];calc#[p,la,F,l,l++[o],m,Z,#[b,y],k3,v.len,.inl #[o,Z],v.mem,I,z,λt c g D W ch S l4 an B=>?_];let#[q1,q2,q3]:=EQ r c3 X e3 ch S l4 an v;exact q.ok _ _ _ _ (.put C L) t c g D W q1 q2 q3 B
 .rw[NM ∅];calc iB ?_;ac_rfl;calc#[⋯,λe V=>#[e,_,O,Z,qu,T.x_M6,q.no _ (.put ∅) e _ (n.trans (Fc V)) (.bare qu)]]
def Lv:g9 P w K mg base (rP P w) 5 a.bX a.dh ["self"] (sp_K7 K a):=by
 calc T.fH.u.okX ZrD (λA2 A r s H vs Q E F h=>?_);let A5:=F.units;let⟨p,la,D,l,m,ds,rfl,o,hd,V,q⟩:=h;refine⟨_,(qp (ql (qZ (ri (rE (K:=K) Z A5) (rA (K:=K) Z (pv 0) Z) (qF (l:=[]) nofun) (qT _)) (qk (BR Bq Z (G4 T.x_M4 T.i_M4 Z T.m_M4 (qa (qF (l:=[116,104,101,32,115,116,114,105,112,32,104,97,115,32,110,111,32,108,101,116,116,101,114]) nofun) qc)))) qY)
  (qp (ql (rR (uu xA zb yz ye (rA (K:=K) Z (pv 0) Z) (qa (yb (qa (qF (l:=[100,114,111,112]) nofun) (qa (re yO (rA (K:=K) Z (pv 0) Z) qr (λ_ _=>rfl)) qc))) qc)))
  (qk (qz (rX (pv 0) T.ad T.bw (IM T) (hM F) T.eU.b .nil qo (qa (tX vm (rA (K:=K) Z (pv 0) Z) (tM qr) uo) qc)))))))),?_⟩
 let sz:∀k:Nat,k<=30000->k<=sizeLine:=λk h=>qJ h (by rw[sizeLine_eq];decide);let#[#[i,f],hk,#[ts,u,I],b,G,X]:=id o;let m4:=G.m4;let z:=b.len;let tl:=I.1;omega;ac_rfl;calc#[p,_,i,_,_,Z,f,T.ad,T.aa,vv,.inl #[Z,?_]];rw[qe qO,wN];cases l with
 | cons j n=>
  rw[NN {}];calc hU ?_;ac_rfl;calc#[p,_,i,_,_,Z,f,T.ad,T.af,Bw,.inl #[Z,_,.mk u],p,_,i,_,_,Z,f,T.ad,T.aa,vv,j::n,0,j,Z,Z,sz _ ∅,je,sz _ ⋯,jF.of λtd H2 C n2 l2=>?_];calc#[D,_,_,Z,Z,C _ _ u,by rw[tl];calc sz _ ∅,?_];let#[H3,eH,c3,S,e3,v,W,x]:=J8 (d:=(J,j)) o f u I C l2 V;rw[eH];calc#[p,i,_,Z,v,sN,p,_,i,_,_,Z,v,T.ad,T.aa,vv,_,Z,j::n,Z,sz _ ∅,?_];rw[DR];calc#[p,la,D,n,j::n,m,Z,#[i,v],W,z,.inr #[j,Z],b.mem,G,x,λt c g B N ch L l4 an y=>?_];let#[q1,q2,q3]:=EQ o c3 S e3 ch L l4 an b.drop;exact q.ok _ _ _ _ .drop t c g B N q1 q2 q3 y
 | nil=>
  rw[NM Z];calc iB ?_;calc#[⋯,λe M=>#[e,_,O,Z,qu,T.x_M4,q.no _ .drop e _ (Fc M) (.bare qu)]]
def Iy:g9 P w K mg base (rP P w) 5 a.bY a.dj ["self"] (sp_K6 K a):=by
 calc T.fJ.u.okX LJ (λA2 A aa s H vs Q E X h=>?_);let A5:=X.units;let⟨p,la,da,l,m,ds,rfl,hp,hd,tk,q⟩:=h;refine⟨_,(qp (ql (qZ (ri (rE (K:=K) Z A5) (rq (sk (K:=K) Z) Z T.dL sj (qa (rA (K:=K) Z (pv 0) Z) qc)) qr (qT _)) (qk (BR Bq Z (G4 T.x_L8 T.i_L8 Z T.m_L8 (qa (qF (l:=[116,104,101,114,101,32,105,115,32,110,111,32,100,101,101,100,32,116,104,97,116,32,115,116,97,110,100,115]) nofun) qc)))) qY)
  (qp (ql (qM (i:=1) LJ.nd (Zpu xA PySem.F.slot_list_pop PySem.F.type_list_pop Zp0 (rA (K:=K) Z (pv 0) Z)))
  (qp (ql (qZ (ri (rE (K:=K) Z A5) (re (t8 (K:=K) Z) (pv 1) qr (λ_ _=>rfl)) (qF (l:=[112,117,116]) nofun) (qT _)) (qk (qz (rX (pv 0) T.ad T.bw (IM T) (hM X) T.eU.b .nil qo (qa (tX vm (rA (K:=K) Z (pv 0) Z) uo (tM (Du C1 qr))) qc)))) qY)
  (qk (qz (rX (pv 0) T.ad T.bv (Ji T) (hM X) T.fK.b .nil qo (qa (qB sL (re (t8 (K:=K) Z) (pv 1) qr (λ_ _=>rfl)) (rA (K:=K) Z (pv 0) Z)) qc)))))))))),?_⟩
 let sz:∀k:Nat,k<=30000->k<=sizeLine:=λk h=>qJ h (by rw[sizeLine_eq];decide);let#[#[o,f],hk,#[ts,y,d2],F,ok,ac]:=id hp;let m4:=ok.m4;let ad:=F.len;let tl:=d2.1;let ab:p≠da:=λz=>by rw[z,y]at f;cases f
 omega;ac_rfl;calc#[p,_,o,_,_,Z,f,T.ad,T.af,Bw,_,_,Z,.inl #[_,.mk y,Z],.inl #[Z,?_]];rw[qe qO];by_cases z:ds=[]
 .subst z;let tz:⇑ts=0:=by rw[tl];rfl
  rw[tz,show R (V.int ((0:Nat):Int)=V.int 0)=Y from NM Z];calc iB ?_;exact#[⋯,λe he=>#[e,_,O,Z,qu,T.x_L8,q.no _ .back e _ (Fc he) (.bare qu)]]
 rw[show R (V.int ((⇑ts:Nat):Int)=V.int 0)=J from NN λe=>by injection e with e;rw[tl]at e;calc z (zB.mp ∅)]
 calc hU ?_;ac_rfl;let#[v,n,r0]:=F.last z;obtain⟨M,e0,r1⟩:∃M,ds=v++[(M,n)]/\((M=Y/\∃u,l=u++[n]/\uz m v u)\/(M=J/\uz m v (n::l))):=by
  rcases r0 with⟨e1,u,e2,r⟩|⟨e1,r⟩
  .exact#[Y,e1,.inl #[Z,u,e2,r]]
  .exact#[J,e1,.inr #[Z,r]]
 clear r0;subst e0;let#[j,D,Z,h1,h2]:=d2.init;let L:qV [da] H (upd H da (.lst j)):=qV.upd {};let d3:upd H da (.lst j) da=U (.lst j):=qu;let e3:=h2.chg L (λb hb us z=>by rw[qR.mp hb,y]at z;cases z);let N:upd H da (.lst j) D=U (.tup (BH (M,n))):=by rw[qh (λz=>by rw[z,y]at h1;cases h1)];exact h1
 let B:=tk.upd (o':=.lst j) y Z Z;calc#[p,_,o,_,_,Z,f,T.ad,T.af,Bw,.inl #[Z,_,.mk y],da,_,_,Z,Z,y,show (j++[V.ref D])[⇑(j++[V.ref D])-1]?=U (V.ref D) from by simp,?_];rw[Cf];generalize upd H da (.lst j)=H3 at L d3 e3 N B;ac_rfl;let I:=L _ _ f (~~~ab) Z;let k3:=L _ _ hk (~~~ac) Z;rcases r1 with⟨rfl,u,rfl,d⟩|⟨rfl,d⟩
 .refine#[D,_,_,_,Z,Z,.mk N,je,t5 (x:=JS) (iB ?_)];calc#[p,o,_,Z,I,sN,p,_,o,_,_,Z,I,T.ad,T.aa,vv,_,Z,u++[n],Z,sz _ ∅,?_];rw[Ik,Cf];calc#[p,la,da,u,u++[n],m,Z,#[o,I],k3,ad,.inl #[n,Z],F.mem,ok,B,λt c g G H4 ch S l4 an C=>?_];let#[q1,q2,q3]:=EQ hp L d3 e3 ch S l4 an d;exact q.ok _ _ _ _ .bput t c g G H4 q1 q2 q3 C
 .let W:=d.len;rw[rF]at W;calc#[D,_,_,_,Z,Z,.mk N,je,uR (x:=DROP) ⋯ (hU ?_)];calc#[p,o,_,Z,I,sN,D,_,_,_,Z,Z,.mk N,Z,p,_,o,_,_,Z,I,T.ad,T.aa,vv,jT #[sz _ (by rw[r6];lia),?_]];calc#[p,la,da,l,n::l,m,Z,#[o,I],k3,d.len,.inr #[n,Z],d.mem,ok,B,λt c g G H4 ch S l4 an C=>?_];let#[q1,q2,q3]:=EQ hp L d3 e3 ch S l4 an d;calc q.ok _ _ _ _ .bdrop t c g G H4 q1 q2 q3 C
def Zsq:g9 P w K mg base qK 6 a.f_L7 a.d_L7 ["words","kinds","text"] (sp_L7 K a):=by
 calc T.f8.u.ok JI (λA2 A j s H vs Q E g h=>?_);let⟨b,W,l,m,rfl,S,d,k,q⟩:=h;refine⟨_,(qk (sW sS Z (tQ (K:=K) Z (tO (yU T.bj (MI T) (hM g) Z T.m_MP T.fG.b .nil qo (qa (pv 2) (qa (pv 1) qc))) T.aZ T.aw (KG T) (hM g) T.eR.b .nil qo)) (rp (i:=3) JI.nd Z (Or.inl Z))
  (qk (qZ (uy (qC (K9 T) (hM g) Z T.fZ qo (qa (pv 0) (qa (pv 3) qc)))) (qk wD) qY)))),?_⟩
 let ln:=k.len d;omega;intro p L c t ab;calc#[p,L,l,m,Z,qu,d,λH1 v I=>#[Z,?_]];let F:g7 H H1:=λb o e=>I b o (by rw[qh (qN e c),qh (qN e t)];calc e) (qN e c);let#[V,n]:=id v;calc#[p,V,_,Z,n,BN nofun nofun,p,l,m,Z,v,d,λX H2 u B=>?_];refine#[X,Z,#[_,.mk B],io.list (xs:=(qE l m).map tx) (λi σ C=>∃r,σ=[U (.ref b),U (tx m),U (tx l),r]/\g7 H2 C) #[_,Z,g7.refl _] (λi σ C _ ⟨_,_,M⟩=>.mk (M _ _ B)) ?_ ?_]
 .rintro i x σ y G ⟨r,rfl,f⟩;let#[D,N,Z]:=zZ G;let z:=k.mem.mpr (sC N);let aa:=k.w41 d z;omega;calc#[b,W,D,Z,f _ _ (u _ _ (F _ _ S)),∅,∅,λH4 s4=>(i9 (λh=>?_) (λ_=>#[_,Z,f.trans s4]))];exact(FV.mp h) D z (qI.refl _)
 .rintro σ y ⟨r,rfl,f⟩;calc q y ((F.trans u).trans f)
def Zr9:g9 P w K mg base qK 6 a.f_M7 a.d_M7 ["line"] (sp_M7 K a):=by
 calc T.gL.u.ok Iz (λA2 A f s H vs Q E k h=>?_);let⟨ws,rfl,B,q⟩:=h;refine⟨_,(ql (qZ (PW.pt (yk (vG (uy (rq (El (K:=K) Z) Z T.dS D0 (qa (pv 0) (qa (EW (v:=.ty "str") Z T.gN D1 Z) qc))))) (zT (vG (uy (qC (Zss T) (hM k) Z T.gb qo (qa (uu wy PySem.F.slot_str_split PySem.F.type_str_split ID (pv 0) (qa (qF (l:=[32]) nofun) qc)) qc))))))) (qk wD) qY)
  (qp (ql (qM (i:=1) Iz.nd (uu wy PySem.F.slot_str_split PySem.F.type_str_split ID (pv 0) (qa (qF (l:=[32]) nofun) qc)))
  (qk (qz (yb (qa (re (sQ (K:=K) Z) (pv 1) qr (λ_ _=>rfl)) (qa (uq (N:=["word"]) (ix:=[O]) Z (tU Z) Z (tQ (K:=K) Z (tX (zU (K:=K) Z) (pv 1) (tM qr) uo)) (λ_ _ _ _=>(rp (i:=0) (show (["word"]:AJ).Nodup from by decide +kernel) Z (Or.inl Z) (Or.inr Z))) (λ_ _ _ _=>uv) (λ_ _ _ _=>(qC (Zse T) (hM k) Z T.fP qo (qa (pv 0) qc)))) qc)))))))),?_⟩
 let#[d,c,fs,G,X,W,V]:=id B;let#[L,m,y]:=kJ.ok G W X V;omega;calc#[_,_,_,_,Y,Z,Z,.ty (.pl (.str _)),DS,hU #[Z,d::c,Z,trivial,{},m,y,iH.of λb H1 s1 n1 I=>#[b,_,Z,I,B,λH2 D=>hU (qH ?_)]]];omega;calc#[Z,d::c,Z,trivial,{},m,y,iH.of λu p s3 n3 C=>#[u,_,_,_,Z,Z,.mk C,je,_,Z,u,_,Z,.mk C,λg S=>?_]];let r:=rm (o:=.lst (jD ((d::c).map tx) (U 1) O)) S;let j:upd p g (.lst (jD ((d::c).map tx) (U 1) O)) g=U (.lst (c.map tx)):=by rw[qu];exact NQ (λx=>U (HO.lst x)) (yQ ((d::c).map tx) 1)
 generalize upd p g (.lst (jD ((d::c).map tx) (U 1) O))=H4 at r j;refine#[g,Z,#[_,.mk j],ib.listM (xs:=c.map tx) (λ_=>Y) (λi=>tx (c.getD i [])) (by rw[qm];lia) (.mk j) (λi H' Q' _ _ q=>q H' (g7.refl _)) ?_ ?_]
 .intro i H5 Q5 e _ z F;rw[qm]at e;rw[ze e];omega;calc#[_,Z,L _ ?_,F];rw[sw,rD e];exact xu e
 .intro M H5 z n5 l5;calc#[qJ ⋯ (vK sizeLine_eq.symm),jF.of λt H6 n n6 l6=>q t M d c H6 Z (s1.trans (D.trans (s3.trans (r.trans (z.trans n))))) l6 (n _ _ ?_)];rw[l5,i5,qm];congr 2;calc(kY c)
def JD:g9 P w K mg base qK 6 a.cf a.dw ["self"] (sp_KK K a):=by
 calc T.eY.u.ok Nl (λA2 A B s H vs Q E hr h=>?_);let⟨p,la,da,l,m,ds,rfl,hp,q⟩:=h;refine⟨_,(ql (qM (i:=1) Nl.nd (yU T.bb (EJ T) (hM hr) Z T.dG T.d9.b .nil qo (qa (rA (K:=K) Z (pv 0) Z) qc)))
  (qp (ql (vL (pv 1) (rA (K:=K) Z (pv 0) Z) Z)
  (qp (ql (vL (pv 1) (uZ (Cm (K:=K) Z) Z T.fE ya (qa (rA (K:=K) Z (pv 0) Z) qc)) Z)
  (qp (ql (vL (pv 1) (uZ (Cm (K:=K) Z) Z T.fE ya (qa (rA (K:=K) Z (pv 0) Z) qc)) Z)
  (qp (qk (qz (pv 1))))))))))),?_⟩
 let#[#[u,f],hk,#[k,d1,d2],W,ok,ab]:=id hp;omega;calc#[p,_,u,_,_,Z,f,T.ad,T.ai,Di,λx G j V ne=>?_];calc#[x,G,m,Z,qu,Zkv ok,λg c H2 L ad aa k2=>#[Z,?_]];let X:g7 H H2:=λb o e=>k2 b o (by rw[qh (qN e j),qh (qN e V)];calc e) (qN e j);let#[d,f2]:=L.fld;let ac:p≠x:=qN f j;ac_rfl;calc#[p,_,u,_,_,Z,X _ _ f,T.ad,T.aa,vv,x,_,d,_,Z,f2,T.ad,T.aa,(by show 4<1000;decide),?_];rw[show iq (Str.ofString "own_text") (tx l) (sF [] m g c)=sF l m g c from Mv];let t:g7 H (upd H2 x (.ins a.c_MR d (sF l m g c))):=ip X j;let I:upd H2 x (.ins a.c_MR d (sF l m g c)) x=U (.ins a.c_MR d (sF l m g c)):=qu;generalize upd H2 x (.ins a.c_MR d (sF l m g c))=H3 at t I;ac_rfl;calc#[p,_,u,_,_,Z,t _ _ f,T.ad,T.ah,FI,la,_,Z,.inl (.mk (t _ _ hk)),λl4 F=>?_];let N:g7 H3 (upd H3 l4 (.lst ((qE l m).map tx))):=rm F;let e4:upd H3 l4 (.lst ((qE l m).map tx)) l4=U (.lst ((qE l m).map tx)):=qu;generalize upd H3 l4 (.lst ((qE l m).map tx))=H4 at N e4;let n:x≠l4:=qN I F;calc#[x,_,d,_,Z,N _ _ I,T.ad,T.ah,(by show 4<1000;decide),?_];rw[show iq (Str.ofString "own_lacking") (.ref l4) (sF l m g c)=sF l m l4 c from LB];let r:g7 H (upd H4 x (.ins a.c_MR d (sF l m l4 c))):=ip (t.trans N) j;let D:upd H4 x (.ins a.c_MR d (sF l m l4 c)) x=U (.ins a.c_MR d (sF l m l4 c)):=qu;let z:upd H4 x (.ins a.c_MR d (sF l m l4 c)) l4=U (.lst ((qE l m).map tx)):=by rw[qh (qy n)];exact e4
 generalize upd H4 x (.ins a.c_MR d (sF l m l4 c))=H5 at r D z;ac_rfl;calc#[p,_,u,_,_,Z,r _ _ f,T.ad,T.af,Bw,da,_,Z,.inl (.mk (r _ _ d1)),λl6 y=>?_];let v:g7 H5 (upd H5 l6 (.lst k)):=rm y;let e6:upd H5 l6 (.lst k) l6=U (.lst k):=qu;generalize upd H5 l6 (.lst k)=H6 at v e6;let M:x≠l6:=qN D y;let C:l4≠l6:=qN z y;calc#[x,_,d,_,Z,v _ _ D,T.ad,T.af,(by show 4<1000;decide),?_];rw[show iq (Str.ofString "own_deeds") (.ref l6) (sF l m l4 c)=sF l m l4 l6 from Zlx];ac_rfl;let s7:g7 H (upd H6 x (.ins a.c_MR d (sF l m l4 l6))):=ip (r.trans v) j;refine q x l4 l6 _ s7 #[#[d,qu],?_,#[k,?_,d2.chg s7.chg (S:=[]) {}],W,ok,C] j (t.free F) (r.free y)
 .rw[qh (qy n)];exact v _ _ z
 .rw[qh (qy M)];calc e6
def Zr4:g9 P w K mg base (rP P w) 6 a.f_MD a.d_MD ["shelf","given"] (sp_MD K a):=by
 calc T.fQ.u.okX ZqY (λB A i s H C Q E d h=>?_);let⟨p,g,u,m,n,F,rfl,y,z,q,x⟩:=h;refine⟨_,(ql (rR (rX (pv 0) T.aq T.cq (ZsD T) (hM d) T.gm.b .nil sM (qa (re (sQ (K:=K) Z) (pv 1) qr (λ_ _=>rfl)) qc)))
  (qp (qk (qz (qF (l:=[111,107]) nofun))))),?_⟩
 let#[c,o,k,G,D]:=y;let#[v,f]:=c.fld;omega;calc#[p,v,_,Z,f,tS,g,_,_,_,Z,Z,.mk o,je,p,u,m,n,F,Z,c,z,λr d e t j b=>?_,x];ac_rfl;calc q r d e t j.chg (j.tt k c.dct) b
def Zsm:g9 P w K mg base (rP P w) 6 a.bR a.cZ ["self","name","letter"] (sp_LK K a):=by calc T.gy.u.okX Zrc (λC A d s H D Q E b h=>?_);let#[p,o,m,n,F,l,Z,c,B,k,t,q,x]:=h;calc#[_,(qk (qz (rX (rX (pv 0) T.aq T.a9 (Dl T) (hM b) T.dQ.b .nil sM (qa (pv 1) qc)) T.ad T.bc (E4 T) (hM b) T.eN.b .nil sM (qa (pv 2) qc)))),?_];let#[y,f]:=c.fld;omega;calc#[p,y,_,Z,f,tS,p,o,m,n,F,Z,c,B,λr b e G i=>?_,x];let j:=(c.str r b).same i;let#[u,g]:=id j.fld;let#[v,z]:=q r b e;calc#[r.p,u,_,Z,g,sN,r.p,r.la,r.da,r.l,m,r.ds,l,Z,j,v,k.same i,t,z.same i]
def ZsF:g9 P w K mg base (rP P w) 6 a.bS a.c7 ["self","name"] (sp_K2 K a):=by calc T.gn.u.okX ZrG (λz A d s H B Q E b h=>?_);let#[p,l,m,n,F,Z,c,y,k,q,x]:=h;calc#[_,(qk (qz (tO (rX (pv 0) T.aq T.a9 (Dl T) (hM b) T.dQ.b .nil sM (qa (pv 1) qc)) T.ad T.bt (Lv T) (hM b) T.fH.b .nil sM))),?_];let#[u,f]:=c.fld;omega;calc#[p,u,_,Z,f,tS,p,l,m,n,F,Z,c,y,λr b e C i=>?_,x];let j:=(c.str r b).same i;let#[o,g]:=id j.fld;let#[t,v]:=q r b e;calc#[r.p,o,_,Z,g,sN,r.p,r.la,r.da,r.l,m,r.ds,Z,j,t,k.same i,v.same i]
def ZsG:g9 P w K mg base (rP P w) 6 a.bT a.c9 ["self","name"] (sp_K1 K a):=by calc T.gp.u.okX ZrH (λz A d s H B Q E b h=>?_);let#[p,l,m,n,F,Z,c,y,k,q,x]:=h;calc#[_,(qk (qz (tO (rX (pv 0) T.aq T.a9 (Dl T) (hM b) T.dQ.b .nil sM (qa (pv 1) qc)) T.ad T.bu (Iy T) (hM b) T.fJ.b .nil sM))),?_];let#[u,f]:=c.fld;omega;calc#[p,u,_,Z,f,tS,p,l,m,n,F,Z,c,y,λr b e C i=>?_,x];let j:=(c.str r b).same i;let#[o,g]:=id j.fld;let#[t,v]:=q r b e;calc#[r.p,o,_,Z,g,sN,r.p,r.la,r.da,r.l,m,r.ds,Z,j,t,k.same i,v.same i]
def Zsc:g9 P w K mg base qK 6 a.f_M0 a.d_M0 ["_law_strip","_law_word","_law_letter"] (sp_M0 K a):=by
 calc T.gG.u.ok Zq2 (λA2 A S s H vs Q E i h=>?_);let u:=i.units;let⟨p,G,j,l,m,vb,n,us,c0,rfl,k,hd,V,mo,hc,e0,q⟩:=h;refine⟨_,(ql (qZ (PW.pt (Bo (ri (rE (K:=K) Z u) (pv 1) (qF (l:=[112,117,116]) nofun) (qT _)) (Bs (ri (rE (K:=K) Z u) (rq (sk (K:=K) Z) Z T.dL sj (qa (tO (pv 0) T.ad T.am (Da T) (hM i) T.d8.b .nil qo) qc)) qr (qT _))))) (qk (qz (qF (l:=[102,117,108,108]) nofun))) qY)
  (qp (ql (qZ (PW.pt (Bo (ri (rE (K:=K) Z u) (pv 1) (qF (l:=[100,114,111,112]) nofun) (qT _)) (Bs (ri (rE (K:=K) Z u) (tO (pv 0) T.ad T.am (Da T) (hM i) T.d8.b .nil qo) (qF (l:=[]) nofun) (qT _))))) (qk (qz (qF (l:=[98,97,114,101]) nofun))) qY)
  (qp (ql (qZ (PW.pt (Bo (ri (rE (K:=K) Z u) (pv 1) (qF (l:=[98,97,99,107]) nofun) (qT _)) (Bs (ri (rE (K:=K) Z u) (tO (pv 0) T.ad T.cB (ZsA T) (hM i) T.fY.b .nil qo) (uC qc) (qT _))))) (qk (qz (qF (l:=[110,111,110,101]) nofun))) qY)
  (qp (ql (qZ (ri (rE (K:=K) Z u) (pv 1) (qF (l:=[112,117,116]) nofun) (qT _)) (qk (qz (qC (Fk T) (hM i) Z T.fV qo (qa (rX (pv 0) T.ad T.bc (E4 T) (hM i) T.eN.b .nil wQ (qa (pv 2) qc)) qc)))) qY)
  (qp (ql (qZ (ri (rE (K:=K) Z u) (pv 1) (qF (l:=[100,114,111,112]) nofun) (qT _)) (qk (qz (qC (Fk T) (hM i) Z T.fV qo (qa (tO (pv 0) T.ad T.bt (Lv T) (hM i) T.fH.b .nil wQ) qc)))) qY)
  (qp (qk (qz (qC (Fk T) (hM i) Z T.fV qo (qa (tO (pv 0) T.ad T.bu (Iy T) (hM i) T.fJ.b .nil wQ) qc)))))))))))))),?_⟩
 let#[F,f]:=id k.fld;let ok:=wb k;let ab:=ok.l40;let W:∀I b B C,ux m vb us l n I b B C->∀(t c g d:AD)(v:Hp),qV [p,j] H v->g8 a.c_MR v p d j I m b->kc H v t c g d B C->TT a v->sp_MM K a [.ref t] v Q E0:=λI b B C M t c g d v X N L D=>by let#[ys,h1,r1]:=L.came;let#[zs,h2,r2]:=L.went;let#[b1,b2]:=M.bd ok (wb N);exact#[t,c,g,ys,zs,B,C,Z,L.tup,h1,h2,r1,r2,b1,b2,λH3 s3=>q.ok I b B C M d H3 (X.trans s3.chg) (N.same s3) L.nl (D.same s3)]
 omega;rcases mo with⟨rfl,c1,aa,rfl⟩|⟨rfl,rfl⟩|⟨rfl,rfl⟩
 .cases e0 Z;calc t5 (iB #[p,F,_,Z,f,sN,p,G,j,l,m,n,Z,k,_,_,Z,tT ∅,.inl #[Z,?_]]);rw[qe qO];by_cases z:⇑l=40
  .rw[NM (by rw[z];rfl)];exact iB (q.no _ (.put z) H (g7.refl _))
  .rw[NN (λe=>z (by injection e with e;lia))];calc hU (qH ?_);omega;calc uR ⋯ (hU (hU (qH ?_)));omega;calc uR ⋯ (hU (hU (qH ?_)));omega;exact t5 (iB #[p,F,_,Z,f,sN,p,G,j,l,m,n,c0,Z,k,∅,V,hc,W,λc e=>by cases e with | put h=>calc NR h z])
 .refine uR ⋯ (hU (hU (qH ?_)));omega;calc t5 (iB #[p,F,_,Z,f,sN,p,G,j,l,m,n,Z,k,?_]);by_cases z:l=[]
  .subst z;exact t5 (iB (q.no _ .drop H (g7.refl _)))
  .refine uR z (hU (qH ?_));omega;calc uR ⋯ (hU (hU (qH ?_)));omega;calc uR ⋯ (hU (qH ?_));omega;exact t5 (iB #[p,F,_,Z,f,sN,p,G,j,l,m,n,Z,k,∅,V,W,λc e=>by cases e with | drop=>calc NR rfl z])
 .refine uR ⋯ (hU (hU (qH ?_)));omega;calc uR ⋯ (hU (hU (qH ?_)));omega;calc t5 (iB #[p,F,_,Z,f,sN,p,G,j,l,m,n,Z,k,λr ts nr dd=>#[rM _,iH.of λy H1 s1 n1 l1=>?_]]);let s0:=rm (o:=.lst ts) nr;let x:=s0.trans s1;calc ZkT (s1 _ _ qu) (Zjc dd x) l1 ?_;by_cases z:n=[]
  .subst z;exact iB (q.no _ .back H1 x)
  .rw[NN z];calc hU (qH ?_);omega;calc uR ⋯ (hU (qH ?_));omega;calc uR ⋯ (hU (qH ?_));omega;calc#[p,F,_,Z,x _ _ f,sN,p,G,j,l,m,n,Z,k.same x,∅,V.same x,λI b B C M t c g d v X N L D=>W I b B C M t c g d v (x.chg.trans X) N (Ng L x) D,λc e=>by cases e with | back=>calc NR rfl z]
def Gh:g9 P w K mg base qK 6 a.f_MU a.d_MU ["_law_kept","_law_name","_law_text_here","_law_kinds_here"] (sp_MU K a):=by
 calc T.gh.u.ok Kf (λA2 A W s H vs Q E S h=>?_);let v:=u7 S;let⟨d,n,u,m,G,rfl,hB,nf,ok,tk,hG,q⟩:=h;refine⟨_,(ql (yu v (pv 0) (pv 1) (yU T.bb (EJ T) (hM S) Z T.dG T.d9.b .nil qo (qa (pv 3) qc)) Z)
  (qp (qk (sW sS Z (Be (pv 2)) (rp (i:=4) Kf.nd Z (Or.inl Z))
  (qk (rR (rX (uw v (pv 0) (pv 1) (λ_ _=>rfl)) T.ad T.bc (E4 T) (hM S) T.eN.b .nil wQ (qa (pv 4) qc)))))))),?_⟩
 let sz:∀k:Nat,k<=9000->k<sizeLine:=λk h=>CJ h (by rw[sizeLine_eq];decide);let ac:=ok.l40;omega;intro x dx C n2 n3;calc#[x,dx,m,Z,qu,ok.kok,λla N B st m1 m2 k1=>#[Z,?_]];let s1:=made C n2 k1;let p:=zL C n2 m2;let aa:=zL C n2 m1;let h1:=s1 _ _ hB;calc#[d,_,Z,jy.k (k:=qf n) h1 (by rw[Ku];calc sz _ ∅),?_];let c2:qV [d] B (upd B d (.dK (ii (iC G) (qf n) (.ref x)))):=qV.upd {};let L:=zr st c2 h1;let I:=(tk.same s1).upd (o':=.dK (ii (iC G) (qf n) (.ref x))) h1 Z Z;let h2:upd B d (.dK (ii (iC G) (qf n) (.ref x))) d=U (.dK (iC G++[(qf n,.ref x)])):=by rw[qu,zY _ (wU nf)]
 let D:qV [d] H (upd B d (.dK (ii (iC G) (qf n) (.ref x)))):=s1.chg.trans c2;generalize upd B d (.dK (ii (iC G) (qf n) (.ref x)))=H2 at c2 L I h2 D;ac_rfl;let g:hW (iC G++[(qf n,V.ref x)]) (qf n)=U (.ref x):=by rw[show iC G++[(qf n,V.ref x)]=ii (iC G) (qf n) (.ref x) from(zY _ (wU nf)).symm,uT,qg Z]
 refine#[u,Z,io.text (K5 a H d x N n u m G) #[_,la,Z,L,I,D,h2,.of aa] ?_ ?_]
 .rintro i y σ H3 hy ⟨v4,f,rfl,c,j,M,l,w3⟩;let hi:i<⇑u:=(rY.mp hy).1;let#[X,f3]:=id c.fld;omega;refine#[d,_,Z,.inl #[_,qf n,.inl l,Z,g.symm],x,X,_,Z,f3,sN,x,f,N,_,m,_,y,Z,c,?_,j,ok.mem y (sC hy),MO (by rw[rL];lia) λt r H4 c4 F w4 ab=>#[_,r,Z,?_,ab,λb o e nb z=>c4 _ _ (M _ _ e nb z) ?_ z,c4 _ _ l (wv c l (.inl #[_,Z])) Z,λo e=>?_]]
  .unfold uB;rw[qm,rL];lia
  .rw[yJ,hy];rw[Hf]at F;exact F
  .simp only[qS,yc,or_false,not_or];exact#[qN e C,qN e p]
  .cases z:ub o with
   | true=>rfl
   | false=>
    by_cases b:r=d
    .rw[b]at w4;have:=w4 _ l;cases this
    .rw[<-w4 o (M _ _ e (~~~b) z),z]
 .rintro σ H3 ⟨v4,f,rfl,c,j,M,l,w3⟩;rw[uJ]at c;walk_at "rd?";calc q #[n,x,f,N,u,uB u] H3 Z Z Z (.of C) w3 (.of p) M j ?_ c;rw[l];unfold iC;rw[sJ];rfl
def Zsn:g9 P w K mg base qK 6 a.bi a.dC ["self","kinds"] (sp_LG K a):=by calc T.gz.u.ok Zre (λL A j s H I Q E c h=>?_);let#[D,v,m,Z,l,f,q]:=h;calc#[_,(qk (vL (pv 0) (yU T.ck (ZsE T) (hM c) Z T.m_MQ T.gk.b .nil qo (qa (pv 1) qc)) Z)),?_];omega;intro p t i y G;calc#[p,t,m,Z,qu,f,λz M B C k=>#[Z,?_]];let u:=made i y k;let e:=u _ _ l;let x:=zL i y C;let#[#[F,g],d,_,_,_,_]:=B;calc#[D,_,v,_,Z,e,T.aG,T.ae,(by show 0<1000;decide),q p z _ #[#[v,qu],#[F,by rw[qh (qy (qN l i))];calc g],by rw[qh (qy (qN l x))];calc d,λr c=>(by cases c),λr c=>(by cases c),.nil,f] i x λb o e n=>by rw[qh n];calc u _ _ e]
def Zsf:g9 P w K mg base qK 7 a.f_LW a.d_LW ["words","kinds"] (sp_LW K a):=by
 calc T.fN.u.ok Db (λA2 A k s H vs Q E e h=>?_);let⟨b,G,l,m,rfl,D,d,n,V,q⟩:=h;refine⟨_,(ql (rR (qC (Zsk T) (hM e) Z T.fC qo (qa (pv 0) (qa (pv 1) qc))))
  (qp (ql (qM (i:=2) Db.nd (qC (Dz T) (hM e) Z T.dO qo (qa (pv 0) qc)))
  (qp (ql (rR (qC (Zsg T) (hM e) Z T.fM qo (qa (pv 2) qc)))
  (qp (ql (qM (i:=3) Db.nd (qC (ZrU T) (hM e) Z T.gK qo (qa (pv 2) (qa (pv 1) qc))))
  (qp (ql (qM (i:=4) Db.nd (qC (ZrW T) (hM e) Z T.gF qo (qa (pv 3) qc)))
  (qp (ql (qZ (ri (DJ (K:=K) Z) (qF (l:=[]) nofun) (pv 4) Z) (qk wD) qY)
  (qp (ql (qM (i:=5) Db.nd (qC (Zsr T) (hM e) Z T.f6 qo (qa (pv 3) (qa (pv 4) qc))))
  (qp (ql (qZ (ri Bh (rq (sk (K:=K) Z) Z T.dL sj (qa (pv 5) qc)) (yD Z T.c_KC) (qT _)) (qk wD) qY)
  (qp (ql (rR (qC (Zsq T) (hM e) Z T.f8 qo (qa (pv 2) (qa (pv 1) (qa (pv 5) qc)))))
  (qp (qk (qz (pv 5))))))))))))))))))))),?_⟩
 omega;calc#[b,G,l,m,Z,D,d,n,λH1 u=>?_];walk_at "h";let h1:=u _ _ D;calc#[b,G,Z,h1,λw W=>qJ (n.w41 d W) ⋯,V.same u,λws' r H2 pm _ N p nr o=>?_];let c:im l m ws':=pm.trans n;walk_at "h";calc#[r,ws',l,m,Z,o,d,c,λH3 M=>?_];walk_at "h";let S:=M _ _ o;calc#[r,ws',l,m,Z,S,d,c,λL C I H4 s4 n4 v x y=>?_];walk_at "h";calc#[L,C,ws',I,l,m,Z,v,x,y,d,c,λz t H5 j n5 B F=>?_];walk_at "h";calc#[z,t.map tx,Z,.inl (.mk B),Z,xM t,?_];rw[qg Z,Bp,NM F.nil];calc hU (qH ?_);omega;let aa:=j;calc#[L,z,C,ws',I,t,l,m,Z,j _ _ v,x.same j,y,d,c,B,F,λH6 X=>?_];walk_at "h";let ab:=d.l40;calc#[_,_,Z,tT ∅,i9 (λh=>NR (NO h) ∅) (λ_=>qH ?_)];omega;let f:=M.trans (s4.trans (j.trans X));calc#[r,ws',l,m,Z,f _ _ o,d,c,λH7 s7=>?_];walk_at "h";let g:=f.trans s7;calc q H7 ((u.l.trans N).trans g.l) (p.same g)
def MJ:g9 P w K mg base (rP P w) 7 a.bL a.cU ["self","name","strip"] (sp_LJ K a):=by
 calc T.fW.u.okX Zrd (λA2 A u s H vs Q E k h=>?_);let v:=u7 k;let⟨p,t,z,D,B,l,m,n,o,F,rfl,d,I,L,hF,q,x⟩:=h;refine⟨_,(ql (rR (rX (pv 0) T.aq T.bo (Ka T) (hM k) T.dZ.b .nil sM (qa (pv 1) qc)))
  (qp (ql (rR (qC (Zso T) (hM k) Z T.eO qo (qa (pv 0) (qa (pv 2) qc))))
  (qp (qk (yu v (rA (K:=K) Z (pv 0) Z) (pv 1) (tO (pv 2) T.ad T.bB (JD T) (hM k) T.eY.b .nil qo) Z)))))),?_⟩
 let#[C,f]:=d.fld;let#[V,g]:=id I.fld;omega;calc#[p,C,_,Z,f,tS,p,t,m,n,F,Z,d,L,λM H1 c=>?_,x];let i:=I.same c;walk_at "h";calc#[p,z,t,D,B,l,m,o,F,Z,d.same c,i,?_];walk_at "h";calc#[z,V,_,Z,c _ _ g,sN,z,D,B,l,m,o,Z,i,λG e j H2 N y X n2 n3=>?_];let b:=c.trans N;let#[S,W]:=d.lay (r:=#[n,G,e,j,l,o]) b y L M;calc#[p,_,C,_,_,Z,b _ _ f,T.aq,T.ag,BT,t,_,Z,.inl #[_,qf n,b _ _ d.dct,Z,by rw[Ku];calc CJ hF (by rw[sizeLine_eq];decide),Z],q M #[n,G,e,j,l,o] _ Z Z Z (c.free X) (c.free n2) (c.free n3) W S]
def ZrY:g9 P w K mg base (rP P w) 7 a.f_MS a.d_MS ["shelf","given"] (sp_MS K a):=by calc T.gg.u.okX ZqS (λA2 A j s H vs Q E b h=>?_);let#[p,g,D,m,n,F,c0,Z,ac,hn,hc,q,x]:=h;calc#[_,(qk (qz (qC (Gc T) (hM b) Z T.dP qo (qa (rX (pv 0) T.aq T.cu (Zsm T) (hM b) T.gy.b .nil sM (qa (re (sQ (K:=K) Z) (pv 1) qr (λ_ _=>rfl)) (qa (re (sQ (K:=K) Z) (pv 1) qr (λ_ _=>rfl)) qc))) qc)))),?_];let#[i,B,L,hF,hd]:=ac;let#[I,f]:=i.fld;omega;calc#[p,I,_,Z,f,tS,g,_,_,_,Z,Z,.mk B,je,g,_,_,_,Z,Z,.mk B,Z,p,D,m,n,F,c0,Z,i,hn,L,hc,λr b e=>#[qJ (hd r b) ⋯,λl2 l v y z t c g' u H2 ch C d k=>?_,(q r b e).no],x];let#[G,W,M]:=d.came;let#[N,X,S]:=d.went;let#[V,b2]:=z.bd (wb (i.str r b)) (wb C);calc#[t,c,g',G,N,v,y,Z,d.tup,W,X,M,S,V,b2,λH3 o=>(q r b e).ok l2 l v y z u H3 (ch.trans o.chg) (C.same o) d.nl (k.same o)]
def Zr6:g9 P w K mg base (rP P w) 7 a.f_MB a.d_MB ["shelf","given"] (sp_MB K a):=by calc T.fR.u.okX ZqZ (λA2 A j s H vs Q E b h=>?_);let#[p,g,C,m,n,F,Z,ac,hn,q,x]:=h;calc#[_,(qk (qz (qC (Gc T) (hM b) Z T.dP qo (qa (rX (pv 0) T.aq T.cz (ZsF T) (hM b) T.gn.b .nil sM (qa (re (sQ (K:=K) Z) (pv 1) qr (λ_ _=>rfl)) qc)) qc)))),?_];let#[i,X,I,hF,hd]:=ac;let#[G,f]:=i.fld;omega;calc#[p,G,_,Z,f,tS,g,_,_,_,Z,Z,.mk X,je,p,C,m,n,F,Z,i,hn,I,λr b e=>#[qJ (hd r b) ⋯,λl2 l v y z t c g' u H2 ch B d k=>?_,(q r b e).no],x];let#[D,V,L]:=d.came;let#[M,W,N]:=d.went;let#[S,b2]:=z.bd (wb (i.str r b)) (wb B);calc#[t,c,g',D,M,v,y,Z,d.tup,V,W,L,N,S,b2,λH3 o=>(q r b e).ok l2 l v y z u H3 (ch.trans o.chg) (B.same o) d.nl (k.same o)]
def Zr7:g9 P w K mg base (rP P w) 7 a.f_MA a.d_MA ["shelf","given"] (sp_MA K a):=by calc T.fS.u.okX Zq0 (λA2 A j s H vs Q E b h=>?_);let#[p,g,C,m,n,F,Z,ac,hn,q,x]:=h;calc#[_,(qk (qz (qC (Gc T) (hM b) Z T.dP qo (qa (rX (pv 0) T.aq T.cA (ZsG T) (hM b) T.gp.b .nil sM (qa (re (sQ (K:=K) Z) (pv 1) qr (λ_ _=>rfl)) qc)) qc)))),?_];let#[i,X,I,hF,hd]:=ac;let#[G,f]:=i.fld;omega;calc#[p,G,_,Z,f,tS,g,_,_,_,Z,Z,.mk X,je,p,C,m,n,F,Z,i,hn,I,λr b e=>#[qJ (hd r b) ⋯,λl2 l v y z t c g' u H2 ch B d k=>?_,(q r b e).no],x];let#[D,V,L]:=d.came;let#[M,W,N]:=d.went;let#[S,b2]:=z.bd (wb (i.str r b)) (wb B);calc#[t,c,g',D,M,v,y,Z,d.tup,V,W,L,N,S,b2,λH3 o=>(q r b e).ok l2 l v y z u H3 (ch.trans o.chg) (B.same o) d.nl (k.same o)]
def Ip:g9 P w K mg base (rP P w) 7 a.bP a.cX ["self","name"] (sp_KO K a):=by calc T.fz.u.okX Zrw (λN A i s H M Q E b h=>?_);let#[p,u,m,n,F,Z,d,G,q,x]:=h;calc#[_,(qk (qz (tO (rX (pv 0) T.aq T.a9 (Dl T) (hM b) T.dQ.b .nil sM (qa (pv 1) qc)) T.ad T.bB (JD T) (hM b) T.eY.b .nil qo))),?_];let#[v,f]:=d.fld;omega;calc#[p,v,_,Z,f,tS,p,u,m,n,F,Z,d,G,λr b e L c=>?_,x];let o:=(d.str r b).same c;let#[y,g]:=id o.fld;calc#[r.p,y,_,Z,g,sN,r.p,r.la,r.da,r.l,m,r.ds,Z,o,λC k l I t j z D B=>q r b e C k l I (c.trans t) j (c.free z) (c.free D) (c.free B)]
def Zsu:g9 P w K mg base (rP P w) 8 a.f_L1 a.d_L1 ["shelf","given"] (sp_L1 K a):=by
 calc T.e8.u.okX Zrn (λA2 A i s H vs Q E d h=>?_);let⟨p,g,u,m,n,F,rfl,V,X,q,x⟩:=h;refine⟨_,(ql (rR (rX (pv 0) T.aq T.bp (MJ T) (hM d) T.fW.b .nil sM (qa (re (sQ (K:=K) Z) (pv 1) qr (λ_ _=>rfl)) (qa (yU T.bb (EJ T) (hM d) Z T.dG T.d9.b .nil qo (qa (tO (pv 0) T.aq T.ba (EV T) (hM d) T.dU.b .nil qo) qc)) qc))))
  (qp (qk (qz (qF (l:=[111,107]) nofun))))),?_⟩
 let#[c,L,C,hF,hd]:=V;let#[v,f]:=c.fld;omega;calc#[p,v,_,Z,f,tS,g,_,_,_,Z,Z,.mk L,je,p,v,_,Z,f,tS,p,u,m,F,Z,c,λt j I W n3=>?_];calc#[t,j,m,Z,qu,c.kok,λM z H2 st n4 n5 k=>#[Z,?_]];let b:=made I W k;calc#[p,u,t,M,z,[],m,n,[],F,Z,c.same b,st,X,∅,λnf r N e1 e2 S D B G y o=>?_,λr d e=>(x r d e).same b];ac_rfl;calc q nf r N e1 e2 S (Fj b D) (Fj b B) (Fj b G) (b.chg.trans y.chg) (y.tt (C.same b) (b _ _ c.dct)) o
def Zr5:g9 P w K mg base (rP P w) 8 a.f_MC a.d_MC ["shelf","given"] (sp_MC K a):=by
 calc T.fT.u.okX EA (λA2 A ab s H vs Q E j h=>?_);let⟨p,g,M,m,n,F,C,l,rfl,ac,hn,V,lk,q,x⟩:=h;refine⟨_,(ql (rR (rX (pv 0) T.aq T.bo (Ka T) (hM j) T.dZ.b .nil sM (qa (re (sQ (K:=K) Z) (pv 1) qr (λ_ _=>rfl)) qc)))
  (qp (ql (qM (i:=2) EA.nd (qC (Zsf T) (hM j) Z T.fN qo (qa (tX (zU (K:=K) Z) (pv 1) (tM qr) uo) (qa (tO (pv 0) T.aq T.ba (EV T) (hM j) T.dU.b .nil qo) qc))))
  (qp (ql (qM (i:=3) EA.nd (yU T.bb (EJ T) (hM j) Z T.dG T.d9.b .nil qo (qa (tO (pv 0) T.aq T.ba (EV T) (hM j) T.dU.b .nil qo) qc)))
  (qp (ql (sW Zpv Z (Be (pv 2)) (rp (i:=4) EA.nd Z (Or.inl Z))
  (qk (rR (rX (pv 3) T.ad T.bc (E4 T) (hM j) T.eN.b .nil sM (qa (pv 4) qc)))))
  (qp (ql (rR (rX (pv 0) T.aq T.bp (MJ T) (hM j) T.fW.b .nil sM (qa (re (sQ (K:=K) Z) (pv 1) qr (λ_ _=>rfl)) (qa (pv 3) qc))))
  (qp (qk (qz (qC (B0 T) (hM j) Z T.dM qo (qa (uC (qa (pv 2) qc)) qc)))))))))))))),?_⟩
 let#[sh,hg,tk,hF,hd]:=ac;let#[N,f]:=sh.fld;let aj:=V.l40;omega;calc#[p,N,_,Z,f,tS,g,_,_,_,Z,Z,.mk hg,je,p,M,m,n,F,Z,sh,hn,λnf H1 s1=>?_,x];ac_rfl;calc#[_,Z,g,_,Z,.mk (s1 _ _ hg),λb nb=>?_];let B:=s1.trans (rm (o:=.lst (jD ((n::C).map tx) (U 1) O)) nb);let l2:upd H1 b (.lst (jD ((n::C).map tx) (U 1) O)) b=U (.lst (C.map tx)):=by rw[qu];exact NQ (λx=>U (HO.lst x)) (yQ ((n::C).map tx) 1)
 generalize upd H1 b (.lst (jD ((n::C).map tx) (U 1) O))=H2 at B l2;let G:=sh.same B;calc#[p,N,_,Z,B _ _ f,tS,p,M,m,F,Z,G,b,C,l,m,Z,l2,V,lk,tk.same B,λH3 s3 ad=>?_];let ah:iD H H3:=B.l.trans s3;ac_rfl;let L:=G.l s3;calc#[p,N,_,Z,s3 _ _ (B _ _ f) Z,tS,p,M,m,F,Z,L,λD dq S v ai=>?_];calc#[D,dq,m,Z,qu,V.kok,λla da H4 st n4 n5 k=>#[Z,?_]];let s4:=made S v k;let X:=zL S v n5;let ae:=zL S v n4;ac_rfl;refine#[l,Z,io.text (λi σ H'=>∃v4,σ=[U (.ref p),U (.ref g),U (tx l),U (.ref D),v4]/\km a H3 D da m (l.take i) H') #[_,Z,la,st,ad.same s4,s4.l,.of ae] ?_ ?_]
 .rintro i x σ H5 hx ⟨v4,rfl,u,d,z,W,n5⟩;let hi:i<⇑l:=(rY.mp hx).1;let#[af,f5]:=id d.fld;omega;refine#[D,af,_,Z,f5,sN,D,u,da,_,m,_,x,Z,d,?_,z,V.mem x (sC hx),km.put S X W (by rw[rL];lia) λt H6 ag=>#[_,Z,?_]]
  .unfold uB;rw[qm,rL];lia
  .rw[yJ,hx];exact ag
 .rintro σ H5 ⟨v4,rfl,u,d,z,W,n5⟩;rw[uJ]at d;walk_at "k";let c:iD H H5:=ah.trans W;let I:=L.l W;calc#[p,N,_,Z,c _ _ f Z,tS,g,_,_,_,Z,Z,.mk (c _ _ hg Z),je,p,M,D,u,da,l,m,n,_,F,Z,I,d,hn,∅,λ_ r H6 e1 e2 e3 f1 f2 f3 kb aa=>?_,λr j e=>NR e (nf r j)];ac_rfl;calc#[sz _ ⋯,iH.of λb2 H7 s7 n7 l7=>#[b2,[l],Z,l7,(by show 1<=1000;decide),by rw[zh,List.sum_singleton];lia,λH8 s8=>?_]];let y:=s7.trans s8;calc q nf r H8 e1 e2 e3 (Nw.sl (.of f1) c) (Nw.sl (.of f2) c) (Nw.sl (.of f3) c) ((qV.trans c.chg kb.chg).trans y.chg) ((kb.tt z I.dct).same y) (aa.same y)
def Zr3:g9 P w K mg base (rP P w) 8 a.f_ME a.d_ME ["shelf","given"] (sp_ME K a):=by
 calc T.fU.u.okX ZqX (λA2 A d s H vs Q E c h=>?_);let#[p,g,u,m,n,F,Z,G,I,q,x]:=h;calc#[_,(qk (qz (qC (B0 T) (hM c) Z T.dM qo (qa (uC (qa (tO (rX (pv 0) T.aq T.bq (Ip T) (hM c) T.fz.b .nil sM (qa (re (sQ (K:=K) Z) (pv 1) qr (λ_ _=>rfl)) qc)) T.ad T.am (Da T) (hM c) T.d8.b .nil qo) qc)) qc)))),?_];let#[l,C,S,hF,hd]:=G;let#[v,f]:=l.fld;omega;calc#[p,v,_,Z,f,tS,g,_,_,_,Z,Z,.mk C,je,p,u,m,n,F,Z,l,I,λr c e o j k H2 t i V n2 W=>?_,x];let#[B,z]:=id i.fld;calc#[o,B,_,Z,z,sN,o,j,k,r.l,m,r.ds,Z,i,qJ ⋯ (vK sizeLine_eq.symm),iH.of λb X L N M=>#[b,[r.l],Z,M,(by show 1<=1000;decide),?_,λy D=>q r c e y (t.trans (L.trans D))]];have:=(wb i).l40;rw[zh,List.sum_singleton]
 lia
def Zsd:g9 P w K mg base (rP P w) 8 a.f_LZ a.d_LZ ["shelf","given"] (sp_LZ K a):=by calc T.fk.u.okX Zq3 (λA2 A d s H vs Q E c h=>?_);let#[p,g,v,m,n,F,Z,M,N,q,x]:=h;calc#[_,(qk (qz (qC (B0 T) (hM c) Z T.dM qo (qa (tO (rX (pv 0) T.aq T.bq (Ip T) (hM c) T.fz.b .nil sM (qa (re (sQ (K:=K) Z) (pv 1) qr (λ_ _=>rfl)) qc)) T.ad T.br (IJ T) (hM c) T.eG.b .nil qo) qc)))),?_];let#[l,I,S,hF,hd]:=M;let#[z,f]:=l.fld;omega;calc#[p,z,_,Z,f,tS,g,_,_,_,Z,Z,.mk I,je,p,v,m,n,F,Z,l,N,λr c e o j k H2 t i W n2 X=>?_,x];let#[D,C]:=id i.fld;let#[y,u,V]:=F8 (wb i);calc#[o,D,_,Z,C,sN,o,j,k,r.l,m,r.ds,Z,i,λb G=>#[b,qE r.l m,Z,qu,y,u,λB L=>q r c e B (t.trans ((rm G).trans L))]]
def zM:g9 P w K mg base (rP P w) 9 a.cg a.dD ["self","line"] (sp_LQ K a):=by
 calc T.dR.u.okX FS (λA2 A z s H vs Q E d h=>?_);let⟨j,p,c,m,F,N,rfl,hk,I,hF,hd,q⟩:=h;refine⟨_,(ql (qM (i:=2) FS.nd (qC (Zr9 T) (hM d) Z T.gL qo (qa (pv 1) qc)))
  (qp (ql (qM (i:=3) FS.nd (KZ (K:=K) (w:=w) Z Z (Dd (v:=.ref a.v_ANSWERS) Z T.v_ANSWERS Z) (re (t8 (K:=K) Z) (pv 2) qr (λ_ _=>rfl)) (λ_ _=>rfl)))
  (qp (qk (qz (zn (yt (Zsu T) (hM d) (pv 3) T.e8.u.kp T.e8.b .nil sM (qa (rA (K:=K) Z (pv 0) Z) (qa (re (t8 (K:=K) Z) (pv 2) qr (λ_ _=>rfl)) qc))) (zn (yt (Zr4 T) (hM d) (pv 3) T.fQ.u.kp T.fQ.b .nil sM (qa (rA (K:=K) Z (pv 0) Z) (qa (re (t8 (K:=K) Z) (pv 2) qr (λ_ _=>rfl)) qc))) (zn (yt (ZrY T) (hM d) (pv 3) T.gg.u.kp T.gg.b .nil sM (qa (rA (K:=K) Z (pv 0) Z) (qa (re (t8 (K:=K) Z) (pv 2) qr (λ_ _=>rfl)) qc))) (zn (yt (Zr6 T) (hM d) (pv 3) T.fR.u.kp T.fR.b .nil sM (qa (rA (K:=K) Z (pv 0) Z) (qa (re (t8 (K:=K) Z) (pv 2) qr (λ_ _=>rfl)) qc))) (zn (yt (Zr7 T) (hM d) (pv 3) T.fS.u.kp T.fS.b .nil sM (qa (rA (K:=K) Z (pv 0) Z) (qa (re (t8 (K:=K) Z) (pv 2) qr (λ_ _=>rfl)) qc))) (zn (yt (Zr5 T) (hM d) (pv 3) T.fT.u.kp T.fT.b .nil sM (qa (rA (K:=K) Z (pv 0) Z) (qa (re (t8 (K:=K) Z) (pv 2) qr (λ_ _=>rfl)) qc))) (zn (yt (Zsv T) (hM d) (pv 3) T.fh.u.kp T.fh.b .nil qo (qa (rA (K:=K) Z (pv 0) Z) (qa (re (t8 (K:=K) Z) (pv 2) qr (λ_ _=>rfl)) qc))) (zn (yt (Zr3 T) (hM d) (pv 3) T.fU.u.kp T.fU.b .nil sM (qa (rA (K:=K) Z (pv 0) Z) (qa (re (t8 (K:=K) Z) (pv 2) qr (λ_ _=>rfl)) qc))) (yt (Zsd T) (hM d) (pv 3) T.fk.u.kp T.fk.b .nil sM (qa (rA (K:=K) Z (pv 0) Z) (qa (re (t8 (K:=K) Z) (pv 2) qr (λ_ _=>rfl)) qc))))))))))))))))),?_⟩
 let#[#[e,f],B]:=hk;omega;calc#[N,Z,q.line B.kok,λt g vb us M V u b C=>?_];subst V;let L:=q.same u;let#[G,r,l]:=ZqE T.sd_ANSWERS;ac_rfl;let n:wK a M p g c m F us:=#[B.same u,C,I.same u,hF,hd];let k:=u _ _ f;clear q C;cases L with
 | strip i q x=>
  calc yf b r (l (y:="answer_strip") nofun T.e8.m) (qH (Or.inl ?_));omega;exact#[trivial,j,_,e,_,_,Z,k,T.aG,T.ae,xV,t,_,_,_,Z,Z,.mk b,Z,p,g,c,m,_,F,Z,n,i,q,x]
 | take i q x=>
  calc yf b r (l (y:="answer_take") nofun T.fQ.m) (qH (Or.inr (Or.inl ?_)));omega;exact#[trivial,j,_,e,_,_,Z,k,T.aG,T.ae,xV,t,_,_,_,Z,Z,.mk b,Z,p,g,c,m,_,F,Z,n,i,q,x]
 | move o i q x=>
  rcases o with⟨rfl,W,X,rfl⟩|⟨rfl,rfl⟩|⟨rfl,rfl⟩
  .refine yf b r (l (y:="answer_put") nofun T.gg.m) (qH (Or.inr (Or.inr (Or.inl ?_))));omega;exact#[trivial,j,_,e,_,_,Z,k,T.aG,T.ae,xV,t,_,_,_,Z,Z,.mk b,Z,p,g,c,m,_,F,W,Z,n,i,X,q,x]
  .refine yf b r (l (y:="answer_drop") nofun T.fR.m) (qH (Or.inr (Or.inr (Or.inr (Or.inl ?_)))));omega;exact#[trivial,j,_,e,_,_,Z,k,T.aG,T.ae,xV,t,_,_,_,Z,Z,.mk b,Z,p,g,c,m,_,F,Z,n,i,q,x]
  .refine yf b r (l (y:="answer_back") nofun T.fS.m) (qH (Or.inr (Or.inr (Or.inr (Or.inr (Or.inl ?_))))));omega;exact#[trivial,j,_,e,_,_,Z,k,T.aG,T.ae,xV,t,_,_,_,Z,Z,.mk b,Z,p,g,c,m,_,F,Z,n,i,q,x]
 | «from» i D S q x=>
  calc yf b r (l (y:="answer_from") nofun T.fT.m) (qH (Or.inr (Or.inr (Or.inr (Or.inr (Or.inr (Or.inl ?_)))))));omega;exact#[trivial,j,_,e,_,_,Z,k,T.aG,T.ae,xV,t,_,_,_,Z,Z,.mk b,Z,p,g,c,m,_,F,_,_,Z,n,i,D,S,q,x]
 | names q=>
  calc yf b r (l (y:="answer_names") nofun T.fh.m) (qH (Or.inr (Or.inr (Or.inr (Or.inr (Or.inr (Or.inr (Or.inl ?_))))))));omega;exact#[trivial,j,_,e,_,_,Z,k,T.aG,T.ae,xV,t,_,_,_,Z,Z,.mk b,Z,p,g,c,m,F,Z,n,q]
 | text i q x=>
  calc yf b r (l (y:="answer_text") nofun T.fU.m) (qH (Or.inr (Or.inr (Or.inr (Or.inr (Or.inr (Or.inr (Or.inr (Or.inl ?_)))))))));omega;exact#[trivial,j,_,e,_,_,Z,k,T.aG,T.ae,xV,t,_,_,_,Z,Z,.mk b,Z,p,g,c,m,_,F,Z,n,i,q,x]
 | lacks i q x=>
  calc yf b r (l (y:="answer_lacks") nofun T.fk.m) (qH (Or.inr (Or.inr (Or.inr (Or.inr (Or.inr (Or.inr (Or.inr (Or.inr (?_))))))))));omega;calc#[trivial,j,_,e,_,_,Z,k,T.aG,T.ae,xV,t,_,_,_,Z,Z,.mk b,Z,p,g,c,m,_,F,Z,n,i,q,x]
def KS:g9 P w K mg base qK 10 a.f_M8 a.d_M8 ["_law_desk","_law_line"] (sp_M8 K a):=by
 calc T.gI.u.ok xj (λA2 A j s H vs Q E d h=>?_);let⟨r,p,x,m,F,I,rfl,u,C,hF,hd,q⟩:=h;refine⟨_,(ql (qM (i:=2) xj.nd (qF (l:=[110,111,116,104,105,110,103]) nofun))
  (qp (ql (Zpk Z Z (ZlC (ZnR (i:=2) xj.nd Z (Or.inl Z) (ZlE (pv 0) T.aG T.a8 (zM T) (hM d) T.dR.b .nil (qa (pv 1) qc)))) (Io (i:=3) (λ_=>d.hd) Z T.m_LI xj.nd Z Z (λ_=>(qk (qM (i:=2) xj.nd (qB sL (qF (l:=[116,104,101,114,101,32]) nofun) (Ld (K:=K) Z (pv 3) Z))))) (Io (i:=3) (λ_=>d.hd) Z T.dH xj.nd Z Z (λ_=>(qk (qM (i:=2) xj.nd (qB sL (qF (l:=[110,111,32]) nofun) (Ld (K:=K) Z (pv 3) Z))))) (FQ (λ_=>d.hd) Z T.m_M6 (λ_=>(qk (qM (i:=2) xj.nd (qF (l:=[102,117,108,108]) nofun)))) (FQ (λ_=>d.hd) Z T.m_M4 (λ_=>(qk (qM (i:=2) xj.nd (qF (l:=[98,97,114,101]) nofun)))) (FQ (λ_=>d.hd) Z T.m_L8 (λ_=>(qk (qM (i:=2) xj.nd (qF (l:=[110,111,110,101]) nofun)))) Zpm))))))
  (qp (qk (qz (pv 2))))))),?_⟩
 let o:=T.nd;simp only[uX,qS,yc,or_false,not_or]at o;let#[#[k,g,t,z,b5],#[N,S,M,c4],#[G,d2,B],#[V,W],D,_]:=o;let#[#[y,f],sh]:=id u;omega;ac_rfl;refine#[r,y,_,Z,f,yq nofun,r,p,x,m,F,I,Z,u,C,hF,hd,q.mono (λv X h=>?_) λc eo X h=>?_]
 .ac_rfl;exact h
 let#[e,Z,h]:=h;rcases h with⟨n,L,rfl,b,h⟩|⟨n,L,rfl,b,h⟩|⟨rfl,b,h⟩|⟨rfl,b,h⟩|⟨rfl,b,h⟩
 .refine#[e,_,Z,Z,_,CH T.cF,iB #[e,_,_,_,Z,b,T.cE.c,T.aD,IA,jT #[sz _ (by show 6+⇑n<=9000;lia),qH ?_]]];omega;exact h
 .refine#[e,_,Z,Z,_,wV T.cD T.cF N g,hU #[_,CH T.cD,iB #[e,_,_,_,Z,b,T.cj.c,T.aH,IA,jT #[sz _ (by show 3+⇑n<=9000;lia),qH ?_]]]];omega;exact h
 .refine#[e,_,Z,Z,_,wV T.cG T.cF (qy G) g,hU #[_,wV T.cG T.cD (qy S) k,hU #[_,CH T.cG,iB (qH ?_)]]];omega;exact h
 .refine#[e,_,Z,Z,_,wV T.cH T.cF (qy d2) g,hU #[_,wV T.cH T.cD (qy M) k,hU #[_,wV T.cH T.cG (qy V) t,hU #[_,CH T.cH,iB (qH ?_)]]]];omega;exact h
 .refine#[e,_,Z,Z,_,wV T.cI T.cF (qy B) g,hU #[_,wV T.cI T.cD (qy c4) k,hU #[_,wV T.cI T.cG (qy W) t,hU #[_,wV T.cI T.cH (qy D) z,hU #[_,CH T.cI,iB (qH ?_)]]]]];omega;calc h
def Zr8:g9 P w K mg base qK 11 a.f_M9 a.d_M9 ["_law_desk","_law_kept","_law_names_here","_law_kinds_here","_law_cell"] (sp_M9 K a):=by
 calc T.gM.u.ok vJ (λA2 A au s H vs Q E t h=>?_);let A5:=t.units;let am:=u7 t;let⟨dk,p,dA,y,m,F,G,X,k,b,N,c,rfl,v,hk,tk,hb,n1,n4,hn,q⟩:=h;refine⟨_,(ql (qM (i:=5) vJ.nd (qB tK (pv 4) qr))
  (qp (ql (qM (i:=6) vJ.nd (re (sQ (K:=K) Z) (pv 2) (qB tK (qB yi (pv 4) qr) (rq (sk (K:=K) Z) Z T.dL sj (qa (pv 2) qc))) (λ_ _=>rfl)))
  (qp (ql (qM (i:=7) vJ.nd (re yO (pv 3) (qB tK (qB yi (pv 4) qr) (rq (sk (K:=K) Z) Z T.dL sj (qa (pv 3) qc))) (λ_ _=>rfl)))
  (qp (ql (qM (i:=8) vJ.nd (qF (l:=[]) nofun))
  (qp (ql (qM (i:=9) vJ.nd (re (sQ (K:=K) Z) (uC (qa (qF (l:=[115,116,114,105,112]) nofun) (qa (qF (l:=[102,114,111,109]) nofun) (qa (qF (l:=[116,97,107,101]) nofun) (qa (qF (l:=[100,114,111,112]) nofun) (qa (qF (l:=[100,114,111,112]) nofun) (qa (qF (l:=[98,97,99,107]) nofun) (qa (qF (l:=[98,97,99,107]) nofun) qc)))))))) (rq (Ml Z) Z T.gV JE (qa (pv 5) (qa qr qc))) (λ_ _=>rfl)))
  (qp (ql (qZ (ri Bh (pv 5) qr (qT _)) (qk (qM (i:=9) vJ.nd (qF (l:=[112,117,116]) nofun))) qY)
  (qp (ql (qM (i:=10) vJ.nd (uu wy BW B4 Ci (qF (l:=[32]) nofun) (qa (qB Dy (uC (qa (pv 9) (qa (pv 6) qc))) (qB JK (uC (qa (pv 7) qc)) (uZ JH Z T.gW NG (qa (tF (rE (K:=K) Z A5) (pv 9) (qF (l:=[112,117,116]) nofun) (qT _)) qc)))) qc)))
  (qp (ql (qZ (ri (rE (K:=K) Z A5) (pv 5) qr (qT _)) (qp (ql (qM (i:=8) vJ.nd (qC (MA T) (hM t) Z T.gO qo (qa (qB yi (pv 4) qr) (qa (pv 3) (qa (qB tK (qB yi (pv 4) qr) qr) qc)))))
  (qp (ql (qM (i:=11) vJ.nd (tO (yU T.bj (MI T) (hM t) Z T.m_MP T.fG.b .nil qo (qa (pv 8) (qa (pv 3) qc))) T.aZ T.aw (KG T) (hM t) T.eR.b .nil qo))
  (qp (ql (qM (i:=12) vJ.nd (qB tK (qB yi (pv 4) qr) (rq (sk (K:=K) Z) Z T.dL sj (qa (pv 11) qc))))
  (qp (qk (qM (i:=10) vJ.nd (uu wy BW B4 Ci (qF (l:=[32]) nofun) (qa (qB Dy (qB Dy (uC (qa (pv 10) qc)) (tX (zU (K:=K) Z) (pv 11) (tM (pv 12)) uo)) (tX (zU (K:=K) Z) (pv 11) uo (tM (pv 12)))) qc))))))))))) qY)
  (qp (ql (qM (i:=13) vJ.nd (qC (KS T) (hM t) Z T.gI qo (qa (pv 0) (qa (pv 10) qc))))
  (qp (ql (qZ (PW.pt (Bo (ri CD (pv 5) qr (qT _)) (Bs (yF (Hi am (pv 6) (pv 1)))))) (qp (qk (qz (tF (rE (K:=K) Z A5) (pv 13) (qB sL (qF (l:=[116,104,101,114,101,32]) nofun) (pv 6)) (qT _))))) qY)
  (qp (ql (qZ (ri (rE (K:=K) Z A5) (pv 5) qr (qT _)) (qp (ql (rR (qC (Gh T) (hM t) Z T.gh qo (qa (pv 1) (qa (pv 6) (qa (qF (l:=[]) nofun) (qa (pv 3) qc))))))
  (qp (qk (qz (tF (rE (K:=K) Z A5) (pv 13) (qF (l:=[111,107]) nofun) (qT _))))))) qY)
  (qp (ql (qZ (ri (rE (K:=K) Z A5) (pv 5) qr (qT _)) (qp (ql (rR (qC (Gh T) (hM t) Z T.gh qo (qa (pv 1) (qa (pv 6) (qa (pv 8) (qa (pv 3) qc))))))
  (qp (qk (qz (tF (rE (K:=K) Z A5) (pv 13) (qC (IR T) (hM t) Z T.gf qo (qa (pv 8) qc)) (qT _))))))) qY)
  (qp (ql (qZ (yF (Ei am (pv 6) (pv 1))) (qp (qk (qz (tF (rE (K:=K) Z A5) (pv 13) (qB sL (qF (l:=[110,111,32]) nofun) (pv 6)) (qT _))))) qY)
  (qp (ql (qZ (ri (rE (K:=K) Z A5) (pv 5) qr (qT _)) (qp (ql (rR (IX (pv 1) (pv 6) #[Z,Z,Z,Z]))
  (qp (qk (qz (tF (rE (K:=K) Z A5) (pv 13) (qF (l:=[111,107]) nofun) (qT _))))))) qY)
  (qp (qk (qz (tF (rE (K:=K) Z A5) (pv 13) (qC (Zsc T) (hM t) Z T.gG qo (qa (uw am (pv 1) (pv 6) (λ_ _=>rfl)) (qa (pv 9) (qa (pv 7) qc)))) (qT _)))))))))))))))))))))))))))))))),?_⟩
 let m1:=v.dsk.sh.kok.m1;let m4:=v.dsk.sh.kok.m4;let w0:0<=c % 16:=tY _ ⋯;let aB:c % 16<16:=ue _ ⋯;omega;calc#[⋯,qH ?_];obtain⟨W,eW⟩:∃W,W=c % 16:=#[_,Z];rw[<-eW]at w0 aB ⊢;omega;let#[n,aA,aC]:=Bu (xs:=N) (i:=c/16 % ⇑N) (tY _ ∅) (ue _ ∅);refine#[#[⋯,⋯],_,_,Z,.inl #[_,.mk hb,Z],by rw[qm];lia,b,_,_,tx n,Z,Z,.mk hb,?_,?_]
 .rw[qm,Gs,aA];rfl
 ac_rfl;let#[c0,ax,ak]:=Bu (xs:=m) (i:=c/64 % ⇑m) (tY _ ∅) (ue _ ∅);calc#[#[⋯,⋯],_,_,Z,tT ∅,∅,m,_,c0,Z,Z,sz _ ∅,ax,qH ?_];omega;ac_rfl;calc#[sz _ ⋯,iH.of λx H1 s1 n1 l1=>#[W,6,Z,x,_,_,_,Z,Z,.mk l1,w_at w0,?_]];clear l1 n1;let#[vb,D,hv,ev,eu]:=ZqG (m:=m) (c0:=c0) w0 ak;ac_rfl
 rename_i T9
 suffices go:T9 { nx:=λx H'=>Q V.non H',rt:=Q } [U (V.ref dk),U (V.ref y),U (V.ref b),U (tx m),U (V.int c),U (V.int W),U (tx n),U (tx [c0]),U (tx []),U (tx vb),O,O,O,O] H1 by
  by_cases z:6<W
  .rw[ev,qg z]at go;rw[NM z];exact iB go
  .rw[ev,qe z]at go;rw[NN z];exact hU go
 ac_rfl;let#[ef,ul,un]:=ZqH eu;let vl:=hv.le;let af:=hn n aC;let n8:=B6 af;calc#[Z,sz _ ⋯,iH.of λx1 H2 s2 n2 l2=>#[sz _ ⋯,iH.of λx2 H3 s3 n3 l3=>.inl #[Z,?_]]];rw[qe qO,wN];calc .inr #[_,Z,x2,_,_,Z,Z,l3,by split<;>decide,by split<;>decide,sz _ (by split<;>(show 1*_<=9000;decide)),λx3 n4=>?_];rw[ef];refine#[x1,x3,_,_,Z,Z,rm n4 _ _ (s3 _ _ l2),qu,sz _ (by rw[qm];show 2+_<=9000;lia),λx4 n5=>#[[32],x4,vb::n::D,Z,Z,qu,?_,?_]]
 .rw[rC,rC,yH,yH,rF,rF,r6]
  lia
 let s6:=s1.trans (s2.trans (s3.trans ((rm (o:=.lst (D.map tx)) n4).trans (rm (o:=.lst ([tx vb,tx n]++D.map tx)) n5))));generalize upd (upd H3 x3 (.lst (D.map tx))) x4 (.lst ([tx vb,tx n]++D.map tx))=H4 at s6;clear s1 s2 n2 l2 s3 n3 l3 n4 n5 ef;let d:=v.same s6;let L:=tk.same s6;ac_rfl;let sh:=d.dsk.sh;let#[dx,f]:=d.dsk.dsk;let hF:⇑F<=900:=by have:=v.bd.2.1;lia
 let hd:∀r∈F,⇑r.ds<=8000:=λr t=>by have:=v.bd.2.2 r (wO _ t);lia
 let aG:(G.map (·.n)).Nodup:=by rw[<-C9 v.ky];exact sh.nd
 let nG:(∀r∈F,r.n≠n)->∀r∈G,r.n≠n:=λnf r t e=>by let#[s,hs,e1,_]:=Ek v.ky t;exact nf s hs (e1.trans e)
 let ab:∀s∈F,s.n=n->∃r∈G,r.n=n/\r.l=s.l/\r.ds=s.ds/\hW (iC G) (qf n)=U (.ref r.p):=λs hs es=>by let#[r,t,e1,e2,e3]:=Ek v.ky.symm hs;let g:=BY aG t;rw[e1,es]at g;exact#[r,t,e1.trans es,e2,e3,g]
 let bn:y∉[dA]:=by simpa using qy v.ne
 by_cases z1:W=1
 .refine BE z1 (iB (qH ?_));omega;let t0:0<=c/64 % 10:=tY _ ⋯;let t9:c/64 % 10<10:=ue _ ⋯;calc#[#[⋯,⋯],#[⋯,⋯],⋯,c/640,m,_,Z,m1,m4,t0,∅,λu lu um=>?_];let aa:ig u m:=#[v.dsk.sh.kok.k,m1,m4,∅,um];ac_rfl;intro xp dp np av aH;calc#[xp,dp,u,m,Z,qu,aa,λH5 pl k5=>#[Z,?_]];let s7:=made np av k5;let#[dq,fq]:=id pl;calc#[xp,dq,_,Z,fq,BN nofun nofun,?_];calc#[xp,u,m,Z,pl,aa,λxw H6 s8 lw=>?_];let s9:=s7.trans s8;ac_rfl;let lp:=KH (l:=u) m1;let#[k1,k2,k3]:=F8 aa;obtain⟨A,eA,hA⟩:∃A:Nat,c/7 % (⇑(qE u m):Nat)=(A:Int)/\A<⇑(qE u m):=by let a1:=tY (c/7) (show ((⇑(qE u m):Nat):Int)≠0 by lia);let a2:=ue (c/7) (show (0:Int)<(⇑(qE u m):Nat) by lia);exact#[(c/7 % (⇑(qE u m):Nat)).toNat,∅,∅]
  calc#[#[⋯,⋯],_,_,Z,.inl #[_,.mk lw,Z],by rw[qm];lia,qH ?_];rw[qm,eA];omega;let az:jD ((qE u m).map tx) (U (A:Int)) O=((qE u m).drop A).map tx:=(yQ _ A).trans List.map_drop.symm;let as:jD ((qE u m).map tx) O (U (A:Int))=((qE u m).take A).map tx:=(CK _ A).trans List.map_take.symm;let lk:im u m ((qE u m).drop A++(qE u m).take A):=List.perm_append_comm.trans (List.Perm.of_eq (u5 A _));let lz:⇑((qE u m).drop A++(qE u m).take A)<=1000:=by rw[List.Perm.length_eq lk];exact k1
  let ay:(((qE u m).drop A++(qE u m).take A).map List.length).sum<=100000:=by rw[(lk.map List.length).sum_nat];exact k2
  let aq:(qE u m).drop A++(qE u m).take A≠[]:=λe=>by
   have:=lk.length_eq;rw[e,y8]at this
   lia
  calc#[Z,sz _ ⋯,iH.of λy1 H7 an n7 l7=>#[_,Z,xw,_,Z,.mk (an _ _ lw),λy2 m2=>?_]];rw[az];rw[qP]at lz;calc#[y1,y2,_,_,Z,Z,rm m2 _ _ l7,qu,sz _ (by rw[qm];show 1+_<=9000;lia),λy3 m3=>#[_,Z,xw,_,Z,.mk (rm m3 _ _ (rm m2 _ _ (an _ _ lw))),λy4 m4=>?_]];rw[as];refine#[y3,y4,_,_,Z,Z,rm m4 _ _ qu,qu,sz _ (by rw[qP,qm,qm];show 1+_+_<=9000;lia),λy5 m5=>#[[32],y5,ir [32] (vb::n::D)::((qE u m).drop A++(qE u m).take A),Z,Z,by rw[qu,rC,sJ];rfl,?_,?_]]
  .have:=z4 [32] (vb::n::D);rw[rC,rC,yH,yH,rF,rF,r6]at this;rw[rC,yH,rF,qP,r6]
   lia
  let ae:=s6.trans (s9.trans (an.trans ((rm (o:=.lst (((qE u m).drop A).map tx)) m2).trans ((rm (o:=.lst ([tx (ir [32] (vb::n::D))]++((qE u m).drop A).map tx)) m3).trans ((rm (o:=.lst (((qE u m).take A).map tx)) m4).trans (rm (o:=.lst ([tx (ir [32] (vb::n::D))]++((qE u m).drop A).map tx++((qE u m).take A).map tx)) m5))))));generalize upd (upd (upd (upd H7 y2 (.lst (((qE u m).drop A).map tx))) y3 (.lst ([tx (ir [32] (vb::n::D))]++((qE u m).drop A).map tx))) y4 (.lst (((qE u m).take A).map tx))) y5 (.lst ([tx (ir [32] (vb::n::D))]++((qE u m).drop A).map tx++((qE u m).take A).map tx))=H8 at ae;generalize (qE u m).drop A++(qE u m).take A=ws at lk ay aq;cases hv with
  | strip z=>exact NR (z.symm.trans z1) ⋯
  | take z=>exact NR (z.symm.trans z1) ⋯
  | move z=>lia
  | «from» _=>
  rw[Zl7 aq];let ac:=v.same ae;let ap:=tk.same ae;ac_rfl;refine#[dk,p,dA,m,F,_,Z,ac.dsk,ap,hF,hd,.from af aa lk (λnf r H9 e1 e2 e3 n1 n2 n3 c5 B ad=>?_) λr t er e H9 j hx=>#[e,Z,.inl #[n,n8,Z,hx,?_]]]
  .ac_rfl;let C:=c5 _ _ ac.bes bn Z;rw[NM (show W<2 by lia)];calc iB #[y,_,Z,.inl #[_,qf n,.inl C,Z,Z],?_];rw[wU (nG nf)];calc hU (qH ?_);omega;calc uQ ∅ (hU (qH ?_));omega;calc BE z1 (iB (qH ?_));omega;calc#[y,n,u,m,G,Z,C,nG nf,aa,B,by have:=v.bd.2.1;rw[<-qm (f:=kk),<-v.ky,qm];lia,λg H6 g1 g2 g3 w1 w2 w3 c6 I ai M=>?_];ac_rfl;let#[a1,a2]:=ac.lay (r:=r) (g:=g) (by unfold kk;rw[e1,e2,e3,g1,g2,g3]) (by rw[e3];unfold uB;rw[qm];lia) n1 n2 n3 c5 ad w1 w2 w3 c6 ai M;exact#[u,Z,t5 (q _ _ H6 a1 ((vB ae).trans a2) I)]
  .ac_rfl;let#[g,_,_,_,_,S]:=ab r t er;rw[NM (show W<2 by lia)];calc iB #[y,_,Z,.inl #[_,qf n,.inl (j _ _ ac.bes),Z,Z],?_];rw[S];calc iB (qH ?_);omega;exact#[sz _ ∅,t5 (q F G H9 ((ac.same j).le (vt k)) (vB (ae.trans j)) (ap.same j))]
 calc uQ z1 (hU (qH ?_));omega;calc#[dk,p,dA,m,F,_,Z,d.dsk,L,hF,hd,?_];cases hv with
 | «from» z=>exact NR z z1
 | strip z0=>
  refine .strip af (λnf r H5 e1 e2 e3 n1 n2 n3 c5 B ad=>?_) λr t er e H5 j hx=>#[e,Z,.inl #[n,n8,Z,hx,?_]]
  .ac_rfl;let C:=c5 _ _ d.bes bn Z;rw[NM (show W<2 by lia)];calc iB #[y,_,Z,.inl #[_,qf n,.inl C,Z,Z],?_];rw[wU (nG nf)];calc hU (qH ?_);omega;calc BE z0 (iB (qH ?_));omega;calc#[y,n,[],m,G,Z,C,nG nf,#[sh.kok.k,m1,m4,⋯,{}],B,by have:=v.bd.2.1;rw[<-qm (f:=kk),<-v.ky,qm];lia,λg H6 g1 g2 g3 w1 w2 w3 c6 I ai M=>?_];ac_rfl;let#[a1,a2]:=d.lay (r:=r) (g:=g) (by unfold kk;rw[e1,e2,e3,g1,g2,g3];rfl) (by rw[e3];decide) n1 n2 n3 c5 ad w1 w2 w3 c6 ai M;exact t5 (q _ _ H6 a1 ((vB s6).trans a2) I)
  .ac_rfl;let#[g,_,_,_,_,S]:=ab r t er;rw[NM (show W<2 by lia)];calc iB #[y,_,Z,.inl #[_,qf n,.inl (j _ _ d.bes),Z,Z],?_];rw[S];calc iB (qH ?_);omega;exact#[sz _ ∅,t5 (q F G H5 ((d.same j).le (vt k)) (vB (s6.trans j)) (L.same j))]
 | take z2=>
  refine .take af (λs hs es H5 c5 B ad=>?_) λnf e H5 j hx=>#[e,Z,.inr (.inl #[n,n8,Z,hx,?_])]
  .ac_rfl;let C:=c5 _ _ d.bes bn Z;let#[g,_,_,_,_,S]:=ab s hs es;rw[NN (show ¬W<2 by lia)];calc hU (hU (qH ?_));omega;calc uQ ∅ (hU (qH ?_));omega;calc uQ ∅ (hU (qH ?_));omega;calc#[y,_,Z,.inl #[_,qf n,.inl C,Z,Z],?_];rw[S];calc hU (qH ?_);omega;calc BE z2 (iB (qH ?_));omega;calc#[y,Z,.inl #[_,.inl C],_,qf n,_,C,Z,S,qH ?_];omega;let#[a1,a2]:=d.less c5 ad;rw[Jv];exact t5 (q _ _ _ a1 ((vB s6).trans a2) (B.upd C Z Z))
  .ac_rfl;rw[NN (show ¬W<2 by lia)];calc hU (hU (qH ?_));omega;calc uQ ∅ (hU (qH ?_));omega;calc uQ ∅ (hU (qH ?_));omega;calc#[y,_,Z,.inl #[_,qf n,.inl (j _ _ d.bes),Z,Z],?_];rw[wU (nG nf)];calc iB (qH ?_);omega;exact#[sz _ ∅,t5 (q F G H5 ((d.same j).le (vt k)) (vB (s6.trans j)) (L.same j))]
 | move z3 mo e0=>
  refine .move mo af (λs hs es=>#[λl2 aI rc rg mv aK H5 c5 aE w5 B=>?_,λc er e H5 j hx=>er.xt hx ?_]) λnf e H5 j hx=>#[e,Z,.inr (.inl #[n,n8,Z,hx,?_])]
  .ac_rfl;let#[g,hg,ao,ah,al,S]:=ab s hs es;let#[str,C]:=d.mid hs hg c5;rw[NN (show ¬W<2 by lia)];calc hU (hU (qH ?_));omega;calc uQ ∅ (hU (qH ?_));omega;calc uQ ∅ (hU (qH ?_));omega;calc#[y,_,Z,.inl #[_,qf n,.inl C,Z,Z],?_];rw[S];calc hU (qH ?_);omega;calc uQ ∅ (hU (qH ?_));omega;rw[<-ah,<-al]at mv;let bd:=v.bd.2.2 g (ui _ hg);calc#[y,_,Z,.inl #[_,qf n,.inl C,Z,S.symm],g.p,g.la,g.da,g.l,m,vb,g.ds,D,c0,Z,str,∅,B,mo,ak,e0,λl3 aD aF aw aj ar H6 c6 M w6 I=>?_,λc er=>(mv.noE er).elim];let#[Z,Z,Z,Z]:=mv.fn aj;let#[F2,G2,a1,a2]:=d.move hs hg (es.trans ao.symm) c5 aE w5 c6 M w6 (mv.ds bd);exact t5 (q F2 G2 H6 a1 ((vB s6).trans a2) I)
  .ac_rfl;let#[g,hg,ao,ah,al,S]:=ab s hs es;let ag:=d.same j;let str:=ag.all.1 g (ui _ hg);rw[NN (show ¬W<2 by lia)];calc hU (hU (qH ?_));omega;calc uQ ∅ (hU (qH ?_));omega;calc uQ ∅ (hU (qH ?_));omega;calc#[y,_,Z,.inl #[_,qf n,.inl ag.bes,Z,Z],?_];rw[S];calc hU (qH ?_);omega;calc uQ ∅ (hU (qH ?_));omega;rw[<-ah,<-al]at er;let bd:=v.bd.2.2 g (ui _ hg);exact#[y,_,Z,.inl #[_,qf n,.inl ag.bes,Z,S.symm],g.p,g.la,g.da,g.l,m,vb,g.ds,D,c0,Z,str,∅,L.same j,mo,ak,e0,λl3 aD aF aw aj ar H6 c6 M w6 I=>(aj.noE er).elim,λc _ H6 s7=>t5 (q F G H6 ((ag.same s7).le (vt k)) (vB (s6.trans (j.trans s7))) ((L.same j).same s7))]
  .ac_rfl;rw[NN (show ¬W<2 by lia)];calc hU (hU (qH ?_));omega;calc uQ ∅ (hU (qH ?_));omega;calc uQ ∅ (hU (qH ?_));omega;calc#[y,_,Z,.inl #[_,qf n,.inl (j _ _ d.bes),Z,Z],?_];rw[wU (nG nf)];calc iB (qH ?_);omega;calc#[sz _ ∅,t5 (q F G H5 ((d.same j).le (vt k)) (vB (s6.trans j)) (L.same j))]
def Zsb:g9 P w K mg base qK 11 a.f_M1 a.d_M1 ["_law_desk","_law_kept","_law_name"] (sp_M1 K a):=by
 calc T.gH.u.ok Zq1 (λA2 A aa s H vs Q E b h=>?_);let A5:=b.units;let v:=u7 b;let⟨z,p,W,dB,m,F,G,X,k,n,rfl,i,hk,tk,hn,q⟩:=h;refine⟨_,(ql (qZ (ri (zx (K:=K) Z A5) (rX (pv 0) T.aG T.a8 (zM T) (hM b) T.dR.b .nil wQ (qa (qF (l:=[110,97,109,101,115]) nofun) qc)) (qC (CT T) (hM b) Z T.eQ qo (qa (rq (Gf Z) Z T.eE Bv (qa (pv 1) qc)) qc)) (qT _)) (qk (qz vM)) qY)
  (qp (ql (qZ (yF (Ei v (pv 2) (pv 1))) (qk (qz (tF (rE (K:=K) Z A5) (qC (KS T) (hM b) Z T.gI qo (qa (pv 0) (qa (qB sL (qF (l:=[116,101,120,116,32]) nofun) (pv 2)) qc))) (qB sL (qF (l:=[110,111,32]) nofun) (pv 2)) (qT _)))) qY)
  (qp (ql (qZ (ri (zx (K:=K) Z A5) (rX (pv 0) T.aG T.a8 (zM T) (hM b) T.dR.b .nil wQ (qa (qB sL (qF (l:=[108,97,99,107,115,32]) nofun) (pv 2)) qc)) (qC (CT T) (hM b) Z T.eQ qo (qa (tO (uw v (pv 1) (pv 2) (λ_ _=>rfl)) T.ad T.br (IJ T) (hM b) T.eG.b .nil qo) qc)) (qT _)) (qk (qz vM)) qY)
  (qp (qk (qz (tF (rE (K:=K) Z A5) (rX (pv 0) T.aG T.a8 (zM T) (hM b) T.dR.b .nil wQ (qa (qB sL (qF (l:=[116,101,120,116,32]) nofun) (pv 2)) qc)) (qC (IR T) (hM b) Z T.gf qo (qa (tO (uw v (pv 1) (pv 2) (λ_ _=>rfl)) T.ad T.am (Da T) (hM b) T.d8.b .nil qo) qc)) (qT _)))))))))),?_⟩
 let sh:=i.dsk.sh;let#[dx,f]:=i.dsk.dsk;let n8:=B6 hn;let V:⇑F<=900:=by have:=i.bd.2.1;lia
 let hd:∀r∈F,⇑r.ds<=8000:=λr b=>by have:=i.bd.2.2 r (wO _ b);lia
 let#[w1,w2,w3]:=Hn sh.nm V;omega;calc#[z,dx,_,Z,f,yq nofun,z,p,W,m,F,[CP],Z,i.dsk,tk,V,hd,.names λH1 s1=>?_];calc#[dB,_,_,Z,.inl (s1 _ _ i.bes),GX G,?_];rw[<-C9 i.ky];calc iH.of λx H2 s2 n2 l2=>#[x,_,Z,l2,w1,w2,w3,λH3 s3=>EG (hU ?_)];let D:=s1.trans (s2.trans s3);let d:=i.same D;let B:=tk.same D;ac_rfl;calc#[dB,_,Z,.inl #[_,qf n,.inl d.bes,Z,Z],?_];rcases Gr F n with⟨s,C,S⟩ | I
 .obtain⟨r,b,e1,e2,e3⟩:=Ek i.ky.symm C;let ab:(G.map (·.n)).Nodup:=by rw[<-C9 i.ky];exact sh.nd
  let g:=BY ab b;rw[e1,S]at g;rw[g];calc hU (qH ?_);omega;let c:=d.all.1 r (ui _ b);let#[l1,l2,l3]:=F8 (wb c);let ac:=(wb c).l40;calc#[z,dx,_,Z,D _ _ f,yq nofun,sz _ ∅,z,p,W,m,F,[Fp,n],Z,d.dsk,B,V,hd,.lacks hn (λt ht et H4 L=>?_) λI=>NR S (I s C)];cases Mh sh.nd ht C (et.trans S.symm);rw[<-e2];let u:=c.same L;let#[dr,fr]:=id u.fld;calc#[dB,_,Z,.inl #[_,qf n,.inl (L _ _ d.bes),Z,g.symm],r.p,dr,_,Z,fr,sN,r.p,r.la,r.da,r.l,m,r.ds,Z,u,λy ny=>#[y,_,Z,qu,l1,l2,l3,λH6 s6=>EG (hU (qH ?_))]];let N:=(L.trans (rm (o:=.lst ((qE r.l m).map tx)) ny)).trans s6;let M:=d.same N;omega;calc#[z,dx,_,Z,N _ _ (D _ _ f),yq nofun,sz _ ∅,z,p,W,m,F,[E7,n],Z,M.dsk,B.same N,V,hd,.text hn (λt ht et H7 s8=>?_) λI=>NR S (I s C)];cases Mh sh.nd ht C (et.trans S.symm);rw[<-e2];let j:=(c.same N).same s8;let#[dt,ft]:=id j.fld;exact#[dB,_,Z,.inl #[_,qf n,.inl (s8 _ _ M.bes),Z,g.symm],r.p,dt,_,Z,ft,sN,r.p,r.la,r.da,r.l,m,r.ds,Z,j,r.l,Z,t5 (q H7 ((D.trans N).trans s8))]
 .let nG:∀r∈G,r.n≠n:=λr b e=>by let#[s,C,e1,_]:=Ek i.ky b;exact I s C (e1.trans e)
  rw[wU nG];calc iB #[sz _ ∅,z,p,W,m,F,[E7,n],Z,d.dsk,B,V,hd,.text hn (λr b e=>NR e (I r b)) λ_ e H4 L hx=>#[e,Z,.inr (.inl #[n,n8,Z,hx,sz _ (qJ (Nat.add_le_add_left n8 _) ⋯),t5 (q H4 (D.trans L))])]]
def ok_law:g9 P w K mg base qK 12 a.f_law a.d_law ["_law_script"] (spLaw K tb):=by
 refine T.gQ.u.ok x5 (λA2 A aE s H vs Q E j h=>?_) (λvs H Q E h=>by let#[_,_,Z,_]:=h;rfl)
 .let A5:=j.units;let aI:=u7 j;let⟨b,ns,rfl,hS,aN,tk,q⟩:=h;refine⟨_,(ql (qM (i:=1) x5.nd (qC (Zr1 T) (hM j) Z T.gu qo (qa (qC (Jd T) (hM j) Z T.gB qo (qa (pv 0) (qa qr qc))) qc)))
   (qp (ql (qM (i:=2) x5.nd (qC (Mm T) (hM j) Z T.gJ qo (qa (qC (Jd T) (hM j) Z T.gB qo (qa (pv 0) (qa qr qc))) qc)))
   (qp (ql (qM (i:=3) x5.nd (qC (Zr0 T) (hM j) Z T.gx qo (qa (pv 2) (qa (qB t7 qr (qB tK (pv 2) qr)) qc))))
   (qp (ql (qM (i:=4) x5.nd (yU T.cC (Zsn T) (hM j) Z T.m_M5 T.gz.b .nil qo (qa (pv 1) qc)))
   (qp (ql (qM (i:=5) x5.nd yV)
   (qp (ql (qZ (ri (rE (K:=K) Z A5) (qB tK (qB yi (pv 2) qr) qr) qr (qT _)) (qp (ql (rR (qC (Gh T) (hM j) Z T.gh qo (qa (pv 5) (qa (re (sQ (K:=K) Z) (pv 3) qr (λ_ _=>rfl)) (qa (qC (MA T) (hM j) Z T.gO qo (qa (qB yi (pv 2) qr) (qa (pv 1) (qa qr qc)))) (qa (pv 1) qc))))))
   (qp (ql (qZ (ri (zx (K:=K) Z A5) (rX (pv 4) T.aG T.a8 (zM T) (hM j) T.dR.b .nil wQ (qa (qB sL (qF (l:=[115,116,114,105,112,32]) nofun) (re (sQ (K:=K) Z) (pv 3) qr (λ_ _=>rfl))) qc)) (qF (l:=[111,107]) nofun) (qT _)) (qp (qk (qz vM))) qY)
   (qp (qk (sW sS Z (Be (tO (uw aI (pv 5) (re (sQ (K:=K) Z) (pv 3) qr (λ_ _=>rfl)) (λ_ _=>rfl)) T.ad T.am (Da T) (hM j) T.d8.b .nil qo)) (rp (i:=6) x5.nd Z (Or.inl Z))
   (qp (qk (rR (rX (pv 4) T.aG T.a8 (zM T) (hM j) T.dR.b .nil wQ (qa (qB sL (qB sL (qB sL (qF (l:=[112,117,116,32]) nofun) (re (sQ (K:=K) Z) (pv 3) qr (λ_ _=>rfl))) (qF (l:=[32]) nofun)) (pv 6)) qc)))))))))))) qY)
   (qp (ql (sW sS Z (En Z T.d5 (qa qr (qa (rq (Ml Z) Z T.gV JE (qa (rq (sk (K:=K) Z) Z T.dL sj (qa (pv 0) qc)) (qa qr qc))) qc))) (rp (i:=7) x5.nd Z (Or.inl Z))
   (qp (ql (qM (i:=2) x5.nd (qC (Mm T) (hM j) Z T.gJ qo (qa (re (sQ (K:=K) Z) (pv 0) (pv 7) (λ_ _=>rfl)) qc)))
   (qp (ql (qZ (vG (uy (qC (Zr8 T) (hM j) Z T.gM qo (qa (pv 4) (qa (pv 5) (qa (pv 3) (qa (pv 1) (qa (pv 2) qc)))))))) (qp (qk (qz vM))) qY)
   (qp (qk (qZ (vG (uy (qC (Zsb T) (hM j) Z T.gH qo (qa (pv 4) (qa (pv 5) (qa (re (sQ (K:=K) Z) (pv 3) (qB tK (qB yi (pv 2) qr) (rq (sk (K:=K) Z) Z T.dL sj (qa (pv 3) qc))) (λ_ _=>rfl)) qc)))))) (qp (qk (qz vM))) qY))))))))
   (qk (qz (tF (rE (K:=K) Z A5) (rX (pv 4) T.aG T.a8 (zM T) (hM j) T.dR.b .nil wQ (qa (qF (l:=[110,97,109,101,115]) nofun) qc)) (qC (CT T) (hM j) Z T.eQ qo (qa (rq (Gf Z) Z T.eE Bv (qa (pv 5) qc)) qc)) (qT _))))))))))))))))),?_⟩
  rw[<-T.e_LT]at tk;let tk:TT a H:=#[tk,trivial];omega;calc#[b,ns,0,Z,hS,⋯,λc0=>#[c0,Z,λm H1 k1 m1 m4 s1=>?_]];let aA:wB m:=#[k1,m1,m4];ac_rfl;calc#[b,ns,1,Z,IW hS s1.l,⋯,λc1=>#[c1,Z,λc=>?_]];ac_rfl;obtain⟨k,ek,aB,aG⟩:∃k:Nat,1+c % 4=(k:Int)/\1<=k/\k<=4:=by let a1:=tY c (show (4:Int)≠0 by decide);let a2:=ue c (show (0:Int)<4 by decide);exact#[(1+c % 4).toNat,∅,∅,∅]
  rw[ek];calc#[⋯,c,k,Z,aB,aG,λN B H2 s2 n2 l2 lN hN=>?_];ac_rfl;intro L dx n3 n4 n5;calc#[L,dx,m,Z,qu,aA,λp dA H3 aw n6 n7 k3=>#[Z,?_]];let s3:=made n3 n4 k3;let np:=zL n3 n4 n6;let nA:=zL n3 n4 n7;ac_rfl;intro dB nB;let s4:=rm (o:=.dK []) nB;let e4:upd H3 dB (.dK []) dB=U (.dK []):=qu;generalize upd H3 dB (.dK [])=H4 at s4 e4;let au:=aw.l s4.l;let ab:=s3.trans s4;let aq:=tk.same (s1.trans (s2.trans ab));let#[bs,xb,an]:=sq_x (IW hS (s1.trans s2).l);obtain⟨X,eX⟩:∃X,X=B::bs:=#[_,Z];let xX:∀c∈X,∃o,H2 c=U o/\ub o=J:=λc W=>by
   rw[eX]at W;rcases qS.mp W with rfl | z
   .exact#[_,l2,Z]
   .exact xb c z
  let nX:∀ {c:AD},H2 c=O->c∉X:=λn W=>by let#[o,e,_]:=xX _ W;rw[n]at e;cases e
  let oA:=nX nA;let oB:=nX (s3.free nB);let ad:dA≠dB:=λz=>by have:=aw.sh.dct;rw[z,nB]at this;cases this
  let aF:=(vB ab).xs xX;ac_rfl
  rename_i T9
  let ae:∀(v6:Option V)(H':Hp)(F G:List Kp),tN a H' L p dA dB m F G X 100->Kx X H2 H'->TT a H'->T9 { nx:=λx H'=>Q V.non H',rt:=Q } [U (V.ref b),U (tx m),U (V.int c),U (V.ref B),U (V.ref L),U (V.ref dB),v6,O] H':=λv6 H5 F G wl kx ag=>by
   ac_rfl;let aD:=an H5 (kx.sub λc W=>by rw[eX];calc si _ W);obtain⟨M,eM,aM⟩:∃M:Nat,(if (63:Int)<(⇑ns:Nat) then 63 else ((⇑ns:Nat):Int))=(M:Int)/\M<=⇑ns:=by
    by_cases z:(63:Int)<(⇑ns:Nat)
    .rw[qg z];exact#[63,Z,∅]
    .rw[qe z];exact#[⇑ns,Z,qG _]
   calc#[_,_,Z,.inl #[_,aD,Z],_,_,Z,_,_,Z,?_];rw[qm,eM];refine#[#[⋯,⋯,∅,∅],io.range (Lo a H2 b B L p dA dB m X) #[_,_,_,F,G,Z,wl,kx,ag] ?_ ?_]
   .rintro i σ H6 hi ⟨cc,v6,v7,F,G,rfl,v,D,aa⟩;ac_rfl;let aC:=an H6 (D.sub λc W=>by rw[eX];calc si _ W);let ao:=D B (by rw[eX];calc sA) _ l2 Z;calc#[b,_,_,_,Z,Z,aC,JU ∅ ∅,_,Z,λd=>?_];ac_rfl;calc#[L,p,dA,dB,m,F,G,X,_,B,N,d,Z,v,∅,aa,ao,∅,∅,hN,λF2 G2 H7 av C S=>hU (qH ?_)];omega;let am:=C B (by rw[eX];calc sA) _ ao Z;let#[n,ai,aj]:=Bu (xs:=N) (i:=d/16 % ⇑N) (tY _ ∅) (ue _ ∅);calc#[#[⋯,⋯],_,_,Z,.inl #[_,.mk am,Z],by rw[qm];lia,B,_,_,tx n,Z,Z,.mk am,by rw[qm,Gs,ai];rfl,L,p,dA,dB,m,F2,G2,X,_,n,Z,av,∅,S,hN n aj,λH8 s8=>hU #[_,_,_,F2,G2,Z,?_,(D.trans C).trans (vB s8),S.same s8]];exact av.same s8
   .rintro σ H6 ⟨cc,v6,v7,F,G,rfl,v,D,aa⟩;let sh:=v.dsk.sh;let#[dy,f]:=v.dsk.dsk;let hF:⇑F<=900:=by have:=v.bd.2.1;lia
    let#[w1,w2,w3]:=Hn sh.nm hF;walk_at "rd?";calc#[L,dy,_,Z,f,yq nofun,L,p,dA,m,F,[CP],Z,v.dsk,aa,hF,λr j=>(by have:=v.bd.2.2 r (wO _ j);lia),.names λH7 s7=>?_];calc#[dB,_,_,Z,.inl (s7 _ _ v.bes),GX G,?_];rw[<-C9 v.ky];exact iH.of λx H8 s8 n8 l8=>#[x,_,Z,l8,w1,w2,w3,λH9 s9=>t5 (q H9)]
  calc#[#[⋯,⋯],⋯,?_];by_cases z:c/4 % 4=0
  .refine BE z (iB (qH ?_));omega;let#[n,ai,aj]:=Bu (xs:=N) (i:=0) ⋯ ∅;let ak:=hN n aj;let n8:=B6 ak;let b4:=ab _ _ l2;let qW:tI (N.map tx) 0=U (tx n):=by rw[Gs,ai];rfl
   calc#[B,_,_,_,Z,Z,.mk b4,qW,#[⋯,⋯],c/16,m,38,Z,m1,m4,⋯,⋯,λu lu um=>?_];let az:ig u m:=#[k1,m1,m4,by rw[lu];decide,um];calc#[dB,n,u,m,[],Z,e4,{},az,aq,⋯,λg H5 g1 g2 g3 w1 w2 w3 c5 ag aL ax=>?_];let ah:=HG au c5 e4 ad;let al:Kx X H4 H5:=Kx.chg c5 λb hb=>(by rw[qR];calc λz=>oB (z▸hb));let b5:=al B (by rw[eX];calc sA) _ b4 Z;let#[dy,f5]:=ah.dsk;ac_rfl;calc#[L,dy,_,Z,f5,yq nofun,B,_,_,_,Z,Z,.mk b5,qW,jT #[sz _ (by show 6+⇑n<=9000;lia),L,p,dA,m,[],[Bd,n],Z,ah,ag,⋯,{},.strip ak (λ_ r H6 e1 e2 e3 n1 n2 n3 c6 aa as=>EG (hU (qH ?_))) {}]];let D:Kx X H5 H6:=Kx.chg c6 λb hb=>(by rw[qR];calc λz=>oA (z▸hb));let ar:=ah.sh.dct;let rs:=as.str r {};let gs:=zr ax c6 ar;let nx:∀ {H':Hp} {c:AD},Kx X H2 H'->Nw H' c->c∉X:=λkx n W=>by let#[o,e,t]:=xX _ W;exact n.ne (kx _ W _ e t) t Z
   let ac:Kx X H2 H4:=vB ab;let I:=ac.trans al;let ap:Bf a H6 L p dA dB m r g X:=#[#[#[dy,C6 f5 c6 ar],as],c6 _ _ aL (~~~qy ad) Z,#[λt ht=>?_,?_],ad,#[oA,oB,λt ht=>?_],(I.trans D).xs xX]
   .let af:=I.trans D;omega;let b6:=af B (by rw[eX];calc sA) _ l2 Z;let#[dg,fg]:=id gs.fld;let gv:hW (iC [g]) (qf n)=U (.ref g.p):=by rw[<-g1];exact BY {} {}
    calc#[B,_,_,_,Z,Z,.mk b6,qW,dB,_,Z,.inl #[_,qf n,.inl ap.bes,Z,gv.symm],g.p,dg,_,Z,fg,sN,g.p,g.la,g.da,g.l,m,g.ds,Z,gs,u,by rw[g2],?_];refine io.text (MD a H2 b B L p dA dB m X c n u g) #[_,r,Z,ap,e1,e2,e3,af,aa] ?_ ?_
    .rintro i x σ H7 hx ⟨v6,r',rfl,y,f1,f2,f3,C,S⟩;let hi:i<⇑u:=(rY.mp hx).1;let aP:⇑u=38:=lu;let#[dz,f7]:=y.dsk.dsk;let b7:=C B (by rw[eX];calc sA) _ l2 Z;let pl:⇑(uB (u.take i))<=40:=by unfold uB;rw[qm,rL];lia
     let xm:=um x (sC hx);ac_rfl;calc#[L,dz,_,Z,f7,yq nofun,B,_,_,_,Z,Z,.mk b7,qW,jT #[sz _ (by show 4+⇑n<=9000;lia),?_]];omega;calc#[sz _ ∅,sz _ (by rw[qP,r6];lia),L,p,dA,m,[r'],[jb,n,[x]],by rw[<-ZlA];rfl,y.dsk,S,(by show 1<=900;decide),λs hs=>(by rw[qR.mp hs,f3];lia),.move (.inl #[Z,x,xm,Z]) ak (λs hs es=>?_) λnf=>NR f1 (nf r' {})];cases qR.mp hs;refine#[λl2 aQ rc rg mv aS H8 c8 aK w8 aH=>?_,λc er=>?_]
     .obtain⟨i8,ay⟩:=y.put c8 aK w8;refine#[_,_,Z,i8,f1,?_,?_,C.trans ay,aH]
      .cases mv with | put=>show r'.l++[x]=_;rw[f2,yJ,hx];rfl
      .cases mv with | put=>show r'.ds++[(true,x)]=_;rw[f3,Hf,yJ,hx];rfl
     .cases er with | put h=>rw[f2,rL]at h;lia
    .rintro σ H7 ⟨v6,r',rfl,y,f1,f2,f3,C,S⟩;rw[uJ]at f2 f3;calc ae _ H7 [r'] [g] (y.wld (by unfold kk;rw[f1,f2,f3,g1,g2,g3]) ?_) C S;rw[f3];unfold uB;rw[qm,lu];decide
   .rcases qS.mp ht with rfl | z
    .exact rs
    .rw[qR.mp z];exact gs
   .exact u9.mpr #[λt ht=>by rw[qR.mp ht];calc(Fd ax n1 n2 n3).symm,{}]
   .rcases qS.mp ht with rfl | z
    .exact#[nx I n1,nx I n3]
    .rw[qR.mp z];exact#[nx ac w1,nx ac w3]
  .refine uQ z (hU (ae _ H4 [] [] #[au,e4,#[{},.nil],Z,ad,#[oA,oB,{}],#[⋯,⋯,{}],aF] (vB ab) aq))
end
end Pk86
def PySem.W.Fast.I:True:=trivial
namespace PySem.W.Fast
def tw10057407321592810223:=I
def tw10078148328390996111:=I
def tw10090726118582393517:=I
def tw10126566723507764225:=I
def tw10171282391317663206:=I
def tw10185531563297173252:=I
def tw10199124398693474580:=I
def tw10228745151129394550:=I
def tw10232533626072444:=I
def tw10255602518544166418:=I
def tw10281419393460534267:=I
def tw1028980918319538846:=I
def tw1030277730410122253:=I
def tw10353437368402142836:=I
def tw10418289228338187425:=I
def tw10434572127644950302:=I
def tw10474653524464060284:=I
def tw10511128144265527324:=I
def tw1058826352089005285:=I
def tw10713366334124573535:=I
def tw10749537286845468792:=I
def tw10812507370579581388:=I
def tw10837563807389596415:=I
def tw10952747930523139470:=I
def tw10961016655133389330:=I
def tw109634809568420590:=I
def tw10965102482368542491:=I
def tw11016759830734793521:=I
def tw11140657434663197853:=I
def tw11171923269910095900:=I
def tw11172052325510616721:=I
def tw11199852408465747553:=I
def tw11232635851313872370:=I
def tw11233614771930691673:=I
def tw11367092916487102766:=I
def tw11401645896133013223:=I
def tw11464503948499518238:=I
def tw1149108732756357882:=I
def tw11551791910069065290:=I
def tw11565223145953292276:=I
def tw11574965039296627560:=I
def tw11622224302096683244:=I
def tw11676140324697861689:=I
def tw11691504674005065318:=I
def tw1172535042299830804:=I
def tw11753195429241916605:=I
def tw11810658413558131731:=I
def tw11810776085648933695:=I
def tw11853933318360980130:=I
def tw11926454550080319118:=I
def tw11977149815324190631:=I
def tw11991028140740540839:=I
def tw11999083839957753216:=I
def tw12098521959413003507:=I
def tw12147707346696087699:=I
def tw12252177387600650377:=I
def tw12274013022010554841:=I
def tw12312599116073467210:=I
def tw12368931080368604497:=I
def tw12501119455193104293:=I
def tw12516923799101303396:=I
def tw12524089282917793016:=I
def tw12540076183819737704:=I
def tw12560853703488591597:=I
def tw12744460680135503829:=I
def tw13043796710018751835:=I
def tw13063551893582561493:=I
def tw13093009898126247042:=I
def tw13106058083492745807:=I
def tw13229080614310305650:=I
def tw13244811456867088857:=I
def tw13304039880176578625:=I
def tw13312265581157500523:=I
def tw1335556149638706295:=I
def tw13427292731881013388:=I
def tw13428533758273183694:=I
def tw13429302261967841776:=I
def tw13438580751230704567:=I
def tw13504536555387050995:=I
def tw13557208415467968354:=I
def tw13596142071874934514:=I
def tw13625493176558771708:=I
def tw1368345030329790704:=I
def tw13686803103547494536:=I
def tw13690491085427361492:=I
def tw13829955619852358847:=I
def tw13948818735015127230:=I
def tw13980155913862131290:=I
def tw13990214579637215959:=I
def tw14033411562627938642:=I
def tw14098571595659449122:=I
def tw14186411440387648742:=I
def tw14203250174151393979:=I
def tw14271417191183844872:=I
def tw14290768562150372973:=I
def tw14300126067122579078:=I
def tw14356441515155548525:=I
def tw14391100879423868819:=I
def tw14404347639733791626:=I
def tw14447671722434955609:=I
def tw14488799150180063468:=I
def tw14541903850496006518:=I
def tw14622349887728655868:=I
def tw14665560577676354260:=I
def tw14717330836066764618:=I
def tw14781041450558606655:=I
def tw14824034692907025820:=I
def tw14859693786883315495:=I
def tw14921579689059365784:=I
def tw14947729178587787512:=I
def tw1502216614393359108:=I
def tw15169893670542258551:=I
def tw1535442043730789287:=I
def tw15378756956390698508:=I
def tw15456106440629398823:=I
def tw15596731475521562730:=I
def tw1561801824923192958:=I
def tw156281285323577556:=I
def tw15646476895458826999:=I
def tw15681468803415858588:=I
def tw15697357229055772838:=I
def tw1570247995115063122:=I
def tw15747281077869982421:=I
def tw15825180990306488005:=I
def tw15830709367191184664:=I
def tw15879567235986842694:=I
def tw15893785224133188644:=I
def tw15949290223819812152:=I
def tw15989351363513910761:=I
def tw16017679449625862765:=I
def tw16115382386575668777:=I
def tw16140413696815889820:=I
def tw16157569357231563910:=I
def tw16182481925614677641:=I
def tw16229457614849896907:=I
def tw1624016298563060700:=I
def tw16294539007394668224:=I
def tw16300054132992461893:=I
def tw16327895958960168743:=I
def tw163379783985798059:=I
def tw16350530999127824852:=I
def tw16358618813426738802:=I
def tw16370500529727147157:=I
def tw16385638790340148933:=I
def tw16425022553811048791:=I
def tw16426601422507929134:=I
def tw16431484300386643838:=I
def tw1649374014736915075:=I
def tw16497136025529494421:=I
def tw16499577614165482318:=I
def tw16503902180564950499:=I
def tw16515892557198576922:=I
def tw16544143365627757341:=I
def tw16576998985680867480:=I
def tw16672916074411960831:=I
def tw16681942944527142550:=I
def tw16684797151203867475:=I
def tw16725556219328314299:=I
def tw16902016045914739194:=I
def tw16930788780840796996:=I
def tw17061841907741545408:=I
def tw17066630676554318396:=I
def tw1710191133212308883:=I
def tw17120848424363931577:=I
def tw17199386316876769088:=I
def tw17258586096358215960:=I
def tw17291198777576562825:=I
def tw17345286733435285899:=I
def tw17375111009256748390:=I
def tw17387151384198791909:=I
def tw17579266633047577476:=I
def tw17624303860407082718:=I
def tw17626394611159205596:=I
def tw17721984936247399854:=I
def tw17738954401570555245:=I
def tw17740475412866262053:=I
def tw17883063450681321679:=I
def tw17971592625960834340:=I
def tw1798593205647644359:=I
def tw18060492526859410339:=I
def tw18077121156111814522:=I
def tw18152879138570574867:=I
def tw18219283524093329401:=I
def tw18341273063243751361:=I
def tw18346543551426812140:=I
def tw1843462695834464918:=I
def tw1873785519326416301:=I
def tw1902563357344377141:=I
def tw1957045736931982385:=I
def tw1992236259606106652:=I
def tw2084347261800030240:=I
def tw2084451890223589334:=I
def tw2087829508677335891:=I
def tw2094081211928157891:=I
def tw2105306975839937985:=I
def tw2142500758077285901:=I
def tw2188112849081637969:=I
def tw224621647200468386:=I
def tw2250824915542137162:=I
def tw2314681550973260679:=I
def tw2367776995544066459:=I
def tw2371204020697395519:=I
def tw2438578009718979520:=I
def tw2444130890294660100:=I
def tw2479018170340625671:=I
def tw2497086158148607989:=I
def tw2595943345077649975:=I
def tw2747590017370858689:=I
def tw283646714285779133:=I
def tw2877753015476084039:=I
def tw3010803949845088864:=I
def tw3012204440184444322:=I
def tw3074380225910379105:=I
def tw3097279558294535817:=I
def tw3118275469974238362:=I
def tw3155538183156745720:=I
def tw3160976040236217185:=I
def tw3173394662125172081:=I
def tw3242902277342637359:=I
def tw3264961966491628647:=I
def tw329416561617651932:=I
def tw3322442092181250602:=I
def tw3328518280410960251:=I
def tw3566554063676360104:=I
def tw3628164398613682199:=I
def tw3639175717710864725:=I
def tw3644925376455263258:=I
def tw3813941729459024714:=I
def tw3837660922184714302:=I
def tw3914372321563599638:=I
def tw3940225759264693106:=I
def tw3948825145281702306:=I
def tw3981555221974627152:=I
def tw4023909241761985693:=I
def tw402539572500687201:=I
def tw405903261556952204:=I
def tw4124904153518453917:=I
def tw4142095563180982067:=I
def tw4176958054192020083:=I
def tw4187292835192236632:=I
def tw4208853270665066039:=I
def tw4251013853249501590:=I
def tw4322987669151905796:=I
def tw4359905995582328573:=I
def tw4391128383374579316:=I
def tw4480123425594983198:=I
def tw4535298627092528501:=I
def tw4549899078738177554:=I
def tw4713748690939320098:=I
def tw4784374985725235781:=I
def tw4815934100937858214:=I
def tw487339518367817651:=I
def tw4904348243100699526:=I
def tw491026124637000652:=I
def tw4929169499754928156:=I
def tw4948392456595980564:=I
def tw498789615180885613:=I
def tw5062273964068509570:=I
def tw5095527487037254359:=I
def tw5214178293271867555:=I
def tw525648585617164714:=I
def tw5266226236249748812:=I
def tw5346634281956742130:=I
def tw5349734595411436437:=I
def tw5356380010460099922:=I
def tw5372352004495445121:=I
def tw5489387576904923709:=I
def tw5494115643889925517:=I
def tw5501942150803458:=I
def tw5540787587164890083:=I
def tw5570714252437044689:=I
def tw5620694039636116067:=I
def tw5641415486509807039:=I
def tw5667793341952158160:=I
def tw5693395188508620508:=I
def tw5706123844128147632:=I
def tw5789539237396860349:=I
def tw5790232098887677618:=I
def tw5841668345014104491:=I
def tw5852419008656661102:=I
def tw586688830016460726:=I
def tw5929151407375536704:=I
def tw5960026955533378563:=I
def tw601104504667799016:=I
def tw6025054193098658959:=I
def tw6025865279285147268:=I
def tw6079738587082284961:=I
def tw6163842790815379817:=I
def tw6177514007017897121:=I
def tw6231906784994229383:=I
def tw6247794277694094142:=I
def tw6250845541310871150:=I
def tw6263117977200156027:=I
def tw6264785907163900178:=I
def tw6325302347775110692:=I
def tw6396155629298558302:=I
def tw6423609451110309643:=I
def tw6446611118883048726:=I
def tw6479905059391556536:=I
def tw6514171629373567719:=I
def tw6573797454513662765:=I
def tw6578579520629572862:=I
def tw6588899777417394931:=I
def tw6596690871048038546:=I
def tw6624132200377356551:=I
def tw6667367459271562723:=I
def tw6696030876134751627:=I
def tw6706187307498022651:=I
def tw6727450981263008857:=I
def tw6770362881509530850:=I
def tw6813183143678823409:=I
def tw6855599681365128982:=I
def tw6971042692350791313:=I
def tw6986107066769654724:=I
def tw7001435062715739223:=I
def tw7064100200409085048:=I
def tw7154977633043487202:=I
def tw7159705555451841655:=I
def tw7204604534756336852:=I
def tw7257389186455972090:=I
def tw7284575647343457142:=I
def tw7300563714595116898:=I
def tw7330023002941915505:=I
def tw7344936200847310529:=I
def tw7374187988776585196:=I
def tw7404035461125769757:=I
def tw7408237642834769311:=I
def tw7428792165221076998:=I
def tw7446746297651298369:=I
def tw7460682099555068459:=I
def tw7479327034342597148:=I
def tw7537774412298571915:=I
def tw7564261636208489321:=I
def tw7590039009991565121:=I
def tw7646717833525662009:=I
def tw7659847262082360263:=I
def tw7687029450515590201:=I
def tw7772377764621242813:=I
def tw7809500010628173317:=I
def tw7900561551577462095:=I
def tw7946992389617526607:=I
def tw7971060065952515896:=I
def tw7972659232747738106:=I
def tw8026958042578420880:=I
def tw8028361674333393034:=I
def tw8040866357109937187:=I
def tw805446174338234301:=I
def tw8110285655655544145:=I
def tw8112062039804135597:=I
def tw8127580757604769774:=I
def tw8141493415515416935:=I
def tw8212542183344098195:=I
def tw825164585409478748:=I
def tw8263922061624293763:=I
def tw8281016233227721197:=I
def tw8319045570364631613:=I
def tw8453567050247207889:=I
def tw8466425110604123458:=I
def tw8704272868185728237:=I
def tw876481851409289646:=I
def tw8780860048264877442:=I
def tw879878930864635849:=I
def tw8803942635500974532:=I
def tw8907514373679037329:=I
def tw8941879880331721243:=I
def tw9029267510364670396:=I
def tw9046569233260616101:=I
def tw9072613939769097137:=I
def tw9117425250456674948:=I
def tw9119830169011798856:=I
def tw9224813468537445227:=I
def tw9341674513997591658:=I
def tw9361077349883256007:=I
def tw9372383116563196155:=I
def tw9373611480251938206:=I
def tw9451035541636244971:=I
def tw9458476662089844181:=I
def tw9459217486668013343:=I
def tw9529686636183304649:=I
def tw964066928598544085:=I
def tw9644949883342180455:=I
def tw971338098890399456:=I
def tw9715894636779176751:=I
def tw9758607332676421153:=I
def tw9771848025579755048:=I
def tw980626340332582664:=I
def tw9826272863113572668:=I
def tw9846994742854105928:=I
def tw9851157993606291982:=I
def tw9866198497595818209:=I
def tw9934856652845889295:=I
def tw9941852940065576891:=I
def tw9957655957086809347:=I
def tw9960603830484581684:=I
def tw9962388237315947895:=I
def tw9969402996023435270:=I
def tw9987465398118548484:=I
def tw9988495946987265993:=I
def tw9994385934784277552:=I
def tw1001127570590053156:=I
def tw10051125800363426580:=I
def tw10056767565996007498:=I
def tw1006063355205549599:=I
def tw10084899988853312212:=I
def tw10109912792236825908:=I
def tw10116461593083394798:=I
def tw10116908377556952466:=I
def tw10133254505932934427:=I
def tw10178065484903903093:=I
def tw10181060297052404404:=I
def tw10208736094621219430:=I
def tw10234324875528609739:=I
def tw10300373569217094222:=I
def tw10310387056430741711:=I
def tw10328937269535103697:=I
def tw10380872297851399403:=I
def tw10402725092645850010:=I
def tw104140977406864364:=I
def tw10432859070963075570:=I
def tw10469469371463346137:=I
def tw10489829033581843372:=I
def tw10518219847854057529:=I
def tw10536088154676538772:=I
def tw1060057362318642435:=I
def tw10619925263234042668:=I
def tw10626855967080052869:=I
def tw10627634755295710110:=I
def tw10644344693857140168:=I
def tw10660716368841350030:=I
def tw10725058206715493657:=I
def tw10729599721546215377:=I
def tw10776324193750631660:=I
def tw10776635478020932912:=I
def tw10780468322516135027:=I
def tw1078285594421756483:=I
def tw10788664989904518734:=I
def tw10800182611505114346:=I
def tw10824686050621580365:=I
def tw10827192839516861328:=I
def tw10881528692216308140:=I
def tw1088663539237329033:=I
def tw10915242839045693811:=I
def tw10918508093009011031:=I
def tw10938378885077841707:=I
def tw10955481188677283883:=I
def tw1096392786292289555:=I
def tw10990781270267470055:=I
def tw11048142670806109694:=I
def tw11128545214813007751:=I
def tw11134071404823917415:=I
def tw11152228946328370828:=I
def tw11174885449095191403:=I
def tw11208730749393351492:=I
def tw11218149499555662139:=I
def tw11241898713736717223:=I
def tw11250354955894368495:=I
def tw11402461879658421083:=I
def tw11410088336755576549:=I
def tw11455535533805413847:=I
def tw1145749692209192243:=I
def tw1145767584684857752:=I
def tw11478620382301772397:=I
def tw11547078717868183497:=I
def tw11599852365282383642:=I
def tw1162958889583172759:=I
def tw11635070291536698527:=I
def tw1167770634985311371:=I
def tw11682704886585352795:=I
def tw11691884148504829444:=I
def tw11710918670994437909:=I
def tw11764630351555863348:=I
def tw11793932002112515688:=I
def tw11801022080420708201:=I
def tw11824475498209085731:=I
def tw11863889175516804407:=I
def tw11954040796355267387:=I
def tw12037458725239846437:=I
def tw12048343338481218736:=I
def tw12076717041129628629:=I
def tw12089901724945410308:=I
def tw12097992152868069286:=I
def tw12117853382959771911:=I
def tw1215302346825387169:=I
def tw12186167275861245972:=I
def tw12187093505865670946:=I
def tw12193108002056213091:=I
def tw12198039296949769991:=I
def tw12227007847698321617:=I
def tw12258176710526530197:=I
def tw12267631929591218791:=I
def tw12279518437712488361:=I
def tw12324022681069320499:=I
def tw12355994459588920800:=I
def tw12379120268916234657:=I
def tw12421333501761126677:=I
def tw1245703514219887144:=I
def tw12473735826087840845:=I
def tw1254771614585929661:=I
def tw12562411005823057286:=I
def tw12565789422104201911:=I
def tw12598155487483290280:=I
def tw12616549119251637318:=I
def tw12626434888150738290:=I
def tw12739425020374408480:=I
def tw12784940919863445089:=I
def tw12789936488825016197:=I
def tw12790833459292503379:=I
def tw12805592456106758963:=I
def tw12855723881757640688:=I
def tw12870307380005844098:=I
def tw12925893595529856102:=I
def tw12926235661810804805:=I
def tw1294124584092198911:=I
def tw12970010024851768095:=I
def tw12991387000933857111:=I
def tw13016146998355219398:=I
def tw13070707769703142488:=I
def tw13150903170726681018:=I
def tw13168048284140053749:=I
def tw13200824987496198967:=I
def tw13201190781664593612:=I
def tw13219572158627930098:=I
def tw13234095687074215304:=I
def tw13284144729456263194:=I
def tw13315793179276576879:=I
def tw13333537090040107431:=I
def tw13334095720239531096:=I
def tw13338300541837178040:=I
def tw13370358480689170024:=I
def tw1337246506660372179:=I
def tw13445481248750916442:=I
def tw13536664683333103955:=I
def tw135401489357049405:=I
def tw13583712126888678514:=I
def tw13585290639621134139:=I
def tw13634284000269168668:=I
def tw1367247299566972562:=I
def tw13674732116529380431:=I
def tw13696787653799443434:=I
def tw13762531573263338245:=I
def tw13789828442318355877:=I
def tw13790142200284100163:=I
def tw13817104514468700398:=I
def tw13817461064940004311:=I
def tw13822100965174149358:=I
def tw13824223458439603760:=I
def tw13838728591322958431:=I
def tw13863035284805962101:=I
def tw13870721485264763243:=I
def tw13879025735053735534:=I
def tw1387931042067192114:=I
def tw13912708828961477672:=I
def tw1393196164348690399:=I
def tw14025194748550161536:=I
def tw14034412044203622252:=I
def tw14035221776912721975:=I
def tw14193663896361282385:=I
def tw14223342204732266718:=I
def tw14265829112856686089:=I
def tw14370154646261757433:=I
def tw14407908849462928917:=I
def tw14441130378974653810:=I
def tw14497997177184724217:=I
def tw14515866387059319992:=I
def tw14607838630531447596:=I
def tw14618769544945088828:=I
def tw14699852891915664611:=I
def tw14742254858124851041:=I
def tw14761223860269467191:=I
def tw1476677801287721943:=I
def tw14801593839316995557:=I
def tw14802635788669971528:=I
def tw14819346770364652553:=I
def tw14838510002755684406:=I
def tw14866271387103666894:=I
def tw14868108045108791955:=I
def tw14877935836285955505:=I
def tw14886628519733934710:=I
def tw1491926156479524066:=I
def tw14926072526438113370:=I
def tw14938470687769730344:=I
def tw14942908717172255460:=I
def tw14978660870938065053:=I
def tw15000552241707960227:=I
def tw15003983626837821232:=I
def tw15020826243714677153:=I
def tw15021050656778519293:=I
def tw15023211093002380047:=I
def tw15151858351680957404:=I
def tw15192931035864820340:=I
def tw15244532294252124173:=I
def tw15252866007546954843:=I
def tw1532366894783176348:=I
def tw15326294239479385979:=I
def tw15347876335834082293:=I
def tw15356122895958824214:=I
def tw15369476759858656879:=I
def tw15373475145959524695:=I
def tw15376925060783234254:=I
def tw15486067019638337395:=I
def tw15530995642746605044:=I
def tw15532543764386506525:=I
def tw15541265172288836386:=I
def tw1565982601826466000:=I
def tw15664018274085638001:=I
def tw15711765037151529891:=I
def tw15718539728414392061:=I
def tw15726688071667342918:=I
def tw15751784065396512039:=I
def tw15765919311475387524:=I
def tw15773975572661173004:=I
def tw15800778506868950148:=I
def tw15816522352729491041:=I
def tw15833169140233758773:=I
def tw15865872792317198482:=I
def tw15878217368024885596:=I
def tw15900774294392662387:=I
def tw15957739194115640800:=I
def tw16009127339256791919:=I
def tw16085462994101304564:=I
def tw16093018859765286396:=I
def tw16102946151087970743:=I
def tw16107501053908238613:=I
def tw16145487252916320997:=I
def tw16151198923141960250:=I
def tw16168235829360842562:=I
def tw16168383413429036352:=I
def tw16174269141458681988:=I
def tw16221139055090521955:=I
def tw16248652102688676228:=I
def tw16265048534853292570:=I
def tw16272846523954083473:=I
def tw16285691077886782414:=I
def tw16322321744941547750:=I
def tw16376949820950109255:=I
def tw16401741918518519157:=I
def tw16418762845573831339:=I
def tw16445526467069416613:=I
def tw16458104720666729291:=I
def tw16611307380274163360:=I
def tw1664656014609941106:=I
def tw16647174810317070992:=I
def tw16681228354972185808:=I
def tw16710575812061819610:=I
def tw16710612008642064946:=I
def tw16716718204851074082:=I
def tw16722612595523625927:=I
def tw16728319048448365579:=I
def tw16757639399726699013:=I
def tw16770625198518857494:=I
def tw16807165796155996704:=I
def tw16818031918540896608:=I
def tw16949639680757243388:=I
def tw17004207338901876038:=I
def tw17067547232974855557:=I
def tw17073301898093996402:=I
def tw1710845424738864906:=I
def tw1712295858924627330:=I
def tw17154130655902264371:=I
def tw1717772566431835211:=I
def tw17199788824255046445:=I
def tw17220904651084866594:=I
def tw17241033518503635614:=I
def tw17304699152848516545:=I
def tw17344625855904151683:=I
def tw17361368157647486481:=I
def tw17394370868767003112:=I
def tw1741616785056878625:=I
def tw17449565436384907468:=I
def tw17466717940959002646:=I
def tw17487764987436031436:=I
def tw175009430541790295:=I
def tw17562104192539666707:=I
def tw17574539014450942146:=I
def tw17614073267360051634:=I
def tw17674453888572369704:=I
def tw17806142144740727532:=I
def tw17814507034099807843:=I
def tw17847529789447304101:=I
def tw17856963536411090995:=I
def tw17875088287941165046:=I
def tw17968693444915698811:=I
def tw17995728171201610631:=I
def tw17997951771791556448:=I
def tw18010658486483739068:=I
def tw18046310436741071301:=I
def tw18066956979021367674:=I
def tw18070627763288121267:=I
def tw18122761865922384951:=I
def tw1815487221295858141:=I
def tw18190183431940066591:=I
def tw18203402173704677363:=I
def tw18209947525833032706:=I
def tw18216576769348618050:=I
def tw18253510746580585102:=I
def tw18276996227660846317:=I
def tw18277997227113986185:=I
def tw18279034994008933642:=I
def tw18312859775291784468:=I
def tw18360432363396567001:=I
def tw18420358090456766218:=I
def tw18432732502262455568:=I
def tw18435575322261769976:=I
def tw1894150020140906946:=I
def tw1932659648589111309:=I
def tw1934359600182342839:=I
def tw2013077048912847902:=I
def tw2045224413053334729:=I
def tw2055634817283184391:=I
def tw2093190387973346179:=I
def tw2116406364049413755:=I
def tw2208267606665387355:=I
def tw2236301876340836999:=I
def tw2238026270425854418:=I
def tw2255932793284593722:=I
def tw2282050776281979393:=I
def tw2301320146130470105:=I
def tw2310736780223306714:=I
def tw239692914012178514:=I
def tw2404324496029807354:=I
def tw2419526545524726678:=I
def tw2435688443058725926:=I
def tw2472444331842939830:=I
def tw2540600638058037729:=I
def tw2545309913432929876:=I
def tw2641937250885470221:=I
def tw2715583028811148554:=I
def tw2770026002835200194:=I
def tw2771885491792795841:=I
def tw2781499553294526096:=I
def tw2835152956449880136:=I
def tw2843203232585195578:=I
def tw2848608816951248125:=I
def tw2928646089961919273:=I
def tw2949932368851087671:=I
def tw299529440197080262:=I
def tw3041224159922235764:=I
def tw3079165103048457363:=I
def tw3093730226925595172:=I
def tw3134475661590393483:=I
def tw3145078236138440002:=I
def tw3191477149744439210:=I
def tw3198972889649977037:=I
def tw3247036965771798743:=I
def tw3255431522476775780:=I
def tw3288719650175511172:=I
def tw3367313745201075426:=I
def tw3435499649233309419:=I
def tw3503449673351511528:=I
def tw3526747470739563259:=I
def tw356806356043512924:=I
def tw3618776801368634491:=I
def tw3644164080917126809:=I
def tw3668738569909996734:=I
def tw3760328018132686895:=I
def tw3789570466591098453:=I
def tw3839111459600056539:=I
def tw3974556376074007488:=I
def tw4012876005471329659:=I
def tw4025020145518814852:=I
def tw4066211521530090319:=I
def tw4074735890857070195:=I
def tw4087128976281983428:=I
def tw4093235889739177889:=I
def tw4155500351759420940:=I
def tw4156751470616421382:=I
def tw4222707083188972991:=I
def tw4256224083857142780:=I
def tw4270228264605670052:=I
def tw4323942595930104491:=I
def tw4324184559231501214:=I
def tw4324292738359374846:=I
def tw4338812718183202514:=I
def tw4384601508783380560:=I
def tw4406548453017504269:=I
def tw4410828050476610852:=I
def tw4413538586160089298:=I
def tw4415111321740935452:=I
def tw4439017212465431945:=I
def tw4509910365094561049:=I
def tw463671017452463396:=I
def tw465882340780651866:=I
def tw4685968442568233835:=I
def tw4703931353219429257:=I
def tw4754627676204186554:=I
def tw4796292355904318186:=I
def tw4834480196830459614:=I
def tw4848955773327692471:=I
def tw4862665336025406103:=I
def tw4880890122323598677:=I
def tw4920065702444210997:=I
def tw4951402280298129289:=I
def tw4954142983357131960:=I
def tw4955639967470938530:=I
def tw4994505016595463939:=I
def tw5082528488839351346:=I
def tw508718519635425808:=I
def tw509746425197457000:=I
def tw5098047555331871494:=I
def tw5121246850918729408:=I
def tw516580220259271970:=I
def tw5171187316316748870:=I
def tw5189039996371345275:=I
def tw5236599746922920411:=I
def tw5243324081439079011:=I
def tw5304784635238345926:=I
def tw5388977597312976552:=I
def tw5425811211323762740:=I
def tw5441273193763134569:=I
def tw5479407027008720330:=I
def tw5495156046529606065:=I
def tw5502098843262821605:=I
def tw5550568360626719590:=I
def tw5574346658634746073:=I
def tw5613615374978392709:=I
def tw5626271089780831506:=I
def tw5626548722686282307:=I
def tw5630168552201466434:=I
def tw5638178919973139416:=I
def tw5711534408267741232:=I
def tw582517795998918764:=I
def tw5848353303135094662:=I
def tw5851111257978986144:=I
def tw5852864028228368423:=I
def tw5875108679389717484:=I
def tw5875357776661999687:=I
def tw5925353521797617579:=I
def tw5929985296173350524:=I
def tw5949293636421775772:=I
def tw5951902524071192307:=I
def tw5993301457498805807:=I
def tw600375556771902496:=I
def tw6067910157808433068:=I
def tw6074278057051698920:=I
def tw6098204870664697612:=I
def tw6122804949906320317:=I
def tw6175191284581906371:=I
def tw6245936603807082258:=I
def tw6270070539876200880:=I
def tw6366441412100129413:=I
def tw6399018984116320630:=I
def tw6470356554288104044:=I
def tw6537265384760896481:=I
def tw6542204844234727740:=I
def tw6639568853450367285:=I
def tw6728732161585395942:=I
def tw6776325909050538929:=I
def tw6787691752599261616:=I
def tw6790993516018625654:=I
def tw6800207411846356179:=I
def tw6832243098381474000:=I
def tw6986351583654772966:=I
def tw6998491727649303922:=I
def tw7007905749471049322:=I
def tw7018012910856006333:=I
def tw7031108278827912622:=I
def tw7036023667510614880:=I
def tw7048383370555352748:=I
def tw7056187648888691039:=I
def tw7110365411430037902:=I
def tw7123574657533783995:=I
def tw7148102068417906647:=I
def tw7174295548602980038:=I
def tw7185668891895485263:=I
def tw7200254592789851654:=I
def tw7265351186620831082:=I
def tw727688413615958458:=I
def tw7299486264265419287:=I
def tw7372241650086895539:=I
def tw7387051035455445664:=I
def tw7420427788635325075:=I
def tw7422200093664713271:=I
def tw7447906532804151979:=I
def tw7480190889449789827:=I
def tw7484675074993600685:=I
def tw76256318902850005:=I
def tw7651521034369152846:=I
def tw7652891515004720530:=I
def tw7706125366726815975:=I
def tw7727926824596114372:=I
def tw7748363423477298601:=I
def tw7876249285176964646:=I
def tw7924634162897137843:=I
def tw7926504237273187449:=I
def tw7947292076153866909:=I
def tw8014770433553767701:=I
def tw8019653284294213170:=I
def tw8054269390204678694:=I
def tw8058960823693830786:=I
def tw8065646243879235892:=I
def tw8088362601979677272:=I
def tw8096902835361783041:=I
def tw8131255368045000441:=I
def tw8135036139970314052:=I
def tw8160128191185817903:=I
def tw8235004028819917138:=I
def tw8244537927555445967:=I
def tw8256718969706837965:=I
def tw8273962503484343779:=I
def tw8280752306572472178:=I
def tw8305800905075043554:=I
def tw8310255754840357731:=I
def tw8327220783579393571:=I
def tw8342262429607059568:=I
def tw8348069466122717539:=I
def tw8415934736720647761:=I
def tw8470826561773136714:=I
def tw8495503169746980978:=I
def tw8509032613747135309:=I
def tw851822937542923525:=I
def tw8560887944513335142:=I
def tw8574023886091899618:=I
def tw8585384297195565177:=I
def tw8587563851231950335:=I
def tw8639242582532717021:=I
def tw8679532153063853599:=I
def tw869967094880843465:=I
def tw8766541534798338599:=I
def tw8815073728311496180:=I
def tw8819189828887994475:=I
def tw8825201775086254128:=I
def tw8829242099759616726:=I
def tw8846199398348309211:=I
def tw8921413569607782048:=I
def tw8934703752510749188:=I
def tw9026678956412415826:=I
def tw9031716626627429701:=I
def tw9075678830735217946:=I
def tw9095109352524524917:=I
def tw9136238698122382908:=I
def tw9142915177938501918:=I
def tw9193946828601575022:=I
def tw9209724683628115924:=I
def tw921409721591810475:=I
def tw9224367096310440582:=I
def tw9241820767422627626:=I
def tw9267223713990757293:=I
def tw9295719029567846544:=I
def tw9329462569060559307:=I
def tw9347845665553981901:=I
def tw9372499929165064802:=I
def tw9412060904817651290:=I
def tw9506056061695479143:=I
def tw9571696001677154793:=I
def tw9582781884283847981:=I
def tw9648809222745524597:=I
def tw9726825216367358560:=I
def tw978239001107316176:=I
def tw9813995251284034617:=I
def tw9828618151002564950:=I
def tw9843183195566414432:=I
def tw9847572644168937837:=I
def tw9898408740169625070:=I
def tw9953733632158311204:=I
end PySem.W.Fast
open PySem PySem.W PyProof.Rows
set_option maxRecDepth 100000 in
set_option maxHeartbeats 0 in
theorem PySem.Challenge.cw_lackword_k86_lines_that_move_holds : PySem.Challenge.rw_lackword_k86_lines_that_move.Holds := by
 w_on;o_law;k_head;(case hw=>w_witness2)
 k_fill
 refine L2.pW (l:=PySem.Challenge.rw_lackword_k86_lines_that_move) (n:=63) (k:=12) (x:="_law_script") (CX:=L2.qK) (sp:=Pk86.spLaw) ["in_order"] Z ⋯ Z #[Z,⋯,⋯] (λw h Y_=>HK.i Y_) (λ_=>by kernel_rfl) (by kernel_rfl) ?F ?S ?C
 case F=>
  intro w mg fa h tb KX G hmg hT;let T:∃t,Pk86.Txt (L2.KOf KX) mg t/\t.t_LT=(tb "in_order").2/\t.k_LT=(tb "in_order").1:=by
   dsimp only[L2.KOf];apply Pk86.txt_mk (t_LT:=(tb "in_order").2) (k_LT:=(tb "in_order").1) KX G
   (apply L2.xg_mk;(iterate 2 k_is);rfl;(iterate 10 k_is);rfl;rfl)
   iterate 4 k_is
   (apply L2.xg_mk;(iterate 2 k_is);rfl;(iterate 10 k_is);rfl;rfl)
   k_is
   (apply L2.mg_mk;iterate 4 k_is)
   k_is
   (apply L2.xg_mk;(iterate 2 k_is);rfl;(iterate 10 k_is);rfl;rfl)
   k_is
   (apply L2.mg_mk;iterate 4 k_is)
   k_is
   (apply L2.xg_mk;(iterate 2 k_is);rfl;(iterate 10 k_is);rfl;rfl)
   k_is
   (apply L2.xg_mk;(iterate 2 k_is);rfl;(iterate 10 k_is);rfl;rfl)
   k_is
   (apply L2.xg_mk;(iterate 2 k_is);rfl;(iterate 10 k_is);rfl;rfl)
   iterate 12 k_is
   rfl;iterate 62 k_is
   rfl;iterate 43 k_is
   iterate 31 (apply L2.mg_mk;iterate 4 k_is)
   decide;iterate 60 (apply L2.dg_mk;iterate 4 k_is)
   iterate 29 k_is
  let#[t,T,et_LT,ek_LT]:=T;let e0:=hmg.symm.trans T.gQ.m;cases e0;let cd_LT:t.d_LT.code=.ref t.k_LT:=by let#[o,e1,e2]:=T.dO.u.at KX;rw[ek_LT];exact(hT "in_order" {}).codeEq T.dO.m e1 e2
  let S_FORMS:L2.Hy w (L2.KOf KX) t.v_FORMS L2.kQ:=by
   apply L2.sd_at (p:=λb=>L2.Hy w (L2.KOf KX) b L2.kQ) KX G (e2:=T.v_FORMS)
   k_is
   (try dsimp only[L2.KOf])
   apply L2.Hy.of
   k_is
   (iterate 4 first | rfl | kernel_rfl)
   iterate 17 (apply L2.lR.cons;k_is;k_is;rfl;(first | rfl | kernel_rfl))
   exact .nil
  let S_ANSWERS:L2.Gq w (L2.KOf KX) mg t.v_ANSWERS L2.lZ:=by
   apply L2.sd_at (p:=λb=>L2.Gq w (L2.KOf KX) mg b L2.lZ) KX G (e2:=T.v_ANSWERS)
   k_is
   (try dsimp only[L2.KOf])
   apply L2.Gq.of KX G
   k_is
   (iterate 4 first | rfl | kernel_rfl)
   iterate 17 (apply L2.lP.cons;k_is;k_is)
   exact .nil
  refine' #[_,?b,λbase kb nb hL=>Pk86.ok_law (tb:=tb) { T with sd_FORMS:=S_FORMS,sd_ANSWERS:=S_ANSWERS,L_in_order:=by rw[et_LT,ek_LT];calc hL "in_order" {},cd_LT:=cd_LT,e_LT:=et_LT }];exact T.bl
 case S=>exact λK tb H a ns hl hP hS=>#[a,ns,Z,hS,hl,L2.pZ (hP "in_order" {}),λ_=>rfl]
 case C=>calc λ_ _ _ _ z=>z
#print axioms PySem.Challenge.cw_lackword_k86_lines_that_move_holds
