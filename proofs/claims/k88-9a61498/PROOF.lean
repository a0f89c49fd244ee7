import PyProof.Rows.All
import Lean
import PyProof.EqAt
import PyProof.EqKinds
import PyProof.TupleCall
import PyProof.SetRoads
import PyProof.Rows.SetFrom
import PyProof.StrWalks
import PyProof.FactsAll.set
import PyProof.FactsAll.subtypes_3
import PyProof.CollectWalk
import PyProof.CollectStr
import PyProof.StationsW
import PyProof.RulesAs
import KE.KTryMore
import PyProof.NsDelKeeps
import PyProof.ListStr
import PyProof.TupleOfStr
import PyProof.ConsumeS
import KE.KEqDict
import PyProof.DictWalks
import PyProof.StrLawsTight
import PyProof.StrCalls2
import PyProof.StrReplace2
import KE.KIntText
import PyProof.DictUpdate
import KE.KLam
import PyProof.DictDisplay
import KE.KRevIter
import PyProof.ListRange
import PyProof.Rows.StrNews2
import KE.KDictList
import PyProof.ListNew
import PyProof.Rows.Range3
import KE.KDictLaws
import PyProof.DictRoadsH
import KE.KDictSum
import PyProof.DictItems
import PyProof.DictItemsLoops
import KE.KPairComp
import KE.KNestM
import PySem.Challenge.RW_lackword_k88_lines_refused
set_option linter.all false
set_option compiler.extract_closed false
local macro_rules (kind:=Lean.Parser.Command.declaration) | x=>do
 if x.getPos?.isNone || x[1][1][0].getId.toString.startsWith "PySem.C" then Lean.Macro.throwUnsupported
 return x.rewriteBottomUp (·.setInfo .none)
theorem PySem.W.Fast.I:True:=trivial
local macro_rules | `(#where)=>do
 let b:Lean.Name:=`PySem.Challenge.cw_lackword_k88_lines_refused_holds
 let mut l:=#[`PySem.Challenge.pw_lackword_k88_lines_refused,`PySem.Challenge.rw_lackword_k88_lines_refused]
 for (s,v) in [("sts_","49 71 93 115 137 159 181 203 225 247 269 291 313 328 343 358 373 388 429 476 555 603 683 758 767 865 894 965 1051 1101 1134 1217 1306 1362 1366 1420"),("tree_","47 70 92 114 136 158 180 202 224 246 268 290 312 327 342 357 372 387 428 475 554 602 682 757 766 864 891 964 1050 1100 1133 1216 1305 1361 1363 1419 1480"),("heap_","39 46 1481"),("env_","41"),("view_","39")] do for i in v.splitOn " " do l:=l.push (b.str (s++i))
 let mut p:=43
 for e in "1 2 0 1 1 9 9 5 3 11 5 3 11 5 3 11 5 3 11 5 3 11 5 3 11 5 3 11 5 3 11 5 3 11 5 3 11 5 3 11 5 8 5 8 5 8 5 8 5 8 5 8 4 6 6 6 1 6 6 6 4 6 4 6 4 3 6 6 6 6 6 6 6 6 13 5 3 11 6 4 6 6 1 6 6 6 6 6 6 4 6 6 6 4 4 1 4 6 6 6 6 6 6 6 6 4 6 1 6 4 3 6 6 6 6 6 6 6 6 6 6 6 11 19 5 0 1 1 6 6 6 4 6 4 6 6 4 4 6 4 3 6 6 6 6 6 6 6 6 6 13 5 3 6 6 6 6 11 1 6 6 4 6 4 5 3 6 6 6 6 6 6 6 6 4 11 1 4 6 4 6 6 6 6 6 6 6 6 6 6 1 6 6 6 6 6 4 6 7 0 1 4 3 6 13 6 6 4 4 1 6 6 4 6 6 6 4 6 5".splitOn " " do
  let d:=e.toNat!
  for i in [p:p+d] do l:=l.push (b.str s!"o_{i}")
  p:=p+d+1
 return Lean.mkNullNode (<-l.mapM λn=>do return (<- `(command| def $(Lean.mkIdent (`PySem.W.Fast++Lean.Name.mkSimple s!"tw{n.hash}")):ident := PySem.W.Fast.I)).raw)
#where
namespace HK
open PySem PySem.W PyProof.Rows
noncomputable def g(o:Obj):Option Obj:=match o with | ⟨_,_,.freed,_⟩=>none | o=>some o
abbrev R:=List (Nat×Option Obj)
noncomputable def p (l:List Obj):Nat→List Nat→R:=@List.rec Obj (fun _=>Nat→List Nat→R) (fun _ _=>[]) (fun o _ r i s=>@List.rec Nat (fun _=>R) [] (fun a t _=>@Bool.rec (fun _=>R) (r i.succ (a::t)) ((a,g o)::r i.succ t) (Nat.beq a i)) s) l
theorem q (h:Heap):∀ (l:List Obj) (i:Nat) (s:List Nat),(∀ j,h.objs[i+j]? = l[j]?)→∀ x∈p l i s,h.get? x.1=x.2
 | [],_,_,_,_,e=>nomatch e
 | _::_,_,[],_,_,e=>nomatch e
 | o::l,i,a::t,x,z,e=>by
  have y:∀ j,h.objs[i.succ+j]? = l[j]?:=fun j=>by have:=x (j+1); rw [show i+(j+1)=i.succ+j by omega] at this; simpa using this
  change z∈@Bool.rec (fun _=>R) (p l i.succ (a::t)) ((a,g o)::p l i.succ t) (Nat.beq a i) at e
  cases b:Nat.beq a i <;> rw [b] at e
  · exact q h l _ _ y z e
  obtain rfl:=Nat.eq_of_beq_eq_true b
  rcases List.mem_cons.mp e with rfl|e
  · have:=x 0; unfold Heap.get? g; rw [show h.objs[a]?=some o by simpa using this]; obtain ⟨_,_,d,_⟩:=o; cases d <;> rfl
  · exact q h l _ _ y z e
noncomputable def k (K:Params→Frag) (s u:List Nat):Hook where
 α:=R×List (Option Obj)
 obs:=fun x=>(p x.heap.objs.toList 0 s,u.map x.heap.get?)
 val:=fun w=>((K w.params).map fun p=>(p.1,some p.2),u.map fun _=>some (tabObj #[]))
 says:=fun w h=>InK K w h∧∀ P∈u,h.get? P=some (tabObj #[])
 of:=fun w x e=>⟨fun a o f=>q _ x.heap.objs.toList 0 s (by simp) (a,some o) (by rw [(Prod.mk.inj e).1]; obtain ⟨_,_,f,_⟩:=List.lookup_eq_some_iff.mp f; rw [f]; simp),List.map_inj_left.mp (Prod.mk.inj e).2⟩
 keeps:=fun w h i x k=>⟨InK.keeps w h i x.1 k,fun P y=>k _ _ (x.2 P y)⟩
theorem i {K s u w h} (Y:(k K s u).says w h):(K w.params).In h:=Y.1
end HK
local macro_rules | `(tactic| o_head ($_ $k $a $_ $t))=>`(tactic| o_head (HK.k $k $a $t))
open PySem(intText?)
open PySem.W(instObj methodObj hideAll hideAll_get of_hideAll hideAll_none lookIn plainGet hasDictIn findIn handedIn plainGet_of findObj_own isFn plainOver takerIn set_plain looks_clsIn makesIn typeIn emptyDict bind_fn keepIn specialIn takesIn mroIn kitOne kitx_list kitx_tuple kitx_dict cellsFrom_some fnOf codeIn codeRec_of notCls findObj looks_find check_slot osa_eq clsIn readsIn findCls method_cls cls_value exmOne exm_one kla_fn nsIn)
set_option autoImplicit true
set_option bootstrap.genMatcherCode false
set_option genSizeOf false
local macro_rules | `(tactic| calc $e:term) => `(tactic| refine $e)
local macro_rules | `(tactic| let $p:term := $e:term) => do
  let c0 : Lean.Term → Lean.MacroM (Lean.TSyntax `rcasesPat) := fun t => match t with
    | `(_) => `(rcasesPat| _)
    | `($x:ident) => if x.getId.eraseMacroScopes == `Z then `(rcasesPat| $(Lean.mkIdent `rfl):ident) else `(rcasesPat| $x:ident)
    | _ => Lean.Macro.throwUnsupported
  let up := fun (c : Lean.Term → Lean.MacroM (Lean.TSyntax `rcasesPat)) (t : Lean.Term) => (match t with
    | `(⟨$xs,*⟩) => do
      let ys ← xs.getElems.mapM fun x => do
        let y ← c x
        `(Lean.Parser.Tactic.rcasesPatLo| $y:rcasesPat)
      `(rcasesPat| ⟨$[$ys],*⟩)
    | `(#[$xs,*]) => do
      let ys ← xs.getElems.mapM fun x => do
        let y ← c x
        `(Lean.Parser.Tactic.rcasesPatLo| $y:rcasesPat)
      `(rcasesPat| ⟨$[$ys],*⟩)
    | _ => c0 t : Lean.MacroM (Lean.TSyntax `rcasesPat))
  let y ← up (up (up (up c0))) p
  `(tactic| obtain $y:rcasesPat := $e)
local macro_rules | `(#[$xs,*]) => `(⟨$xs,*⟩)
local macro_rules | `(⇑$x) => `(($x).length)
local macro_rules | `(↑$x) => `(($x).toArray)
local macro_rules | `(↥$x) => `(($x).heap.objs.size)
local macro_rules | `(tactic| let $x:ident := $e) => `(tactic| have $x:ident := $e) | `(tactic| let $x:ident : $t := $e) => `(tactic| have $x:ident : $t := $e)
noncomputable section
def Z {α:Sort _}{a:α}:a=a:=rfl
open Option renaming some→U,none→O
open Bool renaming true→Y,false→J
open Decidable renaming decide→R
set_option relaxedAutoImplicit true
abbrev AA:=List (PySem.Addr×PySem.Obj)
abbrev AB:=PySem.Str->Option PySem.Value
abbrev AC:=List PySem.Value
abbrev AD:=PySem.Addr
abbrev AE:=PySem.Shared
abbrev AF:=PySem.FuncData
abbrev AG:=PySem.Program
abbrev AH:=PySem.Around
abbrev AI:=PySem.World
abbrev AJ:=List PySem.Str
abbrev uz:=List Nat
abbrev uG:=List (List Nat)
abbrev vY:=PySem.Value->PySem.Shared->Prop
abbrev uH:=PySem.W.Frag
set_option Elab.async false
set_option linter.all false
local macro_rules | `(tactic| nofun)=>do
 let l<-("le_of_lt not_le.mp not_lt.mp le_succ_of_le le_of_lt_succ le_of_add_left_le le_of_add_right_le sub_succ_lt_self le_of_eq min_eq_left le_add_right sub_le succ_le_succ le_trans lt_of_lt_of_le lt_of_le_of_lt add_sub_cancel_left add_sub_cancel' sub_add_cancel le_add_right_of_le le_sub_one_of_lt".splitOn " ").toArray.mapM λs=>do
  let x:=Lean.mkIdent (`Nat++s.toName)
  `(Lean.Parser.Tactic.tacticSeq| (with_reducible apply $x)<;>first | with_reducible assumption | exact Nat.le_of_ble_eq_true rfl)
 `(tactic| first $[| $l]* | lia)
local macro_rules | `(∅) => `(by first | with_reducible exact Nat.zero_le _ | with_reducible exact Nat.le_refl _ | with_reducible assumption | nofun)
local macro_rules | `(~~~$x) => `(by simpa using $x)
local macro_rules (kind := «term{}») | `({}) => `(by simp)
local macro_rules | `(nofun) => `(by decide +kernel)
local macro_rules | `(s!$i)=>do
 let some s:=i.raw[0].isInterpolatedStrLit? | Lean.Macro.throwUnsupported
 let l:=(s.toList.map (λc=>Lean.Syntax.mkNumLit (toString c.toNat))).toArray
 `([$l,*])
local macro_rules | `(nat_lit $n)=>do
 let mut e<-`(Or.inl ?_)
 for _ in [0:n.getNat] do e<-`(Or.inr $e)
 return e
local macro_rules | `(#synth [$x,*])=>do
 let I:=Lean.mkIdent
 let r<-x.getElems.mapM λx=>do match x with
  | `($f:ident $n:num)=>if n.getNat<1000 then `(command| abbrev $f:ident : PySem.Stmt := $(I `uX) $n) else `(command| abbrev $f:ident : PySem.Stmt := $(I `kG) ($(I `uX) $(Lean.quote (n.getNat/1000-1))) $(Lean.quote (n.getNat%1000)))
  | `($f:ident $n:num $s:ident $a*)=>do
   let l:Array Lean.Term<-a.mapM λa=>match a with | `($i:ident)=>return Lean.Syntax.mkStrLit i.getId.toString | a=>return ⟨a⟩
   `(command| def $f:ident : ($(I `ux) $n [$l,*] $s) := by ac_rfl)
  | _=>Lean.Macro.throwUnsupported
 return Lean.mkNullNode (r.map (·.raw))
local macro_rules | `(⋯) => `(by decide)
open PySem renaming sizeLine_eq→bA,starEach→bD,model→bJ,wpAny→bR,Value→bU,bootBuiltins→cy,mainGlobals→dq,compareOp→fx,sysModules→iv,backTo→iw
open List renaming range→cc,replicate→cw,length→fu
open Option.some renaming inj→cx
open PySem.NameKind renaming free→dv
open PySem.Value renaming ref→dy,none→ec,str→ek,type→eF,int→eG
open False renaming elim→ff
open PySem.Obj renaming mapFields→ft
open PySem.Str renaming ofString→fv
open PySem.W renaming findIn→fw,emptyDict→fy
open PyProof.Rows renaming Keyed→gp
open PySem.Builtin.Str renaming strSliceIndices→gP,occurrences→g0
open PySem.Builtin.List renaming listUpdate→hB
open ForInStep renaming yield→im
open Or renaming inl→i0,inr→jl
def R4:=@decide_eq_true_iff
def R5:=@decide_eq_true
def R6:=@decide_eq_false
def R7:=@of_decide_eq_true
def R8:=@decide_eq_false_iff_not
def R9:=@congrArg
def Sa:=@absurd
def Sb:=@beq_iff_eq
def Sc:=@decide_eq_true_eq
def Sd:=@decide_eq_decide
def uO:=@List.length_map
def uC:=@PySem.wpAny_bind
def vk:=@Nat.le_of_ble_eq_true
def vy:=@PySem.Heap.get?_push_of_some
def vK:=@List.getElem?_eq_getElem
def vn:=@List.length_append
def vT:=@List.getElem?_eq_some_iff
def uV:=@Nat.le_refl
def wj:=@List.getD_eq_getElem?_getD
def u8:=@Nat.le_trans
def uS:=@PySem.wpAny_pure
def vC:=@Bool.false_ne_true
def vI:=@List.mem_singleton
def vg:=@List.mem_cons
def vQ:=@List.length_cons
def uI:=@if_neg
def vq:=@PySem.Heap.lt_size
def vW:=@Bool.and_eq_true
def wB:=@PySem.Heap.get?_push_size
def wL:=@List.mem_of_getElem?
def uM:=@if_pos
def wU:=@List.mem_cons_of_mem
def wC:=@List.size_toArray
def vJ:=@List.mem_map
def vP:=@List.map_cons
def xf:=@List.length_singleton
def wI:=@List.getElem?_map
def xj:=@Nat.lt_of_lt_of_le
def wM:=@List.mem_append
def uZ:=@Ne.symm
def wx:=@PySem.W.mg_of
def xy:=@List.mem_cons_self
def wk:=@Nat.ne_of_lt
def xw:=@List.length_take
def wf:=@Nat.zero_le
def zh:=@List.getElem?_append_left
def wE:=@List.map_map
def yA:=@List.length_filter_le
def zu:=@List.getElem?_append_right
def xD:=@List.not_mem_nil
def yq:=@Array.length_toList
def xT:=@List.all_eq_true
def xL:=@PySem.PassesOwn.never
def xO:=@List.map_append
def zL:=@PySem.F.plainAttrs_list
def yK:=@List.getElem_of_mem
def yO:=@PySem.Heap.SameBut.update
def xB:=@Nat.lt_irrefl
def xM:=@List.mem_range
def yN:=@PySem.W.mg_none_of
def Br:=@PySem.F.type_list_append
def Bg:=@PySem.F.slot_list_append
def zA:=@List.length_dropLast
def Bm:=@PySem.Heap.get?_update_other
def xu:=@Nat.le_succ
def yR:=@List.length_drop
def xZ:=@PySem.wpAny_holding
def yU:=@List.mem_filter
def xq:=@PySem.wpAny_mono
def y4:=@List.nodup_cons
def Cc:=@List.mem_append_right
def yZ:=@List.length_nil
def Cq:=@List.length_eq_zero_iff
def zd:=@List.append_nil
def Bj:=@List.replicate_succ
def CG:=@PySem.F.plainAttrs_str
def wF:=@PyProof.Rows.wpS_bind
def zM:=@List.take_length
def zj:=@PySem.W.kia_one
def zo:=@Bool.eq_iff_iff
def zg:=@Bool.false_and
def Ci:=@List.getElem?_eq_none
def Cp:=@PySem.Heap.get?_update_self
def z5:=@List.ext_getElem
def Bp:=@List.length_range
def CP:=@PySem.Around.under_plainId
def B9:=@PySem.wpAny_Call_Name_kw
def Bw:=@Int.emod_lt_of_pos
def C7:=@List.contains_iff_mem
def Bl:=@List.lookup_cons
def Bs:=@List.any_eq_true
def B6:=@PySem.wpAny_loadPart_at
def CH:=@PySem.W.callWith_K
def Cy:=@Bool.false_eq_true
def Bd:=@Int.emod_nonneg
def zO:=@PySem.Heap.size_push
def D0:=@Classical.byContradiction
def FR:=@List.take_append_of_le_length
def E3:=@List.getLast?_eq_some_getLast
def Cw:=@Bool.eq_false_iff
def Bc:=@PySem.wpAny_setField
def Dc:=@List.filter_append
def zW:=@List.all_cons
def C9:=@PySem.Calls.spliced_cons
def Ds:=@PySem.W.looks_findIn
def Cj:=@Nat.le_add_right
def Da:=@PySem.wpAny_truthy_bool
def Df:=@PySem.wpAny_newObj_type
def Du:=@PySem.mem_of_lookup
def CV:=@List.pairwise_map
def Dy:=@List.mem_map_of_mem
def xN:=@PyProof.Rows.wpS_pure
def zU:=@Nat.le_of_eq
def CD:=@List.range_succ
def CC:=@List.nil_append
def Eh:=@Array.getElem?_toList
def DO:=@List.contains_cons
def FV:=@List.drop_append_of_le_length
def Ep:=@List.mem_of_mem_take
def GA:=@List.dropLast_concat_getLast
def BZ:=@Bool.true_and
def CJ:=@Nat.mul_le_mul
def CO:=@List.drop_zero
def CF:=@Bool.and_false
def Dz:=@List.nodup_append
def EF:=@List.map_congr_left
def EC:=@List.length_pos_iff
def C1:=@List.find?_cons
def Fs:=@List.take_of_length_le
def ER:=@List.drop_eq_nil_of_le
def zN:=@PySem.wpAny_call
def Dl:=@List.getElem_mem
def DM:=@List.cons_append
def D2:=@List.pairwise_cons
def El:=@List.map_singleton
def Fe:=@List.length_replicate
def CW:=@List.take_zero
def Gp:=@List.drop_eq_getElem_cons
def Er:=@List.flatten_cons
def Cz:=@Nat.sub_self
def EA:=@PySem.W.any_some
def D8:=@Option.bind_some
def He:=@PySem.Calls.callWith_builtin
def Fb:=@List.getElem?_take
def EG:=@List.getElem?_drop
def Et:=@PySem.wpAny_passesOwn
def FZ:=@PySem.W.methodCall_KW
def Dd:=@List.map_nil
def D9:=@List.foldl_cons
def GR:=@List.dropLast_eq_take
def FJ:=@PySem.wpAny_setState_of
def FO:=@PySem.wpAny_pyIter_list
def Fm:=@List.ext_getElem?
def FA:=@List.append_assoc
def FK:=@PySem.Calls.spliced_nil
def IQ:=@Array.getElem?_eq_some_iff
def GI:=@List.mem_append_left
def Ga:=@List.dropLast_concat
def Hg:=@Array.toArray_toList
def IK:=@List.pairwise_iff_getElem
def E8:=@PySem.wpAny_askSetting
def EJ:=@List.length_tail
def Fp:=@List.filter_cons
def F3:=@PySem.wpAny_isSubtype_exc
def Co:=@PySem.wpAny_rule
def DN:=@Nat.le_of_lt
def E6:=@PySem.wpAny_execs_nil
def Ek:=@PySem.wpAny_attempt
def HH:=@PySem.F.plainAttrs_dict
def Gf:=@PySem.Obj.data_mapFields
def GS:=@Nat.lt_of_le_of_lt
def Gy:=@Int.toNat_natCast
def ES:=@List.drop_drop
def JP:=@PyProof.Rows.callWith_builtin1
def Ee:=@Nat.ne_of_gt
def F9:=@PySem.wpAny_call_entry
def GO:=@PySem.IsL.isList
def Gz:=@List.mem_flatMap
def LD:=@List.eq_nil_of_length_eq_zero
def Iw:=@PySem.F.excBase_ValueError
def IC:=@PySem.Calls.evalArgs_plain
def EI:=@PySem.wpAny_standAt
def Fq:=@List.sum_cons
def II:=@PySem.W.looks_mroIn
def Mb:=@PyProof.Rows.callWith_type1
def IG:=@Option.map_some
set_option maxRecDepth 100000
theorem Xq(_:True:=by rfl):True:=trivial
local macro_rules | `(‹$t›)=>`(autoParam $t Xq._auto_1)
theorem Xw(_:True:=by decide):True:=trivial
theorem Xz(_:True:=by first | calc uV _ | calc xu _ | assumption | calc Cj _ _ | lia):True:=trivial
theorem Xx(_:True:=by first | calc .inl Z | calc .inr Z | assumption):True:=trivial
theorem Xv(_:True:=by intro _ z;cases z):True:=trivial
theorem Xj(_:True:=by intro _;rfl):True:=trivial
theorem Xy(_:True:=by walk_at "ln"):True:=trivial
theorem Xu(_:True:=by decide +kernel):True:=trivial
namespace L2
open PySem PySem.Spec PyProof.Rows
def KF (h:Runs M Γ p t fs s e s'):s.toks<=s'.toks:=by
 induction h with
 | done | raise | yield=>exact uV _
 | again _ _ a | rule _ a | «at» _ a | load _ _ a | update _ _ a | loadIfAlive _ a | point _ a | alloc _ a | ask _ a | choose _ _ a | os _ a | handled _ a | genState _ _ a | stack _ a | thread _ a | newGen _ a=>exact a
 | fresh _ a=>exact u8 (xu _) a
 | call _ _ b c | segRet _ _ b c | segGen _ _ b c=>exact u8 b c
 | callSusp _ a | segSuspOut _ _ a=>exact a
 | resumeFresh _ _ _ _ b c | resumeSuspended _ _ _ _ b c=>exact u8 b c
 | resumeJustStarted _ _ _ a | resumeThrowFresh _ _ a | resumeRunning _ _ a | resumeFinished _ _ a=>exact a
 | segSuspGen _ _ _ _ b c=>calc u8 b c
def Zjh (h:Wakes M Γ p g r s res s'):s.toks<=s'.toks:=by
 unfold Wakes at h;split at h
 .exact h.elim
 .split at h
  .obtain⟨_,_,a,_,_,rfl⟩:=h;have:=KF a;exact this
  .obtain⟨_,rfl⟩:=h;exact uV _
  .obtain⟨_,rfl⟩:=h;exact uV _
 .obtain⟨_,_,a,_,_,rfl⟩:=h;have:=KF a;exact this
 .obtain⟨_,rfl⟩:=h;exact uV _
 .obtain⟨_,rfl⟩:=h;calc uV _
def qj (t:Sem α){Q:α->Pos->AE->Prop}{E:bU->Pos->AE->Prop}(n:Nat):∀ {p:Pos} {s:AE},n<=s.toks->Sem.wp M Γ t (λa p s'=>n<=s'.toks->Q a p s') (λe p s'=>n<=s'.toks->E e p s') p s->Sem.wp M Γ t Q E p s:=by
 induction t with
 | pure x=>exact λd h=>h d
 | raise v=>exact λd h=>h d
 | unsupported | finish | yield | fork | await | register=>exact λ_=>id
 | rule _ k b | «at» _ k b | alloc _ k b | loadIfAlive _ k b | point _ k b | ask k b | os _ _ k b | handled _ k b | newGen _ k b | stack k b | thread k b=>exact λd h=>b _ d h
 | fresh k b=>exact λd h=>b _ (Nat.le_succ_of_le d) h
 | load a _ k b | genState a k b=>exact λd ⟨o,u,h⟩=>#[o,u,b _ d h]
 | update a _ f k b | choose _ _ k b=>exact λd ⟨q,h⟩=>#[q,b _ d h]
 | call c h g l k b=>exact λd ⟨r,s',j,h⟩=>#[r,s',j,b _ (u8 d (KF j)) h]
 | resume g r l k b=>calc λd ⟨i,s',m,h⟩=>#[i,s',m,b _ (u8 d (Zjh m)) h]
def xF (h:bR M A t (λa s'=>s.toks<=s'.toks->Q a s') (λe s'=>s.toks<=s'.toks->E e s') s):bR M A t Q E s:=
 λΓ p b=>qj t s.toks (uV _) (h Γ p b)
abbrev uQ:=Sum Int Str
noncomputable def Di:uQ->bU->Bool
 | .inl k,v=>Value.isInt k v
 | .inr x,v=>Value.isStrOf x v
noncomputable def oW (w:AI):uQ->Int
 | .inl k=>hashInt k
 | .inr x=>hashStr w x
theorem C3:∀ {k:uQ} {v:bU},Di k v=Y->(∃i t,k=Sum.inl i/\v=eG i t)\/(∃x t,k=Sum.inr x/\v=ek x t)
 | .inl i,v,h=>by
  let#[t,e]:=Value.isInt_shape (k:=i) (v:=v) h;exact .inl #[i,t,Z,e]
 | .inr x,v,h=>by let#[t,e]:=Value.isStrOf_shape (x:=x) (v:=v) h;calc .inr #[x,t,Z,e]
def Zlh (i:Int)(t:Tok):Di (.inl i) (.int i t)=Y:=by simp[Di,Value.isInt]
def Zlg (x:Str)(t:Tok):Di (.inr x) (.str x t)=Y:=by simp[Di,Value.isStrOf]
def Zq5 (a b:Int):R ((Sum.inl a:uQ)=Sum.inl b)=(a == b):=by
 by_cases e:a=b
 .subst e;simp
 .let h:¬(Sum.inl a:uQ)=Sum.inl b:=λq=>e (Sum.inl.inj q);rw[R6 h];calc(beq_eq_false_iff_ne.mpr e).symm
def Zq2 (a b:Str):R ((Sum.inr a:uQ)=Sum.inr b)=R (a=b):=by
 by_cases e:a=b
 .subst e;simp
 .let h:¬(Sum.inr a:uQ)=Sum.inr b:=λq=>e (Sum.inr.inj q);rw[R6 h,R6 e]
def Zq4 (a:Int)(b:Str):R ((Sum.inl a:uQ)=Sum.inr b)=J:=R6 (λq=>nomatch q)
def Zq3 (a:Str)(b:Int):R ((Sum.inr a:uQ)=Sum.inl b)=J:=R6 (λq=>nomatch q)
def wb (prog:AG)(w:AI):PySem.KeyKind prog w uQ where
 is:=Di
 hash:=oW w
 inj:=λv a b f d=>by
  rcases C3 f with⟨i,t,rfl,rfl⟩|⟨x,t,rfl,rfl⟩
  .rcases C3 d with⟨j,u,rfl,e⟩|⟨y,u,rfl,e⟩
   .injection e with e1 _;rw[e1]
   .exact nomatch e
  .rcases C3 d with⟨j,u,rfl,e⟩|⟨y,u,rfl,e⟩
   .exact nomatch e
   .injection e with e1 _;rw[e1]
 byValue:=λk v h=>by rcases C3 h with⟨i,t,rfl,rfl⟩|⟨x,t,rfl,rfl⟩<;>rfl
 pyHash:=λc h=>by
  rcases C3 c with⟨i,t,rfl,rfl⟩|⟨x,t,rfl,rfl⟩
  .exact wpAny_pyHash_int h
  .exact wpAny_pyHash_str h
 eqBool:=λg c h=>by
  rcases C3 g with⟨i,t,rfl,rfl⟩|⟨x,t,rfl,rfl⟩
  .rcases C3 c with⟨j,u,rfl,rfl⟩|⟨y,u,rfl,rfl⟩
   .rw[Zq5]at h;exact wpAny_eqBool_int h
   .rw[Zq4]at h;exact SeqAt.EqAt.int_str i t y u _ _ _ _ h
  .rcases C3 c with⟨j,u,rfl,rfl⟩|⟨y,u,rfl,rfl⟩
   .rw[Zq3]at h;exact SeqAt.EqAt.str_int x t j u _ _ _ _ h
   .rw[Zq2]at h;exact wpAny_eqBool_str h
 «strs»:=λk x t v h=>by
  rcases C3 h with⟨i,u,rfl,e⟩|⟨y,u,rfl,e⟩
  .exact nomatch e
  .injection e with e1 _;subst e1;cases v<;>rfl
def Zh0 (prog:AG)(w:AI)(i:Int)(t:Tok):(wb prog w).is (.inl i) (.int i t)=Y:=Zlh i t
def PL (prog:AG)(w:AI)(x:Str)(t:Tok):(wb prog w).is (.inr x) (.str x t)=Y:=Zlg x t
inductive V where
 | non | bl (b:Bool) | int (i:Int) | str (x:Str) | tok (x:Str) (t:Tok) | byt (b:Array UInt8) | flt (b:UInt64) | ref (a:AD) | ty (n:String)
 deriving DecidableEq
abbrev Se:=List V
set_option genInjectivity false
def kP:V->bU->Prop
 | .non,u=>u=ec
 | .bl b,u=>u=Value.bool b
 | .int i,u=>∃t,u=eG i t
 | .str x,u=>∃t,u=ek x t
 | .tok x t,u=>u=ek x t
 | .byt b,u=>∃t,u=Value.bytes b t
 | .flt b,u=>∃t,u=Value.float b t
 | .ref a,u=>u=dy a
 | .ty n,u=>u=eF n
abbrev kJ:Se->AC->Prop:=Paired kP
def kJ.length (r:kJ xs us):⇑xs=⇑us:=Paired.length r
theorem kJ.get:∀ {xs:Se} {us:AC} {i:Nat} {x:V},kJ xs us->xs[i]?=U x->∃u,us[i]?=U u/\kP x u
 | _,_,_,_,.nil,e=>by simp at e
 | _,_,0,_,.cons r _,e=>by simp at e;subst e;exact#[_,Z,r]
 | _,_,i+1,x,.cons _ t,e=>by let#[u,h1,h2]:=kJ.get (i:=i) (x:=x) t (~~~e);calc#[u,~~~h1,h2]
theorem kJ.append:∀ {xs ys:Se} {us ws:AC},kJ xs us->kJ ys ws->kJ (xs++ys) (us++ws)
 | _,_,_,_,.nil,s=>s
 | _,_,_,_,.cons r t,s=>.cons r (kJ.append t s)
theorem kJ.take:∀ {xs:Se} {us:AC} (n:Nat),kJ xs us->kJ (xs.take n) (us.take n)
 | _,_,0,_=>.nil
 | _,_,_+1,.nil=>.nil
 | _,_,n+1,.cons r t=>.cons r (kJ.take n t)
theorem kJ.drop:∀ {xs:Se} {us:AC} (n:Nat),kJ xs us->kJ (xs.drop n) (us.drop n)
 | _,_,0,r=>r
 | _,_,_+1,.nil=>.nil
 | _,_,n+1,.cons _ t=>kJ.drop n t
def l0:Option V->Option bU->Prop
 | some v,some u=>kP v u
 | none,none=>True
 | _,_=>False
def KV {κ:Type}:List (κ×V)->List (κ×bU)->Prop:=Paired λ(p:κ×V) (q:κ×bU)=>p.1=q.1/\kP p.2 q.2
noncomputable def kV:uQ->V
 | .inl i=>.int i
 | .inr x=>.str x
inductive HO where
 | lst (xs:Se)
 | tup (xs:Se)
 | dK (kvs:List (uQ×V)) | dT (kvs:List (List uQ×V))
 | set (S:Int->Bool) (n:Nat)
 | ins (C dx:AD) (fs:List (Str×V))
 | own (x:AD)
 | xd (fs:List (Str×V))
 | met (f x:AD)
 | rng (lo hi:Int)
 | frz (o:Obj) (u:HO)
 | tbl (ps:Array bU)
 | gho (k:Nat)
 | ext (φ:Heap->Prop)
abbrev Hp:=Addr->Option HO
noncomputable def upd (H:Hp)(a:AD)(o:HO):Hp:=λb=>if b=a then U o else H b
def uN:upd H a o a=U o:=by unfold upd;rw[uM Z]
def uF (h:b≠a):upd H a o b=H b:=by unfold upd;rw[uI h]
def IB:upd (upd H a o) a u=upd H a u:=by funext b;unfold upd;split<;>rfl
def Zuc {H:Hp}{a b:AD}{o u:HO}(h:H a=U o)(h':H b=U u)(d:o≠u):a≠b:=by intro e;subst e;rw[h]at h';calc d (cx h')
def vp {H:Hp}{a b:AD}{o:HO}(h:H a=U o)(h':H b=O):a≠b:=by intro e;subst e;rw[h]at h';cases h'
section
variable (P:AG)(w:AI)
def kX (H:Hp)(h:Heap)(a:AD):HO->Prop
 | .lst xs=>⇑xs<=sizeLine/\∃(its:AC)(n:Nat),kJ xs its/\h.get? a=U { cls:=.type "list",data:=.seq ↑its n }
 | .tup xs=>⇑xs<=sizeLine/\∃its:AC,kJ xs its/\IsTup h a ↑its
 | .dK kvs=>⇑kvs<=sizeLine/\(a == iv)=J/\∃vs,KV kvs vs/\h.DictOf (wb P w) a vs
 | .dT kvs=>⇑kvs<=sizeLine/\(a == iv)=J/\∃xs:List (List uQ×AD×bU),
   Paired (λ(p:List uQ×V) (q:List uQ×AD×bU)=>p.1=q.1/\H q.2.1=U (.tup (p.1.map kV))/\kP p.2 q.2.2) kvs xs /\
   ∃o es e,h.get? a=U o/\o.ExactDict/\o.data=.dict es e/\es.toList=xs.map (entryOfKey (tupleKind (wb P w)))/\(xs.map (·.1)).Nodup
 | .set S n=>h.SetOf (intKind P w) a S n
 | .ins C dx fs=>H dx=U (.own a)/\⇑fs<=1000/\dx≠a/\h.get? a=U (instObj C dx) /\
   ∃b,h.Ns1 dx b/\(∀f,l0 (fs.lookup f) (b f))/\PySem.Within b (fs.map (·.1))
 | .own _=>∃o,h.get? a=U o
 | .xd fs=>∃b,h.Ns1 a b/\∀f,l0 (fs.lookup f) (b f)
 | .rng lo hi=>∃t u v,h.get? a=U { cls:=.type "range",data:=.fields ↑[.int lo t,.int hi u,.int 1 v] }
 | .frz o u=>h.get? a=U o/\kX H h a u
 | .tbl ps=>h.get? a=U { cls:=.none,data:=.fields ps }
 | .gho _=>∃o,h.get? a=U o
 | .met f x=>h.get? a=U (methodObj (.ref f) (.ref x))
 | .ext φ=>φ h/\(∃o,h.get? a=U o)/\∀d c:Heap,φ d->(∀o,d.get? a=U o->c.get? a=U o)->φ c
def wD (H:Hp)(h:Heap):Prop:=∀a o,H a=U o->kX P w H h a o
end
section
def kX.lt (x:kX P w H h a o):a<h.objs.size:=by
 cases o with
 | lst d=>let#[_,_,_,_,e]:=x;exact vq e
 | tup d=>let#[_,_,_,p]:=x;exact p.lt
 | dK b=>let#[_,_,_,_,o,_,_,e,_]:=x;exact vq e
 | dT b=>let#[_,_,_,_,o,_,_,e,_]:=x;exact vq e
 | set S n=>let#[o,_,_,_,e,_]:=x;exact vq e
 | ins C m c=>let#[_,_,_,e,_]:=x;exact vq e
 | own y=>let#[_,e]:=x;exact vq e
 | xd c=>let#[_,#[_,_,_,e,_],_]:=x;exact vq e
 | rng i l=>let#[_,_,_,e]:=x;exact vq e
 | frz g u=>let#[e,_]:=x;exact vq e
 | tbl j=>exact vq (show h.get? a=U _ from x)
 | gho k=>let#[_,e]:=x;exact vq e
 | met f y=>exact vq (show h.get? a=U _ from x)
 | ext φ=>let#[_,#[_,e],_]:=x;calc vq e
theorem Paired.mapP {α β:Type}{F G:α->β->Prop}:∀ {c:List α} {d:List β},Paired F c d->(∀a b,F a b->G a b)->Paired G c d
 | _,_,.nil,_=>.nil
 | _,_,.cons r t,f=>.cons (f _ _ r) (Paired.mapP t f)
def kX.stay (x:kX P w H h a o)(k:∀b u,(b=a\/H b=U (.own a))->h.get? b=U u->h'.get? b=U u)
  (M:∀b,H b=U (.own a)->H' b=U (.own a)) (L:∀b xs,H b=U (.tup xs)->H' b=U (.tup xs)):kX P w H' h' a o:=by
 induction o with
 | lst xs=>let#[z,l,n,r,e]:=x;exact#[z,l,n,r,k _ _ (.inl Z) e]
 | tup xs=>let#[z,l,r,g,e,c]:=x;exact#[z,l,r,g,k _ _ (.inl Z) e,c]
 | dK s=>let#[z,y,I,r,g,i,j,e,c]:=x;exact#[z,y,I,r,g,i,j,k _ _ (.inl Z) e,c]
 | dT s=>
  let#[z,y,xs,r,g,i,j,e,c]:=x;exact#[z,y,xs,Paired.mapP r λp q z=>#[z.1,L _ _ z.2.1,z.2.2],g,i,j,k _ _ (.inl Z) e,c]
 | set S n=>let#[g,i,j,t,e,c]:=x;exact#[g,i,j,t,k _ _ (.inl Z) e,c]
 | ins C T G=>
  let#[d,z,F,e,m,#[A,i,j,E,c],r]:=x;exact#[M _ d,z,F,k _ _ (.inl Z) e,m,#[A,i,j,k _ _ (.inr d) E,c],r]
 | own y=>let#[g,e]:=x;exact#[g,k _ _ (.inl Z) e]
 | xd G=>let#[m,#[A,i,j,e,c],r]:=x;exact#[m,#[A,i,j,k _ _ (.inl Z) e,c],r]
 | rng N Q=>let#[t,u,v,e]:=x;exact#[t,u,v,k _ _ (.inl Z) e]
 | frz g u K=>let#[e,q]:=x;exact#[k _ _ (.inl Z) e,K q]
 | gho y=>let#[g,e]:=x;exact#[g,k _ _ (.inl Z) e]
 | tbl D=>
  let e:h.get? a=U { cls:=.none,data:=.fields D }:=x;show h'.get? a=U { cls:=.none,data:=.fields D };exact k a _ (.inl Z) e
 | met f y=>
  let e:h.get? a=U (methodObj (.ref f) (.ref y)):=x;show h'.get? a=U (methodObj (.ref f) (.ref y));exact k a _ (.inl Z) e
 | ext φ=>let#[p,#[o,e],B]:=x;calc#[B _ _ p λo q=>k _ _ (.inl Z) q,#[o,k _ _ (.inl Z) e],B]
def wD.lt (x:wD P w H h)(e:H a=U o):a<h.objs.size:=(x a o e).lt
def wD.fresh (x:wD P w H h)(e:h.objs.size<=a):H a=O:=by
 cases q:H a with
 | none=>rfl
 | some u=>calc Sa (xj (x.lt q) e) (xB _)
def wD.kept (x:wD P w H h)(k:∀b u,h.get? b=U u->h'.get? b=U u):wD P w H h':=λa o e=>
 (x a o e).stay (λb u _ q=>k b u q) (λ_ q=>q) λ_ _ q=>q
def wD.laid (x:wD P w H h)(k:∀b u,h.get? b=U u->h'.get? b=U u)(i:h.objs.size<=a)(d:kX P w (upd H a o) h' a o):wD P w (upd H a o) h':=λb u e=>by
 let g:=x.fresh i;by_cases f:b=a
 .subst f;rw[uN]at e;cases e;exact d
 .rw[uF f]at e;calc(x b u e).stay (λc v _ q=>k c v q) (λc q=>by rw[uF (vp q g)];calc q) λc j q=>by rw[uF (vp q g)];calc q
end
def Rd (H:Hp)(a:AD)(u:HO):Prop:=H a=U u\/∃o,H a=U (.frz o u)
def Rd.of (h:H a=U u):Rd H a u:=.inl h
def Rd.ok (r:Rd H a u)(x:wD P w H h):kX P w H h a u:=by
 rcases r with r | ⟨o,r⟩
 .exact x a u r
 .obtain⟨_,q⟩:=x a _ r;calc q
def Gb:Option HO->Prop
 | some (.lst _)=>True
 | some (.dK _)=>True
 | some (.dT _)=>True
 | some (.set _ _)=>True
 | some (.ins _ _ _)=>True
 | some (.ext _)=>True
 | _=>False
section
def wD.write (p:wD P w H h)(j:Gb (H x))(o:e=x\/H e=U (.own x))(k:∀b u,b≠e->h.get? b=U u->h'.get? b=U u)(m:∃u,h'.get? e=U u)
  (l:kX P w (upd H x o') h' x o'):wD P w (upd H x o') h':=λb u q=>by
 let d:∀c y,H c=U (.own y)->c≠x:=λc y r z=>by subst z;rw[r]at j;exact j
 let f:∀c xs,H c=U (.tup xs)->c≠x:=λc xs r z=>by subst z;rw[r]at j;exact j
 by_cases g:b=x
 .subst g;rw[uN]at q;cases q;exact l
 .rw[uF g]at q;by_cases a:b=e
  .let n:H b=U (.own x):=by
    rcases o with z | z
    .exact Sa (a.trans z) g
    .rw[a];exact z
   rw[q]at n;cases n;let#[v,s]:=m;exact#[v,by rw[a];calc s]
  .refine(p b u q).stay (λc v i r=>k c v ?_ r) (λc r=>by rw[uF (d c b r)];calc r) λc xs r=>by rw[uF (f c xs r)];exact r
   rcases i with rfl | i
   .exact a
   .rintro rfl;rcases o with z | z
    .exact d c b i z
    .rw[i]at z;cases z;calc g Z
end
structure Un (fs ex:List AD)(H H':Hp)(h h':Heap):Prop where
 keep:∀b o,h.get? b=U o->H b=O->b∉fs->b∉ex->h'.get? b=U o
 slot:∀b o,h.get? b=U o->H b=O->b∈fs->b∉ex->∃sl,h'.get? b=U { o with slots:=sl }
 free:∀b o,h.get? b=U o->H b=O->b∉ex->H' b=O
 there:∀b o,h.get? b=U o->b∉ex->∃o',h'.get? b=U o'
 tups:∀b xs,H b=U (.tup xs)->H' b=U (.tup xs)
 frzs:∀b o u,H b=U (.frz o u)->H' b=U (.frz o u)
 tbls:∀b ps,H b=U (.tbl ps)->∃more,H' b=U (.tbl (ps++more))
section
def Un.any (u:Un fs ex H H1 h h1){b:AD}{ob:Obj}(q:h.get? b=U ob)(n:H b=O)(a:b∉ex):∃d,h1.get? b=U { ob with slots:=d }:=by
 by_cases c:b∈fs
 .exact u.slot b ob q n c a
 .exact#[ob.slots,u.keep b ob q n c a]
def Un.trans (a:Un fs ex H H1 h h1)(b:Un fs ex H1 H2 h1 h2):Un fs ex H H2 h h2 where
 keep:=λc d q n g e=>b.keep c d (a.keep c d q n g e) (a.free c d q n e) g e
 slot:=λc d q n g e=>by let#[r,f]:=a.slot c d q n g e;let#[k,l]:=b.slot c _ f (a.free c d q n e) g e;exact#[k,l]
 free:=λc d q n e=>by let#[j,f]:=a.there c d q e;exact b.free c j f (a.free c d q n e) e
 there:=λc d q e=>by let#[j,f]:=a.there c d q e;exact b.there c j f e
 tups:=λc i q=>b.tups c i (a.tups c i q)
 frzs:=λc d i q=>b.frzs c d i (a.frzs c d i q)
 tbls:=λc o q=>by let#[m,f]:=a.tbls c o q;let#[p,l]:=b.tbls c _ f;calc#[m++p,by rw[l,Array.append_assoc]]
def Un.kept (k:∀b u,h.get? b=U u->h'.get? b=U u):Un fs ex H H h h':=
 #[λb a q _ _ _=>k b a q,λb a q _ _ _=>#[a.slots,k b a q],λ_ _ _ n _=>n,λb a q _=>#[a,k b a q],λ_ _ q=>q,λ_ _ _ q=>q,λ_ c q=>#[↑[],by rw[q];simp]]
def Un.refl:Un fs ex H H h h:=Un.kept λ_ _ q=>q
def Un.laid (k:∀b u,h.get? b=U u->h'.get? b=U u)(e:h.objs.size<=a)(c:H a=O):Un fs ex H (upd H a o) h h' where
 keep:=λb u q _ _ _=>k b u q
 slot:=λb u q _ _ _=>#[u.slots,k b u q]
 free:=λb u q n _=>by rw[uF (wk (xj (vq q) e))];exact n
 there:=λb u q _=>#[u,k b u q]
 tups:=λb d q=>by rw[uF (vp q c)];exact q
 frzs:=λb u d q=>by rw[uF (vp q c)];exact q
 tbls:=λb f q=>#[↑[],by rw[uF (vp q c),q];simp]
def Un.write (c:Gb (H x))(j:e=x\/H e=U (.own x))(k:∀b u,b≠e->h.get? b=U u->h'.get? b=U u)(d:∃u,h'.get? e=U u):Un fs ex H (upd H x o) h h':=by
 let i:∀b,H b=O->b≠x:=λb n z=>by subst z;rw[n]at c;exact c
 let g:∀b,H b=O->b≠e:=λb n z=>by
  subst z;rcases j with r | r
  .exact i b n r
  .rw[n]at r;cases r
 let f:∀b u,H b=U u->¬Gb (U u)->b≠x:=λb u q l z=>by subst z;rw[q]at c;exact l c
 refine⟨λb u q n _ _=>k b u (g b n) q,λb u q n _ _=>⟨u.slots,k b u (g b n) q⟩,λb u q n _=>by rw[uF (i b n)];exact n,λb u q _=>?_,
  λb m q=>by rw[uF (f b _ q λz=>z)];calc q,λb u m q=>by rw[uF (f b _ q λz=>z)];calc q,λb p q=>⟨↑[],by rw[uF (f b _ q λz=>z),q];simp⟩⟩
 by_cases a:b=e
 .subst a;exact d
 .exact#[u,k b u a q]
end
noncomputable def FD (h:Heap)(H:Hp):List AD:=(cc h.objs.size).filter λa=>(H a).isSome
def oA (h:Heap)(H:Hp):Heap:=hideAll h (FD h H)
def Zlo (h:Heap)(H:Hp):(oA h H).objs.size=h.objs.size:=PySem.W.hideAll_size _ _
def Zmz (e:h.get? b=U o)(n:H b=O):(oA h H).get? b=U o:=
 hideAll_get _ e λa=>by let q:(H b).isSome=Y:=(yU.mp a).2;rw[n]at q;simp at q
def ZoQ (e:(oA h H).get? b=U o):h.get? b=U o/\H b=O:=by
 let a:h.get? b=U o:=of_hideAll (FD h H) e;calc#[a,?_];cases q:H b with
 | none=>rfl
 | some x=>
  let c:b∈FD h H:=yU.mpr #[xM.mpr (vq a),by simp[q]];let z:(oA h H).get? b=O:=hideAll_none (FD h H) c;rw[z]at e;cases e
def Zpx (g h:Heap)(L:AD):AA:=(cc h.objs.size).filterMap λa=>if a=L\/(g.get? a).isSome=Y then O else (h.get? a).map λo=>(a,o)
noncomputable def rest (g h:Heap)(L d:AD):AA:=(Zpx g h L).filter λp=>R (p.1≠d)
structure Mod (K:uH)(mg:AB)(base:Heap):Prop where
 kin:K.In base
 glob:base.Ns dq mg
 blt:∃mb,base.Ns builtinsNs mb/\∀x:Str,x≠"__name__"->mb x=cy x
 nolimit:base.NoLimit
structure Cx where
 prog:AG
 w:AI
 K:uH
 mg:AB
 base:Heap
 A:AH
 N:AJ
 s_0:AE
 H_0:Hp
 env:Env
 outer:List Env
 stack:List Env
 ex:List AD
 fn:Str->Bool
 calm:Bool
 pn:AA
 xe:vY
noncomputable def wO (l:List Env):List AD:=l.filterMap (·.frame)
abbrev Cx.fs (X:Cx):List AD:=wO X.outer
def Fv (a:Scope)(x:Str):Prop:=a.names.lookup x=U .local\/a.names.lookup x=U .cell\/a.names.lookup x=U .free
def EK (a:Scope)(x:Str):Prop:=a.names.lookup x=U .local\/a.names.lookup x=U .cell
def Look (env:Env)(h:Heap)(m:AB)(x:Str)(u:bU):Prop:=
 (env.kindOf x=U .local/\m x=U u)\/((env.kindOf x=U .cell\/env.kindOf x=U .free)/\∃c,env.cells.lookup x=U c/\h.IsCell c (U u))
structure Cx.Ok (X:Cx):Prop where
 mod:Mod X.K X.mg X.base
 kind:X.env.scope.kind=.function
 glob:X.env.globals=dq
 blt:X.env.builtins=builtinsNs
 above:↥X.s_0<=X.env.locals
 inj:∀x y c,X.env.cells.lookup x=U c->X.env.cells.lookup y=U c->x=y
 has:∀x,(X.env.kindOf x=U .cell\/X.env.kindOf x=U .free)->∃c,X.env.cells.lookup x=U c
 cab:∀x c,X.fn x=Y->X.env.cells.lookup x=U c->↥X.s_0<=c
 hd:X.calm=Y->X.A.handled=O
 frames:X.A.frames=U X.stack
 stk:X.stack=X.outer\/(X.stack=X.env::X.outer/\X.env.frame=U X.env.locals)
 exf:∀b∈X.ex,b≠X.env.locals/\∀x c,X.env.cells.lookup x=U c->c≠b
 bs:∀b o,X.base.get? b=U o->X.s_0.heap.get? b=U o/\X.H_0 b=O
 bsz:X.base.objs.size<=↥X.s_0
 noex:∀b o,X.base.get? b=U o->b∉X.ex
 exfs:∀b∈X.ex,b∉X.fs
 funs:X.s_0.heap.FunFrames X.base X.outer
 frf:∀b∈X.fs,X.H_0 b=O
def GH (H:Hp)(n:Nat):Prop:=∀a k,H a=U (.gho k)->k<=n
def GH.le (g:GH H n)(h:n<=m):GH H m:=λa k e=>u8 (g a k e) h
def GH.upd (g:GH H n)(no:∀k,o≠.gho k)(h:n<=m):GH (upd H a o) m:=λb k e=>by
 by_cases z:b=a
 .subst z;rw[uN]at e;exact Sa (cx e) (no k)
 .rw[uF z]at e;calc u8 (g b k e) h
structure uB (X:Cx)(BO:AA)(σ:List (Option V))(H:Hp)(s:AE):Prop where
 ok:X.Ok
 os:s.os=X.s_0.os
 bare:AllBare s.gens
 base:Un X.fs X.ex X.H_0 H X.s_0.heap s.heap
 loc:∃m,s.heap.Ns X.env.locals m/\∀(i:Nat)(x:Str)(v:V),X.N[i]?=U x->σ[i]?=U (U v)->Fv X.env.scope x->∃u,kP v u/\Look X.env s.heap m x u
 cell:∀x c,X.env.cells.lookup x=U c->∃v,s.heap.IsCell c v
 free:H X.env.locals=O
 freeC:∀x c,X.env.cells.lookup x=U c->H c=O
 pin:∀p∈X.pn++BO,s.heap.get? p.1=U p.2/\H p.1=O/\p.1≠X.env.locals/\p.1∉X.fs/\∀v,p.2.data≠.cell v
 hok:wD X.prog X.w H s.heap
 len:⇑σ=⇑X.N
 gh:GH H s.toks
section
variable {X:Cx}{BO:AA}{σ:List (Option V)}{H H':Hp}{s:AE}{h':Heap}
def Cx.Ok.nofr (a:X.Ok){b:AD}{o:Obj}(e:X.base.get? b=U o):b∉X.fs:=λc=>by have:=(a.funs.mem c).1;rw[e]at this;cases this
def uB.bs (I:uB X BO σ H s):∀b o,X.base.get? b=U o->s.heap.get? b=U o/\H b=O:=λb o e=>
 #[I.base.keep b o (I.ok.bs b o e).1 (I.ok.bs b o e).2 (I.ok.nofr e) (I.ok.noex b o e),I.base.free b o (I.ok.bs b o e).1 (I.ok.bs b o e).2 (I.ok.noex b o e)]
def uB.bk (I:uB X BO σ H s):∀b o,X.base.get? b=U o->s.heap.get? b=U o:=λb o e=>(I.bs b o e).1
def uB.mod (I:uB X BO σ H s):Mod X.K X.mg X.base:=I.ok.mod
def uB.kIn (I:uB X BO σ H s):X.K.In s.heap:=I.ok.mod.kin.keeps I.bk
def uB.lt (I:uB X BO σ H s):X.env.locals<↥s:=let ⟨_,hn,_⟩:=I.loc;hn.lt
def uB.sz (I:uB X BO σ H s):↥X.s_0<=↥s:=u8 I.ok.above (DN I.lt)
def uB.nofs (I:uB X BO σ H s){a:AD}(h:↥s<=a):a∉X.fs:=λb=>by let#[_,o,c,_]:=I.ok.funs.mem b;calc Sa (xj (vq c) (u8 I.sz h)) (xB _)
def uB.cne (I:uB X BO σ H s):∀x c,X.env.cells.lookup x=U c->c≠X.env.locals:=λx c e z=>by let#[v,o,f,d]:=I.cell x c e;let#[m,#[h,i,g,b,a,_],_]:=I.loc;rw[z,b]at f;cases f;rw[a]at d;cases d
def uB.funs (I:uB X BO σ H s):s.heap.FunFrames X.base X.outer:=by
 let f:∀(l:List Env),(∀b∈wO l,b∈X.fs)->X.s_0.heap.FunFrames X.base l->s.heap.FunFrames X.base l:=by
  intro l;induction l with
  | nil=>intro _ _;trivial
  | cons n r m=>
   intro g h;let#[k,#[L,o,a,i,q,p],j]:=h;let d:L∈X.fs:=g L (by unfold wO;rw[List.filterMap_cons,a];calc xy);let#[t,e]:=I.base.slot L o q (I.ok.frf L d) d λz=>I.ok.exfs L z d;exact#[k,#[L,_,a,i,e,p],m (λb c=>g b (by unfold wO;rw[List.filterMap_cons,a];calc wU _ c)) j]
 calc f X.outer (λ_ c=>c) I.ok.funs
def uB.stack (I:uB X BO σ H s):s.heap.FunFrames X.base X.stack:=by
 rcases I.ok.stk with e | ⟨e,b⟩
 .rw[e];exact I.funs
 .rw[e];let#[m,a,_]:=I.loc;calc .cons (by rw[I.ok.kind];decide) b a ?_ I.funs;calc Heap.get?_none_of_le (u8 I.ok.bsz I.ok.above)
def uB.stkSub (I:uB X BO σ H s):∀b∈wO X.stack,b∈X.env.locals::X.fs:=λb a=>by
 rcases I.ok.stk with e | ⟨e,c⟩
 .rw[e]at a;exact wU _ a
 .rw[e]at a;unfold wO at a;rw[List.filterMap_cons,c]at a;calc a
def uB.stkFree (I:uB X BO σ H s):∀b∈wO X.stack,H b=O:=λb a=>by
 rcases vg.mp (I.stkSub b a) with e | a
 .rw[e];exact I.free
 .obtain⟨_,o,c,_⟩:=I.ok.funs.mem a;calc I.base.free b o c (I.ok.frf b a) λz=>I.ok.exfs b z a
def uB.step {g':Array GenState}{t':Nat}{d':Drawn}{ch:List AD}(I:uB X BO σ H s)
  (g:∀b∈ch,(b∈X.ex\/↥X.s_0<=b)/\b≠X.env.locals/\(∀x c,X.env.cells.lookup x=U c->c≠b)/\∀p∈X.pn++BO,p.1≠b)
  (j:∀b o,b≠X.env.locals->b∉X.fs->b∉ch->s.heap.get? b=U o->H b=O->h'.get? b=U o)
  (A:∀b o,b≠X.env.locals->b∈X.fs->b∉ch->s.heap.get? b=U o->H b=O->∃S,h'.get? b=U { o with slots:=S }) (f:∀b o,b∉ch->s.heap.get? b=U o->H b=O->H' b=O)
  (B:∀b o,b∉ch->s.heap.get? b=U o->∃o',h'.get? b=U o')
  (M:∀b xs,H b=U (.tup xs)->H' b=U (.tup xs)) (L:∀b o u,H b=U (.frz o u)->H' b=U (.frz o u)) (G:∀b N,H b=U (.tbl N)->∃K,H' b=U (.tbl (N++K)))
  (ns:∀m,s.heap.Ns X.env.locals m->h'.Ns X.env.locals m) (P:wD X.prog X.w H' h') (hg:AllBare g') (V:GH H' t'):
  uB X BO σ H' { s with heap:=h',gens:=g',drawn:=d',toks:=t' }:=by
 let F:∀b o,X.s_0.heap.get? b=U o->b≠X.env.locals:=λb o e=>wk (xj (vq e) I.ok.above);let y:∀b o,X.s_0.heap.get? b=U o->b∉X.ex->b∉ch:=λb o e a C=>by
  rcases (g b C).1 with z | z
  .exact a z
  .exact Sa (xj (vq e) z) (xB _)
 let h:∀x c,X.env.cells.lookup x=U c->∀v,s.heap.IsCell c v->h'.IsCell c v:=λx c e v ⟨o,D,T⟩=>by
  let t:c∉ch:=λz=>(g c z).2.2.1 x c e Z;by_cases hc:c∈X.fs
  .obtain⟨S,q⟩:=A c o (I.cne x c e) hc t D (I.freeC x c e);exact#[_,q,T]
  .exact#[o,j c o (I.cne x c e) hc t D (I.freeC x c e),T]
 refine#[I.ok,I.os,hg,#[λb o e n C a=>?_,λb o e n C a=>?_,λb o e n a=>?_,λb o e a=>?_,λb xs e=>M b xs (I.base.tups b xs e),λb o xs e=>L b o xs (I.base.frzs b o xs e),λb N e=>?_],?_,λx c e=>?_,?_,λx c e=>?_,λp W=>?_,P,I.len,V]
 .exact j b o (F b o e) C (y b o e a) (I.base.keep b o e n C a) (I.base.free b o e n a)
 .obtain⟨S,w⟩:=I.base.slot b o e n C a;let#[Q,E]:=A b _ (F b o e) C (y b o e a) w (I.base.free b o e n a);exact#[Q,E]
 .obtain⟨o',w⟩:=I.base.there b o e a;exact f b o' (y b o e a) w (I.base.free b o e n a)
 .obtain⟨o',w⟩:=I.base.there b o e a;exact B b o' (y b o e a) w
 .obtain⟨m1,w⟩:=I.base.tbls b N e;let#[m2,E]:=G b _ w;exact#[m1++m2,by rw[E,Array.append_assoc]]
 .obtain⟨m,hn,hl⟩:=I.loc;calc#[m,ns m hn,λi x v w E e3=>?_];let#[u,r,l]:=hl i x v w E e3;calc#[u,r,?_];rcases l with l | ⟨k,c,e,z⟩
  .exact .inl l
  .exact .inr #[k,c,e,h x c e _ z]
 .obtain⟨v,z⟩:=I.cell x c e;exact#[v,h x c e v z]
 .obtain⟨m,⟨o,_,_,D,_⟩,_⟩:=I.loc;exact f _ o (λz=>(g _ z).2.1 Z) D I.free
 .obtain⟨v,o,D,T⟩:=I.cell x c e;exact f c o (λz=>(g c z).2.2.1 x c e Z) D (I.freeC x c e)
 .obtain⟨e,n,ne,nf,d⟩:=I.pin p W;let t:p.1∉ch:=λz=>(g p.1 z).2.2.2 p W Z;calc#[j p.1 p.2 ne nf t e n,f p.1 p.2 t e n,ne,nf,d]
def uB.un (I:uB X BO σ H s)(u:Un X.fs [] H H' s.heap h')(g:wD X.prog X.w H' h')(d:GH H' t'):uB X BO σ H' { s with heap:=h',toks:=t' }:=by
 let#[m,#[o,v,q,i,r],_]:=id I.loc;let#[p,k]:=u.any i I.free {};calc I.step (g':=s.gens) (d':=s.drawn) (ch:=[]) (λ_ z=>nomatch z) (λb o _ c _ e n=>u.keep b o e n c {}) (λb o _ c _ e n=>u.slot b o e n c {}) (λb o _ e n=>u.free b o e n {}) (λb o _ e=>u.there b o e {}) u.tups u.frzs u.tbls (λw l=>by let#[t,f,h,a,j]:=l;rw[i]at a;cases a;calc#[_,f,h,k,j]) g I.bare d
def uB.call (I:uB X BO σ H s)(u:Un (wO X.stack) ch H H' s.heap h')(j:wD X.prog X.w H' h')(v:AllBare g')
  (d:∀b∈ch,(b∈X.ex\/↥X.s_0<=b)/\b≠X.env.locals/\(∀x c,X.env.cells.lookup x=U c->c≠b)/\∀p∈X.pn++BO,p.1≠b) (g:GH H' t'):
  uB X BO σ H' { s with heap:=h',gens:=g',drawn:=d',toks:=t' }:=by
 let#[m,#[o,C,B,l,r],_]:=id I.loc;let#[y,i]:=u.any l I.free λz=>(d _ z).2.1 Z;calc I.step (ch:=ch) d (λb o i q a e n=>u.keep b o e n (λz=>(vg.mp (I.stkSub b z)).elim i q) a) (λb o _ _ a e n=>u.any e n a) (λb o a e n=>u.free b o e n a) (λb o a e=>u.there b o e a) u.tups u.frzs u.tbls (λD w=>by let#[A,h,k,f,t]:=w;rw[l]at f;cases f;calc#[_,h,k,i,t]) j v g
def uB.turned (I:uB X BO σ H s)(k:∀b o,b≠it->s.heap.get? b=U o->h'.get? b=U o)(i:H it=O)(f:it≠X.env.locals)
  (l:it∈X.ex\/↥X.s_0<=it) (h:∀x c,X.env.cells.lookup x=U c->c≠it) (t:∀p∈X.pn++BO,p.1≠it) (w:autoParam (s.toks<=t') Xz._auto_1):uB X BO σ H { s with heap:=h',toks:=t' }:=by
 let d:∀b u,H b=U u->b≠it:=λb u e z=>by rw[z,i]at e;cases e
 refine I.step (g':=s.gens) (d':=s.drawn) (ch:=[it]) (λb g=>?_) (λb o _ _ a e _=>k b o (λz=>a (by simp[z])) e) (λb o _ _ a e _=>#[o.slots,k b o (λz=>a (by simp[z])) e]) (λ_ _ _ _ n=>n)
  (λb o a e=>#[o,k b o (λz=>a (by simp[z])) e]) (λ_ _ e=>e) (λ_ _ _ e=>e) (λb C e=>#[↑[],by rw[e];simp]) (λm y=>?_) (λb u e=>?_) I.bare (I.gh.le w)
 .let e:b=it:=by simpa using g
  subst e;exact#[l,f,h,t]
 .obtain⟨o,A,j,B,r⟩:=y;exact#[o,A,j,k _ o (uZ f) B,r]
 .refine(I.hok b u e).stay (λc v a q=>k c v ?_ q) (λ_ q=>q) λ_ _ q=>q;rcases a with z | z
  .rw[z];exact d b u e
  .exact d c _ z
def uB.tok (I:uB X BO σ H s)(t':Nat)(a:autoParam (s.toks<=t') Xz._auto_1):uB X BO σ H { s with toks:=t' }:=I.un (h':=s.heap) (t':=t') Un.refl I.hok (I.gh.le a)
def uB.kept (I:uB X BO σ H s)(k:∀b u,s.heap.get? b=U u->h'.get? b=U u)(a:autoParam (s.toks<=t') Xz._auto_1):uB X BO σ H { s with heap:=h',toks:=t' }:=I.un (Un.kept k) (I.hok.kept k) (I.gh.le a)
def uB.laid (I:uB X BO σ H s)(k:∀b u,s.heap.get? b=U u->h'.get? b=U u)(d:↥s<=a)(c:kX X.prog X.w (upd H a o) h' a o)(e:autoParam (s.toks<=t') Xz._auto_1)(no:autoParam (∀k,o≠.gho k) Xv._auto_1):
  uB X BO σ (upd H a o) { s with heap:=h',toks:=t' }:=I.un (Un.laid k d (I.hok.fresh d)) (I.hok.laid k d c) (I.gh.upd no e)
def uB.write (I:uB X BO σ H s)(f:Gb (H x))(d:e=x\/H e=U (.own x))(k:∀b u,b≠e->s.heap.get? b=U u->h'.get? b=U u)(a:∃u,h'.get? e=U u)
  (c:kX X.prog X.w (upd H x o) h' x o) (g:autoParam (s.toks<=t') Xz._auto_1) (no:autoParam (∀k,o≠.gho k) Xv._auto_1):uB X BO σ (upd H x o) { s with heap:=h',toks:=t' }:=I.un (Un.write f d k a) (I.hok.write f d k a c) (I.gh.upd no g)
def uB.pins_of (I:uB X BO σ H s)(h:∀p∈pins',s.heap.get? p.1=U p.2/\H p.1=O/\p.1≠X.env.locals/\p.1∉X.fs/\∀v,p.2.data≠.cell v):uB X pins' σ H s:=
 #[I.ok,I.os,I.bare,I.base,I.loc,I.cell,I.free,I.freeC,λp a=>(wM.mp a).elim (λz=>I.pin p (GI _ z)) (h p),I.hok,I.len,I.gh]
def Lh {N:AJ}(d:N.Nodup){i j:Nat}{x:Str}(a:N[i]?=U x)(b:N[j]?=U x):i=j:=by let#[g,c]:=vT.mp a;let#[f,e]:=vT.mp b;calc(List.getElem_inj d).mp (c.trans e.symm)
def OA (I:uB X BO σ H s)(hN:X.N.Nodup)(T:X.N[i]?=U x)(w:EK X.env.scope x)(r:kP v u)
  (h:∀s',uB X BO (σ.set i (U v)) H s'->(∃a,Heap.SameBut a s.heap s'.heap/\(a=X.env.locals\/X.env.cells.lookup x=U a))->Q () s') (hf:autoParam (X.fn x=Y\/X.env.scope.names.lookup x=U .local) Xx._auto_1):bR M A (storeName X.env x u) Q E s:=by
 let#[m,hn,hl]:=id I.loc;let W:(X.env.scope.kind == .class || (X.env.scope.kind == .module&&X.env.locals != X.env.globals))=J:=by rw[I.ok.kind];rfl
 let D:i<⇑σ:=by rw[I.len];exact(vT.mp T).1
 let K:=I.cne;let l:∀ {a:AD} {h':Heap},(∃o,s.heap.get? a=U o/\H a=O)->Heap.SameBut a s.heap h'->wD X.prog X.w H h':=λ{a h'} ha f b ob e=>by
  let#[_,_,B]:=ha;calc(I.hok b ob e).stay (λc w' t q=>(f.2 c ?_).trans q) (λ_ q=>q) λ_ _ q=>q;rintro rfl;rcases t with rfl | t
  .rw[B]at e;cases e
  .rw[B]at t;cases t
 rcases w with F | F
 .refine wpAny_storeName_local F hn (λh' ab f=>?_) W;let#[oL,_,_,ac,_]:=id hn;refine h _ #[I.ok,I.os,I.bare,#[λb o e n L w=>?_,λb o e n L w=>?_,I.base.free,λb o e w=>?_,I.base.tups,I.base.frzs,I.base.tbls],#[_,ab,λj y v' g C e3=>?_],λy c e=>?_,I.free,I.freeC,λp hp=>?_,l #[oL,ac,I.free] f,~~~I.len,I.gh.le (xu _)] #[_,f,.inl Z]
  .exact(f.2 b (wk (xj (vq e) I.ok.above))).trans (I.base.keep b o e n L w)
  .obtain⟨sl,g⟩:=I.base.slot b o e n L w;exact#[sl,(f.2 b (wk (xj (vq e) I.ok.above))).trans g]
  .obtain⟨o',g⟩:=I.base.there b o e w;exact#[o',(f.2 b (wk (xj (vq e) I.ok.above))).trans g]
  .by_cases N:j=i
   .subst N;rw[T]at g;cases g;rw[List.getElem?_set_self D]at C;cases C;exact#[u,r,.inl #[F,{}]]
   .rw[List.getElem?_set_ne (uZ N)]at C;let#[u',r',q]:=hl j y v' g C e3;calc#[u',r',?_];rcases q with⟨k,e⟩|⟨k,c,e,z⟩
    .refine .inl #[k,?_];have:y≠x:=λe=>N (Lh hN g (e▸T));simp[this,e]
    .exact .inr #[k,c,e,z.sameBut f (K y c e)]
  .obtain⟨w',z⟩:=I.cell y c e;exact#[w',z.sameBut f (K y c e)]
  .obtain⟨e,n,ne,nf,d⟩:=I.pin p hp;exact#[(f.2 p.1 ne).trans e,n,ne,nf,d]
 .let G:X.fn x=Y:=by
   rcases hf with z | z
   .exact z
   .rw[z]at F;cases F
  let#[c,t]:=I.ok.has x (.inl F);let#[w',z]:=I.cell x c t;calc wpAny_storeName_cell I.ok.kind F t z (λh' V f=>?_);let#[oc,aa,S]:=id z;refine h { s with heap:=h' } #[I.ok,I.os,I.bare,#[λb o e n L w=>?_,λb o e n L w=>?_,I.base.free,λb o e w=>?_,I.base.tups,I.base.frzs,I.base.tbls],#[m,hn.sameBut f (uZ (K x c t)),λj y v' g C e3=>?_],λy c' e=>?_,I.free,I.freeC,λp hp=>?_,l #[oc,aa,I.freeC x c t] f,~~~I.len,I.gh] #[c,f,.inr t]
  .exact(f.2 b (wk (xj (vq e) (I.ok.cab x c G t)))).trans (I.base.keep b o e n L w)
  .obtain⟨sl,g⟩:=I.base.slot b o e n L w;exact#[sl,(f.2 b (wk (xj (vq e) (I.ok.cab x c G t)))).trans g]
  .obtain⟨o',g⟩:=I.base.there b o e w;exact#[o',(f.2 b (wk (xj (vq e) (I.ok.cab x c G t)))).trans g]
  .by_cases N:j=i
   .subst N;rw[T]at g;cases g;rw[List.getElem?_set_self D]at C;cases C;exact#[u,r,.inr #[.inl F,c,t,V]]
   .rw[List.getElem?_set_ne (uZ N)]at C;let#[u',r',q]:=hl j y v' g C e3;calc#[u',r',?_];rcases q with q | ⟨k,c',e,z'⟩
    .exact .inl q
    .refine .inr #[k,c',e,z'.sameBut f ?_];rintro rfl;exact N (Lh hN g (I.ok.inj _ _ _ e t▸T))
  .by_cases P:c'=c
   .subst P;exact#[_,V]
   .obtain⟨w2,z2⟩:=I.cell y c' e;exact#[w2,z2.sameBut f P]
  .obtain⟨e,n,ne,nf,d⟩:=I.pin p hp;calc#[(f.2 p.1 ?_).trans e,n,ne,nf,d];intro q;rw[q,aa]at e;let q':oc=p.2:=cx e;calc d w' (by rw[<-q'];calc S)
def Hz (I:uB X BO σ H s)(d:X.N.Nodup)(c:X.N[i]?=U x)(b:EK X.env.scope x)(r:kP v u)
  (h:∀s',uB X BO (σ.set i (U v)) H s'->Q () s') (a:autoParam (X.fn x=Y\/X.env.scope.names.lookup x=U .local) Xx._auto_1):bR M A (storeName X.env x u) Q E s:=
 OA I d c b r (λs' e _=>h s' e) a
def uB.call' (I:uB X BO σ H s)(i:s'.os=s.os)(u:Un (wO X.stack) ch H H' s.heap s'.heap)(f:wD X.prog X.w H' s'.heap)(h:AllBare s'.gens)
  (a:∀b∈ch,(b∈X.ex\/↥X.s_0<=b)/\b≠X.env.locals/\(∀x c,X.env.cells.lookup x=U c->c≠b)/\∀p∈X.pn++BO,p.1≠b) (d:GH H' s'.toks):uB X BO σ H' s':=by
 let#[h',g',d',t',g]:=s';let e:g=s.os:=i;subst e;calc I.call (g':=g') (t':=t') (d':=d') u f h a d
end
abbrev XK:=bU->Option AD->Hp->Prop
abbrev St:=List (Option V)
abbrev VK:=V->Hp->Prop
abbrev TE:=St->Hp->VK->Prop
abbrev TT:=St->Hp->(Bool->Hp->Prop)->Prop
abbrev TA:=St->Hp->(Se->Hp->Prop)->Prop
structure mM where
 nx:St->Hp->Prop
 rt:VK
 bk:St->Hp->Prop:=λ_ _=>False
 ct:St->Hp->Prop:=λ_ _=>False
abbrev TS:=mM->St->Hp->Prop
def EP (X:Cx)(b:AA)(σ:St)(Q:VK)(u:bU)(s':AE):Prop:=∃v a,uB X b σ a s'/\kP v u/\Q v a
def TP (X:Cx)(c:AA)(σ:St)(Q:Bool->Hp->Prop)(b:Bool)(s':AE):Prop:=∃a,uB X c σ a s'/\Q b a
def AP (X:Cx)(b:AA)(σ:St)(Q:Se->Hp->Prop)(us:AC)(s':AE):Prop:=∃vs a,uB X b σ a s'/\kJ vs us/\Q vs a
def SP (X:Cx)(c:AA)(D:mM)(f:Flow)(s':AE):Prop:=
 match f with
 | .next=>∃a b,uB X c a b s'/\D.nx a b
 | .brk=>∃a b,uB X c a b s'/\D.bk a b
 | .cont=>∃a b,uB X c a b s'/\D.ct a b
 | .ret u=>∃v a b,uB X c a b s'/\kP v u/\D.rt v b
def PE (X:Cx)(e:Expr)(t:TE):Prop:=
 ∀(a:AA)(s:AE)(σ:St)(H:Hp)(Q:VK),uB X a σ H s->t σ H Q->bR (bJ X.prog X.w) X.A (eval e X.env) (EP X a σ Q) X.xe s
def PT (X:Cx)(e:Expr)(t:TT):Prop:=
 ∀(a:AA)(s:AE)(σ:St)(H:Hp)(Q:Bool->Hp->Prop),uB X a σ H s->t σ H Q->bR (bJ X.prog X.w) X.A (isTrue e X.env (eval e X.env)) (TP X a σ Q) X.xe s
def PW (X:Cx)(e:Expr)(t:TT):Prop:=
 ∀(a:Sem bU)(b:AA)(s:AE)(σ:St)(H:Hp)(Q:Bool->Hp->Prop),uB X b σ H s->t σ H Q->bR (bJ X.prog X.w) X.A (isTrue e X.env a) (TP X b σ Q) X.xe s
def PW.pt (h:PW X e t):PT X e t:=h _
def PA (X:Cx)(es:List Expr)(t:TA):Prop:=
 ∀(a:Pos)(b:AA)(s:AE)(σ:St)(H:Hp)(Q:Se->Hp->Prop),uB X b σ H s->t σ H Q->bR (bJ X.prog X.w) X.A (spliced (iw a (bD es X.env))) (AP X b σ Q) X.xe s
def PS (X:Cx)(st:Stmt)(t:TS):Prop:=
 ∀(a:AA)(s:AE)(σ:St)(H:Hp)(D:mM),uB X a σ H s->t D σ H->bR (bJ X.prog X.w) X.A (exec st X.env) (SP X a D) X.xe s
def xS (X:Cx)(st:List Stmt)(t:TS):Prop:=
 ∀(a:AA)(s:AE)(σ:St)(H:Hp)(D:mM),uB X a σ H s->t D σ H->bR (bJ X.prog X.w) X.A (execs st X.env) (SP X a D) X.xe s
def uW (h:bR M A t Q E s)(b:∀a s,Q a s->Q' a s):bR M A t Q' E s:=xq h b λ_ _ x=>x
section
variable {X:Cx}
abbrev EB (x:V)(p:Bool->Prop):Prop:=match x with | .bl c=>p c | _=>False
def FC (h:EB x p):∃c,x=.bl c/\p c:=by cases x<;>first | calc#[_,Z,h] | calc ff h
def HC (o:Option (Option V))(p:V->Prop):Prop:=match o with | some (some v)=>p v | _=>False
def ZqU (h:HC o p):∃v,o=U (U v)/\p v:=by
 match o,h with | some (some v),h=>calc#[v,Z,h]
def pU (i:Nat):TE:=λσ H Q=>HC σ[i]? λv=>Q v H
def tC (v:V):TE:=λ_ H Q=>Q v H
def Zql (p:X.N[i]?=U x)(o:Fv X.env.scope x)(g:autoParam ((x == ("__debug__":Str))=J) Xw._auto_1)(f:autoParam ((x == ("__classdict__":Str))=J) Xw._auto_1):PE X (.Name x pos) (pU i):=by
 intro q s σ H Q I h;let#[v,e,h]:=ZqU h;let#[m,n,k]:=I.loc;let#[u,r,l]:=k i x v p e o;let b:EP X q σ Q u s:=#[v,H,I,r,h];rcases l with⟨d,t⟩|⟨d,c,j,a⟩
 .exact wpAny_Name (wpAny_loadName_local I.ok.kind d n t b) g
 .rcases d with d | d
  .exact wpAny_Name (wpAny_loadName_cell I.ok.kind d j a b) g
  .exact wpAny_Name (wpAny_loadName_free I.ok.kind d j a b f) g
def uR {i j a}:PE X (.Constant (.int i) j a) (tC (.int i)):=λ_ _ _ H _ I h=>wpAny_Constant_int #[.int i,H,I.tok _,#[_,Z],h]
def Ba {b j a}:PE X (.Constant (.bool b) j a) (tC (.bl b)):=λ_ _ _ H _ I h=>Constant_bool #[.bl b,H,I,Z,h]
def Qf {j a}:PE X (.Constant .none j a) (tC .non):=λ_ _ _ H _ I h=>Constant_none #[.non,H,I,Z,h]
def Zqm {x j a}:PE X (.Constant (.str x) j a) (tC (.str x)):=λ_ _ _ H _ I h=>Calls.Constant_str #[.str x,H,I.tok _,#[_,Z],h]
def Gl (X:Cx)(x:Str):Prop:=X.env.kindOf x=U .globalImplicit
def B5 (I:uB X BO σ H s)(c:Gl X x)(b:X.mg x=U u)(h:Q u s)
  (a:autoParam ((x == ("__debug__":Str))=J) Xw._auto_1):bR (bJ X.prog X.w) X.A (eval (.Name x pos) X.env) Q E s:=
 Calls.Name_function_global I.ok.kind c (Calls.loadGlobal_global (by rw[I.ok.glob];calc I.mod.glob.keeps I.bk) b h) a
def FN (I:uB X BO σ H s)(e:Gl X x)(f:X.mg x=O)(d:cy x=U u)(h:Q u s)
  (b:autoParam (x≠"__name__") Xw._auto_1) (g:autoParam ((x == ("__debug__":Str))=J) Xw._auto_1):bR (bJ X.prog X.w) X.A (eval (.Name x pos) X.env) Q E s:=by
 let#[i,c,a]:=I.mod.blt;calc Calls.Name_function_global I.ok.kind e (Calls.loadGlobal_builtin (by rw[I.ok.glob];calc I.mod.glob.keeps I.bk) f (by rw[I.ok.blt];calc c.keeps I.bk) ((a x b).trans d) h) g
def yr (c:Gl X x)(b:X.mg x=U u)(r:kP v u)(a:autoParam ((x == ("__debug__":Str))=J) Xw._auto_1):PE X (.Name x pos) (tC v):=
 λ_ _ _ H _ I h=>B5 I c b #[v,H,I,r,h] a
def EO (d:Gl X x)(c:X.mg x=O)(b:cy x=U u)(r:kP v u)(a:autoParam (x≠"__name__") Xw._auto_1)(e:autoParam ((x == ("__debug__":Str))=J) Xw._auto_1):PE X (.Name x pos) (tC v):=
 λ_ _ _ H _ I h=>FN I d c b #[v,H,I,r,h] a e
variable {a b:Expr}{ta tb:TE}{pos:Pos}
def PC (X:Cx)(f:CmpOp)(a b:Expr)(t:TE):Prop:=
 ∀(e:AA)(s:AE)(σ:St)(H:Hp)(Q:VK),uB X e σ H s->t σ H Q ->
  bR (bJ X.prog X.w) X.A (eval a X.env) (λv c=>bR (bJ X.prog X.w) X.A (eval b X.env) (λu d=>bR (bJ X.prog X.w) X.A (fx f v u) (EP X e σ Q) X.xe d) X.xe c) X.xe s
def Zmk (b:Expr){a:CmpOp}(h:a≠.In)(c:a≠.NotIn):behindInMarks a b=J:=by
 let d:(a == CmpOp.In)=J:=by cases a<;>first | rfl | exact Sa Z h
 let e:(a == CmpOp.NotIn)=J:=by cases a<;>first | rfl | exact Sa Z c
 cases b<;>simp[behindInMarks,d,e]
def tB (t:TE):TT:=λσ H Q=>t σ H λx a=>EB x λc=>Q c a
def Em (h:PC X op a b t)(e:behindInMarks op b=J:=by first | calc Zmk _ ⋯ ⋯ | rfl):PT X (.Compare a [op] [b] pos) (tB t):=by intro k s σ H Q I n;calc wpAny_isTrue_Compare1 (uW (h k s σ H _ I n) λv r e=>uW e λu o g=>uW g λc p l=>?_) e;let#[x,i,f,m,j]:=l;let#[d,Z,q]:=FC j;cases m;calc Da #[i,f,q]
def wH (h:PE X e t)(g:autoParam (∀a,isTrue e X.env a=(do let v <-a;standAt e.pos;holding [v] (truthy v))) Xj._auto_1):PT X e (tB t):=by intro i s σ H Q I l;calc isTrue_plain (uW (h i s σ H _ I l) λv m j=>?_) (g _);let#[x,c,b,k,f]:=j;let#[d,Z,q]:=FC f;cases k;calc Da #[c,b,q]
variable {tA tB':TT}{rest:List Expr}
def tAnd (t u:TT):TT:=λσ H Q=>t σ H λc a=>if c=Y then u σ a Q else Q J a
def Pf (t u:TT):TT:=λσ H Q=>t σ H λc a=>if c=Y then Q Y a else u σ a Q
def tNot (t:TT):TT:=λσ H Q=>t σ H λc a=>Q (!c) a
def MY (b:PT X a tA):PW X (.BoolOp .And [a] pos) tA:=by
 intro f d s σ H Q I h;calc isTrue_and (uW (b d s σ H Q I h) λc g e=>?_);cases c with
 | true=>exact isTrue_and_nil e
 | false=>calc e
def CT (b:PT X a tA):PW X (.BoolOp .Or [a] pos) tA:=by
 intro f d s σ H Q I h;calc isTrue_or (uW (b d s σ H Q I h) λc g e=>?_);cases c with
 | false=>exact isTrue_or_nil e
 | true=>calc e
def Px (i:PT X a tA)(j:PW X (.BoolOp .And (b::rest) pos) tB'):PW X (.BoolOp .And (a::b::rest) pos) (tAnd tA tB'):=by
 intro k g s σ H Q I h;calc isTrue_and (uW (i g s σ H _ I h) λc m l=>?_);let#[e,d,f]:=l;cases c with
 | true=>exact j k g m σ e Q d f
 | false=>calc#[e,d,f]
def Ca (i:PT X a tA)(j:PW X (.BoolOp .Or (b::rest) pos) tB'):PW X (.BoolOp .Or (a::b::rest) pos) (Pf tA tB'):=by
 intro k g s σ H Q I h;calc isTrue_or (uW (i g s σ H _ I h) λc m l=>?_);let#[e,d,f]:=l;cases c with
 | true=>exact#[e,d,f]
 | false=>calc j k g m σ e Q d f
def za (b:PT X a tA):PT X (.UnaryOp .Not a pos) (tNot tA):=by intro d s σ H Q I h;calc isTrue_not (b d s σ H (λc e=>Q (!c) e) I h)
def Rr (ta tb:TE):TE:=λσ H Q=>ta σ H λx a=>EB x λc=>if c=Y then tb σ a Q else Q (.bl J) a
def tOrV (ta tb:TE):TE:=λσ H Q=>ta σ H λx a=>EB x λc=>if c=Y then Q (.bl Y) a else tb σ a Q
def NP (ta:TE):TE:=λσ H Q=>ta σ H λx a=>EB x λc=>Q (.bl (!c)) a
def B3 {op}{t:TE}(h:PE X a t):PE X (.BoolOp op [a] pos) t:=λb s σ H Q I c=>BoolOp_one (h b s σ H Q I c)
def B7 (i:PE X a ta)(j:PE X (.BoolOp .And (b::rest) pos) tb):PE X (.BoolOp .And (a::b::rest) pos) (Rr ta tb):=by
 intro g s σ H Q I h;calc BoolOp_and (uW (i g s σ H _ I h) λv m k=>?_);let#[x,f,e,l,d]:=k;let#[c,Z,d]:=FC d;cases l;calc Da ?_;cases c with
 | true=>exact j g m σ f Q e d
 | false=>calc#[.bl J,f,e,Z,d]
def P6 (i:PE X a ta)(j:PE X (.BoolOp .Or (b::rest) pos) tb):PE X (.BoolOp .Or (a::b::rest) pos) (tOrV ta tb):=by
 intro g s σ H Q I h;calc BoolOp_or (uW (i g s σ H _ I h) λv m k=>?_);let#[x,f,e,l,d]:=k;let#[c,Z,d]:=FC d;cases l;calc Da ?_;cases c with
 | false=>exact j g m σ f Q e d
 | true=>calc#[.bl Y,f,e,Z,d]
def Zqo (d:PE X a ta):PE X (.UnaryOp .Not a pos) (NP ta):=by intro g s σ H Q I h;calc UnaryOp_ (uW (d g s σ H _ I h) λv k i=>?_);let#[x,f,e,j,b]:=i;let#[c,Z,b]:=FC b;cases j;calc not_of (Da #[.bl (!c),f,e,Z,b])
def My (t:TT)(ta tb:TE):TE:=λσ H Q=>t σ H λc a=>if c=Y then ta σ a Q else tb σ a Q
def Rc (n:PT X c tA)(k:PE X a ta)(l:PE X b tb):PE X (.IfExp c a b pos) (My tA ta tb):=by
 intro e s σ H Q I h;calc wpAny_IfExp (uW (n e s σ H _ I h) λd j m=>?_);let#[g,f,i]:=m;cases d with
 | true=>exact k e j σ g Q f i
 | false=>calc l e j σ g Q f i
end
noncomputable def qi:bU->Option V
 | .none=>U .non
 | .bool b=>U (.bl b)
 | .int i _=>U (.int i)
 | .str x _=>U (.str x)
 | .bytes b _=>U (.byt b)
 | .float b _=>U (.flt b)
 | .ref a=>U (.ref a)
 | .type n=>U (.ty n)
 | _=>O
def vO (K:uH)(H:Hp)(a:AD)(xs:Se):Prop:=
 Rd H a (.lst xs) \/
  ∃(o:Obj)(its:Array bU)(n:Nat),K.lookup a=U o/\o.cls=.type "list"/\o.dict=O/\o.data=.seq its n/\its.size<=sizeLine/\kJ xs its.toList/\its.toList.map qi=xs.map U
def wP (K:uH)(H:Hp)(a:AD)(xs:Se):Prop:=
 Rd H a (.tup xs) \/
  ∃(o:Obj)(its:Array bU)(n:Nat),K.lookup a=U o/\o.cls=.type "tuple"/\o.data=.seq its n/\its.size<=sizeLine/\kJ xs its.toList/\its.toList.map qi=xs.map U
section
def vO.of {K:uH}(h:H a=U (.lst xs)):vO K H a xs:=.inl (.inl h)
def wP.of {K:uH}(h:H a=U (.tup xs)):wP K H a xs:=.inl (.inl h)
def uB.list (I:uB X BO σ H s)(h:vO X.K H a xs):∃its:AC,kJ xs its/\PlainL s.heap a ↑its/\⇑xs<=sizeLine:=by
 rcases h with h | ⟨o,its,n,c,d,f,b,g,r,_⟩
 .obtain⟨z,its,n,r,e⟩:=h.ok I.hok;exact#[its,r,#[_,n,e,Z,Z,Z],z]
 .refine#[its.toList,r,#[o,n,I.kIn a o c,d,f,~~~b],?_];let e:=⇑r;simp only[yq]at e
  nofun
def uB.tuple (I:uB X BO σ H s)(h:wP X.K H a xs):∃its:AC,kJ xs its/\IsTup s.heap a ↑its/\⇑xs<=sizeLine:=by
 rcases h with h | ⟨o,its,n,d,b,c,f,r,_⟩
 .obtain⟨z,its,r,p⟩:=h.ok I.hok;exact#[its,r,p,z]
 .refine#[its.toList,r,#[o,I.kIn a o d,b,n,~~~c],?_];let e:=⇑r;simp only[yq]at e
  nofun
def uB.list_inj (I:uB X BO σ H s)(h:vO X.K H a xs)(h':vO X.K H a ys):xs=ys:=by
 let no:∀ {w:Se} {o:Obj},Rd H a (.lst w)->X.K.lookup a=U o->False:=λr k=>by let n:=(I.bs a _ (I.mod.kin a _ k)).2;rcases r with r | ⟨_,r⟩<;>(rw[n]at r;cases r)
 rcases h with h | ⟨o,m,n,l,y,z,p,x,r,u⟩
 .rcases h' with h' | ⟨t,f,v,b,j,g,c,i,q,d⟩
  .rcases h with h | ⟨_,h⟩<;>rcases h' with h' | ⟨_,h'⟩<;>(rw[h]at h';first | (cases h';rfl) | cases h')
  .exact(no h b).elim
 .rcases h' with h' | ⟨t,f,v,b,j,g,c,i,q,d⟩
  .exact(no h' l).elim
  .rw[l]at b;cases b;rw[p]at c;injection c with e1 _;subst e1;rw[u]at d;calc(List.map_inj_right (λ_ _ e=>cx e)).mp d
def uB.tuple_inj (I:uB X BO σ H s)(h:wP X.K H a xs)(h':wP X.K H a ys):xs=ys:=by
 let no:∀ {v:Se} {o:Obj},Rd H a (.tup v)->X.K.lookup a=U o->False:=λr k=>by let n:=(I.bs a _ (I.mod.kin a _ k)).2;rcases r with r | ⟨_,r⟩<;>(rw[n]at r;cases r)
 rcases h with h | ⟨o,l,n,j,x,m,w,r,t⟩
 .rcases h' with h' | ⟨q,f,u,b,i,c,g,p,d⟩
  .rcases h with h | ⟨_,h⟩<;>rcases h' with h' | ⟨_,h'⟩<;>(rw[h]at h';first | (cases h';rfl) | cases h')
  .exact(no h b).elim
 .rcases h' with h' | ⟨q,f,u,b,i,c,g,p,d⟩
  .exact(no h' j).elim
  .rw[j]at b;cases b;rw[m]at c;injection c with e1 _;subst e1;rw[t]at d;calc(List.map_inj_right (λ_ _ e=>cx e)).mp d
end
noncomputable abbrev Cx.wish (X:Cx)(E:vY):Cx:={ X with xe:=E }
abbrev Cx.nox (X:Cx):Cx:=X.wish λ_ _=>False
def Cx.Ok.wish {X:Cx}(a:X.Ok)(E:vY):(X.wish E).Ok:=
 #[a.mod,a.kind,a.glob,a.blt,a.above,a.inj,a.has,a.cab,a.hd,a.frames,a.stk,a.exf,a.bs,a.bsz,a.noex,a.exfs,a.funs,a.frf]
def Cx.Ok.unwish {X:Cx}{E:vY}(a:(X.wish E).Ok):X.Ok:=
 #[a.mod,a.kind,a.glob,a.blt,a.above,a.inj,a.has,a.cab,a.hd,a.frames,a.stk,a.exf,a.bs,a.bsz,a.noex,a.exfs,a.funs,a.frf]
section
def uB.wish (I:uB X BO σ H s)(E:vY):uB (X.wish E) BO σ H s:=#[I.ok.wish E,I.os,I.bare,I.base,I.loc,I.cell,I.free,I.freeC,I.pin,I.hok,I.len,I.gh]
def uB.unwish (I:uB (X.wish E) BO σ H s):uB X BO σ H s:=#[I.ok.unwish,I.os,I.bare,I.base,I.loc,I.cell,I.free,I.freeC,I.pin,I.hok,I.len,I.gh]
def SP.unwish (h:SP (X.wish E) BO D f s'):SP X BO D f s':=by
 cases f with
 | next=>let#[a,b,I,q]:=h;exact#[a,b,I.unwish,q]
 | brk=>let#[a,b,I,q]:=h;exact#[a,b,I.unwish,q]
 | cont=>let#[a,b,I,q]:=h;exact#[a,b,I.unwish,q]
 | ret u=>let#[v,a,b,I,r,q]:=h;calc#[v,a,b,I.unwish,r,q]
def xS.nox {st:List Stmt}{t:TS}(h:xS X.nox st t):xS X st t:=λa s σ H D I b=>
 xq (h a s σ H D (I.wish _) b) (λ_ _ q=>q.unwish) λ_ _ z=>ff z
end
section
variable {X:Cx}{st:Stmt}{rest:List Stmt}{t u:TS}{e:Expr}{te:TE}{pos:Pos}
def qr:TS:=λD σ H=>D.nx σ H
def qb (t u:TS):TS:=λD σ H=>t { D with nx:=u D } σ H
def vN:xS X [] qr:=λ_ _ σ H _ I h=>E6 #[σ,H,I,h]
def uD (e:PS X st t)(d:xS X rest u):xS X (st::rest) (qb t u):=by
 intro b s σ H D I h;calc wpAny_execs_cons (uW (e b s σ H { D with nx:=u D } I h) λf i q=>?_);cases f with
 | next=>
  let#[a,c,g,q]:=q;exact d b i a c D g q
 | ret v=>exact q
 | brk=>exact q
 | cont=>calc q
def uK (b:PS X st t):xS X [st] t:=by
 intro a s σ H D I h;calc wpAny_execs_cons (uW (b a s σ H D I h) λf c q=>?_);cases f with
 | next=>exact E6 q
 | ret v=>exact q
 | brk=>exact q
 | cont=>calc q
def uB.quiet (I:uB X BO σ H s):interactive X.env=J:=by simp[interactive,I.ok.kind]
def Py (te:TE):TS:=λD σ H=>te σ H λ_ a=>D.nx σ a
def vV (g:PE X e te)(b:‹swapsWith e O pos.line X.env=pure J›):PS X (.Expr e pos) (Py te):=by intro f s σ H D I h;calc wpAny_Expr_any (uW (g f s σ H _ I h) λv j ⟨x,c,a,i,d⟩=>#[σ,c,a,d]) I.quiet b
def tRet (te:TE):TS:=λD σ H=>te σ H D.rt
def uY (f:PE X e te):PS X (.Return (U e) pos) (tRet te):=by intro d s σ H D I h;calc wpAny_Return_some (uW (f d s σ H _ I h) λv i ⟨x,b,a,g,c⟩=>#[x,σ,b,a,g,c])
def tIfS (c:TT)(t u:TS):TS:=λD σ H=>c σ H λb a=>if b=Y then t D σ a else u D σ a
def vM (n:PT X c tc)(k:xS X a t)(l:xS X b u):PS X (.If c a b pos) (tIfS tc t u):=by
 intro e s σ H D I h;calc wpAny_If (uW (n e s σ H _ I h) λd j m=>?_);let#[g,f,i]:=m;cases d with
 | true=>exact k e j σ g D f i
 | false=>calc l e j σ g D f i
end
abbrev TG:=V->St->Hp->(St->Hp->Prop)->Prop
abbrev Es:=Se->St->Hp->(St->Hp->Prop)->Prop
def PG (X:Cx)(a:Expr)(t:TG):Prop:=
 ∀(d:AA)(s:AE)(σ:St)(H:Hp)(v:V)(u:bU)(Q:St->Hp->Prop),uB X d σ H s->kP v u->t v σ H Q ->
  bR (bJ X.prog X.w) X.A (assign a X.env u) (λ_ e=>∃b c,uB X d b c e/\Q b c) X.xe s
def FF (X:Cx)(d:List Expr)(t:Es):Prop:=
 ∀(c:AA)(s:AE)(σ:St)(H:Hp)(vs:Se)(us:AC)(Q:St->Hp->Prop),uB X c σ H s->kJ vs us->t vs σ H Q ->
  bR (bJ X.prog X.w) X.A (assignInOrder ((assignEach d X.env).map (·.2)) us) (λ_ e=>∃a b,uB X c a b e/\Q a b) X.xe s
abbrev Ju:=V->V->Hp->VK->Prop
def RN (X:Cx)(b:Operator)(t:Ju):Prop:=
 ∀(a:AA)(s:AE)(σ:St)(H:Hp)(x y:V)(v u:bU)(Q:VK),uB X a σ H s->kP x v->kP y u->t x y H Q ->
  bR (bJ X.prog X.w) X.A (inplaceOp b v u) (EP X a σ Q) X.xe s
section
def xW (i:Nat):TG:=λv σ H Q=>Q (σ.set i (U v)) H
def vD (d:X.N.Nodup)(c:X.N[i]?=U x)(b:EK X.env.scope x)(a:autoParam (X.fn x=Y\/X.env.scope.names.lookup x=U .local) Xx._auto_1):PG X (.Name x pos) (xW i):=by intro f s σ H v u Q I r h;calc wpAny_assign_Name (Hz I d c b r (λg e=>#[_,H,e,h]) a)
def um:Es:=λa σ H Q=>a=[]/\Q σ H
def Iz (t:TG)(u:Es):Es:=λc σ H Q=>∃v r,c=v::r/\t v σ H λa b=>u r a b Q
def GF:FF X [] um:=by intro a s σ H b c Q I r h;let#[e,h]:=h;subst e;cases r;calc assignInOrder_nil #[σ,H,I,h]
def zS (l:PG X e t)(d:FF X es u)
  (f:‹(assignEach (e::es) X.env).map (·.2)=assign e X.env::(assignEach es X.env).map (·.2)›):FF X (e::es) (Iz t u):=by
 intro b s σ H p o Q I r h;let#[v,q,g,h]:=h;subst g;cases r with
 | cons r j=>
  rw[f];calc assignInOrder_cons (uW (l b s σ H _ _ _ I r h) λ_ n m=>?_);let#[a,i,c,k]:=m;calc d b n a i _ _ Q c j k
def qc (K:uH)(n:Nat)(t:Es):TG:=λv σ H Q=>∃a xs,v=.ref a/\wP K H a xs/\⇑xs=n/\t xs σ H Q
def OQ (z:X.calm=Y)(h:FF X es t)
  (q:‹⇑(assignEach es X.env)=n›) (c:‹(assignEach es X.env).findIdx? (·.1)=O›):PG X (.Tuple es k pos) (qc X.K n t):=by
 intro g s σ H v u Q I r d;let#[a,A,w,x,i,d]:=d;subst w;cases r;let#[m,f,y,B]:=I.tuple x;calc assign_Tuple_tuple (I.ok.hd z) y (by simp[q,<-i,⇑f]) c λj p=>?_;let l:uB X g σ H { s with heap:=j }:=I.kept (t':=s.toks) λb o e=>p b o (wk (vq e)) e;calc h g _ σ H A _ Q l (~~~f) d
def pJ (a:TE)(g:TG):TS:=λD σ H=>a σ H λx b=>g x σ b D.nx
def HK (j:PE X e te)(k:PG X tg g)(c:‹swapsWithSole [tg] e pos.line X.env=pure J›)(n:‹swappedStores [tg] e X.env=pure O›)
  (f:‹(assignEach [tg] X.env).map (·.2)=[assign tg X.env]›):PS X (.Assign [tg] e pos) (pJ te g):=by
 intro a s σ H D I h;calc wpAny_Assign_stores (uW (j a s σ H _ I h) λv o l=>?_) c n;let#[x,d,b,m,i]:=l;rw[f];calc uW (k a o σ d x v _ b m i) λ_ p q=>q
def Bf (k:X.N.Nodup)(j:X.N[i]?=U x)(c:EK X.env.scope x)(m:PE X e te)(d:‹swapsWith e (U (.Name x pos')) pos.line X.env=pure J›)(a:autoParam (X.fn x=Y\/X.env.scope.names.lookup x=U .local) Xx._auto_1):
  PS X (.Assign [.Name x pos'] e pos) (pJ te (xW i)):=by
 intro l s σ H D I h;calc wpAny_Assign_Name (uW (m l s σ H _ I h) λv r n=>?_) d;let#[y,f,b,o,g]:=n;calc Hz b k j c o (λq p=>#[_,f,p,g]) a
def tAug (i:Nat)(a:TE)(b:Ju):TS:=λD σ H=>∃x,σ[i]?=U (U x)/\a σ H λy d=>b x y d λz c=>D.nx (σ.set i (U z)) c
def Nl (Q:X.N.Nodup)(q:X.N[i]?=U x)(f:EK X.env.scope x)(he:PE X e te)(ho:RN X op ti)(t:autoParam (X.fn x=Y\/X.env.scope.names.lookup x=U .local) Xx._auto_1):
  PS X (.AugAssign (.Name x pos') op e pos) (tAug i te ti):=by
 intro j s σ H D I h;let#[v,C,h]:=h;let#[m,N,V]:=I.loc;let n:Fv X.env.scope x:=by rcases f with k | k;calc .inl k;exact .inr (.inl k)
 let#[u,r,l]:=V i x v q C n;calc wpAny_AugAssign_Name ?_;let p:bR (bJ X.prog X.w) X.A (eval e X.env) (λw g=>bR (bJ X.prog X.w) X.A (inplaceOp op u w) (λr d=>bR (bJ X.prog X.w) X.A (storeName X.env x r) (λ_=>SP X j D .next) X.xe d) X.xe g) X.xe s:=by calc uW (he j s σ H _ I h) λw M o=>?_;let#[y,P,A,S,E]:=o;calc uW (ho j M σ P v y u w _ A r S E) λz s2 o=>?_;let#[zv,B,G,K,F]:=o;exact Hz G Q q f K (λs3 W=>#[_,B,W,F]) t
 rcases l with⟨a,T⟩|⟨a,c,L,b⟩
 .exact wpAny_loadName_local I.ok.kind a N T p
 .rcases a with a | a
  .exact wpAny_loadName_cell I.ok.kind a L b p
  .rcases f with k | k
   .have:X.env.scope.names.lookup x=U .free:=a;rw[k]at this;cases this
   .have:X.env.scope.names.lookup x=U .free:=a;rw[k]at this;cases this
def O9 (f:Int->Int->Int):Ju:=λx y H Q=>∃i j,x=.int i/\y=.int j/\Q (.int (f i j)) H
def NC:RN X .Add (O9 λi j=>i+j):=by intro e s σ H x y v u Q I c a h;let#[i,j,b,d,q]:=h;subst b;subst d;let#[t,Z]:=c;let#[f,Z]:=a;calc iadd_int #[.int _,H,I.tok _,#[_,Z],q]
end
section
def Li (c:TT)(tb:TS):TS:=λD σ H=>∃W:Nat->St->Hp->Prop,(∃m,W m σ H)/\∀m σ H,W m σ H ->
 c σ H λb f=>if b=Y then ∃N:St->Hp->Prop,(∀a e,N a e->∃d,d<m/\W d a e)/\tb { D with nx:=N,ct:=N,bk:=D.nx } σ f else D.nx σ f
def K3 (w:PassesOwn (bJ X.prog X.w) X.A X.env X.xe)(C:PT X c tc)(F:xS X body tb):PS X (.While c body [] pos) (Li tc tb):=by
 intro l s σ H D I h;let#[W,#[P,L],g]:=h;calc wpAny_While (codeAny_whileLoop (λn B=>∃i x,uB X l i x B/\W n i x) ?_ P #[σ,H,I,L]);rintro n E ⟨d,y,A,M⟩;calc Et w (uW (C l E d y _ A (g n d y M)) λb K G=>?_);let#[t,u,j]:=G;cases b with
 | true=>
  let#[N,z,j]:=j;rw[uM Z];calc Et w (uW (F l K d t _ u j) λf Q k=>?_);cases f with
  | next=>
   let#[a,e,r,q]:=k;let#[m,p,o]:=z a e q;exact#[m,p,a,e,r,o]
  | cont=>
   let#[a,e,r,q]:=k;let#[m,p,o]:=z a e q;exact#[m,p,a,e,r,o]
  | brk=>exact k
  | ret v=>exact k
 | false=>
  rw[uI vC];calc E6 #[d,t,u,j]
end
structure It where
 go:Nat->Hp->Prop
 yld:Nat->Hp->V->Hp->Prop
 stop:Nat->Hp->Prop
def nU (X:Cx)(a:AA)(H:Hp)(b:AD):Prop:=
 H b=O/\b≠X.env.locals/\b∉X.fs/\(b∈X.ex\/↥X.s_0<=b)/\(∀x c,X.env.cells.lookup x=U c->c≠b)/\∀p∈X.pn++a,p.1≠b
def uB.fpOk (I:uB X BO σ H s)(a:↥s<=b)(d:H' b=O):nU X BO H' b:=by
 refine#[d,Ee (xj I.lt a),I.nofs a,.inr (u8 I.sz a),λx c e z=>?_,λp f z=>?_]
 .obtain⟨v,q⟩:=I.cell x c e;exact Sa (xj q.lt (by rw[z];calc a)) (xB _)
 .exact Sa (xj (vq (I.pin p f).1) (by rw[z];calc a)) (xB _)
structure o5 (P:AG)(w:AI)(K:uH)(tg:Expr)(J_:It)(fp:List AD)(it:AD)(tn:Nat->Heap->Prop):Prop where
 mem:it∈fp
 obj:∀i h,tn i h->∀b∈fp,∃o,h.get? b=U o/\∀v,o.data≠.cell v
 keep:∀i h h',tn i h->(∀b∈fp,∀o,h.get? b=U o->h'.get? b=U o)->tn i h'
 item:∀(X:Cx),X.prog=P->X.w=w->X.K=K->X.calm=Y->∀(i:Nat)(BO:AA)(s:AE)(σ:St)(H:Hp)(E:vY),uB X BO σ H s->(∀b∈fp,nU X BO H b)->tn i s.heap->J_.go i H ->
  bR (bJ P w) X.A (pyNext (.ref it)) (λr s1=>∃u,r=U u /\
   bR (bJ P w) X.A (letOwnedTupleGo tg (.ref it) u) (λ_ s2=>∃x H',uB X BO σ H' s2/\kP x u/\J_.yld i H x H'/\tn (i+1) s2.heap/\∀b∈fp,H' b=O) E s1) E s
 done:∀(X:Cx),X.prog=P->X.w=w->X.K=K->X.calm=Y->∀(i:Nat)(BO:AA)(s:AE)(σ:St)(H:Hp)(E:vY),uB X BO σ H s->(∀b∈fp,nU X BO H b)->tn i s.heap->J_.stop i H ->
  bR (bJ P w) X.A (pyNext (.ref it)) (λr s1=>r=O/\uB X BO σ H s1) E s
 self:∀(A:AH)(i:Nat)(s:AE)(Q:vY)(E:vY),tn i s.heap->Q (.ref it) s->bR (bJ P w) A (pyIter (.ref it)) Q E s
abbrev TI:=St->Hp->(It->Hp->Prop)->Prop
def LS (X:Cx)(g:AA)(σ:St)(i:Expr)(j:It->Hp->Prop)(c:bU)(d:AE):Prop:=
 ∃(it:AD)(e:List AD)(f:Nat->Heap->Prop)(h:It)(a:Hp),c=.ref it/\uB X g σ a d/\o5 X.prog X.w X.K i h e it f/\f 0 d.heap/\(∀b∈e,nU X g a b)/\j h a
def PI (X:Cx)(d a:Expr)(e:TI):Prop:=
 ∀(b:AA)(s:AE)(σ:St)(H:Hp)(c:It->Hp->Prop),uB X b σ H s->e σ H c ->
  bR (bJ X.prog X.w) X.A (eval a X.env) (λv f=>bR (bJ X.prog X.w) X.A (pyIter v) (LS X b σ d c) X.xe f) X.xe s
def GQ (e:s.heap.get? it=U o)(c:o.cls=.type n)(d:o.data=.fields vs)
    (b:["enumerate","zip","dict_itemiterator","dict_reverseitemiterator","odict_iterator","itertools.zip_longest","itertools.pairwise"].contains n=J) (a:Q () s):bR M A (letOwnedTupleGo tg (.ref it) u) Q E s:=by
  unfold letOwnedTupleGo;cases tg<;>first
    | exact uS a
    | (cases u<;>first
        | exact uS a
        | (refine uC (wpAny_load e ?_)
           rw[c,d];show bR M A (if (["enumerate","zip","dict_itemiterator","dict_reverseitemiterator","odict_iterator","itertools.zip_longest","itertools.pairwise"].contains n&&vs[0]? == U (rawInt _))=Y then _ else _) Q E s;rw[uI (by intro h;rw[b,zg]at h;cases h)];calc uS a))
noncomputable def By (K:uH)(a:AD):It:=
 #[λi H=>∃xs x,vO K H a xs/\xs[i]?=U x,λi H x b=>b=H/\∀xs,vO K H a xs->xs[i]?=U x,λi H=>∃xs,vO K H a xs/\⇑xs<=i]
noncomputable def Bu (a:Int)(n:Nat):It:=#[λi _=>i<n,λi H x b=>b=H/\x=.int (a+i),λi _=>n<=i]
def Zj6 {P:AG}{w:AI}{K:uH}{T:Expr}(a it:AD):o5 P w K T (By K a) [it] it (λi h=>h.IsListIter it a i) where
 mem:=by simp
 obj:=λi h f b g=>by
  let e:b=it:=by simpa using g
  subst e;let#[o,e,c,d]:=f;exact#[o,e,λv z=>by rw[d]at z;cases z]
 keep:=λi h l f k=>f.at λo e=>k it {} o e
 item:=by intro X L B D Q i N s σ H E I m f r;subst L B D;let#[xs,x,n,y]:=r;let#[A,F,p,hz]:=I.list n;let#[u,hu,W]:=F.get y;let#[q,t,f2,C,G,M]:=m it {};calc wpAny_pyNext_list_item f p.isList (x:=u) (~~~hu) λl j sb=>?_;let S:uB X N σ H { s with heap:=l }:=I.turned (t':=s.toks) (λb o g e=>(sb.2 b g).trans e) q t C G M;let#[o,e,c,d]:=id j;exact#[u,Z,GQ (s:={ s with heap:=l }) e c d ⋯ #[x,H,S,W,#[Z,λys hy=>by rw[I.list_inj hy n];calc y],j,λb g=>(m b g).1]]
 done:=by intro X L B D Q i N s σ H E I m f r;subst L B D;let#[xs,n,y]:=r;let#[A,F,p,hz]:=I.list n;let#[q,t,f2,C,G,M]:=m it {};let hl:=⇑F;exact wpAny_pyNext_list_end (I.ok.hd Q) f p.isList (by simp;nofun) λl V=>#[Z,I.turned (t':=s.toks) (λb o g e=>V b o g e) q t C G M]
 self:=λ_ _ _ _ _ f h=>wpAny_pyIter_listiter f h
def Zjj {P:AG}{w:AI}{K:uH}{L:Expr}(it:AD)(j:Int)(n:Nat):o5 P w K L (Bu j n) [it] it (λi h=>IsRangeIter h it (j+(i:Nat)*1) ((n:Int)-(i:Nat)) 1) where
 mem:=by simp
 obj:=λi h a b c=>by
  let e:b=it:=by simpa using c
  subst e;exact#[_,a,λv z=>by let Q:Data.fields _=Data.cell v:=z;cases Q]
 keep:=λi h f a k=>k it {} _ a
 item:=by intro X A r x q i D s σ H E I g a m;subst A r x;let#[l,p,N,u,y,B]:=g it {};let W:=Walks.range (prog:=X.prog) (w:=X.w) (I.ok.hd q) it j 1 n;calc xF (W.item i s _ _ m a λv f C G d kk S=>?_);let#[t,Z]:=G;let F:uB X D σ H { s with heap:=f,toks:=C }:=I.turned (λb o c e=>kk b o (~~~c) e) l p u y B;calc#[_,Z,GQ (s:={ s with heap:=f,toks:=C }) (n:="range_iterator") d Z Z ⋯ #[.int (j+i),H,F,#[t,?_],#[Z,Z],d,λb c=>(g b c).1]];rw[Int.mul_one]
 done:=by intro X A r x q i D s σ H E I g a m;subst A r x;let#[l,p,N,u,y,B]:=g it {};exact wpAny_pyNext_range_end (I.ok.hd q) a (by have:n<=i:=m;nofun) λf M=>#[Z,I.turned (t':=s.toks) (λb o c e=>M b o c e) l p u y B]
 self:=λ_ _ _ _ _ a h=>wpAny_pyIter_rangeiter a h
section
def KS (K:uH)(c:TE):TI:=λσ H d=>c σ H λx b=>∃a,x=.ref a/\(∃xs,vO K b a xs)/\d (By K a) b
def Zov (f:PE X l tl):PI X tg l (KS X.K tl):=by
 intro m s σ H z I h;calc uW (f m s σ H _ I h) λv d r=>?_;let#[x,j,c,t,k]:=r;let#[a,e,#[y,n],q]:=k;subst e;cases t;let#[i,u,p,w]:=c.list n;calc FO p.isList ?_;calc#[↥d,[↥d],_,_,j,Z,c.kept (t':=d.toks) λb o e=>vy _ e,Zj6 a _,#[_,wB _ Z,Z,Z],λb g=>?_,q];let e:b=↥d:=by simpa using g
 subst e;calc c.fpOk (uV _) (c.hok.fresh (uV _))
def MN {d:AA}{σ:St}{H:Hp}{s:AE}{f:It->Hp->Prop}{E:vY}{lo a:Int}{t u v:Tok}{tk:Nat}(I:uB X d σ H s)(k:-(2 ^ 62)<=lo)(i:lo<2 ^ 62)(l:-(2 ^ 62)<=a)(m:a<2 ^ 62)
  (q:f (Bu lo (a-lo).toNat) H) (h:autoParam (s.toks<=tk) Xz._auto_1):bR (bJ X.prog X.w) X.A (pyIter (.ref ↥s)) (LS X d σ tg f) E { s with heap:=s.heap.push { cls:=.type "range",data:=.fields ↑[.int lo t,.int a u,.int 1 v] },toks:=tk }:=by
 calc wpAny_pyIter_range (IsRange.new ..) (small_one k i l m) ?_;let c:uB X d σ H { s with heap:=s.heap.push { cls:=.type "range",data:=.fields ↑[.int lo t,.int a u,.int 1 v] },toks:=tk }:=I.kept λb o e=>vy _ e;refine⟨(s.heap.push { cls:=.type "range",data:=.fields ↑[.int lo t,.int a u,.int 1 v] }).objs.size,[(s.heap.push { cls:=.type "range",data:=.fields ↑[.int lo t,.int a u,.int 1 v] }).objs.size],_,_,H,Z,
  c.kept (t':=tk) λb o e=>vy _ e,Zjj _ lo (a-lo).toNat,?_,λb g=>?_,q⟩
 .let j:lo+((0:Nat):Int)*1=lo:=by simp
  let n:(((a-lo).toNat:Nat):Int)-((0:Nat):Int)=Builtin.Range.rangeSize lo a 1:=by rw[rangeSize_one];split<;>nofun
  show IsRangeIter _ _ (lo+((0:Nat):Int)*1) ((((a-lo).toNat:Nat):Int)-((0:Nat):Int)) 1;rw[j,n];exact wB _ Z
 .let e:b=(s.heap.push { cls:=.type "range",data:=.fields ↑[.int lo t,.int a u,.int 1 v] }).objs.size:=by simpa using g
  subst e;calc c.fpOk (uV _) (c.hok.fresh (uV _))
def OM (b:TA):TI:=λσ H d=>b σ H λa c=>∃j:Int,a=[.int j]/\-(2 ^ 62)<=j/\j<2 ^ 62/\d (Bu 0 j.toNat) c
def Ql (b:TA):TI:=λσ H d=>b σ H λa c=>∃i j:Int,a=[.int i,.int j]/\(-(2 ^ 62)<=i/\i<2 ^ 62/\-(2 ^ 62)<=j/\j<2 ^ 62)/\d (Bu i (j-i).toNat) c
def EH (l:Gl X "range")(n:X.mg "range"=O)(c:PA X [a] ta)(f:‹bD [a] X.env=[(J,eval a X.env)]›):PI X tg (.Call (.Name "range" p) [a] [] pos) (OM ta):=by
 intro k s σ H y I h;calc Call_ (FN I l n boot_range (Mb (uW (c pos k s σ H _ I h) λu x m=>?_) f Z));let#[v,w,d,o,b]:=m;let#[j,e,b,i,q]:=b;subst e;cases o with
 | cons r g=>
  cases g;let#[t,Z]:=r;calc call_range_1 (MN d ∅ ∅ b i (~~~q))
def Ls (m:Gl X "range")(u:X.mg "range"=O)(x:PA X [a,b] ta)(y:‹bD [a,b] X.env=[(J,eval a X.env),(J,eval b X.env)]›)(c:‹bD [b] X.env=[(J,eval b X.env)]›):
  PI X tg (.Call (.Name "range" p) [a,b] [] pos) (Ql ta):=by
 intro n s σ H A I h;calc Call_ (FN I m u boot_range (Mb (uW (x pos n s σ H _ I h) λB z ⟨C,D,g,v,d⟩=>?_) (by rw[y,c]) (by rw[c];rfl)));let#[i,j,e,#[d,l,w,o],q]:=d;subst e;cases v with
 | cons r f=>
  cases f with
  | cons k f=>
   cases f;let#[t,Z]:=r;let#[E,Z]:=k;calc call_range_2 (MN g d l w o q)
def tFor (j:TI)(g:TG)(tb:TS):TS:=λD σ H=>j σ H λc h=>∃W:Nat->Nat->St->Hp->Prop,(∃m,W 0 m σ h)/\∀i m σ H,W i m σ H ->
 (c.stop i H/\D.nx σ H)\/(c.go i H/\∃N:St->Hp->Prop,(∀b a,N b a->∃e,e<m/\W (i+1) e b a)/\∀x a,c.yld i H x a->g x σ a λd f=>tb { D with nx:=N,ct:=N,bk:=D.nx } d f)
noncomputable def GY (a:List AD)(h:Heap):AA:=a.filterMap λb=>(h.get? b).map λo=>(b,o)
def Ji (a:b∈fp)(e:h.get? b=U o):(b,o)∈GY fp h:=List.mem_filterMap.mpr #[b,a,by rw[e];rfl]
def ZkU (c:p∈GY fp h):p.1∈fp/\h.get? p.1=U p.2:=by
 let#[b,d,e]:=List.mem_filterMap.mp c;cases q:h.get? b with
 | none=>rw[q]at e;cases e
 | some o=>
  rw[q]at e;let a:(b,o)=p:=cx e;subst a;calc#[d,q]
def uB.pinned (I:uB X BO σ H s)(g:∀b∈fp,nU X BO H b)(j:∀b∈fp,∃o,s.heap.get? b=U o/\∀v,o.data≠.cell v):uB X (BO++GY fp s.heap) σ H s:=
 I.pins_of λp f=>(wM.mp f).elim (λz=>I.pin p (Cc _ z)) λz=>by let#[a,e]:=ZkU z;let#[h,k,i,_]:=g p.1 a;let#[o,c,d]:=j p.1 a;rw[e]at c;cases c;calc#[e,h,k,i,d]
def uB.unpinned (I:uB X (BO++pl) σ H s):uB X BO σ H s:=I.pins_of λp a=>I.pin p (Cc _ (GI _ a))
def xC (E:PassesOwn (bJ X.prog X.w) X.A X.env X.xe)(hc:X.calm=Y)(hi:PI X tg iter wi)(hg:PG X tg g)(l:xS X body tb)
  (hs:autoParam (∀x,foldedSetIterable iter X.env x=pure x) Xj._auto_1):PS X (.For tg iter body [] pos) (tFor wi g tb):=by
 intro z s σ H D I h;calc wpAny_For (uW (hi z s σ H _ I h) λv s1 h1=>uW h1 λaa s2 h2=>?_) hs;let#[it,F,tn,J_,H2,e,I2,T,Q,f2,W,#[m0,w0],K]:=h2;subst e;let j:∀ {H':Hp},(∀b∈F,H' b=O)->∀b∈F,nU X z H' b:=λhn b l=>#[hn b l,(f2 b l).2];calc codeAny_forLoop_any (λn s'=>∃i p H',uB X z p H' s'/\tn i s'.heap/\(∀b∈F,H' b=O)/\W i n p H') ?_ m0 #[0,σ,H2,I2,Q,λb l=>(f2 b l).1,w0];rintro n s3 ⟨i,c,M,I3,C,B,w3⟩;rcases K i n c M w3 with⟨L,qn⟩|⟨go,N,hN,step⟩
 .refine Et E (uW (T.done X Z Z Z hc i z s3 c M X.xe I3 (j B) C L) λr s4 A=>?_);let#[hr,I4]:=A;subst hr;exact E6 #[c,M,I4,qn]
 .refine Et E (uW (T.item X Z Z Z hc i z s3 c M X.xe I3 (j B) C go) λr s4 A=>?_);let#[u,hr,h4]:=A;subst hr;calc Et E (uW h4 λ_ s5 A=>?_);let#[x,H5,I5,r5,y5,y,S]:=A;let V:=I5.pinned (j S) (T.obj _ _ y);calc Et E (uW (hg _ s5 c H5 x u _ V r5 (step x H5 y5)) λ_ s6 A=>?_);let#[P,H6,I6,q6]:=A;calc Et E (uW (l _ s6 P H6 _ I6 q6) λf s7 w=>?_);let k:∀ {a:St} {q:Hp},uB X (z++GY F s5.heap) a q s7->N a q->∃m,m<n/\∃i p H',uB X z p H' s7/\tn i s7.heap/\(∀b∈F,H' b=O)/\W i m p H':=λ{a q} t G=>by let#[m',hm,w7]:=hN a q G;calc#[m',hm,i+1,a,q,t.unpinned,T.keep _ _ _ y λb l o e=>(t.pin (b,o) (Cc _ (Cc _ (Ji l e)))).1,λb l=>?_,w7];let#[o,e,d]:=T.obj _ _ y b l;exact(t.pin (b,o) (Cc _ (Cc _ (Ji l e)))).2.1
  cases f with
  | next=>let#[a,q,t,G]:=w;exact k t G
  | cont=>let#[a,q,t,G]:=w;exact k t G
  | brk=>let#[a,q,t,w]:=w;exact#[a,q,t.unpinned,w]
  | ret v=>let#[x7,a,q,t,r7,w]:=w;calc#[x7,a,q,t.unpinned,r7,w]
end
def ZmD {K:uH}{a:AD}{xs:Se}{g:TG}{tb:TS}{D:mM}{σ:St}{H:Hp}(b:Nat->St->Hp->Prop)(r:b 0 σ H)(j:∀i σ H,i<=⇑xs->b i σ H->vO K H a xs)
  (k:∀i x σ H,xs[i]?=U x->b i σ H->g x σ H λσ2 H2=>tb { D with nx:=b (i+1),ct:=b (i+1),bk:=D.nx } σ2 H2) (n:∀σ H,b ⇑xs σ H->D.nx σ H):
  ∃W:Nat->Nat->St->Hp->Prop,(∃m,W 0 m σ H)/\∀i m σ H,W i m σ H ->
   ((By K a).stop i H/\D.nx σ H)\/((By K a).go i H/\∃N:St->Hp->Prop,(∀d c,N d c->∃h,h<m/\W (i+1) h d c)/\∀x c,(By K a).yld i H x c->g x σ c λσ2 H2=>tb { D with nx:=N,ct:=N,bk:=D.nx } σ2 H2):=by
 calc#[λi m σ H=>m=⇑xs-i/\i<=⇑xs/\b i σ H,#[⇑xs,{},wf _,r],?_];rintro i m σ H ⟨rfl,l,p⟩;let q:=j i σ H l p;by_cases f:i<⇑xs
 .refine .inr #[#[xs,xs[i],q,by simp[f]],b (i+1),λd c o=>#[⇑xs-(i+1),∅,Z,f,o],λx c y=>?_];let#[e,y]:=y;subst e;exact k i x σ _ (y xs q) p
 .let e:i=⇑xs:=by nofun
  subst e;calc .inl #[#[xs,q,uV _],n σ H p]
def Zlr {d:Int}{n:Nat}{g:TG}{tb:TS}{D:mM}{σ:St}{H:Hp}(a:Nat->St->Hp->Prop)(o:a 0 σ H)
  (j:∀i σ H,i<n->a i σ H->g (.int (d+i)) σ H λσ2 H2=>tb { D with nx:=a (i+1),ct:=a (i+1),bk:=D.nx } σ2 H2) (k:∀σ H,a n σ H->D.nx σ H):
  ∃W:Nat->Nat->St->Hp->Prop,(∃m,W 0 m σ H)/\∀i m σ H,W i m σ H ->
   ((Bu d n).stop i H/\D.nx σ H)\/((Bu d n).go i H/\∃N:St->Hp->Prop,(∀c b,N c b->∃h,h<m/\W (i+1) h c b)/\∀x b,(Bu d n).yld i H x b->g x σ b λσ2 H2=>tb { D with nx:=N,ct:=N,bk:=D.nx } σ2 H2):=by
 calc#[λi m σ H=>m=n-i/\i<=n/\a i σ H,#[n,{},wf _,o],?_];rintro i m σ H ⟨rfl,q,p⟩;by_cases f:i<n
 .refine .inr #[f,a (i+1),λc b l=>#[n-(i+1),∅,Z,f,l],λx b y=>?_];let#[e,y]:=y;subst e y;exact j i σ _ f p
 .let e:i=n:=by nofun
  subst e;calc .inl #[uV _,k σ H p]
abbrev R2:=V->V->Hp->VK->Prop
def wG (X:Cx)(f:bU->bU->Sem bU)(r:R2):Prop:=
 ∀(a:AA)(s:AE)(σ:St)(H:Hp)(x y:V)(v u:bU)(Q:VK),uB X a σ H s->kP x v->kP y u->r x y H Q ->
  bR (bJ X.prog X.w) X.A (f v u) (EP X a σ Q) X.xe s
def K6 (X:Cx)(f:bU->Sem bU)(r:V->Hp->VK->Prop):Prop:=
 ∀(a:AA)(s:AE)(σ:St)(H:Hp)(x:V)(v:bU)(Q:VK),uB X a σ H s->kP x v->r x H Q ->
  bR (bJ X.prog X.w) X.A (f v) (EP X a σ Q) X.xe s
def xU (X:Cx)(f:bU)(r:Se->Hp->VK->Prop):Prop:=
 ∀(a:AA)(s:AE)(σ:St)(H:Hp)(xs:Se)(us:AC)(Q:VK),uB X a σ H s->kJ xs us->r xs H Q ->
  bR (bJ X.prog X.w) X.A (call f us) (EP X a σ Q) X.xe s
def Fj (r:R2)(b tb:TE):TE:=λσ H Q=>b σ H λx c=>tb σ c λy a=>r x y a Q
def Pg (r:V->Hp->VK->Prop)(a:TE):TE:=λσ H Q=>a σ H λx b=>r x b Q
def GV (x y:V)(p:Int->Int->Prop):Prop:=match x,y with | .int i,.int j=>p i j | _,_=>False
def HJ (h:GV x y p):∃i j,x=.int i/\y=.int j/\p i j:=by cases x<;>first | calc ff h | (cases y<;>first | calc#[_,_,Z,Z,h] | calc ff h)
def rI (C:Int->Int->Prop)(g:Int->Int->V):R2:=λx y H Q=>GV x y λi j=>C i j/\Q (g i j) H
def Cs (g:Int->Int->V):R2:=λx y H Q=>GV x y λi j=>Q (g i j) H
def rU (g:Int->V):V->Hp->VK->Prop:=λx H Q=>GV x x λi _=>Q (g i) H
section
def tT (j:PE X a ta)(k:PE X b tb){e:AA}{s:AE}{σ:St}{H:Hp}{i:V->V->Hp->Prop}(I:uB X e σ H s)
  (h:ta σ H λx H1=>tb σ H1 λy c=>i x y c) {Q:vY} {f:bU->bU->Sem bU}
  (l:∀v u d x y c,uB X e σ c d->kP x v->kP y u->i x y c->bR (bJ X.prog X.w) X.A (f v u) Q X.xe d):
  bR (bJ X.prog X.w) X.A (eval a X.env) (λv s_1=>bR (bJ X.prog X.w) X.A (eval b X.env) (λu s_2=>bR (bJ X.prog X.w) X.A (f v u) Q X.xe s_2) X.xe s_1) X.xe s:=by
 calc uW (j e s σ H _ I h) λv t g=>?_;let#[x,H1,n,q,o]:=g;calc uW (k e t σ H1 _ n o) λu d g=>?_;let#[y,c,r,m,p]:=g;calc l v u d x y c r q m p
def uL (i:wG X (binaryOp op) r)(d:PE X a ta)(e:PE X b tb):PE X (.BinOp a op b pos) (Fj r ta tb):=by intro j s σ H Q I h;calc wpAny_BinOp (tT d e I h λv u c x y f k l g q=>i j c σ f x y v u Q k l g q)
def Fz (i:K6 X (unaryOp op) r)(c:PE X a ta):PE X (.UnaryOp op a pos) (Pg r ta):=by intro b s σ H Q I h;calc UnaryOp_ (uW (c b s σ H _ I h) λv j ⟨x,e,d,g,f⟩=>i b j σ e x v Q d g f)
def Rt {f:bU->bU->Sem bU}{C:Int->Int->Prop}{g:Int->Int->Int}
  (a:∀(i j:Int)(t u:Tok)(s:AE)(Q:vY)(E:vY),C i j->Q (.int (g i j) s.toks) { s with toks:=s.toks+1 }->bR (bJ X.prog X.w) X.A (f (.int i t) (.int j u)) Q E s):
  wG X f (rI C λi j=>.int (g i j)):=by
 intro k s σ H x y v u Q I e b h;let#[i,j,Z,Z,d,q]:=HJ h;let#[t,Z]:=e;let#[c,Z]:=b;calc a i j t c s _ _ d #[.int (g i j),H,I.tok _,#[_,Z],q]
def opI0 {f:bU->bU->Sem bU}{g:Int->Int->Int}
  (a:∀(i j:Int)(t u:Tok)(s:AE)(Q:vY)(E:vY),Q (.int (g i j) s.toks) { s with toks:=s.toks+1 }->bR (bJ X.prog X.w) X.A (f (.int i t) (.int j u)) Q E s):
  wG X f (Cs λi j=>.int (g i j)):=by
 intro e s σ H x y v u Q I d b h;let#[i,j,Z,Z,q]:=HJ h;let#[t,Z]:=d;let#[c,Z]:=b;calc a i j t c s _ _ #[.int (g i j),H,I.tok _,#[_,Z],q]
def qk {f:bU->bU->Sem bU}{g:Int->Int->Bool}
  (a:∀(i j:Int)(t u:Tok)(s:AE)(Q:vY)(E:vY),Q (.bool (g i j)) s->bR (bJ X.prog X.w) X.A (f (.int i t) (.int j u)) Q E s):
  wG X f (Cs λi j=>.bl (g i j)):=by
 intro e s σ H x y v u Q I d b h;let#[i,j,Z,Z,q]:=HJ h;let#[t,Z]:=d;let#[c,Z]:=b;calc a i j t c s _ _ #[.bl (g i j),H,I,Z,q]
def pY (i j:Int):Prop:=(-(2 ^ 64)<i/\i<2 ^ 64)\/(-(2 ^ 64)<j/\j<2 ^ 64)
def pY.ok (h:pY i j):IntMulOk i j:=by
 rcases h with⟨b,a⟩|⟨b,a⟩
 .exact .of_left (intBits_le_64 b a)
 .exact .of_right (intBits_le_64 b a)
def y8:wG X (binaryOp .Add) (Cs λi j=>.int (i+j)):=opI0 λ_ _ _ _ _ _ _ q=>add_int q
def IT:wG X (binaryOp .Sub) (Cs λi j=>.int (i-j)):=opI0 λ_ _ _ _ _ _ _ q=>sub_int q
def EW:wG X (binaryOp .Mult) (rI pY λi j=>.int (i*j)):=Rt λ_ _ _ _ _ _ _ a q=>mul_int q a.ok
def zF:wG X (binaryOp .Mod) (rI (λ_ j=>0<j) λi j=>.int (i % j)):=Rt λi j _ _ _ _ _ a q=>by let b:(0:Int)<j:=a;calc mod_int' ∅ (by rw[Int.fmod_eq_emod_of_nonneg i ∅];calc q)
def unI {f:bU->Sem bU}{g:Int->Int}
  (a:∀(i:Int)(t:Tok)(s:AE)(Q:vY)(E:vY),Q (.int (g i) s.toks) { s with toks:=s.toks+1 }->bR (bJ X.prog X.w) X.A (f (.int i t)) Q E s):
  K6 X f (rU λi=>.int (g i)):=by
 intro c s σ H x v Q I b h;let#[i,_,Z,_,q]:=HJ h;let#[t,Z]:=b;calc a i t s _ _ #[.int (g i),H,I.tok _,#[_,Z],q]
def FE:K6 X (unaryOp .USub) (rU λi=>.int (-i)):=unI λ_ _ _ _ _ q=>neg_int q
end
noncomputable def qW:V->V->Bool
 | .non,.non=>Y | .non,.int _=>Y | .int _,.non=>Y | .non,.bl _=>Y | .bl _,.non=>Y | .non,.str _=>Y | .str _,.non=>Y
 | .int _,.int _=>Y | .bl _,.bl _=>Y | .str _,.str _=>Y | .byt _,.byt _=>Y
 | .int _,.str _=>Y | .str _,.int _=>Y | .bl _,.str _=>Y | .str _,.bl _=>Y
 | _,_=>J
def rEq:R2:=λx y H Q=>qW x y=Y/\Q (.bl (R (x=y))) H
def rNe:R2:=λx y H Q=>qW x y=Y/\Q (.bl (!R (x=y))) H
def N3:R (V.int i=V.int j)=(i == j):=by rw[zo];simp
def MU:R (V.bl i=V.bl j)=(i == j):=by rw[zo];simp
def Qr:R (V.str i=V.str j)=(i == j):=by rw[zo];simp
def M7:R (V.byt i=V.byt j)=(i.toList == j.toList):=by rw[zo];cases i;cases j;simp
section
def wR (I:uB X BO σ H s)(q:Q (.bl k) H)(e:k=k'):EP X BO σ Q (.bool k') s:=by subst e;calc#[.bl k,H,I,Z,q]
def Zs1:wG X (fx .Eq) rEq:=by
 intro e s σ H x y v u Q I d a h;let#[c,q]:=h;cases x with
 | non=>
  cases d;cases y with
  | non=>cases a;exact PySem.EqNone.eq_none_none (wR I q {})
  | bl j=>cases a;exact PySem.EqNone.eq_none_bool (wR I q {})
  | int j=>let#[b,Z]:=a;exact PySem.EqNone.eq_none_int (wR I q {})
  | str j=>let#[b,Z]:=a;exact PySem.EqNone.eq_none_str (wR I q {})
  | _=>exact Sa (show J=Y from c) vC
 | bl i=>
  cases d;cases y with
  | non=>cases a;exact PySem.EqNone.eq_bool_none (wR I q {})
  | bl j=>cases a;exact eq_bool (wR I q MU)
  | str j=>let#[b,Z]:=a;exact PySem.EqMixed.eq_bool_str (wR I q {})
  | _=>exact Sa (show J=Y from c) vC
 | int i=>
  let#[t,Z]:=d;cases y with
  | non=>cases a;exact PySem.EqNone.eq_int_none (wR I q {})
  | int j=>let#[b,Z]:=a;exact eq_int (wR I q N3)
  | str j=>let#[b,Z]:=a;exact PySem.EqMixed.eq_int_str (wR I q {})
  | _=>exact Sa (show J=Y from c) vC
 | str i=>
  let#[t,Z]:=d;cases y with
  | non=>cases a;exact PySem.EqNone.eq_str_none (wR I q {})
  | bl j=>cases a;exact PySem.EqMixed.eq_str_bool (wR I q {})
  | int j=>let#[b,Z]:=a;exact PySem.EqMixed.eq_str_int (wR I q {})
  | str j=>let#[b,Z]:=a;exact eq_str (wR I q Qr)
  | _=>exact Sa (show J=Y from c) vC
 | byt i=>
  let#[t,Z]:=d;cases y with
  | byt j=>let#[b,Z]:=a;exact PySem.W.eq_bytes (wR I q M7)
  | _=>exact Sa (show J=Y from c) vC
 | _=>cases y<;>calc Sa (show J=Y from c) vC
def ZsZ:wG X (fx .NotEq) rNe:=by
 intro e s σ H x y v u Q I d a h;let#[c,q]:=h;cases x with
 | non=>
  cases d;cases y with
  | non=>cases a;exact PySem.EqNone.ne_none_none (wR I q {})
  | bl j=>cases a;exact PySem.EqNone.ne_none_bool (wR I q {})
  | int j=>let#[b,Z]:=a;exact PySem.EqNone.ne_none_int (wR I q {})
  | str j=>let#[b,Z]:=a;exact PySem.EqNone.ne_none_str (wR I q {})
  | _=>exact Sa (show J=Y from c) vC
 | bl i=>
  cases d;cases y with
  | non=>cases a;exact PySem.EqNone.ne_bool_none (wR I q {})
  | bl j=>cases a;exact ne_bool (wR I q (R9 not MU))
  | str j=>let#[b,Z]:=a;exact PySem.EqMixed.ne_bool_str (wR I q {})
  | _=>exact Sa (show J=Y from c) vC
 | int i=>
  let#[t,Z]:=d;cases y with
  | non=>cases a;exact PySem.EqNone.ne_int_none (wR I q {})
  | int j=>let#[b,Z]:=a;exact ne_int (wR I q (R9 not N3))
  | str j=>let#[b,Z]:=a;exact PySem.EqMixed.ne_int_str (wR I q {})
  | _=>exact Sa (show J=Y from c) vC
 | str i=>
  let#[t,Z]:=d;cases y with
  | non=>cases a;exact PySem.EqNone.ne_str_none (wR I q {})
  | bl j=>cases a;exact PySem.EqMixed.ne_str_bool (wR I q {})
  | int j=>let#[b,Z]:=a;exact PySem.EqMixed.ne_str_int (wR I q {})
  | str j=>let#[b,Z]:=a;exact ne_str (wR I q (R9 not Qr))
  | _=>exact Sa (show J=Y from c) vC
 | byt i=>
  let#[t,Z]:=d;cases y with
  | byt j=>let#[b,Z]:=a;exact PySem.W.ne_bytes (wR I q (R9 not M7))
  | _=>exact Sa (show J=Y from c) vC
 | _=>cases y<;>calc Sa (show J=Y from c) vC
def JZ:wG X (fx .Lt) (Cs λi j=>.bl (R (i<j))):=qk λ_ _ _ _ _ _ _ q=>lt_int q
def JI:wG X (fx .LtE) (Cs λi j=>.bl (R (i<=j))):=qk λ_ _ _ _ _ _ _ q=>le_int q
def Gd:wG X (fx .Gt) (Cs λi j=>.bl (R (j<i))):=qk λ_ _ _ _ _ _ _ q=>gt_int q
def Zs0:wG X (fx .GtE) (Cs λi j=>.bl (R (j<=i))):=qk λ_ _ _ _ _ _ _ q=>ge_int q
def NV:wG X (fx .In) (λx y H Q=>∃i j,x=.str i/\y=.str j/\Q (.bl (!(g0 j i 0 ⇑j 1).isEmpty)) H):=by intro c s σ H x y v u Q I b a h;let#[i,j,Z,Z,q]:=h;let#[t,Z]:=b;let#[d,Z]:=a;calc in_str (wR I q Z)
def ZgX:wG X (fx .NotIn) (λx y H Q=>∃i j,x=.str i/\y=.str j/\Q (.bl (!(!(g0 j i 0 ⇑j 1).isEmpty))) H):=by intro c s σ H x y v u Q I b a h;let#[i,j,Z,Z,q]:=h;let#[t,Z]:=b;let#[d,Z]:=a;calc notIn_str (wR I q Z)
def wy (b:Expr){a:CmpOp}(h:autoParam (a≠.In) Xw._auto_1)(c:autoParam (a≠.NotIn) Xw._auto_1):behindInMarks a b=J:=by
 let d:(a == CmpOp.In)=J:=by cases a<;>first | rfl | exact Sa Z h
 let e:(a == CmpOp.NotIn)=J:=by cases a<;>first | rfl | exact Sa Z c
 cases b<;>simp[behindInMarks,d,e]
def yG (i:wG X (fx op) r)(d:PE X a ta)(e:PE X b tb)(k:behindInMarks op b=J):PE X (.Compare a [op] [b] pos) (Fj r ta tb):=by intro j s σ H Q I h;calc wpAny_Compare1 (tT d e I h λv u c x y f l m g q=>i j c σ f x y v u Q l m g q) k
def QF (t:TE):TT:=λσ H Q=>t σ H λx a=>EB x λk=>Q k a
def wQ (F:wG X (fx op) r)(D:PE X a ta)(q:PE X b tb)(A:behindInMarks op b=J):PT X (.Compare a [op] [b] pos) (QF (Fj r ta tb)):=by
 intro d s σ H Q I h;refine wpAny_isTrue_Compare1 (uW (D d s σ H _ I h) λv p ⟨x,t,g,B,j⟩=>uW (q d p σ t _ g j) λu C ⟨y,i,n,o,l⟩=>
  uW (F d C σ i x y v u _ n B o l) λc G ⟨z,m,E,w,f⟩=>?_) A
 let#[k,e,f]:=FC f;subst e;cases w;calc Da #[m,E,f]
def GT:(sizeLine:Nat)<2 ^ 63:=by rw[bA];decide
def Zjw:wG X (binaryOp .Add) (λx y H Q=>∃i j,x=.str i/\y=.str j/\⇑i+⇑j<=sizeLine/\Q (.str (i++j)) H):=by intro f s σ H x y v u Q I d a h;let#[i,j,Z,Z,c,q]:=h;let#[t,Z]:=d;let#[b,Z]:=a;calc xF (add_str (λb e h=>#[.str (i++j),H,I.tok _ h,#[_,Z],q]) c)
def py (r:kJ [x] us):∃u,us=[u]/\kP x u:=by
 cases r with
 | cons b a=>cases a;calc#[_,Z,b]
def qy (r:kJ [x,y] us):∃u w',us=[u,w']/\kP x u/\kP y w':=by
 cases r with
 | cons b d=>
  cases d with
  | cons c a=>cases a;calc#[_,_,Z,b,c]
def ZlH (c:X.calm=Y):xU X (.builtin "max") (λxs H Q=>∃i j,xs=[.int i,.int j]/\Q (.int (if j>i then j else i)) H):=by
 intro l s σ H xs e Q I r h;let#[i,j,Z,q]:=h;let#[u,f,Z,#[t,Z],#[m,Z]]:=qy r;calc xF (max_two_ints (I.ok.hd c) λd g k b=>#[_,H,I.kept k b,?_,q]);by_cases a:j>i
 .rw[uM a,uM a];exact#[_,Z]
 .rw[uI a,uI a];calc#[_,Z]
def ZlG (c:X.calm=Y):xU X (.builtin "min") (λxs H Q=>∃i j,xs=[.int i,.int j]/\Q (.int (if j<i then j else i)) H):=by
 intro l s σ H xs e Q I r h;let#[i,j,Z,q]:=h;let#[u,f,Z,#[t,Z],#[m,Z]]:=qy r;calc xF (min_two_ints (I.ok.hd c) λd g k b=>#[_,H,I.kept k b,?_,q]);by_cases a:j<i
 .rw[uM a,uM a];exact#[_,Z]
 .rw[uI a,uI a];calc#[_,Z]
def PK:xU X (.type "str") (λxs H Q=>∃i,xs=[.int i]/\i.natAbs.log2<1920/\Q (.str (toString i)) H):=by intro b s σ H xs c Q I r h;let#[i,Z,a,q]:=h;let#[u,Z,t,Z]:=py r;calc PySem.P.str_of_int a #[.str _,H,I.tok _,#[_,Z],q]
def qg (K:uH)(x:V)(H:Hp)(n:Nat):Prop:=
 match x with
 | .str y=>⇑y<=sizeLine/\n=⇑y
 | .byt y=>y.size<=sizeLine/\n=y.size
 | .ref p=>(∃xs,vO K H p xs/\n=⇑xs)\/∃xs,wP K H p xs/\n=⇑xs
 | _=>False
def ZmQ:xU X (.builtin "len") (λxs H Q=>∃x n,xs=[x]/\qg X.K x H n/\Q (.int n) H):=by
 intro o s σ H xs l Q I r h;let#[x,n,Z,e,q]:=h;let#[u,Z,f]:=py r;let k:=GT;let m:sizeLine=16777216:=bA;cases x with
 | str y=>
  let#[t,Z]:=f;obtain⟨j,a⟩:⇑y<=sizeLine/\n=⇑y:=e;subst a;exact len_str ∅ #[.int _,H,I.tok _,#[_,Z],q]
 | byt y=>
  let#[t,Z]:=f;obtain⟨j,a⟩:y.size<=sizeLine/\n=y.size:=e;subst a;exact PySem.W.len_bytes ∅ #[.int _,H,I.tok _,#[_,Z],q]
 | ref p=>
  cases f;let a:(∃xs,vO X.K H p xs/\n=⇑xs)\/∃xs,wP X.K H p xs/\n=⇑xs:=e;rcases a with⟨xs,b,a⟩|⟨xs,b,a⟩
  .subst a;let#[c,d,pl,i]:=I.list b;let g:=⇑d;exact Calls.call_len_list pl.isList (by simp only[wC];nofun) #[.int ⇑xs,H,I.tok _,#[_,by simp only[wC];rw[g]],q]
  .subst a;let#[c,d,pl,i]:=I.tuple b;let g:=⇑d;exact len_tuple pl (by simp only[wC];nofun) #[.int ⇑xs,H,I.tok _,#[_,by simp only[wC];rw[g]],q]
 | _=>calc(show False from e).elim
end
structure o6 (h:Heap)(x dx C:AD)(mA:AB):Prop where
 obj:h.get? x=U (instObj C dx)
 ns:h.Ns1 dx mA
 ne:dx≠x
def KB {h:Heap}{f:AD}{c:AB}(n:h.Ns1 f c):∃od,h.get? f=U od/\∀name,lookIn name od=U (c name):=by
 let#[o,d,p,m,l,i,_,k]:=n;calc#[o,m,λname=>?_];let e:=k name;unfold nsFind findBy at e;rw[<-Array.find?_toList]at e;unfold lookIn;rw[l];dsimp only;split
 .rename_i y q
  rw[q]at e;exact R9 U e
 .rename_i q
  rw[q]at e;let a:d.toList.any (·.refKey)=J:=by rw[List.any_eq_false];intro y g;let#[z,t,b]:=i y (Array.mem_toList_iff.mp g);simp[DictEntry.refKey,b]
  let j:¬d.toList.any (·.refKey)=Y:=by rw[a];exact vC
  rw[uI j];calc R9 U e
def o6.look (I:o6 h x dx C mA):∃od,PySem.W.InstAt h x (instObj C dx) C (U od)/\∀name,lookIn name od=U (mA name):=
 let ⟨od,ho,hl⟩:=KB I.ns
 #[od,#[I.obj,Z,Z,ho],hl]
section
variable {prog:AG}{w:AI}{A:AH}{E:vY}{s:AE}{K:uH}{x dx C f:AD}{mA:AB}{name:Str}{v:bU}
def Zpb (X:K.In s.heap)(I:o6 s.heap x dx C mA)(g:plainGet K C name=Y)(c:hasDictIn K C=Y)
  (d:fw K (.ref C) name=U O) (e:mA name=U v) (a:handedIn v=Y) (h:Q v { s with toks:=s.toks+1 }):
  bR (bJ prog w) A (getAttr (.ref x) name expr) Q E s:=by
 let#[i,f,b]:=I.look;calc PySem.W.get_value X f (plainGet_of g).1 (findObj_own c d Z (by rw[b,e])) a h
def ZmA (X:K.In s.heap)(I:o6 s.heap x dx C mA)(a:plainGet K C name=Y)
  (c:fw K (.ref C) name=U (U (.ref f))) (e:isFn K (.ref f)=Y) (d:mA name=O) (h:Q (.ref f,[.ref x]) s):
  bR (bJ prog w) A (getMethod (.ref x) name pl) Q E s:=by
 let#[i,g,b]:=I.look;calc PySem.W.method_fn X g (plainGet_of a).1 (plainGet_of a).2 c (beq_iff_eq.mp e) (by show (lookIn name i).map (·.isSome)=U J;rw[b,d];rfl) h
def Zn8 (X:K.In s.heap)(I:o6 s.heap x dx C mA)
  (q:fw K (.ref C) "__setattr__"=U (U (.builtin "object.__setattr__"))) (k:plainOver K C=Y) (t:takerIn K C name=U O) (p:hasDictIn K C=Y)
  (n:PySem.Within mA ns) (hsz:⇑ns<=sizeLine)
  (h:∀h',o6 h' x dx C (λy=>if y=name then U v else mA y)->Heap.SameBut dx s.heap h'->Q () { s with heap:=h',toks:=s.toks+2 }):
  bR (bJ prog w) A (setAttr (.ref x) name v) Q E s:=by
 let#[B,j,D]:=I.look;calc set_plain X j q (PySem.W.osa_open (s:={ s with toks:=s.toks+1 }) (r:=O) X j k t λb=>?_);let#[z,m,g]:=EA p;let l:s.heap.get? x=U #[.ref C,U dx,.plain,↑[]]:=I.obj;calc uC (uS (uC (uC (wpAny_loadPart l (uC (PySem.W.Looks.here (s:={ s with toks:=s.toks+1 }) (looks_clsIn X m) ?_))))));rw[g];calc uS (a:=U dx) (uC (uS (uC ?_)));calc wpAny_nsSet1 (s:={ s with toks:=s.toks+1 }) I.ns λh' d c=>?_;let#[F,o,u,i,e,f]:=d.count (PySem.Within.cons name v n);calc uC (wpAny_lookBehind i (by rw[e];calc pastItsLine_dict (u8 f (by rw[vQ];nofun))) ?_);calc uS (h _ #[(c.2 _ (uZ I.ne)).trans I.obj,d,I.ne] c)
def M4 (X:K.In s.heap)(e:makesIn K C=Y)
  (c:fw K (.ref C) "__init__"=U (U (.ref f))) (b:typeIn K (.ref f)=U (.type "function"))
  (h:codeAny (bJ prog w) (A.under (.builtin "type.__call__" #[.ref C::vs,kw])) (.call (.ref f) #[.ref (↥s+1)::vs,kw]) (PySem.W.InitBack (↥s+1) R_)
   { s with heap:=(s.heap.push fy).push (instObj C ↥s) }):
  codeAny (bJ prog w) A (.call (.ref C) #[vs,kw]) R_ s:=by
 let#[i,g,d,t,j]:=s;calc PySem.W.make_core (PySem.W.makes_of X e) (Ds X c) (λa=>bind_fn X a b) (.inl Z) h
end
noncomputable def kW (f:Str)(v:V):List (Str×V)->List (Str×V)
 | []=>[(f,v)]
 | (g,x)::r=>if g=f then (g,v)::r else (g,x)::kW f v r
theorem wN (f g:Str)(v:V):∀fs:List (Str×V),(kW f v fs).lookup g=if g=f then U v else fs.lookup g
 | []=>by
  show List.lookup g [(f,v)]=_;by_cases h:g=f
  .let hb:(g == f)=Y:=beq_iff_eq.mpr h;simp only[List.lookup,hb,uM h]
  .let hb:(g == f)=J:=beq_eq_false_iff_ne.mpr h;simp only[List.lookup,hb,uI h]
 | (k,x)::r=>by
  let b:=wN f g v r;rw[show kW f v ((k,x)::r)=(if k=f then (k,v)::r else (k,x)::kW f v r) from Z];by_cases a:k=f
  .rw[uM a];by_cases h:g=k
   .let hb:(g == k)=Y:=beq_iff_eq.mpr h;simp only[List.lookup,hb,uM (h.trans a)]
   .let hb:(g == k)=J:=beq_eq_false_iff_ne.mpr h;simp only[List.lookup,hb,uI (λe:g=f=>h (e.trans a.symm))]
  .rw[uI a];by_cases h:g=k
   .let hb:(g == k)=Y:=beq_iff_eq.mpr h;simp only[List.lookup,hb,uI (λe:g=f=>a (h.symm.trans e))]
   .let hb:(g == k)=J:=beq_eq_false_iff_ne.mpr h;simp only[List.lookup,hb];calc b
theorem Hq (f:Str)(v:V):∀fs:List (Str×V),f∈(kW f v fs).map (·.1)/\∀g,g∈fs.map (·.1)->g∈(kW f v fs).map (·.1)
 | []=>#[by simp[kW],λg h=>by simp at h]
 | (k,x)::r=>by
  let#[i1,i2]:=Hq f v r;rw[show kW f v ((k,x)::r)=(if k=f then (k,v)::r else (k,x)::kW f v r) from Z];by_cases a:k=f
  .rw[uM a];subst a;exact#[{},λg h=>by simpa using h]
  .rw[uI a];refine#[?_,λg h=>?_]
   .rw[vP];exact wU _ i1
   .rw[vP]at h ⊢;rcases vg.mp h with e | e
    .exact vg.mpr (.inl e)
    .exact wU _ (i2 g e)
theorem KP (f:Str)(v:V):∀fs:List (Str×V),⇑(kW f v fs)<=⇑fs+1
 | []=>by simp[kW]
 | (k,x)::r=>by
  let ih:=KP f v r;rw[show kW f v ((k,x)::r)=(if k=f then (k,v)::r else (k,x)::kW f v r) from Z];by_cases a:k=f
  .rw[uM a,vQ,vQ];nofun
  .rw[uI a,vQ,vQ];nofun
def l0.some_of (r:l0 (U v) o):∃u,o=U u/\kP v u:=by
 cases o with
 | none=>exact(show False from r).elim
 | some u=>calc#[u,Z,r]
def l0.none_of (r:l0 O o):o=O:=by
 cases o with
 | none=>rfl
 | some u=>calc(show False from r).elim
def Ps (r:kP v u):handedIn u=Y:=by
 cases v with
 | tok x t=>cases (show u=ek x t from r);rfl
 | non=>cases (show u=ec from r);rfl
 | bl b=>cases (show u=Value.bool b from r);rfl
 | int i=>let#[t,e]:=(show ∃t,u=eG i t from r);cases e;rfl
 | str x=>let#[t,e]:=(show ∃t,u=ek x t from r);cases e;rfl
 | byt b=>let#[t,e]:=(show ∃t,u=Value.bytes b t from r);cases e;rfl
 | flt b=>let#[t,e]:=(show ∃t,u=Value.float b t from r);cases e;rfl
 | ref a=>cases (show u=dy a from r);rfl
 | ty n=>cases (show u=eF n from r);rfl
section
def Ij (c:wD P w H h)(e:H a=U (.ins C dx fs)):∃b,o6 h a dx C b/\(∀f,l0 (fs.lookup f) (b f))/\PySem.Within b (fs.map (·.1))/\⇑fs<=1000/\H dx=U (.own a):=by let#[d,z,i,g,b,n,r,q]:=(show kX P w H h a (.ins C dx fs) from c a _ e);calc#[b,#[g,n,i],r,q,z,d]
end
structure yH (K:uH)(C:AD):Prop where
 pg:plainGet K C Str.empty=Y
 hd:hasDictIn K C=Y
 po:plainOver K C=Y
 sa:fw K (.ref C) "__setattr__"=U (U (.builtin "object.__setattr__"))
def yH.get {K:uH}{C:AD}(c:yH K C)(f:Str):plainGet K C f=Y:=c.pg
def kE (K:uH)(C:AD)(f:Str):Prop:=fw K (.ref C) f=U O
def kE.taker {K:uH}{C:AD}{f:Str}(n:kE K C f):takerIn K C f=U O:=by unfold takerIn;rw[show fw K (.ref C) f=U O from n];rfl
structure lU (K:uH)(C:AD)(m:Str)(f:AD):Prop where
 at_:fw K (.ref C) m=U (U (.ref f))
 fn:isFn K (.ref f)=Y
 kp:keepIn K (.ref f)=Y
section
def ZjI (I:uB X BO σ H s)(e:H a=U (.ins C dx fs))(c:yH X.K C)(n:kE X.K C f)(l:fs.lookup f=U v)
  (h:∀u s',uB X BO σ H s'->kP v u->Q u s'):bR (bJ X.prog X.w) A (getAttr (.ref a) f b) Q E s:=by
 let#[i,j,r,_,_,_]:=Ij I.hok e;let#[u,g,d]:=l0.some_of (v:=v) (o:=i f) (by rw[<-l];calc r f);calc Zpb I.kIn j (c.get f) c.hd n g (Ps d) (h u _ (I.tok _) d)
def Lj (I:uB X BO σ H s)(e:H a=U (.ins C dx fs))(c:yH X.K C)(k:lU X.K C m g)(l:fs.lookup m=O)
  (h:Q (.ref g,[.ref a]) s):bR (bJ X.prog X.w) A (getMethod (.ref a) m pl) Q E s:=by
 let#[f,b,r,_,_,_]:=Ij I.hok e;let d:f m=O:=l0.none_of (by rw[<-l];calc r m);calc ZmA I.kIn b (c.get m) k.at_ k.fn d h
def Zjo (I:uB X BO σ H s)(e:H a=U (.ins C dx fs))(c:yH X.K C)(n:kE X.K C f)(F:⇑fs<1000)(v:kP y u)
  (h:∀s',uB X BO σ (upd H a (.ins C dx (kW f y fs))) s'->Q () s'):bR (bJ X.prog X.w) A (setAttr (.ref a) f u) Q E s:=by
 let#[j,d,r,l,_,k]:=Ij I.hok e;let B:⇑(fs.map (·.1))<=sizeLine:=by rw[uO,bA];nofun
 calc Zn8 I.kIn d c.sa c.po n.taker c.hd l B λm i t=>h _ ?_;let D:∃o,m.get? dx=U o:=let ⟨o,_,_,e',_⟩:=i.ns;#[o,e'];calc I.write (x:=a) (e:=dx) (by rw[e];calc True.intro) (.inr k) (λb q p z=>(t.2 b p).trans z) D ?_;refine#[by rw[uF d.ne];calc k,?_,d.ne,i.obj,_,i.ns,λg=>?_,λg w=>?_]
 .have:=KP f y fs;nofun
 .show l0 ((kW f y fs).lookup g) (if g=f then U u else j g);rw[wN];by_cases q:g=f
  .rw[uM q,uM q];exact v
  .rw[uI q,uI q];exact r g
 .by_cases q:g=f
  .rw[q];exact(Hq f y fs).1
  .refine(Hq f y fs).2 g (l g λz=>w ?_);show (if g=f then U u else j g)=O;rw[uI q];calc z
def uB.made (I:uB X BO σ H s):uB X BO σ (upd (upd H ↥s (.own (↥s+1))) (↥s+1) (.ins C ↥s []))
  { s with heap:=(s.heap.push fy).push (instObj C ↥s) }:=by
 let c:(s.heap.push fy).get? ↥s=U emptyDict:=wB s.heap Z;let j:((s.heap.push fy).push (instObj C ↥s)).get? (↥s+1)=U (instObj C ↥s):=by
  have:=wB (s.heap.push fy) (o:=instObj C ↥s) Z
  rwa [zO]at this
 let h:(s.heap.push fy).Ns ↥s (λ_=>O):=#[fy,↑[],_,c,Z,(λe g=>Sa g {}),λ_=>rfl];let f:=I.laid (a:=↥s) (o:=.own (↥s+1)) (h':=s.heap.push fy) (t':=s.toks) (λb u q=>vy _ q) (uV _) #[_,c];calc f.laid (a:=↥s+1) (o:=.ins C ↥s []) (t':=s.toks) (λb u q=>vy _ q) (zU (zO _ _)) ?_;let d:↥s≠↥s+1:=wk (Nat.lt_succ_self _);calc#[by rw[uF d,uN],wf _,d,j,λ_=>O,(Heap.Ns1.of_empty h).at λo q=>vy _ q,λ_=>True.intro,λy i=>Sa Z i]
def RW (a:attributeBase e f env (eval e env)=eval e env)
  (h:bR (bJ prog w) A (eval e env) (λo s_1=>bR (bJ prog w) A (getAttr o f Y) Q E s_1) E s):bR (bJ prog w) A (eval (.Attribute e f pos) env) Q E s:=
 Attribute_any_ h (by rw[arm_eval_Attribute,a])
end
inductive FldR (K:uH)(f:Str)(x:V)(H1:Hp)(Q:VK):Prop
 | mk (a C dx:AD) (fs:List (Str×V)) (v:V) (_:x=.ref a) (_:H1 a=U (.ins C dx fs)) (_:yH K C) (_:kE K C f) (_:fs.lookup f=U v) (_:Q v H1):FldR K f x H1 Q
def qD (K:uH)(a:TE)(f:Str):TE:=λσ H Q=>a σ H λx b=>FldR K f x b Q
inductive qu (K:uH)(f:Str)(x y:V)(H2:Hp)(q:Hp->Prop):Prop
 | mk (a C dx:AD) (fs:List (Str×V)) (_:x=.ref a) (_:H2 a=U (.ins C dx fs)) (_:yH K C) (_:kE K C f) (_:⇑fs<1000) (_:q (upd H2 a (.ins C dx (kW f y fs)))):qu K f x y H2 q
def sFld (K:uH)(c a:TE)(f:Str):TS:=λD σ H=>a σ H λy d=>c σ d λx b=>qu K f x y b (D.nx σ)
def InOp (X:Cx)(c:Operator)(b:V->V->Hp->VK->Prop):Prop:=
 ∀(a:AA)(s:AE)(σ:St)(H:Hp)(x y:V)(u v:bU)(Q:VK),uB X a σ H s->kP x u->kP y v->b x y H Q->bR (bJ X.prog X.w) X.A (inplaceOp c u v) (EP X a σ Q) X.xe s
section
def Zqp (j:PE X e ta)(d:attributeBase e f X.env (eval e X.env)=eval e X.env):PE X (.Attribute e f pos) (qD X.K ta f):=by intro m s σ H Q I h;calc RW d (uW (j m s σ H _ I h) λu B o=>?_);let#[x,i,g,t,a,C,A,z,v,p,k,c,n,l,q]:=o;subst p;obtain rfl:u=dy a:=t;calc ZjI g k c n l λy w r b=>#[v,i,r,b,q]
def Be (v:PE X o ta)(e:PE X value tv)(w:swapsWith value (U (.Attribute o f pos')) pos.line X.env=pure J):PS X (.Assign [.Attribute o f pos'] value pos) (sFld X.K ta tv f):=by intro b s σ H D I h;calc plainObj_wpAny_Assign_Attribute (uW (e b s σ H _ I h) λu k ⟨y,m,d,z,q⟩=>uW (v b k σ m _ d q) λr L t=>?_) w;let#[x,E,i,B,a,C,K,G,j,p,c,n,l,g]:=t;subst j;obtain rfl:r=dy a:=B;calc Zjo i p c n l z λF A=>#[σ,_,A,g]
def rSub:V->V->Hp->VK->Prop:=λx y H Q=>∃i j,x=.int i/\y=.int j/\Q (.int (i-j)) H
def Zrg:InOp X .Sub rSub:=by rintro c s σ H x y u v Q I b a ⟨i,j,rfl,rfl,q⟩;let#[t,Z]:=(show ∃t,u=eG i t from b);let#[t',Z]:=(show ∃t',v=eG j t' from a);calc PyProof.Rows.isub_int #[.int (i-j),H,I.tok _,#[_,Z],q]
end
section
inductive mL (K:uH)(H:Hp):V->bU->Prop where
 | non:mL K H .non (.type "NoneType")
 | bl (x:Bool):mL K H (.bl x) (.type "bool")
 | int (i:Int):mL K H (.int i) (.type "int")
 | str (x:Str):mL K H (.str x) (.type "str")
 | flt (x:UInt64):mL K H (.flt x) (.type "float")
 | lst {a:AD} {xs:Se} (e:H a=U (.lst xs)):mL K H (.ref a) (.type "list")
 | frz {a:AD} {o:Obj} {xs:Se} (e:H a=U (.frz o (.lst xs))):mL K H (.ref a) (.type "list")
 | tup {a:AD} {xs:Se} (e:H a=U (.tup xs)):mL K H (.ref a) (.type "tuple")
 | dK {a:AD} {kvs:List (uQ×V)} (e:H a=U (.dK kvs)):mL K H (.ref a) (.type "dict")
 | dT {a:AD} {kvs:List (List uQ×V)} (e:H a=U (.dT kvs)):mL K H (.ref a) (.type "dict")
 | ins {a C dx:AD} {fs:List (Str×V)} (e:H a=U (.ins C dx fs)) (cl:yH K C) (ha:fw K (.ref C) "__class__"=U (U (.builtin "object.__class__")))
   (hn:specialIn K (.builtin "object.__class__") "__get__"=U (U (.builtin "getset_descriptor.__get__"))) (htk:takesIn K (.builtin "object.__class__")=U Y)
   (hm:mroIn K C (.type "object")=U Y):mL K H (.ref a) (.ref C)
def Zlk (I:uB X BO σ H s)(f:kP x u)(ty:mL X.K H x t)(e:kitOne X.K t c=U b)(h:∀tk,Q (.bool b) { s with toks:=tk }):
  bR (bJ X.prog X.w) A (call (.builtin "isinstance") [u,c]) Q E s:=by
 cases ty with
 | non=>cases (show u=ec from f);exact zj PySem.W.kitx_none I.kIn True.intro e (λz=>nomatch z) h
 | bl y=>cases (show u=Value.bool y from f);exact zj PySem.W.kitx_bool I.kIn True.intro e (λz=>nomatch z) h
 | int i=>let#[t,q]:=(show ∃t,u=eG i t from f);cases q;exact zj PySem.W.kitx_int I.kIn True.intro e (λz=>nomatch z) h
 | str y=>let#[t,q]:=(show ∃t,u=ek y t from f);cases q;exact zj PySem.W.kitx_str I.kIn True.intro e (λz=>nomatch z) h
 | flt y=>let#[t,q]:=(show ∃t,u=Value.float y t from f);cases q;exact zj PySem.W.kitx_float I.kIn True.intro e (λz=>nomatch z) h
 | @lst a k d=>
  cases (show u=dy a from f);let#[_,_,n,_,g]:=(show kX X.prog X.w H s.heap a (.lst k) from I.hok a _ d);exact zj kitx_list I.kIn #[_,g,Z] e (λz=>nomatch z) h
 | @frz a B k d=>
  cases (show u=dy a from f);let#[_,_,_,n,_,g]:=(show kX X.prog X.w H s.heap a (.frz B (.lst k)) from I.hok a _ d);exact zj kitx_list I.kIn #[_,g,Z] e (λz=>nomatch z) h
 | @tup a k d=>
  cases (show u=dy a from f);let#[_,_,_,p]:=(show kX X.prog X.w H s.heap a (.tup k) from I.hok a _ d);let#[o,g,l,_]:=p;exact zj kitx_tuple I.kIn #[o,g,l] e (λz=>nomatch z) h
 | @dK a j d=>
  cases (show u=dy a from f);let#[_,_,P,_,p]:=(show kX X.prog X.w H s.heap a (.dK j) from I.hok a _ d);let#[o,w,L,g,l,_]:=p;exact zj kitx_dict I.kIn #[o,g,l.1] e (λz=>nomatch z) h
 | @dT a j d=>
  cases (show u=dy a from f);let#[_,_,k,_,o,w,L,g,l,_]:=(show kX X.prog X.w H s.heap a (.dT j) from I.hok a _ d);exact zj kitx_dict I.kIn #[o,g,l.1] e (λz=>nomatch z) h
 | @ins a C T N d r K D m G=>
  cases (show u=dy a from f);let#[M,F,_]:=Ij I.hok d;let#[S,v,_]:=F.look;calc zj (PySem.W.kitx_own (r.get _) r.hd K D m G) I.kIn v e (λz=>nomatch z) h
end
structure lI (k:Nat)(A:AH):Prop where
 hd:A.handled=O
 dp:A.depth+3*k+5<recursionLimit
 un:A.units+16*k+200<cLine
def lI.mono (r:lI k A)(h:j<=k):lI j A:=#[r.hd,by have:=r.dp;nofun,by have:=r.un;nofun]
def lI.deeper (r:lI (k+1) A)(env:Env):lI k (A.deeper env):=
 #[r.hd,by have:=r.dp;show A.depth+1+3*k+5<_;nofun,by have:=r.un;show A.units+3+16*k+200<_;nofun]
def ZjB {A:AH}{C:AD}{us:AC}{a:List (Str×bU)}:(A.under (.builtin "type.__call__" #[.ref C::us,a])).depth=A.depth+1:=by
 first | rfl | simp[Around.under,Code.weight,Code.isCreation,Code.isGuard,Code.isCaller,Code.frames,Code.isFrame,guardIds]
def ZjA {A:AH}{C:AD}{us:AC}{a:List (Str×bU)}:(A.under (.builtin "type.__call__" #[.ref C::us,a])).units=A.units+1:=by
 first | rfl | simp[Around.under,Code.cUnits,Code.frames,Code.isFrame]
def lI.make (r:lI (k+1) A)(C:AD)(us:AC)(a:List (Str×bU)):lI k (A.under (.builtin "type.__call__" #[.ref C::us,a])):=
 #[r.hd,by have:=r.dp;rw[ZjB];nofun,by have:=r.un;rw[ZjA];nofun]
def lI.depth (r:lI k A):A.depth<recursionLimit:=by have:=r.dp;nofun
def lI.units (r:lI k A):A.units+64<cLine:=by have:=r.un;nofun
def pZ:TA:=λ_ H Q=>Q [] H
def Mf (c:TE)(a:TA):TA:=λσ H Q=>c σ H λx d=>a σ d λe b=>Q (x::e) b
section
def uA:PA X [] pZ:=λ_ _ _ _ H Q I h=>FK #[[],H,I,.nil,h]
def uy (c:PE X e te)(k:PA X es t)(i:‹bD (e::es) X.env=(J,eval e X.env)::bD es X.env›):PA X (e::es) (Mf te t):=by intro a b s σ H Q I h;rw[i];show bR _ _ (spliced ((J,eval e X.env)::iw a (bD es X.env))) _ _ s;calc C9 (uW (c b s σ H _ I h) λu r n=>?_);let#[x,j,f,o,l]:=n;calc uW (k a b r σ j _ f l) λw v ⟨p,g,q,d,m⟩=>#[x::p,g,q,.cons o d,m]
def tTup (t:TA):TE:=λσ H Q=>t σ H λa b=>⇑a<=sizeLine/\∀p,b p=O->Q (.ref p) (upd b p (.tup a))
def tY (t:TA):TE:=λσ H Q=>t σ H λa b=>⇑a<=sizeLine/\∀p,b p=O->Q (.ref p) (upd b p (.lst a))
def vZ {x1}(h:PA X es t):PE X (.Tuple es x1 pos) (tTup t):=by intro i s σ H Q I j;calc wpAny_Tuple_spliced (uW (h pos i s σ H _ I j) λg a ⟨k,d,c,r,z,q⟩=>#[by rw[<-⇑r];calc z,?_]);let f:d ↥a=O:=c.hok.fresh (uV _);calc#[.ref ↥a,upd d ↥a (.tup k),c.laid (t':=a.toks) (λb u e=>vy _ e) (uV _) ?_,Z,q _ f];calc#[z,g,r,#[_,wB _ Z,Z,_,Z]]
def wc (h:PA X es t):PE X (.List es pos) (tY t):=by intro i s σ H Q I j;calc wpAny_List_spliced (uW (h pos i s σ H _ I j) λg a ⟨k,d,c,r,z,q⟩=>#[by rw[<-⇑r];calc z,?_]);let f:d ↥a=O:=c.hok.fresh (uV _);calc#[.ref ↥a,upd d ↥a (.lst k),c.laid (t':=a.toks) (λb u e=>vy _ e) (uV _) ?_,Z,q _ f];calc#[z,g,0,r,wB _ Z]
end
abbrev Sp:=Se->Hp->VK->XK->Prop
abbrev zT:=List Env->Hp->AE->XK->bU->AE->Prop
structure oQ (P:AG)(w:AI)(K:uH)(mg:AB)(base:Heap)(A:AH)(outer:List Env)(s:AE)(H:Hp):Prop where
 frames:A.frames=U outer
 mod:Mod K mg base
 bs:∀b o,base.get? b=U o->s.heap.get? b=U o/\H b=O
 bsz:base.objs.size<=↥s
 funs:s.heap.FunFrames base outer
 frf:∀b∈wO outer,H b=O
 hok:wD P w H s.heap
 bare:AllBare s.gens
 gh:GH H s.toks
def CE (a:List Env)(P:AG)(w:AI)(H:Hp)(s:AE)(Q:VK)(u:bU)(s':AE):Prop:=
 ∃v b,s'.os=s.os/\AllBare s'.gens/\Un (wO a) [] H b s.heap s'.heap/\wD P w b s'.heap/\GH b s'.toks/\kP v u/\Q v b
def CR (CX:zT)(a:List Env)(P:AG)(w:AI)(H:Hp)(s:AE)(Q:VK)(E:XK)(r:Result)(s':AE):Prop:=
 match r with
 | .ok (.ret u)=>CE a P w H s Q u s'
 | .ok _=>False
 | .error e=>CX a H s E e s'
structure kz (P:AG)(w:AI)(K:uH)(mg:AB)(base:Heap)(CX:zT)(k:Nat)(f:AD)(fd:AF)(ps:AJ)(sp:Sp):Prop where
 len:∀vs H Q E,sp vs H Q E->⇑vs=⇑ps
 run:∀(A:AH)(outer:List Env)(s:AE)(H:Hp)(args:Args)(us:AC)(vs:Se)(Q:VK)(E:XK),lI k A->oQ P w K mg base A outer s H->BindsTo s fd args (ps.zip us)->kJ vs us->sp vs H Q E ->
  codeAny (bJ P w) A (.call (.ref f) args) (CR CX outer P w H s Q E) s
def oQ.make {P:AG}{w:AI}{K:uH}{c:AB}{b:Heap}{A:AH}{a:List Env}{s:AE}{H:Hp}(e:oQ P w K c b A a s H)(C:AD)(us:AC)(d:List (Str×bU)):
  oQ P w K c b (A.under (.builtin "type.__call__" #[.ref C::us,d])) a s H:=#[by first | calc e.frames | (simpa [Around.under,Code.envs,Code.isFrame,pushEnvs] using e.frames),e.mod,e.bs,e.bsz,e.funs,e.frf,e.hok,e.bare,e.gh]
section
def uB.env0 (I:uB X BO σ H s):oQ X.prog X.w X.K X.mg X.base X.A X.stack s H:=
 #[I.ok.frames,I.ok.mod,I.bs,u8 I.ok.bsz I.sz,I.stack,I.stkFree,I.hok,I.bare,I.gh]
def uB.after (I:uB X BO σ H s)(h:CE X.stack X.prog X.w H s Q u s'):EP X BO σ Q u s':=by let#[v,f,j,bare,un,c,i,r,q]:=h;let#[e,g,d,t,a]:=s';obtain rfl:a=s.os:=j;calc#[v,f,I.call (h':=e) (g':=g) (d':=d) (t':=t) (ch:=[]) un c bare (λb z=>Sa z {}) i,r,q]
end
def Hf (sp:Sp)(b:Se)(E:XK)(t:TA):TE:=λσ H Q=>t σ H λa c=>sp (a++b) c Q E
inductive qt (C:AD)(m:Str)(x:V)(H1:Hp)(q:Prop):Prop
 | mk (a dx:AD) (fs:List (Str×V)) (_:x=.ref a) (_:H1 a=U (.ins C dx fs)) (_:fs.lookup m=O) (_:q):qt C m x H1 q
def Lq (C:AD)(m:Str)(sp:Sp)(b:Se)(E:XK)(e:TE)(t:TA):TE:=λσ H Q=>e σ H λx a=>qt C m x a
 (t σ a λc d=>sp (x::(c++b)) d Q E)
def Oy (C:AD)(sp:Sp)(c:Se)(E:XK)(t:TA):TE:=λσ H Q=>t σ H λd b=>∀x a,b x=O->b a=O->a≠x ->
 sp (.ref x::(d++c)) (upd (upd b a (.own x)) x (.ins C a [])) (λv e=>v=.non/\Q (.ref x) e) E
def lD (K:uH)(b:AF)(a:AJ)(ds:AC):Prop:=
 ∀(s:AE)(us:AC),K.In s.heap->⇑(us++ds)=⇑a->BindsTo s b #[us,[]] (a.zip (us++ds))
def lD.all {K:uH}{c:AF}{a:AJ}(h:∀us:AC,⇑us=⇑a->bindArgs c #[us,[]]=pure (a.zip us)):lD K c a []:=λs us _ b=>by rw[zd]at b ⊢;calc .of_eq (h us b)
def zH (CX:zT)(X:Cx)(E:XK):Prop:=∀(a:AA)(σ:St)(H:Hp)(s:AE)(e:bU)(s':AE),uB X a σ H s->CX X.stack H s E e s'->X.xe e s'
section
def GP (F:kz X.prog X.w X.K X.mg X.base CX k f fd ps sp)(j:lI k X.A)(d:lD X.K fd ps ds)(m:kJ BX ds)(i:zH CX X E)
  (I:uB X BO σ H s) (r:kJ vs us) (h:sp (vs++BX) H Q E):bR (bJ X.prog X.w) X.A (call (.ref f) us) (EP X BO σ Q) X.xe s:=by
 let b:kJ (vs++BX) (us++ds):=r.append m;let c:⇑(us++ds)=⇑ps:=by rw[<-⇑b];exact F.len _ _ _ _ h
 calc zN (codeAny_mono (F.run X.A X.stack s H #[us,[]] (us++ds) (vs++BX) Q E j I.env0 (d s us I.kIn c) b h) λr l a=>?_);cases r with
 | error e=>exact i BO σ H s e l I a
 | ok g=>
  cases g with
  | ret u=>exact I.after a
  | next=>exact ff a
  | brk=>exact ff a
  | cont=>calc ff a
def ZoB (F:kz X.prog X.w X.K X.mg X.base CX k f fd ps sp)(l:lI k X.A)(o:Gl X x)(u:X.mg x=U (.ref f))(j:keepIn X.K (.ref f)=Y)(g:lD X.K fd ps ds)(v:kJ BX ds)(i:zH CX X E)
  (d:PA X (e::es) t) (b:autoParam ((x == ("__debug__":Str))=J) Xw._auto_1) (m:‹bD (e::es) X.env=(J,eval e X.env)::bD es X.env›) (a:‹(iw pos (bD es X.env)).any (·.1)=J›):
  PE X (.Call (.Name x p) (e::es) [] pos) (Hf sp BX E t):=by
 intro n s σ H Q I h;calc B9 (B5 I o u ?_ b);calc CH (h₀:=X.base) I.ok.mod.kin j (uW (d pos n s σ H _ I h) λw A ⟨y,z,c,r,q⟩=>#[c.kIn,?_]) m a;calc GP F l g v i c r q
def wK (he:PE X o ta)(c:yH X.K C)(hm:lU X.K C m f)(F:kz X.prog X.w X.K X.mg X.base CX k f fd ps sp)(hr:lI k X.A)(hb:lD X.K fd ps ds)(hd:kJ BX ds)(hx:zH CX X E)(ha:PA X (e::es) t)
  (hst:‹bD (e::es) X.env=(J,eval e X.env)::bD es X.env›) (hpl:‹(iw pos (bD es X.env)).any (·.1)=J›)
  (ht:autoParam (eval (.Call (.Attribute o m BT) (e::es) [] pos) X.env=(do
   let ov <-eval o X.env
   standAt BT.atName
   let (f,first) <-holding [ov] (getMethod ov m pl)
   callWith pos f first (iw pos (bD (e::es) X.env)) (backToKw pos (keywordEach [] X.env)))) Xq._auto_1):
  PE X (.Call (.Attribute o m BT) (e::es) [] pos) (Lq C m sp BX E ta t):=by
 intro BO s σ H Q I h;calc FZ (pl:=pl) (uW (he BO s σ H _ I h) λu s1 zz=>?_) ht;let#[x,H1,I1,rx,a,dx,fs,ex,ea,l,q]:=zz;subst ex;obtain rfl:u=dy a:=rx;calc Lj I1 ea c hm l ?_;calc CH (first:=[.ref a]) (h₀:=X.base) I.ok.mod.kin hm.kp (uW (ha pos BO s1 σ H1 _ I1 q) λus s2 ⟨vs,H2,I2,r,q2⟩=>#[I2.kIn,?_]) hst hpl;calc GP (us:=.ref a::us) (vs:=.ref a::vs) F hr hb hd hx I2 (.cons Z r) q2
def xV (he:PE X o ta)(c:yH X.K C)(hm:lU X.K C m f)(F:kz X.prog X.w X.K X.mg X.base CX k f fd ps sp)(hr:lI k X.A)(hb:lD X.K fd ps ds)(hd:kJ BX ds)(hx:zH CX X E)
  (ht:autoParam (eval (.Call (.Attribute o m BT) [] [] pos) X.env=(do
   let ov <-eval o X.env
   standAt BT.atName
   let (f,first) <-holding [ov] (getMethod ov m pl)
   callWith pos f first (iw pos (bD [] X.env)) (backToKw pos (keywordEach [] X.env)))) Xq._auto_1):
  PE X (.Call (.Attribute o m BT) [] [] pos) (Lq C m sp BX E ta pZ):=by
 intro BO s σ H Q I h;calc FZ (pl:=pl) (uW (he BO s σ H _ I h) λu s1 zz=>?_) ht;let#[x,H1,I1,rx,a,dx,fs,ex,ea,l,q]:=zz;subst ex;obtain rfl:u=dy a:=rx;calc Lj I1 ea c hm l ?_;calc PySem.W.callWith_K0 (first:=[.ref a]) I1.kIn hm.kp (GP (us:=[.ref a]) (vs:=[.ref a]) F hr hb hd hx I1 (.cons Z .nil) q)
structure Mk (K:uH)(C f:AD):Prop where
 makes:makesIn K C=Y
 init:fw K (.ref C) "__init__"=U (U (.ref f))
 fn:isFn K (.ref f)=Y
 kp:keepIn K (.ref C)=Y
def Zl8 (M:Mk X.K C f)(F:kz X.prog X.w X.K X.mg X.base CX k f fd ps sp)(p:lI (k+1) X.A)(m:lD X.K fd ps ds)(y:kJ BX ds)
  (o:zH CX X E) (I:uB X BO σ H s) (r:kJ vs us)
  (h:∀x c,H x=O->H c=O->c≠x->sp (.ref x::(vs++BX)) (upd (upd H c (.own x)) x (.ins C c [])) (λv H2=>v=.non/\Q (.ref x) H2) E):
  bR (bJ X.prog X.w) X.A (call (.ref C) us) (EP X BO σ Q) X.xe s:=by
 let g:=h (↥s+1) ↥s (I.hok.fresh (xu _)) (I.hok.fresh (uV _)) (wk (Nat.lt_succ_self _));let b:=uB.made (C:=C) I;let d:kJ (V.ref (↥s+1)::(vs++BX)) (dy (↥s+1)::(us++ds)):=.cons Z (r.append y);let i:⇑(dy (↥s+1)::us++ds)=⇑ps:=by let e:=⇑d;rw[F.len _ _ _ _ g]at e;exact e.symm
 refine zN (M4 (f:=f) I.kIn M.makes M.init (beq_iff_eq.mp M.fn) (codeAny_mono (F.run _ X.stack _ _ #[dy (↥s+1)::us,[]] (dy (↥s+1)::(us++ds)) _ _ E (p.make C us [])
  (b.env0.make C us []) (m _ (dy (↥s+1)::us) b.kIn i) d g) λr w a=>?_))
 cases r with
 | error e=>exact o BO σ _ _ e w b a
 | ok n=>
  cases n with
  | ret u=>
   let#[v,l,t,j,q,z]:=b.after a;subst q;exact#[j,#[V.ref (↥s+1),l,t,Z,z]]
  | next=>exact ff a
  | brk=>exact ff a
  | cont=>calc ff a
def C6 (M:Mk X.K C f)(F:kz X.prog X.w X.K X.mg X.base CX k f fd ps sp)(j:lI (k+1) X.A)(n:Gl X x)(o:X.mg x=U (.ref C))(g:lD X.K fd ps ds)(u:kJ BX ds)(i:zH CX X E)
  (d:PA X (e::es) t) (b:autoParam ((x == ("__debug__":Str))=J) Xw._auto_1) (l:‹bD (e::es) X.env=(J,eval e X.env)::bD es X.env›) (a:‹(iw pos (bD es X.env)).any (·.1)=J›):
  PE X (.Call (.Name x p) (e::es) [] pos) (Oy C sp BX E t):=by
 intro m s σ H Q I h;calc B9 (B5 I n o ?_ b);calc CH (h₀:=X.base) I.ok.mod.kin M.kp (uW (d pos m s σ H _ I h) λv z ⟨w,y,c,r,q⟩=>#[c.kIn,?_]) l a;calc Zl8 M F j g u i c r q
end
section
end
structure ku (N P:AJ)(sc:Scope):Prop where
 kind:sc.kind=.function
 co:sc.isCoroutine=J
 gen:sc.isGenerator=J
 nd:N.Nodup
 pre:N.take ⇑P=P
 par:∀x∈P,sc.names.lookup x=U .local\/sc.names.lookup x=U .cell
 nofree:∀y∈sc.names,y.2≠.free
theorem M8 {b:Str->Option NameKind}{x:Str}:∀ {a:List (Str×bU)} {m:AB},(∀v,(x,v)∉a)->bindL b a m x=m x
 | [],_,_=>rfl
 | (n,v)::r,m,h=>by
  unfold bindL;rw[M8 λw hw=>h w (wU _ hw)];split
  .have:x≠n:=by rintro rfl;exact h v xy
   simp[this]
  .rfl
theorem N1 {b:Str->Option NameKind}{x:Str}:∀ {a:List (Str×bU)} {m:AB},(∀v,(x,v)∉a)->bindC b a m x=m x
 | [],_,_=>rfl
 | (n,v)::r,m,h=>by
  unfold bindC;rw[N1 λw hw=>h w (wU _ hw)];split
  .rfl
  .have:x≠n:=by rintro rfl;exact h v xy
   simp[this]
theorem NB {a:Str->Option NameKind}{x:Str}{v:bU}:∀ {P:AJ} {vs:AC} {i:Nat} {m:AB},P.Nodup->P[i]?=U x->vs[i]?=U v->a x=U .local ->
  bindL a (P.zip vs) m x=U v
 | [],_,_,_,_,h,_,_=>by simp at h
 | _::_,[],_,_,_,_,h,_=>by simp at h
 | p::P,w::vs,0,m,nd,h1,h2,hk=>by
  simp at h1 h2;subst h1;subst h2;show bindL a ((p,w)::P.zip vs) m p=_;unfold bindL;rw[M8 λv hv=>(y4.mp nd).1 (List.of_mem_zip hv).1,uM hk];simp
 | p::P,w::vs,i+1,m,nd,h1,h2,hk=>by show bindL a ((p,w)::P.zip vs) m x=_;unfold bindL;calc NB (i:=i) (y4.mp nd).2 (~~~h1) (~~~h2) hk
theorem Q9 {a:Str->Option NameKind}{x:Str}{v:bU}:∀ {P:AJ} {vs:AC} {i:Nat} {m:AB},P.Nodup->P[i]?=U x->vs[i]?=U v->a x≠U .local ->
  bindC a (P.zip vs) m x=U v
 | [],_,_,_,_,h,_,_=>by simp at h
 | _::_,[],_,_,_,_,h,_=>by simp at h
 | p::P,w::vs,0,m,nd,h1,h2,hk=>by
  simp at h1 h2;subst h1;subst h2;show bindC a ((p,w)::P.zip vs) m p=_;unfold bindC;rw[N1 λv hv=>(y4.mp nd).1 (List.of_mem_zip hv).1,uI hk];simp
 | p::P,w::vs,i+1,m,nd,h1,h2,hk=>by show bindC a ((p,w)::P.zip vs) m x=_;unfold bindC;calc Q9 (i:=i) (y4.mp nd).2 (~~~h1) (~~~h2) hk
noncomputable def start (N:AJ)(vs:Se):St:=vs.map U++cw (⇑N-⇑vs) O
noncomputable def mv (CX:zT)(P:AG)(w:AI)(K:uH)(mg:AB)(base:Heap)(N:AJ)(b:Str)(a:Scope)(f:AD)(d:bU)(A:AH)(outer:List Env)(s:AE)(H:Hp)(E:XK):Cx where
 prog:=P
 w:=w
 K:=K
 mg:=mg
 base:=base
 A:=A.deeper (envOfC b a ↥s f d)
 N:=N
 s_0:=s
 H_0:=H
 env:=envOfC b a ↥s f d
 outer:=outer
 stack:=envOfC b a ↥s f d::outer
 ex:=[]
 calm:=Y
 fn:=λ_=>Y
 pn:=[]
 xe:=λe h=>bR (bJ P w) (A.deeper (envOfC b a ↥s f d)) (leaving (envOfC b a ↥s f d) e) (λ_ c=>CX outer H s E e c) (λg c=>CX outer H s E g c) h
def P1 {a:Scope}{n:Nat}{x:Str}(h:a.names.lookup x=U .cell):∃c,(cellsFrom n a.names []).lookup x=U c:=by let q:=cellsFrom_some a.names n [] (.inl h);calc Option.isSome_iff_exists.mp q
def QP {CX:zT}{P:AG}{w:AI}{K:uH}{Q:AB}{m:Heap}{N B:AJ}{j:Str}{d:Scope}{f:AD}{G:bU}{A:AH}{g:List Env}{s s1:AE}{H:Hp}{E:XK}{us:AC}{vs:Se}
  (S:ku N B d) (W:A.handled=O) (o:oQ P w K Q m A g s H) (hl:⇑vs=⇑B) (r:kJ vs us)
  (x:InCallC s ↥s (bindL (envOfC j d ↥s f G).kindOf (B.zip us) λ_=>O) (cellsFrom (↥s+1) d.names []) (bindC (envOfC j d ↥s f G).kindOf (B.zip us) λ_=>O) s1) (M:s.toks<=s1.toks):
  uB (mv CX P w K Q m N j d f G A g s H E) [] (start N vs) H s1:=by
 let aa:⇑B<=⇑N:=by have:=R9 fu S.pre;rw[xw]at this;nofun
 let⟨L,tk,rfl,T⟩:=x.done;let t:∀b:AD,b∉(mv CX P w K Q m N j d f G A g s H E).ex:=λb z=>Sa (show b∈([]:List AD) from z) {};refine⟨⟨o.mod,S.kind,Z,Z,uV _,λy z c L l=>?_,λy C=>?_,λy c _ h=>?_,λ_=>W,Around.frames_deeper o.frames,.inr ⟨Z,Z⟩,λb z=>Sa z (t b),o.bs,o.bsz,λb _ _=>t b,λb z=>Sa z (t b),o.funs,o.frf⟩,
  rfl,o.bare,Un.kept T,⟨_,x.toInCall.ns,λi y v L l h3=>?_⟩,λy c h=>⟨_,x.cell y c h⟩,o.hok.fresh (uV _),λy c h=>?_,λp D=>Sa (show p∈([]:AA) from D) {},o.hok.kept T,?_,o.gh.le M⟩
 .exact name_of_addr x.apart (Du L) (Du l)
 .let C:d.names.lookup y=U .cell\/d.names.lookup y=U .free:=C;rcases C with C | C
  .exact P1 C
  .exact Sa Z (S.nofree _ (Du C))
 .exact DN (x.above y c (Du h))
 .let I:i<⇑vs:=by
   unfold start at l;by_cases I:i<⇑vs
   .exact I
   .rw[zu (~~~I)]at l;rw[List.getElem?_replicate]at l;split at l<;>cases l
  let X:vs[i]?=U v:=by
   unfold start at l;rw[zh (~~~I),wI]at l;cases e:vs[i]? with
   | none=>rw[e]at l;cases l
   | some a=>rw[e]at l;cases l;rfl
  let#[u,V,rv]:=r.get X;let D:B[i]?=U y:=by rw[<-S.pre,List.getElem?_take_of_lt ∅];exact L
  let F:B.Nodup:=by rw[<-S.pre];exact S.nd.sublist (List.take_sublist _ _)
  calc#[u,rv,?_];rcases S.par y (wL D) with k | k
  .exact .inl #[k,NB F D V k]
  .obtain⟨c,e⟩:=P1 (n:=↥s+1) k;calc .inr #[.inl k,c,e,?_];let q:=x.cell y c e;rw[Q9 F D V (by show d.names.lookup y≠_;rw[k];decide)]at q;exact q
 .exact o.hok.fresh (DN (x.above y c (Du h)))
 .unfold start;show _=⇑N;rw[vn,uO,Fe]
  nofun
def K1 {CX:zT}{P:AG}{w:AI}{K:uH}{T:AB}{g:Heap}{k:Nat}{f:AD}{name d:Str}{h:Arguments}{i:List Stmt}{a:Scope}{dV kV F pm z ct oc:bU}{an od:Option AD}
  {X:Array (Option bU)} {N W:AJ} {sp:Sp} (lk:K.lookup f=U #[oc,od,.func (fnOf name d h i a dV kV F pm an z ct),X]) (ac:codeIn K z d=Y) (S:ku N W a)
  (G:∀vs H Q E,sp vs H Q E->⇑vs=⇑W)
  (B:∀(A:AH)(c:List Env)(s:AE)(H:Hp)(vs:Se)(Q:VK)(E:XK),lI k (A.deeper (envOfC d a ↥s f z))->sp vs H Q E ->
   ∃t,xS (mv CX P w K T g N d a f z A c s H E) i t/\t { nx:=λ_ m=>Q .non m,rt:=Q } (start N vs) H):
  kz P w K T g CX (k+1) f (fnOf name d h i a dV kV F pm an z ct) W sp:=by
 calc#[G,λA c s H ad us vs Q E hr L hb r M=>?_];let hl:=G _ _ _ _ M;let KX:K.In s.heap:=L.mod.kin.keeps λb o e=>(L.bs b o e).1;let ab:s.heap.NoLimit:=L.mod.nolimit.keeps λb o e=>(L.bs b o e).1;let p:∀y∈W.zip us,a.names.lookup y.1=U .local\/(a.names.lookup y.1=U .cell/\((cellsFrom (↥s+1) a.names []).lookup y.1).isSome=Y):=λ⟨n,v⟩ hy=>by
  rcases S.par n (List.of_mem_zip hy).1 with q | q
  .exact .inl q
  .exact .inr #[q,cellsFrom_some _ _ _ (.inl q)]
 calc codeAny_call_function hr.depth (KX _ _ lk) Z S.co S.gen Z (codeRec_of KX ac) (hb _ _ _ _ ?_);calc xF (wpAny_newFunctionEnv_cells S.kind p λae he s1 x aa=>?_);subst he;calc#[ab.keeps x.toInCall.keep,codeAny_func ?_];let#[t,ht,hq]:=B A c s H vs Q E (hr.deeper _) M;let I:uB (mv CX P w K T g N d a f z A c s H E) [] (start N vs) H s1:=QP S hr.hd L hl r x aa;calc xq (ht [] s1 (start N vs) H _ I hq) (λfl s' C=>?_) λe s' C=>C;let D:∀ {l:St} {m:Hp} {v:V} {u:bU},uB (mv CX P w K T g N d a f z A c s H E) [] l m s'->kP v u->Q v m->CE c P w H s Q u s':=
  λ{l m v u} j rv q=>#[v,m,j.os,j.bare,j.base,j.hok,j.gh,rv,q]
 cases fl with
 | ret u=>
  let#[v,l,m,j,rv,q]:=C;exact D j rv q
 | next=>
  let#[l,m,j,q]:=C;exact D (v:=V.non) (u:=ec) j Z q
 | brk=>
  let#[_,_,_,q]:=C;exact ff q
 | cont=>
  let#[_,_,_,q]:=C;calc ff q
section
variable {X:Cx}{x:Str}{p pos:Pos}{e:Expr}{es:List Expr}{t:TA}{id T:String}{r:Se->Hp->VK->Prop}
def KK (r:Se->Hp->VK->Prop)(t:TA):TE:=λσ H Q=>t σ H λa b=>r a b Q
def vE (u:xU X (.builtin id) r)(o:Gl X x)(q:X.mg x=O)(m:cy x=U (.builtin id))(d:PA X (e::es) t)(j:autoParam (x≠"__name__") Xw._auto_1)(b:autoParam ((x == ("__debug__":Str))=J) Xw._auto_1)
  (n:‹bD (e::es) X.env=(J,eval e X.env)::bD es X.env›) (a:‹(iw pos (bD es X.env)).any (·.1)=J›):PE X (.Call (.Name x p) (e::es) [] pos) (KK r t):=by
 intro c s σ H Q I h;calc B9 (FN I o q m ?_ j b);calc JP (uW (d pos c s σ H _ I h) λf w ⟨i,k,g,v,l⟩=>u c w σ k i f Q g v l) n a
def yM (u:xU X (.type T) r)(o:Gl X x)(q:X.mg x=O)(m:cy x=U (.type T))(d:PA X (e::es) t)(j:autoParam (x≠"__name__") Xw._auto_1)(b:autoParam ((x == ("__debug__":Str))=J) Xw._auto_1)
  (n:‹bD (e::es) X.env=(J,eval e X.env)::bD es X.env›) (a:‹(iw pos (bD es X.env)).any (·.1)=J›):PE X (.Call (.Name x p) (e::es) [] pos) (KK r t):=by
 intro c s σ H Q I h;calc B9 (FN I o q m ?_ j b);calc Mb (uW (d pos c s σ H _ I h) λf w ⟨i,k,g,v,l⟩=>u c w σ k i f Q g v l) n a
end
end L2
namespace HT
open PySem PyProof.Rows
section
open PySem.SeqAt
open PySem.AutoSeq1 (wpAny_loadPart')
open PySem.MeetsSeq PySem.MeetsSeq2 PySem.MeetsSeq3
end
section
noncomputable def sIx (n d:Nat):Option Int->Nat
 | none=>d
 | some v=>if v<0 then (v+(n:Int)).toNat else min v.toNat n
def sIx_none (n d:Nat):sIx n d O=d:=rfl
def sIx_nat (n d k:Nat):sIx n d (U (k:Int))=min k n:=by show (if (k:Int)<0 then ((k:Int)+(n:Int)).toNat else min (k:Int).toNat n)=min k n;rw[uI ∅,Gy]
def sIx_le (n d:Nat)(b:d<=n)(o:Option Int):sIx n d o<=n:=by
 cases o with
 | none=>exact b
 | some v=>
  show (if v<0 then (v+(n:Int)).toNat else min v.toNat n)<=n;by_cases a:v<0
  .rw[uM a];nofun
  .rw[uI a];calc Nat.min_le_right _ _
def clip_eq (v:Int)(n d:Nat):(if v<0 then max (v+(n:Int)) 0 else min v (n:Int))=((sIx n d (U v):Nat):Int):=by
 show (if v<0 then max (v+(n:Int)) 0 else min v (n:Int))=(((if v<0 then (v+(n:Int)).toNat else min v.toNat n):Nat):Int);by_cases a:v<0
 .simp only[uM a];nofun
 .simp only[uI a];nofun
end
end HT
namespace L2
open PySem PySem.Spec PyProof.Rows
abbrev TO:=St->Hp->(Option Int->Hp->Prop)->Prop
def PO (X:Cx)(e:Option Expr)(t:TO):Prop:=
 ∀(a:AA)(s:AE)(σ:St)(H:Hp)(Q:Option Int->Hp->Prop),uB X a σ H s->t σ H Q ->
  bR (bJ X.prog X.w) X.A (evalPart e X.env) (λu c=>∃o b,uB X a σ b c/\IsPart u o/\Q o b) X.xe s
def pA:TO:=λ_ H Q=>Q O H
def QM (t:TE):TO:=λσ H Q=>t σ H λx a=>∃i,x=.int i/\Q (U i) a
section
variable {X:Cx}{e:Expr}{te:TE}{lo hi:Option Expr}{tl th:TO}{pos p2:Pos}
def xX:PO X O pA:=by intro a s σ H Q I h;rw[evalPart_none];calc uS #[O,H,I,.none,h]
def xp (h:PE X e te):PO X (U e) (QM te):=by intro d s σ H Q I j;rw[evalPart_some];calc uW (h d s σ H _ I j) λu k f=>?_;let#[x,b,a,g,c]:=f;let#[i,Z,q]:=c;let#[t,Z]:=g;calc#[U i,b,a,.int i t,q]
def F1 (X:Cx)(r:V->Option Int->Option Int->Hp->VK->Prop):Prop:=
 ∀(a:AA)(s:AE)(σ:St)(H:Hp)(x:V)(v d c:bU)(lo hi:Option Int)(b:AD)(Q:VK),uB X a σ H s->kP x v->s.heap.IsSliceOf b d c .none->IsPart d lo->IsPart c hi->r x lo hi H Q ->
  ∃T id,typeLookup (.type T) "__getitem__"=pure (U (.builtin id))/\s.TypeIs v T/\bR (bJ X.prog X.w) X.A (getItem v (.ref b)) (EP X a σ Q) X.xe s
def Pq (r:V->Option Int->Option Int->Hp->VK->Prop)(te:TE)(tl th:TO):TE:=λσ H Q=>te σ H λx b=>tl σ b λl a=>th σ a λu c=>r x l u c Q
def xJ (G:F1 X r)(y:PE X e te)(F:PO X lo tl)(M:PO X hi th):PE X (.Subscript e (.Slice lo hi O p2) pos) (Pq r te tl th):=by intro c s σ H Q I h;calc Subscript_ (uW (y c s σ H _ I h) λv z g=>?_);let#[x,A,j,B,m]:=g;calc wpAny_Slice (uW (F c z σ A _ j m) λf E ⟨l,k,t,pl,n⟩=>uW (M c E σ k _ t n) λd a g=>?_);let#[u,i,L,C,D]:=g;rw[evalPart_none];calc uS ?_;let p:uB X c σ i { a with heap:=a.heap.push { cls:=.type "slice",data:=.fields ↑[f,d,.none] } }:=L.kept (t':=a.toks) λb N q=>vy _ q;let#[T,id,w,K,o]:=G c { a with heap:=a.heap.push { cls:=.type "slice",data:=.fields ↑[f,d,.none] } } σ i x v f d l u ↥a Q p B (Heap.IsSliceOf.new ..) pl C D;show bR (bJ X.prog X.w) X.A (subscriptTail e (.Slice lo hi O p2) v (.ref ↥a)) (EP X c σ Q) X.xe { a with heap:=a.heap.push { cls:=.type "slice",data:=.fields ↑[f,d,.none] } };calc tail_any (ops:=[.ref ↥a,v]) K w o (by with_unfolding_all rfl)
def nM (xs:Se)(lo hi:Option Int):Se:=(xs.drop (HT.sIx ⇑xs 0 lo)).take (HT.sIx ⇑xs ⇑xs hi-HT.sIx ⇑xs 0 lo)
def Zih (xs:Se)(lo hi:Option Int):⇑(nM xs lo hi)<=⇑xs:=by
 unfold nM;rw[xw,yR]
 nofun
end
end L2
namespace L2
open PySem PySem.Spec PyProof.Rows
noncomputable def Dh (n:Nat)(i:Int):Option Nat:=if 0<=i then (if i<n then U i.toNat else O) else if -(n:Int)<=i then U (i+n).toNat else O
def ye {α:Type}(xs:List α)(i:Int):Option α:=(Dh ⇑xs i).bind λj=>xs[j]?
def Zo5 (h:Dh n i=U j):seqIndex? i n=U j/\j<n/\-(n:Int)<=i/\i<n:=by
 unfold Dh at h;by_cases b:0<=i
 .rw[uM b]at h;by_cases a:i<n
  .rw[uM a]at h;let e:i.toNat=j:=cx h;exact#[by rw[seqIndex_of b a,e],∅,∅,a]
  .rw[uI a]at h;cases h
 .rw[uI b]at h;by_cases a:-(n:Int)<=i
  .rw[uM a]at h;let e:(i+n).toNat=j:=cx h;exact#[by rw[seqIndex_neg ∅ a,e],∅,a,∅]
  .rw[uI a]at h;cases h
def Je (h:ye xs i=U v):∃j,seqIndex? i ⇑xs=U j/\xs[j]?=U v/\j<⇑xs/\-(⇑xs:Int)<=i/\i<⇑xs:=by
 unfold ye at h;cases e:Dh ⇑xs i with
 | none=>rw[e]at h;cases h
 | some j=>
  rw[e]at h;let#[c,a,d,b]:=Zo5 e;calc#[j,c,h,a,d,b]
def Gh {α:Type}{xs:List α}{j:Nat}{v:α}(h:xs[j]?=U v):ye xs (j:Int)=U v:=by
 let a:j<⇑xs:=(vT.mp h).1;let e:Dh ⇑xs (j:Int)=U j:=by unfold Dh;rw[uM ∅,uM ∅];simp
 unfold ye;rw[e];calc h
def Zpy (b:Expr):Prop:=∀o i,subscripted b J o i=operate [o,i] (getItem o i)
def DU (X:Cx)(r:R2):Prop:=
 ∀(a slice:Expr)(b:AA)(s:AE)(σ:St)(H:Hp)(x y:V)(v u:bU)(Q:VK),uB X b σ H s->kP x v->kP y u->r x y H Q ->
  subscripted slice J v u=operate [v,u] (getItem v u)->bR (bJ X.prog X.w) X.A (subscriptTail a slice v u) (EP X b σ Q) X.xe s
def K4 (X:Cx)(id:String)(r:V->Se->Hp->VK->Prop):Prop:=
 ∀(a:AA)(s:AE)(σ:St)(H:Hp)(x:V)(xs:Se)(v:bU)(us:AC)(Q:VK),uB X a σ H s->kP x v->kJ xs us->r x xs H Q ->
  bR (bJ X.prog X.w) X.A (call (.builtin id) (v::us)) (EP X a σ Q) X.xe s
section
variable {X:Cx}{a b:Expr}{ta tb:TE}{pos:Pos}
def vh (j:DU X r)(d:PE X a ta)(e:PE X b tb)(g:Zpy b):PE X (.Subscript a b pos) (Fj r ta tb):=by intro k s σ H Q I h;calc Subscript_ (tT d e I h λv u c x y f l m i q=>j a b k c σ f x y v u Q l m i q (g _ _))
def rIxL (K:uH):R2:=λx y H Q=>∃p xs i v,x=.ref p/\y=.int i/\vO K H p xs/\ye xs i=U v/\Q v H
inductive IxTR (K:uH)(x y:V)(H:Hp)(Q:VK):Prop
 | mk (p:AD) (xs:Se) (i:Int) (v:V) (_:x=.ref p) (_:y=.int i) (_:wP K H p xs) (_:ye xs i=U v) (_:Q v H):IxTR K x y H Q
def pW (K:uH):R2:=λx y H Q=>IxTR K x y H Q
def rIxS:R2:=λx y H Q=>∃z i c,x=.str z/\y=.int i/\⇑z<=sizeLine/\ye z.cps.toList i=U c/\Q (.str #[↑[c]]) H
def Zo4:DU X (rIxL X.K):=by
 intro d slice k s σ H x y v u Q I G D h m;let#[p,K,i,z,Z,Z,E,F,q]:=h;cases G;let#[t,Z]:=D;let#[c,r,pl,N]:=I.list E;let#[j,b,C,M,A,n]:=Je F;let#[w,g,e]:=r.get C;let B:=⇑r;let L:=GT;let a:EP X k σ Q w s:=#[z,H,I,e,q];by_cases l:0<=i
 .let f:i.toNat=j:=by rw[seqIndex_of l n]at b;exact cx b
  exact item_listR pl.isList l ∅ (by rw[f];simpa using g) a m
 .let f:(i+(c.toArray.size:Int)).toNat=j:=by rw[seqIndex_neg ∅ A]at b;rw[wC,<-B];exact cx b
  exact subscriptTail_builtinR (x:=w) pl.isList.typeIs slot_list_getitem.lookup
   (wpAny_getItem_list_neg (Q:=λr o=>r=w/\EP X k σ Q r o) pl.isList ∅ (by rw[wC]<;>nofun) ∅ (by rw[f];simpa using g) #[Z,a]) m
def Zq7:DU X (pW X.K):=by
 intro b slice d s σ H x y v u Q I C n h m;let#[p,F,i,z,Z,Z,A,B,q]:=h;cases C;let#[t,Z]:=n;let#[g,r,pl,L]:=I.tuple A;let#[j,o,l,K,E,D]:=Je B;let#[w,f,c]:=r.get l;let k:=⇑r;let G:=GT;let a:EP X d σ Q w s:=#[z,H,I,c,q];exact subscriptTail_builtinR (x:=w) pl.typeIs slot_tuple_getitem.lookup
  (getItem_tuple (j:=j) (Q:=λr e=>r=w/\EP X d σ Q r e) pl ∅ ∅ (by rw[wC,<-k];calc o) (~~~f) #[Z,a]) m
def Zq8:DU X rIxS:=by
 intro a slice A s σ H x y v u Q I p l h g;let#[z,i,c,Z,Z,C,n,q]:=h;let#[t,Z]:=p;let#[B,Z]:=l;let#[j,b,f,w,m,e]:=Je n;let d:⇑z.cps.toList=⇑z:=by simp[Str.length]
 rw[d]at b m e;let r:=GT;calc tail_any (typeIs_str s z t) slot_str_getitem.lookup (getItem_str (c:=c) (by let k:R (i < -(2 ^ 63:Int))=J:=R6 ∅;let o:R (i>=2 ^ 63)=J:=R6 ∅;rw[k,o,Bool.or_false]) (by rw[b];simpa using f) #[.str #[↑[c]],H,I.tok _,#[_,Z],q]) g
def ZgO (a b:Option Int)(n:Nat):(sliceBounds a b O n).1=((HT.sIx n 0 a:Nat):Int)/\(sliceBounds a b O n).2.1=((HT.sIx n n b:Nat):Int)/\(sliceBounds a b O n).2.2=1:=by
 refine#[?_,?_,Z]
 .cases a with
  | none=>simp[sliceBounds,HT.sIx]
  | some i=>
   simp only[sliceBounds,HT.sIx,Option.getD_none,show (1:Int)>0 by decide,if_true];by_cases h:i<0
   .simp only[h,if_true]<;>nofun
   .simp only[h,if_false]<;>nofun
 .cases b with
  | none=>simp[sliceBounds,HT.sIx]
  | some i=>
   simp only[sliceBounds,HT.sIx,Option.getD_none,show (1:Int)>0 by decide,if_true];by_cases h:i<0
   .simp only[h,if_true]<;>nofun
   .simp only[h,if_false]<;>nofun
def ZfR (its:AC)(a b:Option Int):slicePick ↑its a b O=↑((its.drop (HT.sIx ⇑its 0 a)).take (HT.sIx ⇑its ⇑its b-HT.sIx ⇑its 0 a)):=by let#[d,c,e]:=ZgO a b its.toArray.size;unfold slicePick;rw[d,c,e];simp only[sliceRange_one,pick_run,wC]<;>rfl
def rSlL (K:uH):V->Option Int->Option Int->Hp->VK->Prop:=λx b c H Q=>∃a xs,x=.ref a/\vO K H a xs/\∀p,H p=O->Q (.ref p) (upd H p (.lst (nM xs b c)))
def Zn6:F1 X (rSlL X.K):=by intro u s σ H x v w y d e t Q I l k pl g h;let#[a,c,Z,i,q]:=h;cases l;let#[j,r,f,m]:=I.list i;let n:=⇑r;calc#["list",_,slot_list_getitem.lookup,f.isList.typeIs,?_];calc wpAny_getItem_list_slice f.isList k pl g .none {} ?_ (by rw[wC]<;>nofun);rw[ZfR,<-n];calc#[.ref ↥s,_,I.laid (t':=s.toks) (o:=.lst (nM c d e)) (λb p q=>vy _ q) (uV _) ?_,Z,q _ (I.hok.fresh (uV _))];calc#[u8 (Zih c d e) m,_,0,(r.drop (HT.sIx ⇑c 0 d)).take (HT.sIx ⇑c ⇑c e-HT.sIx ⇑c 0 d),wB _ Z]
noncomputable def xG:V->Bool
 | .non=>Y
 | .bl _=>Y
 | .int _=>Y
 | .str _=>Y
 | _=>J
noncomputable def Bh:V->V->Bool
 | .non,.non=>Y
 | .bl a,.bl b=>a == b
 | .bl a,.int b=>(if a then 1 else 0) == b
 | .int a,.bl b=>a == (if b then 1 else 0)
 | .int a,.int b=>a == b
 | .str a,.str b=>a == b
 | _,_=>J
def Rb (f:kP y u)(c:kP x v)(g:xG y=Y)(e:xG x=Y):SeqAt.EqAt A s u v (Bh y x):=by
 cases y with
 | non=>
  cases f;cases x with
  | non=>cases c;exact SeqAt.EqAt.same _
  | bl b=>cases c;exact SeqAt.EqAt.none_bool b
  | int b=>let#[t,Z]:=c;exact SeqAt.EqAt.none_int b t
  | str b=>let#[t,Z]:=c;exact SeqAt.EqAt.none_str b t
  | _=>exact Sa (show J=Y from e) vC
 | bl a=>
  cases f;cases x with
  | non=>cases c;exact SeqAt.EqAt.bool_none a
  | bl b=>cases c;exact SeqAt.EqAt.bool_bool a b
  | int b=>let#[t,Z]:=c;exact SeqAt.EqAt.bool_int a b t
  | str b=>let#[t,Z]:=c;exact SeqAt.EqAt.bool_str a b t
  | _=>exact Sa (show J=Y from e) vC
 | int a=>
  let#[d,Z]:=f;cases x with
  | non=>cases c;exact SeqAt.EqAt.int_none a d
  | bl b=>cases c;exact SeqAt.EqAt.int_bool a d b
  | int b=>let#[t,Z]:=c;exact SeqAt.EqAt.int_int a d b t
  | str b=>let#[t,Z]:=c;exact SeqAt.EqAt.int_str a d b t
  | _=>exact Sa (show J=Y from e) vC
 | str a=>
  let#[d,Z]:=f;cases x with
  | non=>cases c;exact SeqAt.EqAt.str_none a d
  | bl b=>cases c;exact SeqAt.EqAt.str_bool a d b
  | int b=>let#[t,Z]:=c;exact SeqAt.EqAt.str_int a d b t
  | str b=>let#[t,Z]:=c;exact SeqAt.EqAt.str_str a d b t
  | _=>exact Sa (show J=Y from e) vC
 | _=>calc Sa (show J=Y from g) vC
def zp (x:V)(u:bU):Bool:=match u with
 | .none=>Bh .non x
 | .bool b=>Bh (.bl b) x
 | .int i _=>Bh (.int i) x
 | .str z _=>Bh (.str z) x
 | _=>J
def MK (r:kP y u)(f:xG y=Y):zp x u=Bh y x:=by
 cases y with
 | non=>cases r;rfl
 | bl b=>cases r;rfl
 | int i=>let#[t,Z]:=r;rfl
 | str z=>let#[t,Z]:=r;rfl
 | _=>calc Sa (show J=Y from f) vC
theorem Hr {x:V}:∀ {xs:Se} {us:AC},kJ xs us->xs.all xG=Y->us.any (zp x)=xs.any λy=>Bh y x
 | _,_,.nil,_=>rfl
 | y::xs,u::us,.cons r t,f=>by rw[zW,vW]at f;rw[List.any_cons,List.any_cons,MK r f.1,Hr t f.2]
theorem Hl {A:AH}{s:AE}{x:V}{v:bU}(b:kP x v)(a:xG x=Y):∀ {xs:Se} {us:AC},kJ xs us->xs.all xG=Y->∀u∈us,SeqAt.EqAt A s u v (zp x u)
 | _,_,.nil,_=>λu hu=>by cases hu
 | y::xs,u::us,.cons r t,f=>λu' hu=>by
  rw[zW,vW]at f;rcases vg.mp hu with rfl | hu
  .rw[MK r f.1];exact Rb r b f.1 a
  .exact Hl b a t f.2 u' hu
def E4 (x:V)(xs:Se):Bool:=xs.any λy=>Bh y x
inductive Pc (K:uH)(neg:Bool)(x y:V)(H:Hp)(Q:VK):Prop
 | mk (p:AD) (xs:Se) (_:y=.ref p) (_:vO K H p xs\/wP K H p xs) (_:xG x=Y) (_:xs.all xG=Y) (_:Q (.bl (if neg then !E4 x xs else E4 x xs)) H):Pc K neg x y H Q
def HW (K:uH)(a:Bool):R2:=λx y H Q=>Pc K a x y H Q
def ZkN:wG X (fx .In) (HW X.K J):=by
 intro j s σ H x y v u Q I f g h;let#[p,k,Z,b,e,c,q]:=h;cases g;rcases b with b | b
 .obtain⟨a,r,pl,i⟩:=I.list b;calc SeqAt.in_listAt (zp x) pl.isList (λw d=>Hl f e r c w (~~~d)) #[.bl _,H,I,Z,?_];rw[show a.toArray.any (zp x)=a.any (zp x) by simp,Hr r c];exact q
 .obtain⟨a,r,pl,i⟩:=I.tuple b;calc SeqAt.in_tupleAt (zp x) pl (λw d=>Hl f e r c w (~~~d)) #[.bl _,H,I,Z,?_];rw[show a.toArray.any (zp x)=a.any (zp x) by simp,Hr r c];calc q
def ZgY:wG X (fx .NotIn) (HW X.K Y):=by
 intro j s σ H x y v u Q I f g h;let#[p,k,Z,b,e,c,q]:=h;cases g;rcases b with b | b
 .obtain⟨a,r,pl,i⟩:=I.list b;calc SeqAt.notIn_listAt (zp x) pl.isList (λw d=>Hl f e r c w (~~~d)) #[.bl _,H,I,Z,?_];rw[show a.toArray.any (zp x)=a.any (zp x) by simp,Hr r c];exact q
 .obtain⟨a,r,pl,i⟩:=I.tuple b;calc SeqAt.notIn_tupleAt (zp x) pl (λw d=>Hl f e r c w (~~~d)) #[.bl _,H,I,Z,?_];rw[show a.toArray.any (zp x)=a.any (zp x) by simp,Hr r c];calc q
def Zhy:xU X (.type "list") (λxs H Q=>∃p ys,xs=[.ref p]/\(vO X.K H p ys\/wP X.K H p ys)/\∀l,H l=O->Q (.ref l) (upd H l (.lst ys))):=by
 intro t s σ H xs x Q I r h;let#[p,ys,Z,i,q]:=h;let#[u,Z,v]:=py r;cases v;let d:∀(its:AC),kJ ys its->⇑ys<=sizeLine->∀(h':Heap)(c:Nat),(∀b o',s.heap.get? b=U o'->h'.get? b=U o') ->
   h'.get? ↥s=U { cls:=.type "list",dict:=O,data:=.seq ↑its c,slots:=↑[] }->EP X t σ Q (.ref ↥s) { s with heap:=h' }:=λits a g h' c f e=>
  #[.ref ↥s,_,I.laid (t':=s.toks) f (uV _) (show kX X.prog X.w _ h' _ (.lst ys) from#[g,its,c,a,e]),Z,q _ (I.hok.fresh (uV _))]
 rcases i with i | i
 .obtain⟨its,a,pl,g⟩:=I.list i;let w:=⇑a;let#[o,m,j,n,k]:=pl.isList;exact call_list_seq p (.inl Z) m j k (λh' c f e=>d its a g h' c f e) (by simp only[wC]<;>nofun)
 .obtain⟨its,a,pl,g⟩:=I.tuple i;let w:=⇑a;let#[o,m,j,n,k]:=pl;calc call_list_seq p (.inr Z) m j k (λh' c f e=>d its a g h' c f e) (by simp only[wC]<;>nofun)
def Jt (K:uH)(T:String)(x:V)(H:Hp):Prop:=match x with
 | .str _=>T="str"
 | .int _=>T="int"
 | .ref p=>(T="list"/\∃xs,vO K H p xs)\/(T="tuple"/\∃o,K.lookup p=U o/\o.cls=.type "tuple"/\o.dict=O) \/
   (T="dict"/\((∃kvs,H p=U (.dK kvs))\/∃kvs,H p=U (.dT kvs)))\/(T="set"/\∃S n,H p=U (.set S n))
 | _=>False
def QN (I:uB X BO σ H s)(r:kP x v)(ty:Jt X.K T x H):
  s.TypeIs v T/\∀a,v=.ref a->∃ob,s.heap.get? a=U ob/\ob.dict=O:=by
 cases x with
 | str z=>
  let#[t,Z]:=r;cases (show T="str" from ty);exact#[typeIs_str s z t,λ_ e=>nomatch e]
 | int i=>
  let#[t,Z]:=r;cases (show T="int" from ty);exact#[typeIs_int s i t,λ_ e=>nomatch e]
 | ref p=>
  cases r;rcases ty with⟨rfl,m,k⟩|⟨rfl,o,b,l,f⟩|⟨rfl,b⟩|⟨rfl,S,n,b⟩
  .obtain⟨j,_,pl,_⟩:=I.list k;calc#[pl.isList.typeIs,λa e=>?_];cases e;let#[o,n,e,c,f,_]:=pl;exact#[o,e,f]
  .refine#[#[o,I.kIn p o b,l],λa e=>?_];cases e;exact#[o,I.kIn _ o b,f]
  .let z:∃o,s.heap.get? p=U o/\o.ExactDict:=by
    rcases b with⟨g,b⟩|⟨g,b⟩
    .obtain⟨_,_,_,_,o,_,_,e,d,_⟩:=I.hok p _ b;exact#[o,e,d]
    .obtain⟨_,_,_,_,o,_,_,e,d,_⟩:=I.hok p _ b;exact#[o,e,d]
   let#[o,e,d]:=z;calc#[#[o,e,d.1],λa h=>?_];cases h;exact#[o,e,d.2.1]
  .obtain⟨o,_,_,_,e,d,_⟩:=I.hok p _ b;calc#[#[o,e,d.1],λa h=>?_];cases h;exact#[o,e,d.2.1]
 | _=>calc ff ty
def tBM0 (K:uH)(T:String)(r:V->Se->Hp->VK->Prop)(b:TE):TE:=λσ H Q=>b σ H λx a=>Jt K T x a/\r x [] a Q
def KD (K:uH)(T:String)(r:V->Se->Hp->VK->Prop)(c:TE)(t:TA):TE:=λσ H Q=>c σ H λx a=>Jt K T x a/\t σ a λb d=>r x b d Q
variable {o e:Expr}{es:List Expr}{to:TE}{t:TA}{name:Str}{BT BU:Pos}{T id:String}{r:V->Se->Hp->VK->Prop}
def Zqq (m:PlainAttrs T)(c:Slot T name id)(d:typeOf (.builtin id)=pure (.type "method_descriptor"))(p:K4 X id r)(q:PE X o to)
  (a:‹attributeBase o name X.env (eval o X.env)=eval o X.env›) (b:‹(BT.endLine == BU.line)=Y›):PE X (.Call (.Attribute o name BT) [] [] BU) (tBM0 X.K T r to):=by
 intro f s σ H Q I h;calc wpAny_Call_method0_late a b (uW (q f s σ H _ I h) λv t n=>?_);let#[x,j,e,g,ty,l]:=n;let#[k,i]:=QN e g ty;calc#[T,id,m,c,d,k,i,He Z (PySem.evalArgs_none (p f t σ j x [] v [] Q e g .nil l))]
def yu (p:PlainAttrs T)(d:Slot T name id)(i:typeOf (.builtin id)=pure (.type "method_descriptor"))(D:K4 X id r)(M:PE X o to)(F:PA X (e::es) t)
  (b:‹attributeBase o name X.env (eval o X.env)=eval o X.env›)
  (f:autoParam (((iw BU (bD (e::es) X.env)).all (λx=>!x.1)&&(backToKw BU (keywordEach [] X.env)).all (λx=>x.1.isSome)
   && R (⇑(e::es)+⇑([]:List Keyword)+(if ([]:List Keyword).isEmpty then 0 else 1)<30))=Y) Xq._auto_1)
  (c:‹(BT.endLine == BU.line)=Y›) (K:‹bD (e::es) X.env=(J,eval e X.env)::bD es X.env›) (a:‹(iw BU (bD es X.env)).any (·.1)=J›):
  PE X (.Call (.Attribute o name BT) (e::es) [] BU) (KD X.K T r to t):=by
 intro g s σ H Q I h;calc wpAny_Call_method_late b f c Z (uW (M g s σ H _ I h) λv y C=>?_);let#[x,B,j,k,ty,n]:=C;let#[L,G]:=QN j k ty;calc#[T,id,p,d,i,L,G,?_];let l:=F BU g y σ B _ j n;rw[K]at l ⊢;calc He (by show (J || (iw BU (bD es X.env)).any (·.1))=J;rw[a]<;>rfl) (IC ?_);calc uW l λz E ⟨A,m,u,w,q⟩=>D g E σ m x A v z Q u k w q
end
def C5 (X:Cx)(id:String)(r:V->Se->Hp->VK->Prop):Prop:=
 ∀(a:AA)(s:AE)(σ:St)(H:Hp)(x:V)(xs:Se)(v:bU)(us:AC)(Q:VK),uB X a σ H s->kP x v->kJ xs us->r x xs H Q ->
  bR (bJ X.prog X.w) X.A (call (.builtin id) (v::us)) (EP X a σ Q) X.xe s
def kJ.one (h:kJ [x] us):∃u,us=[u]/\kP x u:=by
 cases h with
 | cons r n=>cases n;calc#[_,Z,r]
def kJ.two (h:kJ [x,y] us):∃u v,us=[u,v]/\kP x u/\kP y v:=by
 cases h with
 | cons r t=>
  cases t with
  | cons q n=>cases n;calc#[_,_,Z,r,q]
theorem kJ.zero:∀ {us:AC},kJ [] us->us=[]
 | _,.nil=>rfl
def kJ.dropLast (h:kJ xs us):kJ xs.dropLast us.dropLast:=by
 induction h with
 | nil=>exact .nil
 | cons r t a=>
  cases t with
  | nil=>exact .nil
  | cons q b=>calc .cons r a
theorem kJ.rep {xs:Se}{us:AC}(h:kJ xs us):∀k:Nat,kJ (cw k xs).flatten (cw k us).flatten
 | 0=>.nil
 | k+1=>by rw[Bj,Bj,Er,Er];calc kJ.append h (kJ.rep h k)
def ZjL (l:List α):l.eraseIdx (⇑l-1)=l.dropLast:=by
 induction l with
 | nil=>rfl
 | cons a r c=>
  cases r with
  | nil=>rfl
  | cons b r=>
   let e:⇑(a::b::r)-1=(⇑(b::r)-1)+1:=by
    let f:⇑(a::b::r)=⇑r+2:=rfl;let d:⇑(b::r)=⇑r+1:=rfl
    nofun
   rw[e,List.eraseIdx_cons_succ,c];all_goals rfl
theorem oF (its:AC):∀(k:Nat)(a:AC),
  List.foldl (λx1 x2=>x1++x2) ↑a (cw k ↑its)=↑(a++(cw k its).flatten)
 | 0,a=>by simp
 | k+1,a=>by
  let e:↑a++↑its=↑(a++its):=by simp
  let b:(a++its)++(cw k its).flatten=a++(cw (k+1) its).flatten:=by rw[Bj,Er,FA]
  rw[<-b,<-oF its k (a++its),<-e,Bj,D9]
section
def uB.lset {its its':AC}{n:Nat}{f:Array bU->Array bU}{t':Nat}(I:uB X BO σ H s)(c:H l=U (.lst xs))
  (e:s.heap.get? l=U { cls:=.type "list",data:=.seq ↑its n }) (b:f ↑its=↑its') (d:kJ ys its') (g:⇑ys<=sizeLine) (j:autoParam (s.toks<=t') Xz._auto_1):
  uB X BO σ (upd H l (.lst ys)) { s with heap:=s.heap.update l (Obj.mapSeq f),toks:=t' }:=by
 let q:=PySem.IsL.update e f;rw[b]at q;calc I.write (x:=l) (e:=l) (by rw[c];calc trivial) (.inl Z) (λi u a h=>(Bm s.heap (Obj.mapSeq f) (uZ a)).trans h) #[_,q] ?_;calc#[g,its',_,d,q]
def uB.lnew (I:uB X BO σ H s)(b:kJ ys its)(a:⇑ys<=sizeLine)(c:autoParam (s.toks<=t') Xz._auto_1):
  uB X BO σ (upd H ↥s (.lst ys)) { s with heap:=s.heap.push { cls:=.type "list",data:=.seq ↑its },toks:=t' }:=
 I.laid (λ_ _ q=>vy _ q) (uV _) #[a,its,0,b,wB _ Z]
def uB.fresh (I:uB X BO σ H s):H ↥s=O:=I.hok.fresh (uV _)
def uB.lstM (I:uB X BO σ H s)(a:H l=U (.lst xs)):⇑xs<=sizeLine/\∃(its:AC)(n:Nat),kJ xs its/\⇑xs=⇑its/\s.heap.get? l=U { cls:=.type "list",data:=.seq ↑its n }:=by let#[z,its,n,r,e]:=I.hok l _ a;calc#[z,its,n,r,⇑r,e]
def Pn (h:n<=sizeLine):Builtin.List.listTooLong n=J:=by unfold Builtin.List.listTooLong;calc R6 ∅
end
section
def pz:V->Se->Hp->VK->Prop:=λx a H Q=>∃l xs y,x=.ref l/\a=[y]/\H l=U (.lst xs)/\⇑xs<sizeLine/\Q .non (upd H l (.lst (xs++[y])))
def zY:C5 X "list.append" pz:=by
 intro k s σ H x j v i Q I f d h;let#[l,o,y,Z,Z,b,m,q]:=h;cases f;let#[u,Z,c]:=d.one;let#[z,a,n,r,g,e]:=I.lstM b;calc call_meets F.slot_list_append #[_,e,Z] F.entry_list_append (F.args_list_append_2 _ _) (PySem.list_append l ↑a n u (by rw[wC];nofun)) #[e,?_];calc#[.non,_,I.lset (its':=a++[u]) b e {} (r.append (.cons c .nil)) ?_,Z,q];rw[vn,xf]
 nofun
def qf:V->Se->Hp->VK->Prop:=λx c H Q=>∃l b xs a,x=.ref l/\c=[.ref b]/\H l=U (.lst xs)/\H b=U (.lst a)/\⇑xs+⇑a<=sizeLine/\Q .non (upd H l (.lst (xs++a)))
def Zk2:C5 X "list.extend" qf:=by
 intro y s σ H x C v B Q I w p h;let#[l,b,A,D,Z,Z,g,i,K,q]:=h;cases w;let#[u,Z,k]:=p.one;cases k;let#[z,c,n,r,G,e]:=I.lstM g;let#[E,a,o,m,t,j]:=I.lstM i;let f:c.toArray.size+a.toArray.size<=sizeLine:=by rw[wC,wC];nofun
 let d:¬(!c.toArray.isEmpty&&Builtin.List.listTooLong (c.toArray.size+a.toArray.size))=Y:=by rw[Pn f,CF];exact vC
 refine call_meets F.slot_list_extend #[_,e,Z] F.entry_list_extend (F.args_list_extend_2 _ _)
  (AutoSeq1.list_extend_list_list_0 l ↑c n b ↑a o d (by rw[wC];nofun) ∅) #[e,j,?_]
 calc#[.non,_,I.lset (its':=c++a) g e {} (r.append m) ?_,Z,q];rw[vn]
 nofun
def rPop:V->Se->Hp->VK->Prop:=λx a H Q=>∃l xs y,x=.ref l/\a=[]/\H l=U (.lst xs)/\xs[⇑xs-1]?=U y/\Q y (upd H l (.lst xs.dropLast))
def ZqT:C5 X "list.pop" rPop:=by
 intro t s σ H x p v o Q I m i h;let#[l,w,y,Z,Z,d,j,q]:=h;cases m;let b:=i.zero;subst b;let#[z,a,n,r,g,e]:=I.lstM d;let#[u,k,f]:=r.get j;let c:a.toArray[a.toArray.size-1]?=U u:=by show a.toArray[⇑a-1]?=U u;rw[<-Eh,<-g];exact k
 calc call_meets F.slot_list_pop #[_,e,Z] F.entry_list_pop (F.args_list_pop_1 _) (MeetsSeq.list_pop_last l ↑a n u c (by rw[wC];nofun)) #[e,?_];refine#[y,_,I.lset (its':=a.dropLast) d e ?_ r.dropLast ?_,f,q]
 .show a.toArray.eraseIdxIfInBounds (a.toArray.size-1)=↑a.dropLast;rw[wC,List.eraseIdxIfInBounds_toArray,ZjL]
 .rw[zA]
  nofun
def rCat:R2:=λx y H Q=>∃l b xs a,x=.ref l/\y=.ref b/\H l=U (.lst xs)/\H b=U (.lst a)/\⇑xs+⇑a<=sizeLine/\∀p,H p=O->Q (.ref p) (upd H p (.lst (xs++a)))
def xR:wG X (binaryOp .Add) rCat:=by
 intro t s σ H x y v u Q I o i h;let#[l,b,C,A,Z,Z,g,f,B,q]:=h;cases o;cases i;let#[z,c,n,r,p,e]:=I.lstM g;let#[D,a,w,d,j,m]:=I.lstM f;calc PySem.P.add_list e m ?_ (by rw[wC,wC];nofun);let k:↑c++↑a=↑(c++a):=by simp
 rw[k];calc#[.ref _,_,I.lnew (t':=s.toks) (r.append d) (by rw[vn];nofun),Z,q _ I.fresh]
def rRep:R2:=λx y H Q=>∃l k xs,x=.ref l/\y=.int k/\H l=U (.lst xs)/\-(2 ^ 63)<=k/\k<2 ^ 63/\⇑xs*k.toNat<=sizeLine /\
 ∀p,H p=O->Q (.ref p) (upd H p (.lst (cw k.toNat xs).flatten))
def ql (xs:List α)(k:Nat):⇑(cw k xs).flatten=k*⇑xs:=by
 induction k with
 | zero=>simp
 | succ k a=>rw[Bj,Er,vn,a,Nat.succ_mul,Nat.add_comm]
def Zqs:wG X (binaryOp .Mult) rRep:=by
 intro M s σ H x y v u Q I K E h;let#[l,k,N,Z,Z,D,G,C,o,q]:=h;cases K;let#[t,Z]:=E;let#[z,b,n,r,B,e]:=I.lstM D;let A:b.toArray.size*k.toNat<=sizeLine:=by rw[wC,<-B];exact o
 let f:¬b.toArray.size*k.toNat>(2 ^ 63-1)/8:=by
  have:(sizeLine:Nat)<=(2 ^ 63-1)/8:=by decide
  nofun
 let g:¬(!Builtin.List.listFitsIndex k)=Y:=by rw[fitsIndex_both G C];exact vC
 let c:¬Builtin.List.listTooLong (b.toArray.size*k.toNat)=Y:=by rw[Pn A];exact vC
 let d:List.foldl (λi j=>i++j) ↑[] (cw (if b.toArray.isEmpty=Y then 0 else k.toNat) ↑b)=↑(cw k.toNat b).flatten:=by
  let p:∀m:Nat,List.foldl (λi j=>i++j) ↑[] (cw m ↑b)=↑(cw m b).flatten:=λm=>by have:=oF b m [];rw[CC]at this;exact this
  rw[p];cases b with
  | nil=>simp
  | cons a L=>rw[uI {}]
 refine wpAny_binaryOp_repeat_ref (T:="list") (U:="int") ⋯ #[_,e,Z] (λw=>typeIs_int w k t) noFill_list_mul F.fills_int_mul F.slot_int_rmul repeat_list F.slot_int_index.lookup
  (call_meets F.slot_int_rmul (typeIs_int s k t) F.entry_int_rmul (F.args_int_rmul_2 _ _) (int___rmul___int_list k t l ↑b n)
   #[e,Z,#[_,e,Z],call_meets F.slot_list_mul #[_,e,Z] F.entry_list_mul (F.args_list_mul_2 _ _) (AutoListH.list___mul___list_int_3 l ↑b n k t g f c) #[e,?_]])
 rw[d];calc#[.ref _,_,I.lnew (t':=s.toks) (r.rep k.toNat) (by rw[ql,Nat.mul_comm];calc o),Z,q _ I.fresh]
end
section
end
section
end
end L2
namespace Att
open PySem PySem.W PySem.Calls PyProof.Rows
def Ze2:∀(ns:List Int)(vs:AC),WellAll P h vs (ns.map WData.int)->IntsAre vs ns:=by
 intro ns;induction ns with
 | nil=>
  intro vs w;rw[Dd]at w;cases w;exact .nil
 | cons n ns c=>
  intro vs w;rw[vP]at w;cases w with
  | cons a b=>
   cases a;calc .cons _ _ (c _ b)
def Zkp {l:OpenLaw}{n:Nat}(s:l.most=U n){P:Params}{h:Heap}{args:List WData}{c:AC}
  (e:l.row.toRowW.claim.pre args=Y) (j:WellAll P h c args):
  ∃a vs b,c=[dy a]/\args=[WData.list (b.map WData.int)]/\h.get? a=U { cls:=.type "list",data:=.seq ↑vs }/\IntsAre vs b/\⇑b<=n:=by
 let k:WShape.hasAll [] args [.list .int]=Y:=(pre_splitW e).1;let m:l.pre.holds [] { args:=args }=Y:=(pre_splitW e).2;let#[d,r,Z,x,v]:=hasAllW_cons k;obtain rfl:=hasAllW_nil v;let#[z,Z,t]:=hasW_list x;let#[b,Z]:=items_int t;let p:⇑b<=n:=by
  unfold OpenLaw.pre at m;let i:(WTm.not (.lt (.lit (.int (n:Int))) (.len (.arg 0)))).holds [] { args:=[.list (b.map .int)] }=Y:=by let i:=(holds_andW m).1;rw[s]at i;exact i
  let g:=condW_of i (w_not (w_lt w_lit (w_len_list (w_arg Z))));rw[uO]at g;calc Nat.le_of_not_lt λq=>?_;let o:(n:Int)<((⇑b:Nat):Int):=by nofun
  first
   | (rw[R5 o]at g;calc Sa g ⋯)
   | (simp at g;nofun)
 cases j with
 | cons w u=>
  cases u;cases w with
  | list y f=>calc#[_,_,b,Z,Z,y,Ze2 b _ f,p]
def ZkE (l:OpenLaw)(args:List WData):l.row.toRowW.claim.post args (.bool Y) args=Y:=
 postW_of (r:=l.row.toRowW) (X:=(Y == Y))
  (show WShape.has [] (.bool Y) .bool=Y by first | rfl | decide | simp[WShape.has,WShape.arms,WShape.armsAll])
  (show (WTm.eq .res (.lit (.bool Y))).value [] { args:=args,res:=U (.bool Y),after:=args }=U (.bool (Y == Y)) from w_eq_bool (w_res Z) w_lit) Z
def attach_call {l:OpenLaw}{n:Nat}{q:AG}{c:AJ}{C:(AB)->Heap->Prop}{H:AI->Heap->Prop}{d:DefRec}
  (P:l.most=U n) (v:d.params.defaults=[])
  (k:∀(w:AI)(g b:AE)(t A:AB)(j:AD)(o:Obj)(x s h:bU)(a:AD)(vs:AC)(p:List Int),
   Ground q c [] C w g t A b.heap->H w b.heap ->
   b.heap.get? j=U o->o.data=.func (docDef d.name d.params d.body d.scope x s h)->b.heap.CodeRec s d.name->t d.name=U (.ref j) ->
   b.heap.get? a=U { cls:=.type "list",data:=.seq ↑vs }->IntsAre vs p->⇑p<=n->b.gens=↑[] ->
   codeAny (bJ l.prog w) callerA (.call (.ref j) #[[.ref a],[]]) (λr s'=>r=.ok (.ret (.bool Y))/\OldK b.heap s'.heap/\s'.os=b.os/\AllBare s'.gens) b):
  WalkO q c C H l.row.toRowW d [] (λf vs=>PySem.call f vs):=by
 intro w g b t A G S j o x s h I kV ho M z B u K E D as m F T y X;obtain rfl:I=.none:=Dflts.none B v;obtain rfl:kV=.none:=Dflts.noKw B;let#[a,vs,p,Z,Z,i,e,N]:=Zkp P m y;calc enter_call (codeAny_mono (k w g b t A j o x s h a vs p G S ho (fd_plain M) z u i e N K) λr s' hq=>?_);let#[Z,W,Q,L]:=hq;calc#[.inl #[.bool Y,.bool Y,[],Z,λ_=>rfl,.bool Y,ZkE l _,λ_=>#[List.Pairwise.nil,λ_ V=>(nomatch V)]],W,Q,L]
section
end
end Att
namespace L2
open PySem PySem.Spec PyProof.Rows
theorem RL:∀ {vs:AC} {a:List Int},IntsAre vs a->vs.map qi=(a.map V.int).map U
 | _,_,.nil=>rfl
 | _,_,.cons n t h=>by rw[vP,RL h];rfl
theorem Qp:∀ {vs:AC} {a:List Int},IntsAre vs a->kJ (a.map V.int) vs
 | _,_,.nil=>.nil
 | _,_,.cons n t h=>.cons #[t,Z] (Qp h)
noncomputable abbrev KOf {K:uH}{h:Heap}(_:K.In h):uH:=K
noncomputable def kG (s:Stmt)(j:Nat):Stmt:=match s with
 | .ClassDef _ _ _ body _ _ _ _ _ _ _=>body.getD j (.Pass #[0,0,0,0])
 | _=>.Pass #[0,0,0,0]
noncomputable def Cu (s:Stmt):Arguments:=match s with
 | .FunctionDef _ a _ _ _ _ _ _ _ _=>a
 | _=>{ posonlyargs:=[],args:=[],vararg:=O,kwonlyargs:=[],kw_defaults:=[],kwarg:=O,defaults:=[] }
noncomputable def wT (s:Stmt):List Stmt:=match s with
 | .FunctionDef _ _ b _ _ _ _ _ _ _=>b
 | _=>[]
noncomputable def xh (s:Stmt):Scope:=match s with
 | .FunctionDef _ _ _ _ _ _ sc _ _ _=>sc
 | _=>{ kind:=.function,names:=[],isGenerator:=J,isCoroutine:=J }
abbrev vf:zT:=λ_ _ _ _ _ _=>False
abbrev E0:XK:=λ_ _ _=>False
def uT:zH vf X E0:=λ_ _ _ _ _ _ _ h=>h.elim
structure xk (K:uH)(x qual:Str)(st:Stmt)(f:AD)(fd:AF):Prop where
 ex:∃(oc:bU) (od:Option AD) (kV doc pm:bU) (an:Option AD) (BP ct:bU) (osl:Array (Option bU)),
  fd=fnOf x qual (Cu st) (wT st) (xh st) .none kV doc pm an BP ct/\K.lookup f=U #[oc,od,.func fd,osl]/\codeIn K BP qual=Y
 kp:keepIn K (.ref f)=Y
section
variable {P:AG}{w:AI}{K:uH}{mg:AB}{base:Heap}
def xk.ok {x b:Str}{st:Stmt}{f:AD}{l:AF}{N i:AJ}{k:Nat}{sp:Sp}(F:xk K x b st f l)(S:ku N i (xh st))
  (c:∀(d:bU)(A:AH)(a:List Env)(s:AE)(H:Hp)(vs:Se)(Q:VK)(E:XK),lI k (A.deeper (envOfC b (xh st) ↥s f d))->sp vs H Q E ->
   ∃t,xS (mv vf P w K mg base N b (xh st) f d A a s H E).nox (wT st) t/\t { nx:=λ_ H'=>Q .non H',rt:=Q } (start N vs) H)(e:autoParam (∀vs H Q E,sp vs H Q E->⇑vs=⇑i) Xy._auto_1):kz P w K mg base vf (k+1) f l i sp:=by
 let#[v,z,kV,o,y,u,d,r,p,Z,m,g]:=F.ex;calc K1 m g S e λA a s H vs Q E n j=>?_;let#[t,h,q]:=c d A a s H vs Q E n j;calc#[t,h.nox,q]
def xk.binds {x a:Str}{st:Stmt}{f:AD}{j:AF}{g:AJ}(F:xk K x a st f j)
  (h:∀(kV b i:bU)(e:Option AD)(d c:bU)(us:AC),⇑us=⇑g->bindArgs (fnOf x a (Cu st) (wT st) (xh st) .none kV b i e d c) #[us,[]]=pure (g.zip us)):lD K j g []:=by
 let#[n,o,kV,b,i,e,d,c,l,Z,m,k]:=F.ex;calc .all (h kV b i e d c)
def NM {x a:Str}{st:Stmt}{f:AD}{j:bU}{od h:Option AD}{d:Array (Option bU)}{kV b i e g:bU}(l:K.lookup f=U #[j,od,.func (fnOf x a (Cu st) (wT st) (xh st) .none kV b i h e g),d])
  (c:codeIn K e a=Y) (k:keepIn K (.ref f)=Y):xk K x a st f (fnOf x a (Cu st) (wT st) (xh st) .none kV b i h e g):=#[#[j,od,kV,b,i,h,e,g,d,Z,l,c],k]
end
def Cg (a:lI k A):A.units+1<cLine:=GS (Nat.add_le_add_left (by decide:1<=64) _) a.units
def Kk (h:n<=1000):n<sizeLine:=GS h ⋯
section
def pv (i:Nat){x:Str}{b:Pos}(d:‹X.N[i]?=U x›)(c:Fv X.env.scope x:=by first | calc i0 Z | calc jl (i0 Z) | calc jl (jl Z))(e:autoParam ((x == ("__debug__":Str))=J) Xw._auto_1)
  (a:autoParam ((x == ("__classdict__":Str))=J) Xw._auto_1):PE X (.Name x b) (pU i):=Zql d c e a
end
def lm {A B:Prop}(h:B):if J=Y then A else B:=by rw[uI vC];calc h
def lE {A B:Prop}(h:A):if Y=Y then A else B:=by rw[uM Z];calc h
def lT {c A B:Prop}[Decidable c](b:c->A)(a:¬c->B):if c then A else B:=by
 by_cases h:c
 .rw[uM h];exact b h
 .rw[uI h];calc a h
def ky (H a:Hp):Prop:=∀b o,H b=U o->a b=U o
def ky.refl (H:Hp):ky H H:=λ_ _ h=>h
def ky.trans (a:ky H H1)(b:ky H1 H2):ky H H2:=λc o h=>b c o (a c o h)
def ky.free (e:ky H H'){l:AD}(h:H' l=Option.none):H l=Option.none:=by
 cases q:H l with
 | none=>rfl
 | some o=>
  rw[e l o q]at h;cases h
def ky.seq {K:uH}{H b:Hp}{a:AD}{xs:Se}(e:ky H b)(h:vO K H a xs):vO K b a xs:=by
 rcases h with (h | ⟨o,h⟩) | h
 .exact .inl (.inl (e _ _ h))
 .exact .inl (.inr #[o,e _ _ h])
 .exact .inr h
section
variable {κ:Type}[DecidableEq κ]
noncomputable def kK (kvs:List (κ×V))(k:κ):Option V:=(kvs.find? λa=>R (a.1=k)).map (·.2)
noncomputable def kQ (kvs:List (κ×V))(k:κ)(v:V):List (κ×V):=
 if (kvs.any λa=>R (a.1=k))=Y then kvs.map (λa=>if a.1=k then (a.1,v) else a) else kvs++[(k,v)]
noncomputable def Ck (kvs:List (κ×V))(k:κ):List (κ×V):=kvs.filter λa=>R (a.1≠k)
def zJ {p:κ×V}{r:List (κ×V)}{k:κ}(e:p.1=k):kK (p::r) k=U p.2:=by simp[kK,C1,e]
def zk {p:κ×V}{r:List (κ×V)}{k:κ}(e:¬p.1=k):kK (p::r) k=kK r k:=by simp[kK,C1,e]
theorem Eu (k:κ):∀kvs:List (κ×V),(kvs.any λkv=>R (kv.1=k))=(kK kvs k).isSome
 | []=>rfl
 | p::r=>by
  rw[List.any_cons];by_cases e:p.1=k
  .simp only[zJ e,R5 e,Bool.true_or,Option.isSome_some]
  .rw[zk e,R6 e,Bool.false_or];calc Eu k r
theorem OI (k j:κ)(y:V):∀kvs:List (κ×V),kK (kvs.map λkv=>if kv.1=k then (kv.1,y) else kv) j=(kK kvs j).map λx=>if j=k then y else x
 | []=>rfl
 | p::r=>by
  let ih:=OI k j y r;rw[vP];by_cases h:p.1=k
  .rw[uM h];by_cases e:p.1=j
   .rw[zJ (p:=(p.1,y)) e,zJ e,IG,uM (e.symm.trans h)]
   .rw[zk (p:=(p.1,y)) e,zk e,ih]
  .rw[uI h];by_cases e:p.1=j
   .rw[zJ (p:=p) e,zJ e,IG,uI (λz=>h (e.trans z))]
   .rw[zk (p:=p) e,zk e,ih]
theorem Om (k j:κ)(y:V):∀kvs:List (κ×V),kK kvs k=O->kK (kvs++[(k,y)]) j=if j=k then U y else kK kvs j
 | [],_=>by
  by_cases e:k=j
  .rw[uM e.symm];exact zJ (p:=(k,y)) e
  .rw[uI (λz=>e z.symm)];exact zk (p:=(k,y)) e
 | p::r,hn=>by
  rw[DM];let hk:¬p.1=k:=λz=>by rw[zJ z]at hn;cases hn
  rw[zk hk]at hn;let a:=Om k j y r hn;by_cases e:p.1=j
  .rw[zJ e,zJ e,uI (λz=>hk (e.trans z))]
  .rw[zk e,zk e,a]
def y6 (kvs:List (κ×V))(k j:κ)(y:V):kK (kQ kvs k y) j=if j=k then U y else kK kvs j:=by
 unfold kQ;by_cases a:(kvs.any λb=>R (b.1=k))=Y
 .rw[uM a,OI];rw[Eu]at a;by_cases e:j=k
  .obtain⟨x,c⟩:=Option.isSome_iff_exists.mp a;rw[uM e,e,c,IG,uM Z]
  .rw[uI e];cases kK kvs j with
   | none=>rfl
   | some x=>rw[IG,uI e]
 .rw[uI a];calc Om k j y kvs ?_;rw[Eu]at a;cases q:kK kvs k with
  | none=>rfl
  | some x=>rw[q]at a;calc(a Z).elim
def B1 (kvs:List (κ×V))(k:κ)(v:V):⇑(kQ kvs k v)<=⇑kvs+1:=by
 unfold kQ;split
 .rw[uO];nofun
 .rw[vn,vQ,yZ];nofun
def EX {kvs:List (κ×V)}{k:κ}(v:V)(h:kK kvs k=O):kQ kvs k v=kvs++[(k,v)]:=by unfold kQ;rw[Eu,h];calc uI ⋯
def l0.isSome_eq (r:l0 o u):o.isSome=u.isSome:=by
 cases o with
 | none=>cases u with
  | none=>rfl
  | some _=>exact(show False from r).elim
 | some _=>cases u with
  | none=>exact(show False from r).elim
  | some _=>rfl
def l0.getD (r:l0 o u)(a:kP d d'):kP (o.getD d) (u.getD d'):=by
 cases o with
 | none=>cases u with
  | none=>exact a
  | some _=>exact(show False from r).elim
 | some _=>cases u with
  | none=>exact(show False from r).elim
  | some _=>calc r
def KV.val (r:KV kvs vs)(k:κ):l0 (kK kvs k) (valueAt vs k):=by
 unfold KV at r;induction r with
 | nil=>exact True.intro
 | @cons p q i a h t g=>
  let#[d,f]:=h;by_cases e:p.1=k
  .let c:q.1=k:=d.symm.trans e;let b:valueAt (q::a) k=U q.2:=by simp[valueAt,C1,c]
   rw[zJ e,b];exact f
  .let c:¬q.1=k:=λz=>e (d.trans z);let b:valueAt (q::a) k=valueAt a k:=by simp[valueAt,C1,c]
   rw[zk e,b];calc g
def KV.any (r:KV kvs vs)(k:κ):(kvs.any λkv=>R (kv.1=k))=vs.any λkv=>R (kv.1=k):=by
 unfold KV at r;induction r with
 | nil=>rfl
 | cons h t a=>rw[List.any_cons,List.any_cons,a,h.1]
def KV.repl (r:KV kvs vs)(k:κ){y:V}{u:bU}(c:kP y u):
  KV (kvs.map λkv=>if kv.1=k then (kv.1,y) else kv) (vs.map λkv=>if kv.1=k then (kv.1,u) else kv):=by
 unfold KV at r ⊢;induction r with
 | nil=>exact .nil
 | @cons p q f g h t d=>
  rw[vP,vP];calc .cons ?_ d;let#[a,b]:=h;by_cases e:p.1=k
  .rw[uM e,uM (a.symm.trans e)];exact#[a,c]
  .rw[uI e,uI (λz=>e (a.trans z))];calc#[a,b]
def KV.put (r:KV kvs vs)(k:κ){y:V}{u:bU}(a:kP y u):KV (kQ kvs k y) (stored vs k u):=by
 unfold kQ stored;rw[r.any k];by_cases e:(vs.any λb=>R (b.1=k))=Y
 .rw[uM e,uM e];exact r.repl k a
 .rw[uI e,uI e];calc Paired.snoc r #[Z,a]
def KV.drop (r:KV kvs vs)(k:κ):KV (Ck kvs k) (without vs k):=by
 unfold KV at r ⊢;unfold Ck without;induction r with
 | nil=>exact .nil
 | @cons p q i j h t d=>
  let#[c,f]:=h;rw[Fp,Fp];by_cases e:p.1=k
  .let a:¬R (p.1≠k)=Y:=by simp[e]
   let b:¬R (q.1≠k)=Y:=by simp[c.symm.trans e]
   rw[uI a,uI b];exact d
  .let g:¬q.1=k:=λz=>e (c.trans z);let a:R (p.1≠k)=Y:=by simp[e]
   let b:R (q.1≠k)=Y:=by simp[g]
   rw[uM a,uM b];calc .cons #[c,f] d
def KV.keys {kvs:List (κ×V)}{vs:List (κ×bU)}(r:KV kvs vs):kvs.map (·.1)=vs.map (·.1):=by
 unfold KV at r;induction r with
 | nil=>rfl
 | cons h t a=>rw[vP,vP,a,h.1]
def KV.length (r:KV kvs vs):⇑kvs=⇑vs:=Paired.length r
def ZmJ (kvs:List (κ×V))(k:κ):⇑(Ck kvs k)<=⇑kvs:=yA _ _
end
def Bo (r:kP (kV k) u):(wb P w).is k u=Y:=by
 cases k with
 | inl i=>let#[t,e]:=(show ∃t,u=eG i t from r);subst e;exact Zh0 P w i t
 | inr x=>let#[t,e]:=(show ∃t,u=ek x t from r);subst e;calc PL P w x t
theorem Ng {P:AG}{w:AI}:∀ {a:List uQ} {us:AC},kJ (a.map kV) us->ItemsAre (wb P w) a us
 | [],_,r=>by rw[Dd]at r;cases r;exact .nil
 | k::a,_,r=>by
  rw[vP]at r;cases r with
  | cons h t=>calc .cons (Bo h) (Ng t)
abbrev KT (H:Hp):List (List uQ×V)->List (List uQ×AD×bU)->Prop:=Paired λp q=>p.1=q.1/\H q.2.1=U (.tup (p.1.map kV))/\kP p.2 q.2.2
def KT.val (r:KT H kvs xs)(k:List uQ):l0 (kK kvs k) ((atKey xs k).map (·.2)):=by
 induction r with
 | nil=>exact True.intro
 | @cons p q i a h t g=>
  let#[d,_,f]:=h;by_cases e:p.1=k
  .let c:q.1=k:=d.symm.trans e;let b:atKey (q::a) k=U q.2:=by simp[atKey,C1,c]
   rw[zJ e,b];exact f
  .let c:¬q.1=k:=λz=>e (d.trans z);let b:atKey (q::a) k=atKey a k:=by simp[atKey,C1,c]
   rw[zk e,b];calc g
def KT.repl (r:KT H kvs xs)(k:List uQ){y:V}{u:bU}(c:kP y u):
  KT H (kvs.map λkv=>if kv.1=k then (kv.1,y) else kv) (xs.map (putAt k u)):=by
 induction r with
 | nil=>exact .nil
 | @cons p q g i h t f=>
  rw[vP,vP];calc .cons ?_ f;let#[a,b,d]:=h;unfold putAt;by_cases e:p.1=k
  .rw[uM e,uM (a.symm.trans e)];exact#[a,b,c]
  .rw[uI e,uI (λz=>e (a.trans z))];calc#[a,b,d]
def KT.put (r:KT H kvs xs)(k:List uQ){b:AD}{y:V}{u:bU}(d:H b=U (.tup (k.map kV)))(a:kP y u):
  KT H (kQ kvs k y) (storedH xs k b u):=by
 let e:(kvs.any λc=>R (c.1=k))=(atKey xs k).isSome:=by rw[Eu,(r.val k).isSome_eq,Option.isSome_map]
 unfold kQ storedH;rw[e];by_cases q:(atKey xs k).isSome=Y
 .rw[uM q,uM q];exact r.repl k a
 .rw[uI q,uI q];calc Paired.snoc r #[Z,d,a]
def KT.keeps (r:KT H kvs xs)(a:∀b ys,H b=U (.tup ys)->H' b=U (.tup ys)):KT H' kvs xs:=
 Paired.mapP r λ_ _ z=>#[z.1,a _ _ z.2.1,z.2.2]
section
def Ot (b:wD P w H h)(e:Rd H a u):kX P w H h a u:=e.ok b
def Do (b:wD P w H h)(e:Rd H a (.dK kvs)):⇑kvs<=sizeLine/\(a == iv)=J/\∃vs,KV kvs vs/\h.DictOf (wb P w) a vs:=
 show kX P w H h a (.dK kvs) from Ot b e
def Hb (b:wD P w H h)(e:H a=U (.dK kvs)):⇑kvs<=sizeLine/\(a == iv)=J/\∃vs,KV kvs vs/\h.DictOf (wb P w) a vs:=Do b (.inl e)
def Ft (c:wD P w H h)(e:H a=U (.tup (ks.map kV))):(tupleKind (wb P w)).is h ks a:=by let#[_,b,r,o,f,d,n,g]:=(show kX P w H h a (.tup (ks.map kV)) from c a _ e);calc#[o,↑b,n,f,d,g,by simpa using Ng r]
def D5 (d:wD P w H h)(e:Rd H a (.dT kvs)):⇑kvs<=sizeLine/\(a == iv)=J /\
  ∃xs,KT H kvs xs/\h.DictOfH (tupleKind (wb P w)) a xs:=by
 let#[z,y,xs,r,o,v,j,k,i,n,u,g]:=(show kX P w H h a (.dT kvs) from Ot d e);calc#[z,y,xs,r,o,v,j,k,i,n,u,λx b=>?_,g];let c:∀ {l:List (List uQ×V)} {m:List (List uQ×AD×bU)},KT H l m->∀x∈m,(tupleKind (wb P w)).is h x.1 x.2.1:=by
  intro l m q;induction q with
  | nil=>intro x b;exact nomatch b
  | @cons p q A B f t s=>
   intro x b;rcases vg.mp b with e | b
   .subst e;exact Ft d (by rw[<-f.1];calc f.2.1)
   .exact s x b
 calc c r x b
def Zuj (b:wD P w H h)(e:H a=U (.dT kvs)):⇑kvs<=sizeLine/\(a == iv)=J /\
  ∃xs,KT H kvs xs/\h.DictOfH (tupleKind (wb P w)) a xs:=D5 b (.inl e)
end
def mQ (H:Hp)(a:AD)(y:V)(r:Option V):Prop:=
 (∃kvs k,Rd H a (.dK kvs)/\y=kV k/\r=kK kvs k)\/∃kvs k b,Rd H a (.dT kvs)/\y=.ref b/\H b=U (.tup (k.map kV))/\r=kK kvs k
def mY (H:Hp)(a:AD)(y v:V)(c:Hp):Prop:=
 (∃kvs k,H a=U (.dK kvs)/\y=kV k/\⇑kvs<sizeLine/\c=upd H a (.dK (kQ kvs k v))) \/
 ∃kvs k b,H a=U (.dT kvs)/\y=.ref b/\H b=U (.tup (k.map kV))/\⇑kvs<sizeLine/\c=upd H a (.dT (kQ kvs k v))
def mQ.k {H:Hp}{a:AD}{kvs:List (uQ×V)}{k:uQ}(e:H a=U (.dK kvs)):mQ H a (kV k) (kK kvs k):=.inl #[kvs,k,.inl e,Z,Z]
def mQ.t {H:Hp}{a b:AD}{kvs:List (List uQ×V)}{k:List uQ}(e:H a=U (.dT kvs))(c:H b=U (.tup (k.map kV))):mQ H a (.ref b) (kK kvs k):=.inr #[kvs,k,b,.inl e,Z,c,Z]
def mY.k {H:Hp}{a:AD}{kvs:List (uQ×V)}{k:uQ}{v:V}(e:H a=U (.dK kvs))(b:⇑kvs<sizeLine):mY H a (kV k) v (upd H a (.dK (kQ kvs k v))):=.inl #[kvs,k,e,Z,b,Z]
def mY.t {H:Hp}{a b:AD}{kvs:List (List uQ×V)}{k:List uQ}{v:V}(e:H a=U (.dT kvs))(d:H b=U (.tup (k.map kV)))(c:⇑kvs<sizeLine):
  mY H a (.ref b) v (upd H a (.dT (kQ kvs k v))):=.inr #[kvs,k,b,e,Z,d,c,Z]
section
def uB.big (I:uB X BO σ H s):iv<↥s:=by let h:dq<↥s:=(I.mod.glob.keeps I.bk).lt;calc Nat.lt_trans ⋯ h
def OY (B:A.units+1<cLine)(I:uB X BO σ H s)(g:mQ H a y (U v))(q:kP y u)(h:∀f s',uB X BO σ H s'->kP v f->Q f s'):
  bR (bJ X.prog X.w) A (getItem (.ref a) u) Q E s:=by
 rcases g with⟨i,k,e,j,l⟩|⟨i,k,b,e,j,C,l⟩
 .subst j;let#[z,x,w,d,dd]:=Do I.hok e;let#[f,m,c]:=l0.some_of (v:=v) (o:=valueAt w k) (by rw[l];calc d.val k);exact wpAny_getItem_of (Bo q) dd.mapOf m (h f _ (I.tok _) c)
 .subst j;cases (show u=dy b from q);let#[z,x,r,d,dd]:=D5 I.hok e;let#[f,m,c]:=l0.some_of (v:=v) (o:=(atKey r k).map (·.2)) (by rw[l];calc d.val k);let#[p,t,n]:=Option.map_eq_some_iff.mp m;calc wpAny_getItem_heap (tupleKind_room_in1 B) (Ft I.hok C) dd t ?_;rw[n];calc h f _ (I.tok _) c
def d_in (m:A.units+1<cLine)(I:uB X BO σ H s)(g:mQ H a y o)(j:kP y u)(h:∀s',uB X BO σ H s'->Q (.bool o.isSome) s'):
  bR (bJ X.prog X.w) A (fx .In u (.ref a)) Q E s:=by
 rcases g with⟨f,k,e,i,l⟩|⟨f,k,b,e,i,n,l⟩
 .subst i;let#[z,d,p,c,dd]:=Do I.hok e;calc wpAny_in_of (Bo j) d dd.mapOf ?_;rw[<-(c.val k).isSome_eq,<-l];exact h _ (I.tok _)
 .subst i;cases (show u=dy b from j);let#[z,d,r,c,dd]:=D5 I.hok e;calc wpAny_in_heap (tupleKind_room_in1 m) (Ft I.hok n) d dd ?_;let q:=(c.val k).isSome_eq;rw[Option.isSome_map]at q;rw[<-q,<-l];calc h _ (I.tok _)
def Zpp (m:A.units+1<cLine)(I:uB X BO σ H s)(g:mQ H a y o)(j:kP y u)(h:∀s',uB X BO σ H s'->Q (.bool (!o.isSome)) s'):
  bR (bJ X.prog X.w) A (fx .NotIn u (.ref a)) Q E s:=by
 rcases g with⟨f,k,e,i,l⟩|⟨f,k,b,e,i,n,l⟩
 .subst i;let#[z,d,p,c,dd]:=Do I.hok e;calc wpAny_notIn_of (Bo j) d dd.mapOf ?_;rw[<-(c.val k).isSome_eq,<-l];exact h _ (I.tok _)
 .subst i;cases (show u=dy b from j);let#[z,d,r,c,dd]:=D5 I.hok e;calc wpAny_notIn_heap (tupleKind_room_in1 m) (Ft I.hok n) d dd ?_;let q:=(c.val k).isSome_eq;rw[Option.isSome_map]at q;rw[<-q,<-l];calc h _ (I.tok _)
def Hi (I:uB X BO σ H s)(i:Gb (H a))(f:Heap.SameBut a s.heap h')(h:∃q,h'.get? a=U q)(c:kX X.prog X.w (upd H a ob) h' a ob)(g:autoParam (s.toks<=t') Xz._auto_1)(no:autoParam (∀k,ob≠.gho k) Xv._auto_1):
  uB X BO σ (upd H a ob) { s with heap:=h',toks:=t' }:=
 I.write (x:=a) (e:=a) i (.inl Z) (λb q d z=>(f.2 b d).trans z) h c g no
def FU (z:⇑kvs<=sizeLine)(c:(a == iv)=J)(b:KV kvs vs)(dd:h'.DictOf (wb P w) a vs):
  kX P w H' h' a (.dK kvs):=#[z,c,vs,b,dd]
def QX (W:A.units+1<cLine)(I:uB X BO σ H s)(g:mY H a y v H')(F:kP y u)(D:kP v r)(h:∀s',uB X BO σ H' s'->Q () s'):
  bR (bJ X.prog X.w) A (setItem (.ref a) u r) Q E s:=by
 rcases g with⟨d,k,e,t,l,o⟩|⟨d,k,b,e,t,C,l,o⟩
 .subst t o;let#[z,m,N,f,dd]:=Hb I.hok e;let w:⇑N<=sizeLine:=by rw[<-⇑f];exact z
  let n:⇑(kQ d k v)<=sizeLine:=by have:=B1 d k v;nofun
  calc wpAny_setItem_pairs (hsz:=w) (Bo F) dd λx i p=>h _ ?_;let V:∃q,x.get? a=U q:=let ⟨q,_,_,j,_⟩:=i;#[q,j];exact Hi I (by rw[e];calc True.intro) p V (FU n m (f.put k D) i)
 .subst t o;cases (show u=dy b from F);let#[z,m,M,f,dd]:=Zuj I.hok e;let w:⇑M<=sizeLine:=by rw[<-Paired.length f];exact z
  let n:⇑(kQ d k v)<=sizeLine:=by have:=B1 d k v;nofun
  calc wpAny_setItem_heap (hsz:=w) (tupleKind_room_in1 W) (Ft I.hok C) dd λx i p=>h _ ?_;let#[q,L,T,j,S,P,K,_,G]:=i;calc Hi I (by rw[e];calc True.intro) p #[q,j] #[n,m,_,(f.put k C D).keeps λc ys B=>?_,q,L,T,j,S,P,K,G];rw[uF (Zuc B e (λz=>nomatch z))];calc B
end
section
def Zuk (I:uB X BO σ H s)(e:H a=U (.dK kvs))(g:kP (kV k) u)(l:kK kvs k=U v)(m:more=[]\/∃x,more=[x])
  (h:∀c s',uB X BO σ (upd H a (.dK (Ck kvs k))) s'->kP v c->Q c s'):bR (bJ X.prog X.w) A (call (.builtin "dict.pop") (.ref a::u::more)) Q E s:=by
 let#[z,B,j,b,dd]:=Hb I.hok e;let#[c,C,f]:=l0.some_of (v:=v) (o:=valueAt j k) (by rw[<-l];calc b.val k);let r:(keyPart u).isSome=Y:=by
  cases k with
  | inl i=>let#[t,q]:=(show ∃t,u=eG i t from g);subst q;rfl
  | inr x=>let#[t,q]:=(show ∃t,u=ek x t from g);subst q;rfl
 let p:argsOk "dict.pop" #[.ref a::u::more,[]]:=by
  rcases m with q | ⟨x,q⟩
  .subst q;exact PySem.F.args_dict_pop_2 _ _
  .subst q;exact PySem.F.args_dict_pop_3 _ _ _
 refine call_meetsIn PySem.F.slot_dict_pop dd.typeIs PySem.F.entry_dict_pop p (meets_dict_pop_there (wb X.prog X.w) a (Bo g) more m r)
  #[j,c,dd,by rw[<-⇑b];calc z,C,λn d w=>h c _ ?_ f]
 let y:∃q,n.get? a=U q:=let ⟨q,_,_,hq,_⟩:=d;#[q,hq];calc Hi I (by rw[e];calc True.intro) w y (FU (u8 (ZmJ kvs k) z) B (b.drop k) d)
def Zul (I:uB X BO σ H s)(e:Rd H a (.dK kvs))(h:∀t s',uB X BO σ H s'->Q (.int ⇑kvs t) s'):bR (bJ X.prog X.w) A (call (.builtin "len") [.ref a]) Q E s:=by let#[z,c,d,b,dd]:=Do I.hok e;calc call_len_dict c dd (by rw[<-⇑b];rw[bA]at z;nofun) ?_;rw[<-⇑b];calc h _ _ (I.tok _)
end
def sf (i:Expr):Prop:=∀a b,subscripted i J a b=operate [a,b] (getItem a b)
def N4 {prog:AG}{w:AI}{A:AH}{E:vY}{s:AE}{env:Env}{a slice:Expr}{g:Pos}{T id:String}{Q:vY}
  (k:typeLookup (.type T) "__getitem__"=pure (U (.builtin id))) (l:sf slice)
  (h:bR (bJ prog w) A (eval a env) (λo s_1=>bR (bJ prog w) A (eval slice env) (λi s_2=>s_2.TypeIs o T/\bR (bJ prog w) A (getItem o i) Q E s_2) E s_1) E s):
  bR (bJ prog w) A (eval (.Subscript a slice g) env) Q E s:=by
 calc Subscript_ (xq h (λo s_1 f=>xq f (λi s_2 d=>?_) λ_ _ x=>x) λ_ _ x=>x);let#[j,d]:=d;unfold subscriptTail;calc uC ?_;rw[getitemInPython_of_ne j.not_modules];calc uC (wpAny_specialOf j k ?_);let c:bR (bJ prog w) A (subscripted slice J o i) (λr b=>bR (bJ prog w) A (letTemporaryGo a o r >>= λ_=>pure r) Q E b) E s_2:=by rw[l o i];exact wpAny_operating (xq d (λr b e=>uC (wpAny_letTemporaryGo (uS e))) λ_ _ x=>x)
 first
  | exact uS (uC c)
  | exact uC (uS (uC c))
  | calc uC c
def Zid (I:uB X BO σ H s)(g:mQ H a y o):s.TypeIs (.ref a) "dict":=by
 rcases g with⟨c,k,e,_,_⟩|⟨c,k,b,e,_,_,_⟩
 .obtain⟨_,_,f,_,dd⟩:=Do I.hok e;exact dd.typeIs
 .obtain⟨_,_,d,_,dd⟩:=D5 I.hok e;calc dd.typeIs
def NY (c ty:TE):TE:=λσ H Q=>c σ H λx d=>ty σ d λy b=>∃a v,x=.ref a/\mQ b a y (U v)/\Q v b
def tDIn (ty c:TE):TE:=λσ H Q=>ty σ H λy d=>c σ d λx b=>∃a o,x=.ref a/\mQ b a y o/\Q (.bl o.isSome) b
def Rs (ty c:TE):TE:=λσ H Q=>ty σ H λy d=>c σ d λx b=>∃a o,x=.ref a/\mQ b a y o/\Q (.bl (!o.isSome)) b
def QT (g ty c:TE):TS:=λD σ H=>c σ H λv e=>g σ e λx d=>ty σ d λy f=>∃a b,x=.ref a/\mY f a y v b/\D.nx σ b
def OJ (j ty g:TE)(f:V->V->Hp->VK->Prop):TS:=λD σ H=>j σ H λx h=>ty σ h λy b=>∃a v,x=.ref a/\mQ b a y (U v) /\
 g σ b λd i=>f v d i λz e=>∃c,mY e a y z c/\D.nx σ c
section
def yB (A:X.A.units+1<cLine)(z:PE X o td)(p:PE X i ty)(r:sf i):PE X (.Subscript o i pos) (NY td ty):=by intro d s σ H Q I h;calc N4 PySem.F.slot_dict_getitem.lookup r (uW (z d s σ H _ I h) λu m ⟨x,n,e,B,j⟩=>uW (p d m σ n _ e j) λC F q=>?_);let#[y,f,c,t,a,v,l,g,k]:=q;subst l;obtain rfl:u=dy a:=B;calc#[Zid c g,OY A c g t λD E w b=>#[v,f,w,b,k]]
def OU (w:X.A.units+1<cLine)(n:PE X i ty)(v:PE X o td):PC X .In i o (tDIn ty td):=by intro b s σ H Q I h;calc uW (n b s σ H _ I h) λA l ⟨y,m,c,r,e⟩=>uW (v b l σ m _ c e) λu C q=>?_;let#[x,d,j,z,a,p,k,g,f]:=q;subst k;obtain rfl:u=dy a:=z;calc d_in w j g r λB t=>#[.bl p.isSome,d,t,Z,f]
def Hs (w:X.A.units+1<cLine)(n:PE X i ty)(v:PE X o td):PC X .NotIn i o (Rs ty td):=by intro b s σ H Q I h;calc uW (n b s σ H _ I h) λA l ⟨y,m,c,r,e⟩=>uW (v b l σ m _ c e) λu C q=>?_;let#[x,d,j,z,a,p,k,g,f]:=q;subst k;obtain rfl:u=dy a:=z;calc Zpp w j g r λB t=>#[.bl (!p.isSome),d,t,Z,f]
def CZ (K:X.A.units+1<cLine)(G:PE X o td)(t:PE X i ty)(f:PE X value tv)(C:swapsWith value (U (.Subscript o i pos')) pos.line X.env=pure J):
  PS X (.Assign [.Subscript o i pos'] value pos) (QT td ty tv):=by
 intro b s σ H D I h;calc wpAny_Assign_Subscript (uW (f b s σ H _ I h) λr n ⟨v,q,c,B,e⟩=>uW (G b n σ q _ c e) λu A ⟨x,d,l,L,j⟩=>uW (t b A σ d _ l j) λM Q w=>?_) C;let#[y,N,F,E,a,p,m,g,z]:=w;subst m;obtain rfl:u=dy a:=L;calc QX K F g E B λP k=>#[σ,p,k,z]
def Zos (n:X.A.units+1<cLine)(ho:PE X o td)(W:PE X i ty)(w:PE X value tv)(k:InOp X op rd)
  (ha:∀e c b,augStore i e c b=(do holding [b,e,c] (setItem e c b);release [b,e,c] [];pure .next)):PS X (.AugAssign (.Subscript o i tpos) op value pos) (OJ td ty tv rd):=by
 intro d s σ H D I h;calc wpAny_AugAssign_SubscriptAny (uW (ho d s σ H _ I h) λu S ⟨x,V,q,rx,t⟩=>uW (W d S σ V _ q t) λc s2 j=>?_) ha;let#[y,r,E,m,a,v,P,g,A]:=j;subst P;obtain rfl:u=dy a:=rx;calc OY n E g m λL M I3 f=>uW (w d M σ r _ I3 A) λw2 G ⟨K,B,C,l,q3⟩=>uW (k d G σ B v K L w2 _ C f l q3) λw3 s5 j=>?_;let#[z,H4,F,p,N,Q,T]:=j;calc QX n F Q m p λs6 I6=>#[σ,N,I6,T]
end
def Og (h:Heap)(a:iv<h.objs.size):kX P w H (h.push { cls:=.type "dict",data:=.dict ↑[] }) h.objs.size (.dK []):=
 #[wf _,beq_eq_false_iff_ne.mpr (uZ (wk a)),[],.nil,Heap.DictOf.new h]
def pI:TE:=λ_ H Q=>∀p,H p=O->Q (.ref p) (upd H p (.dK []))
section
def DD:PE X (.Dict [] [] pos) pI:=λb s σ H Q I h=>
 wpAny_Dict_empty #[.ref ↥s,_,I.laid (a:=↥s) (o:=.dK []) (t':=s.toks) (λ_ _ q=>vy _ q) (uV _) (Og s.heap I.big),Z,h _ (I.hok.fresh (uV _))]
end
noncomputable def Ix:List (TE×TE)->St->Hp->(List (V×V)->Hp->Prop)->Prop
 | [],_,H,Q=>Q [] H
 | (tk,tv)::r,σ,H,Q=>tk σ H λx H1=>tv σ H1 λy H2=>Ix r σ H2 λps H3=>Q ((x,y)::ps) H3
abbrev VV:List (V×V)->List (bU×bU)->Prop:=Paired λp q=>kP p.1 q.1/\kP p.2 q.2
def IN (X:Cx)(c:Pos)(b:List (Option Expr))(a:List Expr)(d:List (TE×TE)):Prop:=
 ∀(g:AA) (s:AE) (σ:St) (H:Hp) (Q:List (V×V)->Hp->Prop),uB X g σ H s->Ix d σ H Q ->
  bR (bJ X.prog X.w) X.A (evalPairs (pairTrees b a X.env c)) (λh i=>∃f e,uB X g σ e i/\VV f h/\Q f e) X.xe s
def Zou:IN X pos [] [] []:=λa s σ H Q I h=>pairTrees_nil_walk #[[],H,I,.nil,h]
def Zma (n:PE X k tk)(f:PE X v tv)(t:IN X pos ks vs trs):
  IN X pos (U k::ks) (v::vs) ((tk,tv)::trs):=λa s σ H Q I h=>
 pairTrees_cons_walk (uW (n a s σ H _ I h) λu l ⟨x,m,c,z,e⟩=>uW (f a l σ m _ c e) λC p ⟨y,d,j,q,g⟩=>
  uW (t a p σ d _ j g) λB A ⟨r,i,w,b,o⟩=>#[(x,y)::r,i,w,.cons #[z,q] b,o])
def yX (kvs a:List (uQ×V)):List (uQ×V):=a.foldl (λb c=>kQ b c.1 c.2) kvs
def KV.merge:∀ {a:List (uQ×V)} {b:List (uQ×bU)} {kvs:List (uQ×V)} {vs:List (uQ×bU)},KV a b->KV kvs vs->KV (yX kvs a) (merged vs b):=by
 intro a b kvs vs r;unfold KV at r;induction r generalizing kvs vs with
 | nil=>intro q;exact q
 | @cons p q f g h t c=>
  intro d;let e:KV (kQ kvs p.1 p.2) (stored vs q.1 q.2):=by have:=d.put p.1 h.2;rw[<-h.1];exact this
  calc c e
theorem HP:∀(a kvs:List (uQ×V)),⇑(yX kvs a)<=⇑kvs+⇑a
 | [],kvs=>by show ⇑kvs<=⇑kvs+0;nofun
 | p::r,kvs=>by let h1:=HP r (kQ kvs p.1 p.2);let b:=B1 kvs p.1 p.2;show ⇑(yX (kQ kvs p.1 p.2) r)<=_;rw[vQ];nofun
theorem Qc {P:AG}{w:AI}:∀ {kvs:List (uQ×V)} {ws:List (bU×bU)},VV (kvs.map λkv=>(kV kv.1,kv.2)) ws->∃d,Carries (wb P w) ws d/\KV kvs d
 | [],_,r=>by rw[Dd]at r;cases r;exact#[[],True.intro,.nil]
 | p::kvs,_,r=>by
  rw[vP]at r;cases r with
  | @cons a b as bs h t=>
   let#[d,c,q]:=Qc (P:=P) (w:=w) t;let#[f,e]:=b;calc#[(p.1,e)::d,#[Bo h.1,Z,c],.cons #[Z,h.2] q]
def Qh (a:List (TE×TE)):TE:=λσ H Q=>∀p,H p=O->Ix a σ (upd H p (.dK [])) λd c=>c p=U (.dK [])/\∃kvs:List (uQ×V),d=kvs.map (λb=>(kV b.1,b.2))/\⇑kvs<=15/\Q (.ref p) (upd c p (.dK (yX [] kvs)))
def ZoA (h:IN X pos keys values trs)(b:keys.all (·.isSome)=Y)(A:⇑keys=⇑values)(y:keys≠[])
  (i:⇑keys<=15):PE X (.Dict keys values pos) (Qh trs):=by
 intro n s σ H Q I q;let t:=I.hok.fresh (uV ↥s);let l:=I.laid (a:=↥s) (o:=.dK []) (h':=s.heap.push { cls:=.type "dict",data:=.dict ↑[] }) (t':=s.toks) (λ_ _ q=>vy _ q) (uV _) (Og s.heap I.big);calc wpAny_Dict_walk (knd:=wb X.prog X.w) b A y i (uW (h n _ σ _ _ l (q _ t)) λL M x=>?_);let#[N,G,j,g,e,d,B,K,m]:=x;subst B;let#[k,c,r]:=Qc (P:=X.prog) (w:=X.w) g;let#[z,p,u,v,dd]:=Hb j.hok e;cases v;calc#[k,c,dd,λh' f C=>#[.ref ↥s,_,?_,Z,m]];let F:⇑(yX [] d)<=sizeLine:=by let D:=HP d [];rw[yZ]at D;rw[bA];nofun
 let E:∃q,h'.get? ↥s=U q:=let ⟨q,_,_,hq,_⟩:=f;#[q,hq];calc Hi j (by rw[e];calc True.intro) C E (FU F p (r.merge .nil) f)
structure M1 (X:Cx)(o:Expr)(m:Str)(BT:Pos)(e:Expr)(BU:Pos):Prop where
 base:attributeBase o m X.env (eval o X.env)=eval o X.env
 few:((iw BU (bD [e] X.env)).all (λx=>!x.1)&&(backToKw BU (keywordEach [] X.env)).all (λx=>x.1.isSome)
  && R (⇑([e]:List Expr)+⇑([]:List Keyword)+(if ([]:List Keyword).isEmpty then 0 else 1)<30))=Y
 line:(BT.endLine == BU.line)=Y
 trees:iw BU (bD [e] X.env)=[(J,eval e X.env)]
structure M2 (X:Cx)(o:Expr)(m:Str)(BT:Pos)(e f:Expr)(BU:Pos):Prop where
 base:attributeBase o m X.env (eval o X.env)=eval o X.env
 few:((iw BU (bD [e,f] X.env)).all (λx=>!x.1)&&(backToKw BU (keywordEach [] X.env)).all (λx=>x.1.isSome)
  && R (⇑([e,f]:List Expr)+⇑([]:List Keyword)+(if ([]:List Keyword).isEmpty then 0 else 1)<30))=Y
 line:(BT.endLine == BU.line)=Y
 trees:iw BU (bD [e,f] X.env)=[(J,eval e X.env),(J,eval f X.env)]
def HS (H:Hp)(a:AD):Prop:=(∃kvs,Rd H a (.dK kvs))\/∃kvs,Rd H a (.dT kvs)
def J7 (I:uB X BO σ H s)(d:HS H a):
  s.TypeIs (.ref a) "dict"/\(∀b,dy a=.ref b->∃ob,s.heap.get? b=U ob/\ob.dict=O)/\(a == iv)=J:=by
 rcases d with⟨g,e⟩|⟨g,e⟩
 .obtain⟨_,h,j,_,dd⟩:=Do I.hok e;calc#[dd.typeIs,λb q=>?_,h];cases q;let#[ob,_,_,f,c,_]:=dd;exact#[ob,f,c.2.1]
 .obtain⟨_,h,i,_,dd⟩:=D5 I.hok e;calc#[dd.typeIs,λb q=>?_,h];cases q;let#[ob,_,_,f,c,_]:=dd;calc#[ob,f,c.2.1]
section
def Zry (t:A.units+1<cLine)(I:uB X BO σ H s)(g:mQ H a y o)(p:kP y u)(m:kP d r)(h:∀n s',uB X BO σ H s'->kP (o.getD d) n->Q n s'):
  bR (bJ X.prog X.w) A (call (.builtin "dict.get") [.ref a,u,r]) Q E s:=by
 rcases g with⟨i,k,e,j,l⟩|⟨i,k,b,e,j,v,l⟩
 .subst j;let#[z,f,w,c,dd]:=Do I.hok e;calc call_meetsIn PySem.F.slot_dict_get dd.typeIs PySem.F.entry_dict_get (PySem.F.args_dict_get_3 _ _ _) (meets_dict_get_default (wb X.prog X.w) a (Bo p) f r) #[_,dd.mapOf,h _ _ (I.tok _) ?_];rw[l];exact(c.val k).getD m
 .subst j;cases (show u=dy b from p);let#[z,f,q,c,dd]:=D5 I.hok e;calc call_meetsIn PySem.F.slot_dict_get dd.typeIs PySem.F.entry_dict_get (PySem.F.args_dict_get_3 _ _ _) (meetsH_dict_get_default (tupleKind (wb X.prog X.w)) a b f r) #[tupleKind_room_in1 t,k,q,Ft I.hok v,dd,h _ _ (I.tok _) ?_];rw[l];calc(c.val k).getD m
end
def Os (d ty tx:TE):TE:=λσ H Q=>d σ H λx b=>∃a,x=.ref a/\HS b a/\ty σ b λy e=>tx σ e λz c=>∃o,mQ c a y o/\Q (o.getD z) c
def NH (d ty:TE):TE:=λσ H Q=>d σ H λx c=>∃a,x=.ref a/\HS c a/\ty σ c λy b=>∃kvs k v,b a=U (.dK kvs)/\y=kV k/\kK kvs k=U v/\Q v (upd b a (.dK (Ck kvs k)))
section
def Zmf (N:X.A.units+1<cLine)(M:PE X o td)(L:PE X e ty)(j:PE X f tx)(m:M2 X o "get" BT e f BU):PE X (.Call (.Attribute o "get" BT) [e,f] [] BU) (Os td ty tx):=by
 intro b s σ H Q I h;calc wpAny_Call_method m.base m.few m.line HH PySem.F.slot_dict_get PySem.F.type_dict_get (uW (M b s σ H _ I h) λu A D=>?_);let#[x,C,i,P,a,w,d,n]:=D;subst w;obtain rfl:u=dy a:=P;let#[B,v,_]:=J7 i d;calc#[B,v,?_];rw[m.trees];refine He Z (IC (C9 (uW (L b A σ C _ i n) λS F ⟨y,l,t,G,p⟩=>
  C9 (uW (j b F σ l _ t p) λV W ⟨z,q,K,k,ov,g,E⟩=>FK ?_))))
 calc Zry N K g G k λw' T r c=>#[_,q,r,c,E]
def Zme (F:PE X o td)(E:PE X e ty)(m:M1 X o "pop" BT e BU):PE X (.Call (.Attribute o "pop" BT) [e] [] BU) (NH td ty):=by intro f s σ H Q I h;calc wpAny_Call_method m.base m.few m.line HH PySem.F.slot_dict_pop PySem.F.type_dict_pop (uW (F f s σ H _ I h) λu r A=>?_);let#[x,w,c,G,a,q,d,g]:=A;subst q;obtain rfl:u=dy a:=G;let#[t,p,_]:=J7 c d;calc#[t,p,?_];rw[m.trees];calc He Z (IC (C9 (uW (E f r σ w _ c g) λK P ⟨y,L,n,B,j,k,v,z,C,l,i⟩=>FK ?_)));subst C;calc Zuk n z B l (.inl Z) λM N D b=>#[v,_,D,b,i]
end
section
end
section
end
section
def ZlI:xU X (.builtin "len") (λxs H Q=>∃a kvs,xs=[V.ref a]/\H a=U (.dK kvs)/\Q (.int ⇑kvs) H):=by intro f s σ H xs e Q I r h;let#[a,kvs,Z,c,q]:=h;let#[u,Z,b]:=py r;cases b;calc Zul I (.inl c) λt g d=>#[.int ⇑kvs,H,d,#[t,Z],q]
end
section
variable {κ:Type}[DecidableEq κ]
def ZlT {kvs:List (κ×V)}{k:κ}(h:kK kvs k=O):¬k∈kvs.map (·.1):=by intro m;let#[p,b,e]:=vJ.mp m;let q:(kvs.any λa=>R (a.1=k))=Y:=Bs.mpr #[p,b,R5 e];rw[Eu,h]at q;calc Sa q {}
def ZnQ {kvs:List (κ×V)}{k:κ}{v:V}(h:kK kvs k=U v):k∈kvs.map (·.1):=by
 let q:(kvs.any λa=>R (a.1=k))=Y:=by rw[Eu,h];all_goals rfl
 let#[p,b,e]:=Bs.mp q;calc vJ.mpr #[p,b,R7 e]
theorem NS:∀ {l:List κ} {k:κ},l.Nodup->¬k∈l->(l++[k]).Nodup
 | [],k,_,_=>by simp
 | a::r,k,h,hk=>by
  let#[h1,h2]:=y4.mp h;show (a::(r++[k])).Nodup;calc y4.mpr #[λm=>?_,NS h2 λm=>hk (vg.mpr (jl m))];rcases wM.mp m with q | q
  .exact h1 q
  .exact hk (vg.mpr (i0 (vI.mp q).symm))
def ZoS {kvs:List (κ×V)}{k:κ}(v:V)(a:(kvs.map (·.1)).Nodup)(h:kK kvs k=O):((kQ kvs k v).map (·.1)).Nodup:=by rw[EX v h,xO];calc NS a (ZlT h)
end
noncomputable def mR (cells:List (Str×AD)):List (Str×NameKind)->List (Str×AD)->List (Str×AD)
 | [],acc=>acc
 | (n,k)::r,acc=>if k == dv then mR cells r ((n,(cells.lookup n).getD 0)::acc) else mR cells r acc
theorem Kf {cells:List (Str×AD)}:∀(names:List (Str×NameKind)) (a:List (Str×AD)) (p:Str×AD),p∈a->p∈mR cells names a
 | [],_,_,h=>h
 | (n,k)::r,a,p,h=>by
  unfold mR;split
  .exact Kf r _ p (wU _ h)
  .exact Kf r a p h
theorem Kd {cells:List (Str×AD)}{x:Str}:∀(names:List (Str×NameKind)) (a:List (Str×AD)),(x,dv)∈names->(x,(cells.lookup x).getD 0)∈mR cells names a
 | [],_,h=>by cases h
 | (n,k)::r,a,h=>by
  unfold mR;rcases vg.mp h with e | h
  .let e1:x=n:=R9 Prod.fst e;let b:dv=k:=R9 Prod.snd e;subst e1 b;exact Kf r _ _ xy
  .split
   .exact Kd r _ h
   .exact Kd r _ h
theorem LH {cells:List (Str×AD)}:∀(names:List (Str×NameKind)) (a:List (Str×AD)) (p:Str×AD),p∈mR cells names a->p∈a\/((p.1,dv)∈names/\p.2=(cells.lookup p.1).getD 0)
 | [],_,_,h=>.inl h
 | (n,k)::r,a,p,h=>by
  unfold mR at h;split at h
  .rename_i hk
   let hk':k=NameKind.free:=by simpa using hk
   rcases LH r _ p h with q | ⟨q,e⟩
   .rcases vg.mp q with q | q
    .subst q;subst hk';exact .inr #[xy,Z]
    .exact .inl q
   .exact .inr #[wU _ q,e]
  .rcases LH r _ p h with q | ⟨q,e⟩
   .exact .inl q
   .exact .inr #[wU _ q,e]
def RZ (h:∀y∈sc.names,y.2=dv->∃c,env.cells.lookup y.1=U c):closureFor sc env=pure (mR env.cells sc.names []):=by
 let g:∀(names:List (Str×NameKind)) (b:List (Str×AD)),(∀y∈names,y.2=dv->∃c,env.cells.lookup y.1=U c) ->
   (forIn names b λ(y:Str×NameKind) (d:List (Str×AD))=>(if (y.2 == dv)=Y then (do let a <-cellOf env y.1;pure (im ((y.1,a)::d))) else pure (im d):Sem (ForInStep (List (Str×AD)))))=pure (mR env.cells names b):=by
  intro names;induction names with
  | nil=>intro b _;rfl
  | cons y r l=>
   intro b e;let#[n,k]:=y;rw[List.forIn_cons];unfold mR;by_cases j:k=dv
   .subst j;let#[c,o]:=e (n,dv) xy Z;let i:env.cells.lookup n=U c:=o;simp only[beq_self_eq_true,if_true,cellOf,i,pure_bind,Option.getD_some];exact l _ λz f=>e z (wU _ f)
   .let m:(k == dv)=J:=by simpa using j
    simp only[m,Cy,if_false,pure_bind];exact l _ λz f=>e z (wU _ f)
 let q:=g sc.names [] h;unfold closureFor;show (forIn sc.names [] λ(y:Str×NameKind) (d:List (Str×AD))=>_) >>= _=_
 first
  | (rw[q];rfl)
  | (calc Eq.trans (R9 (λt=>t >>= λd=>pure d) q) ?_;rfl)
structure mj (X:Cx)(sc:Scope):Prop where
 kind:sc.kind=.function
 nocell:∀y∈sc.names,y.2≠NameKind.cell
 loc:∀y∈sc.names,y.2=NameKind.local->sc.names.lookup y.1=U .local
 clos:∀y∈sc.names,y.2=dv->(X.env.kindOf y.1=U .cell\/X.env.kindOf y.1=U .free)
noncomputable def oY (ix:List (Option Nat))(σ:St):St:=ix.map λo=>o.bind λi=>(σ[i]?).join
noncomputable def Gm (N M:AJ)(a:Scope)(ix:List (Option Nat)):Bool:=
 ⇑ix == ⇑N&&(N.zip ix).all λp=>match p.2 with | none=>Y | some i=>R (M[i]?=U p.1)&&R (a.names.lookup p.1=U dv)
def bx (X:Cx)(a:Scope)(N:AJ)(b:List AD)(s_0:AE)(H:Hp)(pn:AA):Cx:=
 { X with N:=N,s_0:=s_0,H_0:=H,env:=compEnvC a (mR X.env.cells a.names []) ↥s_0 X.env,outer:=X.stack,stack:=X.stack,ex:=b,fn:=λ_=>J,pn:=pn,xe:=λ_ _=>False }
def Ph (h:(relabel sc env).names.lookup x=U k):(x,k)∈sc.names\/(k=.cell/\(x,dv)∈sc.names):=by
 let m:=Du h;unfold relabel at m;let#[#[n,c],d,e]:=vJ.mp m;dsimp only at e;split at e
 .rename_i f
  let a:n=x:=R9 Prod.fst e;let b:NameKind.cell=k:=R9 Prod.snd e;let g:c=NameKind.free:=by rw[vW,vW]at f;simpa using f.1.1
  subst a b g;exact .inr #[Z,d]
 .let a:n=x:=R9 Prod.fst e;let b:c=k:=R9 Prod.snd e;subst a b;calc .inl d
theorem NF {env:Env}{x:Str}:∀ {names:List (Str×NameKind)},names.lookup x=U dv ->
  (names.map λ(n,k)=>if (k == dv&&env.scope.kind == .function&&env.kindOf n == U .cell) then (n,NameKind.cell) else (n,k)).lookup x=U .cell \/
  (names.map λ(n,k)=>if (k == dv&&env.scope.kind == .function&&env.kindOf n == U .cell) then (n,NameKind.cell) else (n,k)).lookup x=U .free
 | [],h=>by simp at h
 | (n,k)::r,h=>by
  by_cases hx:x=n
  .subst hx;simp only[Bl,beq_self_eq_true]at h;cases h;simp only[vP];split
   .left;simp[Bl]
   .right;simp[Bl]
  .let hb:(x == n)=J:=by simpa using hx
   simp only[Bl,hb]at h;let a:=NF (env:=env) h;simp only[vP];split
   .simpa only[Bl,hb] using a
   .simpa only[Bl,hb] using a
theorem P7 {α:Type}{x:Str}{c:α}:∀ {l:List (Str×α)},(x,c)∈l->∃a,l.lookup x=U a
 | [],h=>by cases h
 | (n,d)::r,h=>by
  by_cases hx:x=n
  .subst hx;exact#[d,by simp[Bl]]
  .let hb:(x == n)=J:=by simpa using hx
   rcases vg.mp h with e | h
   .exact Sa (R9 Prod.fst e) hx
   .obtain⟨a,e⟩:=P7 h;calc#[a,by simpa only[Bl,hb] using e]
section
def uB.capt (I:uB X BO σ H s)(S:mj X sc):∀y∈sc.names,y.2=dv->∃c,X.env.cells.lookup y.1=U c:=λy a e=>I.ok.has y.1 (S.clos y a e)
def uB.clcell (I:uB X BO σ H s)(S:mj X sc){x:Str}{c:AD}(h:(mR X.env.cells sc.names []).lookup x=U c):X.env.cells.lookup x=U c:=by
 rcases LH _ _ _ (Du h) with q | ⟨q,e⟩
 .cases q
 .obtain⟨c',d⟩:=I.capt S _ q Z;let a:X.env.cells.lookup x=U c':=d;let b:c=(X.env.cells.lookup x).getD 0:=e;rw[a,Option.getD_some]at b;rw[b];calc a
def uB.clhas (I:uB X BO σ H s)(S:mj X sc){x:Str}(h:(x,dv)∈sc.names):∃c,(mR X.env.cells sc.names []).lookup x=U c/\X.env.cells.lookup x=U c:=by let#[c,e]:=P7 (Kd (cells:=X.env.cells) sc.names [] h);calc#[c,e,I.clcell S e]
def uB.block (I:uB X BO σ H s)(S:mj X sc)(r:Gm N X.N sc ix=Y)(L:∀b∈fp,nU X BO H b/\b<↥s)
  (G:∀b o,s.heap.get? b=U o->h1.get? b=U o) (hn:h1.Ns ↥s m) (M:autoParam (s.toks<=tk) Xz._auto_1):
  uB (bx X sc N fp s H (X.pn++BO)) [] (oY ix σ) H { s with heap:=h1,toks:=tk }:=by
 let hC:∀b o,s.heap.get? b=U o->b≠↥s:=λb o e=>wk (vq e);let B:∀x c,(mR X.env.cells sc.names []).lookup x=U c->∃v,s.heap.IsCell c v:=λx c e=>I.cell x c (I.clcell S e);let E:∀b,b≠X.env.locals->b∉X.fs->b∉wO X.stack:=λb h1 h2 A=>by
  rcases vg.mp (I.stkSub b A) with z | z
  .exact h1 z
  .exact h2 z
 rw[Gm,vW]at r;refine⟨⟨I.ok.mod,S.kind,I.ok.glob,I.ok.blt,uV _,?_,?_,?_,I.ok.hd,I.ok.frames,.inl Z,?_,I.bs,u8 I.ok.bsz I.sz,?_,?_,I.stack,I.stkFree⟩,
  rfl,I.bare,Un.kept G,⟨m,hn,?_⟩,?_,I.fresh,?_,?_,I.hok.kept G,?_,I.gh.le M⟩
 .intro x y c D g;exact I.ok.inj x y c (I.clcell S D) (I.clcell S g)
 .intro x t;let t:(relabel sc X.env).names.lookup x=U .cell\/(relabel sc X.env).names.lookup x=U .free:=t;let hm:(x,dv)∈sc.names:=by
   rcases t with t | t
   .rcases Ph t with q | ⟨_,q⟩
    .exact Sa Z (S.nocell _ q)
    .exact q
   .rcases Ph t with q | ⟨q,_⟩
    .exact q
    .cases q
  let#[c,e,_]:=I.clhas S hm;exact#[c,e]
 .intro x c z;cases z
 .intro b A;let#[f,BY]:=L b A;refine#[wk BY,λx c e=>f.2.2.2.2.1 x c (I.clcell S e)]
 .intro b o e A;let#[#[_,_,_,f3,_],_]:=L b A;rcases f3 with z | z
  .exact I.ok.noex b o e z
  .exact Sa (vq e) (Nat.not_lt.mpr (u8 I.ok.bsz z))
 .intro b A;let#[#[_,f1,f2,_],_]:=L b A;exact E b f1 f2
 .intro i x v D g e3;let D:N[i]?=U x:=D;let hi:∃j,ix[i]?=U (U j)/\σ[j]?=U (U v):=by
   unfold oY at g;rw[wI]at g;cases q:ix[i]? with
   | none=>rw[q]at g;cases g
   | some o=>
    rw[q]at g;cases o with
    | none=>cases g
    | some j=>
     calc#[j,Z,?_];let K:(σ[j]?).join=U v:=cx g;cases q2:σ[j]? with
     | none=>rw[q2]at K;cases K
     | some w=>rw[q2]at K;cases w with
      | none=>cases K
      | some w=>rw[<-K];rfl
  let#[j,hj,P]:=hi;let hz:(x,U j)∈N.zip ix:=by
   let q:(N.zip ix)[i]?=U (x,U j):=by rw[List.getElem?_zip_eq_some];exact#[D,hj]
   exact wL q
  let h:=xT.mp r.2 _ hz;dsimp only at h;rw[vW]at h;let hM:X.N[j]?=U x:=R7 h.1;let C:sc.names.lookup x=U NameKind.free:=R7 h.2;let a:=Du C;let#[mo,aa,T]:=I.loc;let F:Fv X.env.scope x:=by
   rcases S.clos _ a Z with z | z
   .exact .inr (.inl z)
   .exact .inr (.inr z)
  let#[u,ru,l]:=T j x v hM P F;refine#[u,ru,.inr #[?_,?_]]
  .exact NF (env:=X.env) C
  .obtain⟨c,e,e'⟩:=I.clhas S a;calc#[c,e,?_];rcases l with⟨k,_⟩|⟨_,c',W,z⟩
   .rcases S.clos _ a Z with q | q
    .rw[k]at q;cases q
    .rw[k]at q;cases q
   .rw[e']at W;cases W;let#[o,V,Q]:=z;exact#[o,G _ _ V,Q]
 .intro x c e;let#[v,o,V,Q]:=B x c e;exact#[v,o,G _ _ V,Q]
 .intro x c e;exact I.freeC x c (I.clcell S e)
 .intro p h;let h:p∈X.pn++BO:=by
   rcases wM.mp h with z | z
   .exact z
   .cases z
  let#[e,n,ne,nf,d]:=I.pin p h;exact#[G _ _ e,n,hC _ _ e,E p.1 ne nf,d]
 .show ⇑(oY ix σ)=⇑N;unfold oY;rw[uO];simpa using r.1
def uB.unblock (I:uB X BO σ H s)(m:∀b∈fp,nU X BO H b)(a:uB (bx X sc N fp s H (X.pn++BO)) [] τ H' s')(g:Heap.SameBut ↥s s'.heap h'):
  uB X BO σ H' { s' with heap:=h' }:=by
 let nC:∀b o,s.heap.get? b=U o->b≠↥s:=λb o e=>wk (vq e);let d:H' ↥s=O:=a.free;let u:Un (wO X.stack) fp H H' s.heap s'.heap:=a.base;let j:wD X.prog X.w H' h':=λb k e=>by
  calc(a.hok b k e).stay (λc y h q=>(g.2 c ?_).trans q) (λ_ q=>q) λ_ _ q=>q;rintro rfl;rcases h with rfl | h
  .rw[d]at e;cases e
  .rw[d]at h;cases h
 refine I.call' (s':={ s' with heap:=h' }) (ch:=fp) a.os #[λb o e n i f=>(g.2 b (nC b o e)).trans (u.keep b o e n i f),λb o e n i f=>?_,u.free,λb o e f=>?_,u.tups,u.frzs,u.tbls] j a.bare (λb p=>?_) a.gh
 .obtain⟨l,q⟩:=u.slot b o e n i f;exact#[l,(g.2 b (nC b o e)).trans q]
 .obtain⟨t,q⟩:=u.there b o e f;exact#[t,(g.2 b (nC b o e)).trans q]
 .obtain⟨_,v,_,x,r,w⟩:=m b p;calc#[x,v,r,w]
end
def pT (X:Cx)(a:List Expr)(t:TT):Prop:=
 ∀(b:AA)(s:AE)(σ:St)(H:Hp)(Q:Bool->Hp->Prop),uB X b σ H s->t σ H Q ->
  bR (bJ X.prog X.w) X.A (forIn a Y λc r=>if r=Y then do let ok <-isTrue c X.env (eval c X.env);pure (im ok) else pure (im r)) (TP X b σ Q) X.xe s
def oV:TT:=λ_ H Q=>Q Y H
def yI:pT X [] oV:=λ_ _ _ H _ I h=>wpAny_tests_nil #[H,I,h]
def Hh (h:PT X c t):pT X [c] t:=λa s σ H Q I q=>wpAny_tests_one (h a s σ H Q I q)
theorem Zhw (W:Nat->AE->Prop)
  (turn:∀n s,W n s->bR (bJ prog w) A (pyNext it) (λr s_1=>match r with
   | none=>R_ (.ok .next) s_1
   | some v=>bR (bJ prog w) A (letOwnedTupleGo tgt it v) (λ_ s1_'=>bR (bJ prog w) A (assign tgt env v) (λ_ s_2=>
     bR (bJ prog w) A (forIn ifs Y λc r=>if r=Y then do let ok <-isTrue c env (eval c env);pure (im ok) else pure (im r)) (λok s₃=>
      if ok=Y then bR (bJ prog w) A (eval el env) (λx s₄=>
       bR (bJ prog w) A (call (.builtin "list.append") [acc,x]) (λ_ s₅=>∃m,m<n/\W m s₅) (λ_ _=>False) s₄) (λ_ _=>False) s₃
      else ∃m,m<n/\W m s₃) (λ_ _=>False) s_2) (λ_ _=>False) s1_') (λ_ _=>False) s_1) (λ_ _=>False) s)
  (n:Nat) (h:W n s):codeAny (bJ prog w) A (.compLoop (.ListComp el [#[tgt,iter,ifs,0]] scp pos) 0 it acc env) R_ s:=by
 calc codeAny_loop Z W (λn s hI=>?_) n h;show bR _ A ((compTurn (.ListComp el [#[tgt,iter,ifs,0]] scp pos) 0 it acc env).onRaise (λx=>do noteFrame x env;theTreesLotGoes x)) _ _ s;calc wpAny_noted ?_;rw[compTurn_list];calc uC (EI (uC (xq (turn n s hI) (λr s1 q1=>?_) λ_ _ z=>z.elim)));cases r with
 | none=>exact uS q1
 | some v=>
  calc uC (xq q1 (λ_ s1' q1'=>?_) λ_ _ z=>z.elim);calc uC (xq q1' (λ_ s2 q2=>uC (xq q2 (λok s3 q3=>?_) λ_ _ z=>z.elim)) λ_ _ z=>z.elim);cases ok with
  | false=>exact uS #[Z,q3]
  | true=>calc uC (uC (xq q3 (λx s4 q4=>uC (xq q4 (λ_ s5 q5=>uS (uS #[Z,q5])) λ_ _ z=>z.elim)) λ_ _ z=>z.elim))
def K5 (ix:List (Option Nat))(t:TI)(g:TG)(s:TT)(q:TE):TE:=λσ H Q=>t σ H λh k=>∀a,k a=O->∃W:Nat->Nat->St->Hp->Prop,(∃m,W 0 m (oY ix σ) (upd k a (.lst []))) /\
 ∀i m τ d,W i m τ d->(h.stop i d/\Q (.ref a) d)\/(h.go i d/\∃f:St->Hp->Prop,(∀e j,f e j->∃n,n<m/\W (i+1) n e j) /\
  ∀x o,h.yld i d x o->g x τ o λc r=>s c r λb l=>if b=Y then q c l λy p=>∃ys,p a=U (.lst ys)/\⇑ys<sizeLine/\f c (upd p a (.lst (ys++[y]))) else f c l)
section
def Nt {Q:VK}{t:AA}{s:AE}{σ:St}{H:Hp}{it:AD}{h:List AD}{V:Nat->Heap->Prop}{J_:It}{RR:bU->AD->Result->AE->Prop}
  (hc:X.calm=Y) (S:mj X sc) (au:Gm N X.N sc ix=Y)
  (hg:∀h A C pn,PG (bx X sc N h A C pn) tg g) (ht:∀h A C pn,pT (bx X sc N h A C pn) ifs tt) (he:∀h A C pn,PE (bx X sc N h A C pn) elt te)
  (I:uB X t σ H s) (T:o5 X.prog X.w X.K tg J_ h it V) (st:V 0 s.heap) (hf:∀b∈h,nU X t H b)
  (q:∀a,H a=O->∃W:Nat->Nat->St->Hp->Prop,(∃m,W 0 m (oY ix σ) (upd H a (.lst []))) /\
   ∀i m τ H2,W i m τ H2->(J_.stop i H2/\Q (.ref a) H2)\/(J_.go i H2/\∃Nx:St->Hp->Prop,(∀ac H',Nx ac H'->∃m',m'<m/\W (i+1) m' ac H') /\
    ∀x H3,J_.yld i H2 x H3->g x τ H3 λτ2 H4=>tt τ2 H4 λb H5=>if b=Y then te τ2 H5 λy H6=>∃ys,H6 a=U (.lst ys)/\⇑ys<sizeLine/\Nx τ2 (upd H6 a (.lst (ys++[y]))) else Nx τ2 H5))
  (hR:∀(a:AD)(k s':AE)(τ:St)(H':Hp),uB X t σ (upd H a (.lst [])) k->(∀b∈h,nU X t (upd H a (.lst [])) b)->uB (bx X sc N h k (upd H a (.lst [])) (X.pn++t)) [] τ H' s'->Q (.ref a) H' ->
   RR (.ref a) ↥k (.ok .next) s'):
  bR (bJ X.prog X.w) X.A (newList []) (λa k=>bR (bJ X.prog X.w) X.A (newFunctionEnv sc X.env.globals (mR X.env.cells sc.names []) [] X.env.qual O .none (U X.env)) (λcenv s₄=>
   codeAny (bJ X.prog X.w) X.A (.compStart (.ListComp elt [#[tg,iter,ifs,0]] sc pos) 0 (.ref it) a { cenv with scope:=relabel sc X.env }) (RR a cenv.locals) s₄) X.xe k) X.xe s:=by
 calc Df ?_;let aq:=I.fresh;let I3:=I.lnew (its:=[]) (ys:=[]) (t':=s.toks) .nil (wf _);let ad:∀b∈h,b<↥s:=λb j=>by let#[o,e,_]:=T.obj 0 _ st b j;exact vq e
 let K:∀b∈h,nU X t (upd H ↥s (.lst [])) b:=λb j=>by let#[f0,f]:=hf b j;calc#[?_,f];rw[uF (wk (ad b j))];exact f0
 let q3:=q _ aq;let ab:V 0 (s.heap.push { cls:=.type "list",data:=.seq ↑([]:AC) }):=T.keep _ _ _ st λb _ o e=>vy _ e;generalize e3:({ s with heap:=s.heap.push { cls:=.type "list",data:=.seq ↑([]:AC) },toks:=s.toks }:AE)=s3 at I3;let aa:s3.heap=s.heap.push { cls:=.type "list",data:=.seq ↑([]:AC) }:=by rw[<-e3]
 rw[<-aa]at ab;let G:∀b∈h,nU X t (upd H ↥s (.lst [])) b/\b<↥s3:=λb j=>#[K b j,by rw[aa,zO];calc Nat.lt_succ_of_lt (ad b j)];calc wpAny_newFunctionEnv S.nocell (by intro y hy;cases hy) (λh_1 ae aj=>?_) S.kind;let hk:∀b o,s3.heap.get? b=U o->h_1.get? b=U o:=λb o e=>aj.extBut b o (wk (vq e)) (vy _ e);let I4:=I3.block (N:=N) (ix:=ix) (tk:=s3.toks+⇑([]:List (Str×bU))) S au G hk ae;let af:V 0 h_1:=T.keep _ _ _ ab λb _ o e=>hk b o e;let#[W,#[m0,w0],ah]:=q3;let l:∀ {H':Hp},(∀b∈h,H' b=O)->∀b∈h,nU (bx X sc N h s3 (upd H ↥s (.lst [])) (X.pn++t)) [] H' b:=λ{H'} hn b j=>by
  let#[#[_,f1,f2,f3,f4,f5],BY]:=G b j;refine#[hn b j,wk BY,λz=>?_,.inl j,λx c e=>f4 x c (I3.clcell S e),λp hp=>?_]
  .rcases vg.mp (I3.stkSub b z) with z | z
   .exact f1 z
   .exact f2 z
  .refine f5 p ?_;rcases wM.mp hp with z | z
   .exact z
   .cases z
 let F:∀s4:AE,s4={ s3 with heap:=h_1,toks:=s3.toks+⇑([]:List (Str×bU)) } ->
   codeAny (bJ X.prog X.w) X.A (.compLoop (.ListComp elt [#[tg,iter,ifs,0]] sc pos) 0 (.ref it) (.ref ↥s) (compEnvC sc (mR X.env.cells sc.names []) ↥s3 X.env)) (RR (.ref ↥s) ↥s3) s4:=by
  rintro s4 rfl;calc Zhw (λn s'=>∃i τ H',uB (bx X sc N h s3 (upd H ↥s (.lst [])) (X.pn++t)) [] τ H' s'/\V i s'.heap/\(∀b∈h,H' b=O)/\W i n τ H') ?_ m0 #[0,_,_,I4,af,λb j=>(K b j).1,w0];rintro n s5 ⟨i,τ,H5,I5,ag,ai,w5⟩;rcases ah i n τ H5 w5 with⟨ak,qn⟩|⟨go,Nx,hN,step⟩
  .refine uW (T.done (bx X sc N h s3 (upd H ↥s (.lst [])) (X.pn++t)) Z Z Z hc i [] s5 τ H5 (λ_ _=>False) I5 (l ai) ag ak) λr s6 w=>?_;let#[hr,I6]:=w;subst hr;exact hR _ _ _ _ _ I3 K I6 qn
  .refine uW (T.item (bx X sc N h s3 (upd H ↥s (.lst [])) (X.pn++t)) Z Z Z hc i [] s5 τ H5 (λ_ _=>False) I5 (l ai) ag go) λr s6 w=>?_;let#[u,hr,h6]:=w;subst hr;calc uW h6 λ_ s7 w=>?_;let#[x,H7,I7,r7,y7,L,am]:=w;let ao:=I7.pinned (l am) (T.obj _ _ L);calc uW (hg _ _ _ _ _ s7 τ H7 x u _ ao r7 (step x H7 y7)) λ_ s8 w=>?_;let#[E,H8,I8,q8]:=w;let D:∀ {s9:AE} {B:St} {M:Hp},uB (bx X sc N h s3 (upd H ↥s (.lst [])) (X.pn++t)) ([]++GY h s7.heap) B M s9->Nx B M ->
     ∃m,m<n/\∃i τ H',uB (bx X sc N h s3 (upd H ↥s (.lst [])) (X.pn++t)) [] τ H' s9/\V i s9.heap/\(∀b∈h,H' b=O)/\W i m τ H':=λ{s9 B M} P n9=>by
    let#[m',hm,w9]:=hN B M n9;calc#[m',hm,i+1,B,M,P.unpinned,T.keep _ _ _ L λb j o e=>(P.pin (b,o) (Cc _ (Cc _ (Ji j e)))).1,λb j=>?_,w9];let#[o,e,d]:=T.obj _ _ L b j;exact(P.pin (b,o) (Cc _ (Cc _ (Ji j e)))).2.1
   calc uW (ht _ _ _ _ _ s8 E H8 _ I8 q8) λok s9 w=>?_;let#[M,P,q9]:=w;cases ok with
   | false=>exact D P q9
   | true=>
    rw[uM Z]at q9 ⊢;calc uW (he _ _ _ _ _ s9 E M _ P q9) λyv av w=>?_;let#[y,aw,al,an,ys,ha,hz,as]:=w;calc uW (zY _ av E aw (.ref ↥s) [y] (.ref ↥s) [yv] (λv H'=>v=.non/\Nx E H') al Z (.cons an .nil) #[_,ys,y,Z,Z,ha,hz,Z,as]) λ_ ay w=>?_;let#[_,ax,ap,_,_,ar]:=w;exact D ap ar
 calc codeAny_compStart_list (F _ Z) (T.self _ 0 _ _ _ af (F _ Z))
def yn (u:X.calm=Y)(S:mj X sc)(i:Gm N X.N sc ix=Y)(A:PI X tg iter wi)
  (p:∀d b a f,PG (bx X sc N d b a f) tg g) (G:∀d b a f,pT (bx X sc N d b a f) ifs tt) (L:∀d b a f,PE (bx X sc N d b a f) elt te)
  (E:autoParam (∀x,foldedSetIterable iter X.env x=pure x) Xj._auto_1):PE X (.ListComp elt [#[tg,iter,ifs,0]] sc pos) (K5 ix wi g tt te):=by
 intro o s σ H Q I h;rw[eval_ListComp];calc wpAny_comprehension_free (use:=O) Z E (RZ (I.capt S)) S.kind S.loc (uW (A o s σ H _ I h) λv s1 F=>uW F λt s2 D=>?_);let#[it,d,tn,J_,P,e,r,T,k,w,q]:=D;subst e;calc Nt (Q:=Q) (RR:=λc C=>compPost (bJ X.prog X.w) X.A X.xe O (EP X o σ Q) c C) u S i p G L r T k w q ?_;intro c W V τ y K l n B;let#[m,z,_]:=n.loc;calc#[m,z,λM j=>#[.ref c,y,K.unblock l n j,Z,B]]
def Lp (aa:swapsWith (.ListComp elt [#[tg,iter,ifs,0]] sc pos) (U (.Name x px)) spos.line X.env=pure Y)
  (hN:X.N.Nodup) (K:X.N[i]?=U x) (hx:X.env.scope.names.lookup x=U .local) (r:X.calm=Y) (S:mj X sc) (G:Gm N X.N sc ix=Y) (hi:PI X tg iter wi)
  (hg:∀n f d u,PG (bx X sc N n f d u) tg g) (ht:∀n f d u,pT (bx X sc N n f d u) ifs tt) (he:∀n f d u,PE (bx X sc N n f d u) elt te)
  (hs:autoParam (∀x,foldedSetIterable iter X.env x=pure x) Xj._auto_1):PS X (.Assign [.Name x px] (.ListComp elt [#[tg,iter,ifs,0]] sc pos) spos) (pJ (K5 ix wi g tt te) (xW i)):=by
 intro E s σ H D I h;rw[exec_Assign_Name_used _ _ _ _ aa];calc uC (EI (uC ?_));show bR _ X.A (do let _ <-comprehension (.ListComp elt [#[tg,iter,ifs,0]] sc pos) sc X.env _ (newList []) J (eval iter X.env) (U (assign (.Name x px) X.env))) _ _ s;refine uC (xq (wpAny_comprehension_free (use:=U (assign (.Name x px) X.env)) (Q:=λ_ s'=>SP X E D .next s') Z hs (RZ (I.capt S)) S.kind S.loc
  (uW (hi E s σ H _ I h) λv s1 h1=>uW h1 λab s2 h2=>?_)) (λ_ s' hq=>uS (uS hq)) λ_ _ z=>z)
 let#[it,n,tn,J_,H2,e,I2,T,M,f2,q]:=h2;subst e;calc Nt (Q:=λy H1=>xW i y σ H1 D.nx) (RR:=λj C=>compPost (bJ X.prog X.w) X.A X.xe (U (assign (.Name x px) X.env)) (λ_ s'=>SP X E D .next s') j C) r S G hg ht he I2 T M f2 q ?_;intro j l s' τ F t P L qq;show bR _ X.A (assign (.Name x px) X.env (.ref j)) _ _ _;let I5:uB X E σ F s':=t.unblock P L (.refl ..);let#[m,W,_]:=L.loc;let W:s'.heap.Ns ↥l m:=W;let B:↥l≠X.env.locals:=Ee t.lt;calc wpAny_assign_Name (OA I5 hN K (.inl hx) (v:=.ref j) Z (λs6 I6 ⟨a,sb,A⟩=>?_) (.inr hx));let ea:a≠↥l:=by
  rcases A with A | A
  .rw[A];exact uZ B
  .obtain⟨v,o,ho,_⟩:=t.cell x a A;exact wk (vq ho)
 calc#[m,W.sameBut sb (uZ ea),λh' w=>?_];let k:F ↥l=O:=L.free;calc#[_,F,?_,qq];let ok:wD X.prog X.w F h':=λb ob e=>by
  calc(I6.hok b ob e).stay (λc w' r q=>(w.2 c ?_).trans q) (λ_ q=>q) λ_ _ q=>q;rintro rfl;rcases r with rfl | r
  .rw[k]at e;cases e
  .rw[k]at r;cases r
 let l3:↥X.s_0<=↥l:=t.sz;let V:∀y c,X.env.cells.lookup y=U c->c≠↥l:=λy c e z=>by let#[v,o,ho,_]:=t.cell y c e;exact Sa (vq ho) (by rw[z];calc xB _)
 calc I6.turned (t':=s6.toks) (it:=↥l) (λb o hb e=>(w.2 b hb).trans e) k B (.inr l3) V λp hp z=>by have:=(t.pin p hp).1;calc Sa (vq this) (by rw[z];calc xB _)
end
noncomputable abbrev tx (l:uz):V:=.str #[↑l]
def GZ:tx a=tx b↔a=b:=by
 constructor
 .intro h;let d:(#[↑a]:Str)=#[↑b]:=V.str.inj h;let c:↑a=↑b:=R9 Str.cps d;simpa using c
 .rintro rfl;rfl
def CA:R (tx a=tx b)=R (a=b):=by
 by_cases h:a=b
 .subst h;simp
 .rw[R6 h,R6 λz=>h (GZ.mp z)]
def xK (l:uz):⇑(#[↑l]:Str)=⇑l:=by show l.toArray.size=⇑l;simp
def QL (x y:V)(p:uz->uz->Prop):Prop:=match x,y with | .str a,.str b=>p a.cps.toList b.cps.toList | _,_=>False
def Zrd (h:QL x y p):∃a b,x=tx a/\y=tx b/\p a b:=by cases x<;>first | calc ff h | (cases y<;>first | calc#[_,_,Z,Z,h] | calc ff h)
def rT (C:uz->uz->Prop)(g:uz->uz->V):R2:=λx y H Q=>QL x y λa b=>C a b/\Q (g a b) H
def xt {α:Type}(l:List α)(a b:Option Int):List α:=(l.drop (HT.sIx ⇑l 0 a)).take (HT.sIx ⇑l ⇑l b-HT.sIx ⇑l 0 a)
def P4 (l:List α)(a b:Option Int):⇑(xt l a b)<=⇑l:=by
 unfold xt;rw[xw,yR]
 nofun
def OF (l:List α)(a b:Nat):xt l (U (a:Int)) (U (b:Int))=(l.drop a).take (b-a):=by
 unfold xt;rw[HT.sIx_nat,HT.sIx_nat];apply Fm;intro i;simp only[Fb,EG];by_cases d:i<min b ⇑l-min a ⇑l
 .rw[uM d,uM ∅];congr 1;nofun
 .rw[uI d];by_cases c:i<b-a
  .rw[uM c,Ci ∅]
  .rw[uI c]
def ET (l:List α)(b:Nat):xt l O (U (b:Int))=l.take b:=by
 unfold xt;rw[HT.sIx_nat,HT.sIx_none];apply Fm;intro i;simp only[Fb,EG,Nat.zero_add,Nat.sub_zero];by_cases c:i<min b ⇑l
 .rw[uM c,uM ∅]
 .rw[uI c];by_cases a:i<b
  .rw[uM a,Ci ∅]
  .rw[uI a]
def DP (l:List α)(a:Nat):xt l (U (a:Int)) O=l.drop a:=by
 unfold xt;rw[HT.sIx_nat,HT.sIx_none];apply Fm;intro i;simp only[Fb,EG];by_cases b:i<⇑l-min a ⇑l
 .rw[uM b];congr 1;nofun
 .rw[uI b,Ci ∅]
noncomputable def IV (n:Nat)(v:Option Int)(d:Int):Int:=match v with
 | none=>d
 | some i=>max 0 (min (if i<0 then i+(n:Int) else i) (n:Int))
def Od (n d:Nat)(o:Option Int):IV n o (d:Int)=((HT.sIx n d o:Nat):Int):=by
 cases o with
 | none=>rw[HT.sIx_none];rfl
 | some v=>
  have:=HT.clip_eq v n d;unfold IV;dsimp only;rw[<-this];split<;>nofun
def Zki (c d:Option Int)(n:Nat):gP c d 1 n=(cc (HT.sIx n n d-HT.sIx n 0 c)).map λk=>HT.sIx n 0 c+k:=by
 let g:gP c d 1 n=sliceRange (IV n c ((0:Nat):Int)) (IV n d (n:Int)) 1:=by cases c<;>cases d<;>rfl
 rw[g,Od,Od];generalize HT.sIx n 0 c=a;generalize HT.sIx n n d=b;unfold sliceRange;let e:(if (1:Int)>0 then (if (a:Int)<(b:Int) then ((b:Int)-a+1-1)/1 else 0) else (if (a:Int)>(b:Int) then ((a:Int)-b-1-1)/(-1) else 0)).toNat=b-a:=by simp only[show (1:Int)>0 by decide,if_true,Int.ediv_one];split<;>nofun
 dsimp only;rw[e];apply EF;intro k _
 nofun
def PU (l:uz)(c hi:Option Int):Txt.slice #[↑l] c hi=#[↑(xt l c hi)]:=by
 let q:=HT.sIx_le ⇑l 0 (wf _) c;let o:=HT.sIx_le ⇑l ⇑l (uV _) hi;unfold Txt.slice;rw[xK,Zki];let e:((cc (HT.sIx ⇑l ⇑l hi-HT.sIx ⇑l 0 c)).map λk=>HT.sIx ⇑l 0 c+k).filterMap (λi=>l.toArray[i]?)=xt l c hi:=by
  unfold xt;generalize HT.sIx ⇑l 0 c=a at *;generalize HT.sIx ⇑l ⇑l hi=b at *;let d:∀n,a+n<=⇑l->((cc n).map λk=>a+k).filterMap (λi=>l.toArray[i]?)=(l.drop a).take n:=by
   intro n;induction n with
   | zero=>intro _;simp
   | succ n m=>
    intro p;rw[CD,xO,List.filterMap_append,m ∅,List.take_add_one];have:(l.drop a)[n]?=l[a+n]?:=EG;simp[this,vK (show a+n<⇑l by nofun)]
  by_cases j:a<=b
  .exact d _ ∅
  .have:b-a=0:=by nofun
   rw[this];simp
 split
 .rename_i g
  simp only[beq_self_eq_true,BZ,uO,Bp]at g;let f:HT.sIx ⇑l ⇑l hi-HT.sIx ⇑l 0 c=⇑l:=by simpa using g
  have:xt l c hi=l:=by
   unfold xt;let h:HT.sIx ⇑l 0 c=0:=by nofun
   rw[f,h,CO,Fs (uV _)]
  rw[this]
 .show (#[↑(List.filterMap (λi=>l.toArray[i]?) _)]:Str)=_;rw[e]
section
def uU:wG X (binaryOp .Add) (rT (λa b=>⇑a+⇑b<=sizeLine) λa b=>tx (a++b)):=by
 rintro d s σ H x y v u Q I g f h;let#[a,b,Z,Z,c,q]:=Zrd h;calc Zjw d s σ H _ _ v u Q I g f #[_,_,Z,Z,by rw[xK,xK];calc c,?_];let e:((#[↑a]:Str)++(#[↑b]:Str))=#[↑(a++b)]:=by show (#[↑a++↑b]:Str)=_;simp
 rw[e];calc q
def Zju:wG X (fx .In) (λx y H Q=>∃c l,x=tx [c]/\y=tx l/\Q (.bl (R (c∈l))) H):=by
 rintro b s σ H x y v u Q I f d ⟨c,l,rfl,rfl,q⟩;calc NV b s σ H _ _ v u Q I f d #[_,_,Z,Z,?_];let e:=StrLaws.found_one #[↑l] c;let a:(!(g0 #[↑l] #[↑[c]] 0 ⇑(#[↑l]:Str) 1).isEmpty)=R (c∈l):=by rw[show (↑[c])=↑[c] from Z,e]
 rw[a];calc q
def EU:DU X (λx y H Q=>∃l i c,x=tx l/\y=.int i/\⇑l<=sizeLine/\ye l i=U c/\Q (tx [c]) H):=by rintro a slice e s σ H x y v u Q I g d ⟨l,i,c,rfl,rfl,f,h,q⟩ b;calc Zq8 a slice e s σ H _ _ v u Q I g d #[_,i,c,Z,Z,by rw[xK];calc f,h,q] b
def zr:F1 X (λx lo hi H Q=>∃l,x=tx l/\⇑l<=sizeLine/\Q (tx (xt l lo hi)) H):=by
 rintro A s σ H x v B C lo hi y Q I m g pl r ⟨l,rfl,n,q⟩;let#[t,Z]:=m;calc#["str",_,F.slot_str_getitem.lookup,typeIs_str _ _ _,?_];let c:∀ {v:bU} {o:Option Int},IsPart v o->∃p:Option (Int×Tok),v=partValue p/\p.map (·.1)=o:=λ{v o} h=>by
  cases h with
  | none=>exact#[O,Z,Z]
  | int i t=>exact#[U (i,t),Z,Z]
 let#[a,Z,j]:=c pl;let#[b,Z,w]:=c r;calc xF (wpAny_getItem_str_slice (l:=a) (u:=b) (st:=O) g Z ?_);let e:(if ((1:Int) == 1&&⇑(gP lo hi 1 ⇑(#[↑l]:Str)) == ⇑(#[↑l]:Str))=Y then (#[↑l]:Str) else #[↑((gP lo hi 1 ⇑(#[↑l]:Str)).filterMap ((#[↑l]:Str).cps[·]?))])=#[↑(xt l lo hi)]:=PU l lo hi;unfold sliceMade slicePicked;rw[j,w];calc post_val_or_str ?_;refine#[?_,λd k=>?_]
 .show ⇑(if ((1:Int) == 1&&⇑(gP lo hi 1 ⇑(#[↑l]:Str)) == ⇑(#[↑l]:Str))=Y then (#[↑l]:Str) else #[↑((gP lo hi 1 ⇑(#[↑l]:Str)).filterMap ((#[↑l]:Str).cps[·]?))])<=sizeLine;rw[e,xK];exact u8 (P4 _ _ _) n
 .refine λf=>#[tx (xt l lo hi),H,I.tok _ f,#[d,?_],q];calc R9 (λz=>ek z d) e
def glue (a:uz):uG->uz
 | []=>[]
 | [x]=>x
 | x::r=>x++a++glue a r
theorem Rw:∀ls:uG,glue [] ls=ls.flatten
 | []=>rfl
 | [x]=>by simp[glue]
 | x::y::r=>by show x++[]++glue [] (y::r)=_;rw[Rw (y::r)];simp
theorem E1 (a:uz):∀ls:uG,Str.join #[↑a] (ls.map λl=>(#[↑l]:Str))=#[↑(glue a ls)]
 | []=>rfl
 | [x]=>rfl
 | x::y::r=>by let ih:=E1 a (y::r);show (#[↑x]:Str)++#[↑a]++Str.join #[↑a] ((y::r).map λl=>(#[↑l]:Str))=_;rw[ih];show (#[↑x++↑a++↑(glue a (y::r))]:Str)=#[↑(x++a++glue a (y::r))];simp
theorem HZ:∀ {ls:uG} {us:AC},kJ (ls.map tx) us->StrsAre us (ls.map λl=>(#[↑l]:Str))
 | [],us,r=>by
  rw[Dd]at r;cases r;exact .nil
 | l::ls,us,r=>by
  rw[vP]at r;cases r with
  | cons r1 r2=>
   let#[t,e]:=r1;subst e;calc .cons _ t (HZ r2)
def OD:C5 X "str.join" (λx vs H Q=>∃b a ls,x=tx b/\vs=[.ref a]/\H a=U (.lst (ls.map tx))/\(ls.map fu).sum+⇑ls*⇑b<=16777216/\Q (tx (glue b ls)) H):=by
 rintro y s σ H x vs v w Q I p d ⟨b,a,ls,rfl,rfl,f,m,q⟩;let#[t,Z]:=p;let#[u,Z,c]:=d.one;cases c;let#[_,h,n,r,_,e]:=I.lstM f;refine xF (join_list (GO e) (HZ (~~~r)) ?_ λj k=>?_)
 .let i:((ls.map λl=>(#[↑l]:Str)).map (·.length)).sum=(ls.map fu).sum:=by rw[wE];congr 1;all_goals (apply EF;intro l _;calc xK l)
  rw[i,uO,xK];exact m
 .refine λg=>#[tx (glue b ls),H,I.tok _ g,#[j,?_],q];let o:Txt.join #[↑b] (ls.map λl=>(#[↑l]:Str))=#[↑(glue b ls)]:=by show Builtin.Str.glued _ _=_;rw[StrLaws.glued_eq_join,E1]
  rw[o]
end
def DK (l:uz):It:=#[λi _=>i<⇑l,λi H x a=>a=H/\∃c,l[i]?=U c/\x=tx [c],λi _=>⇑l<=i]
def Zj5 {P:AG}{w:AI}{K:uH}{tg:Expr}(l:uz)(t:Tok)(it:AD)(ty:String)(g:ty="str_ascii_iterator"\/ty="str_iterator"):o5 P w K tg (DK l) [it] it (λi h=>h.IsStrIter it ty #[↑l] t i) where
 mem:=by simp
 obj:=λi h f b j=>by
  let e:b=it:=by simpa using j
  subst e;let#[o,e,c,d]:=f;exact#[o,e,λv z=>by rw[d]at z;cases z]
 keep:=λi h h' f k=>by let#[o,e,r]:=f;exact#[o,k it {} o e,r]
 item:=by
  intro X W S V N i M s σ H E I y f m;subst W S V;let#[B,C,f2,D,F,G]:=y it {};let m:i<⇑l:=m;let p:(#[↑l]:Str).cps[i]?=U l[i]:=by show l.toArray[i]?=U l[i];simp[m]
  let n:∀(h':Heap)(tk:Tok),s.toks<=tk->h'.IsStrIter it ty #[↑l] t (i+1)->Heap.SameBut it s.heap h' ->
    ∃u,U (ek #[↑[l[i]]] s.toks)=U u/\bR (bJ X.prog X.w) X.A (letOwnedTupleGo tg (.ref it) u) (λ_ s2=>∃x T,uB X M σ T s2/\kP x u/\(DK l).yld i H x T/\s2.heap.IsStrIter it ty #[↑l] t (i+1)/\∀b∈[it],T b=O) E { s with heap:=h',toks:=tk }:=λh' tk le a q=>by
   let I1:uB X M σ H { s with heap:=h',toks:=tk }:=I.turned (t':=tk) (λb o j e=>(q.2 b j).trans e) B C D F G;let#[o,e,c,d]:=id a;calc#[_,Z,GQ (s:={ s with heap:=h',toks:=tk }) e c d ?_ #[tx [l[i]],H,I1,#[_,Z],#[Z,l[i],by simp[m],Z],a,λb j=>(y b j).1]];rcases g with rfl | rfl<;>decide
  rcases g with rfl | rfl
  .exact wpAny_pyNext_ascii_item f p λh' a q=>n h' _ (xu _) a q
  .exact wpAny_pyNext_wide_item f p λh' a q=>n h' _ (xu _) a q
 done:=by
  intro X W S V N i M s σ H E I y f m;subst W S V;let#[B,C,f2,D,F,G]:=y it {};let m:⇑l<=i:=m;let p:(#[↑l]:Str).cps[i]?=O:=by show l.toArray[i]?=O;simp[m]
  rcases g with rfl | rfl
  .exact wpAny_pyNext_ascii_end (I.ok.hd N) f p λh' L=>#[Z,I.turned (t':=s.toks) (λb o j e=>L b o j e) B C D F G]
  .exact wpAny_pyNext_wide_end (I.ok.hd N) f p λh' L=>#[Z,I.turned (t':=s.toks) (λb o j e=>L b o j e) B C D F G]
 self:=by
  intro A i s Q E f h;rcases g with rfl | rfl
  .exact wpAny_pyIter_striter_ascii f h
  .exact wpAny_pyIter_striter_wide f h
section
def Qa (b:TE):TI:=λσ H c=>b σ H λx a=>∃l,x=tx l/\c (DK l) a
def Jj (i:PE X l tl):PI X tg l (Qa tl):=by
 intro g s σ H r I h;calc uW (i g s σ H _ I h) λv a n=>?_;let#[x,k,d,p,m]:=n;let#[l,Z,q]:=m;let#[t,Z]:=p;let c:∀ty,(ty="str_ascii_iterator"\/ty="str_iterator")->LS X g σ tg r (.ref ↥a) { a with heap:=a.heap.push { cls:=.type ty,data:=.fields ↑[.str #[↑l] t,.int 0 0] } }:=λty f=>by
  calc#[↥a,[↥a],_,_,k,Z,d.kept (t':=a.toks) λb o e=>vy _ e,Zj5 l t _ ty f,#[_,wB _ Z,Z,Z],λb j=>?_,q];let e:b=↥a:=by simpa using j
  subst e;exact d.fpOk (uV _) (d.hok.fresh (uV _))
 cases ha:(#[↑l]:Str).cps.all (· < 128)
 .exact wpAny_pyIter_wide ha (c _ (.inr Z))
 .exact wpAny_pyIter_ascii ha (c _ (.inl Z))
end
def ZmC {l:uz}{g:TG}{tb:TS}{D:mM}{σ:St}{H:Hp}(a:Nat->St->Hp->Prop)(q:a 0 σ H)
  (j:∀i c σ H,l[i]?=U c->a i σ H->g (tx [c]) σ H λσ2 H2=>tb { D with nx:=a (i+1),ct:=a (i+1),bk:=D.nx } σ2 H2) (n:∀σ H,a ⇑l σ H->D.nx σ H):
  ∃W:Nat->Nat->St->Hp->Prop,(∃m,W 0 m σ H)/\∀i m σ H,W i m σ H ->
   ((DK l).stop i H/\D.nx σ H)\/((DK l).go i H/\∃N:St->Hp->Prop,(∀d b,N d b->∃h,h<m/\W (i+1) h d b)/\∀x b,(DK l).yld i H x b->g x σ b λσ2 H2=>tb { D with nx:=N,ct:=N,bk:=D.nx } σ2 H2):=by
 calc#[λi m σ H=>m=⇑l-i/\i<=⇑l/\a i σ H,#[⇑l,{},wf _,q],?_];rintro i m σ H ⟨rfl,r,p⟩;by_cases f:i<⇑l
 .refine .inr #[f,a (i+1),λd b o=>#[⇑l-(i+1),∅,Z,f,o],λx b y=>?_];let#[e,c,k,y]:=y;subst e y;exact j i c σ _ k p
 .let e:i=⇑l:=by nofun
  subst e;calc .inl #[uV _,n σ H p]
inductive DT where
 | f (v:V)
 | l (xs:List DT)
 | t (xs:List DT)
section
variable (K:uH)(H:Hp)
mutual
def kN:DT->V->Prop
 | .f w,v=>v=w/\xG w=Y
 | .l ds,v=>∃a vs,v=.ref a/\vO K H a vs/\DatsOk ds vs
 | .t ds,v=>∃a vs,v=.ref a/\wP K H a vs/\DatsOk ds vs
def DatsOk:List DT->Se->Prop
 | [],vs=>vs=[]
 | d::ds,vs=>∃v r,vs=v::r/\kN d v/\DatsOk ds r
end
end
mutual
def wA:DT->DT->Bool
 | .f v,.f w=>Bh v w
 | .l xs,.l ys=>deqs xs ys
 | .t xs,.t ys=>deqs xs ys
 | .f _,.l _=>J
 | .f _,.t _=>J
 | .l _,.f _=>J
 | .t _,.f _=>J
 | .l _,.t _=>J
 | .t _,.l _=>J
def deqs:List DT->List DT->Bool
 | [],[]=>Y
 | x::xs,y::ys=>wA x y&&deqs xs ys
 | [],_::_=>J
 | _::_,[]=>J
end
mutual
def zV:DT->Nat
 | .f _=>0
 | .l xs=>deps xs+1
 | .t xs=>deps xs+1
def deps:List DT->Nat
 | []=>0
 | x::xs=>max (zV x) (deps xs)
end
def Jo (h:xG v=Y):Bh v v=Y:=by cases v<;>first | rfl | (simp[Bh];done) | calc Sa (show J=Y from h) vC
theorem DatsOk.length {K:uH}{H:Hp}:∀ {ds:List DT} {vs:Se},DatsOk K H ds vs->⇑vs=⇑ds
 | [],vs,h=>by
  unfold DatsOk at h;subst h;rfl
 | d::ds,vs,h=>by unfold DatsOk at h;let#[v,r,Z,_,hr]:=h;rw[vQ,vQ,DatsOk.length hr]
def yy (xs ys:List DT)(j:Nat):Bool:=match xs[j]?,ys[j]? with
 | some x,some y=>wA x y
 | _,_=>J
theorem Mp:∀xs ys:List DT,deqs xs ys=((cc (min ⇑xs ⇑ys)).all (yy xs ys)&&⇑xs == ⇑ys)
 | [],[]=>by simp[deqs]
 | [],_::_=>by simp[deqs]
 | _::_,[]=>by simp[deqs]
 | x::xs,y::ys=>by
  let e:min ⇑(x::xs) ⇑(y::ys)=min ⇑xs ⇑ys+1:=by simp only[vQ];nofun
  let c:∀j,yy (x::xs) (y::ys) (j+1)=yy xs ys j:=λj=>by simp[yy]
  let a:yy (x::xs) (y::ys) 0=wA x y:=by simp[yy]
  rw[deqs,Mp xs ys,e,List.range_succ_eq_map,zW,a,List.all_map];let b:((λj=>yy (x::xs) (y::ys) j) ∘ Nat.succ)=yy xs ys:=by funext j;exact c j
  let d:(yy (x::xs) (y::ys) ∘ Nat.succ)=yy xs ys:=b;rw[d,Bool.and_assoc];simp
mutual
theorem kN.uniq {K:uH}{X:Cx}{r:AA}{σ:St}{H:Hp}{s:AE}(I:uB X r σ H s):∀(d e:DT)(v:V),kN X.K H d v->kN X.K H e v->wA d e=Y
 | .f w,.f u,v,h1,h2=>by
  unfold kN at h1 h2;let#[Z,hf]:=h1;let#[e,_]:=h2;subst e;unfold wA;exact Jo hf
 | .f w,.l ys,v,h1,h2=>by
  unfold kN at h1 h2;let#[Z,hf]:=h1;let#[a,c,Z,_]:=h2;exact Sa (show J=Y from hf) vC
 | .f w,.t ys,v,h1,h2=>by
  unfold kN at h1 h2;let#[Z,hf]:=h1;let#[a,c,Z,_]:=h2;exact Sa (show J=Y from hf) vC
 | .l xs,.f w,v,h1,h2=>by
  unfold kN at h1 h2;let#[Z,hf]:=h2;let#[a,c,Z,_]:=h1;exact Sa (show J=Y from hf) vC
 | .t xs,.f w,v,h1,h2=>by
  unfold kN at h1 h2;let#[Z,hf]:=h2;let#[a,c,Z,_]:=h1;exact Sa (show J=Y from hf) vC
 | .l xs,.l ys,v,h1,h2=>by
  unfold kN at h1 h2;let#[a,c,Z,f,j]:=h1;let#[b,p,e,g,i]:=h2;cases e;have:=I.list_inj f g;subst this;unfold wA;exact DatsOk.uniq (K:=K) I xs ys c j i
 | .t xs,.t ys,v,h1,h2=>by
  unfold kN at h1 h2;let#[a,c,Z,f,j]:=h1;let#[b,p,e,g,i]:=h2;cases e;have:=I.tuple_inj f g;subst this;unfold wA;exact DatsOk.uniq (K:=K) I xs ys c j i
 | .l xs,.t ys,v,h1,h2=>by
  unfold kN at h1 h2;let#[a,c,Z,f,j]:=h1;let#[b,p,e,g,i]:=h2;cases e;let#[_,_,#[o,n,l,m,_],_]:=I.list f;let#[_,_,#[q,k,h,_],_]:=I.tuple g;rw[l]at k;cases k;rw[m]at h;exact Sa h {}
 | .t xs,.l ys,v,h1,h2=>by unfold kN at h1 h2;let#[a,c,Z,f,j]:=h1;let#[b,p,e,g,i]:=h2;cases e;let#[_,_,#[q,k,h,_],_]:=I.tuple f;let#[_,_,#[o,n,l,m,_],_]:=I.list g;rw[l]at k;cases k;rw[m]at h;calc Sa h {}
theorem DatsOk.uniq {K:uH}{X:Cx}{d:AA}{σ:St}{H:Hp}{s:AE}(I:uB X d σ H s):∀(xs ys:List DT)(vs:Se),DatsOk X.K H xs vs->DatsOk X.K H ys vs->deqs xs ys=Y
 | [],[],vs,h1,h2=>by unfold deqs;rfl
 | [],y::ys,vs,h1,h2=>by
  unfold DatsOk at h1 h2;subst h1;let#[_,_,e,_]:=h2;cases e
 | x::xs,[],vs,h1,h2=>by
  unfold DatsOk at h1 h2;subst h2;let#[_,_,e,_]:=h1;cases e
 | x::xs,y::ys,vs,h1,h2=>by unfold DatsOk at h1 h2;let#[v,r,Z,c,b]:=h1;let#[g,h,e,f,a]:=h2;cases e;unfold deqs;rw[kN.uniq (K:=K) I x y v c f,DatsOk.uniq (K:=K) I xs ys r b a];rfl
end
section
open SeqAt
def Jb (d:xG w=Y)(r:kP w u)(a:s.heap.IsList l items)(c:A.units<cLine):EqAt A s u (.ref l) J/\EqAt A s (.ref l) u J/\RcAt A s u (.ref l) J/\RcAt A s (.ref l) u J/\RcNeAt A s u (.ref l) Y/\RcNeAt A s (.ref l) u Y:=by
 cases w with
 | non=>cases r;exact#[.none_list a c,.list_none a c,.none_list a c,.list_none a c,.none_list a c,.list_none a c]
 | bl b=>cases r;exact#[.bool_list b a c,.list_bool b a c,.bool_list b a c,.list_bool b a c,.bool_list b a c,.list_bool b a c]
 | int i=>let#[t,Z]:=r;exact#[.int_list i t a c,.list_int i t a c,.int_list i t a c,.list_int i t a c,.int_list i t a c,.list_int i t a c]
 | str i=>let#[t,Z]:=r;exact#[.str_list i t a c,.list_str i t a c,.str_list i t a c,.list_str i t a c,.str_list i t a c,.list_str i t a c]
 | _=>calc Sa (show J=Y from d) vC
def HE (d:xG w=Y)(r:kP w u)(a:s.heap.IsTuple l items)(c:A.units<cLine):EqAt A s u (.ref l) J/\EqAt A s (.ref l) u J/\RcAt A s u (.ref l) J/\RcAt A s (.ref l) u J/\RcNeAt A s u (.ref l) Y/\RcNeAt A s (.ref l) u Y:=by
 cases w with
 | non=>cases r;exact#[.none_tuple a c,.tuple_none a c,.none_tuple a c,.tuple_none a c,.none_tuple a c,.tuple_none a c]
 | bl b=>cases r;exact#[.bool_tuple b a c,.tuple_bool b a c,.bool_tuple b a c,.tuple_bool b a c,.bool_tuple b a c,.tuple_bool b a c]
 | int i=>let#[t,Z]:=r;exact#[.int_tuple i t a c,.tuple_int i t a c,.int_tuple i t a c,.tuple_int i t a c,.int_tuple i t a c,.tuple_int i t a c]
 | str i=>let#[t,Z]:=r;exact#[.str_tuple i t a c,.tuple_str i t a c,.str_tuple i t a c,.tuple_str i t a c,.str_tuple i t a c,.tuple_str i t a c]
 | _=>calc Sa (show J=Y from d) vC
def QR {A:AH}{l b:AD}{c d:AC}{xs ys:List DT}(e:s.heap.IsList l ↑c)(f:s.heap.IsList b ↑d)(o:⇑c=⇑xs)(r:⇑d=⇑ys)(g:A.units<cLine)
  (m:∀j (q:j<⇑c) (p:j<⇑d),EqAt A.in1 s c[j] d[j] (yy xs ys j)):RcAt A s (.ref l) (.ref b) (deqs xs ys)/\RcNeAt A s (.ref l) (.ref b) (!deqs xs ys):=by
 rw[Mp];by_cases n:⇑c=⇑d
 .let a:c.toArray.size=d.toArray.size:=by rw[wC,wC];exact n
  let i:((cc (min ⇑xs ⇑ys)).all (yy xs ys)&&⇑xs == ⇑ys)=(cc c.toArray.size).all (yy xs ys):=by
   have:⇑xs=⇑ys:=by nofun
   rw[wC,o,<-this,Nat.min_self];simp
  rw[i];exact#[RcAt.lists e f a g λj k h=>by simpa using m j (~~~k) (~~~h),RcNeAt.lists e f a g λj k h=>by simpa using m j (~~~k) (~~~h)]
 .let i:((cc (min ⇑xs ⇑ys)).all (yy xs ys)&&⇑xs == ⇑ys)=J:=by
   have:⇑xs≠⇑ys:=by nofun
   simp[this]
  rw[i];let a:(c.toArray.size != d.toArray.size)=Y:=by rw[wC,wC];simpa using n
  calc#[RcAt.lists_lengths e f a g,RcNeAt.lists_lengths e f a g]
def O8 {A:AH}{l b:AD}{a c:AC}{xs ys:List DT}(f:s.heap.IsTuple l ↑a)(g:s.heap.IsTuple b ↑c)(m:⇑a=⇑xs)(n:⇑c=⇑ys)(i:A.units<cLine)
  (h:∀j (p:j<⇑a) (o:j<⇑c),EqAt A.in1 s a[j] c[j] (yy xs ys j)):RcAt A s (.ref l) (.ref b) (deqs xs ys)/\RcNeAt A s (.ref l) (.ref b) (!deqs xs ys):=by
 let k:deqs xs ys=((cc (min a.toArray.size c.toArray.size)).all (yy xs ys)&&a.toArray.size == c.toArray.size):=by rw[Mp,wC,wC,m,n]
 rw[k];calc#[RcAt.tuples f g i λj e d=>by simpa using h j (~~~e) (~~~d),RcNeAt.tuples f g i λj e d=>by simpa using h j (~~~e) (~~~d)]
mutual
theorem Zrr (I:uB X BO σ H s):∀(d e:DT)(A:AH)(x y:V)(u v:bU),kN X.K H d x->kN X.K H e y->kP x u->kP y v->A.units+zV d<cLine->EqAt A s u v (wA d e)
 | .f w,.f w',A,x,y,u,v,h1,h2,ru,rv,hu=>by
  unfold kN at h1 h2;let#[Z,f1]:=h1;let#[Z,B]:=h2;unfold wA;exact Rb ru rv f1 B
 | .f w,.l ys,A,x,y,u,v,h1,h2,ru,rv,hu=>by
  unfold kN at h1 h2;let#[Z,f1]:=h1;let#[a,g,Z,q,_]:=h2;cases rv;let#[c,_,p,_]:=I.list q;unfold wA;exact(Jb f1 ru p.isList (by unfold zV at hu;nofun)).1
 | .f w,.t ys,A,x,y,u,v,h1,h2,ru,rv,hu=>by
  unfold kN at h1 h2;let#[Z,f1]:=h1;let#[a,g,Z,q,_]:=h2;cases rv;let#[c,_,p,_]:=I.tuple q;unfold wA;exact(HE f1 ru (show s.heap.IsTuple a ↑c from p) (by unfold zV at hu;nofun)).1
 | .l xs,.f w,A,x,y,u,v,h1,h2,ru,rv,hu=>by
  unfold kN at h1 h2;let#[Z,f1]:=h2;let#[a,g,Z,q,_]:=h1;cases ru;let#[c,_,p,_]:=I.list q;unfold wA;exact(Jb f1 rv p.isList ∅).2.1
 | .t xs,.f w,A,x,y,u,v,h1,h2,ru,rv,hu=>by
  unfold kN at h1 h2;let#[Z,f1]:=h2;let#[a,g,Z,q,_]:=h1;cases ru;let#[c,_,p,_]:=I.tuple q;unfold wA;exact(HE f1 rv (show s.heap.IsTuple a ↑c from p) ∅).2.1
 | .l xs,.t ys,A,x,y,u,v,h1,h2,ru,rv,hu=>by
  unfold kN at h1 h2;let#[a,g,Z,q,_]:=h1;let#[b,m,Z,i,_]:=h2;cases ru;cases rv;let#[c,_,p,_]:=I.list q;let#[f,_,k,_]:=I.tuple i;unfold wA;exact EqAt.list_tuple p.isList (show s.heap.IsTuple b ↑f from k) ∅
 | .t xs,.l ys,A,x,y,u,v,h1,h2,ru,rv,hu=>by
  unfold kN at h1 h2;let#[a,g,Z,q,_]:=h1;let#[b,m,Z,i,_]:=h2;cases ru;cases rv;let#[c,_,p,_]:=I.tuple q;let#[f,_,k,_]:=I.list i;unfold wA;exact EqAt.tuple_list (show s.heap.IsTuple a ↑c from p) k.isList ∅
 | .l xs,.l ys,A,x,y,u,v,h1,h2,ru,rv,hu=>by
  by_cases h:x=y
  .subst h;rw[kN.uniq (K:=X.K) I (.l xs) (.l ys) x h1 h2];unfold kN at h1;let#[a,g,Z,_]:=h1;cases ru;cases rv;exact EqAt.same _
  .unfold kN at h1 h2;let#[a,g,Z,q,o]:=h1;let#[b,m,Z,i,n]:=h2;cases ru;cases rv;let#[c,r,p,_]:=I.list q;let#[f,l,k,_]:=I.list i;unfold wA;unfold zV at hu;calc EqAt.of_refs (λe=>h (by rw[e])) (QR p.isList k.isList (by rw[<-⇑r,⇑o]) (by rw[<-⇑l,⇑n]) ∅ λj z t=>?_).1;exact Ze5 I xs ys A.in1 g m c f o n r l (by show A.units+1+_<_;nofun) j z t
 | .t xs,.t ys,A,x,y,u,v,h1,h2,ru,rv,hu=>by
  by_cases h:x=y
  .subst h;rw[kN.uniq (K:=X.K) I (.t xs) (.t ys) x h1 h2];unfold kN at h1;let#[a,g,Z,_]:=h1;cases ru;cases rv;exact EqAt.same _
  .unfold kN at h1 h2;let#[a,g,Z,q,o]:=h1;let#[b,m,Z,i,n]:=h2;cases ru;cases rv;let#[c,r,p,_]:=I.tuple q;let#[f,l,k,_]:=I.tuple i;unfold wA;unfold zV at hu;calc EqAt.of_refs (λe=>h (by rw[e])) (O8 (show s.heap.IsTuple a ↑c from p) (show s.heap.IsTuple b ↑f from k) (by rw[<-⇑r,⇑o]) (by rw[<-⇑l,⇑n]) ∅ λj z t=>?_).1;calc Ze5 I xs ys A.in1 g m c f o n r l (by show A.units+1+_<_;nofun) j z t
theorem Ze5 (I:uB X BO σ H s):∀(xs ys:List DT)(A:AH)(vs ws:Se)(a b:AC),DatsOk X.K H xs vs->DatsOk X.K H ys ws->kJ vs a->kJ ws b->A.units+deps xs<cLine ->
  ∀(j:Nat)(d:j<⇑a)(c:j<⇑b),EqAt A s a[j] b[j] (yy xs ys j)
 | [],ys,A,vs,ws,a,b,d1,d2,r1,r2,hu,j,d,c=>by
  unfold DatsOk at d1;subst d1;cases r1;exact Sa d (Nat.not_lt_zero _)
 | x::xs,[],A,vs,ws,a,b,d1,d2,r1,r2,hu,j,d,c=>by
  unfold DatsOk at d2;subst d2;cases r2;exact Sa c (Nat.not_lt_zero _)
 | x::xs,y::ys,A,vs,ws,a,b,d1,d2,r1,r2,hu,j,d,c=>by
  unfold DatsOk at d1 d2;let#[v,vr,Z,a1,a2]:=d1;let#[w,k,Z,l,i]:=d2;unfold deps at hu;cases r1 with
  | cons g e=>
   cases r2 with
   | cons h f=>
    cases j with
    | zero=>
     have:=Zrr I x y A v w _ _ a1 l g h ∅;simpa [yy] using this
    | succ j=>
     have:=Ze5 I xs ys A vr k _ _ a2 i e f ∅ j (Nat.lt_of_succ_lt_succ d) (Nat.lt_of_succ_lt_succ c);simpa [yy] using this
end
def Oq (I:uB X BO σ H s){d e:DT}{A:AH}{x y:V}{u v:bU}(D:kN X.K H d x)(h:kN X.K H e y)(K:kP x u)(k:kP y v)(P:A.units+zV d<cLine)(S:¬(xG x=Y/\xG y=Y)):
  RcAt A s u v (wA d e)/\RcNeAt A s u v (!wA d e):=by
 cases d with
 | f w=>
  unfold kN at D;let#[Z,C]:=D;cases e with
  | f T=>
   unfold kN at h;let#[Z,Q]:=h;exact Sa #[C,Q] S
  | l m=>
   unfold kN at h;let#[a,E,Z,q,_]:=h;cases k;let#[g,_,p,_]:=I.list q;let z:=Jb (A:=A) C K p.isList ∅;unfold wA;exact#[z.2.2.1,z.2.2.2.2.1]
  | t m=>
   unfold kN at h;let#[a,E,Z,q,_]:=h;cases k;let#[g,_,p,_]:=I.tuple q;let z:=HE (A:=A) C K (show s.heap.IsTuple a ↑g from p) ∅;unfold wA;exact#[z.2.2.1,z.2.2.2.2.1]
 | l L=>
  unfold kN at D;let#[a,E,Z,q,G]:=D;cases K;let#[g,r,p,_]:=I.list q;cases e with
  | f w=>
   unfold kN at h;let#[Z,C]:=h;let z:=Jb (A:=A) C k p.isList ∅;unfold wA;exact#[z.2.2.2.1,z.2.2.2.2.2]
  | l m=>
   unfold kN at h;let#[b,F,Z,o,B]:=h;cases k;let#[c,n,i,_]:=I.list o;unfold wA;unfold zV at P;exact QR p.isList i.isList (by rw[<-⇑r,⇑G]) (by rw[<-⇑n,⇑B]) ∅ λj N M=>Ze5 I L m A.in1 E F g c G B r n (by show A.units+1+_<_;nofun) j N M
  | t m=>
   unfold kN at h;let#[b,F,Z,o,B]:=h;cases k;let#[c,n,i,_]:=I.tuple o;unfold wA;exact#[RcAt.list_tuple p.isList (show s.heap.IsTuple b ↑c from i) ∅,RcNeAt.list_tuple p.isList (show s.heap.IsTuple b ↑c from i) ∅]
 | t L=>
  unfold kN at D;let#[a,E,Z,q,G]:=D;cases K;let#[g,r,p,_]:=I.tuple q;cases e with
  | f w=>
   unfold kN at h;let#[Z,C]:=h;let z:=HE (A:=A) C k (show s.heap.IsTuple a ↑g from p) ∅;unfold wA;exact#[z.2.2.2.1,z.2.2.2.2.2]
  | t m=>
   unfold kN at h;let#[b,F,Z,o,B]:=h;cases k;let#[c,n,i,_]:=I.tuple o;unfold wA;unfold zV at P;exact O8 (show s.heap.IsTuple a ↑g from p) (show s.heap.IsTuple b ↑c from i) (by rw[<-⇑r,⇑G]) (by rw[<-⇑n,⇑B]) ∅ λj N M=>Ze5 I L m A.in1 E F g c G B r n (by show A.units+1+_<_;nofun) j N M
  | l m=>
   unfold kN at h;let#[b,F,Z,o,B]:=h;cases k;let#[c,n,i,_]:=I.list o;unfold wA;calc#[RcAt.tuple_list (show s.heap.IsTuple a ↑g from p) i.isList ∅,RcNeAt.tuple_list (show s.heap.IsTuple a ↑g from p) i.isList ∅]
end
def nv (K:uH)(a:Bool):R2:=λx y H Q=>(qW x y=Y/\Q (.bl (if a then !R (x=y) else R (x=y))) H) \/
 ∃d e,kN K H d x/\kN K H e y/\¬(xG x=Y/\xG y=Y)/\zV d<=60/\Q (.bl (if a then !wA d e else wA d e)) H
def Zqu (k:X.A.units+64<cLine):wG X (fx .Eq) (nv X.K J):=by
 intro i s σ H x y v u Q I c b h;rcases h with⟨a,q⟩|⟨d,e,a,f,g,j,q⟩
 .exact Zs1 i s σ H x y v u Q I c b #[a,q]
 .exact(Oq I a f c b ∅ g).1 _ _ _ _ #[.bl _,H,I,Z,q]
def Zqt (k:X.A.units+64<cLine):wG X (fx .NotEq) (nv X.K Y):=by
 intro i s σ H x y v u Q I c b h;rcases h with⟨a,q⟩|⟨d,e,a,f,g,j,q⟩
 .exact ZsZ i s σ H x y v u Q I c b #[a,q]
 .exact(Oq I a f c b ∅ g).2 _ _ _ _ #[.bl _,H,I,Z,q]
def kN.same {K:uH}{H c:Hp}(j:∀a xs,vO K H a xs->vO K c a xs)(m:∀a xs,wP K H a xs->wP K c a xs):∀ {d:DT} {v:V},kN K H d v->kN K c d v:=by
 let f:∀d:DT,(∀v,kN K H d v->kN K c d v):=by
  intro d;refine DT.rec (motive_1:=λd=>∀v,kN K H d v->kN K c d v) (motive_2:=λi=>∀vs,DatsOk K H i vs->DatsOk K c i vs) ?_ ?_ ?_ ?_ ?_ d
  .intro w v h;unfold kN at h ⊢;exact h
  .intro xs g v h;unfold kN at h ⊢;let#[a,vs,e,q,r]:=h;exact#[a,vs,e,j a vs q,g vs r]
  .intro xs g v h;unfold kN at h ⊢;let#[a,vs,e,q,r]:=h;exact#[a,vs,e,m a vs q,g vs r]
  .intro vs h;unfold DatsOk at h ⊢;exact h
  .intro x xs l k vs h;unfold DatsOk at h ⊢;let#[v,r,e,a,b]:=h;exact#[v,r,e,l v a,k r b]
 calc λ{d v} h=>f d v h
def ky.seqT {K:uH}{H b:Hp}{a:AD}{xs:Se}(e:ky H b)(h:wP K H a xs):wP K b a xs:=by
 rcases h with (h | ⟨o,h⟩) | h
 .exact .inl (.inl (e _ _ h))
 .exact .inl (.inr #[o,e _ _ h])
 .exact .inr h
def ky.dat {K:uH}{H a:Hp}(e:ky H a){d:DT}{v:V}(h:kN K H d v):kN K a d v:=h.same (λ_ _ q=>e.seq q) (λ_ _ q=>e.seqT q)
theorem QU {K:uH}{H:Hp}:∀ {vs:Se},vs.all xG=Y->DatsOk K H (vs.map DT.f) vs
 | [],_=>by unfold DatsOk;rfl
 | v::r,h=>by rw[zW,vW]at h;rw[vP];unfold DatsOk;calc#[v,r,Z,by unfold kN;calc#[Z,h.1],QU h.2]
def Zlz (vs:Se):deps (vs.map DT.f)=0:=by
 induction vs with
 | nil=>rfl
 | cons v r a=>rw[vP];unfold deps;rw[a];rfl
def Mv (a b:uz):Bh (tx a) (tx b)=R (tx a=tx b):=by
 rw[CA];show ((#[↑a]:Str) == #[↑b])=_;by_cases h:a=b
 .subst h;simp
 .rw[R6 h];calc beq_eq_false_iff_ne.mpr λz=>h (GZ.mp (R9 V.str z))
def pN {K:uH}{H:Hp}{a:AD}{vs:Se}(h:vO K H a vs)(b:vs.all xG=Y):kN K H (.l (vs.map DT.f)) (.ref a):=by unfold kN;calc#[a,vs,Z,h,QU b]
def datF {K:uH}{H:Hp}{v:V}(a:xG v=Y):kN K H (.f v) v:=by unfold kN;calc#[Z,a]
end L2
namespace L2
open PySem PySem.Spec PyProof.Rows
open PySem.W (Frag findIn specialIn typeIn mroIn clsIn InstAt Looks)
noncomputable def DA:AC:=[.type "ValueError",.type "Exception",.type "BaseException",.type "object"]
noncomputable def Mu:bU->Bool
 | .ref _=>Y
 | _=>J
noncomputable def nu (l:AC):Bool:=l.dropWhile Mu == DA
theorem Kn {P:AC->Prop}(a:P DA)(b:∀c r,P r->P (.ref c::r)):∀l:AC,nu l=Y->P l
 | [],e=>by simp[nu,DA]at e
 | v::r,e=>by
  cases hv:Mu v with
  | true=>
   cases v with
   | ref c=>
    calc b c r (Kn a b r ?_);unfold nu at e ⊢;rw[List.dropWhile_cons,uM hv]at e;exact e
   | _=>cases hv
  | false=>
   unfold nu at e;rw[List.dropWhile_cons,uI (by rw[hv];calc vC)]at e;rw[show (v::r)=DA by simpa using e];calc a
def ZkA (a:bU):refuseLoop a "__setattr__" DA=pure ():=by
 first | rfl | kernel_rfl
def Zl9 (a:bU){l:AC}(e:nu l=Y):refuseLoop a "__setattr__" l=pure ():=
 Kn (P:=λl=>refuseLoop a "__setattr__" l=pure ()) (ZkA a) (λc r h=>by rw[refuseLoop_ref];calc h) l e
def Fy (h:DA.contains (.type n)=b){l:AC}(e:nu l=Y):l.contains (.type n)=b:=
 Kn (P:=λl=>l.contains (.type n)=b) h (λc r h=>by rw[DO,h];rfl) l e
structure Xc (K:Frag)(C:AD):Prop where
 ga:fw K (.ref C) "__getattribute__"=U (U (.builtin "BaseException.__getattribute__"))
 gr:fw K (.ref C) "__getattr__"=U O
 sa:fw K (.ref C) "__setattr__"=U (U (.builtin "object.__setattr__"))
 hd:hasDictIn K C=Y
 mr:(clsIn K C).any (λcd=>nu cd.mro)=Y
def PV (e:nu l=Y):l.isEmpty=J:=by
 cases l with
 | nil=>simp[nu,DA]at e
 | cons _ _=>rfl
def Xc.base {K:Frag}{C:AD}(c:Xc K C){n:String}{b:Bool}(h:DA.contains (.type n)=b):mroIn K C (.type n)=U b:=by let#[e,d,a]:=EA c.mr;unfold mroIn;rw[d,D8,uI (by rw[PV a];calc vC),Fy h a]
noncomputable def xo (a C:AD)(d:Option AD):HO:=.ext λh=>∃(o:Obj)(t:AD),h.get? a=U o/\o.cls=.ref C/\o.dict=d/\o.data=.fields ↑[.ref t,.none,.none,.none,.bool J,.none]
noncomputable def FG (d:AD)(fs:List (Str×V)):HO:=.ext λh=>⇑fs<=1000/\∃a,h.Ns1 d a/\(∀f,l0 (fs.lookup f) (a f))/\PySem.Within a (fs.map (·.1))
inductive yS (H:Hp)(e C:AD):List (Str×V)->Prop where
 | bare:H e=U (xo e C O)->yS H e C []
 | full {d:AD} {fs:List (Str×V)}:H e=U (xo e C (U d))->H d=U (FG d fs)->d≠e->yS H e C fs
def ZpE (h:H a=U o):upd H a o=H:=by
 funext b;unfold upd;by_cases c:b=a
 .rw[uM c,c,h]
 .rw[uI c]
def yS.same (x:yS H e C fs)(s:ky H H'):yS H' e C fs:=by
 cases x with
 | bare h=>exact .bare (s _ _ h)
 | full b a c=>calc .full (s _ _ b) (s _ _ a) c
section
def DR (I:uB X BO σ H s)(h:H e=U (xo e C d)):∃(o:Obj)(t:AD),s.heap.get? e=U o/\o.cls=.ref C/\o.dict=d/\o.data=.fields ↑[.ref t,.none,.none,.none,.bool J,.none]:=(I.hok e _ h).1
def LA (c:h.get? e=U o)(f:o.cls=.ref C)(g:o.dict=d)(j:o.data=.fields ↑[.ref t,.none,.none,.none,.bool J,.none]):kX P w H h e (xo e C d):=
 #[#[o,t,c,f,g,j],#[o,c],λa b ⟨o,t,i,q⟩ k=>#[o,t,k o i,q]]
def Mi (c:⇑fs<=1000)(g:h.Ns1 d mA)(j:∀f,l0 (fs.lookup f) (mA f))(l:PySem.Within mA (fs.map (·.1))):kX P w H h d (FG d fs):=by let#[o,i,e,n,r]:=id g;calc#[#[c,mA,g,j,l],#[o,n],λa b ⟨c,m,⟨o,i,e,q,r⟩,z⟩ k=>#[c,m,#[o,i,e,k o q,r],z]]
def yS.inst (I:uB X BO σ H s)(x:yS H e C fs):∃(ox:Obj)(od:Option Obj),InstAt s.heap e ox C od/\∀name,∃r,(match od with | some o=>lookIn name o | none=>U O)=U r/\l0 (fs.lookup name) r:=by
 cases x with
 | bare h=>
  let#[o,t,c,b,f,g]:=DR I h;exact#[o,O,#[c,b,by unfold notCls;rw[g],by rw[f];trivial],λname=>#[O,Z,by trivial]]
 | @full d _ h j n=>
  let#[o,t,c,b,f,g]:=DR I h;let#[#[_,l,k,m,_],_]:=I.hok d _ j;let#[od,a,i]:=KB k;calc#[o,U od,#[c,b,by unfold notCls;rw[g],by rw[f];calc a],λname=>#[l name,i name,m name]]
def MS:entryFor table "BaseException.__getattribute__"=U Builtin.«object.__getattribute__»:=F.entry_bexc_ga
def Zjg {K:Frag}{x:AD}{ox:Obj}{od:Option Obj}{name:Str}{a:Bool}{u:bU}{prog:AG}{w:AI}{Q:vY}(f:K.In s.heap)(I:InstAt s.heap x ox C od)(c:Xc K C)
  (o:findObj K C od name=U (.value u)) (k:handedIn u=Y) (h:Q u { s with toks:=s.toks+1 }):bR (bJ prog w) A (getAttr (.ref x) name a) Q E s:=by
 let#[m,g,d,t,q]:=s;let j:=I.type (M:=bJ prog w);let l:=Ds (M:=bJ prog w) f c.ga;let L2:=Ds (M:=bJ prog w) f c.gr;let r:=looks_find (M:=bJ prog w) f I o;let p:=II (M:=bJ prog w) f (c.base (n:="BaseException") (b:=Y) nofun);let i:(Value.builtin "BaseException.__getattribute__" == Value.builtin "object.__getattribute__")=J:=by decide +kernel
 let e:=F.excAttr_ValueError.ga;unfold getAttr getAttrBy;calc uC (wpAny_mkText (xZ (uC (j.at (uC (l.at ?_))))));dsimp only;rw[i,CF,uI vC];unfold getAttrByItsOwn hookBefore;calc uC ?_;show bR _ _ (if onTheHeap (dy C)=Y then typeLookup (.ref C) "__getattr__" else pure O) _ _ _;rw[uM (show onTheHeap (dy C)=Y from Z)];calc L2.at (uC (Ek (xZ ?_)));unfold callGetattribute;rw[show (a&&onTheHeap (Value.builtin "BaseException.__getattribute__"))=J from CF _,uI vC];unfold boundAndCalled;rw[e.bind];calc uC (uS ?_);show bR _ _ (call (.builtin "BaseException.__getattribute__") [.ref x,.str name t]) _ _ _;calc zN (codeAny_call_builtin e.plain MS ?_);calc @check_slot (bJ prog w) _ _ #[m,g,d,t+1,q] "BaseException.__getattribute__" "BaseException" "__getattribute__" (.ref x) [.str name t] [] _ nofun nofun (j.andThen p) (F.args_bexc_ga (.ref x) (.str name t)) ?_;calc uC (uS (uC (uS (uC (j.at (uC (r.at (uS ?_))))))));show bR _ _ (handedOut u) _ _ _;rw[PySem.W.handedOut_of k];calc uS h
def xset (I:uB X BO σ H s)(x:yS H e C fs)(c:Xc X.K C)(n:kE X.K C f)(hz:⇑fs<1000)(ry:kP y u)
  (h:∀s' H',uB X BO σ H' s'->yS H' e C (kW f y fs)->(∀b o,H b=U o->b≠e->(∀d,H e=U (xo e C (U d))->b≠d)->H' b=U o) ->
   (∃d,H' e=U (xo e C (U d))/\(H e=U (xo e C (U d))\/H d=O))->Q () s'):bR (bJ X.prog X.w) A (setAttr (.ref e) f u) Q E s:=by
 let#[ox,od,S,hr]:=x.inst I;let#[cd,hc,W]:=EA c.hd;let#[ak,F,hm]:=EA c.mr;rw[hc]at F;cases F;calc set_plain I.kIn S c.sa ?_;let L:=PySem.F.store_object;let al:=PV hm;let KX:X.K.In ({ s with toks:=s.toks+1 }:AE).heap:=I.kIn;let J1:InstAt ({ s with toks:=s.toks+1 }:AE).heap e ox C od:=S;let L1:Looks (bJ X.prog X.w) s.heap (mroOf (.ref C)) cd.mro:=(looks_clsIn I.kIn hc).andThen .now;let ae:Looks (bJ X.prog X.w) s.heap (isInstance (.ref e) (.type "object")) Y:=S.type.andThen (II I.kIn (c.base (n:="object") (b:=Y) nofun));calc codeAny_call_builtin L.slot.plain L.entry (@check_slot (bJ X.prog X.w) _ _ { s with toks:=s.toks+1 } "object.__setattr__" "object" "__setattr__" (.ref e) [.str f s.toks,u] [] _ L.kind L.split ae (L.args (.ref e) (.str f s.toks) u) ?_);rw[osa_eq,refuse_eq];calc uC (uC (Looks.here (s:={ s with toks:=s.toks+1 }) S.type (uC (Looks.here (s:={ s with toks:=s.toks+1 }) L1 ?_))));rw[Zl9 _ hm];calc uS (uC (Looks.here (s:={ s with toks:=s.toks+1 }) S.type (uC (Looks.here (s:={ s with toks:=s.toks+1 }) (Ds I.kIn n) (uC (uS ?_))))));dsimp only;calc uC (uS (uC (uC ?_)));let LC:=looks_clsIn (M:=bJ X.prog X.w) I.kIn hc;cases x with
 | bare r=>
  let#[o,t,D,h2,V,P]:=DR I r;let#[oc,ah,ac,N]:=o;dsimp only at h2 V P;subst h2 V P;calc wpAny_loadPart D (uC (Looks.here (s:={ s with toks:=s.toks+1 }) LC ?_));rw[W];calc uC (wpAny_alloc (uC (wpAny_update (vy _ D) (uS ?_))));dsimp only;calc uC (uS (uC ?_));let BY:e<↥s:=vq D;let G:=I.fresh;let j:↥s≠e:=Ee BY;let ee:(s.heap.push fy).get? ↥s=U emptyDict:=wB s.heap Z;let e2:((s.heap.push fy).update e λo=>{ o with dict:=U ↥s }).get? e=U #[.ref C,U ↥s,.fields ↑[.ref t,.none,.none,.none,.bool J,.none],N]:=Cp _ (vy _ D) Z;let e3:((s.heap.push fy).update e λo=>{ o with dict:=U ↥s }).get? ↥s=U emptyDict:=by rw[Bm _ _ (uZ j)];exact ee
  let ns:((s.heap.push fy).update e λo=>{ o with dict:=U ↥s }).Ns ↥s (λ_=>O):=#[fy,↑[],_,e3,Z,(λe he=>Sa he {}),λ_=>rfl];let ad:=Heap.Ns1.of_empty ns;let I1:=I.laid (a:=↥s) (o:=FG ↥s []) (h':=s.heap.push fy) (t':=s.toks+1) (λb u q=>vy _ q) (uV _)
   (Mi (fs:=[]) (wf _) (Heap.Ns1.of_empty (h:=s.heap.push fy) #[fy,↑[],_,ee,Z,(λe he=>Sa he {}),λ_=>rfl]) (λ_=>by trivial) (λy hy=>Sa Z hy))
  let I2:=I1.write (x:=e) (e:=e) (o:=xo e C (U ↥s)) (h':=(s.heap.push fy).update e λo=>{ o with dict:=U ↥s }) (t':=s.toks+1)
   (by rw[uF (uZ j),r];calc trivial) (.inl Z) (λb u p q=>by rw[Bm _ _ (uZ p)];calc q) #[_,e2] (LA e2 Z Z Z)
  calc wpAny_nsSet1 (s:={ s with heap:=(s.heap.push fy).update e λo=>{ o with dict:=U ↥s },toks:=s.toks+1 }) ad λh' l w=>?_;let T:PySem.Within (λx=>if x=f then U u else O) [f]:=λz hz=>by
   by_cases q:z=f
   .rw[q];exact xy
   .exact Sa (uI q) hz
  let#[oD,ag,ai,m,v,B]:=l.count T;calc uC (wpAny_lookBehind m (by rw[v];calc pastItsLine_dict (u8 B (by rw[xf,bA];decide))) ?_);refine uS (h _ _ (I2.write (x:=↥s) (e:=↥s) (o:=FG ↥s [(f,y)]) (h':=h') (t':=s.toks+1+1) ?_ (.inl Z) (λb u' i q=>(w.2 b i).trans q) #[oD,m] (Mi (by show 1<=1000;decide) l ?_ T)) ?_ ?_ #[_,(by rw[uF (uZ j),uN]),.inr G])
  .rw[uF j,uN];exact trivial
  .intro g;show l0 (List.lookup g [(f,y)]) (if g=f then U u else O);by_cases q:g=f
   .rw[uM q,q];simp[Bl];exact ry
   .let aa:(g == f)=J:=by simpa using q
    rw[uI q];simp[Bl,aa];trivial
  .refine .full (d:=↥s) (by rw[uF (uZ j),uN]) ?_ j;rw[uN];rfl
  .intro b o' i p _;let nb:b≠↥s:=vp i G;rw[uF nb,uF p,uF nb];exact i
 | @full d _ r K k=>
  let#[o,t,D,h2,V,P]:=DR I r;let#[oc,ah,ac,N]:=o;dsimp only at h2 V P;subst h2 V P;let#[#[aj,mA,hn,af,T],_]:=I.hok d _ K;calc wpAny_loadPart D (uC (Looks.here (s:={ s with toks:=s.toks+1 }) LC ?_));rw[W];calc uS ?_;dsimp only;calc uC (uS (uC ?_));calc wpAny_nsSet1 (s:={ s with toks:=s.toks+1 }) hn λh' l w=>?_;let#[oD,ag,ai,m,v,B]:=l.count (PySem.Within.cons f u T);calc uC (wpAny_lookBehind m (by rw[v];calc pastItsLine_dict (u8 B (by rw[vQ,uO,bA];nofun))) ?_);refine uS (h _ _ (I.write (x:=d) (e:=d) (o:=FG d (kW f y fs)) (h':=h') (t':=s.toks+1+1) (by rw[K];calc trivial) (.inl Z) (λb u' i q=>(w.2 b i).trans q) #[oD,m] (Mi ?_ l ?_ ?_)) ?_ ?_ #[d,(by rw[uF (uZ k)];calc r),.inl r])
  .have:=KP f y fs;nofun
  .intro g;show l0 ((kW f y fs).lookup g) (if g=f then U u else mA g);rw[wN];by_cases q:g=f
   .rw[uM q,uM q];exact ry
   .rw[uI q,uI q];exact af g
  .intro g hg;by_cases q:g=f
   .rw[q];exact(Hq f y fs).1
   .refine(Hq f y fs).2 g (T g λz=>hg ?_);show (if g=f then U u else mA g)=O;rw[uI q];exact z
  .exact .full (d:=d) (by rw[uF (uZ k)];calc r) uN k
  .intro b o' i p ab;rw[uF (ab d r)];calc i
end
noncomputable abbrev mX (C t:AD):Obj:={ cls:=.ref C,data:=.fields ↑[.ref t,.none,.none,.none,.bool J,.none] }
noncomputable abbrev nR (vs:AC):Obj:={ cls:=.type "tuple",data:=.seq ↑vs }
structure Xm (K:Frag)(C:AD):Prop where
 c:Xc K C
 ob:∃(nm q:Str)(N:AD)(bs bm:AC)(BV:Bool)(sn:AJ)(sub:AC)(ab:Bool)(col:Option Bool)(dd:Option AD)(k0 k1 k2 k3 k5:Option bU),
  K.lookup C=U (excClassObj nm q C N bs bm BV sn sub ab col dd k0 k1 k2 k3 k5 "ValueError.__new__")
 kp:keepIn K (.ref C)=Y
section
variable {prog:AG}{w:AI}{A:AH}{E:vY}{h:Heap}{g:Array GenState}{d:Drawn}{t:Nat}{os:OsState}{K:Frag}
variable {nm q:Str}{C N:AD}{bs bm:AC}{BV:Bool}{sn:AJ}{sub:AC}{ab:Bool}{col:Option Bool}{dd:Option AD}{k0 k1 k2 k3 k5:Option bU}
def Zjf {M:Model}{rest:AC}{Q:Unit->AE->Prop}(i:nu (.ref C::bm)=Y)(a:h.get? C=U (excClassObj nm q C N bs bm BV sn sub ab col dd k0 k1 k2 k3 k5 "ValueError.__new__"))
  (j:Q () #[h,g,d,t,os]):bR M A (checkBuiltinCall "ValueError.__new__" #[.ref C::rest,[]]) Q E #[h,g,d,t,os]:=by
 let c:=Iw;let f:=Fy (n:="ValueError") (b:=Y) nofun i;let e:=c.noStar;simp only[checkBuiltinCall,c.newKind,c.newSplit,c.newRow];repeat (first | calc B6 a ?_ | (calc F3 a ?_;rw[f]) | calc wpAny_staticBase_exc a ?_ | calc wpAny_madeBy_exc a ?_ | simp only[bne_self_eq_false,Cy,if_false] | wp_step)
 calc j
def xnew {o:Result->AE->Prop}{rest:AC}(e:nu (.ref C::bm)=Y)(j:h.get? C=U (excClassObj nm q C N bs bm BV sn sub ab col dd k0 k1 k2 k3 k5 "ValueError.__new__"))
  (r:o (.ok (.ret (.ref (h.objs.size+1)))) #[(h.push (nR rest)).push (mX C h.objs.size),g,d,t,os]) (l:⇑rest<=sizeLine):
  codeAny (bJ prog w) A (.builtin "ValueError.__new__" #[.ref C::rest,[]]) o #[h,g,d,t,os]:=by
 let a:=Iw;let f:=a.ends;let m:=Fy (n:="ValueError") (b:=Y) nofun e;let c:=Fy (n:="AttributeError") (b:=J) nofun e;let i:=Fy (n:="NameError") (b:=J) nofun e;calc codeAny_builtinAt a.entry ?_;unfold Builtin.«BaseException.__new__»;calc PySem.wpAt_bind ?_;show PySem.wpAt _ _ _ (stack >>= _) _ _ _;refine PySem.wpAt_bind (PySem.wpAt_stack λp k=>PySem.wpAt_of_wpAny ?_)
 wp_walk
 calc PySem.wpAt_of_wpAny ?_;rw[a.owner];repeat (first | with_reducible calc wpAny_madeHere_exc a.canon j ?_ | with_reducible calc B6 j ?_ | (with_reducible calc F3 j ?_;first | rw[m] | rw[c] | rw[i]) | wp_step)
 show o _ _;rw[zO];calc r
def NX {p:Result->AE->Prop}{rest:AC}{a:bU}(L:K.In h)(n:nu (.ref C::bm)=Y)(i:h.get? C=U (excClassObj nm q C N bs bm BV sn sub ab col dd k0 k1 k2 k3 k5 "ValueError.__new__"))
  (x:Looks (bJ prog w) h (typeLookup (.ref C) "__init__") (U a)) (u:∀f,Looks (bJ prog w) h (bindSpecial a f) (a,[f])) (j:⇑rest<=sizeLine)
  (B:codeAny (bJ prog w) (A.under (.builtin "type.__call__" #[.ref C::rest,[]])) (.call a #[.ref (h.objs.size+1)::rest,[]]) (PySem.W.InitBack (h.objs.size+1) p) #[(h.push (nR rest)).push (mX C h.objs.size),g,d,t,os]):
  codeAny (bJ prog w) A (.call (.ref C) #[rest,[]]) p #[h,g,d,t,os]:=by
 let F:=tc_lookup;let H:=tc_bind (.ref C);let G:(#[h,g,d,t,os]:AE).TypeIs (.ref C) "type":=#[_,i,Z];let y:=Iw;calc codeAny_of_tree ?_;show bR _ _ (callAny (.ref C) _) _ _ _;repeat (any_goals (first | assumption | with_reducible calc B6 i ?_ | wp_step))
 calc#[Z,?_];calc codeAny_call_builtin_at (Code.quiet_builtin _ nofun) entry_typeCall (wpAny_check_type_call_sub i ?_);repeat (first | with_reducible calc B6 i ?_ | with_reducible calc wpAny_madeBy_exc i ?_ | wp_step)
 calc codeAny_call_builtin_code (Code.quiet_builtin _ y.quiet) (Zjf n i ?_);calc xnew n i ?_ j;show bR _ _ _ _ _ _;let k:∀b o,h.get? b=U o->((h.push (nR rest)).push (mX C h.objs.size)).get? b=U o:=λb o e=>vy _ (vy _ e);let m:=k _ _ i;let c:((h.push (nR rest)).push (mX C h.objs.size)).get? (h.objs.size+1)=U { cls:=.ref C,data:=.fields ↑[.ref h.objs.size,.none,.none,.none,.bool J,.none] }:=by heap_get
 let l:(dy C::bm).contains (.ref C)=Y:=by simp
 let D:=x.keeps k;let s:=(u (.ref (h.objs.size+1))).keeps k;let I:Looks (bJ prog w) ((h.push (nR rest)).push (mX C h.objs.size)) (typeOf (.ref (h.objs.size+1))) (.ref C):=(Looks.ld c).andThen .now;unfold isInstance;repeat (first | with_reducible calc B6 c ?_ | (with_reducible calc F3 m ?_;rw[l]) | wp_step)
 calc F3 m ?_;rw[l];repeat (first | with_reducible calc B6 c ?_ | wp_step)
 show bR _ _ (typeLookup (.ref C) _) _ _ _;calc D.at (xZ (uC (s.at ?_)));calc uC (zN ?_);calc codeAny_mono B λr E z=>?_;rcases r with e | (v | _ | _ | _)<;>first | exact z | exact z.elim | skip
 let#[Z,z]:=z;calc uS (uS z)
end
section
def uB.xmade (I:uB X BO σ H s):uB X BO σ (upd H (↥s+1) (xo (↥s+1) C O)) { s with heap:=(s.heap.push (nR us)).push (mX C ↥s) }:=by
 let c:uB X BO σ H { s with heap:=s.heap.push (nR us) }:=I.kept (t':=s.toks) λb o e=>vy _ e;let d:((s.heap.push (nR us)).push (mX C ↥s)).get? (↥s+1)=U (mX C ↥s):=by
  have:=wB (s.heap.push (nR us)) (o:=mX C ↥s) Z
  rwa [zO]at this
 calc c.laid (a:=↥s+1) (t':=s.toks) (λb u q=>vy _ q) (zU (zO _ _)) (LA d Z Z Z)
def RQ (I:uB X BO σ H s)(m:Xm X.K C)(v:H e=U (xo e C d))(hz:⇑us<=sizeLine)(A:AH)
    (h:∀s',uB X BO σ H s'->R_ (.ok (.ret .none)) s'):codeAny (bJ X.prog X.w) A (.call (.builtin "ValueError.__init__") #[.ref e::us,[]]) R_ s:=by
  let k:=Iw;let c:=m.c;let#[nm,qn,N,bs,bm,BV,sn,T,ab,M,dd,k0,k1,k2,k3,k5,P]:=m.ob;let E:=I.kIn _ _ P;let#[o,t,r,G,D,B]:=DR I v;let#[oc,W,S,Q]:=o;dsimp only at G D B;subst G D B;let L:Looks (bJ X.prog X.w) s.heap (isInstance (.ref e) (.type "ValueError")) Y:=((Looks.ld r).andThen .now).andThen (II I.kIn (c.base (n:="ValueError") (b:=Y) nofun));let#[i,g,F,l,z]:=s;calc codeAny_call_builtin k.init.plain k.initEntry ?_;let p:=k.noStar;simp only[checkBuiltinCall,k.initKind,k.initSplit,k.initRow];calc uC (L.at ?_);simp only[Bool.not_true,Cy,if_false];let j:bR (bJ X.prog X.w) A.in1 (Builtin.«BaseException.__init__» #[.ref e::us,[]]) (λj s'=>match j with | .done f=>R_ (.ok f) s' | .again c'=>c'.quiet=Y/\codeAny (bJ X.prog X.w) A c' R_ s') (λe s'=>R_ (.error e) s') #[i,g,F,l,z]:=by
    let BY:e<i.objs.size:=vq r
    wp_walk
    calc h _ ?_;let K:uB X BO σ H { (#[i,g,F,l,z]:AE) with heap:=i.push (nR us) }:=I.kept (t':=l) λb o e=>vy _ e;let y:=Cp (ft (·.setIfInBounds 0 (dy i.objs.size))) (vy (h:=i) (nR us) r) Z;let w:=K.write (x:=e) (e:=e) (o:=xo e C W) (h':=(i.push (nR us)).update e (ft (·.setIfInBounds 0 (dy i.objs.size)))) (t':=l) (by rw[v];calc trivial) (.inl Z)
      (λb u V q=>by rw[Bm _ _ (uZ V)];calc q) #[_,y] (LA y Z Z Z)
    rw[ZpE v]at w;exact w
  repeat (first | with_reducible calc B6 E ?_ | (with_reducible calc wpAny_load E ?_) | with_reducible calc B6 r ?_ | wp_step)
  first
    | (refine wpAny_onRaise ?_
       rw[show ∀(a b:String)(n:Nat),Bind.check #[.positional,"*","ValueError",.self,[#["args",.varPos,J]]] a b n (List.map (λx=>x.fst) ({ pos:=dy e::us }:Args).kw)=pure () from λa b n=>check_star_args _ _ _ _ _ _];calc uS j)
    | skip
end
structure Xi (K:Frag)(C:AD):Prop where
 c:Xc K C
 ha:fw K (.ref C) "__class__"=U (U (.builtin "object.__class__"))
 hn:specialIn K (.builtin "object.__class__") "__get__"=U (U (.builtin "getset_descriptor.__get__"))
 htk:takesIn K (.builtin "object.__class__")=U Y
section
variable {K:Frag}{x C:AD}{ox:Obj}{od:Option Obj}{prog:AG}{w:AI}{A:AH}{E:vY}{s:AE}
def ZpA (i:Xi K C)(e:K.In s.heap)(I:InstAt s.heap x ox C od)(h:Q (U (.ref C)) { s with toks:=s.toks+1 }):bR (bJ prog w) A (getAttr? (.ref x) "__class__") Q E s:=by
 let c:=i.c;let o:findObj K C od "__class__"=U (.bind (.builtin "getset_descriptor.__get__") (.builtin "object.__class__")):=by let#[v,r,_]:=EA c.hd;unfold findObj;rw[r,i.ha];simp only[D8,i.hn,i.htk]
 let#[k,g,d,t,l]:=s;let j:=I.type (M:=bJ prog w);let m:=Ds (M:=bJ prog w) e c.ga;let L2:=Ds (M:=bJ prog w) e c.gr;let u:=looks_find (M:=bJ prog w) e I o;let p:=II (M:=bJ prog w) e (c.base (n:="BaseException") (b:=Y) nofun);let q:=c.base (n:="object") (b:=Y) nofun;let f:(Value.builtin "BaseException.__getattribute__" == Value.builtin "object.__getattribute__")=J:=by decide +kernel
 let a:=F.excAttr_ValueError.ga;unfold getAttr? getAttrBy?;calc uC (wpAny_mkText (uC (Ek ?_)));unfold getAttrBy;calc xZ (uC (j.at (uC (m.at ?_))));dsimp only;rw[f,CF,uI vC];unfold getAttrByItsOwn hookBefore;calc uC ?_;show bR _ _ (if onTheHeap (dy C)=Y then typeLookup (.ref C) "__getattr__" else pure O) _ _ _;rw[uM (show onTheHeap (dy C)=Y from Z)];calc L2.at (uC (Ek (xZ ?_)));unfold callGetattribute;rw[show (J&&onTheHeap (Value.builtin "BaseException.__getattribute__"))=J from Z,uI vC];unfold boundAndCalled;rw[a.bind];calc uC (uS ?_);show bR _ _ (call (.builtin "BaseException.__getattribute__") [.ref x,.str "__class__" t]) _ _ _;calc zN (codeAny_call_builtin a.plain MS ?_);calc @check_slot (bJ prog w) _ _ #[k,g,d,t+1,l] "BaseException.__getattribute__" "BaseException" "__getattribute__" (.ref x) [.str "__class__" t] [] _ nofun nofun (j.andThen p) (F.args_bexc_ga (.ref x) (.str "__class__" t)) ?_;calc uC (uS (uC (uS (uC (j.at (uC (u.at ?_)))))));show bR _ _ (holding [.builtin "object.__class__"] (call (.builtin "getset_descriptor.__get__") [.builtin "object.__class__",.ref x,.ref C]) >>= ret) _ _ _;calc uC (xZ (zN (PySem.W.class_get (s:=#[k,g,d,t+1,l]) (ox:=ox) (od:=od) e I q (uS ?_))));calc PySem.W.handed_on Z (uS h)
def Oi (i:Xi K C):PySem.W.KitX K (.ref x) (.ref C) (λh=>InstAt h x ox C od) where
 ty:=λ_ _ _ I=>I.type
 it:=λ_ _ b _=>by
  let#[f,a,_]:=EA i.c.hd;unfold clsIn at a;split at a
  .rename_i d
   intro m o l p k q;unfold isType loadHead;exact uC (wpAny_loadPart (k _ _ (b _ _ d)) (uS q))
  .cases a
 ne:=λh tp dd g n j b c=>by
  let#[f,a,_]:=EA i.c.hd;calc Cw.mpr λq=>?_;let e:C=tp:=Value.ref.inj (beq_iff_eq.mp q);subst e;unfold clsIn at a;split at a
  .rename_i d
   let z:=(b _ _ d).symm.trans c;cases z
  .cases a
 ca:=λb I k=>ZpA i b I k
end
inductive B2 (K:Frag)(H:Hp):V->bU->Prop where
 | pl {x:V} {t:bU} (h:mL K H x t):B2 K H x t
 | seqL {a:AD} {xs:Se} (h:vO K H a xs):B2 K H (.ref a) (.type "list")
 | seqT {a:AD} {xs:Se} (h:wP K H a xs):B2 K H (.ref a) (.type "tuple")
 | exc {e C:AD} {fs:List (Str×V)} (x:yS H e C fs) (i:Xi K C):B2 K H (.ref e) (.ref C)
noncomputable def clsV:V->Option bU
 | .ref a=>U (.ref a)
 | .ty n=>U (.type n)
 | _=>O
def Zin:xU X (.builtin "isinstance") (λxs H Q=>∃x c t k b,xs=[x,c]/\clsV c=U k/\B2 X.K H x t/\kitOne X.K t k=U b/\Q (.bl b) H):=by
 rintro D s σ H xs C Q I r ⟨x,c,t,k,b,rfl,j,ty,e,q⟩;let#[u,v,Z,f,w]:=r.two;let y:v=k:=by
  cases c with
  | ref a=>cases j;exact w
  | ty n=>cases j;exact w
  | _=>cases j
 subst y;cases ty with
 | pl ty=>exact xF (Zlk I f ty e λl d=>#[.bl b,H,I.tok _ d,Z,q])
 | seqL h=>
  cases f;let#[g,_,#[o,n,p,m,_],_]:=I.list h;exact xF (zj kitx_list I.kIn #[o,p,m] e (λz=>nomatch z) λl d=>#[.bl b,H,I.tok _ d,Z,q])
 | seqT h=>
  cases f;let#[g,_,#[o,p,m,_],_]:=I.tuple h;exact xF (zj kitx_tuple I.kIn #[o,p,m] e (λz=>nomatch z) λl d=>#[.bl b,H,I.tok _ d,Z,q])
 | exc x i=>
  cases f;let#[B,E,A,_]:=x.inst I;calc xF (zj (Oi i) I.kIn A e (λz=>nomatch z) λl d=>#[.bl b,H,I.tok _ d,Z,q])
def Ny (K:Frag)(h g:TE)(f:Str):TS:=λD σ H=>g σ H λy i=>h σ i λx a=>∃e C fs,x=.ref e/\yS a e C fs/\Xc K C/\kE K C f/\⇑fs<1000 /\
 ∀c,yS c e C (kW f y fs)->(∀b o,a b=U o->b≠e->(∀d,a e=U (xo e C (U d))->b≠d)->c b=U o)->(∃d,c e=U (xo e C (U d))/\(a e=U (xo e C (U d))\/a d=O))->D.nx σ c
def ME (K:Frag)(C:AD)(t:TA):TE:=λσ H Q=>t σ H λb a=>⇑b<=1000/\∀e,a e=O->Q (.ref e) (upd a e (xo e C O))
def MM (C:AD)(sp:Sp)(E:XK)(t:TA):TE:=λσ H Q=>t σ H λa b=>⇑a<=1000/\∀e,b e=O->sp (.ref e::a) (upd b e (xo e C O)) (λv c=>v=.non/\Q (.ref e) c) E
section
def zC (w:PE X o ta)(i:PE X value tv)(A:swapsWith value (U (.Attribute o f pos')) pos.line X.env=pure J):PS X (.Assign [.Attribute o f pos'] value pos) (Ny X.K ta tv f):=by intro d s σ H D I h;calc plainObj_wpAny_Assign_Attribute (uW (i d s σ H _ I h) λu p ⟨y,r,g,B,q⟩=>uW (w d p σ r _ g q) λt P v=>?_) A;let#[x,L,k,K,a,C,N,m,G,c,n,l,j]:=v;subst m;obtain rfl:t=dy a:=K;calc xset k G c n l B λM b F E z e=>#[σ,b,F,j b E z e]
def Xm.parts {K:Frag}{C:AD}(m:Xm K C):∃(d q:Str)(N:AD)(o c:AC)(j:Bool)(h:AJ)(b:AC)(l:Bool)(a:Option Bool)(dd:Option AD)(e k i f g:Option bU),
  K.lookup C=U (excClassObj d q C N o c j h b l a dd e k i f g "ValueError.__new__")/\nu (.ref C::c)=Y:=by
 let#[d,r,N,o,c,j,h,b,l,a,dd,e,k,i,f,g,p]:=m.ob;calc#[d,r,N,o,c,j,h,b,l,a,dd,e,k,i,f,g,p,?_];let n:=m.c.mr;unfold clsIn at n;rw[p]at n;calc n
def Zjr (m:Xm X.K C)(n:fw X.K (.ref C) "__init__"=U (U (.builtin "ValueError.__init__")))(I:uB X BO σ H s)(r:⇑us<=1000)
  (h:∀e,H e=O->Q (.ref e) (upd H e (xo e C O))):bR (bJ X.prog X.w) X.A (call (.ref C) us) (EP X BO σ Q) X.xe s:=by
 let#[L,z,N,M,A,y,w,l,G,f,dd,S,E,D,P,B,i,k]:=m.parts;let j:=uB.xmade (C:=C) (us:=us) I;let p:=h (↥s+1) (I.hok.fresh (xu _));let b:⇑us<=sizeLine:=u8 r (by rw[bA];decide);let c:=I.kIn;let o:=c _ _ i;let#[v,g,d,t,x]:=s;calc zN (NX (K:=X.K) c k o (Ds c n) (λa=>Looks.of_pure (F.excBase_ValueError.init.bind a)) b ?_);calc RQ j m uN b _ λu q=>#[Z,?_];calc#[.ref _,_,q,Z,p]
def Zkw (m:Xm X.K C)(L:fw X.K (.ref C) "__init__"=U (U (.ref fI)))(j:isFn X.K (.ref fI)=Y)
  (F:kz X.prog X.w X.K X.mg X.base CX k fI fd ps sp) (hr:lI (k+1) X.A) (G:lD X.K fd ps []) (n:zH CX X E) (I:uB X BO σ H s) (r:kJ vs us) (hz:⇑vs<=1000)
  (h:∀e,H e=O->sp (.ref e::vs) (upd H e (xo e C O)) (λv H2=>v=.non/\Q (.ref e) H2) E):bR (bJ X.prog X.w) X.A (call (.ref C) us) (EP X BO σ Q) X.xe s:=by
 let#[nm,qn,N,bs,bm,BV,sn,B,ab,w,dd,k0,k1,k2,k3,k5,x,A]:=m.parts;let f:=uB.xmade (C:=C) (us:=us) I;let q:=h (↥s+1) (I.hok.fresh (xu _));let o:⇑us<=sizeLine:=by rw[<-⇑r];exact u8 hz (by rw[bA];decide)
 let i:=I.kIn;let M:=i _ _ x;let p:kJ (V.ref (↥s+1)::vs) (dy (↥s+1)::us):=.cons Z r;let T:⇑((dy (↥s+1)::us)++[])=⇑ps:=by let e:=⇑p;rw[F.len _ _ _ _ q]at e;rw[zd];exact e.symm
 let c:=G { s with heap:=(s.heap.push (nR us)).push (mX C ↥s) } (dy (↥s+1)::us) f.kIn T;rw[zd]at c;let#[l,g,d,t,os]:=s;calc zN (NX (K:=X.K) i A M (Ds i L) (λb=>bind_fn i b (beq_iff_eq.mp j)) o ?_);calc codeAny_mono (F.run _ X.stack _ _ #[dy (l.objs.size+1)::us,[]] (dy (l.objs.size+1)::us) _ _ E (hr.make C us []) (f.env0.make C us []) c p q) λr y a=>?_;cases r with
 | error e=>exact n BO σ _ _ e y f a
 | ok z=>
  cases z with
  | ret u=>
   let#[v,D,I3,W,P,S]:=f.after a;subst P;exact#[W,#[V.ref (l.objs.size+1),D,I3,Z,S]]
  | next=>exact ff a
  | brk=>exact ff a
  | cont=>calc ff a
def F5 (m:Xm X.K C)(f:fw X.K (.ref C) "__init__"=U (U (.builtin "ValueError.__init__")))(j:Gl X x)(k:X.mg x=U (.ref C))(d:PA X (e::es) t)
  (b:autoParam ((x == ("__debug__":Str))=J) Xw._auto_1) (g:‹bD (e::es) X.env=(J,eval e X.env)::bD es X.env›) (a:‹(iw pos (bD es X.env)).any (·.1)=J›):
  PE X (.Call (.Name x p) (e::es) [] pos) (ME X.K C t):=by
 intro i s σ H Q I h;calc B9 (B5 I j k ?_ b);calc CH (h₀:=X.base) I.ok.mod.kin m.kp (uW (d pos i s σ H _ I h) λn v ⟨o,u,c,r,l,q⟩=>#[c.kIn,?_]) g a;calc Zjr m f c (by rw[CC,<-⇑r];calc l) q
def zy (m:Xm X.K C)(l:fw X.K (.ref C) "__init__"=U (U (.ref fI)))(a:isFn X.K (.ref fI)=Y)
  (F:kz X.prog X.w X.K X.mg X.base CX k fI fd ps sp) (j:lI (k+1) X.A) (i:lD X.K fd ps []) (d:zH CX X E) (v:Gl X x) (w:X.mg x=U (.ref C)) (g:PA X (e::es) t)
  (c:autoParam ((x == ("__debug__":Str))=J) Xw._auto_1) (n:‹bD (e::es) X.env=(J,eval e X.env)::bD es X.env›) (b:‹(iw pos (bD es X.env)).any (·.1)=J›):
  PE X (.Call (.Name x p) (e::es) [] pos) (MM C sp E t):=by
 intro u s σ H Q I h;calc B9 (B5 I v w ?_ c);calc CH (h₀:=X.base) I.ok.mod.kin m.kp (uW (g pos u s σ H _ I h) λy B ⟨z,A,f,r,o,q⟩=>#[f.kIn,?_]) n b;calc Zkw m l a F j i d f r o q
structure mf (K:Frag)(C:AD)(f:Str)(v:bU):Prop where
 sp:specialIn K (.ref C) "__getattribute__"=U (U (.builtin "type.__getattribute__"))
 rd:readsIn K C (.type "type")=Y
 fd:findCls K (.ref C) (.type "type") f=U (.val v)
 hn:handedIn v=Y
def Nf (K:Frag)(t:TA):TE:=λσ H Q=>t σ H λb a=>∃e C d rest,b=.ref e::rest/\a e=U (xo e C d)/\Xm K C/\⇑rest<=1000/\Q .non a
def Bx (hg:Gl X x)(hm:X.mg x=U (.ref L))(cr:mf X.K L "__init__" (.builtin "ValueError.__init__"))(ha:PA X (e::es) t)
  (hdb:autoParam ((x == ("__debug__":Str))=J) Xw._auto_1) (hst:‹bD (e::es) X.env=(J,eval e X.env)::bD es X.env›) (hpl:‹(iw pos (bD es X.env)).any (·.1)=J›)
  (ht:autoParam (eval (.Call (.Attribute (.Name x np) "__init__" BT) (e::es) [] pos) X.env=(do
   let ov <-eval (.Name x np) X.env
   standAt BT.atName
   let (f,first) <-holding [ov] (getMethod ov "__init__" pl)
   callWith pos f first (iw pos (bD (e::es) X.env)) (backToKw pos (keywordEach [] X.env)))) Xq._auto_1):
  PE X (.Call (.Attribute (.Name x np) "__init__" BT) (e::es) [] pos) (Nf X.K t):=by
 intro BO s σ H Q I h;calc FZ (pl:=pl) (B5 I hg hm ?_ hdb) ht;calc method_cls I.kIn cr.sp (cls_value I.kIn cr.rd cr.fd cr.hn ?_);calc JP (uW (ha pos BO _ σ H _ (I.tok _) h) λus s1 zz=>?_) hst hpl;let#[vs,H1,I1,r1,ev,C,d,rest,evs,hx,m,hz,q]:=zz;subst evs;cases r1 with
 | cons ru rr=>
  cases ru;calc zN (RQ I1 m hx (by rw[<-⇑rr];calc u8 hz (by rw[bA];decide)) _ λs' I3=>?_);calc#[.non,H1,I3,Z,q]
end
section
end
section
end
section
def q_I:rI C g (.int i) (.int j) H Q=(C i j/\Q (g i j) H):=rfl
def q_I0:Cs g (.int i) (.int j) H Q=Q (g i j) H:=rfl
def q_U:rU g (.int i) H Q=Q (g i) H:=rfl
def q_T:rT C g (tx a) (tx b) H Q=(C a b/\Q (g a b) H):=rfl
def ut:HC (U (U v)) p=p v:=rfl
def rK {v:V}{p:V->Prop}:(∃u,v=u/\p u)=p v:=
 propext #[λ⟨_,e,h⟩=>by cases e;calc h,λh=>#[v,Z,h]]
end
open PySem.W (Frag findIn specialIn typeIn mroIn clsIn subIn kitOne kitCls)
def QH (b a:Scope):Bool:=R (b.kind=.function)&&b.names.all λy=>R (y.2≠NameKind.cell)&&(R (y.2≠NameKind.local) || R (b.names.lookup y.1=U NameKind.local)) &&
 (R (y.2≠dv) || (R (a.names.lookup y.1=U NameKind.cell) || R (a.names.lookup y.1=U dv)))
def xQ (h:QH sc X.env.scope=Y):mj X sc:=by
 unfold QH at h;rw[vW,xT]at h;let#[c,b]:=h;refine#[R7 c,λy a=>?_,λy a e=>?_,λy a e=>?_]
 .have:=b y a;simp only[vW,Bool.or_eq_true,Sc]at this;exact this.1.1
 .have:=b y a;simp only[vW,Bool.or_eq_true,Sc]at this;rcases this.1.2 with z | z
  .exact Sa e z
  .exact z
 .have:=b y a;simp only[vW,Bool.or_eq_true,Sc]at this;rcases this.2 with z | z | z
  .exact Sa e z
  .exact .inl z
  .exact .inr z
section
variable {K:Frag}{H:Hp}{C D:AD}
structure lA (K:Frag)(C:AD)(mro:AC):Prop where
 cd:∃cd,clsIn K C=U cd/\cd.mro=mro
 ty:typeIn K (.ref C)=U (.type "type")
 ne:mro.isEmpty=J
def Zo2 (c:lA K C m1)(d:lA K D m2)(h:m1.contains (.ref D)=b)(a:C=D->b=Y):kitOne K (.ref C) (.ref D)=U b:=by
 let#[l,g,j]:=c.cd;let#[f,i,k]:=d.cd;unfold kitOne;split
 .rename_i z
  let e:dy C=dy D:=by simpa using z
  cases e;rw[a Z]
 .unfold PySem.W.kitCls;dsimp only;rw[i,d.ty];simp only[Option.isSome_some,BZ,beq_self_eq_true,if_true];unfold PySem.W.subIn mroIn;dsimp only;rw[g,D8,j,c.ne,h];rfl
def yL (K:Frag)(C:AD)(n:Nat)(fs:Se->List (Str×V)):Sp:=λc H Q _=>∃e r,c=.ref e::r/\⇑r=n/\H e=U (xo e C O) /\
 ∀a,yS a e C (fs r)->(∀b o,H b=U o->b≠e->a b=U o)->Q .non a
def vG (h:H a=O):ky H (upd H a o):=λb u c=>by rw[uF (vp c h)];calc c
end
def HU (C:AD)(H:Hp)(Q:VK):Prop:=∀e,H e=O->Q (.ref e) (upd H e (xo e C O))
def yi (sp:Sp)(E:XK)(C:AD)(vs:Se)(H:Hp)(Q:VK):Prop:=∀e,H e=O->sp (.ref e::vs) (upd H e (xo e C O)) (λv a=>v=.non/\Q (.ref e) a) E
def kU (xs:Se)(H:Hp)(Q:VK):Prop:=∀p,H p=O->Q (.ref p) (upd H p (.lst xs))
def ly (xs:Se)(H:Hp)(Q:VK):Prop:=∀p,H p=O->Q (.ref p) (upd H p (.tup xs))
section
variable {K:Frag}{C:AD}{sp:Sp}{E:XK}{t:TA}{σ:St}{H:Hp}{Q:VK}{vs:Se}
def ZsV:ME K C t σ H Q=t σ H (λvs H1=>⇑vs<=1000/\HU C H1 Q):=rfl
def ZsU:MM C sp E t σ H Q=t σ H (λvs H1=>⇑vs<=1000/\yi sp E C vs H1 Q):=rfl
def ZsW:tY t σ H Q=t σ H (λxs H1=>⇑xs<=sizeLine/\kU xs H1 Q):=rfl
def ZsT:tTup t σ H Q=t σ H (λxs H1=>⇑xs<=sizeLine/\ly xs H1 Q):=rfl
def Na:rCat (.ref l) (.ref b) H Q=∃xs a,H l=U (.lst xs)/\H b=U (.lst a)/\⇑xs+⇑a<=sizeLine/\kU (xs++a) H Q:=
 propext #[λ⟨_,_,xs,a,c,d,h⟩=>by cases c;cases d;calc#[xs,a,h],λ⟨xs,a,h⟩=>#[l,b,xs,a,Z,Z,h]]
def HU.of (h:∀e a,ky H a->H e=O->yS a e C []->Q (.ref e) a):HU C H Q:=λe b=>h e _ (vG b) b (.bare uN)
def yi.of (f:⇑vs=n)(h:∀e a,ky H a->H e=O->yS a e C (fs vs)->Q (.ref e) a):yi (yL K C n fs) E C vs H Q:=
 λe d=>#[e,vs,Z,f,uN,λa x k=>#[Z,h e a (λb o c=>k b o (by rw[uF (vp c d)];calc c) (vp c d)) d x]]
def kU.of (h:∀p a,ky H a->H p=O->a p=U (.lst vs)->Q (.ref p) a):kU vs H Q:=λp b=>h p _ (vG b) b uN
def ly.of (h:∀p a,ky H a->H p=O->a p=U (.tup vs)->Q (.ref p) a):ly vs H Q:=λp b=>h p _ (vG b) b uN
def kU.at (h:∀p,H p=O->Q (.ref p) (upd H p (.lst vs))):kU vs H Q:=h
def ly.at (h:∀p,H p=O->Q (.ref p) (upd H p (.tup vs))):ly vs H Q:=h
def Fo:cy "str"=U (.type "str"):=by decide +kernel
def Mz:cy "int"=U (.type "int"):=by decide +kernel
def Zpt:cy "bool"=U (.type "bool"):=by decide +kernel
def CS:cy "list"=U (.type "list"):=by decide +kernel
def Nz:cy "dict"=U (.type "dict"):=by decide +kernel
def LZ:cy "set"=U (.type "set"):=by decide +kernel
def wW:cy "len"=U (.builtin "len"):=by decide +kernel
def yf:cy "isinstance"=U (.builtin "isinstance"):=by decide +kernel
def Pd:cy "all"=U (.builtin "all"):=by decide +kernel
def ZrD:cy "any"=U (.builtin "any"):=by decide +kernel
def ZrC:cy "max"=U (.builtin "max"):=by decide +kernel
def ZrB:cy "min"=U (.builtin "min"):=by decide +kernel
def Ib:cy "sorted"=U (.builtin "sorted"):=by decide +kernel
end
def Fc (K:Frag)(H:Hp)(d:DT)(x:V):Prop:=kN K H d x/\wA d d=Y/\zV d<=60
def Fc.same {K:Frag}{H a:Hp}{d:DT}{x:V}(o:Fc K H d x)(s:ky H a):Fc K a d x:=#[s.dat o.1,o.2]
def vO.mk {K:Frag}{H:Hp}{a:AD}{xs:Se}(h:H a=U (.lst xs)):vO K H a xs:=.inl (.inl h)
def wP.mk {K:Frag}{H:Hp}{a:AD}{xs:Se}(h:H a=U (.tup xs)):wP K H a xs:=.inl (.inl h)
def zK:¬(U (xo e C O)=U (xo e C (U d))):=by
 intro z;let b:xo e C O=xo e C (U d):=cx z;unfold xo at b;injection b with z2;let a:(#[Array.replicate (e+1) (mX C 0),{known:=0}]:Heap).get? e=U (mX C 0):=by
  unfold Heap.get?;have:(Array.replicate (e+1) (mX C 0))[e]?=U (mX C 0):=by simp
  dsimp only;rw[this]
 let q:=congrFun z2 #[Array.replicate (e+1) (mX C 0),{known:=0}];let l:∃(o:Obj)(t:AD),(#[Array.replicate (e+1) (mX C 0),{known:=0}]:Heap).get? e=U o/\o.cls=.ref C/\o.dict=O/\o.data=.fields ↑[.ref t,.none,.none,.none,.bool J,.none]:=#[_,0,a,Z,Z,Z];let r:=q.mp l;let#[o,t,c,_,f,_]:=r;rw[a]at c;cases c;cases f
def JM (z:U (xo e C (U d))=U (xo e C (U d'))):d=d':=by
 let b:xo e C (U d)=xo e C (U d'):=cx z;unfold xo at b;injection b with z2;generalize eo:({ cls:=.ref C,dict:=U d,data:=.fields ↑[.ref 0,.none,.none,.none,.bool J,.none] }:Obj)=ob at *;let a:(#[Array.replicate (e+1) ob,{known:=0}]:Heap).get? e=U ob:=by
  unfold Heap.get?;have:(Array.replicate (e+1) ob)[e]?=U ob:=by simp
  dsimp only;rw[this,<-eo]
 let q:=congrFun z2 #[Array.replicate (e+1) ob,{known:=0}];let r:=q.mp #[_,0,a,by rw[<-eo],by rw[<-eo],by rw[<-eo]];let#[o,t,c,_,f,_]:=r;rw[a]at c;cases c;rw[<-eo]at f;calc cx f
section
variable {X:Cx}{K:Frag}
def x6 (a:X.K=K)(b:X.A.units+64<cLine):wG X (fx .Eq) (nv K J):=by subst a;calc Zqu b
def En (a:X.K=K)(b:X.A.units+64<cLine):wG X (fx .NotEq) (nv K Y):=by subst a;calc Zqt b
def wq (a:X.K=K):DU X (rIxL K):=by subst a;calc Zo4
def xA (a:X.K=K):DU X (pW K):=by subst a;calc Zq7
def E5 (a:X.K=K):F1 X (rSlL K):=by subst a;calc Zn6
def Zjv (a:X.K=K):wG X (fx .In) (HW K J):=by subst a;calc ZkN
def Jf (a:X.K=K):wG X (fx .NotIn) (HW K Y):=by subst a;calc ZgY
def w4 (a:X.K=K):xU X (.builtin "len") (λxs H Q=>∃x n,xs=[x]/\qg K x H n/\Q (.int n) H):=by subst a;calc ZmQ
def IR (a:X.K=K):xU X (.type "list") (λxs H Q=>∃p ys,xs=[.ref p]/\(vO K H p ys\/wP K H p ys)/\∀l,H l=O->Q (.ref l) (upd H l (.lst ys))):=by subst a;calc Zhy
def vL (a:X.K=K)(c:PE X e ta)(b:attributeBase e f X.env (eval e X.env)=eval e X.env):PE X (.Attribute e f pos) (qD K ta f):=by subst a;calc Zqp c b
def wY (b:X.K=K)(a:PE X l tl):PI X tg l (KS K tl):=by subst b;calc Zov a
end
def cxK {CX:zT}{P:AG}{w:AI}{K:uH}{g:AB}{d:Heap}{N:AJ}{c:Str}{b:Scope}{f:AD}{e:bU}{A:AH}{a:List Env}{s:AE}{H:Hp}{E:XK}:
  (mv CX P w K g d N c b f e A a s H E).K=K:=rfl
def bxK:(bx X sc N fp s_0 H pn).K=X.K:=rfl
open PySem.W (Frag)
def kT (c:It)(g:TG)(tb:TS)(D:mM)(σ:St)(H:Hp):Prop:=∃W:Nat->Nat->St->Hp->Prop,(∃m,W 0 m σ H)/\∀i m σ H,W i m σ H ->
 (c.stop i H/\D.nx σ H)\/(c.go i H/\∃N:St->Hp->Prop,(∀b a,N b a->∃e,e<m/\W (i+1) e b a)/\∀x a,c.yld i H x a->g x σ a λd f=>tb { D with nx:=N,ct:=N,bk:=D.nx } d f)
def ZsX:tFor wi g tb D σ H=wi σ H λJ_ H1=>kT J_ g tb D σ H1:=rfl
def kF (j:It)(f:St)(g:TG)(t:TT)(r:TE)(l:Hp)(Q:VK):Prop:=∀a,l a=O->∃W:Nat->Nat->St->Hp->Prop,(∃m,W 0 m f (upd l a (.lst []))) /\
 ∀i m τ d,W i m τ d->(j.stop i d/\Q (.ref a) d)\/(j.go i d/\∃h:St->Hp->Prop,(∀e k,h e k->∃q,q<m/\W (i+1) q e k) /\
  ∀x o,j.yld i d x o->g x τ o λc s=>t c s λb n=>if b=Y then r c n λy p=>∃ys,p a=U (.lst ys)/\⇑ys<sizeLine/\h c (upd p a (.lst (ys++[y]))) else h c n)
def Zqj:K5 ix wi g tt te σ H Q=wi σ H λJ_ H1=>kF J_ (oY ix σ) g tt te H1 Q:=rfl
section
variable {g:TG}{tb:TS}{D:mM}{σ:St}{H:Hp}{K:Frag}{a:AD}{xs:Se}
def kT.list (b:Nat->St->Hp->Prop)(f:b 0 σ H)(c:∀i σ H,i<=⇑xs->b i σ H->vO K H a xs)
  (d:∀i x σ H,xs[i]?=U x->b i σ H->g x σ H λσ2 H2=>tb { D with nx:=b (i+1),ct:=b (i+1),bk:=D.nx } σ2 H2) (e:∀σ H,b ⇑xs σ H->D.nx σ H):kT (By K a) g tb D σ H:=
 ZmD b f c d e
def kT.range {b:Int}{n:Nat}(a:Nat->St->Hp->Prop)(e:a 0 σ H)
  (c:∀i σ H,i<n->a i σ H->g (.int (b+i)) σ H λσ2 H2=>tb { D with nx:=a (i+1),ct:=a (i+1),bk:=D.nx } σ2 H2) (d:∀σ H,a n σ H->D.nx σ H):
  kT (Bu b n) g tb D σ H:=Zlr a e c d
def kT.text (a:Nat->St->Hp->Prop)(d:a 0 σ H)
  (b:∀i c σ H,l[i]?=U c->a i σ H->g (tx [c]) σ H λσ2 H2=>tb { D with nx:=a (i+1),ct:=a (i+1),bk:=D.nx } σ2 H2) (e:∀σ H,a ⇑l σ H->D.nx σ H):
  kT (DK l) g tb D σ H:=ZmC a d b e
end
section
def kF.gen (v:Nat->V)(b:Nat->Bool)(f:Nat->V)(N:n<=1000)(z:∀i a,i<n->ky H a->J_.go i a)(u:∀a,ky H a->J_.stop n a)(E:∀i a x s,i<n->ky H a->J_.yld i a x s->s=a/\x=v i)
  (G:∀i a k,i<n->ky H a->(∀H'',ky a H''->k (b i) H'')->tt (τ0.set 0 (U (v i))) a k)
  (I:∀i a k,i<n->b i=Y->ky H a->(∀H'',ky a H''->k (f i) H'')->te (τ0.set 0 (U (v i))) a k)
  (F:∀p a,ky H a->H p=O->a p=U (.lst (((cc n).filter b).map f))->Q (.ref p) a):kF J_ τ0 (xW 0) tt te H Q:=by
 intro acc A;calc#[λi m τ h=>i<=n/\m=n-i/\(∀w:Option V,τ.set 0 w=τ0.set 0 w)/\ky H h/\h acc=U (.lst (((cc i).filter b).map f)),#[n,wf _,Z,λ_=>rfl,vG A,uN],?_];rintro i m τ h ⟨M,rfl,B,g,t⟩;by_cases j:i<n
 .refine .inr #[z i h j g,λr a=>(∀w:Option V,r.set 0 w=τ0.set 0 w)/\ky H a/\a acc=U (.lst (((cc (i+1)).filter b).map f)),λr a q=>#[n-(i+1),∅,j,Z,q],λx s y=>?_];let#[Z,Z]:=E i h x s j g y;show tt (τ.set 0 (U (v i))) _ _;rw[B];let d:∀w:Option V,(τ0.set 0 (U (v i))).set 0 w=τ0.set 0 w:=λw=>by rw[List.set_set]
  calc G i _ _ j g λL l=>?_;cases hb:b i with
  | false=>
   rw[uI vC];calc#[d,g.trans l,?_];rw[l _ _ t,CD,Dc];simp[hb]
  | true=>
   rw[uM Z];calc I i _ _ j hb (g.trans l) λK D=>?_;refine#[_,D _ _ (l _ _ t),?_,d,?_,?_]
   .rw[uO];have:=yA b (cc i);rw[Bp]at this;exact Kk ∅
   .intro c o C;have:c≠acc:=vp C A;rw[uF this];exact D _ _ (l _ _ (g _ _ C))
   .rw[uN,CD,Dc];simp[hb]
 .let e:i=n:=by nofun
  subst e;calc .inl #[u h g,F acc h g A t]
def kF.range {d:Int}{n:Nat}(b:Nat->Bool)(f:Nat->V)(k:n<=1000)
  (g:∀(i:Nat) a c,i<n->ky H a->(∀H'',ky a H''->c (b i) H'')->tt (τ0.set 0 (U (.int (d+i)))) a c)
  (j:∀(i:Nat) a c,i<n->b i=Y->ky H a->(∀H'',ky a H''->c (f i) H'')->te (τ0.set 0 (U (.int (d+i)))) a c)
  (e:∀p a,ky H a->H p=O->a p=U (.lst (((cc n).filter b).map f))->Q (.ref p) a):kF (Bu d n) τ0 (xW 0) tt te H Q:=
 .gen (λi=>.int (d+i)) b f k (λi _ h _=>h) (λ_ _=>uV _) (λi a x l _ _ y=>y) g j e
def mE:((cc n).filter λ_=>Y).map f=(cc n).map f:=by rw[List.filter_eq_self.mpr (λ_ _=>rfl)]
def kF.rangeA {c:Int}{n:Nat}(f:Nat->V)(j:n<=1000)
  (h:∀(i:Nat) a b,i<n->ky H a->(∀H'',ky a H''->b (f i) H'')->te (τ0.set 0 (U (.int (c+i)))) a b)
  (d:∀p a,ky H a->H p=O->a p=U (.lst ((cc n).map f))->Q (.ref p) a):kF (Bu c n) τ0 (xW 0) oV te H Q:=
 .range (λ_=>Y) f j (λi a b _ _ q=>q a (ky.refl _)) (λi a b g _=>h i a b g) λp a s n e=>d p a s n (by rw[e,mE])
def kF.text (b:Nat->Bool)(f:Nat->V)(k:⇑l<=1000)
  (m:∀i a d (h:i<⇑l),ky H a->(∀H'',ky a H''->d (b i) H'')->tt (τ0.set 0 (U (tx [l.getD i 0]))) a d)
  (j:∀i a d (h:i<⇑l),b i=Y->ky H a->(∀H'',ky a H''->d (f i) H'')->te (τ0.set 0 (U (tx [l.getD i 0]))) a d)
  (g:∀p a,ky H a->H p=O->a p=U (.lst (((cc ⇑l).filter b).map f))->Q (.ref p) a):kF (DK l) τ0 (xW 0) tt te H Q:=
 .gen (λi=>tx [l.getD i 0]) b f k (λi _ h _=>h) (λ_ _=>uV _) (λi a x o _ _ y=>by let#[e,c,n,Z]:=y;calc#[e,?_];rw[wj,n];rfl) m j g
end
theorem Qt:∀ {vs:Se},vs.all xG=Y->deqs (vs.map DT.f) (vs.map DT.f)=Y
 | [],_=>by unfold deqs;rfl
 | v::vs,h=>by rw[zW,vW]at h;rw[vP];unfold deqs;rw[Qt h.2];unfold wA;rw[Jo h.1];rfl
def ownF {K:Frag}{H:Hp}{v:V}(h:xG v=Y):Fc K H (.f v) v:=#[datF h,by unfold wA;calc Jo h,by unfold zV;calc wf _]
def tW {K:Frag}{H:Hp}{a:AD}{vs:Se}(h:vO K H a vs)(b:vs.all xG=Y):Fc K H (.l (vs.map DT.f)) (.ref a):=#[pN h b,by unfold wA;calc Qt b,by unfold zV;rw[Zlz];decide]
def ZrH {t:SetTable}{n:Nat}:(t.orStandIn n).led=t.led/\((t.orStandIn n).plain=Y->t.plain=Y):=by
 unfold SetTable.orStandIn;split
 .exact#[Z,id]
 .exact#[Z,λh=>by cases h]
def ZpF:(layNew t es h x).2.1.led=t.led/\((layNew t es h x).2.1.plain=Y->t.plain=Y):=by
 unfold layNew;split
 .rename_i a b _
  exact ZrH (t:=(t.put a).1)
 .exact#[Z,λh=>by cases h]
def ZnW {b a d:Nat}{f plain:Bool}{g:Array Int}{t':SetTable}{c:Array Nat}(e:SetTable.laid b a d f plain g=U (t',c)):t'.led=f/\t'.plain=plain:=by
 unfold SetTable.laid at e;cases hq:SetTable.layClean b g with
 | none=>rw[hq]at e;cases e
 | some i=>
  rw[hq]at e;let h:=cx e;let#[z,_]:=Prod.mk.inj h;subst z;calc#[Z,Z]
def ZlV:(relayAll t es n).2.1.led=t.led/\((relayAll t es n).2.1.plain=Y->t.plain=Y):=by
 unfold relayAll;split
 .rename_i d a q
  let#[c,b]:=ZnW q;dsimp only;split
  .exact#[c,λh=>by rw[<-b];calc h]
  .exact#[Z,λh=>by cases h]
 .exact#[Z,λh=>by cases h]
def lR (P:AG)(w:AI)(h:Heap)(a:AD)(ls:uG)(b:Bool):Prop:=
 ∃(o:Obj) (es:Array (Int×bU)) (c:Nat) (t:SetTable) (ms:uG),h.get? a=U o/\o.ExactSet/\o.data=.set es c t/\ElemsOf (wb P w) es.toList/\t.fits es.size=Y /\
  t.led=b/\(t.plain=Y->es.size=0)/\ms.Perm ls/\kJ (ms.map tx) (es.toList.map (·.2))/\es.size<scanBound
def lR.keep (x:lR P w h a ls led)(k:∀o,h.get? a=U o->h'.get? a=U o):lR P w h' a ls led:=by let#[o,b,c,t,e,d,r]:=x;calc#[o,b,c,t,e,k o d,r]
def lR.typ {P:AG}{w:AI}{s:AE}{a:AD}{ls:uG}{b:Bool}(x:lR P w s.heap a ls b):s.TypeIs (.ref a) "set":=by let#[o,g,e,t,f,d,c,_]:=x;calc#[o,d,c.1]
noncomputable def mI (ls:uG)(l:uz):uG:=if l∈ls then ls else ls++[l]
def Zue (r:kP v u)(a:∃m,v=tx m):Di (Sum.inr (#[↑l]:Str):uQ) u=R (v=tx l):=by
 let#[m,Z]:=a;let#[t,Z]:=r;rw[CA];simp only[Di,Value.isStrOf];by_cases h:m=l
 .subst h;simp
 .have:¬(#[↑m]:Str)=#[↑l]:=λe=>h (GZ.mp (R9 V.str e));rw[R6 h];simp[this]
theorem O2 {l:uz}:∀ {ms:uG} {es:List (Int×bU)},kJ (ms.map tx) (es.map (·.2))->((∃e∈es,Di (Sum.inr (#[↑l]:Str):uQ) e.2=Y)↔l∈ms)
 | [],[],_=>by simp
 | [],_::_,r=>by cases r
 | _::_,[],r=>by cases r
 | m::ms,e::es,r=>by
  cases r with
  | cons r1 r2=>
   let ih:=O2 (l:=l) r2;let q:=Zue (l:=l) r1 #[m,Z];rw[CA]at q;constructor
   .rintro⟨x,b,a⟩;rcases vg.mp b with z | z
    .subst z;rw[q]at a;exact vg.mpr (.inl (R7 a).symm)
    .exact vg.mpr (.inr (ih.mp #[x,z,a]))
   .intro h;rcases vg.mp h with z | z
    .exact#[e,xy,by rw[q];calc R5 z.symm]
    .obtain⟨x,b,a⟩:=ih.mpr z;calc#[x,wU _ b,a]
def JC (p:us'.Perm us):∀ {ms:uG},kJ (ms.map tx) us->∃a:uG,a.Perm ms/\kJ (a.map tx) us':=by
 induction p with
 | nil=>intro ms r;exact#[ms,.refl _,r]
 | cons x _ k=>
  intro ms r;cases ms with
  | nil=>cases r
  | cons m ms=>
   cases r with
   | cons c b=>
    let#[a,n,j]:=k b;exact#[m::a,n.cons _,.cons c j]
 | swap x y l=>
  intro ms r
  match ms,r with
  | g::f::ms,.cons c (.cons b r3)=>exact#[f::g::ms,.swap _ _ _,.cons b (.cons c r3)]
 | trans _ _ d e=>
  intro ms r;let#[g,h,c]:=e r;let#[f,i,b]:=d c;calc#[f,i.trans h,b]
section
def MP {g:Bool->Sem Unit}(hg:∀(b:Bool)(s_1:AE)(Q':Unit->AE->Prop),Q' () s_1->bR (bJ prog w) A (g b) Q' E s_1){a:AD}{o:Obj}{es:Array (Int×bU)}{ep:Nat}{t:SetTable}
  (ho:s.heap.get? a=U o) (hd:o.data=.set es ep t) {e1:Array (Int×bU)} {t2:SetTable} (hb:e1.size<scanBound) (hf:t2.fits e1.size=Y) {wd:Bool} {R_:Option Bool->AE->Prop}
  (h:∀h' e2 t3 ep',Heap.SameBut a s.heap h'->h'.get? a=U { o with data:=.set e2 ep' t3 }->e2.toList.Perm e1.toList->t3.fits e2.size=Y->t3.led=t2.led->(t3.plain=Y->t2.plain=Y)->R_ (U Y) { s with heap:=h' }):
  bR (bJ prog w) A (do
   storeSet a e1 t2
   if (!wd&&t2.tooFull)=Y then do
    g (relayAll t2 e1 (SetTable.grown e1.size)).2.2;storeSet a (relayAll t2 e1 (SetTable.grown e1.size)).1 (relayAll t2 e1 (SetTable.grown e1.size)).2.1;pure (U Y)
   else pure (U Y)) R_ E s:=by
 let put:∀ {h:Heap} {ob:Obj} {xs ys:Array (Int×bU)} {n:Nat} {t t':SetTable},h.get? a=U ob->ob.data=.set xs n t->(h.update a (Obj.putSet ys t')).get? a=U { ob with data:=.set ys (n+1) t' }:=λ{h ob xs ys n t t'} h1 h2=>by
  let q:=Cp (Obj.putSet ys t') h1 (by rw[putSet_of ys t' h2];rfl)
  rwa [putSet_of ys t' h2]at q
 let hs1:=yO s.heap a (Obj.putSet e1 t2);let g1:=put (ys:=e1) (t':=t2) ho hd;calc uC (wpAny_storeSet_of ho hd ?_ (fits_of_scanBound hb));split
 .let p:=relayAll_perm t2 e1 (SetTable.grown e1.size);let f:=relayAll_fits t2 e1 (SetTable.grown e1.size);let tm:=ZlV (t:=t2) (es:=e1) (n:=SetTable.grown e1.size);let z:(relayAll t2 e1 (SetTable.grown e1.size)).1.size=e1.size:=by rw[<-yq,p.length_eq,yq]
  calc uC (hg _ _ _ (uC (wpAny_storeSet_of g1 Z (uS ?_) (fits_of_scanBound (by rw[z];calc hb)))));exact h _ _ _ _ (hs1.trans (yO _ a _)) (put (ob:={ o with data:=.set e1 (ep+1) t2 }) g1 Z) p f tm.1 tm.2
 .exact uS (h _ _ _ _ hs1 g1 (.refl _) hf Z id)
def Zn9 (hS:lR prog w s.heap a ls led)(hn:⇑ls+1<scanBound)
  (h:∀h' b,Heap.SameBut a s.heap h'->lR prog w h' a (mI ls l) led->Q b { s with heap:=h' }):
  bR (bJ prog w) A (setAddHashed a (.str #[↑l] tk) (oW w (Sum.inr #[↑l]))) Q E s:=by
 let#[o,es,ep,t,ms,I,y,C,f,P,g,ae,M,K,hb]:=hS;let i:(wb prog w).is (Sum.inr (#[↑l]:Str)) (.str #[↑l] tk)=Y:=by exact PL prog w _ _
 let p:(ek #[↑l] tk).scannable=Y:=rfl;let BQ:es.size=⇑ls:=by let q:=⇑K;rw[uO,uO]at q;rw[<-yq,<-q,M.length_eq]
 let B:=O2 (l:=l) K;let hl:l∈ms↔l∈ls:=M.mem_iff;unfold setAddHashed setAddHashedIn;calc xZ (uC (FJ I C P ?_));dsimp only;rw[byScan_of p hb f,uM Z];unfold setAddByScan;calc uC (uC (Co (uC (wpAny_setScan_of (knd:=wb prog w) (k:=Sum.inr (#[↑l]:Str)) i I C P f ?_))));cases hr:List.findIdx? (λe=>(wb prog w).is (Sum.inr (#[↑l]:Str)) e.2) es.toList with
 | some j=>
  dsimp only;let#[hj,T,_]:=List.findIdx?_eq_some_iff_getElem.mp hr;let ac:l∈ls:=hl.mp (B.mp #[es.toList[j],Dl hj,T]);calc uS (uS ?_);let q:=h s.heap J (Heap.SameBut.refl a s.heap) (by unfold mI;rw[uM ac];calc#[o,es,ep,t,ms,I,y,C,f,P,g,ae,M,K,hb])
  exact q
 | none=>
  dsimp only;let F:l∉ls:=λz=>by let#[e,he,hk]:=B.mpr (hl.mpr z);let q:=List.findIdx?_eq_none_iff.mp hr e he;rw[show (wb prog w).is (Sum.inr (#[↑l]:Str)) e.2=Y from hk]at q;cases q
  let H:=layNew_perm t es (oW w (Sum.inr #[↑l])) (.str #[↑l] tk);let u:=layNew_fits t es (oW w (Sum.inr #[↑l])) (.str #[↑l] tk);let lt:=ZpF (t:=t) (es:=es) (h:=oW w (Sum.inr #[↑l])) (x:=.str #[↑l] tk);show bR _ A (match layNew t es (oW w (Sum.inr #[↑l])) (.str #[↑l] tk) with | (es,t,wasDummy,G)=>_) _ _ _;generalize hL:layNew t es (oW w (Sum.inr #[↑l])) (.str #[↑l] tk)=L at H u lt ⊢;let#[V,t1,wd,G]:=L;dsimp only at H u lt ⊢;rw[Array.toList_push]at H;let n:V.size=⇑ls+1:=by rw[<-yq,H.length_eq,vn,yq,BQ];rfl
  let gw:∀(b:Bool)(s_1:AE)(Q':Unit->AE->Prop),Q' () s_1->bR (bJ prog w) A (match b with | true=>rule "set.scan.the-table-gave-way" | false=>pure ()) Q' E s_1:=
   λb s_1 Q' hq=>by cases b<;>first | exact uS hq | exact Co hq
  calc uC (gw _ _ _ ?_);let v:∀(r:SetTable),r.fits V.size=Y->r.led=t1.led->r.plain=J->∀h' e2 d c,Heap.SameBut a s.heap h'->h'.get? a=U { o with data:=.set e2 c d }->e2.toList.Perm V.toList->d.fits e2.size=Y->d.led=r.led->(d.plain=Y->r.plain=Y)->Q Y { s with heap:=h' }:=by
   intro r f2 l2 p2 h' e2 d c sb hg pm f3 l3 p3;calc h h' Y sb ?_;let m:=pm.trans H;let#[ab,N,ad]:=JC (us:=(es.toList++[(oW w (Sum.inr #[↑l]),ek #[↑l] tk)]).map (·.2)) (us':=e2.toList.map (·.2)) (m.map _) (ms:=ms++[l]) (by rw[xO,xO];calc K.append (.cons #[tk,Z] .nil))
   unfold mI;rw[uI F];calc#[_,e2,c,d,ab,hg,y,Z,((f.push (knd:=wb prog w) i p).perm m),f3,l3.trans (l2.trans (lt.1.trans g)),λz=>by rw[p2]at p3;calc Sa (p3 z) vC,N.trans (M.append_right [l]),ad,?_];rw[<-yq,pm.length_eq,yq,n];exact hn
  split
  .refine uC ?_;rw[hashByValue_scannable 8 p];calc uS ?_;refine MP gw I C (by rw[n];calc hn) ?_ λh' e2 d c W X q3 q4 q5 S=>?_
   .exact SetTable.fits_plain_off u
   .exact uS (v _ (SetTable.fits_plain_off u) Z Z h' e2 d c W X q3 q4 q5 S)
  .rename_i aa
   let D:t1.plain=J:=by simpa using aa
   calc uC (uS ?_);rw[uM Z];calc MP gw I C (by rw[n];calc hn) u λh' e2 d c W X q3 q4 q5 S=>uS (v _ u Z D h' e2 d c W X q3 q4 q5 S)
end
def dd (val:Nat->uz)(i:Nat):uG:=((cc i).map val).foldl mI []
def Mc:dd val (i+1)=mI (dd val i) (val i):=by unfold dd;rw[CD,xO,List.foldl_append];rfl
def ZmT:⇑(mI ls l)<=⇑ls+1:=by
 unfold mI;split
 .lia
 .simp
theorem OS {val:Nat->uz}:∀i,⇑(dd val i)<=i
 | 0=>uV _
 | i+1=>by
  rw[Mc];let h1:=OS (val:=val) i;let a:=ZmT (ls:=dd val i) (l:=val i)
  nofun
theorem GC {val:Nat->uz}:∀i,(dd val i).Nodup
 | 0=>by simp[dd]
 | i+1=>by
  rw[Mc];unfold mI;split
  .exact GC i
  .rename_i h
   rw[Dz];calc#[GC i,{},?_];intro a ha b hb e;have:b=val i:=by simpa using hb
   subst e this;calc h ha
section
variable {prog:AG}{w:AI}{A:AH}{R_:Result->AE->Prop}{I:AD}{fp wr:List AD}{G:Array GenState->Array GenState->Prop}{n:Nat}{Pi:Nat->bU->Prop}{St:Nat->AE->Prop}
def ZlY (W:WalksS prog w A.in1 I fp wr G n Pi St)(S:AD)(j:S∉fp)(val:Nat->uz)(c:∀i v,Pi i v->∃t,v=.str #[↑(val i)] t)(a:n+1<scanBound){led:Bool}:
  ∀(k i:Nat)(s:AE),n-i=k->i<=n->St i s->lR prog w s.heap S (dd val i) led->(∀s',Moved (S::wr) G s s'->lR prog w s'.heap S (dd val n) led->R_ (.ok (.ret .none)) s') ->
   codeAny (bJ prog w) A (.builtin "set.update.loop" #[[.ref S,.ref I],[]]) R_ s:=by
 let C:S∉wr:=λh=>j (W.sub _ h);let H:∀b∈wr,b∈S::wr:=λb a=>wU _ a;intro k;induction k with
 | zero=>
  intro i s L M y q m;let e:i=n:=by nofun
  subst e;calc codeAny_builtin F.entry_set_update_loop ?_;rw[CP F.plain_set_update_loop _];show bR _ A.in1 (pyNext (.ref I) >>= λr=>_) _ _ s;calc uC (W.done s _ _ y λs' g=>?_);exact uS (m s' (g.mono H) (q.keep λo e=>g.heap S o C e))
 | succ k N=>
  intro i s L M y q m;let D:i<n:=by nofun
  calc codeAny_builtin F.entry_set_update_loop ?_;rw[CP F.plain_set_update_loop _];show bR _ A.in1 (pyNext (.ref I) >>= λr=>_) _ _ s;calc uC (W.item i s _ _ D y λv d Q B g=>?_);let#[E,Z]:=c i v Q;let u:lR prog w d.heap S (dd val i) led:=q.keep λo e=>g.heap S o C e;show bR _ A.in1 (holding [ek #[↑(val i)] E] (setAdd S (.str #[↑(val i)] E)) >>= λ_=>_) _ _ d;calc uC (xZ ?_);unfold setAdd;calc xZ (uC (wpAny_pyHash_str ?_));calc Zn9 (s:={ d with toks:=d.toks+1 }) (l:=val i) u (by have:=OS (val:=val) i;nofun) λT b K f=>?_;rw[<-Mc]at f;calc uS #[plainId_quiet F.plain_set_update_loop _,N (i+1) _ ∅ D (W.frame _ d _ _ B (xu _) λb a o e=>(K.2 b λz=>j (z▸a)).trans e) f λP p x=>?_];calc m P (Moved.trans W.gtrans ((g.mono H).then_heap (xu _) λb o a e=>(K.2 b λz=>a (z▸xy)).trans e) p) x
end
def Lg {i:Nat}{u:bU}:∀ {vs:Se} {us:AC} ,kJ vs us->us[i]?=U u->∃v,vs[i]?=U v/\kP v u:=by
 induction i with
 | zero=>
  intro vs us r e;cases r with
  | nil=>cases e
  | cons b _=>cases e;exact#[_,Z,b]
 | succ i a=>
  intro vs us r e;cases r with
  | nil=>cases e
  | cons _ c=>calc a c e
structure o9 (prog:AG)(w:AI)(x:bU)(s:AE)(T:String)(n:Nat)(val:Nat->uz):Prop where
 ty:∀s1:AE,(∀b o,s.heap.get? b=U o->s1.heap.get? b=U o)->s1.TypeIs x T
 go:∀(A:AH)(s1:AE)(Q:vY)(E:vY),A.handled=O->(∀b o,s.heap.get? b=U o->s1.heap.get? b=U o) ->
  (∀(h2:Heap)(I:AD)(fp wr:List AD)(Pi:Nat->bU->Prop)(St:Nat->Heap->Prop),(∀A':AH,A'.handled=O->Walks prog w A' I fp wr n Pi St)->St 0 h2 ->
   (∀b∈fp,b<↥s\/↥s1<=b)->(∀b∈wr,↥s1<=b)->(∀b o,s1.heap.get? b=U o->h2.get? b=U o)->(∀i v,Pi i v->∃t,v=.str #[↑(val i)] t)->Q (.ref I) { s1 with heap:=h2 }) ->
  bR (bJ prog w) A (pyIter x) Q E s1
def ZhJ {prog:AG}{w:AI}{s:AE}{l:AD}{us:AC}{ls:uG}(u:s.heap.IsList l ↑us)(r:kJ (ls.map tx) us):o9 prog w (.ref l) s "list" ⇑ls (λi=>ls.getD i []) where
 ty:=λc k=>by let#[o,g,n,_]:=u;exact#[o,k _ _ g,n]
 go:=λA c Q E G k h=>by
  let#[o,g,n,B]:=id u;let f:c.heap.IsList l ↑us:=#[o,k _ _ g,n,B];let x:=vq g;let d:=vq (k _ _ g);let F:us.toArray.size=⇑ls:=by rw[wC,<-⇑r,uO]
  calc FO f ?_;let W:∀p:AH,p.handled=O->Walks prog w p ↥c [↥c,l] [↥c] ⇑ls (λi v=>us.toArray[i]?=U v) (λi h=>h.IsListIter ↥c l i/\h.IsList l ↑us):=λp C=>by
   let q:=Walks.list (prog:=prog) (w:=w) C ↥c l (wk d) ↑us
   rwa [F]at q
  refine h _ _ _ _ _ _ W #[#[_,wB _ Z,Z,Z],f.push _] (λb j=>?_) (λb j=>?_) (λb o e=>vy _ e) (λi v e=>?_)
  .rcases vg.mp j with z | z
   .exact .inr (zU z.symm)
   .let z:b=l:=by simpa using z
    rw[z];exact .inl x
  .let z:b=↥c:=by simpa using j
   exact zU z.symm
  .let D:us[i]?=U v:=by simpa using e
   let#[H,a,y]:=Lg r D;rw[wI]at a;cases q:ls[i]? with
   | none=>rw[q]at a;cases a
   | some m=>
    rw[q]at a;cases a;let#[t,Z]:=y;calc#[t,by rw[wj,q];rfl]
def ZhI {prog:AG}{w:AI}{s:AE}{l:uz}{t:Tok}:o9 prog w (.str #[↑l] t) s "str" ⇑l (λi=>[l.getD i 0]) where
 ty:=λd _=>typeIs_str d _ _
 go:=λA d Q E p k h=>by
  let n:(#[↑l]:Str).cps.size=⇑l:=by show l.toArray.size=_;simp
  let a:∀(i:Nat)(v:bU),(∃c u,(#[↑l]:Str).cps[i]?=U c/\v=.str #[↑[c]] u)->∃t,v=.str #[↑[l.getD i 0]] t:=by
   rintro i v ⟨c,u,e,rfl⟩;let m:l[i]?=U c:=by simpa using e
   exact#[u,by rw[wj,m];rfl]
  calc wpAny_pyIter_str λo St W j=>?_;rw[n]at W;refine h _ _ _ _ _ _ W j (λb f=>.inr ?_) (λb f=>?_) (λb o e=>vy _ e) (λi v ⟨c,u,e,g⟩=>a i v #[c,u,e,g])
  .let z:b=↥d:=by simpa using f
   exact zU z.symm
  .let z:b=↥d:=by simpa using f
   calc zU z.symm
section
noncomputable abbrev DL (a:Bool):Obj:={ cls:=.type "set",dict:=O,data:=.set ↑[] 0 (.fresh 0 0 a) }
def Zj4 (b:h.get? a=U (DL led)):lR prog w h a [] led:=
 #[_,↑[],0,_,[],b,#[Z,Z,Z],Z,λe c=>by simp at c,Z,Z,λ_=>rfl,.refl _,.nil,by show 0<4096;decide]
noncomputable def xg (w:AI):Bool:=w.params.followText "set-order"
def Zn7 (a:bU){Q₁:vY}(h:Q₁ (.ref ↥s) { s with heap:=s.heap.push (DL (!xg w)) }):
  codeAny (bJ prog w) A (.call (.builtin "set.__new__") #[[.type "set",a],[]]) (wants Q₁ E) s:=by
 calc codeAny_of_tree ?_;show bR _ A.in1 (checkBuiltinCall "set.__new__" #[[.type "set",a],[]] >>= λ_=>again (.builtin "set.__new__" #[[.type "set",a],[]])) _ _ s;calc uC (wpAny_of_eq (F.newCall_set_1 a) (uS #[plainId_quiet F.plain_set_new _,codeAny_builtin F.entry_set_new ?_]));rw[CP F.plain_set_new _];unfold Builtin.«set.__new__» Builtin.Frozenset.newClass;let b:=sub_set_self;let#[e,g,d,c,f]:=s;dsimp only
 wp_walk
 calc E8 (uS ?_);dsimp only;simp only[newObj];exact uC (wpAny_alloc (uS (uS h)))
set_option maxHeartbeats 3200000 in
def N5 (K:A.handled=O)(W:o9 prog w x s T n val)(t1:isSubtype (.type T) (.type "set")=pure J)(t2:isSubtype (.type T) (.type "frozenset")=pure J)
  (t3:(eF T == eF "dict")=J) (hb:n+1<scanBound)
  (h:∀(h':Heap)(tk:Nat),lR prog w h' ↥s (dd val n) (!xg w)->(∀b o,s.heap.get? b=U o->h'.get? b=U o)->s.toks<=tk->Q (.ref ↥s) { s with heap:=h',toks:=tk }):
  bR (bJ prog w) A (call (.type "set") [x]) Q E s:=by
 let#[c,tl,L]:=F.called_set.mro;let p:=F.called_set.made;let M:=F.called_set.sub;calc zN (codeAny_of_tree ?_);show bR _ _ (callAny (.type "set") _) _ _ _;calc uS #[Code.quiet_builtin _ nofun,codeAny_builtin F.entry_type_call ?_];rw[Around.under_plain (weight_type_call_type "set" [x] []) Z];let h1:=F.called_set.notType;let h2:=F.called_set.canCreate;let aa:=F.typeCall_set_1 x;repeat (any_goals (first | assumption | wp_step))
 calc codeAny_mono (Zn7 x (E:=E) (Q₁:=λG j=>G=.ref ↥s/\j={ s with heap:=s.heap.push (DL (!xg w)) }) #[Z,Z]) λr j y=>?_;cases r with
 | error e=>exact y
 | ok fl=>
  cases fl with
  | ret G=>
   let#[Z,Z]:=y;let D:(s.heap.push (DL (!xg w))).get? ↥s=U (DL (!xg w)):=wB _ Z;let hT:Shared.TypeIs { s with heap:=s.heap.push (DL (!xg w)) } (.ref ↥s) "set":=#[_,D,Z];let ab:=F.called_set.init.lookup;let ac:=F.called_set.init.bind (.ref ↥s);let a:∀b o,s.heap.get? b=U o->(s.heap.push (DL (!xg w))).get? b=U o:=λb o e=>vy _ e;repeat (any_goals (first | assumption | wp_step))
   refine codeAny_mono (codeAny_call_builtin (R:=wants (λr i=>r=.none/\∃h' tk,i={ s with heap:=h',toks:=tk }/\lR prog w h' ↥s (dd val n) (!xg w)/\(∀b o,s.heap.get? b=U o->h'.get? b=U o)/\s.toks<=tk) E)
    F.called_set.init.plain F.entry_set_init (check_set_init_1 hT ?_)) λr9 i d=>?_
   .let N:=W.ty { s with heap:=s.heap.push (DL (!xg w)) } a;unfold Builtin.«set.__init__» noKeywords Builtin.Frozenset.updateFrom;generalize hPI:pyIter=PI
    wp_walk
    subst hPI;calc W.go _ _ _ _ (by simp[K]) a λh2 I fp wr Pi St Wk st X f2 H g=>?_;calc uC (wpAny_runValue ?_);let B:↥s∉fp:=λz=>by
     rcases X _ z with q | q
     .exact xB _ q
     .rw[zO]at q;exact Sa q (Nat.not_succ_le_self _)
    calc ZlY ((Wk A.in1.in1.in1 (by simp[K])).toS) ↥s B val g hb (n-0) 0 _ ∅ (wf _) st (Zj4 (H _ _ D)) λV k f=>?_;let#[h',g',d',tk',m]:=V;let P:g'=s.gens:=k.gens;let ed:d'=s.drawn:=k.drawn;let S:m=s.os:=k.os;let et:s.toks<=tk':=k.toks;subst P ed S;calc uS ?_;calc uS #[Z,h',tk',Z,f,λb o e=>?_,et];let l:=vq e;calc k.heap b o (λz=>?_) (H b o (a b o e));rcases vg.mp z with q | q
    .rw[q]at l;exact xB _ l
    .let C:=f2 b q;rw[zO]at C;exact Sa (xj l (Nat.le_of_succ_le C)) (xB _)
   .cases r9 with
    | error e=>exact d
    | ok u=>
     cases u with
     | ret r=>
      let#[Z,h',tk,Z,f,t,v]:=d;repeat (any_goals (first | assumption | wp_step))
      exact h _ _ f t v
     | _=>exact d.elim
  | _=>calc y.elim
end
theorem LJ {α:Type}:∀(xs:List α)(i:Nat)(h:i<⇑xs),(xs[i]::xs.eraseIdx i).Perm xs
 | x::xs,0,_=>.refl _
 | x::xs,i+1,h=>by
  let hi:i<⇑xs:=by simpa using h
  let a:=LJ xs i hi;show (xs[i]::x::xs.eraseIdx i).Perm (x::xs);calc(List.Perm.swap _ _ _).trans (a.cons x)
section
def o7 (a:n≠0)(h:∀i d,i<n->Q i { s with drawn:=d }):bR M A (choose src n) Q E s:=λΓ p b=>by unfold choose;rw[Sem.wp_choose];calc#[a,h _ _ (Nat.mod_lt _ (Nat.pos_of_ne_zero a))]
theorem Q8 {α:Type}:∀(n:Nat)(xs:List α)(s:AE)(Q:List α->AE->Prop),⇑xs=n->(∀ys d,ys.Perm xs->Q ys { s with drawn:=d })->bR M A (drawOrder n xs) Q E s
 | 0,xs,s,Q,hl,h=>by
  let e:xs=[]:=LD hl;subst e;unfold drawOrder;exact uS (h [] s.drawn (.refl _))
 | n+1,[],s,Q,hl,h=>by cases hl
 | n+1,x::xs,s,Q,hl,h=>by
  unfold drawOrder;calc uC (o7 {} λi d a=>?_);let e:(x::xs)[i]?=U (x::xs)[i]:=vK a;rw[e];dsimp only;refine uC (Q8 n ((x::xs).eraseIdx i) _ _ ?_ λys b p=>uS ?_)
  .rw[List.length_eraseIdx_of_lt a,hl];rfl
  .refine h _ b ((List.Perm.cons _ p).trans ?_);calc LJ _ _ a
end
def Zfn:entryFor table "set.__iter__"=U Builtin.«frozenset.__iter__»:=entryFor_alias (id':="frozenset.__iter__") (by kernel_rfl) Z nofun (by kernel_rfl)
def DZ:Slot "set_iterator" "__next__" "set_iterator.__next__":=
 .of (owner:="set_iterator") (n:="__next__") (by rw[typeLookup_type,builtinLookup_eq_fast];kernel_rfl) nofun nofun nofun
  (by first | calc .inl nofun | calc .inr nofun) (by rw[isSubtype_type];kernel_rfl)
def MX:entryFor table "set_iterator.__next__"=U Builtin.«set_iterator.__next__»:=entryFor_of_fast (by kernel_rfl)
def QV (a:bU):argsOk "set_iterator.__next__" #[[a],[]]:=by unfold argsOk;kernel_rfl
section
def nY (h:Heap)(I S:AD)(first:bU)(i n a:Nat):Prop:=∃o,h.get? I=U o/\o.cls=.type "set_iterator"/\o.data=.fields ↑[first,.int i 0,.ref S,.int n 0,.int a 0]
def Zph {t:SetTable}{n:Nat}(a:t.fits n=Y):(t.place.size != n || R (t.fill>t.mask))=J:=by simp only[SetTable.fits,vW,Sb,Sc]at a;simp[a.1,Nat.not_lt.mpr a.2]
def Zmw (e:s.heap.get? S=U o)(g:o.ExactSet)(c:o.data=.set es ep t)(b:t.fits es.size=Y)(l:es.size<=sizeLine)
  (m:(xg w=Y\/(t.plain=Y\/es.size<=1))->Q (.ref ↥s) { s with heap:=s.heap.push { cls:=.type "set_iterator",data:=.fields ↑[.int 0 0,.int 0 0,.ref S,.int es.size 0,.int ep 0] } })
  (k:∀(a:uz)(d:Drawn),a.Perm (cc es.size)->Q (.ref (↥s+1)) { s with drawn:=d,heap:=(Heap.push s.heap { cls:=.type "tuple",data:=.seq ↑(a.map (λi=>eG ((i:Nat):Int) 0)) }).push { cls:=.type "set_iterator",data:=.fields ↑[.ref ↥s,.int 0 0,.ref S,.int es.size 0,.int ep 0] } }):bR (bJ prog w) A (pyIter (.ref S)) Q E s:=by
 let j:s.TypeIs (.ref S) "set":=#[o,e,g.1];calc wpAny_pyIter_slot j F.slot_set_iter (F9 F.slot_set_iter j Zfn ?_ (F.args_set_iter_1 _));unfold Builtin.«frozenset.__iter__» Builtin.Frozenset.sizeOf setDrawn setsByText
 wp_walk
 rw[c];dsimp only;rw[Zph b];rw[uI vC];calc uS (uS (uS ?_));calc uC (uC (FJ e c b ?_));dsimp only;calc uC (uC (E8 (uS (uS ?_))));show bR _ _ (if (!xg w&&(!t.plain&&R (es.size>1)))=Y then _ else _) _ _ _;split
 .refine uC (Q8 es.size (cc es.size) _ _ {} λa d p=>?_);calc uC ?_;simp only[newTuple];calc Df ?_ (by show (List.map _ a).toArray.size<=sizeLine;rw[wC,uO,p.length_eq,Bp];calc l);calc uC (wpAny_setEpoch_of (vy _ e) c b (uC (Df (uS #[_,Z,"set_iterator",_,#[_,wB _ Z,Z],DZ.lookup,?_]))));let q:=k a d p;rw[zO];exact q
 .rename_i f
  calc uC (uS ?_);calc uC (wpAny_setEpoch_of e c b (uC (Df (uS #[_,Z,"set_iterator",_,#[_,wB _ Z,Z],DZ.lookup,m ?_]))));cases h:xg w with
  | true=>exact .inl Z
  | false=>
   calc .inr ?_;cases h':t.plain with
   | true=>exact .inl Z
   | false=>
    rw[h,h']at f;simp at f;calc .inr f
end
section
variable {prog:AG}{w:AI}{A:AH}{E:vY}{s:AE}{I S:AD}{o:Obj}{es:Array (Int×bU)}{ep i n:Nat}{t:SetTable}
def nY.typ (h:nY s.heap I S first i n ep):s.TypeIs (.ref I) "set_iterator":=let ⟨o,h1,h2,_⟩:=h;#[o,h1,h2]
noncomputable abbrev ZrA (I S:AD)(slot i ep:Nat):Sem PySem.Fin:=do
 match <-setNext S slot i ep with
 | some (x,next)=>do
  setField (.ref I) 0 (rawInt (next:Nat))
  setField (.ref I) 1 (rawInt ((i:Int)+1))
  ret x
 | none=>do
  setField (.ref I) 2 ec
  raiseNew (<-newExc (eF "StopIteration") [])
noncomputable abbrev Zps (I S:AD)(first:bU)(i ep:Nat):Sem PySem.Fin:=do
 match <-seqItems? first with
 | some places=>match places[i]? with
  | some (.int place _)=>do
   let x <-setNextDrawn S place.toNat ep
   setField (.ref I) 1 (rawInt ((i:Int)+1))
   ret x
  | some _=>unsupported "internal:set_iterator"
  | none=>do
   setField (.ref I) 0 (rawInt 0)
   setField (.ref I) 2 ec
   raiseNew (<-newExc (eF "StopIteration") [])
 | _=>unsupported "internal:set_iterator"
abbrev Ky (prog:AG)(w:AI)(A:AH)(Q:Option bU->AE->Prop)(E:vY)(a:PySem.Fin)(s':AE):Prop:=∃v,a=Fin.done (Flow.ret v)/\Q (U v) s'
abbrev JL (prog:AG)(w:AI)(A:AH)(Q:Option bU->AE->Prop)(E:vY)(e:bU)(s':AE):Prop:=
 bR (bJ prog w) A (do let b <-isInstance e (eF "StopIteration");if b=Y then pure O else throw e) Q E s'
def IA (b:nY s.heap I S (.int (slot:Nat) 0) i es.size ep)(g:s.heap.get? S=U o)(k:o.data=.set es ep t)(c:t.fits es.size=Y)
  (h:bR (bJ prog w) A.in1 (ZrA I S slot i ep) (Ky prog w A Q E) (JL prog w A Q E) s):bR (bJ prog w) A (pyNext (.ref I)) Q E s:=by
 let#[m,l,f,a]:=id b;unfold pyNext;calc uC (Ek (wpAny_callSpecial?_slot (name:=fv "__next__") b.typ DZ (F9 DZ b.typ MX ?_ (QV _))));unfold Builtin.«set_iterator.__next__»
 wp_walk
 rw[a];dsimp only;calc uS ?_;dsimp only;refine uC (wpAny_setEntries_of g k c ?_)
 (try dsimp only)
 rw[uI {}];calc xq h (λd j q=>?_) λe j q=>q;let#[v,Z,q]:=q;calc#[v,Z,uS q]
def Pz (b:nY s.heap I S (.ref tp) i es.size ep)(g:s.heap.get? S=U o)(k:o.data=.set es ep t)(c:t.fits es.size=Y)
  (h:bR (bJ prog w) A.in1 (Zps I S (.ref tp) i ep) (Ky prog w A Q E) (JL prog w A Q E) s):bR (bJ prog w) A (pyNext (.ref I)) Q E s:=by
 let#[m,l,f,a]:=id b;unfold pyNext;calc uC (Ek (wpAny_callSpecial?_slot (name:=fv "__next__") b.typ DZ (F9 DZ b.typ MX ?_ (QV _))));unfold Builtin.«set_iterator.__next__»
 wp_walk
 rw[a];dsimp only;calc uS ?_;dsimp only;refine uC (wpAny_setEntries_of g k c ?_)
 (try dsimp only)
 rw[uI {}];calc xq h (λd j q=>?_) λe j q=>q;let#[v,Z,q]:=q;calc#[v,Z,uS q]
def Kq (c:A.handled=O)(d:∀h',(∀b o,s.heap.get? b=U o->h'.get? b=U o)->Q O { s with heap:=h' }):
  bR (bJ prog w) A.in1 (do raiseNew (<-newExc (eF "StopIteration") [])) (Ky prog w A Q E) (JL prog w A Q E) s:=by
 calc uC ?_;simp only[newExc,newTuple];calc uC (Df ?_ (by size_fits));calc uC (m:=firstArgMember _ _) (wpAny_of_eq (a:=ec) (by first | rfl | (simp only[firstArgMember];rfl)) ?_);calc Df ?_ (by size_fits);simp only[raiseNew];calc uC (wpAny_handled ?_);rw[show A.in1.handled=O from c];calc uC (uS (wpAny_throw ?_));calc uC (wpAny_isInstance (T:="StopIteration") (b:=Y) #[_,wB _ Z,Z] isSubtype_stop ?_);calc uS (d _ λb o e=>vy _ (vy _ e))
def FM {h:Heap}{v:bU}{k:Nat}{d:Obj}{vs:Array bU}(c:h.get? I=U d)(b:d.cls=.type "set_iterator")(a:d.data=.fields vs):
  ∃o',(h.update I (ft (·.setIfInBounds k v))).get? I=U o'/\o'.cls=.type "set_iterator"/\o'.data=.fields (vs.setIfInBounds k v):=
 #[_,Cp _ c (Obj.isFreed_of_fields (Gf a _)),(Obj.cls_mapFields ..).trans b,Gf a _]
def RA (a:s.heap.get? S=U o)(b:o.data=.set es ep t)(d:t.fits es.size=Y)(c:xg w=Y)
  (h:Q (((pickOrder (w.params.setOrder S ep) es)[i]?).map λe=>(e.2,slot)) s):bR (bJ prog w) A (setNext S slot i ep) Q E s:=by
 unfold setNext;calc uC (FJ a b d ?_);dsimp only;unfold setsByText;calc uC (uC (E8 (uS ?_)));show bR _ _ (if xg w=Y then _ else _) _ _ _;rw[c,uM Z,uI {}];unfold setWalk;calc uC (uC (FJ a b d ?_));dsimp only;unfold setsByText;calc uC (uC (E8 (uS ?_)));show bR _ _ (if xg w=Y then _ else _) _ _ _;rw[c,uM Z];calc uC (E8 (uS (uS h)))
def PB (f:s.heap.get? S=U o)(e:o.data=.set es ep t)(c:t.fits es.size=Y)(b:xg w=J)(a:t.led=Y)(g:es.size<=1)
  (h:Q (match es[SetTable.below t.place slot]?,t.place[SetTable.below t.place slot]? with | some (_,x),some j=>U (x,j+1) | _,_=>O) s):bR (bJ prog w) A (setNext S slot i ep) Q E s:=by
 unfold setNext;calc uC (FJ f e c ?_);dsimp only;unfold setsByText;calc uC (uC (E8 (uS ?_)));show bR _ _ (if xg w=Y then _ else (if (!t.plain&&R (es.size>1))=Y then _ else _)) _ _ _;let d:¬es.size>1:=by nofun
 rw[b,uI vC,R6 d,CF,uI vC];show bR _ _ ((if (!t.led&&!es.isEmpty)=Y then (do let _ <-(unsupported "set:maker-not-led":Sem Unit);pure ()) else pure ()) >>= λ_=>_) _ _ _;rw[a,Bool.not_true,zg,uI vC];calc uC (uS (uS h))
end
theorem PQ {α:Type}{next:Nat->Nat}:∀(a k:Nat)(left:List α)(out:Array α),⇑left=a->(pickOrder.go next a k left out).toList.Perm (out.toList++left)
 | 0,k,left,out,h=>by
  let e:left=[]:=LD h;subst e;unfold pickOrder.go;simp
 | a+1,k,left,out,h=>by
  let b:next k % ⇑left<⇑left:=Nat.mod_lt _ ∅
  unfold pickOrder.go;rw[vK b];dsimp only;calc(PQ a (k+1) _ _ (by rw[List.length_eraseIdx_of_lt b,h];rfl)).trans ?_;rw[Array.toList_push,FA];calc(LJ left _ b).append_left _
def KN:(pickOrder next xs).toList.Perm xs.toList:=by unfold pickOrder;have:=PQ (next:=next) xs.size 0 xs.toList ↑[] {};simpa using this
def Ow:Slot "set_iterator" "__iter__" "set_iterator.__iter__":=
 .of (owner:="set_iterator") (n:="__iter__") (by rw[typeLookup_type,builtinLookup_eq_fast];kernel_rfl) nofun nofun nofun (by first | calc .inl nofun | calc .inr nofun) (by rw[isSubtype_type];kernel_rfl)
def ZdK:entryFor table "set_iterator.__iter__"=U Builtin.«dict_keyiterator.__iter__»:=entryFor_alias (id':="dict_keyiterator.__iter__") (by kernel_rfl) Z nofun (by kernel_rfl)
def Zd7 (a:bU):argsOk "set_iterator.__iter__" #[[a],[]]:=by unfold argsOk;kernel_rfl
section
def Lm (a:nY s.heap I S first i n ep)(h:Q (.ref I) s):bR (bJ prog w) A (pyIter (.ref I)) Q E s:=by calc wpAny_pyIter_slot a.typ Ow (F9 Ow a.typ ZdK ?_ (Zd7 _));show bR _ _ (ret (.ref I)) _ _ s;calc uS #[_,Z,"set_iterator",_,a.typ,DZ.lookup,h]
def ID (b:Heap.SameBut I h h')(a:S≠I)(c:h.get? S=U o):h'.get? S=U o:=(b.2 S a).trans c
def ZjW (M:A.handled=O)(x:S≠I)(j:o.data=.set es ep t)(g:t.fits es.size=Y)(a:xg w=Y):
  Walks prog w A I [I,S] [I] es.size (λi v=>(((pickOrder (w.params.setOrder S ep) es).toList).map (·.2))[i]?=U v) (λi h=>nY h I S (.int ((0:Nat):Int) 0) i es.size ep/\h.get? S=U o) where
 sub:=λb a=>by simp at a;simp[a]
 frame:=λi h y ⟨⟨q,P,r⟩,N⟩ B=>#[#[q,B I {} _ P,r],B S {} _ N]
 item:=λi s Q E K ⟨c,d⟩ f=>by
  let u:(pickOrder (w.params.setOrder S ep) es).size=es.size:=by rw[<-yq,KN.length_eq,yq]
  let p:(pickOrder (w.params.setOrder S ep) es)[i]?=U (pickOrder (w.params.setOrder S ep) es)[i]:=by simp[u,K]
  calc IA c d j g (uC (RA d j g a ?_));rw[p];dsimp only[Option.map_some];let#[q,l,z,n]:=id c;calc uC (Bc l n {} ?_);let#[V,C,L,D]:=FM (v:=rawInt ((0:Nat):Int)) (k:=0) l z n;calc uC (Bc C D {} ?_);let#[H,F,T,G]:=FM (v:=rawInt ((i:Int)+1)) (k:=1) C L D;let m:=(yO s.heap I (ft (·.setIfInBounds 0 (rawInt ((0:Nat):Int))))).trans (yO _ I (ft (·.setIfInBounds 1 (rawInt ((i:Int)+1)))));refine uS #[_,Z,f _ _ s.toks ?_ #[#[H,F,T,?_],ID m x d] λb o a e=>(m.2 b (~~~a)).trans e]
  .rw[wI,Eh,p];rfl
  .rw[G];simp[rawInt]
 done:=λs Q E ⟨c,d⟩ f=>by
  let u:(pickOrder (w.params.setOrder S ep) es).size=es.size:=by rw[<-yq,KN.length_eq,yq]
  let p:(pickOrder (w.params.setOrder S ep) es)[es.size]?=O:=by simp[u]
  calc IA c d j g (uC (RA d j g a ?_));rw[p];dsimp only[Option.map_none];let#[q,l,z,n]:=id c;calc uC (Bc l n {} ?_);let m:=yO s.heap I (ft (·.setIfInBounds 2 ec));exact Kq (A:=A) M λy k=>f y s.toks λb o a e=>k b o ((m.2 b (~~~a)).trans e)
 self:=λi s Q E ⟨c,_⟩ f=>Lm c f
noncomputable def Fk (t:SetTable)(i:Nat):Nat:=if i=0 then 0 else t.place.getD 0 0+1
def ZjS:SetTable.below xs 0=0:=by
 unfold SetTable.below;let b:∀a c,SetTable.below.go xs 0 a 0 c=0:=by
  intro a;induction a with
  | zero=>intro c;unfold SetTable.below.go;rfl
  | succ f d=>
   intro c;unfold SetTable.below.go;split
   .rw[uI (Nat.not_lt_zero _)];exact d _
   .rfl
 calc b _ _
def ZlO:SetTable.below ↑[j] (j+1)=1:=by unfold SetTable.below;show SetTable.below.go ↑[j] (j+1) 1 0 1=1;unfold SetTable.below.go;simp[SetTable.below.go]
def Zqv (h:xs.size=1):∃j,xs=↑[j]:=by
 let#[l]:=xs
 match l,h with
 | [j],_=>calc#[j,Z]
def ZjX (hh:A.handled=O)(x:S≠I)(l:o.data=.set es ep t)(d:t.fits es.size=Y)(a:xg w=J)(G:t.led=Y)(p:es.size<=1):
  Walks prog w A I [I,S] [I] es.size (λi v=>(es.toList.map (·.2))[i]?=U v) (λi h=>nY h I S (.int ((Fk t i:Nat):Int) 0) i es.size ep/\h.get? S=U o) where
 sub:=λb a=>by simp at a;simp[a]
 frame:=λi h y ⟨⟨u,p,r⟩,h2⟩ D=>#[#[u,D I {} _ p,r],D S {} _ h2]
 item:=λi s Q E X ⟨c,f⟩ g=>by
  let P:i=0:=by nofun
  subst P;let ps:t.place.size=es.size:=by have:=d;simp only[SetTable.fits,vW,Sb]at this;exact this.1
  let K:es[0]?=U es[0]:=by simp[X]
  let T:t.place[0]?=U (t.place.getD 0 0):=by
   have:0<t.place.size:=by nofun
   simp[this]
  calc IA c f l d (uC (PB f l d a G p ?_));rw[show Fk t 0=0 from Z,ZjS,K,T];dsimp only;let#[u,m,C,q]:=id c;calc uC (Bc m q {} ?_);let#[o1,F,k2,H]:=FM (v:=rawInt ((t.place.getD 0 0+1:Nat):Int)) (k:=0) m C q;calc uC (Bc F H {} ?_);let#[V,L,m2,M]:=FM (v:=rawInt (((0:Nat):Int)+1)) (k:=1) F k2 H;let n:=(yO s.heap I (ft (·.setIfInBounds 0 (rawInt ((t.place.getD 0 0+1:Nat):Int))))).trans (yO _ I (ft (·.setIfInBounds 1 (rawInt (((0:Nat):Int)+1)))));refine uS #[_,Z,g _ _ s.toks ?_ #[#[V,L,m2,?_],ID n x f] λb o a e=>(n.2 b (~~~a)).trans e]
  .rw[wI,Eh,K];rfl
  .rw[M];simp[rawInt,Fk]
 done:=λs Q E ⟨c,f⟩ g=>by
  let ps:t.place.size=es.size:=by have:=d;simp only[SetTable.fits,vW,Sb]at this;exact this.1
  let W:es[SetTable.below t.place (Fk t es.size)]?=O:=by
   let hz:es.size=0\/es.size=1:=by nofun
   rcases hz with z | z
   .simp[z]
   .let N:∃j,t.place=↑[j]:=by
     have:t.place.size=1:=by nofun
     exact Zqv this
    let#[j,B]:=N;have:Fk t es.size=j+1:=by unfold Fk;rw[uI ∅,B];rfl
    rw[this,B,ZlO];simp[z]
  calc IA c f l d (uC (PB f l d a G p ?_));rw[W];dsimp only;let#[u,m,C,q]:=id c;calc uC (Bc m q {} ?_);let n:=yO s.heap I (ft (·.setIfInBounds 2 ec));exact Kq (A:=A) hh λy k=>g y s.toks λb o a e=>k b o ((n.2 b (~~~a)).trans e)
 self:=λi s Q E ⟨c,_⟩ g=>Lm c g
def Zjz (a:s.heap.get? S=U o)(b:o.data=.set es ep t)(c:t.fits es.size=Y)(d:es[p]?=U e)(h:Q e.2 s):bR (bJ prog w) A (setNextDrawn S p ep) Q E s:=by unfold setNextDrawn;calc uC (FJ a b c ?_);dsimp only;rw[uI {},d];calc uS h
def ZhH {tp:AD}{a:uz}(X:A.handled=O)(H:S≠I)(F:tp≠I)(D:o.data=.set es ep t)(x:t.fits es.size=Y)(z:a.Perm (cc es.size)):
  Walks prog w A I [I,S,tp] [I] es.size (λi v=>(a.map λp=>(es.getD p (0,.none)).2)[i]?=U v) (λi h=>nY h I S (.ref tp) i es.size ep/\h.get? S=U o/\h.get? tp=U { cls:=.type "tuple",data:=.seq ↑(a.map (λi=>eG ((i:Nat):Int) 0)) }) where
 sub:=λb d=>by simp at d;simp[d]
 frame:=λi h K ⟨⟨y,h1,r⟩,h2,V⟩ G=>#[#[y,G I {} _ h1,r],G S {} _ h2,G tp {} _ V]
 item:=λi s Q E hi ⟨c,q,u⟩ j=>by
  let M:⇑a=es.size:=by rw[z.length_eq,Bp]
  let f:i<⇑a:=by nofun
  let l:a[i]?=U a[i]:=vK f;let L:a[i]<es.size:=xM.mp (z.mem_iff.mp (Dl f));let he:es[a[i]]?=U es[a[i]]:=by simp[L]
  calc Pz c q D x (uC (wpAny_seqItems u Z ?_));dsimp only;let B:(↑(a.map (λi=>eG ((i:Nat):Int) 0)))[i]?=U (eG ((a[i]:Nat):Int) 0):=by simp[l]
  rw[B];dsimp only;calc uC (Zjz q D x he ?_);let#[y,g,C,n]:=id c;calc uC (Bc g n {} ?_);let#[T,N,m2,P]:=FM (v:=rawInt ((i:Int)+1)) (k:=1) g C n;let m:=yO s.heap I (ft (·.setIfInBounds 1 (rawInt ((i:Int)+1))));refine uS #[_,Z,j _ _ s.toks ?_ #[#[T,N,m2,?_],ID m H q,ID m F u] λb o d e=>(m.2 b (~~~d)).trans e]
  .rw[wI,l];simp[L]
  .rw[P];simp[rawInt]
 done:=λs Q E ⟨c,q,u⟩ j=>by
  let M:⇑a=es.size:=by rw[z.length_eq,Bp]
  calc Pz c q D x (uC (wpAny_seqItems u Z ?_));dsimp only;let B:(↑(a.map (λi=>eG ((i:Nat):Int) 0)))[es.size]?=O:=by simp[M]
  rw[B];dsimp only;let#[y,g,C,n]:=id c;calc uC (Bc g n {} ?_);let#[o1,W,k2,k3]:=FM (v:=rawInt 0) (k:=0) g C n;calc uC (Bc W k3 {} ?_);let m:=(yO s.heap I (ft (·.setIfInBounds 0 (rawInt 0)))).trans (yO _ I (ft (·.setIfInBounds 2 ec)));exact Kq (A:=A) X λK k=>j K s.toks λb o d e=>k b o ((m.2 b (~~~d)).trans e)
 self:=λi s Q E ⟨c,_⟩ j=>Lm c j
end
def Zhj:typeLookup (.type "set") "__len__"=pure (U (.builtin "set.__len__")):=by rw[typeLookup_type,builtinLookup_eq_fast];kernel_rfl
section
def Zji {es:Array (Int×bU)}{a:uz}(b:a.Perm (cc es.size)):(a.map λp=>(es.getD p (0,.none)).2).Perm (es.toList.map (·.2)):=by
 let q:=b.map (λp=>(es.getD p (0,.none)).2);calc q.trans (.of_eq ?_);apply z5
 .simp
 .intro n e c;let d:n<es.size:=by simpa using c
  simp[d]
def ZjG (P:lR prog w s.heap S ls (!xg w))
  (h:∀(G:Heap)(d:Drawn)(I:AD)(k:List AD)(vs:AC)(ms:uG)(St:Nat->Heap->Prop),(∀a:AH,a.handled=O->Walks prog w a I k [I] ⇑ls (λi v=>vs[i]?=U v) St)->St 0 G ->
   (∀b∈k,b=S\/↥s<=b)->↥s<=I->(∀b o,s.heap.get? b=U o->G.get? b=U o)->ms.Perm ls->kJ (ms.map tx) vs->Q (.ref I) { s with heap:=G,drawn:=d }):
  bR (bJ prog w) A (pyIter (.ref S)) Q E s:=by
 let#[o,f,B,t,ms,n,F,y,T,p,j,H,x,u,l]:=P;let g:f.size=⇑ls:=by let q:=⇑u;rw[uO,uO]at q;rw[<-yq,<-q,x.length_eq]
 let K:=vq n;refine Zmw n F y p (fits_of_scanBound l) (λN=>?_) λps d L=>?_
 .let r:S≠↥s:=wk K;let M:(s.heap.push ({ cls:=.type "set_iterator",data:=.fields ↑[.int 0 0,.int 0 0,.ref S,.int f.size 0,.int B 0] }:Obj)).get? ↥s=U { cls:=.type "set_iterator",data:=.fields ↑[.int 0 0,.int 0 0,.ref S,.int f.size 0,.int B 0] }:=wB _ Z;let k:∀b∈[↥s,S],b=S\/↥s<=b:=λb l=>by
   rcases vg.mp l with z | z
   .exact .inr (zU z.symm)
   .exact .inl (~~~z)
  cases hby:xg w with
  | true=>
   let#[c,D,C]:=JC ((KN (next:=w.params.setOrder S B) (xs:=f)).map (·.2)) u;let W:∀a:AH,a.handled=O->_:=λa m=>ZjW (prog:=prog) (w:=w) (A:=a) (I:=↥s) (S:=S) (o:=o) m r y p hby;rw[g]at W;exact h _ s.drawn _ _ _ c _ W #[#[_,M,Z,by rw[g];rfl],vy _ n] k (uV _) (λb o e=>vy _ e) (D.trans x) C
  | false=>
   let X:f.size<=1:=by
    rcases N with z | z | z
    .rw[hby]at z;cases z
    .rw[H z];exact wf _
    .exact z
   let V:t.led=Y:=by rw[j,hby];rfl
   let W:∀a:AH,a.handled=O->_:=λa m=>ZjX (prog:=prog) (w:=w) (A:=a) (I:=↥s) (S:=S) (o:=o) m r y p hby V X;rw[g]at W;exact h _ s.drawn _ _ _ ms _ W #[#[_,M,Z,by rw[g];rfl],vy _ n] k (uV _) (λb o e=>vy _ e) x u
 .let r:S≠↥s+1:=wk (Nat.lt_succ_of_lt K);let nT:↥s≠↥s+1:=wk (Nat.lt_succ_self _);let#[c,D,C]:=JC (Zji L) u;let W:∀a:AH,a.handled=O->_:=λa m=>ZhH (prog:=prog) (w:=w) (A:=a) (I:=↥s+1) (S:=S) (o:=o) (tp:=↥s) m r nT y p L;rw[g]at W;refine h _ d _ _ _ c _ W #[#[{ cls:=.type "set_iterator",data:=.fields ↑[.ref ↥s,.int 0 0,.ref S,.int f.size 0,.int B 0] },?_,Z,by rw[g];rfl],vy _ (vy _ n),vy _ (wB _ Z)] ?_ (xu _) (λb o e=>vy _ (vy _ e)) (D.trans x) C
  .rw[<-zO];exact wB _ Z
  .intro b l;rcases vg.mp l with z | z
   .exact .inr (by rw[z];calc xu _)
   .rcases vg.mp z with z | z
    .exact .inl z
    .let z:b=↥s:=by simpa using z
     calc .inr (zU z.symm)
def Zij (hh:A.handled=O)(V:lR prog w s.heap S ls (!xg w))(hn:⇑ls<=sizeLine)
  (hQ:∀(s':AE)(vs:AC)(ms:uG),(∀b o,s.heap.get? b=U o->s'.heap.get? b=U o)->s'.gens=s.gens->s'.os=s.os->ms.Perm ls->kJ (ms.map tx) vs->Q vs s'):bR (bJ prog w) A (collect (.ref S)) Q E s:=by
 unfold collect;calc uC (wpAny_runValue (codeAny_builtin F.entry_proto_collect ?_));rw[CP F.plain_proto_collect _];show bR _ A.in1 (newList [] >>= λl=>again (.builtin "list.__iadd__" #[[l,.ref S],[]])) _ _ s;calc uC (Df (uS #[plainId_quiet F.plain_list_iadd _,codeAny_builtin F.entry_list_iadd ?_]));rw[CP F.plain_list_iadd _];generalize hH:s.heap.push { cls:=.type "list",data:=.seq ↑([]:AC) }=H;let n:H.objs.size=↥s+1:=by rw[<-hH,zO]
 let hL:H.get? ↥s=U { cls:=.type "list",data:=.seq ↑([]:AC) }:=hH▸wB _ Z;let k1:∀b o,s.heap.get? b=U o->H.get? b=U o:=λb o e=>hH▸vy _ e;let g:lR prog w H S ls (!xg w):=V.keep λo e=>k1 S o e;let hT:Shared.TypeIs { s with heap:=H } (.ref S) "set":=g.typ (s:={ s with heap:=H });let X:S≠↥s:=by let#[o,_,_,_,_,ho,_]:=V;exact wk (vq ho)
 show bR _ A.in1 (Builtin.List.listExtendWith (.ref ↥s) (.ref S) (.ref ↥s)) _ _ { s with heap:=H };unfold Builtin.List.listExtendWith;calc uC (wpAny_typeOf hT ?_);let h1:Builtin.List.listSameRef (.ref ↥s) (.ref S)=J:=by simp[Builtin.List.listSameRef,uZ X]
 let h2:(eF "set" == eF "list")=J:=by decide
 let h3:(eF "set" == eF "tuple")=J:=by decide
 simp only[h1,h2,h3,Bool.or_false,Cy,if_false];calc uC (ZjG (s:={ s with heap:=H }) g λc d I fp vs ms St W st x hI B P M=>?_);let f:Shared.TypeIs { s with heap:=c,drawn:=d } (.ref S) "set":=(g.keep λo e=>B S o e).typ (s:={ s with heap:=c,drawn:=d });calc uC (xZ ?_);unfold Builtin.List.listLengthHint;refine uC (wpAny_specialOf f Zhj ?_)
 wp_delta
 calc uC (wpAny_isInstance (T:="set") (v:=.ref S) (b:=Y) f (by rw[isSubtype_type];kernel_rfl) ?_);show bR _ A.in1 (typeOf (dy S) >>= λr=>_) _ _ _;calc uC (wpAny_typeOf f ?_);calc uS ?_;rw[uM ⋯];calc uC (Co ?_);let k:c.get? ↥s=U { cls:=.type "list",data:=.seq ↑([]:AC) }:=B _ _ hL;calc uC ?_;show bR _ A.in1 (updateSeq ↥s (·.push .none) >>= λ_=>updateSeq ↥s (·.pop)) _ _ _;calc uC (wpAny_updateSeq k Z ?_);let i:=Cp (Obj.mapSeq (·.push ec)) k Z;calc wpAny_updateSeq i Z ?_;let K:=Cp (Obj.mapSeq (·.pop)) i Z;let m:∀b o,b≠↥s->c.get? b=U o->((c.update ↥s (Obj.mapSeq (·.push ec))).update ↥s (Obj.mapSeq (·.pop))).get? b=U o:=
  λb o t e=>(Bm _ _ (uZ t)).trans ((Bm _ _ (uZ t)).trans e)
 let y:↥s+1<=I:=by rw[<-n];exact hI
 let p:↥s∉fp:=λz=>by
  rcases x _ z with q | q
  .exact X q.symm
  .let N:H.objs.size<=↥s:=q;rw[n]at N;exact Sa N (Nat.not_succ_le_self _)
 calc uS #[plainId_quiet F.plain_extend_loop _,codeAny_extend_loopS (W A.in1 hh).toS hn _ p _ ⇑ls 0 _ _ _ Z (wf _) ((W A.in1 hh).frame 0 c _ st λb t o e=>m b o (λz=>p (z▸t)) e) K (ItemsOf.nil _) λs' a c' C L u=>?_];show bR _ A (load ↥s >>= λr=>_) _ _ s';calc uC (wpAny_load L ?_);let D:a.toList=vs:=by
  let hl:⇑vs=⇑ls:=by rw[<-⇑M,uO,P.length_eq]
  apply Fm;intro j;rw[Eh];by_cases hj:j<⇑ls
  .let G:j<a.size:=by rw[u.1];exact hj
   let e:a[j]?=U a[j]:=by simp[G]
   rw[e,u.2 j _ e]
  .rw[Array.getElem?_eq_none (by rw[u.1];nofun),Ci ∅]
 let done:=hQ s' vs ms (λb o e=>by
  let h:=vq e;calc C.heap b o (λz=>?_) (m b o (wk h) (B b o (k1 b o e)));rcases vg.mp z with q | q
  .rw[q]at h;exact xB _ h
  .let q:b=I:=by simpa using q
   rw[q]at h;calc Sa h (Nat.not_lt.mpr (Nat.le_of_succ_le y))) C.gens C.os P M
 rw[<-D]at done;calc uS done
end
noncomputable def zE (a b:uz):Bool:=!R (b<a)
def xx (ls:uG):uG:=ls.mergeSort zE
def Cn:zE a b=Y↔a<=b:=by unfold zE;rw[Bool.not_eq_true',R8];calc List.not_lt
def Bq (ls:uG):(xx ls).Perm ls:=List.mergeSort_perm _ _
def Hy (ls:uG):(xx ls).Pairwise (λa b=>zE a b=Y):=
 List.pairwise_mergeSort (le:=zE) (λa b c e d=>Cn.mpr (List.le_trans (Cn.mp e) (Cn.mp d))) (λa b=>Bool.or_eq_true_iff.mpr ((List.le_total a b).imp Cn.mpr Cn.mpr)) ls
def Kg (p:ms.Perm ls)(h:ms.Pairwise (λa b=>zE a b=Y)):ms=xx ls:=
 List.Perm.eq_of_pairwise (λa b _ _ d c=>List.le_antisymm (Cn.mp d) (Cn.mp c)) h (Hy ls) (p.trans (Bq ls).symm)
def ZhO (p:ms.Perm ls):xx ms=xx ls:=Kg ((Bq ms).trans p) (Hy ms)
theorem Qd:∀ {us:AC} {ss:AJ},StrsAre us ss->kJ ((ss.map λx=>x.cps.toList).map tx) us
 | _,_,.nil=>.nil
 | _,_,.cons x t h=>.cons #[t,Z] (Qd h)
def ZfW:∀ {ss:AJ},sortedS ss=Y->(ss.map λx=>x.cps.toList).Pairwise (λa b=>zE a b=Y):=by
 let d:∀(p:Str)(l:AJ),risingS p l=Y->((p::l).map λx=>x.cps.toList).Pairwise (λa b=>zE a b=Y):=by
  intro p l;induction l generalizing p with
  | nil=>intro _;simp
  | cons x r g=>
   intro h;let c:(!ltCps x.cps.toList p.cps.toList&&risingS x r)=Y:=h;rw[vW,ltCps_eq]at c;let q:=g x c.2;rw[vP,D2];calc#[λb e=>?_,q];let f:zE p.cps.toList x.cps.toList=Y:=c.1;rw[vP]at e q;rcases vg.mp e with z | z
   .rw[z];exact f
   .exact Cn.mpr (List.le_trans (Cn.mp f) (Cn.mp ((D2.mp q).1 b z)))
 intro ss h;cases ss with
 | nil=>simp
 | cons x r=>calc d x r h
def Zkh {us:AC}{ls:uG}(r:kJ (ls.map tx) us):StrsAre us (ls.map λl=>(#[↑l]:Str)):=HZ r
def ZmR (ls:uG):(ls.map λl=>(#[↑l]:Str)).map (λx=>x.cps.toList)=ls:=by
 rw[wE]
 conv=>rhs;rw[<-List.map_id ls]
 apply EF;intro l _;simp
section
def Oj {vs:AC}{ms:uG}{Q:vY}(k:kJ (ms.map tx) vs)(i:⇑ms<64)
  (h:∀(h':Heap)(us:AC)(e:Nat),(∀b o,s.heap.get? b=U o->h'.get? b=U o)->h'.get? ↥s=U { cls:=.type "list",data:=.seq ↑us e }->kJ ((xx ms).map tx) us->Q (.ref ↥s) { s with heap:=h' }):
  bR (bJ prog w) A (do let l <-newList vs;let _ <-holding [l] (call (.builtin "list.sort") [l] []);ret l) (λfin s'=>∃v,fin=Fin.done (Flow.ret v)/\Q v s') E s:=by
 let f:=Zkh k;let m:⇑vs<64:=by rw[<-⇑k,uO];exact i
 refine uC (wpAny_newList ?_ ?_)
 .let c:(s.heap.push (seqObj "list" ↑vs 0)).get? ↥s=U (seqObj "list" ↑vs 0):=wB _ Z;calc uC (xZ (F9 slot_list_sort #[_,c,Z] entry_list_sort (list_sort_treeK strKind_oneLt c f.keysOf (λC u rest e=>keyKind_strs (by rw[<-e];calc f)) m λa B z=>#[_,Z,?_]) (args_list_sort _)));let#[g,r,n,t]:=sorted_out_str f B z;let#[e,D]:=sortedHeap_at (out:=(arrOf a).map (·.2)) c;refine uS #[_,Z,h _ ((arrOf a).map (·.2)).toList e (λb o q=>?_) ?_ ?_]
  .let j:=vq q;let d:b<(s.heap.push (seqObj "list" ↑vs 0)).objs.size:=by rw[zO];exact Nat.lt_succ_of_lt j
   exact(sortedHeap_old (wk j) d).trans (vy _ q)
  .let q:↑((arrOf a).map (·.2)).toList=(arrOf a).map (·.2):=Hg;rw[q];exact D
  .let y:(g.map λx=>x.cps.toList).Perm ms:=by
    have:=n.map (λx:Str=>x.cps.toList)
    rwa [ZmR]at this
   let p:=Kg y (ZfW t);rw[<-p];exact Qd r
 .exact u8 (DN m) (by rw[bA];decide)
def Zjl (d:A.handled=O)(u:lR prog w s.heap S ls (!xg w))(c:⇑ls<64)
  (h:∀(s':AE)(a:AD)(us:AC)(e:Nat),s.heap.get? a=O->(∀b o,s.heap.get? b=U o->s'.heap.get? b=U o)->s'.gens=s.gens->s'.os=s.os->s'.heap.get? a=U { cls:=.type "list",data:=.seq ↑us e }->kJ ((xx ls).map tx) us->Q (.ref a) s'):
  bR (bJ prog w) A (call (.builtin "sorted") [.ref S]) Q E s:=by
 calc Calls.call_function_entry kind_sorted plain_sorted entry_sorted (args_sorted1 _) ?_;unfold Builtin.«sorted»;calc uC (m:=checkCount "sorted" 1 1 _) (uS ?_);calc uC (Zij (by first | calc d | simpa using d) u (u8 (DN c) (by rw[bA];decide)) λs' x j g t p f k=>?_);let i:⇑j<64:=by rw[f.length_eq];exact c
 calc Oj k i λv us e l n r=>?_;rw[ZhO f]at r;exact h _ _ us e (by
  cases q:s.heap.get? ↥s' with
  | none=>rfl
  | some o=>calc Sa (vq (g _ _ q)) (xB _)) (λb o q=>l b o (g b o q)) t p n r
end
structure ze (B:Heap)(l:List Env)(e:AD)(C:bU)(d:Option AD)(fl:bU)(h:Heap):Prop where
 st:B.StaysIn h
 ne:B.get? e=O
 fr:h.FunFrames B l
 tr:∃oe vs T oT ts,h.get? e=U oe/\oe.cls=C/\oe.dict=d/\oe.data=.fields vs/\vs[1]?=U (.ref T)/\B.get? T=O/\T≠e/\h.get? T=U oT/\oT.data=.fields ts/\ts[3]?=U fl
def ZmK (o:Obj)(f:Array bU->Array bU):(o.mapFields f).dict=o.dict:=by let#[c,d,a,b]:=o;cases a<;>rfl
section
variable {M:Model}{A:AH}{E:vY}{s:AE}{B:Heap}{env:Env}{outer:List Env}{L e:AD}{C:bU}{d:Option AD}{Q:Unit->AE->Prop}
def Nh (r:A.frames=U (env::outer))(l:s.heap.FunFrames B (env::outer))(P:env.frame=U L)(y:s.heap.get? e=U oe)(p:B.StaysIn s.heap)(i:B.get? e=O)
  (T:oe.cls=C) (u:oe.dict=d) (k:oe.data=.fields vs) (hsz:1<vs.size) (h:∀h',ze B (env::outer) e C d (rawInt L) h'->s.heap.UpToSlots h'->Q () { s with heap:=h' }):
  bR M A (do let a <-frameOf env;let pl <-entryPlaceOf L hadNext;let b <-EntryCells.newEntry head a .none (rawInt L) .none pl;setField (.ref e) 1 b) Q E s:=by
 let j:e∉(env::outer).filterMap (·.frame):=λv=>by let#[_,o,N,w]:=l.mem v;rw[y]at N;cases N;exact w vs k
 calc uC (wpAny_frameOf_fun r l P λh1 m=>uC (wpAny_entryPlaceOf λpl x=>?_));unfold EntryCells.newEntry newFields;calc uC (Df ?_ (x.sizeOk5 _ _ _ _ _));let F:h1.get? e=U oe:=(m.2.1 e j).trans y;let I:B.StaysIn h1:=λb o g=>(m.2.1 b λv=>by rw[(l.mem v).1]at g;cases g).trans (p b o g);generalize eT:({ cls:=.type "traceback",dict:=O,data:=.fields ↑([head,.ref L,.none,rawInt L,.none]++(if pl.isEmpty then cw 6 ec else pl)) }:Obj)=oT;let G:(h1.push oT).get? e=U oe:=vy _ F;calc Bc G k hsz ?_;let K:h1.objs.size≠e:=Ee (vq F);let D:=Gf k (·.setIfInBounds 1 (dy h1.objs.size));let S:=Cp (ft (·.setIfInBounds 1 (dy h1.objs.size))) G (Obj.isFreed_of_fields D);let W:((h1.push oT).update e (ft (·.setIfInBounds 1 (dy h1.objs.size)))).get? h1.objs.size=U oT:=by rw[Bm _ _ (uZ K)];calc wB _ ?_;rw[<-eT];rfl
 let c:∀b o,b≠e->h1.get? b=U o->((h1.push oT).update e (ft (·.setIfInBounds 1 (dy h1.objs.size)))).get? b=U o:=λb o V q=>by rw[Bm _ _ (uZ V)];exact vy _ q
 let f:∀b o,s.heap.get? b=U o->(∀vs,o.data≠.fields vs)->b≠e:=λb o q n z=>by rw[z,y]at q;cases q;exact n vs k
 let dT:oT.data=.fields ↑([head,.ref L,.none,rawInt L,.none]++(if pl.isEmpty then cw 6 ec else pl)):=by rw[<-eT]
 refine h _ #[λb o q=>c b o (λz=>by rw[z,i]at q;cases q) (I b o q),i,l.of_keeps λb o q n=>?_,_,_,h1.objs.size,oT,_,S,(Obj.cls_mapFields _ _).trans T,(ZmK _ _).trans u,D,?_,I.fresh,K,W,dT,?_] λb o q n=>?_
 .obtain⟨H,t⟩:=m.2.2 b o q;exact#[_,c b _ (f b o q n) t,Z]
 .simp[hsz]
 .simp
 .obtain⟨H,t⟩:=m.2.2 b o q;calc#[H,c b _ (f b o q n) t]
def Zjy (c:A.frames=U (env::outer))(l:s.heap.FunFrames B (env::outer))(g:env.frame=U L)(j:s.heap.get? e=U oe)(a:B.StaysIn s.heap)(b:B.get? e=O)
  (m:oe.cls=C) (f:oe.dict=d) (k:oe.data=.fields vs) (i:vs[1]?=U .none) (h:∀h',ze B (env::outer) e C d (rawInt L) h'->s.heap.UpToSlots h'->Q () { s with heap:=h' }):bR M A (noteFrame (.ref e) env) Q E s:=by
 unfold noteFrame;simp only[g];calc uC (wpAny_field j k i ?_);rw[uI ⋯];calc Nh c l g j a b m f k (IQ.mp i).1 h
def RU (j:A.frames=U (env::outer))(r:env.frame=U L)(x:ze B (env::outer) e C d .none s.heap)(h:∀h',ze B (env::outer) e C d (rawInt L) h'->s.heap.UpToSlots h'->Q () { s with heap:=h' }):
  bR M A (noteFrame (.ref e) env) Q E s:=by
 let#[g,i,I,N,vs,T,K,H,D,F,k,t,w,m,p,l,f,v]:=x;unfold noteFrame;simp only[r];calc uC (wpAny_field D t w ?_);rw[uM (show (dy T != ec)=Y from by simp)];calc uC (wpAny_field l f v ?_);rw[uI (show ¬((ec == rawInt L)=Y) from by simp[rawInt])];calc uC (Bc l f (IQ.mp v).1 ?_);let a:∀b,b≠T->(s.heap.update T (ft (·.setIfInBounds 3 ec))).get? b=s.heap.get? b:=λb G=>Bm _ _ (uZ G);let c:∀b o,s.heap.get? b=U o->(∀vs,o.data≠.fields vs)->b≠T:=λb o q n z=>by rw[z,l]at q;cases q;exact n H f
 refine Nh (s:={ s with heap:=s.heap.update T (ft (·.setIfInBounds 3 ec)) }) j (I.of_keeps λb o q n=>#[o,(a b (c b o q n)).trans q,Z]) r ((a e (uZ p)).trans D)
  (λb o q=>(a b λz=>by rw[z,m]at q;cases q).trans (g b o q)) i F k t (IQ.mp w).1 λh' y u=>h h' y λb o q n=>u b o ((a b (c b o q n)).trans q) n
def Hk (x:ze B l e C d fl s.heap)(h:∀h',ze B l e C d .none h'->s.heap.UpToSlots h'->Q () { s with heap:=h' }):bR M A (setFlight (.ref e) O) Q E s:=by
 let#[k,m,I,D,vs,T,K,u,w,F,p,t,v,i,j,r,a,H]:=x;let y:3<u.size:=(IQ.mp H).1;let c:∀b,b≠T->(s.heap.update T (ft (·.setIfInBounds 3 ((O:Option AD).elim ec λf=>rawInt f)))).get? b=s.heap.get? b:=λb G=>Bm _ _ (uZ G);let g:∀b o,s.heap.get? b=U o->(∀vs,o.data≠.fields vs)->b≠T:=λb o q n z=>by rw[z,r]at q;cases q;exact n u a
 unfold setFlight;calc uC (wpAny_field w t v ?_);rw[uM (show (dy T != ec)=Y from by simp)];refine Bc r a y (h _ ⟨λb o q=>(c b λz=>by rw[z,i]at q;cases q).trans (k b o q),m,I.of_keeps λb o q n=>⟨o,(c b (g b o q n)).trans q,Z⟩,D,vs,T,_,_,(c e (uZ j)).trans w,F,p,t,v,i,j,
  Cp _ r (Obj.isFreed_of_fields (Gf a _)),Gf a _,by simp[y]⟩ λb o q n=>⟨o.slots,(c b (g b o q n)).trans q⟩)
def ze.pop (x:ze B (env::outer) e C d fl h):ze B outer e C d fl h:=#[x.st,x.ne,x.fr.2.2,x.tr]
def Zh5 (c:A.frames=U (env::outer))(i:s.heap.FunFrames B (env::outer))(j:env.frame=U L)(o:s.heap.get? e=U oe)(a:B.StaysIn s.heap)(b:B.get? e=O)
  (p:oe.cls=C) (g:oe.dict=d) (q:oe.data=.fields vs) (f:vs[1]?=U .none) (h:∀h',ze B outer e C d .none h'->s.heap.UpToSlots h'->Q () { s with heap:=h' }):bR M A (leaving env (.ref e)) Q E s:=by
 unfold leaving;calc uC (Zjy c i j o a b p g q f λf m l=>Hk (s:={ s with heap:=f }) m λk n r=>h k n.pop (l.trans r))
def ZjC (a:A.frames=U (env::outer))(b:env.frame=U L)(x:ze B (env::outer) e C d .none s.heap)(h:∀h',ze B outer e C d .none h'->s.heap.UpToSlots h'->Q () { s with heap:=h' }):bR M A (leaving env (.ref e)) Q E s:=by unfold leaving;calc uC (RU a b x λg i f=>Hk (s:={ s with heap:=g }) i λc j k=>h c j.pop (f.trans k))
end
open PySem.W (Frag findIn typeIn mroIn clsIn InstAt Looks)
noncomputable def xr (a C:AD)(d:Option AD):HO:=.ext λh=>∃(o:Obj)(vs:Array bU),h.get? a=U o/\o.cls=.ref C/\o.dict=d/\o.data=.fields vs
def NR (b:h.get? e=U o)(c:o.cls=.ref C)(i:o.dict=d)(j:o.data=.fields vs):kX P w H h e (xr e C d):=
 #[#[o,vs,b,c,i,j],#[o,b],λm l ⟨f,a,g,q⟩ k=>#[f,a,k _ g,q]]
inductive mU (H:Hp)(e C:AD):List (Str×V)->Prop where
 | un {fs:List (Str×V)}:yS H e C fs->mU H e C fs
 | bare:H e=U (xr e C O)->mU H e C []
 | full {d:AD} {fs:List (Str×V)}:H e=U (xr e C (U d))->H d=U (FG d fs)->d≠e->mU H e C fs
section
def ZkB (G:A.handled=O)
  (h:bR M A x (λv s_1=>∃(e t:AD) (od:Option AD) (l:Array (Option bU)) (C:AD) (y q:Str) (N:AD) (z i:AC) (n:Bool) (m:AJ) (f:AC) (w:Bool) (c:Option Bool) (dd:Option AD) (D u p B o:Option bU) (a:String),v=.ref e/\i.contains (.type "BaseException")=Y /\
   s_1.heap.get? C=U (excClassObj y q C N z i n m f w c dd D u p B o a)/\s_1.heap.get? e=U { cls:=.ref C,dict:=od,data:=.fields ↑[.ref t,.none,.none,.none,.bool J,.none],slots:=l }/\E (.ref e) s_1) E s):bR M A (raiseStmt env (U x) O) Q E s:=by
 unfold raiseStmt;calc uC (xq h (λv s_1 k=>?_) λ_ _ x=>x);let#[e,t,od,l,C,y,q,N,z,i,n,m,f,w,c,dd,D,u,p,B,o,a,Z,b,r,H,F]:=k;let j:(dy C::i).contains (.type "BaseException")=Y:=by rw[DO,b,Bool.or_true]
 let#[K,g,d,I,L]:=s_1;repeat (first | with_reducible calc B6 H ?_ | with_reducible calc B6 r ?_ | (with_reducible calc F3 r ?_;rw[j]) | wp_step)
 calc wpAny_raiseNew_none G F
end
def vt (P:AG)(w:AI):zT:=λa H s E h f=>∃(e C:AD)(d:Option AD)(c:Hp)(g B:Heap),h=.ref e/\f.os=s.os/\AllBare f.gens/\Un (wO a) [] H c s.heap g/\(wD P w c g/\GH c f.toks)/\c e=U (xr e C d) /\
 (∀b o,g.get? b=U o->b≠e->((∃u,c b=U u)\/((∃o',s.heap.get? b=U o')/\b∉wO a))->B.get? b=U o)/\ze B a e (.ref C) d .none f.heap/\g.UpToSlots f.heap/\E (.ref C) (U e) c
def pK (X:Cx)(b:XK):Prop:=∀(a:AA)(σ:St)(H:Hp)(s:AE)(e C:AD)(d:Option AD),uB X a σ H s->H e=U (xo e C d)->b (.ref C) (U e) (upd H e (xr e C d))->X.xe (.ref e) s
def uB.raised (I:uB X BO σ H s)(h:H e=U (xo e C d)):uB X BO σ (upd H e (xr e C d)) s:=by let#[o,t,a,c,g,f]:=DR I h;calc I.write (x:=e) (e:=e) (o:=xr e C d) (h':=s.heap) (t':=s.toks) (by rw[h];calc trivial) (.inl Z) (λb u _ q=>q) #[o,a] (NR a c g f)
def Zpa (e:(hideAll h as).get? b=U o):h.get? b=U o:=of_hideAll _ e
def yx {P:AG}{w:AI}{K:Frag}{S:AB}{h:Heap}{N:AJ}{g:Str}{c:Scope}{f:AD}{cd:bU}{A:AH}{outer:List Env}{s0:AE}{H0:Hp}{E:XK}:
  pK (mv (vt P w) P w K S h N g c f cd A outer s0 H0 E) E:=by
 intro BO σ H s e C d I V hE;let#[o,t,h1,h2,h3,h4]:=DR I V;let k:=I.raised V;generalize hX:mv (vt P w) P w K S h N g c f cd A outer s0 H0 E=X at I k ⊢;let eA:X.A=A.deeper (envOfC g c ↥s0 f cd):=by rw[<-hX];rfl
 let F:X.stack=envOfC g c ↥s0 f cd::outer:=by rw[<-hX];rfl
 let G:X.fs=wO outer:=by rw[<-hX];rfl
 let T:X.s_0=s0:=by rw[<-hX];rfl
 let eH:X.H_0=H0:=by rw[<-hX];rfl
 let eX:X.ex=[]:=by rw[<-hX];rfl
 let eL:X.env=envOfC g c ↥s0 f cd:=by rw[<-hX];rfl
 let y:X.prog=P:=by rw[<-hX];rfl
 let eW:X.w=w:=by rw[<-hX];rfl
 let v:∀n s',bR (bJ P w) (A.deeper (envOfC g c ↥s0 f cd)) (leaving (envOfC g c ↥s0 f cd) n) (λ_ j=>vt P w outer H0 s0 E n j) (λe' j=>vt P w outer H0 s0 E e' j) s'->X.xe n s':=by intro n s' z;rw[<-hX];exact z
 calc v _ _ ?_;let p:(A.deeper (envOfC g c ↥s0 f cd)).frames=U (envOfC g c ↥s0 f cd::outer):=by rw[<-eA,<-F];exact I.ok.frames
 let r:s.heap.FunFrames X.base X.stack:=I.stack;let x:∀env∈X.stack,∀a,env.frame=U a->a∈wO X.stack++[e]:=λenv m a ha=>GI _ (List.mem_filterMap.mpr #[env,m,ha]);let M:=PySem.W.funFrames_hide (as:=wO X.stack++[e]) r x;rw[F]at M;let i:(hideAll s.heap (wO (envOfC g c ↥s0 f cd::outer)++[e])).StaysIn s.heap:=λb o q=>Zpa q;calc Zh5 (B:=hideAll s.heap (wO (envOfC g c ↥s0 f cd::outer)++[e])) (L:=↥s0) p M Z h1 i (hideAll_none _ {}) h2 h3 h4 {} λh' fl up=>?_;let os:s.os=s0.os:=by rw[<-T];exact I.os
 let un:Un (wO outer) [] H0 (upd H e (xr e C d)) s0.heap s.heap:=by
  have:=k.base
  rwa [G,eX,eH,T]at this
 let ok:wD P w (upd H e (xr e C d)) s.heap:=by
  have:=k.hok
  rwa [y,eW]at this
 calc#[e,C,d,upd H e (xr e C d),s.heap,_,Z,os,I.bare,un,#[ok,k.gh],uN,λb o hb D hc=>?_,fl,up,hE];calc hideAll_get _ hb λz=>?_;rcases wM.mp z with z | z
 .let Q:b∈wO X.stack:=by rw[F];exact z
  rcases hc with⟨u,W⟩|⟨⟨o',l⟩,hn⟩
  .rw[k.stkFree b Q]at W;cases W
  .rcases vg.mp (I.stkSub b Q) with q | q
   .rw[q,eL]at l;exact Sa (vq l) (xB _)
   .rw[G]at q;exact hn q
 .exact D (~~~z)
def Nm (K:Frag)(c:XK)(b:TE):TS:=λ_ σ H=>b σ H λv a=>∃e C d,v=.ref e/\a e=U (xo e C d)/\Xm K C/\c (.ref C) (U e) (upd a e (xr e C d))
def yw (A:pK X Ex)(G:X.calm=Y)(he:PE X e te):PS X (.Raise (U e) O pos) (Nm X.K Ex te):=by intro k s σ H D I h;rw[arm_exec_Raise];show bR _ X.A (do standAt pos;raiseStmt X.env (U (do let v <-eval e X.env;standAt pos;pure v)) O) _ _ s;calc uC (EI ?_);calc ZkB (I.ok.hd G) (uC (uW (he k s σ H _ I h) λv K ⟨x,M,b,S,a,C,d,F,j,m,q⟩=>uC (EI (uS ?_))));subst F;obtain rfl:v=dy a:=S;let#[o,t,h1,r,p,l]:=DR b j;let#[V,u,N,bs,n,E,B,f,T,c,dd,k0,Q,P,k3,L,hl,i]:=m.parts;let#[oc,W,y,w]:=o;dsimp only at r p l;subst r p l;let g:(dy C::n).contains (.type "BaseException")=Y:=Fy nofun i;rw[DO]at g;calc#[a,t,_,_,C,V,u,N,bs,n,E,B,f,T,c,dd,k0,Q,P,k3,L,_,Z,?_,b.kIn _ _ hl,h1,A k σ M K a C _ b j q];let z:(eF "BaseException" == dy C)=J:=rfl;rw[z,Bool.false_or]at g;calc g
section
variable {P:AG}{w:AI}{K:Frag}{mg:AB}{base:Heap}
def xk.okX {x b:Str}{st:Stmt}{f:AD}{j:AF}{N h:AJ}{k:Nat}{sp:Sp}(F:xk K x b st f j)(S:ku N h (xh st))
  (c:∀(d:bU)(A:AH)(a:List Env)(s:AE)(H:Hp)(vs:Se)(Q:VK)(E:XK),lI k (A.deeper (envOfC b (xh st) ↥s f d))->sp vs H Q E ->
   ∃t,xS (mv (vt P w) P w K mg base N b (xh st) f d A a s H E) (wT st) t/\t { nx:=λ_ H'=>Q .non H',rt:=Q } (start N vs) H)(e:autoParam (∀vs H Q E,sp vs H Q E->⇑vs=⇑h) Xy._auto_1):kz P w K mg base (vt P w) (k+1) f j h sp:=by
 let#[r,v,kV,n,u,q,d,p,o,Z,l,g]:=F.ex;calc K1 l g S e λA a s H vs Q E m i=>c d A a s H vs Q E m i
end
abbrev TX:=St->Hp->VK->XK->Prop
def JW (X:Cx)(e:Expr)(t:TX):Prop:=∀(a:AA)(s:AE)(σ:St)(H:Hp)(Q:VK)(E:XK),uB X a σ H s->t σ H Q E ->
 bR (bJ X.prog X.w) X.A (eval e X.env) (EP X a σ Q) (λd f=>∃c b,uB X a σ c b/\vt X.prog X.w X.stack c b E d f) s
abbrev Gi:=mM->(St->XK)->St->Hp->Prop
def XH (X:Cx)(e:AA)(d:St->XK)(f:bU)(s':AE):Prop:=∃a c b,uB X e a c b/\vt X.prog X.w X.stack c b (d a) f s'
def Ou (X:Cx)(st:Stmt)(t:Gi):Prop:=∀(a:AA)(s:AE)(σ:St)(H:Hp)(D:mM)(b:St->XK),uB X a σ H s->t D b σ H->bR (bJ X.prog X.w) X.A (exec st X.env) (SP X a D) (XH X a b) s
def PSsx (X:Cx)(st:List Stmt)(t:Gi):Prop:=∀(a:AA)(s:AE)(σ:St)(H:Hp)(D:mM)(b:St->XK),uB X a σ H s->t D b σ H->bR (bJ X.prog X.w) X.A (execs st X.env) (SP X a D) (XH X a b) s
section
def Zoq (F:kz X.prog X.w X.K X.mg X.base (vt X.prog X.w) k f fd ps sp)(l:lI k X.A)(i:lD X.K fd ps ds)(m:kJ BX ds)
  (I:uB X BO σ H s) (r:kJ vs us) (h:sp (vs++BX) H Q E):bR (bJ X.prog X.w) X.A (call (.ref f) us) (EP X BO σ Q) (λev s'=>∃d b,uB X BO σ d b/\vt X.prog X.w X.stack d b E ev s') s:=by
 let c:kJ (vs++BX) (us++ds):=r.append m;let g:⇑(us++ds)=⇑ps:=by rw[<-⇑c];exact F.len _ _ _ _ h
 calc zN (codeAny_mono (F.run X.A X.stack s H #[us,[]] (us++ds) (vs++BX) Q E l I.env0 (i s us I.kIn g) c h) λr s' a=>?_);cases r with
 | error e=>exact#[H,s,I,a]
 | ok j=>
  cases j with
  | ret u=>exact I.after a
  | next=>exact ff a
  | brk=>exact ff a
  | cont=>calc ff a
def Qm (a:TX):Gi:=λD b σ H=>a σ H (λ_ c=>D.nx σ c) (b σ)
def OL (i:JW X e te)(f:‹swapsWith e O pos.line X.env=pure J›):Ou X (.Expr e pos) (Qm te):=by intro j s σ H D l I h;calc wpAny_Expr_any (xq (i j s σ H _ _ I h) (λv p ⟨y,d,b,n,g⟩=>#[σ,d,b,g]) λm o ⟨c,a,k,q⟩=>#[σ,c,a,k,q]) I.quiet f
def Qn {st:Stmt}{t:Gi}(c:Ou X st t):PSsx X [st] t:=by
 intro a s σ H D b I h;calc wpAny_execs_cons (uW (c a s σ H D b I h) λf d q=>?_);cases f with
 | next=>exact E6 q
 | ret v=>exact q
 | brk=>exact q
 | cont=>calc q
end
section
variable {X:Cx}{BO:AA}{σ:St}{H H':Hp}{s s1:AE}{e C:AD}{d:Option AD}{h1 h5 B:Heap}
def ZjO (I:uB X BO σ H s)(M:s1.os=s.os)(bare:AllBare s1.gens)(un:Un (wO X.stack) [] H H' s.heap h1)(F:wD X.prog X.w H' h1)(y:H' e=U (xr e C d))
  (a:∀b o,h1.get? b=U o->b≠e->((∃u,H' b=U u)\/((∃o',s.heap.get? b=U o')/\b∉wO X.stack))->B.get? b=U o) (k:ze B X.stack e (.ref C) d .none h5) (Q:h1.UpToSlots h5) (gh:GH H' s1.toks):
  uB X BO σ H' { s1 with heap:=h5 }:=by
 let N:∀b o,s.heap.get? b=U o->H b=O->b≠e:=λb o q n z=>by have:=un.free b o q n {};rw[z,y]at this;cases this
 let i:∀b o,s.heap.get? b=U o->H b=O->b∉wO X.stack->h5.get? b=U o:=λb o q n m=>
  k.st b o (a b o (un.keep b o q n m {}) (N b o q n) (.inr #[#[o,q],m]))
 let h:∀b o,s.heap.get? b=U o->H b=O->b∈wO X.stack->∃t,h5.get? b=U { o with slots:=t }:=λb o q n g=>by let#[t,p]:=un.slot b o q n g {};let#[_,o',l,w]:=I.stack.mem g;rw[q]at l;cases l;let#[x,r]:=Q b _ p w;exact#[x,r]
 let FD:∀c u,(∃v,H' c=U v)->h1.get? c=U u->c≠e->h5.get? c=U u:=λc u G q n=>k.st c u (a c u q n (.inl G));refine I.call' (s':={ s1 with heap:=h5 }) (ch:=[]) M #[λb o q n m _=>i b o q n m,λb o q n g _=>h b o q n g,λb o q n _=>un.free b o q n {},λb o q _=>?_,un.tups,un.frzs,un.tbls] (λb E j=>?_) bare (λb j=>by cases j) gh
 .by_cases f:b=e
  .obtain⟨A,S,T,K,V,h1,_⟩:=k.tr;exact#[A,by rw[f];calc h1]
  .cases hH:H b with
   | none=>
    by_cases g:b∈wO X.stack
    .obtain⟨t,r⟩:=h b o q hH g;exact#[_,r]
    .exact#[o,i b o q hH g]
   | some u=>
    let#[o',p]:=un.there b o q {};by_cases g:b∈wO X.stack
    .rw[I.stkFree b g]at hH;cases hH
    .exact#[o',k.st b o' (a b o' p f (.inr #[#[o,q],g]))]
 .by_cases f:b=e
  .subst f;rw[y]at j;cases j;let#[A,S,T,K,V,P,L,g3,W,_]:=k.tr;exact NR P L g3 W
  .refine(F b E j).stay (λc u D q=>FD c u ?_ q ?_) (λ_ q=>q) λ_ _ q=>q
   .rcases D with z | z
    .exact#[E,z▸j]
    .exact#[_,z]
   .rintro rfl;rcases D with z | z
    .exact f z.symm
    .rw[y]at z;cases z
end
noncomputable def sux (X:Cx)(e:AD):Cx:={ X with A:=X.A.mark (U (.ref e)),calm:=J,xe:=λ_ _=>False }
section
def uB.sux (I:uB X BO σ H s)(e:AD):uB (L2.sux X e) BO σ H s:=
 #[#[I.ok.mod,I.ok.kind,I.ok.glob,I.ok.blt,I.ok.above,I.ok.inj,I.ok.has,I.ok.cab,(λz=>by cases z),I.ok.frames,I.ok.stk,I.ok.exf,I.ok.bs,I.ok.bsz,I.ok.noex,I.ok.exfs,I.ok.funs,I.ok.frf],I.os,I.bare,I.base,I.loc,I.cell,I.free,I.freeC,I.pin,I.hok,I.len,I.gh]
def uB.unsux (a:X.calm=Y->X.A.handled=O)(I:uB (L2.sux X e) BO σ H s):uB X BO σ H s:=
 #[#[I.ok.mod,I.ok.kind,I.ok.glob,I.ok.blt,I.ok.above,I.ok.inj,I.ok.has,I.ok.cab,a,I.ok.frames,I.ok.stk,I.ok.exf,I.ok.bs,I.ok.bsz,I.ok.noex,I.ok.exfs,I.ok.funs,I.ok.frf],I.os,I.bare,I.base,I.loc,I.cell,I.free,I.freeC,I.pin,I.hok,I.len,I.gh]
def uB.unbind (I:uB X BO σ H s)(T:X.N.Nodup)(S:X.N[i]?=U x)(W:∀(i:Nat)(x:Str)(v:V),X.N[i]?=U x->σ[i]?=U (U v)->Fv X.env.scope x->∃u,kP v u/\Look X.env s.heap m x u)
  (r:h'.Ns X.env.locals (λy=>if y=x then v else m y)) (a:Heap.SameBut X.env.locals s.heap h') (ht:autoParam (s.toks<=t') Xz._auto_1):uB X BO (σ.set i O) H { s with heap:=h',toks:=t' }:=by
 let#[m0,Q,_]:=id I.loc;let#[oL,_,_,aa,_]:=id Q;let w:∀b o,X.s_0.heap.get? b=U o->b≠X.env.locals:=λb o e=>wk (xj (vq e) I.ok.above);refine#[I.ok,I.os,I.bare,#[λb o e n t h=>(a.2 b (w b o e)).trans (I.base.keep b o e n t h),λb o e n t h=>?_,I.base.free,λb o e h=>?_,I.base.tups,I.base.frzs,I.base.tbls],#[_,r,λj y M f g K=>?_],λy c e=>?_,I.free,I.freeC,λp L=>?_,λb P e=>?_,~~~I.len,I.gh.le ht]
 .obtain⟨N,f⟩:=I.base.slot b o e n t h;exact#[N,(a.2 b (w b o e)).trans f]
 .obtain⟨G,f⟩:=I.base.there b o e h;exact#[G,(a.2 b (w b o e)).trans f]
 .let D:j≠i:=by
   rintro rfl;by_cases A:j<⇑σ
   .rw[List.getElem?_set_self A]at g;cases g
   .rw[List.set_eq_of_length_le (Nat.le_of_not_lt A),Ci (Nat.le_of_not_lt A)]at g;cases g
  rw[List.getElem?_set_ne (uZ D)]at g;let#[E,F,q]:=W j y M f g K;calc#[E,F,?_];rcases q with⟨k,e⟩|⟨k,c,e,z⟩
  .refine .inl #[k,?_];have:y≠x:=λe=>D (Lh T f (e▸S));simp[this,e]
  .exact .inr #[k,c,e,z.sameBut a (I.cne y c e)]
 .obtain⟨B,z⟩:=I.cell y c e;exact#[B,z.sameBut a (I.cne y c e)]
 .obtain⟨e,n,C,nf,d⟩:=I.pin p L;exact#[(a.2 p.1 C).trans e,n,C,nf,d]
 .refine(I.hok b P e).stay (λc B l q=>(a.2 c ?_).trans q) (λ_ q=>q) λ_ _ q=>q;rintro rfl;rcases l with z | l
  .rw[<-z,I.free]at e;cases e
  .rw[I.free]at l;cases l
end
abbrev TH:=Addr->AD->mM->St->Hp->Prop
def Fl (X:Cx)(c:List ExceptHandler)(f:TH):Prop:=∀(b:AA)(s:AE)(σ:St)(H:Hp)(D:mM)(e C:AD)(d:Option AD)(B:Heap),(∀a,ze B X.stack e (.ref C) d .none a->s.heap.UpToSlots a->uB X b σ H { s with heap:=a })->H e=U (xr e C d)->ze B X.stack e (.ref C) d .none s.heap->f e C D σ H ->
 bR (bJ X.prog X.w) X.A (handleBy (.ref e) X.env c) (SP X b D) X.xe s
noncomputable def LM (i:Nat)(D:mM):mM:={ nx:=λσ H=>D.nx (σ.set i O) H,rt:=D.rt,bk:=λσ H=>D.bk (σ.set i O) H,ct:=λσ H=>D.ct (σ.set i O) H }
def PR (K:Frag)(c:AD)(i:Nat)(d:TS)(a:TH):TH:=λe C D σ H=>∃b,exmOne K (.ref C) (.ref c)=U b/\if b=Y then d (LM i D) (σ.set i (U (.ref e))) H else a e C D σ H
def qm:TH:=λ_ _ _ _ _=>False
def Np:Fl X [] qm:=λ_ _ _ _ _ _ _ _ _ _ _ _ h=>h.elim
def Pt (c:h.get? e=U o)(b:o.cls=.ref C):Looks M h (typeOf (.ref e)) (.ref C):=by
 intro A Q E s k q;let a:=k _ _ c;let#[f,g,d,j,i]:=s;unfold typeOf;repeat (first | (with_reducible calc B6 a ?_;rw[b]) | wp_step)
 calc q
section
variable {X:Cx}{x n:Str}{np pos:Pos}{b9:Stmt}{suite:List Stmt}{rest:List ExceptHandler}{ts:TS}{tr:TH}{C0:AD}{i:Nat}
def ZsY (hc:X.calm=Y->X.A.handled=O)(P:Gl X x)(hm:X.mg x=U (.ref C0))(N:X.N.Nodup)(L:X.N[i]?=U n)(G:X.env.scope.names.lookup n=U .local)(hs:∀e,xS (sux X e) (b9::suite) ts)(hr:Fl X rest tr)
  (K:autoParam ((x == ("__debug__":Str))=J) Xw._auto_1):Fl X (.ExceptHandler (U (.Name x np)) (U n) (b9::suite) pos::rest) (PR X.K C0 i ts tr):=by
 intro r s σ H D e C d B E he t h;let#[b,hb,h]:=h;let I:uB X r σ H s:=E s.heap t (Heap.UpToSlots.refl _);let J_:=I.sux e;calc wpAny_handleBy_cons (codeAny_handlers_test (B5 (X:=sux X e) J_ P hm ?_ K)) (by intro q;cases q);let#[oe,vs,T,oT,tt,g1,W,_]:=id t.tr;calc(exm_one (M:=bJ X.prog X.w) I.kIn (Pt g1 W) hb).here ?_;let V:(X.env.scope.kind == .class || (X.env.scope.kind == .module&&X.env.locals != X.env.globals))=J:=by rw[I.ok.kind];rfl
 cases b with
 | false=>exact hr r s σ H D e C d B E he t h
 | true=>
  calc codeAny_handlers_suite_as (Hk t λS y F=>?_);let J6:=(E S y F).sux e;calc Hz (X:=sux X e) (i:=i) J6 N L (.inl G) (v:=.ref e) Z (λs7 I7=>?_) (.inr G);calc xq (hs e r s7 _ H (LM i D) I7 h) (λf s8 q=>?_) λ_ _ z=>ff z;let c:∀ {a:St} {g:Hp} {Q:Unit->AE->Prop} (l:uB (sux X e) r a g s8),(∀p,uB X r (a.set i O) g p->Q () p)->bR (bJ X.prog X.w) X.A (do bindName X.env n .none;unbindBehindTheSuite X.env n pos) Q X.xe s8:=λ{a g Q} l k=>by let j:=l.unsux hc;let#[m,hn,w]:=j.loc;exact wpAny_nameGoes_keeps G hn V λh' v A sb=>k _ (j.unbind N L w A sb)
  cases f with
  | next=>
   let#[a,g,l,o]:=q;exact c l λp j=>#[_,g,j,o]
  | brk=>
   let#[a,g,l,o]:=q;exact c l λp j=>#[_,g,j,o]
  | cont=>
   let#[a,g,l,o]:=q;exact c l λp j=>#[_,g,j,o]
  | ret u=>
   let#[v,a,g,l,r8,o]:=q;calc c l λp j=>#[v,_,g,j,r8,o]
def Pl (K:Frag)(C0:AD)(ts:TS)(tr:TH):TH:=λe C D σ H=>∃b,exmOne K (.ref C) (.ref C0)=U b/\if b=Y then ts D σ H else tr e C D σ H
def Zmb (k:X.calm=Y->X.A.handled=O)(r:Gl X x)(G:X.mg x=U (.ref C0))(K:∀e,xS (sux X e) (b9::suite) ts)(L:Fl X rest tr)(p:autoParam ((x == ("__debug__":Str))=J) Xw._auto_1):
  Fl X (.ExceptHandler (U (.Name x np)) O (b9::suite) pos::rest) (Pl X.K C0 ts tr):=by
 intro l s σ H D e C d B n N j h;let#[b,E,h]:=h;let I:uB X l σ H s:=n s.heap j (Heap.UpToSlots.refl _);let y:=I.sux e;calc wpAny_handleBy_cons (codeAny_handlers_test (B5 (X:=sux X e) y r G ?_ p)) (by intro q;cases q);let#[S,W,T,P,Q,A,w,_]:=id j.tr;calc(exm_one (M:=bJ X.prog X.w) I.kIn (Pt A w) E).here ?_;cases b with
 | false=>exact L l s σ H D e C d B n N j h
 | true=>
  calc codeAny_handlers_suite (Hk j λt m o=>?_);calc xq (K e l _ _ H D ((n t m o).sux e) h) (λf V q=>?_) λ_ _ z=>ff z;cases f with
  | next=>let#[c,i,g,a]:=q;exact#[_,i,g.unsux k,a]
  | brk=>let#[c,i,g,a]:=q;exact#[_,i,g.unsux k,a]
  | cont=>let#[c,i,g,a]:=q;exact#[_,i,g.unsux k,a]
  | ret u=>let#[v,c,i,g,F,a]:=q;calc#[v,_,i,g.unsux k,F,a]
def tTry (tb:Gi)(f:TH):TS:=λD σ H=>tb D (λb a d c=>∃e C,a=.ref C/\d=U e/\f e C D b c) σ H
def Rj (a:X.stack=X.env::X.outer)(g:X.env.frame=U X.env.locals)(G:PSsx X body tb)(L:Fl X (h₀::hs) th):
  PS X (.Try body (h₀::hs) [] [] pos) (tTry tb th):=by
 intro t s σ H D I h;refine wpAny_Try_except (xq (G t s σ H D _ I h) (λf s1 q=>?_) λQ s1 q=>?_)
 .cases f with
  | next=>exact E6 q
  | ret v=>exact q
  | brk=>exact q
  | cont=>exact q
 .obtain⟨n,N,V,z,e,C,d,F,W,B,rfl,A,bare,un,p,u,b,r,K,S,T,x,y,m⟩:=q;cases x;cases y;let M:X.A.frames=U (X.env::X.outer):=by rw[<-a];exact I.ok.frames
  rw[a]at r;calc RU M g r λE i o=>Hk (s:={ s1 with heap:=E }) i λw c j=>?_;rw[<-a]at c;calc L t { s1 with heap:=w } n F D e C d B (λP k l=>ZjO (s1:=s1) z A bare un p.1 u b k (K.trans (o.trans (j.trans l))) p.2) u c m
end
end L2
namespace L2
open PySem PySem.W
def DG (K:Frag)(x:Str)(s:Stmt)(f:AD)(e:AF):Prop:=nsIn K dq x=U (U (.ref f))/\xk K x x s f e
def MG (K:Frag)(x q:Str)(s:Stmt)(f:AD)(e:AF):Prop:=xk K x q s f e/\isFn K (.ref f)=Y
structure XG (K:Frag)(x:Str)(C:AD)(L:AC):Prop where
 a:nsIn K dq x=U (U (.ref C))
 m:Xm K C
 i:Xi K C
 k:lA K C L
def xg_mk {K:Frag}{x:Str}{C:AD}{L:AC}{e:ClassData}{w k:Str}{N:AD}{y o:AC}{j:Bool}{i:AJ}{d:AC}{v:Bool}{b:Option Bool}{dd:Option AD}{D u t A p:Option bU}(a:nsIn K dq x=U (U (.ref C)))(q:clsIn K C=U e)(r:e.mro=L)(ty:typeIn K (.ref C)=U (.type "type"))
  (l:fw K (.ref C) "__getattribute__"=U (U (.builtin "BaseException.__getattribute__"))) (n:fw K (.ref C) "__getattr__"=U O) (f:fw K (.ref C) "__setattr__"=U (U (.builtin "object.__setattr__"))) (m:hasDictIn K C=Y)
  (ob:K.lookup C=U (excClassObj w k C N y o j i d v b dd D u t A p "ValueError.__new__")) (B:keepIn K (.ref C)=Y) (z:fw K (.ref C) "__class__"=U (U (.builtin "object.__class__")))
  (s:specialIn K (.builtin "object.__class__") "__get__"=U (U (.builtin "getset_descriptor.__get__"))) (tk:takesIn K (.builtin "object.__class__")=U Y) (g:nu L=Y) (h:L.isEmpty=J):XG K x C L:=
 let c:Xc K C:=#[l,n,f,m,by rw[q];show nu e.mro=Y;rw[r];calc g]
 #[a,#[c,#[_,_,_,_,_,_,_,_,_,_,_,_,_,_,_,_,ob],B],#[c,z,s,tk],#[#[_,q,r],ty,h]]
def dg_mk {K:Frag}{x:Str}{st:Stmt}{f:AD}{j:bU}{od h:Option AD}{e:Array (Option bU)}{kV b i d g:bU}(a:nsIn K dq x=U (U (.ref f)))(l:K.lookup f=U #[j,od,.func (fnOf x x (Cu st) (wT st) (xh st) .none kV b i h d g),e])
  (c:codeIn K d x=Y) (k:keepIn K (.ref f)=Y):DG K x st f (fnOf x x (Cu st) (wT st) (xh st) .none kV b i h d g):=#[a,NM l c k]
def mg_mk {K:Frag}{x q:Str}{st:Stmt}{f:AD}{i:bU}{od g:Option AD}{d:Array (Option bU)}{kV a h b e:bU}(l:K.lookup f=U #[i,od,.func (fnOf x q (Cu st) (wT st) (xh st) .none kV a h g b e),d])
  (c:codeIn K b q=Y) (k:keepIn K (.ref f)=Y) (n:isFn K (.ref f)=Y):MG K x q st f (fnOf x q (Cu st) (wT st) (xh st) .none kV a h g b e):=#[NM l c k,n]
structure DF (K:Frag)(mg:AB)(x:Str)(st:Stmt)(f:AD)(d:AF)(ps:AJ):Prop where
 m:mg x=U (.ref f)
 u:xk K x x st f d
 b:lD K d ps []
structure MF (K:Frag)(x q:Str)(st:Stmt)(f:AD)(d:AF)(ps:AJ):Prop where
 u:xk K x q st f d
 b:lD K d ps []
section
def vi (X:K.In h)(G:h.Ns dq mg)(D:DG K x st f d)(b:∀(kV a i:bU)(g:Option AD)(e c:bU)(us:AC),⇑us=⇑ps->bindArgs (fnOf x x (Cu st) (wT st) (xh st) .none kV a i g e c) #[us,[]]=pure (ps.zip us)):DF K mg x st f d ps:=#[mg_of X G D.1,D.2,D.2.binds b]
def wJ (D:MG K x q st f d)(b:∀(kV a h:bU)(g:Option AD)(e c:bU)(us:AC),⇑us=⇑ps->bindArgs (fnOf x q (Cu st) (wT st) (xh st) .none kV a h g e c) #[us,[]]=pure (ps.zip us)):MF K x q st f d ps:=#[D.1,D.1.binds b]
end
section
def u3 (F:kz X.prog X.w X.K X.mg X.base CX k f fd ps sp)(g:lI k X.A)(h:Gl X x)(D:DF X.K X.mg x st f fd ps)(d:zH CX X E)
  (c:PA X (e::es) t) (b:autoParam ((x == ("__debug__":Str))=J) Xw._auto_1) (i:‹bD (e::es) X.env=(J,eval e X.env)::bD es X.env›) (a:‹(iw pos (bD es X.env)).any (·.1)=J›):
  PE X (.Call (.Name x p) (e::es) [] pos) (Hf sp [] E t):=ZoB F g h D.m D.u.kp D.b .nil d c b i a
def hM (a:lI n A)(h:autoParam (k<=n) Xw._auto_1):lI k A:=a.mono h
def vd (f:X.N.Nodup)(g:PE X e te)(d:‹X.N[i]?=U x›)(b:EK X.env.scope x:=by calc i0 Z)(c:‹swapsWith e (U (.Name x pos')) pos.line X.env=pure J›)(a:autoParam (X.fn x=Y\/X.env.scope.names.lookup x=U .local) Xx._auto_1):PS X (.Assign [.Name x pos'] e pos) (pJ te (xW i)):=Bf f d b g c a
end
end L2
namespace L2
open PySem PySem.Spec PyProof.Rows
structure mN (k:Nat)(A:AH):Prop where
 dp:A.depth+3*k+5<recursionLimit
 un:A.units+16*k+200<cLine
def mN.le (r:mN k A)(h:autoParam (j<=k) Xw._auto_1):mN j A:=#[by have:=r.dp;nofun,by have:=r.un;nofun]
def mN.units (r:mN k A):A.units+64<cLine:=by have:=r.un;nofun
def mN.deeper (r:mN (k+1) A)(env:Env):mN k (A.deeper env):=
 #[by have:=r.dp;show A.depth+1+3*k+5<_;nofun,by have:=r.un;show A.units+3+16*k+200<_;nofun]
def lI.sx (r:lI n A)(a:autoParam (k<=n) Xw._auto_1):mN k (A.mark h):=#[by have:=r.dp;show A.depth+3*k+5<_;nofun,by have:=r.un;show A.units+16*k+200<_;nofun]
noncomputable def Im (X:Cx):Cx:={ X with calm:=J }
structure pj (P:AG)(w:AI)(K:uH)(mg:AB)(base:Heap)(CX:zT)(k:Nat)(f:AD)(fd:AF)(ps:AJ)(sp:Sp):Prop where
 len:∀vs H Q E,sp vs H Q E->⇑vs=⇑ps
 run:∀(A:AH)(outer:List Env)(s:AE)(H:Hp)(args:Args)(us:AC)(vs:Se)(Q:VK)(E:XK),mN k A->oQ P w K mg base A outer s H->BindsTo s fd args (ps.zip us)->kJ vs us->sp vs H Q E ->
  codeAny (bJ P w) A (.call (.ref f) args) (CR CX outer P w H s Q E) s
section
variable {P:AG}{w:AI}{K:uH}{mg:AB}{base:Heap}
def ZjH 
  (S:ku N ps scope) (a:oQ P w K mg base A outer s H) (c:⇑vs=⇑ps) (r:kJ vs us)
  (x:InCallC s ↥s (bindL (envOfC qual scope ↥s f cd).kindOf (ps.zip us) λ_=>O) (cellsFrom (↥s+1) scope.names []) (bindC (envOfC qual scope ↥s f cd).kindOf (ps.zip us) λ_=>O) s1) (b:s.toks<=s1.toks):
  uB (Im (mv CX P w K mg base N qual scope f cd A outer s H E)) [] (start N vs) H s1:=by
 let I:=QP (CX:=CX) (E:=E) (A:={ A with handled:=O }) S Z #[a.frames,a.mod,a.bs,a.bsz,a.funs,a.frf,a.hok,a.bare,a.gh] c r x b;calc#[#[I.ok.mod,I.ok.kind,I.ok.glob,I.ok.blt,I.ok.above,I.ok.inj,I.ok.has,I.ok.cab,(λz=>by cases z),I.ok.frames,I.ok.stk,I.ok.exf,I.ok.bs,I.ok.bsz,I.ok.noex,I.ok.exfs,I.ok.funs,I.ok.frf],I.os,I.bare,I.base,I.loc,I.cell,I.free,I.freeC,I.pin,I.hok,I.len,I.gh]
def xk.okH {x c:Str}{st:Stmt}{f:AD}{fd:AF}{N D:AJ}{k:Nat}{sp:Sp}(F:xk K x c st f fd)(S:ku N D (xh st))
  (j:∀(l:bU)(A:AH)(a:List Env)(s:AE)(H:Hp)(vs:Se)(Q:VK)(E:XK),mN k (A.deeper (envOfC c (xh st) ↥s f l))->sp vs H Q E ->
   ∃t,xS (Im (mv vf P w K mg base N c (xh st) f l A a s H E).nox) (wT st) t/\t { nx:=λ_ h=>Q .non h,rt:=Q } (start N vs) H)(z:autoParam (∀vs H Q E,sp vs H Q E->⇑vs=⇑D) Xy._auto_1):pj P w K mg base vf (k+1) f fd D sp:=by
 let#[oc,od,kV,ac,pm,an,l,ct,aa,Z,lk,T]:=F.ex;calc#[z,λA a s H X us vs Q E hr B hb r C=>?_];let hl:=z _ _ _ _ C;let KX:K.In s.heap:=B.mod.kin.keeps λb o e=>(B.bs b o e).1;let L:s.heap.NoLimit:=B.mod.nolimit.keeps λb o e=>(B.bs b o e).1;let i:∀y∈D.zip us,(xh st).names.lookup y.1=U .local\/((xh st).names.lookup y.1=U .cell/\((cellsFrom (↥s+1) (xh st).names []).lookup y.1).isSome=Y):=λ⟨n,v⟩ hy=>by
  rcases S.par n (List.of_mem_zip hy).1 with q | q
  .exact .inl q
  .exact .inr #[q,cellsFrom_some _ _ _ (.inl q)]
 calc codeAny_call_function (by have:=hr.dp;nofun) (KX _ _ lk) Z S.co S.gen Z (codeRec_of KX T) (hb _ _ _ _ ?_);calc xF (wpAny_newFunctionEnv_cells S.kind i λab he s1 x G=>?_);subst he;calc#[L.keeps x.toInCall.keep,codeAny_func ?_];let#[t,W,hq]:=j l A a s H vs Q E (hr.deeper _) C;let I:=ZjH (CX:=vf) (E:=E) S B hl r x G;let W:xS (Im (mv vf P w K mg base N c (xh st) f l A a s H E)) (wT st) t:=xS.nox W;calc xq (W [] s1 (start N vs) H _ I hq) (λfl s' m=>?_) λe s' m=>m;let p:∀ {g:St} {h:Hp} {v:V} {u:bU},uB (Im (mv vf P w K mg base N c (xh st) f l A a s H E)) [] g h s'->kP v u->Q v h->CE a P w H s Q u s':=
  λ{g h v u} d M q=>#[v,h,d.os,d.bare,d.base,d.hok,d.gh,M,q]
 cases fl with
 | ret u=>
  let#[v,g,h,d,M,q]:=m;exact p d M q
 | next=>
  let#[g,h,d,q]:=m;exact p (v:=V.non) (u:=ec) d Z q
 | brk=>
  let#[_,_,_,q]:=m;exact ff q
 | cont=>
  let#[_,_,_,q]:=m;calc ff q
end
section
variable {X:Cx}{k:Nat}{f:AD}{fd:AF}{ps:AJ}{sp:Sp}{x:Str}{p pos:Pos}{e:Expr}{es:List Expr}{t:TA}{st:Stmt}
def QK (F:pj X.prog X.w X.K X.mg X.base vf k f fd ps sp)(w:mN k X.A)(z:Gl X x)(D:DF X.K X.mg x st f fd ps)
  (o:PA X (e::es) t) (d:autoParam ((x == ("__debug__":Str))=J) Xw._auto_1) (A:‹bD (e::es) X.env=(J,eval e X.env)::bD es X.env›) (g:‹(iw pos (bD es X.env)).any (·.1)=J›):
  PE X (.Call (.Name x p) (e::es) [] pos) (Hf sp [] E0 t):=by
 intro y s σ H Q I h;calc B9 (B5 I z D.m ?_ d);calc CH (h₀:=X.base) I.ok.mod.kin D.u.kp (uW (o pos y s σ H _ I h) λb m ⟨j,l,c,r,q⟩=>#[c.kIn,?_]) A g;let q:sp (j++[]) l Q E0:=q;rw[zd]at q;let n:⇑b=⇑ps:=by rw[<-⇑r];exact F.len _ _ _ _ q
 let i:=D.b m b c.kIn (by rw[zd];calc n);rw[zd]at i;calc zN (codeAny_mono (F.run X.A X.stack m l #[b,[]] b j Q E0 w c.env0 i r q) λr B a=>?_);cases r with
 | error e=>exact a.elim
 | ok v=>
  cases v with
  | ret u=>exact c.after a
  | next=>exact ff a
  | brk=>exact ff a
  | cont=>calc ff a
end
def N9 (f:AD)(sp:Sp)(a:Se)(E:XK)(b:TE)(t:TA):TE:=λσ H Q=>b σ H λv e=>v=.ref f/\t σ e λc d=>sp (c++a) d Q E
section
def yQ (F:kz X.prog X.w X.K X.mg X.base CX k f fd ps sp)(C:lI k X.A)(g:PE X (.Name x p) tf)(o:keepIn X.K (.ref f)=Y)(n:lD X.K fd ps ds)(m:kJ BX ds)(j:zH CX X E)
  (A:PA X (e::es) t) (D:‹bD (e::es) X.env=(J,eval e X.env)::bD es X.env›) (a:‹(iw pos (bD es X.env)).any (·.1)=J›):
  PE X (.Call (.Name x p) (e::es) [] pos) (N9 f sp BX E tf t):=by
 intro d s σ H Q I h;calc B9 (uW (g d s σ H _ I h) λu B z=>?_);let#[v,i,c,w,y,l]:=z;subst y;obtain rfl:u=dy f:=w;calc CH (h₀:=X.base) c.ok.mod.kin o (uW (A pos d B σ i _ c l) λK G ⟨L,M,b,r,q⟩=>#[b.kIn,?_]) D a;calc GP F C n m j b r q
end
open PySem.W (Frag findIn specialIn typeIn mroIn clsIn subIn kitOne kitCls InstAt Looks)
section
def PN (I:uB X BO σ H s)(h:H e=U (xr e C d)):∃(o:Obj)(vs:Array bU),s.heap.get? e=U o/\o.cls=.ref C/\o.dict=d/\o.data=.fields vs:=(I.hok e _ h).1
def mU.inst (I:uB X BO σ H s)(x:mU H e C fs):∃(ox:Obj)(od:Option Obj),InstAt s.heap e ox C od/\∀name,∃r,(match od with | some o=>lookIn name o | none=>U O)=U r/\l0 (fs.lookup name) r:=by
 cases x with
 | un h=>exact h.inst I
 | bare h=>
  let#[o,l,c,b,f,g]:=PN I h;exact#[o,O,#[c,b,by unfold notCls;rw[g],by rw[f];trivial],λname=>#[O,Z,by trivial]]
 | @full d _ h j p=>
  let#[o,l,c,b,f,g]:=PN I h;let#[#[_,m,k,n,_],_]:=I.hok d _ j;let#[od,a,i]:=KB k;calc#[o,U od,#[c,b,by unfold notCls;rw[g],by rw[f];calc a],λname=>#[m name,i name,n name]]
def ZrG (I:uB X BO σ H s)(x:mU H e C fs)(c:Xc X.K C)(n:kE X.K C f)(l:fs.lookup f=U v)(h:∀u s',uB X BO σ H s'->kP v u->Q u s'):bR (bJ X.prog X.w) A (getAttr (.ref e) f b) Q E s:=by
 let#[m,k,j,i]:=x.inst I;let#[r,a,g]:=i f;rw[l]at g;let#[u,Z,d]:=l0.some_of g;calc Zjg I.kIn j c ?_ (Ps d) (h u _ (I.tok _) d);cases k with
 | none=>cases a
 | some o=>calc findObj_own c.hd n Z a
end
def Ol (K:Frag)(b:TE)(f:Str):TE:=λσ H Q=>b σ H λx a=>∃e C fs v,x=.ref e/\mU a e C fs/\Xc K C/\kE K C f/\fs.lookup f=U v/\Q v a
def CY {X:Cx}{K:Frag}{e:Expr}{f:Str}{b:Pos}{d:TE}(w:X.K=K)(o:PE X e d)(i:attributeBase e f X.env (eval e X.env)=eval e X.env):PE X (.Attribute e f b) (Ol K d f):=by subst w;intro p s σ H Q I h;calc RW i (uW (o p s σ H _ I h) λu E r=>?_);let#[x,m,j,z,a,C,D,v,t,k,c,n,l,q]:=r;subst t;obtain rfl:u=dy a:=z;calc ZrG j k c n l λB A y g=>#[v,m,y,g,q]
inductive KG (K:Frag)(H:Hp):V->bU->Prop where
 | ty {x:V} {t:bU} (h:B2 K H x t):KG K H x t
 | exc {e C:AD} {fs:List (Str×V)} (x:mU H e C fs) (i:Xi K C):KG K H (.ref e) (.ref C)
def yh {X:Cx}{K:Frag}(w:X.K=K):xU X (.builtin "isinstance") (λxs H Q=>∃x c t k b,xs=[x,c]/\clsV c=U k/\KG K H x t/\kitOne K t k=U b/\Q (.bl b) H):=by
 subst w;rintro o s σ H xs l Q I r ⟨x,c,t,k,b,rfl,d,ty,e,q⟩;cases ty with
 | ty h=>exact Zin o s σ H _ l Q I r #[x,c,t,k,b,Z,d,h,e,q]
 | exc y i=>
  let#[u,v,Z,g,f]:=r.two;let m:v=k:=by
   cases c with
   | ref a=>cases d;exact f
   | ty n=>cases d;exact f
   | _=>cases d
  subst m;cases g;let#[A,C,p,_]:=y.inst I;calc xF (zj (Oi i) I.kIn p e (λz=>nomatch z) λB j=>#[.bl b,H,I.tok _ j,Z,q])
def M9 {K:Frag}{C D:AD}{a f:AC}{b:Bool}(c:lA K C a)(d:lA K D f)(i:f.contains (.type "BaseException")=Y)(h:a.contains (.ref D)=b):exmOne K (.ref C) (.ref D)=U b:=by
 let#[n,l,m]:=c.cd;let#[k,e,g]:=d.cd;let j:PySem.W.subIn K (.ref D) (.type "BaseException")=U Y:=by unfold PySem.W.subIn mroIn;dsimp only;rw[e,D8,g,d.ne,i];rfl
 unfold exmOne;rw[uM (by rw[j];rfl)];unfold PySem.W.kitCls;dsimp only;rw[e,d.ty];simp only[Option.isSome_some,BZ,beq_self_eq_true,if_true];unfold PySem.W.subIn mroIn;dsimp only;rw[l,D8,m,c.ne,h];rfl
open PySem.W (Frag)
theorem kX.there {P:AG}{w:AI}{H:Hp}{h:Heap}{a:AD}:∀ {o:HO},kX P w H h a o->∃u,h.get? a=U u
 | .lst _,x=>by let#[_,_,_,_,e]:=x;exact#[_,e]
 | .tup _,x=>by let#[_,_,_,b,e,_]:=x;exact#[_,e]
 | .dK _,x=>by let#[_,_,_,_,b,_,_,e,_]:=x;exact#[_,e]
 | .dT _,x=>by let#[_,_,_,_,b,_,_,e,_]:=x;exact#[_,e]
 | .set _ _,x=>by let#[b,_,_,_,e,_]:=x;exact#[_,e]
 | .ins _ _ _,x=>by let#[_,_,_,e,_]:=x;exact#[_,e]
 | .own _,x=>x
 | .xd _,x=>by let#[_,#[b,_,_,e,_],_]:=x;exact#[_,e]
 | .met _ _,x=>#[_,x]
 | .rng _ _,x=>by let#[_,_,_,e]:=x;exact#[_,e]
 | .frz _ _,x=>#[_,x.1]
 | .tbl _,x=>#[_,x]
 | .gho _,x=>x
 | .ext _,x=>x.2.1
def wD.none_of (c:wD P w H h)(n:h.get? a=O):H a=O:=by
 cases q:H a with
 | none=>rfl
 | some o=>
  let#[u,b]:=(c a o q).there;rw[n]at b;cases b
def uB.laid2 (I:uB X BO σ H s)(j:s'.os=s.os)(m:s'.gens=s.gens)(k:∀b u,s.heap.get? b=U u->s'.heap.get? b=U u)(g:s.heap.get? a=O)
  (f:kX X.prog X.w (upd H a o) s'.heap a o) (le:autoParam (s.toks<=s'.toks) Xz._auto_1) (no:autoParam (∀k,o≠.gho k) Xv._auto_1):uB X BO σ (upd H a o) s':=by
 let h:=I.hok.none_of g;let l:∀b u,s.heap.get? b=U u->b≠a:=λb u q z=>by rw[z,g]at q;cases q
 let d:∀b u,H b=U u->b≠a:=λb u q=>vp q h;refine I.call' (ch:=[]) j #[λb u q _ _ _=>k b u q,λb u q _ _ _=>#[u.slots,k b u q],λb u q n _=>by rw[uF (l b u q)];calc n,λb u q _=>#[u,k b u q],λb p q=>by rw[uF (d b _ q)];calc q,λb u v q=>by rw[uF (d b _ q)];calc q,λb r q=>#[↑[],by rw[uF (d b _ q),Array.append_empty];calc q]]
  (λb u q=>?_) (by rw[m];calc I.bare) (λb e=>by cases e) (I.gh.upd no le)
 by_cases e:b=a
 .subst e;rw[uN]at q;cases q;exact f
 .rw[uF e]at q;calc(I.hok b u q).stay (λc i _ q=>k c i q) (λc q=>by rw[uF (d c _ q)];calc q) λc p q=>by rw[uF (d c _ q)];calc q
section
noncomputable def kZ (l:uz):uG:=l.map λc=>[c]
def Zh9 (h:ItemsOf (SignAt #[↑l]) acc (#[↑l]:Str).cps.size):kJ ((kZ l).map tx) acc.toList:=by
 let#[d,f]:=h;let a:(#[↑l]:Str).cps.size=⇑l:=by show l.toArray.size=_;simp
 rw[a]at d;let b:∀(l:uz)(us:AC),⇑us=⇑l->(∀(j:Nat)(v:bU),us[j]?=U v->∃(c:Nat)(u:Tok),l[j]?=U c/\v=ek #[↑[c]] u)->kJ ((kZ l).map tx) us:=by
  intro l;induction l with
  | nil=>
   intro us a _;have:us=[]:=LD a;subst this;exact .nil
  | cons c l i=>
   intro us a h;cases us with
   | nil=>cases a
   | cons u us=>
    let#[m,t,e,Z]:=h 0 u Z;cases e;refine .cons #[t,Z] (i us (~~~a) λj v e=>h (j+1) v e)
 calc b l acc.toList (by rw[yq,d]) λj v e=>?_;rw[Eh]at e;let#[c,u,g,k]:=f j v e;calc#[c,u,~~~g,k]
def JF (h:X.calm=Y):xU X (.type "list") (λxs H Q=>∃l,xs=[tx l]/\⇑l<=1000/\kU ((kZ l).map tx) H Q):=by
 rintro n s σ H xs m Q I r ⟨l,rfl,b,q⟩;let#[u,Z,t,Z]:=r.one;let d:(#[↑l]:Str).cps.size=⇑l:=by show l.toArray.size=_;simp
 calc xF (call_list_str (I.ok.hd h) _ t (λi f a c k e g=>?_) (by rw[d];calc DN (Kk b)));intro j;calc#[.ref ↥s,_,I.laid (t':=f) k (uV _) ?_,Z,q _ I.fresh];calc#[by unfold kZ;rw[uO,uO];calc DN (Kk b),a.toList,c,Zh9 g,by rw[Hg];calc e]
def Qo (G:X.calm=Y):xU X (.builtin "all") (λxs H Q=>∃(a:AD)(d:List Bool),xs=[.ref a]/\H a=U (.lst (d.map V.bl))/\Q (.bl (d.all id)) H):=by
 rintro F s σ H xs T Q I r ⟨a,d,rfl,N,q⟩;let#[u,Z,D]:=r.one;cases D;let#[_,c,n,p,S,e]:=I.lstM N;let t:s.heap.IsList a ↑c:=GO e;let m:a≠↥s:=wk (vq e);calc call_all_walkS (FO t ?_);let y:c.toArray.size=⇑d:=by rw[wC,<-⇑p,uO]
 let W:=(Walks.list (prog:=X.prog) (w:=X.w) (A:=X.A.in1) (~~~I.ok.hd G) ↥s a m ↑c).toS;refine#[↥s,_,_,_,_,_,_,λi=>d.getD i Y,Z,W,#[#[_,wB _ Z,Z,Z],t.push _],?_,λs' k=>?_]
 .intro i v s Q E B K;let M:c[i]?=U v:=by simpa using B
  let#[x,j,P]:=Lg p M;rw[wI]at j;cases f:d[i]? with
  | none=>rw[f]at j;cases j
  | some b=>
   rw[f]at j;cases j;obtain rfl:v=Value.bool b:=P;have:d.getD i Y=b:=by rw[wj,f];rfl
   let l:Q (d.getD i Y) s:=K;rw[this]at l;exact Da l
 .let L:(cc c.toArray.size).all (λi=>d.getD i Y)=d.all id:=by
   rw[y];rw[zo,xT,xT];constructor
   .intro h b f;let#[i,g,Z]:=yK f;have:=h i (xM.mpr g);rw[wj,vK g]at this;exact this
   .intro h i g;let g:=xM.mp g;rw[wj,vK g];exact h _ (Dl g)
  rw[L];let C:uB X F σ H s':=I.call' (ch:=[]) k.os (Un.kept λb o q=>k.heap b o (λz=>?_) (vy _ q)) (I.hok.kept λb o q=>k.heap b o (λz=>?_) (vy _ q)) (by rw[show s'.gens=s.gens from k.gens];calc I.bare) (λb f=>by cases f) (I.gh.le k.toks)
  .exact#[.bl _,H,C,Z,q]
  .let z:b=↥s:=by simpa using z
   rw[z]at q;exact Sa (vq q) (xB _)
  .let z:b=↥s:=by simpa using z
   rw[z]at q;calc Sa (vq q) (xB _)
noncomputable def rQ (P:AG)(w:AI)(a:AD)(ls:uG):HO:=.ext λh=>lR P w h a ls (!xg w)
def ZnV (x:lR P w h a ls (!xg w)):kX P w H h a (rQ P w a ls):=by let#[o,f,c,t,e,b,r]:=id x;calc#[x,#[o,b],λg d y k=>y.keep k]
def xH (ls:uG):uG:=ls.foldl mI []
def HY:dd (λi=>ls.getD i []) ⇑ls=xH ls:=by
 unfold dd xH;congr 1;apply z5
 .simp
 .intro n b a;simp[a]
def JA (g:X.calm=Y):xU X (.type "set") (λxs H Q=>∃ls:uG,⇑ls<=1000/\((∃l,xs=[tx l]/\ls=kZ l)\/∃a,xs=[.ref a]/\vO X.K H a (ls.map tx))/\∀p,H p=O->Q (.ref p) (upd H p (rQ X.prog X.w p (xH ls)))):=by
 rintro A s σ H xs C Q I r ⟨ls,E,x,q⟩;let f:⇑ls+1<scanBound:=by show _<4096;nofun
 let d:∀(h':Heap)(tk:Nat),s.toks<=tk->lR X.prog X.w h' ↥s (xH ls) (!xg X.w)->(∀b o,s.heap.get? b=U o->h'.get? b=U o)->EP X A σ Q (.ref ↥s) { s with heap:=h',toks:=tk }:=λh' tk e c k=>
  #[.ref ↥s,_,I.laid (t':=tk) k (uV _) (ZnV c),Z,q _ I.fresh]
 rcases x with⟨l,rfl,rfl⟩|⟨a,rfl,B⟩
 .obtain⟨u,rfl,t,rfl⟩:=r.one;let j:⇑(kZ l)=⇑l:=by unfold kZ;rw[uO]
  let y:dd (λi=>[l.getD i 0]) ⇑l=xH (kZ l):=by
   unfold dd xH kZ;congr 1;apply z5
   .simp
   .intro n D z;have:n<⇑l:=by simpa using z
    simp[this]
  calc xF (N5 (I.ok.hd g) (ZhI (prog:=X.prog) (w:=X.w) (s:=s) (l:=l) (t:=t)) F.sub_str_set F.sub_str_frozenset ⋯ (by rw[<-j];calc f) λh' tk c k _=>?_);intro e;rw[y]at c;exact d h' tk e c k
 .obtain⟨u,rfl,h⟩:=r.one;cases h;let#[v,m,p,_]:=I.list B;calc xF (N5 (I.ok.hd g) (ZhJ (prog:=X.prog) (w:=X.w) (s:=s) p.isList m) F.sub_list_set F.sub_list_frozenset ⋯ f λh' tk c k _=>?_);intro e;rw[HY]at c;calc d h' tk e c k
def JD (p:X.calm=Y):xU X (.builtin "sorted") (λxs H Q=>∃a ls,xs=[.ref a]/\H a=U (rQ X.prog X.w a ls)/\⇑ls<64/\kU ((xx ls).map tx) H Q):=by
 rintro w s σ H xs f Q I r ⟨a,ls,rfl,i,c,q⟩;let#[u,Z,g]:=r.one;cases g;let t:lR X.prog X.w s.heap a ls (!xg X.w):=(I.hok a _ i).1;calc xF (Zjl (I.ok.hd p) t c λx b f e d k n m j l=>?_);intro v;let h:⇑(xx ls)<=sizeLine:=by rw[(Bq ls).length_eq];exact u8 (DN c) (by rw[bA];decide)
 calc#[.ref b,_,I.laid2 (o:=.lst ((xx ls).map tx)) m n k d #[by rw[uO];calc h,f,e,l,j],Z,q b (I.hok.none_of d)]
end
def uE (h:‹x=#[↑l]›):PE X (.Constant (.str x) j pos) (tC (tx l)):=by subst h;calc Zqm
def DX (c:Gl X x)(b:∃t,X.mg x=U (.str y t))(a:autoParam ((x == ("__debug__":Str))=J) Xw._auto_1):PE X (.Name x pos) (tC (.str y)):=by let#[t,h]:=b;calc yr c h #[t,Z] a
def Bb (c:Gl X x)(b:∃t,X.mg x=U (.int y t))(a:autoParam ((x == ("__debug__":Str))=J) Xw._auto_1):PE X (.Name x pos) (tC (.int y)):=by let#[t,h]:=b;calc yr c h #[t,Z] a
section
variable {CX:zT}{P:AG}{w:AI}{K:uH}{mg:AB}{base:Heap}{N:AJ}{qual:Str}{scope:Scope}{f:AD}{cd:bU}{A:AH}{outer:List Env}{s:AE}{H:Hp}{E:XK}{X:Cx}{e:AD}
def cxPr:(mv CX P w K mg base N qual scope f cd A outer s H E).prog=P:=rfl
def cxWo:(mv CX P w K mg base N qual scope f cd A outer s H E).w=w:=rfl
def suxK:(sux X e).K=X.K:=rfl
def ZrM:(sux X e).prog=X.prog:=rfl
def ZrL:(sux X e).w=X.w:=rfl
end
open PySem.W (Frag KeqHits)
section
end
open PySem.W (Frag)
def vB {P:AG}{w:AI}{K:Frag}{W:AB}{i:Heap}{N:AJ}{c:Str}{a:Scope}{f:AD}{j:bU}{A:AH}{outer:List Env}{s0:AE}{H0:Hp}{E:XK}:
  zH (vt P w) (mv (vt P w) P w K W i N c a f j A outer s0 H0 E) E:=by
 intro BO σ H s p s' I T;generalize hX:mv (vt P w) P w K W i N c a f j A outer s0 H0 E=X at I T ⊢;let eA:X.A=A.deeper (envOfC c a ↥s0 f j):=by rw[<-hX];rfl
 let M:X.stack=envOfC c a ↥s0 f j::outer:=by rw[<-hX];rfl
 let Q:X.fs=wO outer:=by rw[<-hX];rfl
 let L:X.s_0=s0:=by rw[<-hX];rfl
 let eH:X.H_0=H0:=by rw[<-hX];rfl
 let V:X.ex=[]:=by rw[<-hX];rfl
 let F:X.prog=P:=by rw[<-hX];rfl
 let eW:X.w=w:=by rw[<-hX];rfl
 let y:∀p s',bR (bJ P w) (A.deeper (envOfC c a ↥s0 f j)) (leaving (envOfC c a ↥s0 f j) p) (λ_ l=>vt P w outer H0 s0 E p l) (λe' l=>vt P w outer H0 s0 E e' l) s'->X.xe p s':=by intro p s' z;rw[<-hX];exact z
 let#[e,C,d,D,h1,B,Z,m,g,un,t,he,h,S,up,hE]:=T;calc y _ _ ?_;let u:(A.deeper (envOfC c a ↥s0 f j)).frames=U (envOfC c a ↥s0 f j::outer):=by rw[<-eA,<-M];exact I.ok.frames
 let J_:uB X BO σ D { s' with heap:=h1 }:=I.call' (s':={ s' with heap:=h1 }) (ch:=[]) m un (by rw[F,eW];calc t.1) g (λb r=>by cases r) t.2;rw[M]at S;calc ZjC u Z S λh' v x=>?_;let os:s'.os=s0.os:=by rw[m,<-L];exact I.os
 let G:Un (wO outer) [] H0 D s0.heap h1:=by
  have:=J_.base
  rwa [Q,V,eH,L]at this
 calc#[e,C,d,D,h1,B,Z,os,g,G,t,he,λb o r q hc=>?_,v,up.trans x,hE];rcases hc with hu | ⟨⟨o',k⟩,hn⟩
 .exact h b o r q (.inl hu)
 .refine h b o r q (.inr #[?_,λz=>?_])
  .have:=I.base;rw[Q,V,eH,L]at this;exact this.there b o' k {}
  .rw[M]at z;let n:b=↥s0\/b∈wO outer:=by have:=z;unfold wO at this;rw[List.filterMap_cons]at this;simpa [envOfC,wO] using this
   rcases n with n | n
   .rw[n]at k;exact Sa (vq k) (xB _)
   .exact hn n
section
end
section
end
section
end
section
end
section
noncomputable def N6 (l m:uz):Bool:=R (⇑m<=⇑l)&&R (l.drop (⇑l-⇑m)=m)
noncomputable def li (l:uz)(n:Int):uz:=(cw n.toNat l).flatten
theorem Nj (a:Array Nat):∀(n:Nat)(b:Array Nat),((cw n a).foldl (·++·) b).toList=b.toList++(cw n a.toList).flatten
 | 0,b=>by simp
 | n+1,b=>by rw[Bj,D9,Nj a n,Bj];simp
def ZqS (l:uz)(n:Int):Txt.mul #[↑l] n=#[↑(li l n)]:=by
 unfold Txt.mul li;by_cases a:n<1
 .rw[uM a];have:n.toNat=0:=by nofun
  rw[this];rfl
 .rw[uI a];split
  .rename_i h
   rw[Bool.or_eq_true]at h;rcases h with h | h
   .have:n=1:=by simpa using h
    subst this;simp
   .have:l=[]:=by have:=beq_iff_eq.mp h;rw[xK]at this;exact Cq.mp this
    subst this;simp
  .congr 1;apply Array.ext';rw[Nj];simp
def DH:wG X (binaryOp .Mult) (λx y H Q=>∃l n,x=tx l/\y=.int n/\0<=n/\n<=1000/\⇑l<=1000/\Q (tx (li l n)) H):=by
 rintro j s σ H x y v u Q I g f ⟨l,n,rfl,rfl,p,i,e,q⟩;let#[t,Z]:=g;let#[m,Z]:=f;let c:⇑(#[↑l]:Str)=⇑l:=xK l;refine xF (SB.mul #[?_,λa b=>?_,λa b=>?_] λh k=>?_)
 .simp only[Bool.or_eq_false_iff,R8];nofun
 .rw[c];let o:(1000:Int)<=(2 ^ 63-1)/n:=by
   rw[Int.le_ediv_iff_mul_le ∅]
   nofun
  nofun
 .rw[c];have:⇑l*n.toNat<=1000*1000:=CJ e ∅;unfold Builtin.Str.tooLong;simp only[R8];rw[bA]
  nofun
 .rw[ZqS];calc λd=>#[tx _,H,I.tok _ d,#[_,Z],q]
end
open PySem.W (Frag)
def Gx {X:Cx}{K:Frag}{T id:String}{name:Str}{o e:Expr}{es:List Expr}{i:TE}{t:TA}{j g:Pos}{r:V->Se->Hp->VK->Prop}(p:X.K=K)(m:PlainAttrs T)(f:Slot T name id)(h:typeOf (.builtin id)=pure (.type "method_descriptor"))(n:K4 X id r)(q:PE X o i)(k:PA X (e::es) t)
  (b:‹attributeBase o name X.env (eval o X.env)=eval o X.env›)
  (d:autoParam (((iw g (bD (e::es) X.env)).all (λx=>!x.1)&&(backToKw g (keywordEach [] X.env)).all (λx=>x.1.isSome)&&R (⇑(e::es)+⇑([]:List Keyword)+(if ([]:List Keyword).isEmpty then 0 else 1)<30))=Y) Xq._auto_1)
  (c:‹(j.endLine == g.line)=Y›) (l:‹bD (e::es) X.env=(J,eval e X.env)::bD es X.env›) (a:‹(iw g (bD es X.env)).any (·.1)=J›):PE X (.Call (.Attribute o name j) (e::es) [] g) (KD K T r i t):=by
 subst p;calc yu m f h n q k b d c l a
noncomputable def No (w:uz)(e z:Nat):uz:=(w.drop (e-z)).take z
def Pr (d:e<=⇑w):N6 (w.take e) m=Y↔⇑m<=e/\No w e ⇑m=m:=by
 unfold N6 No;let c:⇑(w.take e)=e:=by rw[xw];nofun
 rw[vW,R4,R4,c];constructor
 .rintro⟨b,a⟩;calc#[b,?_];rw[List.drop_take]at a;have:e-(e-⇑m)=⇑m:=by nofun
  rw[this]at a;exact a
 .rintro⟨b,a⟩;calc#[b,?_];rw[List.drop_take];have:e-(e-⇑m)=⇑m:=by nofun
  rw[this];calc a
def PP:TS:=λ_ _ _=>False
def wV {X:Cx}{st:Stmt}:PS X st PP:=λ_ _ _ _ _ _ h=>h.elim
section
def Mq (hg:Gl X x)(hm:X.mg x=U (.ref L))(cr:mf X.K L "__init__" (.ref f))(F:kz X.prog X.w X.K X.mg X.base CX k f fd ps sp)(hr:lI k X.A)(hk:keepIn X.K (.ref f)=Y)(hb:lD X.K fd ps ds)(hd:kJ BX ds)(hx:zH CX X E)
  (ha:PA X (e::es) t) (hdb:autoParam ((x == ("__debug__":Str))=J) Xw._auto_1) (hst:‹bD (e::es) X.env=(J,eval e X.env)::bD es X.env›) (hpl:‹(iw pos (bD es X.env)).any (·.1)=J›)
  (ht:autoParam (eval (.Call (.Attribute (.Name x np) "__init__" BT) (e::es) [] pos) X.env=(do
   let ov <-eval (.Name x np) X.env
   standAt BT.atName
   let (f,first) <-holding [ov] (getMethod ov "__init__" pl)
   callWith pos f first (iw pos (bD (e::es) X.env)) (backToKw pos (keywordEach [] X.env)))) Xq._auto_1):PE X (.Call (.Attribute (.Name x np) "__init__" BT) (e::es) [] pos) (Hf sp BX E t):=by
 intro BO s σ H Q I h;calc FZ (pl:=pl) (B5 I hg hm ?_ hdb) ht;calc method_cls I.kIn cr.sp (cls_value I.kIn cr.rd cr.fd cr.hn ?_);calc CH (first:=[]) (h₀:=X.base) I.ok.mod.kin hk (uW (ha pos BO _ σ H _ (I.tok _) h) λus s1 ⟨vs,H1,I1,r,q⟩=>#[I1.kIn,?_]) hst hpl;calc GP F hr hb hd hx I1 r q
end
def mJ (c:TT)(tb:TS)(D:mM)(σ:St)(H:Hp):Prop:=Li c tb D σ H
def Zor:Li c tb D σ H=mJ c tb D σ H:=rfl
def mJ.by (d:St->Hp->Prop)(μ:St->Hp->Nat)(i:d σ H)
  (f:∀σ H,d σ H->∃b:Bool,(∀Q:Bool->Hp->Prop,(∀a,ky H a->Q b a)->c σ H Q)/\∀a,ky H a->if b=Y then tb { D with nx:=λσ' H'=>d σ' H'/\μ σ' H'<μ σ H,ct:=λσ' H'=>d σ' H'/\μ σ' H'<μ σ H,bk:=D.nx } σ a else D.nx σ a):mJ c tb D σ H:=by
 calc#[λm σ H=>m=μ σ H/\d σ H,#[_,Z,i],?_];rintro m σ H ⟨rfl,p⟩;let#[b,g,e]:=f σ H p;calc g _ λa j=>?_;let q:=e a j;cases b with
 | true=>exact#[_,λσ' H' ⟨h,l⟩=>#[_,l,Z,h],q]
 | false=>calc q
section
def Qq (C:AD)(m:Str)(sp:Sp)(c:Se)(f:TE)(t:TA):TX:=λσ H Q E=>f σ H λx b=>∃a g fs,x=.ref a/\b a=U (.ins C g fs)/\fs.lookup m=O/\t σ b λd e=>sp (x::(d++c)) e Q E
def Zmc (he:PE X.nox o ta)(c:yH X.K C)(hm:lU X.K C m f)(F:kz X.prog X.w X.K X.mg X.base (vt X.prog X.w) k f fd ps sp)(hr:lI k X.A)(hb:lD X.K fd ps ds)(hd:kJ BX ds)(ha:PA X.nox (e::es) t)
  (hst:‹bD (e::es) X.env=(J,eval e X.env)::bD es X.env›) (hpl:‹(iw pos (bD es X.env)).any (·.1)=J›)
  (ht:autoParam (eval (.Call (.Attribute o m BT) (e::es) [] pos) X.env=(do
   let ov <-eval o X.env
   standAt BT.atName
   let (f,first) <-holding [ov] (getMethod ov m pl)
   callWith pos f first (iw pos (bD (e::es) X.env)) (backToKw pos (keywordEach [] X.env)))) Xq._auto_1):JW X (.Call (.Attribute o m BT) (e::es) [] pos) (Qq C m sp BX ta t):=by
 intro BO s σ H Q E I h;calc FZ (pl:=pl) (xq (he BO s σ H _ (I.wish _) h) (λu s1 ⟨y,H1,I1,rx,a,dx,fs,ex,ea,l,q⟩=>?_) λ_ _ z=>ff z) ht;subst ex;obtain rfl:u=dy a:=rx;calc Lj I1.unwish ea c hm l ?_;calc CH (first:=[.ref a]) (h₀:=X.base) I.ok.mod.kin hm.kp (xq (ha pos BO s1 σ H1 _ I1 q) (λus s2 ⟨vs,H2,I2,r,q2⟩=>#[I2.kIn,?_]) λ_ _ z=>ff z) hst hpl;calc Zoq (us:=.ref a::us) (vs:=.ref a::vs) F hr hb hd I2.unwish (.cons Z r) q2
def P2 (C:AD)(sp:Sp)(c:Se)(t:TA):TX:=λσ H Q E=>t σ H λd b=>∀x a,b x=O->b a=O->a≠x->sp (.ref x::(d++c)) (upd (upd b a (.own x)) x (.ins C a [])) (λv e=>v=.non/\Q (.ref x) e) E
def Zkx (M:Mk X.K C f)(F:kz X.prog X.w X.K X.mg X.base (vt X.prog X.w) k f fd ps sp)(o:lI (k+1) X.A)(m:lD X.K fd ps ds)(t:kJ BX ds)(I:uB X BO σ H s)(r:kJ vs us)
  (h:∀x c,H x=O->H c=O->c≠x->sp (.ref x::(vs++BX)) (upd (upd H c (.own x)) x (.ins C c [])) (λv a=>v=.non/\Q (.ref x) a) E):
  bR (bJ X.prog X.w) X.A (call (.ref C) us) (EP X BO σ Q) (λev s'=>∃a d,uB X BO σ a d/\vt X.prog X.w X.stack a d E ev s') s:=by
 let g:=h (↥s+1) ↥s (I.hok.fresh (xu _)) (I.hok.fresh (uV _)) (wk (Nat.lt_succ_self _));let b:=uB.made (C:=C) I;let e:kJ (V.ref (↥s+1)::(vs++BX)) (dy (↥s+1)::(us++ds)):=.cons Z (r.append t);let i:⇑(dy (↥s+1)::us++ds)=⇑ps:=by let z:=⇑e;rw[F.len _ _ _ _ g]at z;exact z.symm
 calc zN (M4 (f:=f) I.kIn M.makes M.init (beq_iff_eq.mp M.fn) (codeAny_mono (F.run _ X.stack _ _ #[dy (↥s+1)::us,[]] (dy (↥s+1)::(us++ds)) _ _ E (o.make C us []) (b.env0.make C us []) (m _ (dy (↥s+1)::us) b.kIn i) e g) λp s' z=>?_));cases p with
 | error ev=>exact#[_,_,b,z]
 | ok n=>
  cases n with
  | ret u=>
   let#[v,j,q,l,ev,w]:=b.after z;subst ev;exact#[l,#[V.ref (↥s+1),j,q,Z,w]]
  | next=>exact ff z
  | brk=>exact ff z
  | cont=>calc ff z
def Zmd (M:Mk X.K C f)(F:kz X.prog X.w X.K X.mg X.base (vt X.prog X.w) k f fd ps sp)(i:lI (k+1) X.A)(m:Gl X x)(n:X.mg x=U (.ref C))(g:lD X.K fd ps ds)(o:kJ BX ds)(d:PA X.nox (e::es) t)
  (b:autoParam ((x == ("__debug__":Str))=J) Xw._auto_1) (j:‹bD (e::es) X.env=(J,eval e X.env)::bD es X.env›) (a:‹(iw pos (bD es X.env)).any (·.1)=J›):JW X (.Call (.Name x p) (e::es) [] pos) (P2 C sp BX t):=by
 intro l s σ H Q E I h;calc B9 (B5 I m n ?_ b);calc CH (h₀:=X.base) I.ok.mod.kin M.kp (xq (d pos l s σ H _ (I.wish _) h) (λu y ⟨v,w,c,r,q⟩=>#[c.kIn,?_]) λ_ _ z=>ff z) j a;calc Zkx M F i g o c.unwish r q
end
def EN:XK:=λ_ _ _=>False
def EM:zH (vt X.prog X.w) X EN:=by intro _ _ _ _ _ _ _ h;let#[_,_,_,_,_,_,_,_,_,_,_,_,_,_,_,z]:=h;calc z.elim
section
end
section
def KC:HO->Prop
 | .tup _=>False
 | .tbl _=>False
 | .own _=>False
 | _=>True
def uB.shiftG (I:uB X BO σ H s)(f:H a=U u)(h:KC u)(y:∀o v,X.H_0 a≠U (.frz o v))(i:kX X.prog X.w (upd H a u') s.heap a u')(j:GH (upd H a u') s.toks):uB X BO σ (upd H a u') s:=by
 let g:∀b,H b=O->b≠a:=λb n z=>by rw[z,f]at n;cases n
 refine#[I.ok,I.os,I.bare,#[I.base.keep,I.base.slot,λb o e n A=>?_,I.base.there,λb l e=>?_,λb o v e=>?_,λb B e=>?_],I.loc,I.cell,?_,λx c e=>?_,λp w=>?_,λb t e=>?_,I.len,j]
 .have:=I.base.free b o e n A;rw[uF (g b this)];exact this
 .have:=I.base.tups b l e;let d:b≠a:=λz=>by rw[z,f]at this;cases this;exact h
  rw[uF d];exact this
 .let d:b≠a:=λz=>y o v (by rw[<-z];calc e);rw[uF d];exact I.base.frzs b o v e
 .obtain⟨m,q⟩:=I.base.tbls b B e;let d:b≠a:=λz=>by rw[z,f]at q;cases q;exact h
  exact#[m,by rw[uF d];calc q]
 .rw[uF (g _ I.free)];exact I.free
 .rw[uF (g _ (I.freeC x c e))];exact I.freeC x c e
 .obtain⟨e,n,r⟩:=I.pin p w;exact#[e,by rw[uF (g _ n)];calc n,r]
 .by_cases k:b=a
  .subst k;rw[uN]at e;cases e;exact i
  .rw[uF k]at e;refine(I.hok b t e).stay (λ_ _ _ q=>q) (λc q=>?_) λc l q=>?_
   .let d:c≠a:=λz=>by rw[z,f]at q;cases q;exact h
    rw[uF d];exact q
   .let d:c≠a:=λz=>by rw[z,f]at q;cases q;exact h
    rw[uF d];calc q
def uB.shift (I:uB X BO σ H s)(c:H a=U u)(e:KC u)(d:∀o v,X.H_0 a≠U (.frz o v))(b:kX X.prog X.w (upd H a u') s.heap a u')(no:autoParam (∀k,u'≠.gho k) Xv._auto_1):uB X BO σ (upd H a u') s:=I.shiftG c e d b (I.gh.upd no (uV _))
def uB.notFrz (I:uB X BO σ H s)(b:H a=U u)(c:∀o v,u≠.frz o v):∀o v,X.H_0 a≠U (.frz o v):=λo v e=>by have:=I.base.frzs a o v e;rw[b]at this;calc c o v (cx this)
def uB.freezeD (I:uB X BO σ H s)(d:H a=U (.dK kvs)):∃o es b,o.data=.dict es b/\s.heap.get? a=U o/\uB X BO σ (upd H a (.frz o (.dK kvs))) s:=by let#[z,y,g,r,f,es,b,e,c]:=I.hok a _ d;calc#[f,es,b,c.2.1,e,I.shift d trivial (I.notFrz d λo v q=>by cases q) #[e,z,y,g,r,f,es,b,e,c]]
def uB.thawD (I:uB X BO σ H s)(b:H a=U (.frz o (.dK kvs)))(f:∀o v,X.H_0 a≠U (.frz o v)):uB X BO σ (upd H a (.dK kvs)) s:=by let#[e,z,y,d,r,c]:=I.hok a _ b;calc I.shift b trivial f #[z,y,d,r,c]
end
def Jy (h:(wb P w).is k u=Y):kP (kV k) u:=by
 cases k with
 | inl i=>
  let a:(intKind P w).is i u=Y:=h;cases u<;>first | (calc Sa a vC) | skip
  rename_i j t
  let e:(i == j)=Y\/(j == i)=Y:=by first | exact .inl a | exact .inr a
  rcases e with e | e
  .exact#[t,by rw[beq_iff_eq.mp e]]
  .exact#[t,by rw[beq_iff_eq.mp e]]
 | inr x=>
  let a:(strKind P w).is x u=Y:=h;cases u<;>first | (calc Sa a vC) | skip
  rename_i j t
  let e:(x == j)=Y\/(j == x)=Y:=by first | exact .inl a | exact .inr a
  rcases e with e | e
  .exact#[t,by rw[beq_iff_eq.mp e]]
  .exact#[t,by rw[beq_iff_eq.mp e]]
def Hx (o:Obj)(kvs:List (uQ×V))(a:AD):It:=
 #[λi H=>H a=U (.frz o (.dK kvs))/\i<⇑kvs,λi H x b=>b=H/\∃p,kvs[i]?=U p/\x=kV p.1,λi H=>H a=U (.frz o (.dK kvs))/\⇑kvs<=i]
def KV.getK (r:KV kvs vs):∀ {i:Nat} {p:uQ×V},kvs[i]?=U p->∃v,vs[i]?=U (p.1,v):=by
 intro i p h;let d:=r.keys;let c:=⇑r;let b:i<⇑vs:=by rw[<-c];exact(vT.mp h).1
 let a:(kvs.map (·.1))[i]?=U p.1:=by rw[wI,h];rfl
 rw[d,wI,vK b]at a;calc#[vs[i].2,?_];rw[vK b];have:vs[i].1=p.1:=cx a;rw[<-this]
def Zj7 {P:AG}{w:AI}{K:uH}{tg:Expr}{o:Obj}{es:Array DictEntry}{ep:Nat}{kvs:List (uQ×V)}(a it:AD)(t:o.data=.dict es ep):o5 P w K tg (Hx o kvs a) [it] it (λi h=>h.IsKeyIter it a i ⇑kvs ep) where
 mem:=by simp
 obj:=λi h f b j=>by
  let e:b=it:=by simpa using j
  subst e;let#[o,e,c,d]:=f;exact#[o,e,λv z=>by rw[d]at z;cases z]
 keep:=λi h p f k=>let ⟨o,ho,r⟩:=f;#[o,k it {} o ho,r]
 item:=by intro X T F M hc i BO s σ H E I q f x;subst T F M;let#[N,m]:=x;let#[e,z,y,vs,r,o',G,S,n,D,l,C]:=I.hok a _ N;rw[e]at n;cases n;rw[t]at l;cases l;let#[v,hv]:=r.getK (vK m);let#[u,B,f2,L,Q,W]:=q it {};rw[⇑r]at f;calc wpAny_pyNext_dict_item f #[o,es,e,D,t,C] hv λA p hk g sb=>?_;let I1:uB X BO σ H { s with heap:=p }:=I.turned (t':=s.toks) (λb o j e=>(sb.2 b j).trans e) u B L Q W;let#[oi,ei,ci,di]:=id g;rw[<-⇑r]at g;exact#[A,Z,GQ (s:={ s with heap:=p }) ei ci di ⋯ #[kV kvs[i].1,H,I1,Jy hk,#[Z,_,vK m,Z],g,λb j=>(q b j).1]]
 done:=by intro X T F M hc i BO s σ H E I q f x;subst T F M;let#[N,m]:=x;let#[e,z,y,vs,r,o',G,S,n,D,l,C]:=I.hok a _ N;rw[e]at n;cases n;rw[t]at l;cases l;let#[u,B,f2,L,Q,W]:=q it {};rw[⇑r]at f m;exact wpAny_pyNext_dict_end (I.ok.hd hc) f #[o,es,e,D,t,C] (Ci m) λp eb=>#[Z,I.turned (t':=s.toks) (λb o j e=>eb b o j e) u B L Q W]
 self:=λ_ _ _ _ _ f h=>wpAny_pyIter_keyiter f h
section
def RE (c:TE):TI:=λσ H d=>c σ H λx b=>∃a kvs,x=.ref a/\b a=U (.dK kvs)/\∀o,d (Hx o kvs a) (upd b a (.frz o (.dK kvs)))
def GU (K:PE X l tl):PI X tg l (RE tl):=by
 intro A s σ H N I h;calc uW (K A s σ H _ I h) λv d E=>?_;let#[x,Q,i,F,n]:=E;let#[a,kvs,e,k,q]:=n;subst e;cases F;let#[z,y,P,r,_]:=id (i.hok a _ k);let#[o,B,T,f,m,c]:=i.freezeD k;let#[_,S,t,G,u,M,D,L,j,w,g,p]:=c.hok a _ uN;rw[m]at j;cases j;rw[f]at g;cases g;calc wpAny_pyIter_dict t #[o,B,m,w,f,p] ?_;calc#[↥d,[↥d],_,_,_,Z,c.kept (t':=d.toks) λb o e=>vy _ e,Zj7 (kvs:=kvs) a _ f,#[_,wB _ Z,Z,by rw[⇑u];rfl],λb C=>?_,q o];let e:b=↥d:=by simpa using C
 subst e;calc c.fpOk (uV _) (c.hok.fresh (uV _))
def Gn (a:AD)(P:Hp->Prop)(b:Hp):Prop:=∃o kvs,b a=U (.frz o (.dK kvs))/\P (upd b a (.dK kvs))
noncomputable def thD (a:AD)(D:mM):mM:={ nx:=λσ H=>Gn a (D.nx σ) H,rt:=λv H=>Gn a (D.rt v) H,bk:=λσ H=>Gn a (D.bk σ) H,ct:=λσ H=>Gn a (D.ct σ) H }
def ND (b:TS):TS:=λD σ H=>∃a kvs,H a=U (.dK kvs)/\b (thD a D) σ H
def MC (t:TE):TE:=λσ H Q=>∃a kvs,H a=U (.dK kvs)/\t σ H λv b=>Gn a (Q v) b
def Hd {st:Stmt}{k:TS}(h:PS X st k):PS X st (ND k):=by
 intro p s σ H D I ⟨a,n,l,m⟩;let g:=I.notFrz l λo v q=>by cases q
 calc xq (h p s σ H _ I m) (λf t q=>?_) λ_ _ z=>z;cases f with
 | next=>let#[b,i,c,o,j,d,e]:=q;exact#[b,_,c.thawD d g,e]
 | brk=>let#[b,i,c,o,j,d,e]:=q;exact#[b,_,c.thawD d g,e]
 | cont=>let#[b,i,c,o,j,d,e]:=q;exact#[b,_,c.thawD d g,e]
 | ret u=>let#[v,b,i,c,r,o,j,d,e]:=q;calc#[v,b,_,c.thawD d g,r,e]
def Zox (h:PE X e t):PE X e (MC t):=by
 intro j s σ H Q I ⟨a,i,b,c⟩;let k:=I.notFrz b λo v q=>by cases q
 calc xq (h j s σ H _ I c) (λu n ⟨v,l,d,r,o,m,f,g⟩=>#[v,_,d.thawD f k,r,g]) λ_ _ z=>z
end
section
def kT.dict (b:Nat->St->Hp->Prop)(s:b 0 σ H)(d:∀i σ H,b i σ H->H a=U (.frz o (.dK kvs)))
  (j:∀i p σ H,kvs[i]?=U p->b i σ H->g (kV p.1) σ H λσ2 H2=>tb { D with nx:=b (i+1),ct:=b (i+1),bk:=D.nx } σ2 H2) (n:∀σ H,b ⇑kvs σ H->D.nx σ H):kT (Hx o kvs a) g tb D σ H:=by
 calc#[λi m σ H=>m=⇑kvs-i/\i<=⇑kvs/\b i σ H,#[⇑kvs,{},wf _,s],?_];rintro i m σ H ⟨rfl,u,p⟩;let q:=d i σ H p;by_cases c:i<⇑kvs
 .refine .inr #[#[q,c],b (i+1),λk f r=>#[⇑kvs-(i+1),∅,Z,c,r],λx f y=>?_];let#[e,h,t,l]:=y;subst e l;exact j i h σ _ t p
 .let e:i=⇑kvs:=by nofun
  subst e;calc .inl #[#[q,uV _],n σ H p]
end
def ky.thaw (d:H a=U (.dK kvs))(s:ky (upd H a (.frz o (.dK kvs))) H2):ky H (upd H2 a (.dK kvs)):=λb u c=>by
 by_cases e:b=a
 .rw[e]at c ⊢;rw[uN,<-c,d]
 .rw[uF e];calc s b u (by rw[uF e];calc c)
theorem PH {c:Nat}:∀ {p q r s:uz},c∉p->c∉q->p++c::r=q++c::s->p=q/\r=s
 | [],[],r,s,_,_,e=>by injection e with _ e;exact#[Z,e]
 | [],b::q,r,s,_,hq,e=>by
  rw[CC,DM]at e;injection e with e _;exact Sa (e▸xy) hq
 | a::p,[],r,s,hp,_,e=>by
  rw[CC,DM]at e;injection e with e _;exact Sa (e▸xy) hp
 | a::p,b::q,r,s,hp,hq,e=>by rw[DM,DM]at e;injection e with e1 e2;let#[h1,h2]:=PH (λz=>hp (wU _ z)) (λz=>hq (wU _ z)) e2;calc#[by rw[e1,h1],h2]
def zn:glue [c] (p::q::r)=p++c::glue [c] (q::r):=by show p++[c]++_=_;simp
theorem Q6 {c:Nat}:∀ {a b:uG},a≠[]->b≠[]->(∀p∈a,c∉p)->(∀q∈b,c∉q)->glue [c] a=glue [c] b->a=b
 | [],_,h,_,_,_,_=>Sa Z h
 | _,[],_,h,_,_,_=>Sa Z h
 | [p],[q],_,_,_,_,e=>by
  let e:p=q:=e;rw[e]
 | [p],q::q2::b,_,_,hp,hq,e=>by
  rw[zn]at e;let e:p=_:=e;exact Sa (by rw[e];simp) (hp p {})
 | p::p2::a,[q],_,_,hp,hq,e=>by
  rw[zn]at e;let e:_=q:=e;exact Sa (by rw[<-e];simp) (hq q {})
 | p::p2::a,q::q2::b,_,_,hp,hq,e=>by rw[zn,zn]at e;let#[f,g]:=PH (hp p {}) (hq q {}) e;rw[f,Q6 {} {} (λx d=>hp x (wU _ d)) (λx d=>hq x (wU _ d)) g]
def ZlX (k:ps≠[])(f:∀p∈ps,32∉p):Txt.split #[↑(glue [32] ps)] #[↑[32]]=ps.map λp=>(#[↑p]:Str):=by
 let j:=StrLaws.join_split #[↑(glue [32] ps)] #[↑[32]];let a:=StrLaws.split_free #[↑(glue [32] ps)] 32;generalize hS:Txt.split #[↑(glue [32] ps)] #[↑[32]]=S at j a;let b:S=(S.map λx=>x.cps.toList).map λp=>(#[↑p]:Str):=by rw[wE];exact(List.map_id S).symm
 let i:S.map (λx=>x.cps.toList)≠[]:=λz=>by
  let z:S=[]:=by simpa using z
  rw[<-hS]at z;unfold Txt.split at z;split at z
  .cases z
  .split at z
   .cases z
   .rw[StrLaws.partsBetween_eq]at z;let#[_,_,e]:=StrLaws.partsFrom_ne #[↑(glue [32] ps)] ⇑(#[↑[32]]:Str) 0 (g0 #[↑(glue [32] ps)] #[↑[32]] 0 ⇑(#[↑(glue [32] ps)]:Str) (⇑(#[↑(glue [32] ps)]:Str)+1));rw[z]at e;cases e
 let g:glue [32] (S.map λx=>x.cps.toList)=glue [32] ps:=by let c:=E1 [32] (S.map λx=>x.cps.toList);rw[<-b]at c;have:(#[↑(glue [32] (S.map λx=>x.cps.toList))]:Str)=#[↑(glue [32] ps)]:=c.symm.trans j;injection this with this;simpa using R9 Array.toList this
 rw[b,Q6 i k (λp d=>by let#[x,h,Z]:=vJ.mp d;calc a x h) f g]
theorem MO:∀ {a:uG} {l:List (Str×Tok)},l.map (·.1)=(a.map λp=>(#[↑p]:Str))->kJ (a.map tx) (strValues l)
 | [],[],_=>.nil
 | [],_::_,h=>by cases h
 | _::_,[],h=>by cases h
 | p::a,(x,t)::l,h=>by rw[vP,vP]at h;injection h with h1 h2;calc .cons #[t,by rw[<-h1]] (MO h2)
theorem Ri {c:Nat}:∀b:uG,⇑b<=⇑(glue [c] b)+1
 | []=>wf _
 | [_]=>by simp
 | p::q::r=>by
  have:=Ri (c:=c) (q::r);rw[zn,vn,vQ,vQ,vQ (a:=c)];rw[vQ]at this
  nofun
section
def O1:C5 X "str.split" (λx vs H Q=>∃a,x=tx (glue [32] a)/\vs=[tx [32]]/\a≠[]/\(∀p∈a,32∉p)/\⇑(glue [32] a)<=100000/\kU (a.map tx) H Q):=by
 rintro w s σ H x vs v B Q I z o ⟨a,rfl,rfl,y,f,C,q⟩;let#[t,Z]:=z;let#[u,Z,n]:=o.one;let#[g,Z]:=n;let h:=ZlX y f;let i:⇑(#[↑(glue [32] a)]:Str)=⇑(glue [32] a):=xK _;let pl:⇑a<=sizeLine:=by have:=Ri (c:=32) a;rw[bA];nofun
 let m:⇑(#[↑(glue [32] a)]:Str)<=sizeLine:=by rw[i,bA];nofun
 generalize hx:(#[↑(glue [32] a)]:Str)=x at h i m;let d:∀(l:List (Str×Tok)) (k:Nat),s.toks<=k->l.map (·.1)=Txt.split x #[↑[32]]->EP X w σ Q (.ref ↥s) { s with heap:=s.heap.push { cls:=.type "list",data:=.seq ↑(strValues l) },toks:=k }:=λl k A j=>by rw[h]at j;calc#[.ref ↥s,_,I.laid (t':=k) (λb u e=>vy _ e) (uV _) ?_,Z,q _ I.fresh];exact#[by rw[uO];calc pl,strValues l,0,MO j,wB _ Z]
 show bR _ _ (call (.builtin "str.split") [.str x t,.str #[↑[32]] g]) _ _ _;cases h1:(R (⇑x<⇑(#[↑[32]]:Str)) || R (Builtin.Str.strKind x<Builtin.Str.strKind #[↑[32]]))
 .cases f:(g0 x #[↑[32]] 0 ⇑x (⇑x+1)).isEmpty
  .let e:Builtin.Str.partsBetween x (g0 x #[↑[32]] 0 ⇑x (⇑x+1)) ⇑(#[↑[32]]:Str)=Txt.split x #[↑[32]]:=((uI (ne_true_of_eq_false h1)).trans (uI (ne_true_of_eq_false f))).symm;calc call_meets F.slot_str_split (typeIs_str _ _ _) F.entry_str_split (F.args_str_split_2 _ _) (meets_str_split_sep x #[↑[32]] t g h1 Z f m (by rw[e,h,uO];calc pl)) ?_;let r:=d (numbered s.toks (Builtin.Str.partsBetween x (g0 x #[↑[32]] 0 ⇑x (⇑x+1)) ⇑(#[↑[32]]:Str))) (s.toks+⇑(Builtin.Str.partsBetween x (g0 x #[↑[32]] 0 ⇑x (⇑x+1)) ⇑(#[↑[32]]:Str))) (Cj _ _) ((numbered_texts _ _).trans e);rw[<-strsFrom_eq]at r;exact r
  .exact call_meets F.slot_str_split (typeIs_str _ _ _) F.entry_str_split (F.args_str_split_2 _ _) (meets_str_split_not_found x #[↑[32]] t g h1 Z f) (d [(x,t)] s.toks (uV _) ((uI (ne_true_of_eq_false h1)).trans (uM f)).symm)
 .exact call_meets F.slot_str_split (typeIs_str _ _ _) F.entry_str_split (F.args_str_split_2 _ _) (meets_str_split_cannot_occur x #[↑[32]] t g h1) (d [(x,t)] s.toks (uV _) (uM h1).symm)
end
def zw (H:Hp)(g:AD)(k:Nat)(x:Str)(Q:VK):Prop:=∀t a:Nat,0<t->t<a->k<=a->Q (.tok x t) (upd H g (.gho a))
noncomputable def KH:V->V
 | .tok x _=>.str x
 | v=>v
def kP.forg (r:kP v u):kP (KH v) u:=by
 cases v with
 | tok x t=>exact#[t,r]
 | _=>calc r
def N7 (t:TE):TE:=λσ H Q=>t σ H λv a=>Q (KH v) a
section
def vU (h:PE X e t):PE X e (N7 t):=λb s σ H Q I q=>uW (h b s σ H _ I q) λv f ⟨x,a,d,r,c⟩=>#[_,a,d,r.forg,c]
def uB.ghost (I:uB X BO σ H s)(c:H p=U u)(d:(∃ys,u=.lst ys)\/∃h,u=.gho h)(g:k<=s.toks):uB X BO σ (upd H p (.gho k)) s:=by
 let pl:KC u:=by rcases d with⟨_,rfl⟩|⟨_,rfl⟩<;>exact True.intro
 let i:∀o v,u≠.frz o v:=by rcases d with⟨_,rfl⟩|⟨_,rfl⟩<;>(intro o v z;cases z)
 let f:GH (upd H p (.gho k)) s.toks:=λb j e=>by
  by_cases z:b=p
  .rw[z,uN]at e;injection e with e;injection e with e;rw[<-e];exact g
  .rw[uF z]at e;exact I.gh b j e
 let l:∃o,s.heap.get? p=U o:=(I.hok p u c).there;let a:kX X.prog X.w (upd H p (.gho k)) s.heap p (.gho k):=by unfold kX;exact l
 calc I.shiftG c pl (I.notFrz c i) a f
def zw.fresh (I:uB X BO σ H s)(a:H g=U (.gho k))(c:1<=k)(q:zw H g k x Q):EP X BO σ Q (.str x s.toks) { s with toks:=s.toks+1 }:=by let b:=I.gh g k a;calc#[.tok x s.toks,_,(I.tok (s.toks+1)).ghost a (.inr #[_,Z]) (uV _),Z,q s.toks (s.toks+1) ∅ ∅ ∅]
def zw.old (I:uB X BO σ H s)(a:H g=U (.gho k))(b:0<t)(tk:t<k)(q:zw H g k x Q):EP X BO σ Q (.str x t) s:=
 #[.tok x t,_,I.ghost a (.inr #[_,Z]) (I.gh g k a),Z,q t k b tk (uV _)]
def Zoz {i j a}:PE X (.Constant (.int i) j a) (λ_ H Q=>∃p ys,H p=U (.lst ys)/\∀k:Nat,1<=k->Q (.int i) (upd H p (.gho k))):=λc s σ H Q I ⟨p,ys,b,q⟩=>
 wpAny_Constant_int #[.int i,_,(I.tok (s.toks+1)).ghost b (.inl #[_,Z]) (uV _),#[_,Z],q (s.toks+1) ∅]
def Zoy {x j a}:PE X (.Constant (.str x) j a) (λ_ H Q=>∃g k,H g=U (.gho k)/\∀t b:Nat,k<=t->t<b->Q (.tok x t) (upd H g (.gho b))):=λd s σ H Q I ⟨g,k,c,q⟩=>
 Calls.Constant_str #[.tok x s.toks,_,(I.tok (s.toks+1)).ghost c (.inr #[_,Z]) (uV _),Z,q s.toks (s.toks+1) (I.gh g k c) ∅]
def Pu {x:Str}{l:uz}{j a}(h:x=#[↑l]):PE X (.Constant (.str x) j a) (λ_ H Q=>∃g k,H g=U (.gho k)/\∀t b:Nat,k<=t->t<b->Q (.tok #[↑l] t) (upd H g (.gho b))):=by subst h;calc Zoy
def Rm:wG X (binaryOp .Add) (λx y H Q=>∃(a b:uz)(t u k:Nat)(g:AD),x=.tok #[↑a] t/\y=.tok #[↑b] u/\H g=U (.gho k)/\0<t/\t<k/\0<u/\u<k/\⇑a+⇑b<=sizeLine/\zw H g k #[↑(a++b)] Q):=by
 rintro n s σ H x y v u Q I m d ⟨a,b,t,u',k,g,rfl,rfl,c,l,f,j,h,i,q⟩;obtain rfl:v=ek #[↑a] t:=m;obtain rfl:u=ek #[↑b] u':=d;calc PySem.P.add_str ?_;let e:(#[↑a]:Str)++(#[↑b]:Str)=#[↑(a++b)]:=by show (#[↑a++↑b]:Str)=_;simp
 split
 .rename_i z
  let z:a=[]:=by have:⇑(#[↑a]:Str)=⇑a:=xK a;rw[this]at z;exact Cq.mp (~~~z)
  subst z;exact zw.old I c j h q
 .split
  .rename_i _ z
   let z:b=[]:=by have:⇑(#[↑b]:Str)=⇑b:=xK b;rw[this]at z;exact Cq.mp (~~~z)
   subst z;rw[zd]at q;exact zw.old I c l f q
  .rw[e];calc#[by rw[xK,vn];calc i,zw.fresh I c ∅ q]
def Zq6:DU X (λx y H Q=>∃(l:uz)(i:Int)(c k:Nat)(g:AD),x=tx l/\y=.int i/\⇑l<=sizeLine/\ye l i=U c/\H g=U (.gho k)/\1<=k/\zw H g k #[↑[c]] Q):=by
 rintro a slice D s σ H x y v u Q I C z ⟨l,i,c,k,g,rfl,rfl,B,A,f,o,q⟩ w;let#[t,Z]:=C;let#[G,Z]:=z;let#[j,b,r,F,m,d]:=Je (show ye (#[↑l]:Str).cps.toList i=U c from A);let p:⇑(#[↑l]:Str).cps.toList=⇑(#[↑l]:Str):=by simp[Str.length]
 rw[p]at b m d;let E:=GT;let n:⇑(#[↑l]:Str)<=sizeLine:=by rw[xK];exact B
 calc tail_any (typeIs_str s _ t) PySem.F.slot_str_getitem.lookup (PyProof.Rows.getItem_str (c:=c) (by let e:R (i < -(2 ^ 63:Int))=J:=R6 ∅;let h:R (i>=2 ^ 63)=J:=R6 ∅;rw[e,h,Bool.or_false]) (by rw[b];simpa using r) (zw.fresh I f o q)) w
def JR:F1 X (λx lo hi H Q=>∃(l:uz)(t k:Nat)(g:AD),x=.tok #[↑l] t/\⇑l<=sizeLine/\H g=U (.gho k)/\0<t/\t<k/\zw H g k #[↑(xt l lo hi)] Q):=by
 rintro w s σ H x v E G lo hi D Q I y m pl B ⟨l,t,k,g,rfl,A,f,j,r,q⟩;obtain rfl:v=ek #[↑l] t:=y;calc#["str",_,F.slot_str_getitem.lookup,typeIs_str _ _ _,?_];let c:∀ {v:bU} {o:Option Int},IsPart v o->∃p:Option (Int×Tok),v=partValue p/\p.map (·.1)=o:=λ{v o} h=>by
  cases h with
  | none=>exact#[O,Z,Z]
  | int i t=>exact#[U (i,t),Z,Z]
 let#[a,Z,n]:=c pl;let#[b,Z,C]:=c B;calc wpAny_getItem_str_slice (l:=a) (u:=b) (st:=O) m Z ?_;let e:(if ((1:Int) == 1&&⇑(gP lo hi 1 ⇑(#[↑l]:Str)) == ⇑(#[↑l]:Str))=Y then (#[↑l]:Str) else #[↑((gP lo hi 1 ⇑(#[↑l]:Str)).filterMap ((#[↑l]:Str).cps[·]?))])=#[↑(xt l lo hi)]:=PU l lo hi;unfold sliceMade slicePicked;rw[n,C];simp only[Option.map_none,Option.getD_none];split
 .rename_i z
  let d:(#[↑l]:Str)=#[↑(xt l lo hi)]:=(uM z).symm.trans e;show EP X w σ Q (ek #[↑l] t) s;rw[d];exact zw.old I f j r q
 .rename_i z
  let d:=(uI z).symm.trans e;refine#[?_,?_]
  .rw[d,xK];exact u8 (P4 _ _ _) A
  .rw[d];calc zw.fresh I f ∅ q
def Zmn:C5 X "str.join" (λx vs H Q=>∃(b:uz)(a g:AD)(ls:uG)(k:Nat),x=tx b/\vs=[.ref a]/\H a=U (.lst (ls.map tx))/\2<=⇑ls/\(ls.map fu).sum+⇑ls*⇑b<=16777216/\H g=U (.gho k)/\1<=k/\zw H g k #[↑(glue b ls)] Q):=by
 rintro D s σ H x vs v G Q I C z ⟨b,a,g,ls,k,rfl,rfl,A,K,B,j,y,q⟩;let#[t,Z]:=C;let#[u,Z,o]:=z.one;cases o;let#[_,d,n,r,E,e]:=I.lstM A;let#[l,i,f]:=strsAre_values (HZ (ls:=ls) (~~~r));let w:↑d=↑(strValues l):=by rw[<-i]
 let h:((ls.map λl=>(#[↑l]:Str)).map (·.length)).sum=(ls.map fu).sum:=by rw[wE];congr 1;all_goals (apply EF;intro l _;calc xK l)
 let c:JoinOk #[↑b] (ls.map λl=>(#[↑l]:Str))=Y:=joinOk_of (by rw[h,uO,xK];calc B);unfold JoinOk at c;rw[Bool.not_eq_true',<-f]at c;calc call_meets F.slot_str_join (typeIs_str _ _ _) F.entry_str_join (F.args_str_join_2 _ _) (meets_str_join_list #[↑b] t a l c) #[by rw[<-w];calc GO e,?_];let p:joinMade #[↑b] l=.str (Txt.join #[↑b] (l.map (·.1))):=by
  have:2<=⇑l:=by have:=R9 fu f;simp at this;nofun
  match l,this with
  | _::_::_,_=>rfl
 rw[p,f];let m:Txt.join #[↑b] (ls.map λl=>(#[↑l]:Str))=#[↑(glue b ls)]:=by show Builtin.Str.glued _ _=_;rw[StrLaws.glued_eq_join,E1]
 rw[m];calc#[?_,zw.fresh I j y q];have:=StrLaws.join_length_le #[↑b] (ls.map λl=>(#[↑l]:Str));rw[h,uO,xK b]at this;rw[<-E1,bA]
 nofun
def NU:C5 X "str.replace" (λx vs H Q=>∃(l y z:uz)(u v:Nat),x=tx l/\vs=[.tok #[↑y] u,.tok #[↑z] v]/\0<u/\0<v/\u≠v/\y≠z/\⇑l<=100/\⇑z<=100/\∀w,(#[↑w]:Str)=Txt.replace #[↑l] #[↑y] #[↑z]->Q (tx w) H):=by
 rintro B s σ H x vs C A Q I h b ⟨l,y,z,u,v,rfl,rfl,n,a,j,f,r,m,q⟩;let#[t,Z]:=h;let#[g,p,Z,o,d]:=b.two;obtain rfl:g=ek #[↑y] u:=o;obtain rfl:p=ek #[↑z] v:=d;refine xF (SC.replace (Ee n) (Ee a) j ?_ ?_ λi k=>?_)
 .exact beq_eq_false_iff_ne.mpr λe=>f (by injection e with e;simpa using R9 Array.toList e)
 .rw[xK,xK];have:(⇑l+1)*⇑z<=101*100:=CJ ∅ m
  nofun
 .intro c;let e:Txt.replace #[↑l] #[↑y] #[↑z]=#[↑(Txt.replace #[↑l] #[↑y] #[↑z]).cps.toList]:=by rw[Hg]
  calc#[tx (Txt.replace #[↑l] #[↑y] #[↑z]).cps.toList,H,I.tok _ c,#[i,by rw[<-e]],q _ e.symm]
end
def ZlJ:xU X (.type "int") (λxs H Q=>∃(l:uz)(n:Int),xs=[tx l]/\intText? #[↑l]=U n/\⇑l<=640/\Q (.int n) H):=by rintro c s σ H xs d Q I r ⟨l,n,rfl,b,a,q⟩;let#[u,Z,t,Z]:=r.one;calc PySem.W.KIN.call_text b (by rw[xK];calc a) #[.int n,H,I.tok _,#[_,Z],q]
def GW [Decidable c]{a b:StateT SortSt Sem α}{Q:α->SortSt->Prop}{st:SortSt}(e:c->wpS M A E s a Q st)(d:¬c->wpS M A E s b Q st):wpS M A E s (if c then a else b) Q st:=by
 by_cases h:c
 .rw[uM h];exact e h
 .rw[uI h];calc d h
def ZnP {α:Type}{M:Model}{A:AH}{E:vY}{s:AE}{i j:Nat}{a b:StateT SortSt Sem α}{Q:α->SortSt->Prop}{st:SortSt}(d:i=j->wpS M A E s a Q st)(c:¬i=j->wpS M A E s b Q st):wpS M A E s (if (i == j)=Y then a else b) Q st:=
 GW (λh=>d (eq_of_beq h)) λh=>c λe=>h (beq_iff_eq.mpr e)
section
end
structure Rf (D:gp->Prop)(L:gp->gp->Bool):Prop where
 asym:∀x y,D x->D y->L x y=Y->L y x=J
 tr:∀x y z,D x->D y->D z->L y x=J->L z y=J->L z x=J
abbrev Le (L:gp->gp->Bool)(x y:gp):Prop:=L y x=J
section
end
section
noncomputable def nV (M:Model)(A:AH)(E:vY)(s:AE)(D:gp->Prop)(L:gp->gp->Bool)(a:SortKind):Prop:=
 ∀(st:SortSt)(x y:gp)(Q:Option Bool->SortSt->Prop),kindOf st=a->D x->D y->Q (U (L x y)) st->wpS M A E s (lt' x y) Q st
def Pe {a:Array gp}{i:Nat}{x:gp}{Q:gp->SortSt->Prop}{st:SortSt}(h:a[i]?=U x)(q:Q x st):wpS M A E s (elem' a i) Q st:=by rw[elem'_eq,h];calc xN q
end
section
variable {M:Model}{A:AH}{E:vY}{s:AE}{D:gp->Prop}{L:gp->gp->Bool}{kd:SortKind}{p q:Array gp}{T:List gp}{st:SortSt}
def at? (h:i<p.size):∃e,p[i]?=U e/\e∈p.toList:=#[p[i],getElem?_pos p i h,{}]
end
section
def pP (a:Rf D L){v:gp}(h:D v):Le L v v:=by
 cases hx:L v v with
 | false=>exact hx
 | true=>calc a.asym v v h h hx
end
section
def slice {a:Array gp}{x y z:List gp}{b n:Nat}(h:a.toList=x++y++z)(d:b=⇑x)(c:n=⇑y):(a.toList.drop b).take n=y:=by rw[h,d,c,FA,List.drop_left,List.take_left]
end
abbrev mP (L:gp->gp->Bool):Prop:=Rf (λ_=>True) L
def mP.rf (h:mP L)(x:gp):Le L x x:=pP h trivial
def mP.le (h:mP L){x y:gp}(e:L x y=Y):Le L x y:=h.asym x y trivial trivial e
def mP.t (h:mP L){x y z:gp}(e:Le L x y)(f:Le L y z):Le L x z:=h.tr x y z trivial trivial trivial e f
def mP.lt_le (h:mP L){x y z:gp}(e:L x y=Y)(f:Le L y z):L x z=Y:=by
 cases hx:L x z with
 | true=>rfl
 | false=>rw[h.tr y z x trivial trivial trivial f hx]at e;cases e
noncomputable def vH (a:Array gp)(i:Nat):Keyed:=(a[i]?).getD (.none,.none)
def Lu (h:a[i]?=b[j]?):vH a i=vH b j:=by unfold vH;rw[h]
noncomputable def nO (L:gp->gp->Bool)(a:Array gp)(l h:Nat):Prop:=∀i j,l<=i->i<=j->j<h->Le L (vH a i) (vH a j)
noncomputable def mW (L:gp->gp->Bool)(a:Array gp)(l h:Nat):Prop:=∀i j,l<=i->i<=j->j<h->Le L (vH a j) (vH a i)
structure lj (lo:Nat)(a b:Array gp):Prop where
 perm:b.Perm a
 pre:∀k,k<lo->b[k]?=a[k]?
def lj.rf (b:Nat)(a:Array gp):lj b a a:=#[Array.Perm.refl _,λ_ _=>rfl]
def lj.tr {d:Nat}{a b c:Array gp}(h:lj d a b)(k:lj d b c):lj d a c:=#[k.perm.trans h.perm,λi e=>(k.pre i e).trans (h.pre i e)]
def lj.sz {c:Nat}{a b:Array gp}(h:lj c a b):b.size=a.size:=h.perm.size_eq
def lj.d {c:Nat}{a b:Array gp}{D:gp->Prop}(h:lj c a b)(d:∀u∈a.toList,D u):∀u∈b.toList,D u:=λu e=>d u ((Array.perm_iff_toList_perm.mp h.perm).mem_iff.mp e)
def RP (b:src<xs.size)(a:d<=src)(k:Nat):
  vH (bubble xs src d) k=if k=src-d then vH xs src else if src-d<k/\k<=src then vH xs (k-1) else vH xs k:=by
 let e:=getElem?_bubble b d a k;repeat' split
 all_goals (calc Lu (e.trans ?_);first | rw[uM (by assumption)] | (rw[uI (by assumption)];first | rw[uM (by assumption)] | rw[uI (by assumption)]))
def KR (a:j<=xs.size)(k:Nat):
  vH (mirror xs i j ((j-i)/2)) k=if i<=k/\k<j then vH xs (i+j-1-k) else vH xs k:=by
 let e:=getElem?_mirror_all (i:=i) a k;split
 .exact Lu (e.trans (uM (by assumption)))
 .exact Lu (e.trans (uI (by assumption)))
def lj.bub {c b d:Nat}{a:Array gp}(e:b<a.size)(g:c+d<=b):lj c a (bubble a b d):=
 #[bubble_perm _ _ _,λk f=>by rw[getElem?_bubble e d ∅,uI ∅,uI ∅]]
def lj.mir {b i j:Nat}{a:Array gp}(c:j<=a.size)(d:b<=i):lj b a (mirror a i j ((j-i)/2)):=
 #[mirror_perm _ _ _ _,λk e=>by rw[getElem?_mirror_all c,uI ∅]]
section
variable {M:Model}{A:AH}{E:vY}{s:AE}{D:gp->Prop}{L:gp->gp->Bool}{kd:SortKind}{st:SortSt}
inductive qd (L:gp->gp->Bool)(a:Array gp)(lo:Nat)(st:SortSt)(m:Nat):Option Bool×Unit->SortSt->Prop
 | mk (b:Array gp) (h1:lj lo a b) (h2:nO L b lo (lo+m)):qd L a lo st m (O,()) (setArr st b)
inductive pQ (L:gp->gp->Bool)(b:Array gp)(lo k:Nat)(st:SortSt)(x:Nat):Option Bool×Nat×Nat->SortSt->Prop
 | mk (l r:Nat) (h1:l<=r) (h2:r<=k) (h3:r-l<=k-x) (h4:∀i,lo<=i->i<lo+l->Le L (vH b i) (vH b (lo+k))) (h5:∀i,lo+r<=i->i<lo+k->L (vH b (lo+k)) (vH b i)=Y):pQ L b lo k st x (O,l,r) (setArr st b)
def Gk (h:nV M A E s D L kd)(k:kindOf st=kd)(f:∀u∈a.toList,D u)(l:i<a.size)(g:j<a.size)
  (q:Q (U (L (vH a i) (vH a j))) (setArr st a)):wpS M A E s (ltAt' i j) Q (setArr st a):=by
 let#[x,d,b]:=at? l;let#[y,e,c]:=at? g;let n:vH a i=x:=by unfold vH;rw[d];rfl
 let m:vH a j=y:=by unfold vH;rw[e];rfl
 rw[n,m]at q;rw[ltAt'_eq];calc wF (wpS_get ?_);calc wF (Pe d (wF (Pe e (h _ _ _ _ k (f x b) (f y c) q))))
def Zpu {a:Array gp}{d n w:Nat}{Q:Bool->SortSt->Prop}(B:mP L)(hP:nV M A E s D L kd)(W:kindOf st=kd)(V:∀u∈a.toList,D u)(hn:d+n<=a.size)(P:w<=n)
  (hs:nO L a d (d+w)) (h:∀b,lj d a b->nO L b d (d+n)->Q Y (setArr st b)):wpS M A E s (binarySort' d n w) Q (setArr st a):=by
 rw[binarySort'_eq];refine wF (wpS_mono (wpS_forRange (I:=λk=>qd L a d st (min k n)) (Q:=qd L a d st n) ?step ?fin ?init) ?post)
 case post=>
  rintro c z ⟨b,q,e⟩;exact xN (h b q e)
 case init=>
  calc#[a,lj.rf _ _,λi j N y hj=>?_];by_cases v:w=0
  .have:i=j:=by nofun
   subst this;exact B.rf _
  .exact hs i j N y ∅
 case fin=>
  rintro c z ⟨b,q,e⟩;refine#[b,q,?_]
  rwa [show min (max (max w 1) n) n=n by nofun]at e
 case step=>
  rintro k c z ab S ⟨b,q,e⟩;rw[show min k n=k by nofun]at e;let T:=q.sz;let H:=q.d V;refine wF (wpS_mono (wpS_forRange (I:=pQ L b d k st) (Q:=pQ L b d k st k) ?istep ?ifin ?iinit) ?ipost)
  case iinit=>exact#[0,k,∅,∅,∅,λi v hi=>by nofun,λi v F=>by nofun]
  case ifin=>
   rintro c o ⟨l,r,m,t,K,g,f⟩;exact#[l,r,m,t,∅,g,f]
  case istep=>
   rintro x c o _ X ⟨l,r,m,t,K,g,f⟩;dsimp only;refine GW (λG=>?_) λG=>?_
   .exact xN (.mk l r m t ∅ g f)
   .refine wF (Gk hP W H ∅ ∅ ?_);cases hless:L (vH b (d+k)) (vH b (d+(l+r)/2)) with
    | true=>exact xN (pQ.mk l ((l+r)/2) ∅ ∅ ∅ g λi v F=>B.lt_le hless (e _ _ ∅ v F))
    | false=>exact xN (pQ.mk ((l+r)/2+1) r ∅ ∅ ∅ (λi h0 v=>B.t (e i (d+(l+r)/2) h0 ∅ ∅) hless) f)
  case ipost=>
   rintro c o ⟨l,r,m,aa,K,g,C⟩;let f:∀i,d+l<=i->i<d+k->L (vH b (d+k)) (vH b i)=Y:=λi v F=>C i ∅ F;show wpS _ _ _ _ (do moveDown' (d+k) (d+l);pure (im (O,()))) _ _;rw[moveDown'_eq];let p:d+k<b.size:=by nofun
   calc wF (wpS_modify (xN (qd.mk (bubble b (d+k) (d+k-(d+l))) (q.tr (lj.bub p ∅)) ?_)));rw[show min (k+1) n=k+1 by nofun];intro i j N y hj;rw[RP p ∅,RP p ∅,show d+k-(d+k-(d+l))=d+l by nofun];repeat' split
   all_goals first
    | (exfalso;nofun)
    | exact B.rf _
    | exact g _ ∅ ∅
    | exact B.le (f _ ∅ ∅)
    | calc e _ _ ∅ ∅ ∅
end
noncomputable def o3 (lo a nr:Nat):StateT SortSt Sem AscSt:=
 forIn [a:nr] ((O,a):AscSt) λ_ c=>do
  let x <-ltAt' (lo+c.snd) (lo+c.snd-1)
  match x with
  | some sm=>if sm=Y then pure (ForInStep.done (O,c.snd)) else pure (im (O,c.snd+1))
  | _=>pure (ForInStep.done (U O,c.snd))
noncomputable def oE (lo n nr:Nat):StateT SortSt Sem (Option Nat):=do
 reverseSlice' lo (lo+n)
 let c <-o3 lo n nr
 match c.fst with
 | some r=>pure r
 | none=>pure (U c.snd)
noncomputable def qp (lo n nr:Nat):StateT SortSt Sem DescSt:=
 forIn [n:nr] ((O,n,0):DescSt) λ_ c=>do
  let x <-ltAt' (lo+c.snd.fst) (lo+c.snd.fst-1)
  match x with
  | some sm=>
   if sm=Y then
    if c.snd.snd>0 then do
     reverseSlice' (lo+c.snd.fst-(c.snd.snd+1)) (lo+c.snd.fst)
     pure (im (O,c.snd.fst+1,0))
    else pure (im (O,c.snd.fst+1,0))
   else do
    let y <-ltAt' (lo+c.snd.fst-1) (lo+c.snd.fst)
    match y with
    | some lg=>
     if lg=Y then pure (ForInStep.done (O,c.snd.fst,c.snd.snd))
     else pure (im (O,c.snd.fst+1,c.snd.snd+1))
    | _=>pure (ForInStep.done (U O,c.snd.fst,c.snd.snd))
  | _=>pure (ForInStep.done (U O,c.snd.fst,c.snd.snd))
section
variable {M:Model}{A:AH}{E:vY}{s:AE}{D:gp->Prop}{L:gp->gp->Bool}{kd:SortKind}{st:SortSt}
noncomputable def EV (L:gp->gp->Bool)(x y:gp):Prop:=Le L x y/\Le L y x
def FY (q:Q () (setArr st (mirror a i j ((j-i)/2)))):wpS M A E s (reverseSlice' i j) Q (setArr st a):=by rw[reverseSlice'_eq];calc wpS_modify q
def R1 {a:Array gp}{b g e:Nat}{Q:AscSt->SortSt->Prop}(t:mP L)(B:nV M A E s D L kd)(y:kindOf st=kd)(w:∀u∈a.toList,D u)(C:b+e<=a.size)(G:1<=g)(m:g<=e)
  (z:nO L a b (b+g)) (h:∀n,g<=n->n<=e->nO L a b (b+n)->(n=e\/L (vH a (b+n)) (vH a (b+n-1))=Y)->Q (O,n) (setArr st a)):wpS M A E s (o3 b g e) Q (setArr st a):=by
 unfold o3;refine wpS_forRange (I:=λx c f=>f=setArr st a/\c=(O,x)/\nO L a b (b+x)) ?step ?fin #[Z,Z,z]
 case fin=>
  rintro c f ⟨rfl,rfl,d⟩;rw[show max g e=e by nofun]at d ⊢;exact h e m (uV _) d (.inl Z)
 case step=>
  rintro x c f p v ⟨rfl,rfl,d⟩;dsimp only;calc wF (Gk B y w ∅ ∅ ?_);cases hl:L (vH a (b+x)) (vH a (b+x-1)) with
  | true=>exact xN (h x p ∅ d (.inr hl))
  | false=>
   calc xN #[Z,Z,λi j k l F=>?_];by_cases q:j<b+x
   .exact d i j k l q
   .let r:j=b+x:=by nofun
    subst r;by_cases o:i=b+x
    .subst o;exact t.rf _
    .exact t.t (d i (b+x-1) k ∅ ∅) hl
def HB {a:Array gp}{c n d:Nat}{Q:Option Nat->SortSt->Prop}(x:mP L)(l:nV M A E s D L kd)(t:kindOf st=kd)(y:∀u∈a.toList,D u)(p:c+d<=a.size)(v:1<=n)(f:n<=d)
  (q:mW L a c (c+n)) (h:∀b m,lj c a b->1<=m->m<=d->nO L b c (c+m)->Q (U m) (setArr st b)):wpS M A E s (oE c n d) Q (setArr st a):=by
 unfold oE;calc wF (FY ?_);let k:lj c a (mirror a c (c+n) ((c+n-c)/2)):=lj.mir ∅ (uV _);calc wF (R1 x l t (k.d y) (by rw[k.sz];calc p) v f ?_ λm w e g _=>xN (h _ m k ∅ e g));intro i j r o z;rw[KR ∅,KR ∅,uM ∅,uM ∅];calc q _ _ ∅ ∅ ∅
def Hv (b:mP L)(f:j<=a.size)(d:∀k,i<=k->k<j->EV L (vH a k) (vH a (j-1)))(k:Nat):EV L (vH (mirror a i j ((j-i)/2)) k) (vH a k):=by
 rw[KR f];split
 .let c:=d (i+j-1-k) ∅ ∅;let e:=d k ∅ ∅;exact#[b.t c.1 e.2,b.t e.1 c.2]
 .exact#[b.rf _,b.rf _]
def mW.eqv (c:mP L)(f:mW L a l h)(d:∀k,EV L (vH b k) (vH a k)):mW L b l h:=
 λi j g e m=>c.t (d j).1 (c.t (f i j g e m) (d i).2)
def mW.more (k:mP L)(h:mW L a l x)(d:l<x->Le L (vH a x) (vH a (x-1))):mW L a l (x+1):=by
 intro i j b c m;by_cases f:j<x
 .exact h i j b c f
 .let e:j=x:=by nofun
  subst e;by_cases g:i=j
  .subst g;exact k.rf _
  .exact k.t (d ∅) (h i (j-1) b ∅ ∅)
def RC {a:Array gp}{d n p:Nat}{Q:DescSt->SortSt->Prop}(f:mP L)(G:nV M A E s D L kd)(F:kindOf st=kd)(K:∀u∈a.toList,D u)(S:d+p<=a.size)(v:1<=n)(z:n<=p)
  (P:mW L a d (d+n))
  (h:∀b m j,lj d a b->n<=m->m<=p->mW L b d (d+m)->j+1<=m->(∀i,d+m-(j+1)<=i->i<d+m->EV L (vH b i) (vH b (d+m-1)))->Q (O,m,j) (setArr st b)):
  wpS M A E s (qp d n p) Q (setArr st a):=by
 unfold qp;refine wpS_forRange (I:=λx c o=>∃b j,o=setArr st b/\c=(O,x,j)/\lj d a b/\mW L b d (d+x)/\j+1<=x /\
   (∀i,d+x-(j+1)<=i->i<d+x->EV L (vH b i) (vH b (d+x-1)))) ?step ?fin #[a,0,Z,Z,lj.rf _ _,P,∅,λi v C=>by rw[show i=d+n-1 by nofun];calc#[f.rf _,f.rf _]]
 case fin=>
  rintro c o ⟨b,j,rfl,rfl,l,g,w,q⟩;rw[show max n p=p by nofun]at g w q ⊢;exact h b p j l z (uV _) g w q
 case step=>
  rintro x c o B H ⟨b,j,rfl,rfl,l,g,w,q⟩;let N:=l.sz;let t:=l.d K;dsimp only;calc wF (Gk G F t ∅ ∅ ?_);cases hl:L (vH b (d+x)) (vH b (d+x-1)) with
  | true=>
   let k:mW L b d (d+x+1):=g.more f λ_=>f.le hl;dsimp only;by_cases r:j>0
   .rw[uM Z,uM r];calc wF (FY (xN #[_,0,Z,Z,l.tr (lj.mir ∅ ∅),k.eqv f (Hv f ∅ q),∅,λi v C=>?_]));rw[show i=d+(x+1)-1 by nofun];exact#[f.rf _,f.rf _]
   .rw[uM Z,uI r];calc xN #[b,0,Z,Z,l,k,∅,λi v C=>?_];rw[show i=d+(x+1)-1 by nofun];exact#[f.rf _,f.rf _]
  | false=>
   dsimp only;rw[uI vC];calc wF (Gk G F t ∅ ∅ ?_);cases hg:L (vH b (d+x-1)) (vH b (d+x)) with
   | true=>exact xN (h b x j l B ∅ g w q)
   | false=>
    calc xN #[b,j+1,Z,Z,l,g.more f λ_=>hg,∅,λi v C=>?_];rw[show d+(x+1)-1=d+x by nofun];by_cases y:i=d+x
    .subst y;exact#[f.rf _,f.rf _]
    .let e:=q i ∅ ∅;calc#[f.t e.1 hl,f.t hg e.2]
def Zpr {a:Array gp}{e F:Nat}{Q:Option Nat->SortSt->Prop}(g:mP L)(x:nV M A E s D L kd)(w:kindOf st=kd)(G:∀u∈a.toList,D u)(hn:e+F<=a.size)(V:1<=F)
  (h:∀b m,lj e a b->1<=m->m<=F->nO L b e (e+m)->Q (U m) (setArr st b)):wpS M A E s (countRun' e F) Q (setArr st a):=by
 rw[countRun'_eq];calc wF (wpS_mono (R1 (Q:=λc K=>∃n,c=(O,n)/\K=setArr st a/\1<=n/\n<=F/\nO L a e (e+n)/\(n=F\/L (vH a (e+n)) (vH a (e+n-1))=Y)) g x w G hn (uV 1) V (λi j hl af hj=>by have:i=j:=∅;subst this;calc g.rf _) λn a1 a2 a3 a4=>#[n,Z,Z,a1,a2,a3,a4]) ?_);rintro c K ⟨n,rfl,rfl,P,T,v,aa⟩;dsimp only;refine ZnP (λI=>?_) λI=>?_
 .exact xN (h a n (lj.rf _ _) P T v)
 .let BY:=aa.resolve_left I;refine GW (λX=>?_) λX=>?_
  .refine wF (Gk x w G ∅ ∅ ?_);cases hrose:L (vH a e) (vH a (e+n-1)) with
   | true=>
    dsimp only;rw[uM Z];exact xN (h a n (lj.rf _ _) P T v)
   | false=>
    dsimp only;rw[uI vC];let o:∀k,e<=k->k<e+n->EV L (vH a k) (vH a (e+n-1)):=by intro k N W;let a1:=v e k ∅ N W;let a2:=v k (e+n-1) N ∅ ∅;exact#[a2,g.t hrose a1]
    let ac:mW L a e (e+(n+1)):=by calc mW.more g (λi j V h2 H=>?_) λ_=>g.le BY;replace H:j<e+n:=H;exact g.t (o j ∅ H).1 (o i V ∅).2
    let t:lj e a (mirror a e (e+n) ((e+n-e)/2)):=lj.mir ∅ (uV _);calc wF (FY ?_);obtain⟨b,hb,f,y⟩:∃b,b=mirror a e (e+n) ((e+n-e)/2)/\lj e a b/\mW L b e (e+(n+1)):=#[_,Z,t,ac.eqv g (Hv g ∅ o)];rw[<-hb];let ad:=lj.sz f;calc wF (wpS_lift (Co #[Z,?_]));calc wF (RC g x w (lj.d f G) ∅ ∅ ∅ y λc m S t ab p q hq he=>?_);let ae:=t.sz;let r:=t.d (lj.d f G);dsimp only;refine GW (λC=>?_) λC=>?_
    .let l:lj e c (mirror c (e+m-(S+1)) (e+m) ((e+m-(e+m-(S+1)))/2)):=lj.mir ∅ ∅;calc wF (FY ?_);calc Eq.mp ?_ (HB (Q:=Q) g x w (l.d r) (by rw[l.sz];nofun) ∅ p (q.eqv g (Hv g ∅ he)) λd k z=>h d k (lj.tr f (t.tr (l.tr z))));calc R9 (λm=>wpS _ _ _ _ m _ _) ?_;unfold oE o3;calc R9 _ (funext λ_=>R9 _ (funext λc=>?_));let#[B,n3]:=c;cases B<;>rfl
    .refine Eq.mp ?_ (HB (Q:=Q) g x w r ∅ ∅ p q λd k z=>h d k (lj.tr f (t.tr z)));calc R9 (λm=>wpS _ _ _ _ m _ _) ?_;unfold oE o3;calc R9 _ (funext λ_=>R9 _ (funext λc=>?_));let#[B,n3]:=c;cases B<;>rfl
  .obtain⟨b,hb,f,y⟩:∃b,b=a/\lj e a b/\mW L b e (e+(n+1)):=#[_,Z,lj.rf _ _,mW.more g (λi j V h2 H=>by replace H:j<e+n:=H;rw[show i=j by nofun];calc g.rf _) λ_=>g.le BY]
   rw[<-hb];let ad:=lj.sz f;calc wF (wpS_lift (Co #[Z,?_]));calc wF (RC g x w (lj.d f G) ∅ ∅ ∅ y λc m S t ab p q hq he=>?_);let ae:=t.sz;let r:=t.d (lj.d f G);dsimp only;refine GW (λC=>?_) λC=>?_
   .let l:lj e c (mirror c (e+m-(S+1)) (e+m) ((e+m-(e+m-(S+1)))/2)):=lj.mir ∅ ∅;calc wF (FY ?_);calc Eq.mp ?_ (HB (Q:=Q) g x w (l.d r) (by rw[l.sz];nofun) ∅ p (q.eqv g (Hv g ∅ he)) λd k z=>h d k (lj.tr f (t.tr (l.tr z))));calc R9 (λm=>wpS _ _ _ _ m _ _) ?_;unfold oE o3;calc R9 _ (funext λ_=>R9 _ (funext λc=>?_));let#[B,n3]:=c;cases B<;>rfl
   .refine Eq.mp ?_ (HB (Q:=Q) g x w r ∅ ∅ p q λd k z=>h d k (lj.tr f (t.tr z)));calc R9 (λm=>wpS _ _ _ _ m _ _) ?_;unfold oE o3;calc R9 _ (funext λ_=>R9 _ (funext λc=>?_));let#[B,n3]:=c;cases B<;>rfl
end
section
end
section
end
section
end
section
end
section
end
section
end
def Zhg (b:Bool)(x y:bU):keyLt' (tuples' b) x y=(do
  let xs <-Builtin.List.listItems x
  let ys <-Builtin.List.listItems y
  for ((p,r),i) in (xs.toList.zip ys.toList).zipIdx do
   if !(<-eqBool p r) then return <-oneLt' (b&&i == 0) p r
  return xs.size<ys.size):=rfl
noncomputable def oO (h:Heap):bU->Int×uz
 | .ref a=>match h.get? a with
  | some o=>match o.data with
   | .seq xs _=>match xs.toList with
    | [.int n _,.str w _]=>(n,w.cps.toList)
    | _=>(0,[])
   | _=>(0,[])
  | none=>(0,[])
 | _=>(0,[])
noncomputable def y9 (a b:Int×uz):Bool:=R (a.1<b.1) || (a.1 == b.1&&R (a.2<b.2))
noncomputable def D7 (h:Heap)(x y:gp):Bool:=y9 (oO h x.1) (oO h y.1)
def K2:y9 a b=Y↔a.1<b.1\/(a.1=b.1/\a.2<b.2):=by unfold y9;simp
def Oa:y9 b a=J↔a.1<b.1\/(a.1=b.1/\¬b.2<a.2):=by
 rw[<-Bool.not_eq_true,K2];constructor
 .intro h;by_cases e:a.1=b.1
  .exact .inr #[e,λk=>h (.inr #[e.symm,k])]
  .exact .inl (by
    have:¬b.1<a.1:=λk=>h (.inl k)
    nofun)
 .rintro (h | ⟨h,k⟩) (l | ⟨l,m⟩)
  .lia
  .lia
  .lia
  .exact k m
def ZoT (h:Heap):mP (D7 h):=by
 refine#[λx y _ _ e=>?_,λx y z _ _ _ e f=>?_]
 .unfold D7 at e ⊢;rw[K2]at e;rw[Oa];rcases e with e | ⟨e,f⟩
  .exact .inl e
  .exact .inr #[e,List.lt_asymm f]
 .unfold D7 at e f ⊢;rw[Oa]at e f ⊢;rcases e with e | ⟨e,b⟩<;>rcases f with f | ⟨f,a⟩
  .exact .inl ∅
  .exact .inl ∅
  .exact .inl ∅
  .exact .inr #[∅,List.not_lt.mpr (List.le_trans (List.not_lt.mp b) (List.not_lt.mp a))]
noncomputable def zI (h:Heap)(v:bU)(n:Int)(c:uz):Prop:=∃a t w u e,v=.ref a/\h.get? a=U (seqObj "tuple" ↑[.int n t,.str w u] e)/\w.cps.toList=c
def zI.key (k:zI h v n c):oO h v=(n,c):=by let#[a,t,w,u,e,Z,b,Z]:=k;unfold oO;dsimp only;rw[b]
section
def Zjx (h:Q (R (a.cps.toList<b.cps.toList)) s):bR (bJ prog w) A (oneLt' J (.str a t) (.str b u)) Q E s:=by rw[oneLt'_eq];simp only[Cy,if_false];calc uC (wpAny_richCompare_same (typeIs_str s a t) (typeIs_str s b u) slot_str_lt (call_str_lt #[(λz=>nomatch z),?_]));calc Da h
def Zmq:nV (bJ prog w) A E s (λp=>∃n c,zI s.heap p.1 n c) (D7 s.heap) (tuples' Y):=by
 rintro F ⟨x,p⟩ ⟨y,r⟩ Q o ⟨n,c,i⟩ ⟨m,d,k⟩ q;let e:D7 s.heap (x,p) (y,r)=y9 (n,c) (m,d):=by unfold D7;rw[i.key,k.key]
 rw[e]at q;let#[a,t,v,u,D,Z,B,Z]:=i;let#[b,l,g,C,z,Z,h,Z]:=k;rw[lt'_eq];calc wF (wpS_get ?_);rw[o,Zhg];calc wF (wpS_lift (Ek (uC (listItems_at B Z (uC (listItems_at h Z ?_))))));show bR _ _ (forIn [((eG n t,eG m l),0),((ek v u,ek g C),1)] _ _ >>= _) _ _ _;rw[List.forIn_cons];calc uC (uC (uC (wpAny_eqBool_int ?_)));by_cases f:n=m
 .subst f;rw[uI {}];calc uS ?_;dsimp only;rw[List.forIn_cons];calc uC (uC (eqBool_str ?_));by_cases j:v=g
  .subst j;rw[uI {}];calc uS ?_;dsimp only;rw[List.forIn_nil];calc uS ?_;dsimp only;calc uS #[Z,xN ?_];have:y9 (n,v.cps.toList) (n,v.cps.toList)=J:=by unfold y9;simp[List.lt_irrefl]
   rw[this]at q;simpa using q
  .rw[uM (~~~j)];calc uC (Zjx (uS (uS ?_)));dsimp only;calc uS #[Z,xN ?_];have:y9 (n,v.cps.toList) (n,g.cps.toList)=R (v.cps.toList<g.cps.toList):=by unfold y9;simp
   rw[this]at q;exact q
 .rw[uM (~~~f)];calc uC (oneLt_int (uS (uS ?_)));dsimp only;calc uS #[Z,xN ?_];have:y9 (n,v.cps.toList) (m,g.cps.toList)=R (n<m):=by unfold y9;simp[f]
  rw[this]at q;calc q
end
section
theorem Oz:∀ {vs:AC} {Q:List (Option bU)->AE->Prop},(∀v∈vs,∃n c,zI s.heap v n c) ->
  (∀us:AC,⇑us=⇑vs->(∀u∈us,∃n t,u=.int n t)->Q (us.map U) s)->bR (bJ prog w) A (vs.mapM firstOfTuple') Q E s
 | [],Q,_,q=>by rw[List.mapM_nil];exact uS (q [] Z {})
 | v::vs,Q,h,q=>by
  let#[n,c,a,t,x,u,e,Z,ho,Z]:=h v {};rw[List.mapM_cons];calc uC ?_;show bR _ _ (do
   if (<-typeOf (.ref a)) != .type "tuple" then return O
   return (<-Builtin.List.listItems (.ref a))[0]?) _ _ _
  calc uC (wpAny_typeOf_ref ho ?_);rw[uI (show ¬((eF "tuple" != eF "tuple")=Y) by decide)];calc uC (listItems_at ho Z (uS ?_));calc uC (Oz (λv hv=>h v (by simp[hv])) λus hl hu=>uS ?_);calc q (.int n t::us) (by simp[hl]) λu hu'=>?_;rcases vg.mp hu' with rfl | hu'
  .exact#[n,t,Z]
  .exact hu u hu'
def Zh7 (g:∀v∈vs,∃n c,zI s.heap v n c)(d:vs≠[])(q:Q (tuples' Y) s):bR (bJ prog w) A (keyKind' ↑vs) Q E s:=by
 rw[keyKind'_eq,List.mapM_toArray,map_eq_pure_bind,bind_assoc];calc uC (Oz g λa e j=>?_);rw[pure_bind,uM {}];calc uC (Co ?_);let h:IntsAre a (a.map numOf):=intsAre_map a j;let f:((a.map U).toArray.filterMap id)=↑a:=by simp
 rw[f,oneTypeOnly'_eq,List.mapM_toArray,mapM_typeOf_ints h];cases a with
 | nil=>
  cases vs with
  | nil=>exact Sa Z d
  | cons v vs=>simp at e
 | cons u a=>
  simp only[map_pure,pure_bind];let i:(List.map (λ_=>eF "int") (u::a)).toArray[0]?=U (eF "int"):=by simp
  let b:((List.map (λ_=>eF "int") (u::a)).toArray.all λz=>z == eF "int")=Y:=by rw[List.all_toArray,List.all_map,xT];exact λ_ _=>rfl
  rw[i];simp only[b,if_true,pure_bind];calc uS q
end
theorem Zjn (a g:AD):Builtin.«list.sort» #[[.ref a],[(fv "key",.ref g)]]=(do
  let its <-Builtin.List.listItems (.ref a)
  hB (.ref a) λ_=>↑[]
  let be <-seqEpoch a
  let hd <-newTuple its.toList
  let ks <-newList []
  holding [hd,ks] do
   rule "list.sort.key"
   for x in its do
    match <-(call (.ref g) [x]).attempt with
    | .ok k=>hB ks (·.push k)
    | .error e=>
     rule "list.sort.key-raised"
     let md <-Builtin.List.listItems ks
     hB ks λ_=>↑[]
     letGo md.toList.reverse [e]
     hB (.ref a) λ_=>its
     throw e
   let kys <-Builtin.List.listItems ks
   let kind <-if its.size<2 then pure general' else keyKind' kys
   let ((),v) <-(if its.size<2 then pure () else sortRuns').run (SortSt.mk' kind (kys.zip its) ↑[] 7 O)
   hB ks λ_=>↑[]
   letGo ((arrOf v).map (·.1)).toList (failedOf v).toList
   let tch:=(<-seqEpoch a) != be
   hB (.ref a) λ_=>(arrOf v).map (·.2)
   if let U e:=failedOf v then rule "list.sort.comparison-raised";throw e
   if tch then rule "list.sort.modified";raiseError "ValueError" "list modified during sort"
   ret .none):=rfl
noncomputable def Kp (h g:Heap):Prop:=∀b o,h.get? b=U o->g.get? b=U o
noncomputable def om (M:Model)(A:AH)(g:AD)(vs:AC)(b:bU->Int×uz)(s:AE):Prop:=
 ∀(E:vY)(s':AE)(v:bU)(Q:vY),v∈vs->Kp s.heap s'.heap->s'.gens=s.gens->s'.os=s.os ->
  (∀(a:AE)(k:bU),Kp s'.heap a.heap->a.gens=s'.gens->a.os=s'.os->zI a.heap k (b v).1 (b v).2->Q k a)->bR M A (call (.ref g) [v]) Q E s'
def zI.kp (k:zI h v n c)(q:Kp h g):zI g v n c:=by let#[a,t,w,u,e,d,b,f]:=k;calc#[a,t,w,u,e,d,q _ _ b,f]
def zI.up {h:Heap}{v:bU}{n:Int}{c:uz}{K:AD}{xs:Array bU}{m:Nat}{f:Obj->Obj}(k:zI h v n c)(b:h.get? K=U (seqObj "list" xs m)):zI (h.update K f) v n c:=by
 let#[a,t,w,u,e,g,d,i]:=k;calc#[a,t,w,u,e,g,?_,i];rw[(yO h K f).2 a ?_]
 .exact d
 .rintro rfl;rw[d]at b;have:=R9 Obj.cls (cx b);calc Sa (show eF "tuple"=eF "list" from this) ⋯
noncomputable def oH (h:Heap)(a:bU->Int×uz)(b vs:AC):Prop:=⇑b=⇑vs/\∀(i:Nat)(k v:bU),b[i]?=U k->vs[i]?=U v->zI h k (a v).1 (a v).2
section
theorem MA {g K a:AD}{vs:AC}{kf:bU->Int×uz}{oa:Obj}{Q:PUnit->AE->Prop}{er:bU->Sem (ForInStep PUnit)}(hc:om (bJ prog w) A g vs kf s)(hK0:s.heap.get? K=O)(ha0:a≠K)(hN:⇑vs<=sizeLine)
  (q:∀(s2:AE) ks n,Kp s.heap s2.heap->s2.gens=s.gens->s2.os=s.os->s2.heap.get? K=U (seqObj "list" ↑ks n)->oH s2.heap kf ks vs->s2.heap.get? a=U oa->Q #[] s2):
  ∀(l dn ks:AC)(s':AE)(n:Nat),vs=dn++l->Kp s.heap s'.heap->s'.gens=s.gens->s'.os=s.os->s'.heap.get? K=U (seqObj "list" ↑ks n)->oH s'.heap kf ks dn->s'.heap.get? a=U oa ->
   bR (bJ prog w) A (forIn l PUnit.unit λx _=>do
    match <-(call (.ref g) [x]).attempt with
    | .ok k=>do
     hB (.ref K) (·.push k)
     pure (im PUnit.unit)
    | .error e=>er e) Q E s'
 | [],dn,ks,s',n,hv,h1,h2,h3,h4,h5,h6=>by
  rw[zd]at hv;subst hv;rw[List.forIn_nil];exact uS (q s' ks n h1 h2 h3 h4 h5 h6)
 | x::l,dn,ks,s',n,hv,h1,h2,h3,h4,h5,h6=>by
  rw[List.forIn_cons];calc uC (uC (Ek (hc _ s' x _ (by rw[hv];simp) h1 h2 h3 λs2 k k1 k2 k3 k4=>?_)));let BQ:⇑ks<⇑vs:=by rw[h5.1,hv];simp
  let hK2:=k1 _ _ h4;calc uC (listUpdate_at hK2 Z (uS ?_) (hsz:=by rw[wC];nofun) (hsz2:=by rw[Array.size_push,wC];nofun));dsimp only;let sb:=yO s2.heap K (Obj.mapSeq λz=>z.push k);refine MA hc hK0 ha0 hN q l (dn++[x]) (ks++[k]) _ _ (by rw[hv];simp) ?_ (k2.trans h2) (k3.trans h3) (by have:=get?_update_seq hK2 (λz=>z.push k);rw[List.push_toArray]at this;calc this) ?_ ?_
  .intro b o hb;calc(sb.2 b ?_).trans (k1 b o (h1 b o hb));rintro rfl;rw[hK0]at hb;cases hb
  .refine#[by simp[h5.1],λi k' v' e1 e2=>?_];by_cases hi:i<⇑ks
   .rw[zh hi]at e1;rw[zh (by rw[<-h5.1];calc hi)]at e2;exact((h5.2 i k' v' e1 e2).kp k1).up hK2
   .let hi2:i=⇑ks:=by have:=(vT.mp e1).1;simp at this;nofun
    subst hi2;rw[zu (uV _),Cz]at e1;rw[h5.1,zu (uV _),Cz]at e2;cases e1;cases e2;exact k4.up hK2
  .exact(sb.2 a ha0).trans (k1 a oa h6)
end
section
def LR (e:oH h kf ks vs){p:gp}(a:p∈ks.zip vs):oO h p.1=kf p.2/\∃n c,zI h p.1 n c:=by
 let#[i,f,Z]:=yK a;rw[List.length_zip]at f;let d:i<⇑ks:=by nofun
 let b:i<⇑vs:=by nofun
 have:=e.2 i ks[i] vs[i] (vK d) (vK b);rw[List.getElem_zip];calc#[this.key,_,_,this]
end
def Zgi:typeLookup (.type "dict") "__len__"=pure (U (.builtin "dict.__len__")):=by rw[typeLookup_type,builtinLookup_eq_fast];kernel_rfl
theorem Mn:∀ {vs:Se} {us:AC},⇑vs=⇑us->(∀(i:Nat)(x:V)(u:bU),vs[i]?=U x->us[i]?=U u->kP x u)->kJ vs us
 | [],[],_,_=>.nil
 | [],_::_,h,_=>by simp at h
 | _::_,[],h,_=>by simp at h
 | x::vs,u::us,h,r=>.cons (r 0 x u Z Z) (Mn (~~~h) λi y v h1 h2=>r (i+1) y v h1 h2)
section
def Zhx (hh:A.handled=O)(hd:(S == iv)=J)(hS:s.heap.DictAt (wb prog w) S ls ep)(hn:⇑ls<=sizeLine)
  (hQ:∀(s':AE)(vs:AC),(∀b o,s.heap.get? b=U o->s'.heap.get? b=U o)->s'.gens=s.gens->s'.os=s.os->kJ (ls.map λp=>kV p.1) vs->Q vs s'):bR (bJ prog w) A (collect (.ref S)) Q E s:=by
 unfold collect;calc uC (wpAny_runValue (codeAny_builtin F.entry_proto_collect ?_));rw[CP F.plain_proto_collect _];show bR _ A.in1 (newList [] >>= λl=>again (.builtin "list.__iadd__" #[[l,.ref S],[]])) _ _ s;calc uC (Df (uS #[plainId_quiet F.plain_list_iadd _,codeAny_builtin F.entry_list_iadd ?_]));rw[CP F.plain_list_iadd _];generalize hH:s.heap.push { cls:=.type "list",data:=.seq ↑([]:AC) }=H;let C:H.objs.size=↥s+1:=by rw[<-hH,zO]
 let hL:H.get? ↥s=U { cls:=.type "list",data:=.seq ↑([]:AC) }:=hH▸wB _ Z;let k1:∀b o,s.heap.get? b=U o->H.get? b=U o:=λb o e=>hH▸vy _ e;let d:H.DictAt (wb prog w) S ls ep:=hS.keep k1;let hT:Shared.TypeIs { s with heap:=H } (.ref S) "dict":=d.dictOf.typeIs;let nS:S≠↥s:=wk hS.lt_size;show bR _ A.in1 (Builtin.List.listExtendWith (.ref ↥s) (.ref S) (.ref ↥s)) _ _ { s with heap:=H };unfold Builtin.List.listExtendWith;calc uC (wpAny_typeOf hT ?_);let K:Builtin.List.listSameRef (.ref ↥s) (.ref S)=J:=by simp[Builtin.List.listSameRef,uZ nS]
 let G:(eF "dict" == eF "list")=J:=by decide
 let h3:(eF "dict" == eF "tuple")=J:=by decide
 simp only[K,G,h3,Bool.or_false,Cy,if_false];calc uC (wpAny_pyIter_dict (s:={ s with heap:=H }) hd d ?_);obtain⟨I,c⟩:∃I,I=H.objs.size:=#[_,Z];obtain⟨a,h⟩:∃a,a=H.push { cls:=.type "dict_keyiterator",data:=.fields ↑[.ref S,.int 0 0,.int ⇑ls 0,.int ep 0] }:=#[_,Z];rw[<-h];show bR _ A.in1 (holding [.ref H.objs.size] (Builtin.List.listLengthHint (.ref S)) >>= _) _ _ _;rw[<-c];let V:∀b o,H.get? b=U o->a.get? b=U o:=λb o e=>by rw[h];exact vy _ e
 let hI:H.objs.size<=I:=zU c.symm;let nI:S≠I:=by rw[c];exact wk d.lt_size
 let M:a.IsKeyIter I S 0 ⇑ls ep:=#[_,by rw[h,c];calc wB _ Z,Z,Z];let t:a.DictAt (wb prog w) S ls ep:=d.keep V;let W:∀P:AH,P.handled=O->_:=λP hA=>Walks.dictKeys (prog:=prog) (w:=w) (knd:=wb prog w) (A:=P) hA I S nI ls ep;let st:=And.intro M t;let L:∀b∈[I,S],b=S\/H.objs.size<=b:=λb j=>by
  rcases vg.mp j with z | z
  .exact .inr (by rw[z];calc hI)
  .exact .inl (~~~z)
 let g:Shared.TypeIs { s with heap:=a } (.ref S) "dict":=t.dictOf.typeIs;calc uC (xZ ?_);unfold Builtin.List.listLengthHint;refine uC (wpAny_specialOf g Zgi ?_)
 wp_delta
 calc uC (wpAny_isInstance (T:="dict") (v:=.ref S) (b:=Y) g (by rw[isSubtype_type];kernel_rfl) ?_);show bR _ A.in1 (typeOf (dy S) >>= λr=>_) _ _ _;calc uC (wpAny_typeOf g ?_);calc uS ?_;rw[uM ⋯];calc uC (Co ?_);let y:a.get? ↥s=U { cls:=.type "list",data:=.seq ↑([]:AC) }:=V _ _ hL;calc uC ?_;show bR _ A.in1 (updateSeq ↥s (·.push .none) >>= λ_=>updateSeq ↥s (·.pop)) _ _ _;calc uC (wpAny_updateSeq y Z ?_);let n:=Cp (Obj.mapSeq (·.push ec)) y Z;calc wpAny_updateSeq n Z ?_;let ab:=Cp (Obj.mapSeq (·.pop)) n Z;let B:∀b o,b≠↥s->a.get? b=U o->((a.update ↥s (Obj.mapSeq (·.push ec))).update ↥s (Obj.mapSeq (·.pop))).get? b=U o:=
  λb o j e=>(Bm _ _ (uZ j)).trans ((Bm _ _ (uZ j)).trans e)
 let N:↥s+1<=I:=by rw[<-C];exact hI
 let D:↥s∉[I,S]:=λz=>by
  rcases L _ z with q | q
  .exact nS q.symm
  .let q':H.objs.size<=↥s:=q;rw[C]at q';exact Sa q' (Nat.not_succ_le_self _)
 calc uS #[plainId_quiet F.plain_extend_loop _,codeAny_extend_loopS (W A.in1 hh).toS hn _ D _ ⇑ls 0 _ _ _ Z (wf _) ((W A.in1 hh).frame 0 a _ st λb j o e=>B b o (λz=>D (z▸j)) e) ab (ItemsOf.nil _) λs' f c' X ac BR=>?_];show bR _ A (load ↥s >>= λr=>_) _ _ s';calc uC (wpAny_load ac ?_);let aa:kJ (ls.map λp=>kV p.1) f.toList:=by calc Mn (by rw[uO];calc(Array.length_toList.trans BR.1).symm) λi x u K G=>?_;rw[Eh]at G;let#[k,v,e,hk]:=BR.2 i u G;rw[wI,e]at K;cases K;exact Jy hk
 let done:=hQ s' f.toList (λb o e=>by
  let m:=vq e;calc X.heap b o (λz=>?_) (B b o (wk m) (V b o (k1 b o e)));rcases vg.mp z with q | q
  .rw[q]at m;exact xB _ m
  .let q:b=I:=by simpa using q
   rw[q]at m;calc Sa m (Nat.not_lt.mpr (Nat.le_of_succ_le N))) X.gens X.os aa
 calc uS done
end
noncomputable def uJ (l:uz):uQ:=.inr #[↑l]
def Eg (l:uz):kV (uJ l)=tx l:=rfl
section
def Zgu (k:X.calm=Y):xU X (.builtin "sorted") (λxs H Q=>∃a kvs ls,xs=[.ref a]/\Rd H a (.dK kvs)/\kvs.map (·.1)=ls.map uJ/\⇑ls<64/\kU ((xx ls).map tx) H Q):=by
 rintro S s σ H xs T Q I r ⟨a,kvs,ls,rfl,M,l,h,q⟩;let#[u,Z,B]:=r.one;cases B;let#[z,y,c,f,o,D,ep,A]:=M.ok I.hok;let K:s.heap.DictAt (wb X.prog X.w) a c ep:=#[o,D,A];let d:⇑c=⇑ls:=by rw[<-⇑f];have:=R9 fu l;simpa using this
 let t:⇑ls<=sizeLine:=by rw[<-d,<-⇑f];exact z
 let L:⇑(xx ls)<=sizeLine:=by rw[(Bq ls).length_eq];exact t
 calc xF ?_;calc Calls.call_function_entry kind_sorted plain_sorted entry_sorted (args_sorted1 _) ?_;unfold Builtin.«sorted»;calc uC (m:=checkCount "sorted" 1 1 _) (uS ?_);calc uC (Zhx (by first | calc I.ok.hd k | simpa using I.ok.hd k) y K (by rw[d];calc t) λs' E n x P j=>?_);let G:(c.map λp=>kV p.1)=ls.map tx:=by
  let w:(c.map λp=>kV p.1)=(c.map (·.1)).map kV:=by rw[wE];rfl
  rw[w,<-f.keys,l,wE];rfl
 rw[G]at j;calc Oj j h λv g e F N C=>?_;let i:s.heap.get? ↥s'=O:=by
  cases q:s.heap.get? ↥s' with
  | none=>rfl
  | some o=>exact Sa (vq (n _ _ q)) (xB _)
 calc λV=>#[.ref ↥s',_,I.laid2 (s':={ s' with heap:=v }) (o:=.lst ((xx ls).map tx)) P x (λb o z=>F b o (n b o z)) i #[by rw[uO];calc L,g,e,C,N],Z,q _ (I.hok.none_of i)]
end
def kY (l:uz)(n:Nat):uG:=xx (xH ((cc (⇑l+1-n)).map λi=>(l.drop i).take n))
theorem MV {x:uz}:∀(ls a:uG),x∈ls.foldl mI a↔x∈a\/x∈ls
 | [],a=>by simp
 | y::ls,a=>by
  rw[D9,MV ls];let h:x∈mI a y↔x∈a\/x=y:=by
   unfold mI;split
   .rename_i h
    constructor
    .exact .inl
    .rintro (q | q)
     .exact q
     .rw[q];exact h
   .rw[wM,vI]
  rw[h,vg,or_assoc]
def Mg:x∈xH ls↔x∈ls:=by unfold xH;rw[MV];simp
def ZkW (ls:uG):(xH ls).Nodup:=by rw[<-HY];exact GC _
open PySem.W (Frag)
def wX (l w:uz)(i:Nat):Prop:=i+⇑w<=⇑l/\(l.drop i).take ⇑w=w
def ve (w l:uz):Prop:=∃i,wX l w i
def Dn (l w:uz)(i:Nat):StrLaws.At #[↑l] #[↑w] ⇑(#[↑l]:Str) i↔wX l w i:=by
 let a:⇑(#[↑l]:Str)=⇑l:=xK l;let b:⇑(#[↑w]:Str)=⇑w:=xK w;unfold StrLaws.At wX Builtin.Str.subAt;rw[a,b];calc and_congr_right λh=>?_;let c:l.toArray.extract i (i+⇑w)=↑((l.drop i).take ⇑w):=by
  apply Array.ext';simp only[List.extract_toArray,List.extract_eq_take_drop];have:i+⇑w-i=⇑w:=by nofun
  rw[this]
 show (l.toArray.extract i (i+⇑w) == ↑w)=Y↔_;rw[c,Sb];calc#[λz=>by simpa using R9 Array.toList z,λz=>by rw[z]]
def wX.nil (l:uz):wX l [] 0:=#[{},{}]
def ve.nil (l:uz):ve [] l:=#[0,wX.nil l]
def ve.len (h:ve w l):⇑w<=⇑l:=by let#[i,h,_]:=h;nofun
def ve.mem (h:ve w l){c:Nat}(a:c∈w):c∈l:=by let#[i,_,h]:=h;rw[<-h]at a;calc List.mem_of_mem_drop (Ep a)
def ve.refl (l:uz):ve l l:=#[0,{},{}]
def wX.trans (c:wX v u i)(b:wX w v j):wX w u (j+i):=by
 let#[g,d]:=c;let#[f,a]:=b;calc#[∅,?_];let e:(w.drop (j+i)).take ⇑u=((((w.drop j).take ⇑v).drop i).take ⇑u):=by
  rw[List.drop_take,ES,List.take_take];congr 1
  nofun
 rw[e,a,d]
def ve.trans (b:ve u v)(a:ve v w):ve u w:=by let#[i,b]:=b;let#[j,a]:=a;calc#[_,b.trans a]
def LY (w:uz):ve w.tail w:=by
 cases w with
 | nil=>exact ve.nil _
 | cons c w=>calc#[1,by simp;nofun,{}]
def KY (w:uz):ve w.dropLast w:=#[0,{},by rw[CO,zA,GR]]
def Zo8 (h:ve v w)(b:⇑v<⇑w):ve v w.dropLast\/ve v w.tail:=by
 let#[i,c,a]:=h;cases i with
 | zero=>
  calc .inl #[0,by rw[zA];nofun,?_];rw[CO]at a ⊢;rw[GR,List.take_take];have:min ⇑v (⇑w-1)=⇑v:=by nofun
  rw[this];exact a
 | succ i=>
  calc .inr #[i,by rw[EJ];nofun,?_];rw[List.drop_tail];calc a
def Oo (h:ve v w)(b:⇑w<=⇑v):v=w:=by
 let#[i,d,a]:=h;let c:i=0:=by nofun
 subst c;rw[CO,Fs b]at a;calc a.symm
def Dj (d:n<=⇑l+1):x∈kY l n↔⇑x=n/\ve x l:=by
 unfold kY;rw[(Bq _).mem_iff,Mg,vJ];constructor
 .rintro⟨i,b,rfl⟩;let b:=xM.mp b;let a:⇑((l.drop i).take n)=n:=by rw[xw,yR];nofun
  exact#[a,i,∅,by rw[a]]
 .rintro⟨rfl,i,e,c⟩;calc#[i,xM.mpr ∅,c]
def PZ (l:uz)(n:Nat):⇑(kY l n)<=⇑l+1:=by
 unfold kY;rw[(Bq _).length_eq];have:∀(ls a:uG),⇑(ls.foldl mI a)<=⇑a+⇑ls:=by
  intro ls;induction ls with
  | nil=>intro a;simp
  | cons x ls b=>
   intro a;rw[D9];calc u8 (b _) ?_;unfold mI;split<;>simp<;>nofun
 let h:=this ((cc (⇑l+1-n)).map λi=>(l.drop i).take n) [];rw[uO,Bp]at h;unfold xH;simp only[yZ]at h
 nofun
noncomputable def zD (a st:uG)(h:uz)(c:Nat):Bool:=R ((h++[c]).tail∈a)&&!R (h++[c]∈st)
def De (a st:uG)(m h:uz):uG:=(m.filter (zD a st h)).map λc=>h++[c]
def CI (a st:uG)(m:uz):uG:=a.flatMap (De a st m)
def C4 (l m:uz)(i:Nat):uG:=(cc i).flatMap λk=>CI (kY l k) (kY l (k+1)) m
def vF (l m:uz):uG:=C4 l m (⇑l+1)
def QS (l m:uz)(i:Nat):C4 l m (i+1)=C4 l m i++CI (kY l i) (kY l (i+1)) m:=by unfold C4;rw[CD,List.flatMap_append,List.flatMap_singleton]
def RJ (a st:uG)(m h:uz):⇑(De a st m h)<=⇑m:=by unfold De;rw[uO];calc yA _ _
theorem GX {α β:Type}{f:α->List β}{b:Nat}(h:∀x,⇑(f x)<=b):∀l:List α,⇑(l.flatMap f)<=⇑l*b
 | []=>by simp
 | x::l=>by
  rw[List.flatMap_cons,vn,vQ,Nat.succ_mul];have:=h x;have:=GX h l
  nofun
def Zld (a st:uG)(m:uz):⇑(CI a st m)<=⇑a*⇑m:=GX (RJ a st m) a
def Jq {d st:uG}{m w:uz}:w∈CI d st m↔∃h c,h∈d/\c∈m/\w=h++[c]/\w.tail∈d/\w∉st:=by
 unfold CI De zD;simp only[Gz,vJ,yU,vW,Bool.not_eq_true',R4,R8];constructor
 .rintro⟨h,a,c,⟨f,e,b⟩,rfl⟩;exact#[h,c,a,f,Z,e,b]
 .rintro⟨h,c,a,f,rfl,e,b⟩;calc#[h,a,c,#[f,e,b],Z]
structure ou (l w:uz):Prop where
 ne:w≠[]
 init:ve w.dropLast l
 tail:ve w.tail l
 no:¬ve w l
def yY:w∈vF l m↔ou l w/\∃c∈m,w.getLast?=U c:=by
 unfold vF C4;rw[Gz];constructor
 .rintro⟨k,i,q⟩;let i:=xM.mp i;let#[h,c,b,f,Z,j,o]:=Jq.mp q;rw[Dj ∅]at b j;refine#[#[{},~~~b.2,j.2,λz=>o ((Dj ∅).mpr #[by simp[b.1],z])],c,f,{}]
 .rintro⟨⟨d,a,p,n⟩,c,f,g⟩;let e:w.dropLast++[c]=w:=by rw[E3 d]at g;let h:=GA d;rw[cx g]at h;exact h
  let r:⇑w.dropLast=⇑w-1:=zA;let b:1<=⇑w:=EC.mpr d;refine#[⇑w-1,xM.mpr (by have:=a.len;nofun),Jq.mpr #[w.dropLast,c,?_,f,e.symm,?_,?_]]
  .rw[Dj (by have:=a.len;nofun)];exact#[r,a]
  .rw[Dj (by have:=a.len;nofun)];exact#[EJ,p]
  .rw[Dj (by have:=a.len;nofun)];calc λz=>n z.2
def Zga:∀(n:Nat)(w:uz),⇑w=n->(∀c∈w,c∈m)->¬ve w l->∃v,v∈vF l m/\ve v w:=by
 intro n;induction n with
 | zero=>
  intro w d _ a;have:w=[]:=Cq.mp d;rw[this]at a;exact Sa (ve.nil l) a
 | succ n k=>
  intro w d h a;let b:w≠[]:=λe=>by rw[e]at d;simp at d
  by_cases j:ve w.dropLast l
  .by_cases o:ve w.tail l
   .refine#[w,yY.mpr #[#[b,j,o,a],w.getLast b,h _ (List.getLast_mem b),E3 b],ve.refl w]
   .obtain⟨v,g,f⟩:=k w.tail (by rw[EJ];nofun) (λc i=>h c (List.mem_of_mem_tail i)) o;exact#[v,g,f.trans (LY w)]
  .obtain⟨v,g,f⟩:=k w.dropLast (by rw[zA];nofun) (λc i=>h c (Ep (by rw[<-GR];calc i))) j;calc#[v,g,f.trans (KY w)]
def ny (h:H e=O)(s:ky H H2):ky H (upd H2 e o'):=λb u a=>by
 have:b≠e:=λz=>by rw[z,h]at a;cases a
 rw[uF this];calc s _ _ a
section
end
noncomputable def mH (w l:uz):Bool:=(cc (⇑l+1)).any λi=>R (i+⇑w<=⇑l)&&R ((l.drop i).take ⇑w=w)
def CB:mH w l=Y↔ve w l:=by
 unfold mH ve wX;rw[Bs];constructor
 .rintro⟨i,_,h⟩;rw[vW,Sc,Sc]at h;exact#[i,h]
 .rintro⟨i,b,a⟩;calc#[i,xM.mpr ∅,?_];rw[vW,Sc,Sc];calc#[b,a]
def P8:mH w l=J↔¬ve w l:=by rw[<-CB,Bool.not_eq_true]
def RM (w l:uz):(!(g0 #[↑l] #[↑w] 0 ⇑(#[↑l]:Str) 1).isEmpty)=mH w l:=by rw[zo,StrLaws.found_iff,CB];calc#[λ⟨i,h⟩=>#[i,(Dn l w i).mp h],λ⟨i,h⟩=>#[i,(Dn l w i).mpr h]]
section
def HR:wG X (fx .In) (λx y H Q=>∃w l,x=tx w/\y=tx l/\Q (.bl (mH w l)) H):=by rintro a s σ H x y v u Q I c b ⟨w,l,rfl,rfl,q⟩;calc NV a s σ H _ _ v u Q I c b #[_,_,Z,Z,?_];rw[RM];calc q
def OG:wG X (fx .NotIn) (λx y H Q=>∃w l,x=tx w/\y=tx l/\Q (.bl (!mH w l)) H):=by rintro a s σ H x y v u Q I c b ⟨w,l,rfl,rfl,q⟩;calc ZgX a s σ H _ _ v u Q I c b #[_,_,Z,Z,?_];rw[RM];calc q
end
section
def ZlK (G:X.calm=Y):xU X (.builtin "any") (λxs H Q=>∃(a:AD)(d:List Bool),xs=[.ref a]/\H a=U (.lst (d.map V.bl))/\Q (.bl (d.any id)) H):=by
 rintro F s σ H xs T Q I r ⟨a,d,rfl,N,q⟩;let#[u,Z,D]:=r.one;cases D;let#[_,c,n,p,S,e]:=I.lstM N;let t:s.heap.IsList a ↑c:=GO e;let m:a≠↥s:=wk (vq e);calc call_any_walkS (FO t ?_);let y:c.toArray.size=⇑d:=by rw[wC,<-⇑p,uO]
 let W:=(Walks.list (prog:=X.prog) (w:=X.w) (A:=X.A.in1) (~~~I.ok.hd G) ↥s a m ↑c).toS;refine#[↥s,_,_,_,_,_,_,λi=>d.getD i Y,Z,W,#[#[_,wB _ Z,Z,Z],t.push _],?_,λs' k=>?_]
 .intro i v s Q E B K;let M:c[i]?=U v:=by simpa using B
  let#[x,j,P]:=Lg p M;rw[wI]at j;cases f:d[i]? with
  | none=>rw[f]at j;cases j
  | some b=>
   rw[f]at j;cases j;obtain rfl:v=Value.bool b:=P;have:d.getD i Y=b:=by rw[wj,f];rfl
   let l:Q (d.getD i Y) s:=K;rw[this]at l;exact Da l
 .let L:(cc c.toArray.size).any (λi=>d.getD i Y)=d.any id:=by
   rw[y];rw[zo,Bs,Bs];constructor
   .rintro⟨i,g,h⟩;let g:=xM.mp g;rw[wj,vK g]at h;exact#[_,Dl g,h]
   .rintro⟨b,f,h⟩;let#[i,g,Z]:=yK f;calc#[i,xM.mpr g,?_];rw[wj,vK g];exact h
  rw[L];let C:uB X F σ H s':=I.call' (ch:=[]) k.os (Un.kept λb o q=>k.heap b o (λz=>?_) (vy _ q)) (I.hok.kept λb o q=>k.heap b o (λz=>?_) (vy _ q)) (by rw[show s'.gens=s.gens from k.gens];calc I.bare) (λb f=>by cases f) (I.gh.le k.toks)
  .exact#[.bl _,H,C,Z,q]
  .let z:b=↥s:=by simpa using z
   rw[z]at q;exact Sa (vq q) (xB _)
  .let z:b=↥s:=by simpa using z
   rw[z]at q;calc Sa (vq q) (xB _)
end
section
end
section
end
section
end
noncomputable def JB:bU->Int×uz
 | .str x _=>((⇑x:Nat),x.cps.toList)
 | _=>(0,[])
noncomputable abbrev Gu (x:Str)(b c a d e:Pos)(k:Nat):Expr:=.Tuple [.Call (.Name "len" b) [.Name x c] [] a,.Name x d] k e
structure qv (scope:Scope)(x:Str):Prop where
 kind:scope.kind=.function
 co:scope.isCoroutine=J
 gen:scope.isGenerator=J
 loc:scope.names.lookup x=U .local
 glb:scope.names.lookup ("len":Str)=U .globalImplicit
 nodbg:(x == ("__debug__":Str))=J
section
def ZlN (f:Str->Option NameKind){x:Str}{v:bU}(h:f x=U .local):bindL f [(x,v)] (λ_=>O) x=U v:=by unfold bindL bindL;rw[uM h,uM Z]
def ZoX 
  (ho:s.heap.get? g=U o) (D:o.data=.func (kla_fn name qual params (Gu x p1 p2 p3 p4 p5 k) scope [] pm cv ctv)) (F:s.heap.CodeRec cv qual) (S:qv scope x)
  (W:∀(s:AE)(u:bU),BindsTo s (kla_fn name qual params (Gu x p1 p2 p3 p4 p5 k) scope [] pm cv ctv) #[[u],[]] [(x,u)]) (d:A.depth<recursionLimit) (h:s.heap.NoLimit)
  (T:s.heap.Ns dq mg) (p:mg "len"=O) (H:s.heap.Ns builtinsNs mb) (C:mb "len"=cy "len") (N:∀v∈vs,∃y t,v=.str y t/\⇑y<=sizeLine):om (bJ prog w) A g vs JB s:=by
 intro E n v Q G i L M q;let#[y,t,Z,hy]:=N v G;let hs:sizeLine=16777216:=bA;calc zN (PySem.W.kla_callFunE d (i _ _ ho) D S.co S.gen Z (let ⟨c,oc,ws,tq,l,e2,r⟩:=F;#[c,oc,ws,tq,l,i _ _ e2,r]) (W _ _ _ _ _ _ ?_));calc wpAny_newFunctionEnv_cells S.kind (λz hz=>.inl (by rw[vI.mp hz];calc S.loc)) λV he f X=>?_;calc#[(h.keeps i).keeps X.toInCall.keep,PySem.W.kla_codeExpr ?_];subst he;let#[h1,aa,l]:=X.toInCall.same;let a:Kp n.heap f.heap:=X.toInCall.keep;let j:∀(K:Pos)(B:AH)(I:vY)(s2:AE)(m:vY),Kp f.heap s2.heap->m (.str y t) s2->bR (bJ prog w) B (eval (.Name x K) (newEnv scope ↥n dq (cellsFrom (↥n+1) scope.names []) (qual++".<locals>.") (U g) cv O builtinsNs)) m I s2:=λK B I s2 m k2 P=>
  wpAny_Name (wpAny_loadName_local S.kind S.loc (X.toInCall.ns.keeps k2) (by calc ZlN _ S.loc) P) S.nodbg
 calc wpAny_Tuple_spliced ?_;show bR _ _ (spliced ((J,eval (.Call (.Name "len" p1) [.Name x p2] [] p3) _)::iw p5 (bD [.Name x p4] _))) _ _ f;calc C9 ?_;calc B9 (Calls.Name_function_global S.kind S.glb (Calls.loadGlobal_builtin (v:=.builtin "len") (show f.heap.Ns dq mg from(T.keeps i).keeps a) p (show f.heap.Ns builtinsNs mb from(H.keeps i).keeps a) (C.trans Z) ?_) ⋯);calc JP ?_ Z Z;show bR _ _ (spliced ((J,eval (.Name x p2) _)::iw p3 (bD [] _))) _ _ f;calc C9 (j p2 _ _ _ _ (λ_ _ e=>e) (FK ?_));calc len_str ∅ ?_;show bR _ _ (spliced ((J,eval (.Name x p4) _)::iw p5 (bD [] _))) _ _ _;calc C9 (j p4 _ _ _ _ (λ_ _ e=>e) (FK ?_));calc#[by rw[hs];show 2<=16777216;decide,?_];rw[l];calc q _ _ (λb o e=>vy _ (by have:=a b o e;rw[l]at this;calc this)) Z Z #[_,_,_,_,_,Z,wB _ Z,Z]
end
def Zfa (a v:bU):argsOk "sorted" #[[a],[(fv "key",v)]]:=by unfold argsOk;kernel_rfl
def ZdP (a v:bU):argsOk "list.sort" #[[a],[(fv "key",v)]]:=by unfold argsOk;kernel_rfl
section
end
def lS (a b:uz):Prop:=⇑a<⇑b\/(⇑a=⇑b/\a<b)
theorem OR:∀ {a b:uz} {x y:uz},⇑a=⇑b->a<b->a++x<b++y
 | [],[],_,_,_,h=>by cases h
 | [],_::_,_,_,e,_=>by simp at e
 | _::_,[],_,_,e,_=>by simp at e
 | c::a,d::b,x,y,e,h=>by
  rw[DM,DM];cases h with
  | rel h=>exact List.Lex.rel h
  | cons h=>calc List.Lex.cons (OR (~~~e) h)
theorem OB:∀(a:uz) {c d:Nat},c<d->a++[c]<a++[d]
 | [],_,_,h=>List.Lex.rel h
 | _::a,_,_,h=>List.Lex.cons (OB a h)
theorem Ma:∀(a b:uz),a<b\/a=b\/b<a
 | [],[]=>.inr (.inl Z)
 | [],_::_=>.inl .nil
 | _::_,[]=>.inr (.inr .nil)
 | c::a,d::b=>by
  rcases Nat.lt_trichotomy c d with h | h | h
  .exact .inl (List.Lex.rel h)
  .subst h;rcases Ma a b with h | h | h
   .exact .inl (List.Lex.cons h)
   .exact .inr (.inl (by rw[h]))
   .exact .inr (.inr (List.Lex.cons h))
  .exact .inr (.inr (List.Lex.rel h))
def Zgz (l:uz)(n:Nat):(kY l n).Pairwise (· < ·):=by
 let d:(kY l n).Pairwise (λa b=>zE a b=Y):=Hy _;let c:(kY l n).Nodup:=(Bq _).nodup_iff.mpr (by rw[<-HY];calc GC _);calc(d.and c).imp ?_;rintro a b ⟨x,y⟩;let e:¬b<a:=by simpa [zE] using x
 rcases Ma a b with z | z | z
 .exact z
 .exact Sa z y
 .exact Sa z e
def Bz (B:m.Pairwise (· < ·)):(vF l m).Pairwise lS:=by
 unfold vF C4;let e:∀k w,k<=⇑l->w∈CI (kY l k) (kY l (k+1)) m->⇑w=k+1:=λk w o C=>by let#[h,c,r,_,Z,_]:=Jq.mp C;rw[Dj ∅]at r;rw[vn,r.1];rfl
 rw[List.pairwise_flatMap];refine#[λk o=>?_,?_]
 .let o:=xM.mp o;unfold CI;rw[List.pairwise_flatMap];refine#[λh D=>?_,?_]
  .unfold De;rw[CV];exact(B.filter _).imp λ{c d} n=>.inr #[{},OB h n]
  .refine List.Pairwise.imp_of_mem ?_ (Zgz l k);intro a b A v p x f y g;let t:=((Dj (l:=l) ∅).mp A).1;let u:=((Dj (l:=l) ∅).mp v).1;unfold De at f g;let#[c,_,Z]:=vJ.mp f;let#[d,_,Z]:=vJ.mp g;exact .inr #[by simp[t,u],OR (by rw[t,u]) p]
 .refine List.Pairwise.imp_of_mem ?_ List.pairwise_lt_range;intro i j s q z x f y g;let s:=xM.mp s;let q:=xM.mp q;calc .inl (by rw[e i x ∅ f,e j y ∅ g];nofun)
def F6:¬lS a a:=λh=>h.elim (λh=>xB _ h) λh=>List.lt_irrefl _ h.2
def ZjD (c:m.Pairwise (· < ·)):(vF l m).Nodup:=by unfold List.Nodup;calc(Bz c).imp λ{a b} h e=>by subst e;calc F6 h
theorem JK {α:Type}[DecidableEq α]:∀(l m:List α),l.Nodup->(∀x∈l,x∈m)->⇑l<=⇑m
 | [],m,_,_=>wf _
 | x::l,m,nd,h=>by
  let hx:=h x xy;let a:=y4.mp nd;have:=JK l (m.erase x) a.2 λy b=>(List.mem_erase_of_ne (λe=>by rw[e]at b;calc a.1 b)).mpr (h y (wU _ b));rw[List.length_erase_of_mem hx]at this;let c:0<⇑m:=List.length_pos_of_mem hx;rw[vQ]
  nofun
def ZjM (f:wX l u i)(d:wX l v j)(e:i+⇑u=j+⇑v)(g:⇑v<=⇑u):v=u.drop (⇑u-⇑v):=by
 let#[h,c]:=f;let#[k,b]:=d;let a:j=i+(⇑u-⇑v):=by nofun
 rw[<-c,xw,yR,Nat.min_eq_left ∅,List.drop_take,ES,<-a];rw[show ⇑u-(⇑u-⇑v)=⇑v by nofun];calc b.symm
def ZmI (h:ve u l)(k:Nat):ve (u.drop k) l:=by
 let#[i,b,a]:=h;by_cases c:k<=⇑u
 .refine#[i+k,by rw[yR];nofun,?_];rw[yR];have:(l.drop (i+k)).take (⇑u-k)=((l.drop i).take ⇑u).drop k:=by rw[List.drop_take,ES]
  rw[this,a]
 .rw[ER ∅];calc ve.nil l
def RD (h:w.getLast?=U c):w=w.dropLast++[c]:=by
 let b:w≠[]:=λe=>by rw[e]at h;cases h
 rw[E3 b]at h;let a:=GA b;rw[cx h]at a;calc a.symm
def Pa (f:ou l w)(b:ou l v)(k:w.getLast?=U c)(q:v.getLast?=U c)(o:wX l w.dropLast i)(n:wX l v.dropLast j)(e:i+⇑w.dropLast=j+⇑v.dropLast)(r:⇑v<=⇑w):v=w:=by
 let g:=RD k;let m:=RD q;let x:⇑w.dropLast=⇑w-1:=zA;let t:⇑v.dropLast=⇑v-1:=zA;let u:1<=⇑w:=EC.mpr f.ne;let y:1<=⇑v:=EC.mpr b.ne;let s:=ZjM o n e ∅;rw[show ⇑w.dropLast-⇑v.dropLast=⇑w-⇑v by nofun]at s;let h:(w.dropLast++[c]).drop (⇑w-⇑v)=w.dropLast.drop (⇑w-⇑v)++[c]:=FV ∅;let a:v=w.drop (⇑w-⇑v):=by let d:v.dropLast++[c]=w.dropLast.drop (⇑w-⇑v)++[c]:=R9 (·++[c]) s;rw[<-h,<-g,<-m]at d;exact d
 by_cases p:⇑v=⇑w
 .rw[a,p,Cz];rfl
 .exfalso;apply b.no;have:v=w.tail.drop (⇑w-⇑v-1):=by rw[<-List.drop_one,ES,show 1+(⇑w-⇑v-1)=⇑w-⇑v by nofun];exact a
  rw[this];calc ZmI f.tail _
noncomputable def nX (l w:uz):Nat:=((cc (⇑l+1)).find? λe=>(cc (⇑l+1)).any λi=>R (i+⇑w.dropLast=e)&&R (i+⇑w.dropLast<=⇑l)&&R ((l.drop i).take ⇑w.dropLast=w.dropLast)).getD 0
def JE (h:ve w.dropLast l):∃i,wX l w.dropLast i/\nX l w=i+⇑w.dropLast:=by
 unfold nX;cases f:(cc (⇑l+1)).find? λe=>(cc (⇑l+1)).any λi=>R (i+⇑w.dropLast=e)&&R (i+⇑w.dropLast<=⇑l)&&R ((l.drop i).take ⇑w.dropLast=w.dropLast) with
 | none=>
  let#[i,c,b]:=h;have:=List.find?_eq_none.mp f (i+⇑w.dropLast) (xM.mpr ∅);exfalso;apply this;rw[Bs];exact#[i,xM.mpr ∅,by rw[R5 Z,R5 c,R5 b];rfl]
 | some e=>
  have:=List.find?_some f;rw[Bs]at this;let#[i,_,a]:=this;simp only[vW,R4]at a;calc#[i,#[a.1.2,a.2],a.1.1.symm]
theorem E9 {α β:Type}{f:α->β}:∀ {l:List α},l.Nodup->(∀x∈l,∀y∈l,f x=f y->x=y)->(l.map f).Nodup
 | [],_,_=>by simp
 | x::l,nd,h=>by let nd':=y4.mp nd;rw[vP,y4];calc#[λz=>?_,E9 nd'.2 λa d b g=>h a (wU _ d) b (wU _ g)];let#[y,c,e]:=vJ.mp z;have:=h y (wU _ c) x xy e;rw[this]at c;calc nd'.1 c
def Ei (C:m.Pairwise (· < ·)):⇑(vF l m)<=⇑m*(⇑l+1):=by
 let F:=ZjD (l:=l) C;let n:∀x∈vF l m,∀y∈vF l m,(x.getLast?,nX l x)=(y.getLast?,nX l y)->x=y:=by
  intro x v y E e;let#[g,c,r,k]:=yY.mp v;let#[q,d,K,I]:=yY.mp E;let t:x.getLast?=y.getLast?:=R9 Prod.fst e;let H:nX l x=nX l y:=R9 Prod.snd e;let#[i,b,A]:=JE g.init;let#[j,s,G]:=JE q.init;let a:y.getLast?=U c:=by rw[<-t];exact k
  rcases Nat.le_total ⇑y ⇑x with h | h
  .exact(Pa g q k a b s ∅ h).symm
  .exact Pa q g a k s b ∅ h
 let o:=E9 (f:=λw:uz=>(w.getLast?,nX l w)) F n;let h:=JK _ (m.flatMap λc=>(cc (⇑l+1)).map λe=>(U c,e)) o λp u=>by let#[w,z,Z]:=vJ.mp u;let#[D,c,r,B]:=yY.mp z;let#[i,b,A]:=JE D.init;rw[Gz];refine#[c,r,vJ.mpr #[nX l w,xM.mpr (by have:=b.1;nofun),by rw[B]]]
 rw[uO]at h;let e:⇑(m.flatMap λc=>(cc (⇑l+1)).map λe=>(U c,e))=⇑m*(⇑l+1):=by
  rw[List.length_flatMap];have:(m.map λc=>⇑((cc (⇑l+1)).map λe=>(U c,e)))=cw ⇑m (⇑l+1):=by apply z5 {};intro i M L;simp
  rw[this,List.sum_replicate_nat]
 rw[e]at h;calc h
end L2
namespace L2
open PySem PySem.Spec PyProof.Rows PySem.W
noncomputable def zt:HO->Bool
 | .tbl _=>Y
 | _=>J
def lJ (H a:Hp):Prop:=∀b o,H b=U o->zt o=J->a b=U o
def lJ.refl (H:Hp):lJ H H:=λ_ _ e _=>e
def lJ.trans (a:lJ H H1)(b:lJ H1 H2):lJ H H2:=λc o e n=>b c o (a c o e n) n
def ky.l (s:ky H H'):lJ H H':=λb o e _=>s b o e
noncomputable def Cm (c:AD)(q:Str):HO:=.ext λh=>h.CodeRec (.ref c) q
def ZmO (x:h.CodeRec (.ref c) q):kX P w H h c (Cm c q):=by let#[f,o,b,t,e,a,r]:=id x;cases e;calc#[x,#[o,a],λi g d k=>?_];let#[f,o,b,t,e,a,r]:=d;cases e;calc#[c,o,b,t,Z,k _ a,r]
def lZ (H:Hp)(P:AD)(a:Pos)(q:Str):Prop:=∃b,H P=U (.tbl b)/\TriplesOk b.toList/\(codeAmong a b.toList=O\/∃c,codeAmong a b.toList=U (.ref c)/\H c=U (Cm c q))
def lZ.same (t:lZ H P pos q)(s:ky H H'):lZ H' P pos q:=by let#[f,e,b,h]:=t;calc#[f,s _ _ e,b,h.imp id λ⟨c,d,a⟩=>#[c,d,s _ _ a]]
def uw (h:H P=U (.tbl ↑[])):lZ H P pos q:=#[↑[],h,trivial,.inl Z]
def Ze7 {e d:Pos}{c:bU}(f:d.line≠e.line\/d.col≠e.col)(l:AC)(h:TriplesOk l):codeAmong d (l++[rawInt e.line,rawInt e.col,c])=codeAmong d l:=by
 fun_induction TriplesOk l with
 | case1=>
  simp only[CC,codeAmong,rawInt];rw[uI];intro z;simp only[vW,Sb]at z;rcases f with n | n
  .exact n (by have:=z.1;nofun)
  .exact n (by have:=z.2;nofun)
 | case2 a t b u x rest g=>
  simp only[DM,codeAmong];rw[g h]
 | case3 l j i=>calc h.elim
def oC (b:Pos)(H c:Hp):Prop:=lJ H c/\∀(e:AD)(a:Pos)(d:Str),(a.line≠b.line\/a.col≠b.col)->lZ H e a d->lZ c e a d
def oC.then (s:oC pos H H1)(t:ky H1 H2):oC pos H H2:=#[s.1.trans t.l,λc a b n T=>(s.2 c a b n T).same t]
structure nj (base:Heap)(mg:AB)(c P:AD):Prop where
 hd:CodeHd base c P
 bm:base.BuiltinsAt mg P
section
def uB.table (I:uB X BO σ H s)(f:H P=U (.tbl h))(g:Heap.ExtBut P s.heap h')(x:↥s<=c')(A:h'.CodeRec (.ref c') q)(w:h'.get? P=U (tabObj (h++more)))(j:autoParam (s.toks<=t') Xz._auto_1):
  uB X BO σ (upd (upd H P (.tbl (h++more))) c' (Cm c' q)) { s with heap:=h',toks:=t' }:=by
 let t:H c'=O:=I.hok.fresh x;let i:P≠c':=vp f t;let c:∀ {b u},H b=U u->(∀h,u≠.tbl h)->b≠P:=λe n z=>by rw[z,f]at e;exact n _ (cx e).symm
 let a:∀ {b u},H b=U u->b≠c':=λe=>vp e t;let B:∀ {b o},s.heap.get? b=U o->b≠c':=λe z=>Sa (vq e) (by rw[z];calc Nat.not_lt.mpr x);let l:∀ {b},H b=O->b≠P:=λe z=>by rw[z,f]at e;cases e
 refine I.call' (s':={ s with heap:=h',toks:=t' }) (ch:=[]) Z #[λb o e n _ _=>g b o (l n) e,λb o e n _ _=>#[o.slots,g b o (l n) e],λb o e n _=>?_,λb o e _=>?_,λb y e=>?_,λb o u e=>?_,λb C e=>?_] (λb u e=>?_) I.bare (λb z=>by cases z) ((I.gh.upd (o:=.tbl _) (λ_ z=>nomatch z) j).upd (λk z=>by unfold Cm at z;cases z) (uV _))
 .rw[uF (B e),uF (l n)];exact n
 .by_cases z:b=P
  .exact#[_,by rw[z];calc w]
  .exact#[o,g b o z e]
 .rw[uF (a e),uF (c e λ_ z=>by cases z)];exact e
 .rw[uF (a e),uF (c e λ_ z=>by cases z)];exact e
 .by_cases z:b=P
  .subst z;rw[f]at e;cases e;exact#[more,by rw[uF i,uN]]
  .exact#[↑[],by rw[uF (a e),uF z,e];simp]
 .by_cases r:b=c'
  .subst r;rw[uN]at e;cases e;exact ZmO A
  .rw[uF r]at e;by_cases p:b=P
   .subst p;rw[uN]at e;cases e;exact w
   .rw[uF p]at e;refine(I.hok b u e).stay (λd v m k=>?_) (λd k=>?_) λd y k=>?_
    .refine g d v ?_ k;rcases m with rfl | m
     .exact p
     .exact c m λ_ z=>by cases z
    .rw[uF (a k),uF (c k λ_ z=>by cases z)];exact k
    .rw[uF (a k),uF (c k λ_ z=>by cases z)];calc k
def Zla (I:uB X BO σ H s)(L:nj X.base X.mg c P)(f:X.env.code=.ref c)(A:closureFor scope X.env=pure clos)(m:defaultsOf params X.env=([],[]))
  (hq:X.env.qual++"<lambda>"=q) (T:lZ H P pos q)
  (h:∀(t:Hp)(h':Heap)(tk:Nat)(c':AD)(g:bU),oC pos H t->lZ t P pos q->(∀b,t b=O->H b=O)->uB X BO σ t { s with heap:=h',toks:=tk }->h'.CodeRec (.ref c') q->t c'=U (Cm c' q)->Q (.ref h'.objs.size) { s with heap:=h'.push (kla_obj "<lambda>" q params body scope clos ((X.mg "__name__").getD .none) c' g),toks:=tk }):
  bR (bJ X.prog X.w) X.A (eval (.Lambda params body scope pos) X.env) Q E s:=by
 let#[y,l,j,hc]:=T;let K:s.heap.get? P=U (tabObj y):=I.hok P _ l;let C:CodeHd s.heap c P:=L.hd.keeps I.bk;let F:s.heap.Ns dq X.mg:=I.mod.glob.keeps I.bk;let M:dq≠P:=λz=>by let#[o,es,ep,e,hd,_]:=F;rw[z,K]at e;cases e;cases hd
 let u:s.heap.BuiltinsAt X.mg P:=let ⟨bm,o,a1,a2,a3,a4,a5,r⟩:=L.bm;#[bm,o,a1,a2,a3,a4,I.bk _ _ a5,r];calc kla_eval m ?_;rw[hq];rcases hc with hn | ⟨c',W,k⟩
 .refine xF (kla_makeFunction A I.ok.glob F f C K j hn M u λc' g h' tk hx v BY a x=>?_);intro le;let p:H c'=O:=I.hok.fresh v;let J_:=I.table (t':=tk) l hx v a x;let w:P≠c':=vp l p;let D:(y++↑[rawInt pos.line,rawInt pos.col,dy c']).toList=y.toList++[rawInt pos.line,rawInt pos.col,.ref c']:=by simp
  refine h _ _ _ c' g #[λb o e n=>?_,λP' aa q' V T'=>?_] #[_,by rw[uF w,uN],by rw[D];calc TriplesOk_snoc _ _ _ _ j,.inr #[c',by rw[D];calc codeAmong_snoc _ j hn,uN]] (λb e=>?_) J_ a uN
  .rw[uF (vp e p),uF (λz=>by rw[z,l]at e;cases e;cases n)];exact e
  .obtain⟨S,B,t1,h1⟩:=T';let i:∀d,H d=U (Cm d q')->upd (upd H P (.tbl (y++↑[rawInt pos.line,rawInt pos.col,dy c']))) c' (Cm c' q) d=U (Cm d q'):=λd e=>by rw[uF (vp e p),uF (λz=>by rw[z,l]at e;cases e)];exact e
   by_cases z:P'=P
   .subst z;rw[l]at B;cases B;calc#[_,by rw[uF w,uN],by rw[D];calc TriplesOk_snoc _ _ _ _ j,?_];rw[D,Ze7 V _ j];exact h1.imp id λ⟨d,G,N⟩=>#[d,G,i d N]
   .exact#[S,by rw[uF (vp B p),uF z];calc B,t1,h1.imp id λ⟨d,G,N⟩=>#[d,G,i d N]]
  .by_cases z1:b=c'
   .rw[z1];exact p
   .rw[uF z1]at e;by_cases z2:b=P
    .rw[z2,uN]at e;cases e
    .rw[uF z2]at e;exact e
 .refine xF (kla_makeFunctionHit A I.ok.glob F f C K j W u λg h' tk hk ab=>?_);intro le;let a:s.heap.CodeRec (.ref c') q:=(I.hok c' _ k).1;calc h H _ _ c' g #[lJ.refl _,λ_ _ _ _ T=>T] #[y,l,j,.inr #[c',W,k]] (λb e=>e) (I.kept (t':=tk) hk) (a.keeps hk) k
def Zlb (I:uB X BO σ H s)(L:nj X.base X.mg c P)(a:X.env.code=.ref c)(k:closureFor scope X.env=pure [])(j:defaultsOf params X.env=([],[]))
  (r:X.env.qual++"<lambda>"=q) (T:lZ H P pos q)
  (h:∀(g:AD)(f:Hp)(s1:AE)(l d u:bU),oC pos H f->lZ f P pos q->(∀b,f b=O->H b=O)->uB X BO σ f s1->s1.heap.get? g=U { cls:=.type "function",data:=.func (kla_fn "<lambda>" q params body scope [] u l d) }->s1.heap.CodeRec l q->Q (.ref g) s1):
  bR (bJ X.prog X.w) X.A (eval (.Lambda params body scope pos) X.env) Q E s:=
 Zla I L a k j r T λf x p w d v m n t i _=>h _ f _ (.ref w) d _ v m n (t.kept (t':=p) λb o e=>vy _ e) (wB _ Z) (i.push _)
end
def ZjR:cy "sorted"=U (.builtin "sorted"):=rfl
noncomputable def zB:bU->uz
 | .str x _=>x.cps.toList
 | _=>[]
theorem Rq:∀ {ws:uG} {us:AC},kJ (ws.map tx) us->ws=us.map zB/\(∀v∈us,∃y t,v=.str y t/\⇑y=⇑(zB v))
 | [],_,.nil=>#[Z,λv hv=>by cases hv]
 | w::ws,_,.cons ⟨t,e⟩ r=>by
  let#[h1,h2]:=Rq (ws:=ws) r;subst e;calc#[by rw[vP,<-h1];simp[zB],λv hv=>?_];rcases vg.mp hv with rfl | hv
  .exact#[_,t,Z,by simp[zB,Str.length]]
  .exact h2 v hv
theorem NZ:∀(us:AC),(∀v∈us,∃y t,v=.str y t)->kJ ((us.map zB).map tx) us
 | [],_=>.nil
 | v::us,h=>by let#[y,t,Z]:=h v xy;calc .cons #[t,by simp[zB]] (NZ us λu a=>h u (wU _ a))
def ZoU:y9 ((⇑b:Nat),b) ((⇑a:Nat),a)=J↔¬lS b a:=by
 rw[Cw,Ne,K2];unfold lS;dsimp only;let c:((⇑b:Int)<(⇑a:Int))↔⇑b<⇑a:=by nofun
 let d:((⇑b:Int)=(⇑a:Int))↔⇑b=⇑a:=by nofun
 rw[c,d]
section
end
end L2
namespace L2
open PySem PySem.Spec PyProof.Rows
def Zg6:∀N,N<64->minRun' N N 0=N:=by decide
def nO.all (h:nO L b 0 m)(g:b.size=m):b.toList.Pairwise (Le L):=by
 rw[IK];intro i j d c f;rw[yq]at d c;let e:∀k (a:k<⇑b.toList),vH b k=b.toList[k]:=by intro k a;rw[yq]at a;unfold vH;rw[getElem?_pos b k a];simp
 rw[<-e i (~~~d),<-e j (~~~c)];calc h _ _ ∅ ∅ ∅
section
variable {M:Model}{A:AH}{E:vY}{s:AE}{D:gp->Prop}{L:gp->gp->Bool}{kd:SortKind}{st:SortSt}
def Zl7 (aa:⇑a0<64)(F:mP L)(H:nV M A E s D L kd)(W:∀u∈a0,D u)(C:kindOf st=kd)(t:failedOf st=O)(g:pendingOf st=↑[])(j:(arrOf st).toList=a0)
  (q:∀d,(arrOf d).toList.Perm a0->(arrOf d).toList.Pairwise (Le L)->failedOf d=O->Q () d):wpS M A E s sortRuns' Q st:=by
 rw[sortRuns'_eq];calc wF (wpS_get ?_);dsimp only;obtain⟨N,G⟩:∃N,N=(arrOf st).size:=#[_,Z];let X:⇑a0=N:=by rw[G,<-j,yq]
 rw[<-G];refine wF (wpS_mono (wpS_forRange (a:=0) (b:=N) (I:=λx c d=>(x=0/\c=(O,0)/\d=st)\/(c=(O,N)/\(arrOf d).toList.Perm a0/\(arrOf d).toList.Pairwise (Le L)/\failedOf d=O/\(pendingOf d).size<=1))
  (Q:=λc d=>c=(O,N)/\(arrOf d).toList.Perm a0/\(arrOf d).toList.Pairwise (Le L)/\failedOf d=O/\(pendingOf d).size<=1) ?step ?fin (.inl #[Z,Z,Z])) ?post)
 case fin=>
  rintro c d (⟨e,rfl,rfl⟩ | h)
  .let e0:a0=[]:=Cq.mp ∅;exact#[by rw[show N=0 by nofun],by rw[j],by rw[j,e0];calc .nil,t,by rw[g];calc wf _]
  .exact h
 case post=>
  rintro c d ⟨rfl,h1,h2,h3,T⟩;dsimp only;refine wF (wpS_mono (wpS_forRange (a:=0) (b:=N) (I:=λx c f=>c=(O,())/\f=d) (Q:=λc f=>c=(O,())/\f=d) ?s2 (λ_ _ h=>h) #[Z,Z]) ?p2)
  case p2=>
   rintro c f ⟨rfl,rfl⟩;exact xN (q _ h1 h2 h3)
  case s2=>
   rintro x c f _ P ⟨rfl,rfl⟩;calc wF (wpS_get ?_);rw[uM T];exact xN #[Z,Z]
 case step=>
  rintro x c d _ P (⟨rfl,rfl,rfl⟩|⟨rfl,h⟩)
  .dsimp only;rw[uI ∅];let o:∀u∈(arrOf d).toList,D u:=λu hu=>W u (by rw[<-j];calc hu);calc wF (Eq.mp (R9 (λv=>wpS M A E s (countRun' 0 (N-0)) _ v) (show setArr d (arrOf d)=d from Z)) (Zpr F H C o ∅ ∅ λb m r S K i=>?_));dsimp only;let V:=r.sz;rw[Zg6 N ∅];by_cases p:m<N
   .rw[uM p];obtain⟨n,hn⟩:∃n,n=min (N-0) N:=#[_,Z];rw[<-hn];calc wF (wpS_lift (Co #[Z,?_]));calc wF (Zpu F H C (r.d o) ∅ ∅ i λz y l=>?_);rw[uI {}];let k:=r.tr y;let B:=lj.sz k;calc wF (wpS_get ?_);rw[show (pendingOf (setArr d z)).back?=O by show (pendingOf d).back?=O;rw[g];rfl];dsimp only;let w:0+n=N:=by nofun
    rw[w]at l ⊢;calc wF (wpS_modify (xN (.inr #[Z,by rw[<-j];calc Array.perm_iff_toList_perm.mp (lj.perm k),nO.all (b:=z) l ∅,t,?_])));show ((pendingOf d).push _).size<=1;rw[g];exact uV _
   .rw[uI p];calc wF (wpS_get ?_);rw[show (pendingOf (setArr d b)).back?=O by show (pendingOf d).back?=O;rw[g];rfl];dsimp only;let w:0+m=N:=by nofun
    rw[w]at i ⊢;calc wF (wpS_modify (xN (.inr #[Z,by rw[<-j];calc Array.perm_iff_toList_perm.mp (lj.perm r),nO.all (b:=b) i ∅,t,?_])));show ((pendingOf d).push _).size<=1;rw[g];exact uV _
  .dsimp only;rw[uM (uV N)];calc xN #[Z,h]
end
section
def ZhN (hc:om (bJ prog w) A g vs kf s0)(hb:Kp s0.heap s.heap)(hg:s.gens=s0.gens)(hos:s.os=s0.os)(ha0:s0.heap.get? a=O)
  (ho:s.heap.get? a=U (seqObj "list" ↑vs n)) (hN:⇑vs<=sizeLine) (h64:⇑vs<64)
  (h:∀(s':AE)(us:AC)(e:Nat),Kp s0.heap s'.heap->s'.gens=s0.gens->s'.os=s0.os->s'.heap.get? a=U (seqObj "list" ↑us e)->us.Perm vs->us.Pairwise (λx y=>y9 (kf y) (kf x)=J)->P (.done (.ret .none)) s'):
  bR (bJ prog w) A (Builtin.«list.sort» #[[.ref a],[(fv "key",.ref g)]]) P E s:=by
 let BY:a<↥s:=vq ho;let up:=get?_update_seq ho (λ_=>↑[]);generalize hep:(if (↑[]:Array bU).size == vs.toArray.size then n else n+1)=ep at up;obtain⟨h1,hh1⟩:∃h1,h1=s.heap.update a (Obj.mapSeq λ_=>↑[]):=#[_,Z];let k1:Kp s0.heap h1:=by
  intro b o q;rw[hh1,(yO s.heap a _).2 b ?_]
  .exact hb b o q
  .rintro rfl;rw[ha0]at q;cases q
 rw[<-hh1]at up;obtain⟨K,hK⟩:∃K,K=(h1.push (seqObj "tuple" ↑vs 0)).objs.size:=#[_,Z];obtain⟨h3,hh3⟩:∃h3,h3=(h1.push (seqObj "tuple" ↑vs 0)).push (seqObj "list" ↑[] 0):=#[_,Z];let k3:Kp h1 h3:=λb o q=>by rw[hh3];exact vy _ (vy _ q)
 let oK:h3.get? K=U (seqObj "list" ↑[] 0):=by rw[hh3,hK];exact wB _ Z
 let nK:s0.heap.get? K=O:=by
  cases z:s0.heap.get? K with
  | none=>rfl
  | some o=>
   have:=vq (k1 _ _ z);rw[hK,size_push']at this;exact Sa this (Nat.not_lt.mpr (xu _))
 let aK:a≠K:=by rintro rfl;let h8:=vq up;rw[hK,size_push']at h8;exact Sa h8 (Nat.not_lt.mpr (xu _))
 subst hK;rw[Zjn];calc uC (listItems_at ho Z (uC (listUpdate_at ho Z ?_ (hsz:=by rw[wC];calc hN))));rw[<-hh1];calc uC (seqEpoch_at up Z (uC (wpAny_newTuple (uC (wpAny_newList (xZ ?_))))));calc uC (Co ?_);rw[List.forIn_toArray];show bR _ _ _ _ _ { s with heap:=(h1.push (seqObj "tuple" ↑vs 0)).push (seqObj "list" ↑[] 0) };rw[<-hh3];calc uC (MA hc nK aK hN ?_ vs [] [] { s with heap:=h3 } 0 Z (λb o q=>k3 b o (k1 b o q)) hg hos oK #[Z,λi k v e _=>by simp at e] (k3 a _ up));intro s2 ks m j1 j2 j3 j4 j5 j6;dsimp only;calc uC (listItems_at j4 Z ?_);let fin:∀v:SortSt,failedOf v=O->((arrOf v).map (·.2)).toList.Perm vs->((arrOf v).map (·.2)).toList.Pairwise (λx y=>y9 (kf y) (kf x)=J) ->
   bR (bJ prog w) A (do
    hB (.ref (h1.push (seqObj "tuple" ↑vs 0)).objs.size) λ_=>↑[]
    letGo ((arrOf v).map (·.1)).toList (failedOf v).toList
    let tch:=(<-seqEpoch a) != ep
    hB (.ref a) λ_=>(arrOf v).map (·.2)
    if let U e:=failedOf v then rule "list.sort.comparison-raised";throw e
    if tch then rule "list.sort.modified";raiseError "ValueError" "list modified during sort"
    ret .none) P E s2:=by
  intro v f1 f2 f3;let hl:=j5.1;calc uC (listUpdate_at j4 Z (uC (wpAny_letGo ?_)) (hsz:=by rw[wC];nofun));let sb:=yO s2.heap (h1.push (seqObj "tuple" ↑vs 0)).objs.size (Obj.mapSeq λ_=>↑[]);let a1:(s2.heap.update (h1.push (seqObj "tuple" ↑vs 0)).objs.size (Obj.mapSeq λ_=>↑[])).get? a=U (seqObj "list" ↑[] ep):=(sb.2 a aK).trans j6;refine uC (seqEpoch_at a1 Z (uC (listUpdate_at a1 Z ?_ (hsz2:=by
   have:=f2.length_eq;rw[yq]at this
   nofun))))
  rw[f1,bne_self_eq_false];obtain⟨out,hout⟩:∃out,out=(arrOf v).map (·.2):=#[_,Z];rw[<-hout]at f2 f3 ⊢;let a2:=get?_update_seq a1 (λ_=>out);generalize (if out.size == (↑[]:Array bU).size then ep else ep+1)=e5 at a2;let e3:↑out.toList=out:=Hg;calc uS (h _ out.toList e5 ?_ j2 j3 (by rw[e3];calc a2) f2 f3);intro b o q;refine((yO _ a _).2 b ?_).trans ((sb.2 b ?_).trans (j1 b o q))
  .rintro rfl;rw[ha0]at q;cases q
  .rintro rfl;rw[nK]at q;cases q
 let zs:(ks.toArray.zip ↑vs)=↑(ks.zip vs):=by simp
 let zm:((ks.zip vs).map (·.2))=vs:=List.map_snd_zip (by rw[j5.1];calc uV _);by_cases h2:vs.toArray.size<2
 .rw[uM h2,uM h2];calc uC (uS ?_);rw[StateT.run_pure];calc uC (uS ?_);refine fin (SortSt.mk' general' (ks.toArray.zip ↑vs) ↑[] 7 O) Z ?_ ?_
  .show ((ks.toArray.zip ↑vs).map (·.2)).toList.Perm vs;rw[zs,Array.toList_map,zm]
  .show ((ks.toArray.zip ↑vs).map (·.2)).toList.Pairwise _;rw[zs,Array.toList_map,zm]
   match vs,h2 with
   | [],_=>exact List.Pairwise.nil
   | [x],_=>exact List.pairwise_singleton _ _
   | _::_::_,h2=>simp at h2;nofun
 .rw[uI h2,uI h2];let hne:ks≠[]:=by intro e;have:=j5.1;rw[e]at this;rw[wC,<-this]at h2;simp at h2
  refine uC (Zh7 (λv hv=>?_) hne ?_)
  .obtain⟨i,hi,rfl⟩:=yK hv;let h2:i<⇑vs:=by rw[<-j5.1];exact hi
   exact#[_,_,j5.2 i ks[i] vs[i] (vK hi) (vK h2)]
  .refine uC (xq (Zl7 (a0:=ks.zip vs) (st:=SortSt.mk' (tuples' Y) (ks.toArray.zip ↑vs) ↑[] 7 O) (Q:=λ_ v=>(arrOf v).toList.Perm (ks.zip vs)/\(arrOf v).toList.Pairwise (Le (D7 s2.heap))/\failedOf v=O)
    (by rw[List.length_zip];nofun) (ZoT _) Zmq (λu hu=>(LR j5 hu).2) Z Z Z (by show (ks.toArray.zip ↑vs).toList=_;rw[zs]) λv p1 p2 p3=>#[p1,p2,p3]) ?_ λ_ _ e=>e)
   rintro⟨⟨⟩,v⟩ s3 ⟨rfl,p1,p2,p3⟩;refine fin v p3 ?_ ?_
   .rw[Array.toList_map];have:=p1.map (λp:gp=>p.2);rw[zm]at this;exact this
   .rw[Array.toList_map,CV];calc p2.imp_of_mem λ{x y} hx hy e=>?_;let e1:=(LR j5 (p1.mem_iff.mp hx)).1;let e2:=(LR j5 (p1.mem_iff.mp hy)).1;let e':y9 (oO s3.heap y.1) (oO s3.heap x.1)=J:=e;rw[e1,e2]at e';calc e'
end
section
def ZgM (v:s.heap.get? a=U (seqObj "list" ↑its n))(B:om (bJ prog w) A.in1.in1 g its kf s)(d:⇑its<=sizeLine)(i:⇑its<64)
  (h:∀(s':AE)(r:AD)(us:AC)(e:Nat),s.heap.get? r=O->Kp s.heap s'.heap->s'.gens=s.gens->s'.os=s.os->s'.heap.get? r=U (seqObj "list" ↑us e)->us.Perm its->us.Pairwise (λx y=>y9 (kf y) (kf x)=J)->Q (.ref r) s'):
  bR (bJ prog w) A (call (.builtin "sorted") [.ref a] [(fv "key",.ref g)]) Q E s:=by
 calc call_function_entry_kw kind_sorted plain_sorted entry_sorted (Zfa _ _) ?_;unfold Builtin.«sorted»;calc uC (m:=checkCount "sorted" 1 1 _) (uS ?_);calc uC (collect_list (GO v) ?_ d);let p:=yO (s.heap.push (seqObj "list" ↑[] 0)) ↥s (Obj.mapSeq (·++↑its));let f:Kp s.heap ((s.heap.push (seqObj "list" ↑[] 0)).update ↥s (Obj.mapSeq (·++↑its))):=λb o e=>(p.2 b (wk (vq e))).trans (vy _ e);generalize ((s.heap.push (seqObj "list" ↑[] 0)).update ↥s (Obj.mapSeq (·++↑its)))=g1 at f ⊢;let j:s.heap.get? g1.objs.size=O:=by
  cases z:s.heap.get? g1.objs.size with
  | none=>rfl
  | some o=>exact Sa (vq (f _ _ z)) (xB _)
 calc uC (wpAny_newList ?_ d);let c:(g1.push (seqObj "list" ↑its 0)).get? g1.objs.size=U (seqObj "list" ↑its 0):=wB _ Z;calc uC (xZ (wpAny_call_entry_kw slot_list_sort #[_,c,Z] entry_list_sort (ZhN (s0:=s) B (λb o e=>vy _ (f b o e)) Z Z j c d i λs' us e u q C l k t=>#[_,Z,?_]) (ZdP _ _)));calc uS #[_,Z,h s' _ us e j u q C l k t]
end
end L2
namespace L2
open PySem PySem.Spec PyProof.Rows PySem.W
def OP (P:AD)(lpos:Pos)(q:Str)(g:TA):TE:=λσ H Q=>g σ H λf e=>∃(a:AD)(ws:uG),f=[.ref a]/\e a=U (.lst (ws.map tx))/\(∀w∈ws,⇑w<=sizeLine)/\⇑ws<64/\lZ e P lpos q /\
 ∀(c:uG)(r:AD)(d:Hp),c.Perm ws->c.Pairwise (λa b=>¬lS b a)->oC lpos e d->lZ d P lpos q->e r=O->d r=U (.lst (c.map tx))->Q (.ref r) d
section
def ZkH (hr:lI k X.A)(L:nj X.base X.mg c P)(d:X.env.code=.ref c)(hg:Gl X "sorted")(hm:X.mg "sorted"=O)(BQ:X.mg "len"=O)(ha:PA X [e] ta)(af:closureFor scope X.env=pure [])(B:defaultsOf params X.env=([],[]))(hq:X.env.qual++"<lambda>"=q)
  (S:qv scope x) (hb:∀(s:AE)(u W cv i:bU),BindsTo s (kla_fn "<lambda>" q params (Gu x p1 p2 p3 p4 p5 kk) scope [] W cv i) #[[u],[]] [(x,u)])
  (he:‹iw pos (bD [e] X.env)=(J,eval e X.env)::iw pos (bD [] X.env)›) (ae:‹(iw pos (bD [e] X.env)).any (·.1)=J›):
  PE X (.Call (.Name "sorted" p) [e] [#[U "key",.Lambda params (Gu x p1 p2 p3 p4 p5 kk) scope lpos,kpos]] pos) (OP P lpos q ta):=by
 intro BO s σ H Q I h;calc B9 (FN I hg hm ZjR ?_);calc PyProof.Rows.callWith_kw (uW (ha pos BO s σ H _ I h) λus s1 zz=>?_) he ae;let#[vs,H1,I1,r1,q1]:=zz;let#[a,ws,Z,hH,hw,ac,T,q]:=q1;show bR _ _ (evalAll ((do let v <-eval (.Lambda params (Gu x p1 p2 p3 p4 p5 kk) scope lpos) X.env;standAt pos;pure v)::[])) _ _ s1;calc wpAny_evalAll_cons (uC (Zlb I1 L d af B hq T λg H2 s2 cv i W sl T2 fr b ho ad=>uC (EI (uS (wpAny_evalAll_nil ?_)))));let#[u,Z,ru]:=r1.one;cases ru;let aa:=sl.1 _ _ hH Z;let#[hz,f,n,r,ab,eo]:=b.lstM aa;let#[ew,hs]:=Rq r;let hN:⇑f<=sizeLine:=by rw[<-⇑r];exact hz
 let#[mb,b1,b2]:=b.mod.blt;let K:=ZoX (prog:=X.prog) (w:=X.w) (A:=X.A.in1.in1) (vs:=f) ho Z ad S (λs u=>hb s u W cv i) (show X.A.depth<recursionLimit by have:=hr.dp;nofun) (b.mod.nolimit.keeps b.bk) (b.mod.glob.keeps b.bk) BQ (b1.keeps b.bk) (b2 _ ⋯) (λv m=>by let#[y,t,E,M]:=hs v m;calc#[y,t,E,by rw[M];calc hw _ (by rw[ew];calc Dy m)])
 calc xF (ZgM eo K hN (by rw[<-⇑r,uO];calc ac) λs' D us e F kp g1 o1 er l pw=>?_);intro le;let j:∀v∈us,∃y t,v=.str y t/\⇑y=⇑(zB v):=λv m=>hs v (l.mem_iff.mp m);let rv:kJ ((us.map zB).map tx) us:=NZ us λv m=>let ⟨y,t,e,_⟩:=j v m;#[y,t,e];let ag:⇑us=⇑f:=l.length_eq;let G:H1 D=O:=fr _ (b.hok.none_of F);let J_:=b.laid2 (s':=s') (a:=D) (o:=.lst ((us.map zB).map tx)) o1 g1 kp F #[by rw[uO,uO];nofun,us,e,rv,er];let C:=b.hok.none_of F;calc#[.ref D,_,J_,Z,q (us.map zB) D _ (by rw[ew];calc l.map _) ?_ (sl.then (vG C)) (T2.same (vG C)) G uN];rw[CV];calc pw.imp_of_mem λ{y z} hy hz e=>?_;rw[<-ZoU];let#[y1,t1,E,M]:=j y hy;let#[V,N,e3,e4]:=j z hz;subst E e3;let f1:JB (.str y1 t1)=(((⇑(zB (.str y1 t1)):Nat):Int),zB (.str y1 t1)):=by rw[<-M];rfl
 let f2:JB (.str V N)=(((⇑(zB (.str V N)):Nat):Int),zB (.str V N)):=by rw[<-e4];rfl
 rw[f1,f2]at e;calc e
end
end L2
namespace L2
open PySem PySem.Spec PyProof.Rows
def yW (w:AI)(K:uH)(a:AD)(kvs:List (uQ×V)):Prop:=
 (a == iv)=J/\∃(o:Obj) (vs:List (uQ×bU)),K.lookup a=U o/\KV kvs vs/\∀(P:AG),o.IsDictOf (wb P w) vs
def yW.at_ (h:yW X.w X.K a kvs)(I:uB X BO σ H s):(a == iv)=J/\∃vs,KV kvs vs/\s.heap.DictOf (wb X.prog X.w) a vs:=by let#[z,o,vs,b,d,c]:=h;calc#[z,vs,d,Heap.dictOf_iff.mpr #[o,I.bk _ _ (I.mod.kin _ _ b),c _]]
def Ro (w:AI)(K:uH)(ty b:TE):TE:=λσ H Q=>ty σ H λy d=>b σ d λx c=>∃a kvs k,x=.ref a/\yW w K a kvs/\y=kV k/\Q (.bl (!(kK kvs k).isSome)) c
def MJ (w:AI)(K:uH)(b ty:TE):TE:=λσ H Q=>b σ H λx d=>ty σ d λy c=>∃a kvs k v,x=.ref a/\yW w K a kvs/\y=kV k/\kK kvs k=U v/\Q v c
section
variable {X:Cx}{o i:Expr}{pos:Pos}{td ty:TE}{K:uH}{w:AI}
def ZkK (B:X.K=K)(r:X.w=w)(z:PE X i ty)(n:PE X o td):PC X .NotIn i o (Ro w K ty td):=by subst B r;intro d s σ H Q I h;calc uW (z d s σ H _ I h) λF t ⟨y,v,e,C,j⟩=>uW (n d t σ v _ e j) λu L A=>?_;let#[x,f,c,E,a,m,k,p,g,D,l]:=A;subst p D;obtain rfl:u=dy a:=E;let#[q,G,b,dd]:=g.at_ c;calc wpAny_notIn_of (Bo C) q dd.mapOf ?_;rw[<-(b.val k).isSome_eq];calc#[.bl _,f,c.tok _,Z,l]
def NG (E:X.K=K)(b:X.w=w)(r:PE X o td)(C:PE X i ty)(F:sf i):PE X (.Subscript o i pos) (MJ w K td ty):=by subst E b;intro f s σ H Q I h;calc N4 PySem.F.slot_dict_getitem.lookup F (uW (r f s σ H _ I h) λu z ⟨x,B,j,M,n⟩=>uW (C f z σ B _ j n) λN T D=>?_);let#[y,m,e,G,a,q,k,v,t,g,L,l,p]:=D;subst t L;obtain rfl:u=dy a:=M;let#[S,A,d,dd]:=g.at_ e;let#[P,b,c]:=l0.some_of (v:=v) (o:=valueAt A k) (by rw[<-l];calc d.val k);calc#[dd.typeIs,wpAny_getItem_of (Bo G) dd.mapOf b #[v,m,e.tok _,c,p]]
end
noncomputable def yJ:Obj->List (Str×Tok×bU)
 | ⟨_,_,.dict es _,_⟩=>es.toList.filterMap λe=>match e.key with | .str x t=>U (x,t,e.val) | _=>O
 | _=>[]
noncomputable def Ef:Obj->Nat
 | ⟨_,_,.dict _ n,_⟩=>n
 | _=>0
noncomputable def Hm (w:AI)(T:List (Str×Tok×bU))(n:Nat):Obj:=#[.type "dict",O,.dict ↑(T.map λt=>(#[PyData.keyHash w.params t.1,.str t.1 t.2.1,t.2.2]:DictEntry)) n,↑[]]
noncomputable def Kw:bU->V
 | .ref b=>.ref b
 | _=>.non
noncomputable def Jg:bU->Bool
 | .ref _=>Y
 | _=>J
def Fr (T:List (Str×Tok×bU)):List (uQ×V):=T.map λt=>(.inr t.1,Kw t.2.2)
noncomputable def Eb:AJ->Bool
 | []=>Y
 | x::r=>!r.contains x&&Eb r
theorem OK:∀ {l:AJ},Eb l=Y->l.Nodup
 | [],_=>List.nodup_nil
 | x::r,h=>by unfold Eb at h;rw[vW,Bool.not_eq_true']at h;calc y4.mpr #[λz=>by rw[C7.mpr z]at h;calc Bool.noConfusion h.1,OK h.2]
def yW.of {w:AI}{K:uH}{a:AD}{o:Obj}(d:K.lookup a=U o)(l:o=Hm w (yJ o) (Ef o))(j:(a == iv)=J)(i:Eb ((yJ o).map (·.1))=Y)(c:((yJ o).all λt=>Jg t.2.2)=Y):yW w K a (Fr (yJ o)):=by
 generalize yJ o=T at *;generalize Ef o=n at *;subst l;let g:=OK i;clear i;refine#[j,_,T.map λt=>((.inr t.1:uQ),t.2.2),d,?_,λP=>#[_,_,#[Z,Z,Z],Z,?_,?_,?_]]
 .clear d g;unfold Fr;induction T with
  | nil=>exact .nil
  | cons t r f=>
   rw[zW,vW]at c;calc .cons #[Z,?_] (f c.2);let#[x,k,v]:=t;show kP (Kw v) v
   match v,c.1 with
   | .ref b,_=>exact Z
 .intro e m;let#[t,_,Z]:=vJ.mp (List.mem_toArray.mp m);exact#[.inr t.1,beq_self_eq_true _,Z]
 .clear d g c;show Pairs _ (T.map _).toArray.toList _;rw[List.toList_toArray];induction T with
  | nil=>exact .nil
  | cons t r f=>exact .cons (beq_self_eq_true _) Z f
 .rw[wE];have:(T.map ((λx=>x.1) ∘ λt=>((.inr t.1:uQ),t.2.2)))=(T.map (·.1)).map Sum.inr:=by rw[wE];rfl
  rw[this];calc List.Pairwise.map _ (λa b h e=>h (Sum.inr.inj e)) g
def Mj {w:AI}{K:uH}{a b:AD}{o:Obj}{x:Str}(d:K.lookup a=U o)(g:o=Hm w (yJ o) (Ef o))(h:nsIn K a x=U (U (.ref b))):kK (Fr (yJ o)) (.inr x)=U (.ref b):=by
 unfold nsIn at h;rw[d]at h;generalize yJ o=T at *;generalize Ef o=n at *;subst g;clear d;replace h:(match (T.map λt=>(#[PyData.keyHash w.params t.1,.str t.1 t.2.1,t.2.2]:DictEntry)).toArray.toList.find? (λe=>e.key.isStr x) with | some e=>U (U e.val) | none=>if ((T.map λt=>(#[PyData.keyHash w.params t.1,.str t.1 t.2.1,t.2.2]:DictEntry)).toArray.toList.any λe=>e.refKey)=Y then O else U O)=U (U (dy b)):=h;rw[List.toList_toArray]at h;split at h
 .rename_i e c
  injection h with h;injection h with h;clear n;induction T with
  | nil=>cases c
  | cons t r f=>
   unfold kK Fr;rw[vP,C1];rw[vP,C1]at c;by_cases z:t.1=x
   .rw[show (ek t.1 t.2.1).isStr x=Y from beq_iff_eq.mpr z]at c;injection c with c;subst c;rw[R5 (show (Sum.inr t.1:uQ)=.inr x by rw[z])];show U (Kw t.2.2)=_;rw[show t.2.2=dy b from h];rfl
   .rw[show (ek t.1 t.2.1).isStr x=J from beq_eq_false_iff_ne.mpr z]at c;rw[R6 (λe:(Sum.inr t.1:uQ)=.inr x=>z (Sum.inr.inj e))];exact f c
 .split at h<;>cases h
noncomputable def qB (o:Obj):Option AJ:=match o.data with
 | .seq its _=>if its.size<=100 then its.toList.mapM λv=>match v with | .str x _=>U x | _=>O else O
 | _=>O
theorem JS:∀ {vs:AC} {xs:AJ},(vs.mapM λv=>match v with | .str x _=>U x | _=>O)=U xs->kJ (xs.map V.str) vs
 | [],xs,h=>by
  rw[List.mapM_nil]at h;cases h;exact .nil
 | v::vs,xs,h=>by
  rw[List.mapM_cons]at h
  match v,h with
  | .str x t,h=>
   cases e:vs.mapM (m:=Option) λv=>match v with | .str x _=>some x | _=>none with
   | none=>rw[e]at h;cases h
   | some ys=>
    rw[e]at h;cases h;calc .cons #[t,Z] (JS e)
theorem RO:∀ {xs:AJ} {us:AC},kJ (xs.map V.str) us->us.map qi=(xs.map V.str).map U
 | [],_,.nil=>rfl
 | _::_,_,.cons ⟨_,e⟩ r=>by rw[vP,vP,vP,RO r,e];rfl
def ML {K:uH}{H:Hp}{a:AD}{o:Obj}{xs:AJ}(c:K.lookup a=U o)(d:o.cls=.type "tuple")(h:qB o=U xs):wP K H a (xs.map V.str):=by
 unfold qB at h;split at h
 .rename_i b n e
  split at h
  .rename_i z
   exact .inr #[_,b,n,c,d,e,u8 z (by rw[bA];decide),JS h,RO (JS h)]
  .cases h
 .cases h
abbrev qa (l:uz):Str:=#[↑l]
inductive pG (K:uH)(a:AD):List (Str×AJ)->Prop
 | nil:pG K a []
 | cons:∀ {x:Str} {b:AD} {o:Obj} {xs:AJ} {r},nsIn K a x=U (U (.ref b))->K.lookup b=U o->o.cls=.type "tuple"->qB o=U xs->pG K a r->pG K a ((x,xs)::r)
inductive pV (K:uH)(a:AD):List (Str×Str)->Prop
 | nil:pV K a []
 | cons:∀ {x y:Str} {b:AD} {r},nsIn K a x=U (U (.ref b))->nsIn K dq y=U (U (.ref b))->pV K a r->pV K a ((x,y)::r)
def NL (w:AI)(K:uH)(a:AD)(L:List (Str×AJ)):Prop:=∃kvs,yW w K a kvs/\∀p∈L,∃b,kK kvs (.inr p.1)=U (.ref b)/\∀H,wP K H b (p.2.map V.str)
def qK (w:AI)(K:uH)(a:AD)(L:List (Str×AJ)):Prop:=∃kvs,yW w K a kvs/\(∀p∈L,∃b,kK kvs (.inr p.1)=U (.ref b)/\∀H,wP K H b (p.2.map V.str))/\∀x,x∉L.map (·.1)->kK kvs (.inr x)=O
theorem Pp {x:Str}:∀ {T:List (Str×Tok×bU)},x∉T.map (·.1)->kK (Fr T) (.inr x)=O
 | [],_=>rfl
 | t::r,h=>by rw[vP,vg,not_or]at h;unfold kK Fr;rw[vP,C1,R6 (λe:(Sum.inr t.1:uQ)=.inr x=>h.1 (Sum.inr.inj e).symm)];calc Pp h.2
def Mo (w:AI)(K:uH)(c:AB)(a:AD)(L:List (Str×Str)):Prop:=∃kvs,yW w K a kvs/\∀p∈L,∃b,kK kvs (.inr p.1)=U (.ref b)/\c p.2=U (.ref b)
def NL.of {w:AI}{K:uH}{a:AD}{o:Obj}{L:List (Str×AJ)}(b:K.lookup a=U o)(d:o=Hm w (yJ o) (Ef o))(f:(a == iv)=J)(m:Eb ((yJ o).map (·.1))=Y)(i:((yJ o).all λt=>Jg t.2.2)=Y)(h:pG K a L):NL w K a L:=by
 calc#[_,yW.of b d f m i,λp c=>?_];induction h with
 | nil=>cases c
 | cons g e l j _ k=>
  rcases vg.mp c with rfl | z
  .exact#[_,Mj b d g,λH=>ML e l j]
  .exact k z
def qK.of {w:AI}{K:uH}{a:AD}{o:Obj}{L:List (Str×AJ)}(b:K.lookup a=U o)(e:o=Hm w (yJ o) (Ef o))(i:(a == iv)=J)(q:Eb ((yJ o).map (·.1))=Y)(m:((yJ o).all λt=>Jg t.2.2)=Y)(d:(((yJ o).map (·.1)).all λx=>(L.map (·.1)).contains x)=Y)(h:pG K a L):qK w K a L:=by
 calc#[_,yW.of b e i q m,λp c=>?_,λx f=>Pp λz=>f (C7.mp (xT.mp d x z))];clear d;induction h with
 | nil=>cases c
 | cons j g n k _ l=>
  rcases vg.mp c with rfl | z
  .exact#[_,Mj b e j,λH=>ML g n k]
  .exact l z
def Mo.of {w:AI}{K:uH}{b:Heap}{d:AB}(X:K.In b)(G:b.Ns dq d){a:AD}{o:Obj}{L:List (Str×Str)}(c:K.lookup a=U o)(e:o=Hm w (yJ o) (Ef o))(g:(a == iv)=J)(l:Eb ((yJ o).map (·.1))=Y)(j:((yJ o).all λt=>Jg t.2.2)=Y)(h:pV K a L):Mo w K d a L:=by
 calc#[_,yW.of c e g l j,λp b=>?_];induction h with
 | nil=>cases b
 | cons i f _ k=>
  rcases vg.mp b with rfl | z
  .exact#[_,Mj c e i,wx X G f]
  .exact k z
def sd_at {K:uH}{c:Heap}{d:AB}{x:Str}{a b:AD}{p:AD->Prop}(X:K.In c)(G:c.Ns dq d)(e:nsIn K dq x=U (U (.ref b)))(h:p b)(e2:d x=U (.ref a)):p a:=by let f:=(wx X G e).symm.trans e2;cases f;calc h
noncomputable def oP:List (Str×AJ):=[("strip",["NAME"]),("take",["NAME"]),("put",["NAME","LETTERS"]),("drop",["NAME"]),("back",["NAME"]),("from",["NAME","LETTERS",".."]),("names",[]),("text",["NAME"]),("lacks",["NAME"]),("ask",["NAME","LETTERS"]),("often",["NAME","LETTERS"]),("most",["NAME","NUMBER"]),("lone",["NAME","NUMBER"]),("rooms",["NAME"]),("near",["NAME"]),("ring",["LETTERS"]),("same",["LETTERS","LETTERS"])]
noncomputable def qo:List (Str×Str):=[("strip","answer_strip"),("take","answer_take"),("put","answer_put"),("drop","answer_drop"),("back","answer_back"),("from","answer_from"),("names","answer_names"),("text","answer_text"),("lacks","answer_lacks"),("ask","answer_ask"),("often","answer_often"),("most","answer_most"),("lone","answer_lone"),("rooms","answer_rooms"),("near","answer_near"),("ring","answer_ring"),("same","answer_same")]
def Zim:xU X (.type "str") (λxs H Q=>∃l,xs=[tx l]/\Q (tx l) H):=by rintro a s σ H xs b Q I r ⟨l,rfl,q⟩;let#[u,Z,t,Z]:=r.one;exact PySem.P.str_of_str #[tx l,H,I,#[_,Z],q]
open PySem.W (Frag)
def NK:C5 X "str.find" (λx vs H Q=>∃l w,x=tx l/\vs=[tx w]/\∀r:Int,((r=-1/\¬ve w l)\/∃i:Nat,r=(i:Int)/\wX l w i/\∀j,j<i->¬wX l w j)->Q (.int r) H):=by
 rintro m s σ H x vs v k Q I h d ⟨l,w,rfl,rfl,q⟩;let#[t,Z]:=h;let#[u,Z,n,Z]:=d.one;calc SC.find ?_;calc#[.int _,H,I.tok _,#[_,Z],q _ ?_];rcases find_whole (#[↑l]:Str) #[↑w] with⟨b,a⟩|⟨i,b,a,f⟩
 .exact .inl #[b,λ⟨i,e⟩=>a i ((Dn l w i).mpr e)]
 .exact .inr #[i,b,(Dn l w i).mp a,λj c g=>f j c ((Dn l w j).mpr g)]
section
end
section
end
section
end
section
end
open PySem.W (Frag)
section
end
end L2
namespace L2
open PySem PySem.Spec PyProof.Rows PySem.W
def Zow {X:Cx}{K:Frag}{es:List Expr}{k:Nat}{t:Es}{a:Pos}(n:Nat)(e:X.K=K)(d:X.calm=Y)(h:FF X es t)(c:‹⇑(assignEach es X.env)=n›)(b:‹(assignEach es X.env).findIdx? (·.1)=O›):PG X (.Tuple es k a) (qc K n t):=by subst e;calc OQ d h c b
section
end
end L2
namespace L2
open PySem PySem.Spec PyProof.Rows
open PySem.W (Frag)
section
variable {tt:TT}{te:TE}{Q:VK}{τ0:St}{H:Hp}{K:Frag}{a:AD}{xs:Se}
def kF.dataF (b:Nat->Bool)(D:Hp->V->Nat->Prop)(g:∀H d y i,(∀c us,H c=U (.tup us)->d c=U (.tup us))->D H y i->D d y i)(hz:⇑xs<=100000)(I:vO K H a xs)
  (ht:∀i d v (h:i<⇑xs),ky H d->(∀H'',ky d H''->v (b i) H'')->tt (τ0.set 0 (U (xs.getD i .non))) d v)
  (he:∀i d v (h:i<⇑xs),b i=Y->ky H d->(∀y H'',ky d H''->D H'' y i->v y H'')->te (τ0.set 0 (U (xs.getD i .non))) d v)
  (hQ:∀p ys d,ky H d->H p=O->d p=U (.lst ys)->⇑ys=⇑((cc ⇑xs).filter b)->(∀(k:Nat)(y:V),ys[k]?=U y->∃i,((cc ⇑xs).filter b)[k]?=U i/\D d y i)->Q (.ref p) d):kF (By K a) τ0 (xW 0) tt te H Q:=by
 intro n L;refine⟨λi m τ u=>i<=⇑xs/\m=⇑xs-i/\(∀w:Option V,τ.set 0 w=τ0.set 0 w)/\ky H u/\∃ys,u n=U (.lst ys)/\⇑ys=⇑((cc i).filter b)/\∀(k:Nat)(y:V),ys[k]?=U y->∃j,((cc i).filter b)[k]?=U j/\D u y j,
  ⟨⇑xs,wf _,Z,λ_=>rfl,vG L,[],uN,Z,λi y h=>by simp at h⟩,?_⟩
 rintro i m τ u ⟨hi,rfl,P,s,ys,F,t,l⟩;by_cases E:i<⇑xs
 .refine .inr #[#[xs,xs[i],s.seq I,by simp[E]],λC d=>(∀w:Option V,C.set 0 w=τ0.set 0 w)/\ky H d/\∃ys,d n=U (.lst ys)/\⇑ys=⇑((cc (i+1)).filter b)/\∀(k:Nat)(y:V),ys[k]?=U y->∃j,((cc (i+1)).filter b)[k]?=U j/\D d y j,λC d q=>#[⇑xs-(i+1),∅,E,Z,q],λx H3 y=>?_];let#[Z,y]:=y;let ex:x=xs.getD i .non:=by rw[wj,y xs (s.seq I)];rfl
  subst ex;show tt (τ.set 0 (U (xs.getD i .non))) _ _;rw[P];let r:∀w:Option V,(τ0.set 0 (U (xs.getD i .non))).set 0 w=τ0.set 0 w:=λw=>by rw[List.set_set]
  calc ht i _ _ E s λH4 o=>?_;cases hb:b i with
  | false=>
   rw[uI vC];let A:(cc (i+1)).filter b=(cc i).filter b:=by rw[CD,Dc];simp[hb]
   calc#[r,s.trans o,ys,o _ _ F,by rw[A];calc t,λk y hy=>?_];let#[j,N,M]:=l k y hy;exact#[j,by rw[A];calc N,g _ _ _ _ (λc us e=>o _ _ e) M]
  | true=>
   rw[uM Z];let A:(cc (i+1)).filter b=(cc i).filter b++[i]:=by rw[CD,Dc];simp[hb]
   let fl:=yA b (cc i);rw[Bp]at fl;calc he i _ _ E hb (s.trans o) λy S G X=>#[ys,G _ _ (o _ _ F),by rw[t,bA];nofun,r,ny L ((s.trans o).trans G),ys++[y],uN,by rw[A,vn,vn,t];rfl,λk z f=>?_];let T:∀c us,S c=U (.tup us)->upd S n (.lst (ys++[y])) c=U (.tup us):=λc us h=>by rw[uF (λe=>by rw[e,G _ _ (o _ _ F)]at h;cases h)];exact h
   rw[A];by_cases W:k<⇑ys
   .rw[zh W]at f;let#[j,N,M]:=l k z f;exact#[j,by rw[zh (by rw[<-t];calc W)];calc N,g _ _ _ _ T (g _ _ _ _ (λc us e=>G _ _ (o _ _ e)) M)]
   .rw[zu ∅]at f;let B:k-⇑ys=0:=by
     rcases Nat.eq_zero_or_pos (k-⇑ys) with h | h
     .exact h
     .rw[Ci (by simp;nofun)]at f;cases f
    rw[B]at f;cases f;exact#[i,by rw[zu (by rw[<-t];nofun),<-t,B];rfl,g _ _ _ _ T X]
 .let e:i=⇑xs:=by nofun
  subst e;calc .inl #[#[xs,s.seq I,uV _],hQ n ys u s L F t l]
end
def Zmo:C5 X "str.index" (λx vs H Q=>∃l w,x=tx l/\vs=[tx w]/\ve w l/\∀i:Nat,wX l w i->(∀j,j<i->¬wX l w j)->Q (.int i) H):=by
 rintro n s σ H x vs v m Q I h d ⟨l,w,rfl,rfl,⟨k,e⟩,q⟩;let#[t,Z]:=h;let#[u,Z,o,Z]:=d.one;rcases StrLaws.occ_head (#[↑l]:Str) #[↑w] 1 (uV 1) with⟨b,a⟩|⟨i,r,b,f,a⟩
 .exact Sa ((Dn l w k).mpr e) (a k)
 .exact SC.index b #[.int _,H,I.tok _,#[_,Z],q i ((Dn l w i).mp f) λj c g=>a j c ((Dn l w j).mpr g)]
section
variable {te:TE}{Q:VK}{τ0:St}{H:Hp}{K:uH}{a:AD}{xs:Se}
def kF.pairsD (u v:Nat->V)(D:Hp->V->Nat->Prop)(f:∀H b y i,(∀c us,H c=U (.tup us)->b c=U (.tup us))->D H y i->D b y i)(hz:⇑xs<=100000)(C:vO K H a xs)(S:∀i,i<⇑xs->∃t,xs[i]?=U (.ref t)/\H t=U (.tup [u i,v i]))
  (he:∀i b L (h:i<⇑xs),ky H b->(∀y H'',ky b H''->D H'' y i->L y H'')->te ((τ0.set 0 (U (u i))).set 1 (U (v i))) b L)
  (X:∀p ys b,ky H b->H p=O->b p=U (.lst ys)->⇑ys=⇑xs->(∀(k:Nat)(y:V),ys[k]?=U y->D b y k)->Q (.ref p) b):kF (By K a) τ0 (qc K 2 (Iz (xW 0) (Iz (xW 1) um))) oV te H Q:=by
 intro g G;refine⟨λi m τ n=>i<=⇑xs/\m=⇑xs-i/\(∀w z:Option V,(τ.set 0 w).set 1 z=(τ0.set 0 w).set 1 z)/\ky H n/\∃ys,n g=U (.lst ys)/\⇑ys=i/\∀(k:Nat)(y:V),ys[k]?=U y->D n y k,
  ⟨⇑xs,wf _,Z,λ_ _=>rfl,vG G,[],uN,Z,λi y h=>by simp at h⟩,?_⟩
 rintro i m τ n ⟨hi,rfl,I,l,ys,B,F,j⟩;by_cases s:i<⇑xs
 .refine .inr #[#[xs,xs[i],l.seq C,by simp[s]],λr b=>(∀w z:Option V,(r.set 0 w).set 1 z=(τ0.set 0 w).set 1 z)/\ky H b/\∃ys,b g=U (.lst ys)/\⇑ys=i+1/\∀(k:Nat)(y:V),ys[k]?=U y->D b y k,λr b q=>#[⇑xs-(i+1),∅,s,Z,q],λx H3 y=>?_];let#[Z,y]:=y;let#[t,ht,T]:=S i s;let W:x=.ref t:=cx ((y xs (l.seq C)).symm.trans ht);subst W;calc#[t,[u i,v i],Z,.mk (l _ _ T),Z,u i,[v i],Z,v i,[],Z,Z,?_];unfold oV;dsimp only;rw[uM Z,I];let o:∀w z:Option V,((((τ0.set 0 (U (u i))).set 1 (U (v i))).set 0 w).set 1 z)=(τ0.set 0 w).set 1 z:=λw z=>by rw[List.set_comm (U (v i)) w (show (1:Nat)≠0 by decide),List.set_set,List.set_set]
  calc he i _ _ s l λy M A P=>#[ys,A _ _ B,by rw[F,bA];nofun,o,ny G (l.trans A),ys++[y],uN,by rw[vn,F];rfl,λk z d=>?_];let N:∀c us,M c=U (.tup us)->upd M g (.lst (ys++[y])) c=U (.tup us):=λc us h=>by rw[uF (λe=>by rw[e,A _ _ B]at h;cases h)];exact h
  by_cases hk:k<⇑ys
  .rw[zh hk]at d;exact f _ _ _ _ N (f _ _ _ _ (λc us e=>A _ _ e) (j k z d))
  .rw[zu ∅]at d;let E:k-⇑ys=0:=by
    rcases Nat.eq_zero_or_pos (k-⇑ys) with h | h
    .exact h
    .rw[Ci (by simp;nofun)]at d;cases d
   rw[E]at d;cases d;rw[show k=i by nofun];exact f _ _ _ _ N P
 .let e:i=⇑xs:=by nofun
  subst e;calc .inl #[#[xs,l.seq C,uV _],X g ys n l G B F j]
end
open PySem.W (Frag)
section
variable {tt:TT}{te:TE}{Q:VK}{τ0:St}{H:Hp}{K:Frag}{a:AD}{xs:Se}
def kF.listM (b:Nat->Bool)(f:Nat->V)(z:⇑xs<=100000)(r:vO K H a xs)
  (w:∀i c d (h:i<⇑xs),ky H c->(∀H'',ky c H''->d (b i) H'')->tt (τ0.set 0 (U (xs.getD i .non))) c d)
  (x:∀i c d (h:i<⇑xs),b i=Y->ky H c->(∀H'',ky c H''->d (f i) H'')->te (τ0.set 0 (U (xs.getD i .non))) c d)
  (t:∀p c,ky H c->H p=O->c p=U (.lst (((cc ⇑xs).filter b).map f))->Q (.ref p) c):kF (By K a) τ0 (xW 0) tt te H Q:=
 .dataF b (λ_ y i=>y=f i) (λ_ _ _ _ _ h=>h) z r w (λi c d h o s q=>x i c d h o s λH'' l=>q _ H'' l Z) λp A c s n e g v=>t p c s n (by rw[e];congr 2;calc z5 (by rw[uO];calc g) λk u B=>?_;let#[j,m,e]:=v k _ (vK u);rw[e,List.getElem_map,(vT.mp m).2])
def kF.tupsM (P:Nat->Se->Prop)(w:⇑xs<=100000)(u:vO K H a xs)
  (x:∀i b c (h:i<⇑xs),ky H b->(∀p vs H'',ky b H''->H'' p=U (.tup vs)->P i vs->c (.ref p) H'')->te (τ0.set 0 (U (xs.getD i .non))) b c)
  (v:∀p ys b,ky H b->H p=O->b p=U (.lst ys)->⇑ys=⇑xs->(∀i y,ys[i]?=U y->∃t vs,y=.ref t/\b t=U (.tup vs)/\P i vs)->Q (.ref p) b):kF (By K a) τ0 (xW 0) oV te H Q:=
 .dataF (λ_=>Y) (λH y i=>∃t vs,y=.ref t/\H t=U (.tup vs)/\P i vs) (λ_ _ _ _ k ⟨t,vs,e,h,p⟩=>#[t,vs,e,k _ _ h,p]) w u (λi b c _ _ q=>q b (ky.refl _)) (λi b c h _ s q=>x i b c h s λp vs H'' m e o=>q _ H'' m #[p,vs,Z,e,o]) λp ys b s n e d g=>by let r:(cc ⇑xs).filter (λ_=>Y)=cc ⇑xs:=List.filter_eq_self.mpr λ_ _=>rfl;rw[r]at d g;rw[Bp]at d;calc v p ys b s n e d λi y l=>?_;let#[j,f,h]:=g i y l;rw[List.getElem?_range (by have:=(vT.mp l).1;nofun)]at f;cases f;calc h
end
section
def Nb {it t:AD}{a:Array bU}(e:t≠it):∀(n i:Nat)(s:AE)(Q:AC->AE->Prop),s.heap.IsListIter it t i->s.heap.IsList t a->i+n<=a.size ->
  (∀h',h'.IsListIter it t (i+n)->Heap.SameBut it s.heap h'->Q ((a.toList.drop i).take n) { s with heap:=h' })->bR (bJ prog w) A (draw (.ref it) n) Q E s
 | 0,i,s,Q,hit,_,_,hQ=>by
  show bR _ _ (pure []) Q E s;exact uS (by simpa using hQ s.heap hit (Heap.SameBut.refl ..))
 | n+1,i,s,Q,hit,ht,hle,hQ=>by
  let BY:i<a.size:=by nofun
  show bR _ _ (pyNext (.ref it) >>= _) Q E s;calc uC (wpAny_pyNext_list_item hit ht (x:=a[i]) (by simp[BY]) λj c d=>?_);calc uC (xZ (Nb e n (i+1) _ _ c (ht.extBut d.extBut e) ∅ λf b g=>uS ?_));let h:a.toList.drop i=a[i]::a.toList.drop (i+1):=by simp[Gp,BY]
  have:=hQ f (by rw[show i+(n+1)=i+1+n by nofun];calc b) (d.trans g);rw[h,List.take_succ_cons]at this;calc this
def ZdR (m:A.handled=O)(f:s.heap.IsList t items)
  (n:∀h',Heap.ExtBut ↥s s.heap h'->Q items.toList { s with heap:=h' }):bR (bJ prog w) A (unpackItems (.ref t) items.size O) Q E s:=by
 let k:t≠↥s:=by let#[o,p,_]:=f;exact wk (vq p)
 unfold unpackItems;calc uC ?_;unfold notIterableAtAll;calc uC (wpAny_specialOf f.typeIs PySem.slot_list_iter.lookup ?_);calc uS ?_;simp only[Cy,if_false];calc uC (xZ (FO f ?_));calc uC (xZ (Nb k items.size 0 _ _ #[_,wB _ Z,Z,Z] (f.push _) ∅ λj a c=>?_));let d:List.take items.size (List.drop 0 items.toList)=items.toList:=by rw[CO];exact Fs {}
 rw[d];rw[uI {}];let h:j.IsList t items:=(f.push _).extBut c.extBut k;calc uC (xZ (wpAny_pyNext_list_end m a h {} λg i=>?_));simp only[Option.isSome_none,Cy,if_false];calc uS (n g λb o l e=>i b o l (c.extBut b o l (vy _ e)))
end
section
def gLst (K:uH)(n:Nat)(t:Es):TG:=λv σ H Q=>∃a xs,v=.ref a/\vO K H a xs/\⇑xs=n/\t xs σ H Q
def Kl (z:X.calm=Y)(h:FF X es t)
  (q:‹⇑(assignEach es X.env)=n›) (d:‹(assignEach es X.env).findIdx? (·.1)=O›):PG X (.Tuple es k pos) (gLst X.K n t):=by
 intro i s σ H v u Q I r f;let#[a,A,w,x,j,f]:=f;subst w;cases r;let#[c,g,y,B]:=I.list x;rw[assign_Tuple];calc uC (EI ?_);unfold unpack;rw[show ⇑(assignEach es X.env)=c.toArray.size by simp[q,<-j,⇑g],d];calc uC (xZ (ZdR (I.ok.hd z) y.isList λl p=>?_));let m:uB X i σ H { s with heap:=l }:=I.kept (t':=s.toks) λb o e=>p b o (wk (vq e)) e;calc h i _ σ H A _ Q m (~~~g) f
end
open PySem.W (Frag)
section
def kF.inv (v:Nat->V)(G:n<=100000)(c:AD->Nat->Se->Hp->Prop)(C:∀a,H a=O->c a 0 [] (upd H a (.lst [])))
  (r:∀a i ys b,i<n->c a i ys b->J_.go i b) (p:∀a ys b,c a n ys b->J_.stop n b) (z:∀a i ys b x k,i<n->c a i ys b->J_.yld i b x k->k=b/\x=v i)
  (E:∀a i ys b (u:VK),H a=O->i<n->⇑ys=i->c a i ys b->(∀y o,o a=U (.lst ys)->c a (i+1) (ys++[y]) (upd o a (.lst (ys++[y])))->u y o)->te (τ0.set 0 (U (v i))) b u)
  (A:∀a ys b,H a=O->⇑ys=n->c a n ys b->Q (.ref a) b):kF J_ τ0 (xW 0) oV te H Q:=by
 intro a s;calc#[λi m τ d=>i<=n/\m=n-i/\(∀w:Option V,τ.set 0 w=τ0.set 0 w)/\∃ys,⇑ys=i/\c a i ys d,#[n,wf _,Z,λ_=>rfl,[],Z,C a s],?_];rintro i m τ d ⟨F,rfl,t,ys,l,g⟩;by_cases j:i<n
 .refine .inr #[r a i ys d j g,λh b=>(∀w:Option V,h.set 0 w=τ0.set 0 w)/\∃ys,⇑ys=i+1/\c a (i+1) ys b,λh b q=>#[n-(i+1),∅,j,Z,q],λx k y=>?_];let#[Z,Z]:=z a i ys d x k j g y;show te (τ.set 0 (U (v i))) _ _;rw[t];let f:∀w:Option V,(τ0.set 0 (U (v i))).set 0 w=τ0.set 0 w:=λw=>by rw[List.set_set]
  exact E a i ys _ _ s j l g λy o D B=>#[ys,D,by rw[l,bA];nofun,f,_,by rw[vn,l];rfl,B]
 .let e:i=n:=by nofun
  subst e;calc .inl #[p a ys d g,A a ys d s l g]
def kF.invR {d:Int}{n:Nat}(k:n<=100000)(c:AD->Nat->Se->Hp->Prop)(l:∀a,H a=O->c a 0 [] (upd H a (.lst [])))
  (j:∀a (i:Nat) ys b (f:VK),H a=O->i<n->⇑ys=i->c a i ys b->(∀y e,e a=U (.lst ys)->c a (i+1) (ys++[y]) (upd e a (.lst (ys++[y])))->f y e)->te (τ0.set 0 (U (.int (d+i)))) b f)
  (g:∀a ys b,H a=O->⇑ys=n->c a n ys b->Q (.ref a) b):kF (Bu d n) τ0 (xW 0) oV te H Q:=
 .inv (λi=>.int (d+i)) k c l (λ_ i _ _ h _=>h) (λ_ _ _ _=>uV _) (λ_ i _ b x m _ _ y=>y) j g
end
end L2
namespace L2
open PySem PySem.Spec PyProof.Rows PySem.Builtin.Str
def tOr2 (b a:TE):TE:=λσ H Q=>b σ H Q\/a σ H Q
def zc (c:PE X e t1)(b:PE X e t2):PE X e (tOr2 t1 t2):=λa s σ H Q I h=>h.elim (c a s σ H Q I) (b a s σ H Q I)
section
end
end L2
namespace L2
open PySem PySem.Spec PyProof.Rows
def LQ:mroOf (.type "dict")=pure [.type "dict",.type "object"]:=by rw[mroOf_type];kernel_rfl
def Zfl:typeLookup (.type "dict") "__new__"=pure (U (.builtin "dict.__new__")):=by rw[typeLookup_type,builtinLookup_eq_fast];kernel_rfl
def ZjP:TypeCalled "dict" "dict.__new__" "dict.__init__":=
 #[nofun,nofun,#[_,_,LQ],madeBy_type LQ Zfl nofun,nofun,by rw[isSubtype_type];kernel_rfl,F.slot_dict_init]
def ZgF (a:bU):checkTypeCall "dict" #[[a],[]]=pure ():=by kernel_rfl
def ZhY (a:bU):checkBuiltinCall "dict.__new__" #[[.type "dict",a],[]]=pure ():=by kernel_rfl
def Zgn:entryFor table "dict.__new__"=U Builtin.«dict.__new__»:=entryFor_of_tree (by kernel_rfl)
def OO:plainId "dict.__new__"=Y:=by decide +kernel
def OT:entryFor table "dict.update.loop"=U Builtin.«dict.update.loop»:=entryFor_of_tree (by kernel_rfl)
def Jh:plainId "dict.update.loop"=Y:=by decide +kernel
def ZgJ:isSubtype (.type "dict") (.type "dict")=pure Y:=by rw[isSubtype_type];kernel_rfl
def Zk3:typeLookup (.type "list") "keys"=pure O:=by rw[typeLookup_type,builtinLookup_eq_fast];kernel_rfl
noncomputable abbrev oy:Obj:={ cls:=.type "dict",data:=.dict ↑[] }
section
def Zpo (a:bU){Q₁:vY}(h:Q₁ (.ref ↥s) { s with heap:=s.heap.push oy }):
  codeAny (bJ prog w) A (.call (.builtin "dict.__new__") #[[.type "dict",a],[]]) (wants Q₁ E) s:=by
 calc codeAny_of_tree ?_;show bR _ A.in1 (checkBuiltinCall "dict.__new__" #[[.type "dict",a],[]] >>= λ_=>again (.builtin "dict.__new__" #[[.type "dict",a],[]])) _ _ s;calc uC (wpAny_of_eq (ZhY a) (uS #[plainId_quiet OO _,codeAny_builtin Zgn ?_]));rw[CP OO _];unfold Builtin.«dict.__new__»;let c:=ZgJ;let b:=LQ;let#[e,g,d,i,f]:=s;dsimp only
 wp_walk
 calc h
def Zk4 (m:s.heap.get? a=U o)(n:o.cls=.type "list")(f:o.data=.seq xs k)(p:o.dict=O)(v:A.handled=O)
  (h:∀h' tk,(∀b ob,s.heap.get? b=U ob->h'.get? b=U ob)->Q O { s with heap:=h',toks:=tk }):
  bR (bJ prog w) A (getAttr? (.ref a) "keys") Q E s:=by
 let#[c,t,x,r]:=o;simp only at n f p;subst n f p;let#[q,g,d,tk,u]:=s;let l:∀j,(#[q,g,d,j,u]:AE).TypeIs (.ref a) "list":=λ_=>#[_,m,Z];let z:=sub_AttributeError;let C:=F.slot_list_getattribute.lookup;let D:=F.slot_list_getattribute.bind (.ref a);let H:=am_list_getattr_none;unfold getAttr? getAttrBy? getAttrBy;repeat (any_goals (first | assumption | calc l _ | ((with_reducible show bR _ _ (call (Value.builtin "list.__getattribute__") _ _) _ _ _);calc call_meets F.slot_list_getattribute (l _) am_entry_list_getattribute (F.args_list_getattribute_2 _ _) (meets_getattribute_miss_list a xs k r "keys" _ Zk3 nofun) ⟨m,v,λh' j e i=>?_⟩) | wp_step))
 let#[B,y,G]:=i.there;show bR _ _ (getattributeRaised _ _ _ _ _ _ _) _ _ _;unfold getattributeRaised;repeat (any_goals (first | assumption | wp_step))
 calc h _ _ i.keeps
def nP (P:AG)(w:AI)(h:Heap)(u:bU)(x:uQ×bU):Prop:=∃b a,u=.ref b/\h.IsTuple b ↑[a,x.2]/\(wb P w).is x.1 a=Y
def nP.keep {h h':Heap}{u:bU}{x:uQ×bU}{d It l:AD}{i:Nat}{kvs:List (uQ×bU)}(p:nP prog w h u x)(s:h.DictOf (wb prog w) d kvs)(q:h.IsListIter It l i)(k:∀b o,b≠d->b≠It->h.get? b=U o->h'.get? b=U o):nP prog w h' u x:=by
 let#[b,m,Z,#[o,g,j,r],n]:=p;let#[v,_,_,a,f,_]:=s;let#[t,e,c,_]:=q;refine#[b,m,Z,#[o,k b o (λz=>?_) (λz=>?_) g,j,r],n]
 .subst z;rw[g]at a;cases a;have:=f.1;rw[j]at this;exact Sa this ⋯
 .subst z;rw[g]at e;cases e;rw[j]at c;calc Sa c ⋯
def Zf9 (kvs:List (uQ×bU))(k:uQ)(v:bU):⇑(stored kvs k v)<=⇑kvs+1:=by unfold stored;split<;>simp
def ZmM {T:Result->AE->Prop}{l It d:AD}{us:AC}(hh:A.handled=O)(I:It≠d)(n2:l≠d)(n3:l≠It):∀(xs:List (uQ×bU)) (i:Nat) (n:Int) (tk:Tok) (s:AE) (kvs:List (uQ×bU)),i+⇑xs=⇑us ->
  (∀j x,xs[j]?=U x->∃u,us[i+j]?=U u/\nP prog w s.heap u x)->s.heap.IsListIter It l i->s.heap.IsList l ↑us->s.heap.DictOf (wb prog w) d kvs->⇑kvs+⇑xs<=sizeLine ->
  (∀h' g,(∀b o,b≠d->b≠It->s.heap.get? b=U o->h'.get? b=U o)->h'.DictOf (wb prog w) d (xs.foldl (λa x=>stored a x.1 x.2) kvs)->T (.ok (.ret .none)) { s with heap:=h',toks:=g }) ->
  codeAny (bJ prog w) A (.builtin "dict.update.loop" #[[.ref d,.ref It,.int n tk,.none],[]]) T s:=by
 intro xs;induction xs with
 | nil=>
  intro i n tk s kvs v D h p k W C;calc codeAny_builtin OT ?_;rw[CP Jh _];show bR _ A.in1 (pyNext (.ref It) >>= λr=>_) _ _ s;calc uC (wpAny_pyNext_list_end (by simp[hh]) h p (by simp at v;simp[v]) λh' S=>?_);dsimp only;unfold Builtin.Dict.addKeywords
  wp_walk
  exact C h' _ (λb o m h e=>S b o h e) (k.extBut S (uZ I))
 | cons x xs ih=>
  intro i n tk s kvs v D h p k W C;calc codeAny_builtin OT ?_;rw[CP Jh _];show bR _ A.in1 (pyNext (.ref It) >>= λr=>_) _ _ s;let#[u,hu,pu]:=D 0 x Z;calc uC (wpAny_pyNext_list_item h p (x:=u) (~~~hu) λz N c=>?_);let H:=pu.keep k h (h':=z) (λb o _ m e=>(c.2 b m).trans e);let#[b,Q,Z,m,hk]:=H;let hT:Shared.TypeIs { s with heap:=z } (.ref b) "tuple":=m.typeIs;let B:z.DictOf (wb prog w) d kvs:=k.sameBut c (uZ I);let F:z.IsList l ↑us:=(let ⟨o,P,r⟩:=p;#[o,(c.2 l n3).trans P,r]);dsimp only;calc uC (xZ (uC (wpAny_tryCatch ?_)));unfold Builtin.Dict.pairItems;calc uC (wpAny_typeOf hT ?_);rw[uM ⋯];let#[o,P,hc,nn,hd]:=m;calc uC (wpAny_seqItems P hd (uS ?_));show bR _ _ (holding [Q,x.2] (dictSet d Q x.2)) _ _ _;let aa:⇑kvs+(⇑xs+1)<=sizeLine:=W;calc xZ (wpAny_dictSet_pairs hk B (λh2 E f=>?_) (hsz:=by nofun));let V:∀b o,b≠d->b≠It->s.heap.get? b=U o->h2.get? b=U o:=λb o q t e=>(f.2 b q).trans ((c.2 b t).trans e);refine uS #[plainId_quiet Jh _,ih (i+1) _ _ _ _ (by have:i+(⇑xs+1)=⇑us:=v;nofun) (λj y hy=>?_) ?_ ?_ E ?_ (λh' g kp G=>C h' g (λb o q t e=>kp b o q t (V b o q t e)) G)]
  .obtain⟨u2,K,X⟩:=D (j+1) y hy;exact#[u2,by rw[<-K];congr 1;nofun,X.keep k h V]
  .obtain⟨oi,M,r⟩:=N;exact#[oi,(f.2 It I).trans M,r]
  .obtain⟨ol,L,r⟩:=F;exact#[ol,(f.2 l n2).trans L,r]
  .have:=Zf9 kvs x.1 x.2
   nofun
def ZmN {a:AD}{us:AC}{o:Obj}{M:Nat}{xs:List (uQ×bU)}{Q:vY}(K:A.handled=O)(N:s.heap.get? a=U o)(q:o.cls=.type "list")(d:o.data=.seq ↑us M)(X:o.dict=O)(hl:⇑us=⇑xs)
  (S:∀(j:Nat)(x:uQ×bU),xs[j]?=U x->∃u,us[j]?=U u/\nP prog w s.heap u x) (hz:⇑xs<=sizeLine)
  (h:∀h' f,(∀b o,s.heap.get? b=U o->h'.get? b=U o)->h'.DictOf (wb prog w) ↥s (xs.foldl (λa x=>stored a x.1 x.2) [])->Q (.ref ↥s) { s with heap:=h',toks:=f }):
  bR (bJ prog w) A (call (.type "dict") [.ref a]) Q E s:=by
 calc callType_codes (Q₁:=λg m=>g=.ref ↥s/\m={ s with heap:=s.heap.push oy }) ZjP (ZgF _) F.entry_dict_init (Zpo _ #[Z,Z]) λg m D=>?_;let#[Z,Z]:=D;let lt:=vq N;let I:(s.heap.push oy).get? ↥s=U oy:=wB _ Z;let G:Shared.TypeIs { s with heap:=s.heap.push oy } (.ref ↥s) "dict":=#[_,I,Z];calc#[G,F.args_dict_init_2 _ _,?_];unfold Builtin.«dict.__init__» Builtin.Dict.selfAndRest;calc uC (uC (wpAny_notOrdered_dict G ?_));show bR _ _ (pure (↥s,[dy a])) _ _ _;calc uS ?_;show bR _ _ (Builtin.Dict.updateFrom "dict.__init__" ↥s (.ref a) [] .none) _ _ _;unfold Builtin.Dict.updateFrom;let c:(s.heap.push oy).get? a=U o:=vy _ N;let t:Shared.TypeIs { s with heap:=s.heap.push oy } (.ref a) "list":=#[_,c,q];calc uC (wpAny_typeOf t ?_);rw[uM ⋯];calc uC (Zk4 c q d X (by simp[K]) λn T l=>?_);rw[uM (show (O:Option bU).isNone=Y from Z)];calc uC (Co ?_);let k:n.IsList a ↑us:=#[o,l _ _ c,q,M,d];let i:↥s<n.objs.size:=vq (l _ _ I);let B:a<n.objs.size:=vq (l _ _ c);show bR _ _ (pyIter (.ref a) >>= λV=>again (.builtin "dict.update.loop" #[[.ref ↥s,V,rawInt 0,.none],[]])) _ _ _;calc uC (FO k ?_);let L:∀b o,s.heap.get? b=U o->(n.push { cls:=.type "list_iterator",data:=.fields ↑[.ref a,.int 0 0] }).get? b=U o:=λb o e=>vy _ (l b o (vy _ e));let y:(n.push { cls:=.type "list_iterator",data:=.fields ↑[.ref a,.int 0 0] }).DictOf (wb prog w) ↥s []:=by let#[od,W,ep,C,r]:=Heap.DictOf.new (knd:=wb prog w) s.heap;exact#[od,W,ep,vy _ (l _ _ C),r]
 refine uS #[plainId_quiet Jh _,ZmM (by simp[K]) (Ee i) (wk lt) (wk B) xs 0 _ _ _ [] (by rw[hl];simp) (λj x hj=>?_) #[_,wB _ Z,Z,Z] (k.push _) y (~~~hz) λh' f kp p=>?_]
 .obtain⟨u,hu,b,P,rfl,⟨ob,v,r⟩,hk⟩:=S j x hj;exact#[_,~~~hu,b,P,Z,#[ob,L _ _ v,r],hk]
 .refine#[Z,h h' f (λb o e=>kp b o (wk (vq e)) (λz=>?_) (L b o e)) p];let H:=vq e;rw[z]at H;calc Sa (Nat.lt_trans H i) (xB _)
end
section
def Qw (H:Hp)(ys:Se)(xs:List (uQ×V)):Prop:=⇑ys=⇑xs/\∀(i:Nat)(y:V),ys[i]?=U y->∃(x:uQ×V)(b:AD),xs[i]?=U x/\y=.ref b/\H b=U (.tup [kV x.1,x.2])
def rDct:Se->Hp->VK->Prop:=λa H Q=>∃p ys xs,a=[.ref p]/\H p=U (.lst ys)/\Qw H ys xs/\∀d,H d=O->Q (.ref d) (upd H d (.dK (yX [] xs)))
theorem RV {w:AA}{σ:St}{H:Hp}{s:AE}(I:uB X w σ H s):∀(xs:List (uQ×V)) (ys:Se) (its:AC),kJ ys its->Qw H ys xs->∃vs:List (uQ×bU),KV xs vs/\∀(j:Nat)(x:uQ×bU),vs[j]?=U x->∃u,its[j]?=U u/\nP X.prog X.w s.heap u x
 | [],ys,its,r,⟨hl,hx⟩=>#[[],.nil,λj x h=>by simp at h]
 | x::xs,ys,its,r,⟨hl,hx⟩=>by
  cases r with
  | nil=>simp at hl
  | @cons y u ys its ry r=>
   let#[x',b,e1,Z,hb]:=hx 0 y Z;cases e1;obtain rfl:u=dy b:=ry;let#[c,l,k,_]:=I.tuple (a:=b) (xs:=[kV x.1,x.2]) (.inl (.inl hb));obtain⟨d,v',rfl,C,f⟩:∃d v',c=[d,v']/\kP (kV x.1) d/\kP x.2 v':=by
    cases l with
    | cons p q=>
     cases q with
     | cons B v=>cases v;exact#[_,_,Z,p,B]
   let#[vs,t,g]:=RV I xs ys its r #[~~~hl,λi z e=>by let#[A,m,o,n]:=hx (i+1) z e;calc#[A,m,o,n]]
   calc#[(x.1,v')::vs,.cons #[Z,f] t,λj z e=>?_];cases j with
   | zero=>
    cases e;exact#[_,Z,b,d,Z,k,Bo C]
   | succ j=>calc g j z e
def QO (l:X.calm=Y):xU X (.type "dict") rDct:=by
 rintro B s σ H t C Q I r ⟨p,e,xs,rfl,k,g,q⟩;let#[u,Z,j]:=r.one;cases j;let#[b,h,#[o,n,y,d,m,w],G]:=I.list (a:=p) (xs:=e) (.inl (.inl k));let#[t,f,x]:=RV I xs e b h g;let A:=⇑h;let D:=⇑f;let E:=g.1;calc xF (ZmN (I.ok.hd l) y d w m ∅ x ∅ λz c v i=>?_);intro F;refine#[.ref ↥s,_,I.laid (t':=c) v (uV _) (FU (kvs:=yX [] xs) ?_ ?_ (KV.merge f .nil) i),Z,q _ I.fresh]
 .have:=HP xs [];simp only[yZ]at this
  nofun
 .exact beq_eq_false_iff_ne.mpr (uZ (wk I.big))
end
noncomputable def noStar:Expr->Bool
 | .Starred ..=>J
 | _=>Y
def Zn3 (h:noStar e=Y):bD (e::es) env=(J,eval e env)::bD es env:=by cases e<;>first | rfl | cases h
noncomputable def Nc:Stmt->List Expr
 | .Return (some (.Subscript (.List es _) _ _)) _=>es
 | .Assign _ (.List es _) _=>es
 | .Assign _ (.Subscript (.List es _) _ _) _=>es
 | .For _ (.List es _) _ _ _=>es
 | _=>[]
def QC (es:List Expr):Stmt->Stmt
 | .Return (some (.Subscript (.List _ p) i q)) r=>.Return (U (.Subscript (.List es p) i q)) r
 | .Assign g (.List _ p) q=>.Assign g (.List es p) q
 | .Assign g (.Subscript (.List _ p) i q) r=>.Assign g (.Subscript (.List es p) i q) r
 | .For g (.List _ p) b o r=>.For g (.List es p) b o r
 | s=>s
structure IZ (X:Cx)(es:List Expr)(t:TA):Prop where
 h:PA X es t
def Ov:IZ X [] pZ:=#[uA]
def yD (a:PE X e te)(b:IZ X es t)(h:‹noStar e=Y›):IZ X (e::es) (Mf te t):=#[uy a b.h (Zn3 h)]
def Ry (a:IZ X es t):PE X (.List es pos) (tY t):=wc a.h
section
end
section
end
section
end
noncomputable def Ct (l w:uz):Nat:=((cc (⇑l+1)).find? λi=>R (i+⇑w<=⇑l)&&R ((l.drop i).take ⇑w=w)).getD 0
def Nr (h:wX l w i)(b:∀j,j<i->¬wX l w j):Ct l w=i:=by
 unfold Ct;have:((cc (⇑l+1)).find? λi=>R (i+⇑w<=⇑l)&&R ((l.drop i).take ⇑w=w))=U i:=by
  rw[List.find?_range_eq_some];calc#[by rw[R5 h.1,R5 h.2];rfl,xM.mpr (by have:=h.1;nofun),λj a=>?_];rw[Bool.not_eq_true',Bool.and_eq_false_iff,R8,R8];by_cases c:j+⇑w<=⇑l
  .exact .inr λz=>b j a #[c,z]
  .exact .inl c
 rw[this];rfl
def O7 (d:lS a b)(c:lS b a):False:=by
 rcases d with d | ⟨d,f⟩<;>rcases c with c | ⟨c,e⟩
 .lia
 .lia
 .lia
 .exact List.lt_asymm f e
theorem Gq:∀ {a b:uG},a.Pairwise lS->b.Pairwise lS->(∀x,x∈a↔x∈b)->a=b
 | [],[],_,_,_=>rfl
 | [],y::b,_,_,h=>by have:=(h y).mpr xy;cases this
 | x::a,[],_,_,h=>by have:=(h x).mp xy;cases this
 | x::a,y::b,ha,hb,h=>by
  let g:=D2.mp ha;let f:=D2.mp hb;let e:x=y:=by
   rcases vg.mp ((h x).mp xy) with z | z
   .exact z
   .rcases vg.mp ((h y).mpr xy) with d | d
    .exact d.symm
    .exact(O7 (f.1 x z) (g.1 y d)).elim
  subst e;congr 1;calc Gq g.2 f.2 λz=>?_;constructor
  .intro c;rcases vg.mp ((h z).mp (wU _ c)) with e | e
   .rw[e]at c;exact(F6 (g.1 x c)).elim
   .exact e
  .intro c;rcases vg.mp ((h z).mpr (wU _ c)) with e | e
   .rw[e]at c;exact(F6 (f.1 x c)).elim
   .exact e
def xI (e:uJ x=uJ y):x=y:=by unfold uJ at e;injection e with e;injection e with e;injection e
def yo (s L:uz):Prop:=(∃c,L=s++[c])\/∃c,L=c::s
def yo.len (h:yo s L):⇑L=⇑s+1:=by rcases h with⟨c,rfl⟩|⟨c,rfl⟩<;>simp
def yo.inf (h:yo s L):ve s L:=by
 rcases h with⟨c,rfl⟩|⟨c,rfl⟩
 .have:=KY (s++[c]);rwa [Ga]at this
 .exact LY (c::s)
def xE (s L w:uz):Prop:=ve w L/\¬ve w s
def xE.ne (h:xE s L w):w≠[]:=λe=>h.2 (e▸ve.nil s)
def IU (l:uz)(k:Nat):ve (l.take k) l:=#[0,by rw[xw];nofun,by rw[CO,List.take_eq_take_iff,xw];nofun]
def Js (l:uz)(k:Nat):ve (l.drop k) l:=by
 by_cases h:k<=⇑l
 .exact#[k,by rw[yR];nofun,by rw[zM]]
 .rw[ER ∅];calc ve.nil l
def Hw (h:yo s L)(f:xE s L w):((∃c,L=s++[c])/\w=L.drop (⇑L-⇑w))\/((∃c,L=c::s)/\w=L.take ⇑w):=by
 let#[#[i,d,a],b]:=f;rcases h with⟨c,rfl⟩|⟨c,rfl⟩
 .refine .inl #[#[c,Z],?_];rw[vn,xf]at d ⊢;let g:i+⇑w=⇑s+1:=by
   by_cases z:i+⇑w<=⇑s
   .refine Sa #[i,z,?_] b;rw[FV ∅,FR (by rw[yR];nofun)]at a;exact a
   .lia
  let e:⇑s+1-⇑w=i:=by nofun
  rw[e];rw[Fs (by rw[yR,vn,xf];nofun)]at a;exact a.symm
 .refine .inr #[#[c,Z],?_];cases i with
  | zero=>rw[CO]at a;exact a.symm
  | succ i=>
   refine Sa #[i,?_,?_] b
   .rw[vQ]at d;nofun
   .rw[List.drop_succ_cons]at a;calc a
def OH (h:yo s L):xE s L w↔(∃k,1<=k/\k<=⇑L/\(w=L.take k\/w=L.drop (⇑L-k)))/\¬ve w s:=by
 constructor
 .intro f;let b:1<=⇑w:=EC.mpr f.ne;calc#[#[⇑w,b,f.1.len,?_],f.2];rcases Hw h f with⟨_,e⟩|⟨_,e⟩
  .exact .inr e
  .exact .inl e
 .rintro⟨⟨k,_,_,rfl | rfl⟩,a⟩
  .exact#[IU _ _,a]
  .exact#[Js _ _,a]
def QZ (h:yo s L)(f:xE s L u)(b:xE s L v)(l:⇑u<=⇑v):ve u v:=by
 let m:=f.1.len;let o:=b.1.len;rcases Hw h f with⟨⟨c,e⟩,i⟩|⟨⟨c,e⟩,i⟩
 .rcases Hw h b with⟨_,a⟩|⟨⟨d,k⟩,a⟩
  .have:u=v.drop (⇑v-⇑u):=by
    have:v.drop (⇑v-⇑u)=L.drop (⇑L-⇑u):=by
     conv=>lhs;rw[a]
     rw[ES,yR];congr 1
     nofun
    rw[this];exact i
   rw[this];exact Js _ _
  .
   let g:⇑v=⇑L:=by
    by_cases z:⇑v=⇑L
    .exact z
    .exfalso;calc b.2 ?_;have:v=s.take ⇑v:=by
      conv=>lhs;rw[a,e]
      rw[FR];have:=h.len;nofun
     rw[this];exact IU _ _
   have:v=L:=by rw[a,g,zM]
   rw[this];exact f.1
 .rcases Hw h b with⟨⟨d,k⟩,a⟩|⟨_,a⟩
  .let g:⇑v=⇑L:=by
    by_cases z:⇑v=⇑L
    .exact z
    .exfalso;calc b.2 ?_;have:v=s.drop (⇑s-⇑v):=by
      let n:=h.len
      conv=>lhs;rw[a,e]
      let j:⇑(c::s)-⇑v=(⇑s-⇑v)+1:=by rw[vQ];nofun
      rw[j,List.drop_succ_cons]
     rw[this];exact Js _ _
   have:v=L:=by rw[a,g,Cz,CO]
   rw[this];exact f.1
  .have:u=v.take ⇑u:=by
    have:v.take ⇑u=L.take ⇑u:=by
     conv=>lhs;rw[a]
     rw[List.take_take];congr 1
     nofun
    rw[this];exact i
   rw[this];calc IU _ _
def Zpd (h:yo s L)(a:xE s L u)(b:xE s L v)(c:⇑u=⇑v):u=v:=Oo (QZ h a b ∅) ∅
def J9 (h:yo s L)(b:xE s L w0)(l:∀w,xE s L w->¬lS w w0)(w:uz):ou s w/\ve w L↔w=w0:=by
 let e:∀w,xE s L w->⇑w0<=⇑w:=λw f=>by
  by_cases z:⇑w<⇑w0
  .exact Sa (.inl z) (l w f)
  .lia
 let g:=b.ne;let o:1<=⇑w0:=EC.mpr g;constructor
 .rintro⟨c,j⟩;let d:xE s L w:=#[j,c.no];let i:=QZ h b d (e w d);by_cases z:⇑w0<⇑w
  .rcases Zo8 i z with k | k
   .exact Sa (k.trans c.init) b.2
   .exact Sa (k.trans c.tail) b.2
  .exact(Oo i ∅).symm
 .rintro rfl;let a:∀u,ve u L->⇑u<⇑w->ve u s:=λu m n=>by
   by_cases z:ve u s
   .exact z
   .have:=e u #[m,z];nofun
  calc#[#[g,a _ ((KY w).trans b.1) (by rw[zA];nofun),a _ ((LY w).trans b.1) (by rw[EJ];nofun),b.2],b.1]
noncomputable def oM (s w:uz)[Decidable (ve w.dropLast s)]:uz:=if ve w.dropLast s then w.tail else w.dropLast
instance (w l:uz):Decidable (ve w l):=decidable_of_iff (∃i,i<⇑l+1/\i+⇑w<=⇑l/\(l.drop i).take ⇑w=w) #[λ⟨i,_,h⟩=>#[i,h],λ⟨i,h⟩=>#[i,by have:=h.1;nofun,h]]
def Opn (s L m w:uz):Prop:=∃a c,xE s L a/\c∈m/\(w=a++[c]\/w=c::a)/\ou L w
def ZoG (h:yo s L)(p:∀x∈L,x∈m):Opn s L m w↔w∈vF L m/\w∉vF s m:=by
 constructor
 .rintro⟨q,c,f,i,e,g⟩;refine#[yY.mpr #[g,?_],λn=>?_]
  .rcases e with rfl | rfl
   .exact#[c,i,{}]
   .refine#[q.getLast f.ne,p _ (f.1.mem (List.getLast_mem _)),?_];rw[E3 {},List.getLast_cons f.ne]
  .let k:=(yY.mp n).1;rcases e with rfl | rfl
   .exact f.2 (by have:=k.init;rwa [Ga]at this)
   .exact f.2 k.tail
 .rintro⟨n,t⟩;let#[g,c,i,j]:=yY.mp n;let u:¬ve w s:=λz=>g.no (z.trans h.inf);let l:¬(ve w.dropLast s/\ve w.tail s):=λ⟨a,b⟩=>t (yY.mpr #[#[g.ne,a,b,u],c,i,j]);by_cases z:ve w.dropLast s
  .let v:¬ve w.tail s:=λk=>l #[z,k];let f:xE s L w.tail:=#[g.tail,v]
   match w,g,f with
   | d::r,g,f=>
    let f:xE s L r:=f;refine#[r,d,f,?_,.inr Z,g]
    match r,f.ne with
    | e::r,_=>exact p _ (g.init.mem {})
  .refine#[w.dropLast,c,#[g.init,z],i,.inl ?_,g];rw[E3 g.ne]at j;let o:=GA g.ne;rw[cx j]at o;calc o.symm
def Zqr (h:yo s L)(f:xE s L sh)(e:w=sh++[c]\/w=c::sh)(ms:ou L w):oM s w=sh:=by
 unfold oM;rcases e with rfl | rfl
 .rw[Ga,uI f.2]
 .by_cases z:ve (c::sh).dropLast s
  .rw[uM z];rfl
  .rw[uI z];calc Zpd h #[ms.init,z] f (by rw[zA];simp)
def N8 (h:yo s L)(c:xE s L w0)(a:∀w,xE s L w->¬lS w w0)(f:w∈vF s m):w∈vF L m↔w≠w0:=by
 let#[b,e]:=yY.mp f;constructor
 .rintro k rfl;exact(yY.mp k).1.no ((J9 h c a w).mpr Z).2
 .intro k;let d:¬ve w L:=λz=>k ((J9 h c a w).mp #[b,z]);calc yY.mpr #[#[b.ne,b.init.trans h.inf,b.tail.trans h.inf,d],e]
def Zpi (h:yo s L)(b:∀x∈L,x∈m)(c:xE s L w0)(a:∀w,xE s L w->¬lS w w0):w0∈vF s m:=by let k:=(J9 h c a w0).mpr Z;calc yY.mpr #[k.1,w0.getLast k.1.ne,b _ (k.2.mem (List.getLast_mem _)),E3 _]
noncomputable def oj (s L m:uz):uG:=(vF L m).filter λw=>R (w∉vF s m)
noncomputable def pM (s L m:uz):uG:=(vF s m).filter λw=>R (w∉vF L m)
def JJ:w∈oj s L m↔w∈vF L m/\w∉vF s m:=by unfold oj;simp
def Ki:w∈pM s L m↔w∈vF s m/\w∉vF L m:=by unfold pM;simp
def ZmF (h:yo s L)(f:∀x∈L,x∈m)(e:m.Pairwise (· < ·))(d:xE s L w0)(c:∀w,xE s L w->¬lS w w0):pM s L m=[w0]:=by
 calc Gq ((Bz e).filter _) {} λw=>?_;rw[Ki,vI];constructor
 .rintro⟨a,b⟩;by_cases z:w=w0
  .exact z
  .exact Sa ((N8 h d c a).mpr z) b
 .rintro rfl;let k:=Zpi h f d c;calc#[k,λz=>(N8 h d c k).mp z Z]
def HX {ws c:uG}(g:c.Perm ws)(f:c.Pairwise λa b=>¬lS b a)(h:ws.Nodup):c.Pairwise lS:=by
 calc(f.and (g.nodup_iff.mpr h)).imp ?_;rintro a b ⟨d,e⟩;rcases Nat.lt_trichotomy ⇑a ⇑b with z | z | z
 .exact .inl z
 .rcases Ma a b with k | k | k
  .exact .inr #[z,k]
  .exact Sa k e
  .exact Sa (.inr #[z.symm,k]) d
 .exact Sa (.inl z) d
def Ht {ws:uG}(h:ws.Pairwise lS):ws.Nodup:=h.imp λa e=>by rw[e]at a;calc F6 a
def Zo3 {d new c f g:uG}(p:d.Pairwise lS)(n:new.Pairwise lS)(i:∀w,w∈c↔w∈new/\w∉d)(l:c.Nodup)(q:∀w,w∈f↔w∈d/\w∉new)(h:g.Perm (d.filter (λw=>R (w∉f))++c))(o:g.Pairwise λa b=>¬lS b a):g=new:=by
 let r:(d.filter (λw=>R (w∉f))++c).Nodup:=by rw[Dz];calc#[(Ht p).filter _,l,λa j b m e=>?_];subst e;exact((i a).mp m).2 (yU.mp j).1
 calc Gq (HX h o r) n λw=>?_;rw[h.mem_iff,wM,yU,i,R4,q];constructor
 .rintro (⟨a,b⟩|⟨a,b⟩)
  .by_cases z:w∈new
   .exact z
   .exact Sa #[a,z] b
  .exact a
 .intro a;by_cases z:w∈d
  .exact .inl #[z,λk=>k.2 a]
  .exact .inr #[a,z]
def Zmu (f:m.Pairwise (· < ·)):vF [] m=kZ m:=by
 unfold kZ;refine Gq (Bz f) ?_ λw=>?_
 .rw[CV];exact f.imp λh=>.inr #[Z,List.Lex.rel h]
 .rw[yY,vJ];constructor
  .rintro⟨e,c,b,a⟩;let h:=e.init.len;rw[zA,yZ]at h;let g:1<=⇑w:=EC.mpr e.ne
   match w,h,g,a with
   | [d],_,_,a=>exact#[c,b,~~~a.symm]
  .rintro⟨c,b,rfl⟩;calc#[#[{},ve.nil _,ve.nil _,λz=>by have:=z.len;simp at this],c,b,Z]
end L2
namespace L2
open PySem PySem.Spec PyProof.Rows PySem.W
noncomputable def Of (o:Obj):Bool:=match o.cls,o.data with
 | .none,.fields _=>Y
 | _,_=>J
def Io (K:Frag):Bool:=K.all λp=>!Of p.2
def Zg4 {K:Frag}(h:Io K=Y){b:AD}{o:Obj}(e:K.lookup b=U o):Of o=J:=by
 unfold Io at h;rw[xT]at h;have:∀(l:AA),l.lookup b=U o->(b,o)∈l:=λl=>by
  induction l with
  | nil=>intro e;cases e
  | cons q r c=>
   intro e;let#[a,f]:=q;rw[Bl]at e;by_cases z:b=a
   .subst z;simp at e;subst e;exact xy
   .let d:(b == a)=J:=by simpa using z
    rw[d]at e;exact wU _ (c e)
 have:=h _ (this K e);simpa using this
structure oX (mg:AB)(h:Heap)(n:Str)(c P:AD):Prop where
 fn:∃a o fd,mg n=U (.ref a)/\h.get? a=U o/\o.data=.func fd/\fd.code=.ref c
 code:h.IsCode c P ↑[]
 tab:h.TableAt c P ↑[]
def oX.codeEq (t:oX mg h n c P)(g:mg n=U (.ref a))(e2:h.get? a=U o)(j:o.data=.func fd):fd.code=.ref c:=by let#[l,k,f,e,d,b,i]:=t.fn;rw[g]at e;cases e;rw[e2]at d;cases d;rw[j]at b;cases b;calc i
def Zk9 {P:AG}{w:AI}{K:uH}{t mb:AB}{CX:zT}{k:Nat}{fa a:AD}{fd:AF}{x:Str}{sp:Sp}{s_1:AE}{vs:AC}{X:List Int}{j:AJ}{tb:Str->AD×AD}
  (KX:K.In s_1.heap) (I:s_1.heap.Ns dq t) (f:s_1.heap.Ns builtinsNs mb) (aj:∀x:Str,x≠"__name__"->mb x=cy x) (aa:s_1.heap.NoLimit) (hg:s_1.gens=↑[])
  (T:s_1.heap.get? a=U { cls:=.type "list",data:=.seq ↑vs }) (hi:IntsAre vs X) (hl:⇑X<=sizeLine) (hr:lI k callerA)
  (hT:∀n∈j,oX t s_1.heap n (tb n).1 (tb n).2) (af:Io K=Y) (ai:∃bm ob,t "__builtins__"=U (.ref bm)/\bm≠builtinsNs/\s_1.heap.get? bm=U ob/\ob.cls=.type "module"/\ob.dict=U builtinsNs/\ob.data=.plain)
  (F:∀l:Heap,K.In l->l.Ns dq t->(∀n∈j,nj l t (tb n).1 (tb n).2)->kz P w K t l CX k fa fd [x] sp) (N:∀(s:AE)(u:bU),BindsTo s fd #[[u],[]] [(x,u)])
  (al:∀H:Hp,(∀n∈j,H (tb n).2=U (.tbl ↑[]))->vO K H a (X.map V.int)->sp [.ref a] H (λv _=>v=.bl Y) λ_ _ _=>False)
  (ak:∀H e s',CX [] H s_1 (λ_ _ _=>False) e s'->False):
  codeAny (bJ P w) callerA (.call (.ref fa) #[[.ref a],[]]) (λr s'=>r=.ok (.ret (.bool Y))/\OldK s_1.heap s'.heap/\s'.os=s_1.os/\AllBare s'.gens) s_1:=by
 let rv:=Qp hi;let ac:=⇑hi;let i:∀n∈j,s_1.heap.get? (tb n).2=U (tabObj ↑[]):=λn g=>(hT n g).tab.2;let aP:∀n∈j,(tb n).2≠a:=λn g z=>by let e:=i n g;rw[z,T]at e;have:=R9 Obj.cls (cx e);exact Sa (show eF "list"=ec from this) {}
 refine let isP:AD->Prop:=λb=>∃n∈j,(tb n).2=b;?_
 let C:∀H:Hp,vO K H a (X.map V.int)->wD P w H s_1.heap->(∀b,H b≠O->(b=a/\∃o xs,H b=U (.frz o (.lst xs)))\/(isP b/\H b=U (.tbl ↑[])))->(∀b,isP b->H b=U (.tbl ↑[]))->(H a≠O->K.lookup a=O) ->
   codeAny (bJ P w) callerA (.call (.ref fa) #[[.ref a],[]]) (λr s'=>r=.ok (.ret (.bool Y))/\OldK s_1.heap s'.heap/\s'.os=s_1.os/\AllBare s'.gens) s_1:=by
  intro H hS G hA ah hK;let c:∀ {b:AD} {o:Obj},s_1.heap.get? b=U o->H b=O->(oA s_1.heap H).get? b=U o:=λe n=>Zmz e n;let ab:∀ {b:AD} {o:Obj},s_1.heap.get? b=U o->o≠tabObj ↑[]->o.cls≠.type "list"->H b=O:=λ{b o} e n1 n2=>by
   cases q:H b with
   | none=>rfl
   | some u=>
    rcases hA b (by rw[q];simp) with⟨p,_⟩|⟨⟨n,g,p⟩,_⟩
    .subst p;rw[T]at e;cases e;exact Sa Z n2
    .subst p;rw[i n g]at e;cases e;exact Sa Z n1
  let ae:∀ {b:AD} {o:Obj} {es:Array DictEntry} {ep:Nat},s_1.heap.get? b=U o->o.data=.dict es ep->H b=O:=λ{b o es ep} e d=>by
   cases q:H b with
   | none=>rfl
   | some u=>
    rcases hA b (by rw[q];simp) with⟨p,_⟩|⟨⟨n,g,p⟩,_⟩
    .subst p;rw[T]at e;cases e;let d':Data.seq ↑vs _=Data.dict es ep:=d;cases d'
    .subst p;rw[i n g]at e;cases e;cases d
  let y:∀ {b:AD} {m:AB},s_1.heap.Ns b m->(oA s_1.heap H).Ns b m:=λ{b m} ⟨o,es,ep,e,d,r⟩=>#[o,es,ep,c e (ae e d),d,r];let W:K.In (oA s_1.heap H):=λb o e=>c (KX b o e) (by
   cases q:H b with
   | none=>rfl
   | some u=>
    rcases hA b (by rw[q];simp) with⟨p,_⟩|⟨⟨n,g,p⟩,_⟩
    .subst p;rw[hK (by rw[q];simp)]at e;cases e
    .subst p;let B:=KX _ _ e;rw[i n g]at B;let S:=Zg4 af e;rw[<-cx B]at S;cases S)
  let hM:Mod K t (oA s_1.heap H):=#[W,y I,#[mb,y f,aj],let ⟨mc,h1,h2⟩:=aa;#[mc,y h1,h2]];let e0:oQ P w K t (oA s_1.heap H) callerA [] s_1 H:=#[Z,hM,λb o e=>ZoQ e,zU (Zlo _ _),trivial,λb f=>Sa (show b∈([]:List AD) from f) {},G,.of_eq hg,λb k e=>by rcases hA b (by rw[e];simp) with⟨_,_,_,z⟩|⟨_,z⟩<;>(rw[z]at e;cases e)];let hL:∀n∈j,nj (oA s_1.heap H) t (tb n).1 (tb n).2:=λn g=>by
   let#[bm,ob,b1,b2,b3,b4,b5,b6]:=ai;let#[oc,vc,ad,tf,M,tg,ag,text,tt,c1,c2,c3,r]:=CodeHd.of (hT n g).code (hT n g).tab;refine#[#[oc,vc,ad,tf,M,tg,ag,text,tt,c c1 (ab c1 (λz=>by rw[z]at c2;cases c2) (λz=>by rw[c2]at z;calc Sa z ⋯)),c2,c3,r],bm,ob,b1,b2,λz=>?_,λz=>?_,c b3 (ab b3 (λz=>by rw[z]at b4;cases b4) (λz=>by rw[b4]at z;calc Sa z ⋯)),b4,b5,b6]
   .obtain⟨o,es,ep,e,d,_⟩:=I;rw[<-z,b3]at e;cases e;rw[b6]at d;cases d
   .rw[z,i n g]at b3;cases b3;cases b4
  calc codeAny_mono ((F _ W (y I) hL).run callerA [] s_1 H #[[.ref a],[]] [.ref a] [.ref a] _ _ hr e0 (N s_1 (.ref a)) (.cons Z .nil) (al H (λn g=>ah _ #[n,g,Z]) hS)) λr s' h=>?_;cases r with
  | error e=>exact(ak H e s' h).elim
  | ok fl=>
   cases fl with
   | next=>exact ff h
   | brk=>exact ff h
   | cont=>exact ff h
   | ret u=>
    let#[v,H',os,bare,un,A,_,r',q]:=h;let q':v=.bl Y:=q;subst q';obtain rfl:u=Value.bool Y:=r';calc#[Z,#[λb o e=>?_,λb o e=>un.there b o e {}],os,bare];cases q:H b with
    | none=>exact .inl (un.keep b o e q (by intro z;calc Sa (show b∈([]:List AD) from z) {}) {})
    | some u=>
     rcases hA b (by rw[q];simp) with⟨_,ob,xs,z⟩|⟨⟨n,g,p⟩,z⟩
     .let Q:=un.frzs b ob _ z;let#[B,_]:=G b _ z;let#[S,_]:=A b _ Q;rw[e]at B;cases B;exact .inl S
     .obtain⟨E,Q⟩:=un.tbls b _ z;let B:s_1.heap.get? b=U (tabObj ↑[]):=G b _ z;let S:s'.heap.get? b=U (tabObj (↑[]++E)):=A b _ Q;rw[e]at B;cases B;exact .inr (.inl #[by rw[<-p];calc(hT n g).tab.isCodeTable,Z,↑[],E,Z,S])
 cases hk:K.lookup a with
 | some o=>
  let e:=KX a o hk;rw[T]at e;cases e
  haveI:DecidablePred isP:=λ_=>Classical.propDecidable _
  refine C (λb=>if isP b then U (.tbl ↑[]) else O) (.inr #[_,↑vs,_,hk,Z,Z,Z,by rw[wC,ac];calc hl,~~~rv,RL hi]) (λb u z=>?_) (λb z=>?_) (λb f=>uM f) λz=>?_
  .by_cases f:isP b
   .let D:=(uM f).symm.trans z;cases D;let#[n,g,Z]:=f;exact i n g
   .let D:=(uI f).symm.trans z;cases D
  .by_cases f:isP b
   .exact .inr #[f,uM f]
   .exact Sa (uI f) z
  .have:¬isP a:=λ⟨n,g,e⟩=>aP n g e;exact Sa (uI this) z
 | none=>
  haveI:DecidablePred isP:=λ_=>Classical.propDecidable _
  refine C (λb=>if b=a then U (.frz { cls:=.type "list",data:=.seq ↑vs } (.lst (X.map V.int))) else if isP b then U (.tbl ↑[]) else O) (.inl (.inr #[{ cls:=.type "list",data:=.seq ↑vs },uM Z])) (λb u z=>?_) (λb z=>?_) (λb f=>?_) λ_=>hk
  .by_cases f:b=a
   .let D:=(uM f).symm.trans z;cases D;subst f;exact#[T,by rw[uO];calc hl,vs,_,rv,T]
   .let D:=(uI f).symm.trans z;by_cases L:isP b
    .let Q:=(uM L).symm.trans D;cases Q;let#[n,g,Z]:=L;exact i n g
    .let Q:=(uI L).symm.trans D;cases Q
  .by_cases f:b=a
   .exact .inl #[f,_,_,uM f]
   .by_cases L:isP b
    .exact .inr #[L,by rw[uI f,uM L]]
    .exact Sa (by rw[uI f,uI L]) z
  .let nb:b≠a:=by let#[n,g,Z]:=f;exact aP n g
   rw[uI nb,uM f]
def uu {l:PySem.W.OpenLaw}{n k:Nat}{q:AG}{j:AJ}{XP:(AB)->Heap->Prop}{YP:AI->Heap->Prop}{d:DefRec}{K:Params->uH}{CX:zT}{sp:uH->(Str->AD×AD)->Sp}{x:Str}(g:AJ)
  (hn:l.most=U n) (Q:n<=sizeLine) (I:d.params.defaults=[]) (hr:lI k callerA)
  (hY:∀(w:AI)(h:Heap),YP w h->(K w.params).In h) (C:∀P:Params,Io (K P)=Y) (y:(g.all λn=>(recsOf q).any λe=>e.name == n)=Y)
  (F:∀(w:AI)(i:AB)(B:AD)(h:Heap)(tb:Str->AD×AD),(K w.params).In h->h.Ns dq i->i d.name=U (.ref B)->(∀n∈g,oX i h n (tb n).1 (tb n).2) ->
   ∃L:AF,(∀(s:AE)(u:bU),BindsTo s L #[[u],[]] [(x,u)]) /\
    ∀b:Heap,(K w.params).In b->b.Ns dq i->(∀n∈g,nj b i (tb n).1 (tb n).2)->kz l.prog w (K w.params) i b CX k B L [x] (sp (K w.params) tb))
  (S:∀(K:uH)(tb:Str->AD×AD)(H:Hp)(a:AD)(A:List Int),⇑A<=n->(∀n∈g,H (tb n).2=U (.tbl ↑[]))->vO K H a (A.map V.int)->sp K tb [.ref a] H (λv _=>v=.bl Y) λ_ _ _=>False)
  (N:∀(H:Hp)(s:AE)(e:bU)(s':AE),CX [] H s (λ_ _ _=>False) e s'->False):
  PySem.W.WalkO q j XP YP l.row.toRowW d [] (λf vs=>PySem.call f vs):=by
 calc Att.attach_call hn I λw aa t i mb B o pm cd ab a vs A G Y_ ho hd ac E p m W hg=>?_;let X:=hY w _ Y_;let ex:∀n:Str,∃T:AD×AD,n∈g->oX i t.heap n T.1 T.2:=λn=>by
  by_cases h:n∈g
  .rw[xT]at y;have:=y n h;rw[Bs]at this;let#[e,he,M]:=this;let M:e.name=n:=by simpa using M
   let#[a',o',D,c,P,h1,h2,h3,h4,h5,h6]:=G.T.tab e he;exact#[(c,P),λ_=>#[#[a',o',D,by rw[<-M];calc h1,h2,h3,h4],h5,h6]]
  .exact#[(0,0),λz=>Sa z h]
 let#[tb,r]:=Classical.skolem.mp ex;let#[L,hb,hF]:=F w i B _ tb X G.T.g E r;calc Zk9 X G.T.g G.T.b G.T.builtins G.T.nolimit hg p m (u8 W Q) hr r (C _) G.T.bmain hF hb (λH hP hS=>S (K w.params) tb H a A W hP hS) λH e s'=>N H t e s'
section
variable {P:AG}{w:AI}{K:uH}{mg:AB}{base:Heap}
def xk.okC {x b:Str}{st:Stmt}{f:AD}{g:AF}{N i:AJ}{k:Nat}{sp:Sp}{c:bU}(F:xk K x b st f g)(p:g.code=c)(S:ku N i (xh st))
  (d:∀(A:AH)(a:List Env)(s:AE)(H:Hp)(vs:Se)(Q:VK)(E:XK),lI k (A.deeper (envOfC b (xh st) ↥s f c))->sp vs H Q E ->
   ∃t,xS (mv vf P w K mg base N b (xh st) f c A a s H E).nox (wT st) t/\t { nx:=λ_ H'=>Q .non H',rt:=Q } (start N vs) H)(e:autoParam (∀vs H Q E,sp vs H Q E->⇑vs=⇑i) Xy._auto_1):kz P w K mg base vf (k+1) f g i sp:=by
 let#[#[z,C,kV,r,B,y,n,v,u,Z,l,m],_]:=F;obtain rfl:n=c:=p;calc K1 l m S e λA a s H vs Q E o j=>?_;let#[t,h,q]:=d A a s H vs Q E o j;calc#[t,h.nox,q]
def xk.at {x a:Str}{st:Stmt}{f:AD}{fd:AF}{h:Heap}(F:xk K x a st f fd)(b:K.In h):∃o,h.get? f=U o/\o.data=.func fd:=by let#[#[k,n,kV,c,m,j,i,g,d,Z,l,e],_]:=F;calc#[_,b _ _ l,Z]
end
end L2
namespace L2
open PySem PySem.Spec PyProof.Rows
def we (S:List AD)(H a:Hp):Prop:=∀b o,H b=U o->b∉S->zt o=J->a b=U o
def lJ.chg (s:lJ H H'):we S H H':=λb o e _ t=>s b o e t
def ky.chg (s:ky H H'):we S H H':=λb o e _ _=>s b o e
def we.refl (H:Hp):we S H H:=λ_ _ e _ _=>e
def we.trans (a:we S H H1)(b:we S H1 H2):we S H H2:=λc o e n t=>b c o (a c o e n t) n t
def we.upd (h:a∈S):we S H (upd H a o):=λb u e n _=>by rw[uF (show b≠a from λz=>n (by rw[z];calc h))];calc e
def we.mono (h:we S H H')(k:∀b∈S,b∈S'):we S' H H':=λb o e n t=>h b o e (λz=>n (k b z)) t
def we.l (h:we [] H H'):lJ H H':=λb o e t=>h b o e {} t
def Nw (H:Hp)(r:AD):Prop:=∀o,H r=U o->zt o=Y
def Nw.of (h:H r=O):Nw H r:=λo e=>by rw[h]at e;cases e
def Nw.ne (n:Nw H r)(h:H b=U o)(t:zt o=J):b≠r:=λz=>by rw[z]at h;rw[n o h]at t;cases t
def Nw.l (n:Nw H1 r)(s:lJ H H1):Nw H r:=λo e=>by
 cases t:zt o with
 | true=>rfl
 | false=>rw[<-t];calc n o (s r o e t)
def Nw.same (n:Nw H1 r)(s:ky H H1):Nw H r:=n.l s.l
def Nw.chg (n:Nw H1 r)(c:we S H H1)(a:∀b∈S,∃o,H1 b=U o/\zt o=J):Nw H r:=λo e=>by
 by_cases z:r∈S
 .obtain⟨u,d,f⟩:=a r z;exact Sa Z (n.ne d f)
 .cases t:zt o with
  | true=>rfl
  | false=>rw[<-t];calc n o (c r o e z t)
noncomputable def Ic:HO->Bool
 | .ext _=>Y
 | _=>J
def lZ.upd (T:lZ H P pos q)(h:H a=U o)(t:zt o=J)(x:Ic o=J):lZ (L2.upd H a o') P pos q:=by
 let#[g,e,d,i]:=T;refine#[g,?_,d,i.imp id ?_]
 .rw[uF (λz=>by rw[z,h]at e;cases e;cases t)];exact e
 .rintro⟨c,f,b⟩;calc#[c,f,?_];rw[uF (λz=>by rw[z,h]at b;unfold Cm at b;cases b;cases x)];calc b
def RowA (H:Hp)(y:V)(r:uz×Se):Prop:=∃a b,y=.ref a/\H a=U (.tup [tx r.1,.ref b])/\H b=U (.tup r.2)
def lX (H:Hp)(ys:Se)(a:List (uz×Se)):Prop:=⇑ys=⇑a/\∀(i:Nat)(y:V),ys[i]?=U y->∃r,a[i]?=U r/\RowA H y r
def lX.chg (h:lX H ys rs)(c:we S H H')(g:∀b∈S,∀us,H b≠U (.tup us)):lX H' ys rs:=by calc#[h.1,λi y k=>?_];let#[r,j,a,b,e,f,d]:=h.2 i y k;calc#[r,j,a,b,e,c _ _ f (λz=>g _ z _ f) Z,c _ _ d (λz=>g _ z _ d) Z]
def lX.l (h:lX H ys rs)(s:lJ H H'):lX H' ys rs:=h.chg (S:=[]) s.chg {}
def lX.same (h:lX H ys rs)(s:ky H H'):lX H' ys rs:=h.l s.l
def D6 (a:uz)(s L m:uz):List (uz×Se):=(oj s L m).map λw=>(w,[tx a,tx (oM s w),.int (Ct L (oM s w):Nat)])
def E7 (a:uz)(s L m:uz):List (uz×Se):=(pM s L m).map λw=>(w,[tx a,.int (Ct L w:Nat)])
noncomputable def OE:uz:=s!"put"
noncomputable def DROP:uz:=s!"drop"
def Gs (d:Bool×Nat):Se:=[tx (if d.1 then OE else DROP),tx [d.2]]
def lW (H:Hp)(a:Se)(ds:List (Bool×Nat)):Prop:=⇑a=⇑ds/\∀(i:Nat)(y:V),a[i]?=U y->∃d,ds[i]?=U d/\∃t,y=.ref t/\H t=U (.tup (Gs d))
def lW.chg (h:lW H ts ds)(c:we S H H')(j:∀b∈S,∀us,H b≠U (.tup us)):lW H' ts ds:=by calc#[h.1,λi y f=>?_];let#[d,g,t,e,a]:=h.2 i y f;calc#[d,g,t,e,c _ _ a (λz=>j _ z _ a) Z]
def lW.snoc (h:lW H ts ds)(f:H t=U (.tup (Gs d))):lW H (ts++[.ref t]) (ds++[d]):=by
 calc#[by rw[vn,vn,h.1];rfl,λi y a=>?_];by_cases z:i<⇑ts
 .rw[zh z]at a;let#[b,c,r]:=h.2 i y a;exact#[b,by rw[zh (by rw[<-h.1];calc z)];calc c,r]
 .rw[zu ∅]at a;let e:i-⇑ts=0:=by
   rcases Nat.eq_zero_or_pos (i-⇑ts) with q | q
   .exact q
   .rw[Ci (by simp;nofun)]at a;cases a
  rw[e]at a;cases a;calc#[d,?_,t,Z,f];rw[zu (by rw[<-h.1];nofun),<-h.1,e];rfl
def lW.init (h:lW H ts (ds++[d])):∃c t,ts=c++[.ref t]/\H t=U (.tup (Gs d))/\lW H c ds:=by
 let g:⇑ts=⇑ds+1:=by rw[h.1];simp
 let k:ts≠[]:=λe=>by rw[e]at g;simp at g
 let e:=GA k;let a:ts[⇑ds]?=U (ts.getLast k):=by
  rw[List.getLast_eq_getElem,vK ∅];congr 2
  nofun
 let#[j,f,t,l,m]:=h.2 _ _ a;rw[zu (uV _),Cz]at f;cases f;calc#[ts.dropLast,t,by rw[<-l];calc e.symm,m,by rw[zA];nofun,λi y b=>?_];rw[GR,Fb]at b;by_cases z:i<⇑ts-1
 .rw[uM z]at b;let#[j,f,r]:=h.2 i y b;rw[zh ∅]at f;exact#[j,f,r]
 .rw[uI z]at b;cases b
inductive Cb (m:uz):List (Bool×Nat)->uz->Prop
 | nil:Cb m [] []
 | put {ds:List (Bool×Nat)} {l:uz} {c:Nat} (h:Cb m ds l) (hc:c∈m) (hl:⇑l<40):Cb m (ds++[(Y,c)]) (l++[c])
 | drop {ds:List (Bool×Nat)} {l:uz} {c:Nat} (h:Cb m ds (c::l)):Cb m (ds++[(J,c)]) l
def Cb.len (h:Cb m ds l):⇑l<=40:=by
 induction h with
 | nil=>simp
 | put h b c a=>simp;nofun
 | drop h a=>simp at a;nofun
def Cb.mem (h:Cb m ds l):∀x∈l,x∈m:=by
 induction h with
 | nil=>intro x a;cases a
 | put h c d b=>
  intro x a;rcases wM.mp a with a | a
  .exact b x a
  .rw[vI.mp a];exact c
 | drop h b=>calc λx a=>b x (wU _ a)
def sF (l m:uz)(a b:AD):List (Str×V):=[("own_text",tx l),("own_kinds",tx m),("own_lacking",.ref a),("own_deeds",.ref b)]
def f_tk:¬(("own_text":Str)="own_kinds"):=by decide +kernel
def su:¬(("own_text":Str)="own_lacking"):=by decide +kernel
def rW:¬(("own_text":Str)="own_deeds"):=by decide +kernel
def rJ:¬(("own_kinds":Str)="own_lacking"):=by decide +kernel
def uo:¬(("own_kinds":Str)="own_deeds"):=by decide +kernel
def tR:¬(("own_lacking":Str)="own_deeds"):=by decide +kernel
def Lb:kW f v ((f,x)::r)=(f,v)::r:=by unfold kW;rw[uM Z]
def B0 (h:¬g=f):kW f v ((g,x)::r)=(g,x)::kW f v r:=by
 conv=>lhs;unfold kW
 rw[uI h]
def P3:kW "own_text" (tx l') (sF l m la da)=sF l' m la da:=Lb
def O5:kW "own_lacking" (.ref la') (sF l m la da)=sF l m la' da:=by unfold sF;rw[B0 su,B0 rJ,Lb]
def Zl6:kW "own_deeds" (.ref da') (sF l m la da)=sF l m la da':=by unfold sF;rw[B0 rW,B0 uo,B0 tR,Lb]
def Mr:kW "own_deeds" (.ref da) (kW "own_lacking" (.ref la) (kW "own_kinds" (tx m) (kW "own_text" (tx l) [])))=sF l m la da:=by let a:∀(f:Str)(v:V),kW f v []=[(f,v)]:=λ_ _=>rfl;rw[a,B0 f_tk,a,B0 su,B0 rJ,a,B0 rW,B0 uo,B0 tR,a];rfl
def GM:sF l m la da=kW "own_deeds" (.ref da) (kW "own_lacking" (.ref la) (kW "own_kinds" (tx m) (kW "own_text" (tx l) []))):=Mr.symm
def B8:(sF l m la da).lookup ("own_text":Str)=U (tx l):=by rw[GM,wN,uI rW,wN,uI su,wN,uI f_tk,wN,uM Z]
def FQ:(sF l m la da).lookup ("own_kinds":Str)=U (tx m):=by rw[GM,wN,uI uo,wN,uI rJ,wN,uM Z]
def Mh:(sF l m la da).lookup ("own_lacking":Str)=U (.ref la):=by rw[GM,wN,uI tR,wN,uM Z]
def Ir:(sF l m la da).lookup ("own_deeds":Str)=U (.ref da):=by rw[GM,wN,uM Z]
def ZsR {l m:uz}{e c:AD}{x:Str}(b:¬x="own_text")(a:¬x="own_kinds")(d:¬x="own_lacking")(f:¬x="own_deeds"):(sF l m e c).lookup x=O:=by rw[GM,wN,uI f,wN,uI d,wN,uI a,wN,uI b];rfl
noncomputable def LETx:uz:=s!"abcdefghijklmnopqrstuvwxyz"
def iskx (l:uz):Bool:=R (1<=⇑l)&&R (⇑l<=4)&&(l.all λc=>LETx.contains c)&&R (kZ l=xx (xH (kZ l)))
def DQ (C:AD)(H:Hp)(p b c:AD)(l m:uz):Prop:=∃a,H p=U (.ins C a (sF l m b c))
structure nJ (m:uz):Prop where
 k:iskx m=Y
 m1:1<=⇑m
 m4:⇑m<=4
 rise:m.Pairwise (· < ·)
structure kH (C:AD)(H:Hp)(p la da:AD)(l m:uz)(ds:List (Bool×Nat)):Prop where
 fld:DQ C H p la da l m
 lack:H la=U (.lst ((vF l m).map tx))
 deed:∃ts,H da=U (.lst ts)/\lW H ts ds
 run:Cb m ds l
 ok:nJ m
 ne:la≠da
def kH.chg (h:kH C H p la da l m ds)(c:we S H H')(q:∀b∈S,∀us,H b≠U (.tup us))(d:p∉S)(g:la∉S)(a:da∉S):kH C H' p la da l m ds:=by let#[#[s,f],k,#[e,j,i],r,o,n]:=h;calc#[#[s,c _ _ f d Z],c _ _ k g Z,#[e,c _ _ j a Z,i.chg c q],r,o,n]
def kH.l {C:AD}{H a:Hp}{p b c:AD}{l m:uz}{ds:List (Bool×Nat)}(h:kH C H p b c l m ds)(s:lJ H a):kH C a p b c l m ds:=h.chg (S:=[]) s.chg {} {} {} {}
def kH.same {C:AD}{H a:Hp}{p b c:AD}{l m:uz}{ds:List (Bool×Nat)}(h:kH C H p b c l m ds)(s:ky H a):kH C a p b c l m ds:=h.l s.l
structure ph (H H2:Hp)(t c g la:AD)(rc rg:List (uz×Se)):Prop where
 tup:H2 t=U (.tup [.ref c,.ref g])
 came:∃ys,H2 c=U (.lst ys)/\lX H2 ys rc
 went:∃zs,H2 g=U (.lst zs)/\lX H2 zs rg
 nc:Nw H c
 ng:Nw H g
 nl:Nw H la
 ncg:c≠g
 ncl:c≠la
 ngl:g≠la
section
end
section
def ZjQ (C:X.calm=Y):xU X (.type "list") (λxs H Q=>∃a kvs,xs=[.ref a]/\Rd H a (.dK kvs)/\kU (kvs.map λp=>kV p.1) H Q):=by
 rintro N s σ H xs P Q I r ⟨a,kvs,rfl,K,q⟩;let#[u,Z,B]:=r.one;cases B;let#[z,y,c,g,o,D,ep,t]:=K.ok I.hok;let F:s.heap.DictAt (wb X.prog X.w) a c ep:=#[o,D,t];let G:⇑c<=sizeLine:=by rw[<-⇑g];exact z
 calc xF (PySem.W.kdl_call (PySem.W.kdl_dict y) (I.ok.hd C) F G λM n b L d E f=>?_);intro S;let m:kJ (kvs.map λp=>kV p.1) b.toList:=by
  let l:(kvs.map λp=>kV p.1)=(c.map λp=>kV p.1):=by
   let A:(kvs.map λp=>kV p.1)=(kvs.map (·.1)).map kV:=by rw[wE];rfl
   let w:(c.map λp=>kV p.1)=(c.map (·.1)).map kV:=by rw[wE];rfl
   rw[A,w,g.keys]
  rw[l];calc Mn (by rw[uO];calc(Array.length_toList.trans f.1).symm) λi x u j h=>?_;rw[Eh]at h;let#[k,v,e,d]:=f.2 i u h;rw[wI,e]at j;cases j;exact Jy d
 calc#[.ref ↥s,_,I.laid (t':=n) (o:=.lst (kvs.map λp=>kV p.1)) d (uV _) #[by rw[uO];calc z,b.toList,L,m,by rw[Hg];calc E],Z,q _ I.fresh]
end
section
end
section
end
section
end
def CN (t:TS):TS:=t
def uP {X:Cx}{st:List Stmt}{t:TS}(h:xS X st t):xS X st (CN t):=h
def vv (h:t D σ H):CN t D σ H:=h
section
end
section
end
section
end
section
end
open PySem.W (Frag)
end L2
namespace L2
open PySem PySem.Spec PyProof.Rows
def Av (W:uG)(w:uz):Prop:=∀v∈W,¬ve v w
def mD (W:uG)(u:uz):Prop:=u=[]\/∃v∈W,∃k,k<⇑v/\u=v.take k
noncomputable def zq (W:uG)(u e:uz):Prop:=∃d,d<=⇑u/\e=u.drop d/\mD W e/\∀j,j<d->¬mD W (u.drop j)
def Av.inf (h:Av W w)(b:ve u w):Av W u:=λv c a=>h v c (a.trans b)
def Gg (a b:uz):ve a (a++b):=#[0,by rw[vn];nofun,by rw[CO,List.take_left]]
def Ra (n:Av W u)(l:zq W u e)(x:uz):Av W (u++x)↔Av W (e++x):=by
 let#[d,m,Z,p,k]:=l;let c:(u++x).drop d=u.drop d++x:=FV m;constructor
 .intro h;calc h.inf ?_;rw[<-c];by_cases z:d<=⇑(u++x)
  .exact#[d,by rw[yR];nofun,by rw[zM]]
  .rw[ER ∅];exact ve.nil _
 .rintro h v b ⟨i,j,a⟩;rw[vn]at j;by_cases g:i+⇑v<=⇑u
  .refine n v b #[i,g,?_];rw[FV ∅,FR (by rw[yR];nofun)]at a;exact a
  .by_cases o:d<=i
   .refine h v b #[i-d,?_,?_]
    .rw[vn,yR];nofun
    .rw[<-c,ES];have:d+(i-d)=i:=by nofun
     rw[this];exact a
   .refine k i ∅ (.inr #[v,b,⇑u-i,∅,?_]);rw[<-a,List.take_take];let f:min (⇑u-i) ⇑v=⇑u-i:=by nofun
    rw[f,FV ∅,FR (by rw[yR];calc uV _),Fs (by rw[yR];calc uV _)]
def mO (W:uG):Prop:=∀v∈W,∀w∈W,ve v w->v=w
def Zn2 (d:mO W)(f:∀v∈W,v≠[]){u:uz}(h:mD W u):Av W u:=by
 rintro v c a;rcases h with rfl | ⟨w,g,k,i,rfl⟩
 .have:=a.len;exact f v c (Cq.mp (~~~this))
 .let b:=a.len;rw[xw]at b;let e:=d v c w g (a.trans (IU w k));rw[e]at b
  nofun
def Ka (W:uG)(u:uz):∃e,zq W u e:=by
 classical
 have:∃d,mD W (u.drop d):=#[⇑u,.inl (ER (uV _))];obtain⟨d,f,g⟩:∃d,mD W (u.drop d)/\∀j,j<d->¬mD W (u.drop j):=by
  let#[d,f]:=this;induction d using Nat.strongRecOn with
  | _ d h=>
   by_cases c:∃j,j<d/\mD W (u.drop j)
   .obtain⟨j,a,b⟩:=c;exact h j a b
   .exact#[d,f,λj a b=>c #[j,a,b]]
 calc#[u.drop d,d,?_,Z,f,g];by_cases z:d<=⇑u
 .exact z
 .exact Sa (.inl (ER (uV _))) (g ⇑u ∅)
def Zll (h:zq W u e)(c:zq W u f):e=f:=by
 let#[d,_,Z,g,i]:=h;let#[d2,_,Z,b,a]:=c;have:d=d2:=by
  rcases Nat.lt_trichotomy d d2 with z | z | z
  .exact Sa g (a d z)
  .exact z
  .exact Sa b (i d2 z)
 rw[this]
def Eo (d:zq W (u++[c]) e):Av W (u++c::x)↔Av W (u++[c])/\Av W (e++x):=by
 let b:u++c::x=(u++[c])++x:=by simp
 constructor
 .intro h;let a:Av W (u++[c]):=h.inf (by rw[b];calc Gg _ _);exact#[a,(Ra a d x).mp (by rw[<-b];calc h)]
 .rintro⟨a,f⟩;rw[b];calc(Ra a d x).mpr f
noncomputable abbrev Wd:=uz
def Cd (o:Wd->List Wd)(P:List Wd)(s:Wd):Nat:=⇑((o s).filter λt=>R (t∉P))
def Qz:Cd o P s=0↔∀t∈o s,t∈P:=by unfold Cd;rw[Cq,List.filter_eq_nil_iff];simp
def pX:Cd o [] s=⇑(o s):=by unfold Cd;simp
def Lc (h:r∉P):Cd o (P++[r]) s+(o s).count r=Cd o P s:=by
 unfold Cd;induction o s with
 | nil=>simp
 | cons t f d=>
  rw[List.count_cons,Fp,Fp];by_cases e:t=r
  .subst e;let b:R (t∉P++[t])=J:=by simp
   let a:R (t∉P)=Y:=by simpa using h
   rw[b,a];simp only[Cy,if_false,if_true,beq_self_eq_true,vQ]
   nofun
  .let c:R (t∉P++[r])=R (t∉P):=by simp[e]
   rw[c,uI (show ¬(t == r)=Y by simpa using e)];split<;>(try simp only[vQ])<;>nofun
structure KI (N:List Wd)(o:Wd->List Wd)(n:Nat)(es:List Wd)(f:Wd->Nat):Prop where
 le:n<=⇑es
 nd:es.Nodup
 sub:∀s∈es,s∈N
 left:∀s∈N,f s=Cd o (es.take n) s
 zero:∀s∈N,s∈es↔f s=0
 ord:∀(k:Nat)(s:Wd),es[k]?=U s->∀t∈o s,t∈es.take k
structure KJ (N:List Wd)(o:Wd->List Wd)(n:Nat)(r:Wd)(S:List Wd)(j:Nat)(es:List Wd)(f:Wd->Nat):Prop where
 at_:es[n]?=U r
 src:∀s∈N,S.count s=(o s).count r
 nd:es.Nodup
 sub:∀s∈es,s∈N
 left:∀s∈N,f s+(S.take j).count s=Cd o (es.take n) s
 zero:∀s∈N,s∈es↔f s=0
 ord:∀(k:Nat)(s:Wd),es[k]?=U s->∀t∈o s,t∈es.take k
def KI.start {N:List Wd}{o:Wd->List Wd}{f:Wd->Nat}(nd:N.Nodup)(b:∀s∈N,f s=⇑(o s)):KI N o 0 (N.filter λs=>R (f s=0)) f where
 le:=wf _
 nd:=nd.filter _
 sub:=λs h=>(yU.mp h).1
 left:=λs h=>by rw[CW,pX];exact b s h
 zero:=λs h=>by simp[yU,h]
 ord:=λk s h t a=>by
  let c:=yU.mp (wL h);let z:f s=0:=by simpa using c.2
  rw[b s c.1,Cq]at z;rw[z]at a;cases a
def FI {es:List Wd}{n:Nat}{r:Wd}(d:es.Nodup)(h:es[n]?=U r):r∉es.take n:=by intro c;let#[k,b,e]:=yK c;rw[xw]at b;rw[List.getElem_take]at e;let#[a,f]:=vT.mp h;have:=(List.nodup_iff_pairwise_ne.mp d);rw[IK]at this;calc this k n ∅ a ∅ (by rw[e,f])
def KI.enter (h:KI N o n es f)(c:es[n]?=U r)(a:∀s∈N,S.count s=(o s).count r):KJ N o n r S 0 es f:=
 #[c,a,h.nd,h.sub,λs b=>by rw[CW,List.count_nil,Nat.add_zero];calc h.left s b,h.zero,h.ord]
def DV {es:List Wd}{n:Nat}{r:Wd}(h:es[n]?=U r):es.take (n+1)=es.take n++[r]:=by rw[List.take_add_one,h];rfl
def KJ.leave {N:List Wd}{o:Wd->List Wd}{n:Nat}{es S:List Wd}{f:Wd->Nat}{r:Wd}(h:KJ N o n r S ⇑S es f):KI N o (n+1) es f where
 le:=(vT.mp h.at_).1
 nd:=h.nd
 sub:=h.sub
 left:=λs a=>by
  let b:=h.left s a;let c:=Lc (o:=o) (s:=s) (FI h.nd h.at_);rw[zM,h.src s a]at b;rw[DV h.at_]
  nofun
 zero:=h.zero
 ord:=h.ord
def QY {S:List Wd}{j:Nat}{s t:Wd}(h:S[j]?=U s):(S.take (j+1)).count t=(S.take j).count t+if t=s then 1 else 0:=by
 rw[DV h,List.count_append,List.count_singleton];by_cases e:t=s
 .subst e;simp
 .have:(s == t)=J:=by simpa using λz=>e z.symm
  rw[this,uI e];rfl
def KJ.pos (h:KJ N o n r S j es f)(b:S[j]?=U s)(a:s∈N):1<=f s:=by
 let e:=h.left s a;let d:=Lc (o:=o) (s:=s) (FI h.nd h.at_);let c:(S.take (j+1)).count s<=S.count s:=(List.take_sublist _ _).count_le _;rw[QY b,uM Z,h.src s a]at c
 nofun
def KJ.next (h:KJ N o n r S j es f)(v:S[j]?=U s)(m:s∈N)(g:Wd->Nat)(q:∀t,g t=if t=s then f s-1 else f t):
  (g s=0->KJ N o n r S (j+1) (es++[s]) g)/\(g s≠0->KJ N o n r S (j+1) es g):=by
 let p:=h.pos v m;let H:g s=f s-1:=by rw[q,uM Z]
 let left:∀t∈N,g t+(S.take (j+1)).count t=Cd o (es.take n) t:=λt d=>by
  let K:=h.left t d;rw[QY v,q];by_cases e:t=s
  .subst e;rw[uM Z,uM Z];nofun
  .rw[uI e,uI e];nofun
 let F:=(vT.mp h.at_).1;let w:s∉es:=λz=>by have:=(h.zero s m).mp z;nofun
 constructor
 .intro z;let G:(es++[s]).take n=es.take n:=FR ∅;refine#[by rw[zh F];calc h.at_,h.src,?_,?_,?_,?_,?_]
  .rw[Dz];calc#[h.nd,{},λa A b B=>?_];rw[vI.mp B];exact λe=>w (e▸A)
  .intro t d;rcases wM.mp d with d | d
   .exact h.sub t d
   .rw[vI.mp d];exact m
  .intro t d;rw[G];exact left t d
  .intro t d;rw[wM,vI];by_cases e:t=s
   .subst e;simp[z]
   .rw[q,uI e];constructor
    .rintro (k | k)
     .exact(h.zero t d).mp k
     .exact Sa k e
    .intro k;exact .inl ((h.zero t d).mpr k)
  .intro k t i u y;by_cases c:k<⇑es
   .rw[zh c]at i;rw[FR ∅];exact h.ord k t i u y
   .let E:=(vT.mp i).1;rw[vn,xf]at E;let C:k=⇑es:=by nofun
    subst C;rw[zu (uV _),Cz]at i;cases i;rw[List.take_left];let l:=left s m;let I:=Lc (o:=o) (s:=s) (FI h.nd h.at_);let D:(S.take (j+1)).count s<=S.count s:=(List.take_sublist _ _).count_le _;rw[h.src s m]at D;let x:Cd o (es.take n++[r]) s=0:=by nofun
    rw[<-DV h.at_]at x;exact Ep (Qz.mp x u y)
 .intro z;calc#[h.at_,h.src,h.nd,h.sub,left,λt d=>?_,h.ord];by_cases e:t=s
  .subst e;exact#[λk=>Sa k w,λk=>Sa k z]
  .rw[q,uI e];calc h.zero t d
section
end
section
def Zht (I:uB X BO σ H s)(e:H a=U (.dK kvs))(t:kP (kV k) u)(j:kP v w)(D:⇑kvs<sizeLine)
  (B:∀x f s',kK kvs k=U x->kP x f->uB X BO σ H s'->Q f s') (m:kK kvs k=O->∀s',uB X BO σ (upd H a (.dK (kQ kvs k v))) s'->Q w s'):
  bR (bJ X.prog X.w) A (call (.builtin "dict.setdefault") [.ref a,u,w]) Q E s:=by
 let#[z,g,n,b,dd]:=Hb I.hok e;refine call_meetsIn PySem.F.slot_dict_setdefault dd.typeIs PySem.F.entry_dict_setdefault (PySem.F.args_dict_setdefault_3 _ _ _) (kt_meets_setdefault (wb X.prog X.w) a (Bo t) g w) #[n,dd,by rw[<-⇑b];calc z,λx l=>?_,λo i d p=>?_]
 .let r:=b.val k;rw[l]at r;cases c:kK kvs k with
  | none=>rw[c]at r;exact(by cases r)
  | some y=>rw[c]at r;exact B y x _ c (by first | calc r | cases r;assumption) (I.tok _)
 .let r:=b.val k;rw[o]at r;let c:kK kvs k=O:=by
   cases c:kK kvs k with
   | none=>rfl
   | some y=>rw[c]at r;exact(by cases r)
  let C:∃q,i.get? a=U q:=let ⟨q,_,_,hq,_⟩:=d;#[q,hq];let h:⇑(kQ kvs k v)<=sizeLine:=by have:=B1 kvs k v;nofun
  calc m c _ (Hi I (by rw[e];calc True.intro) p C (FU h g (b.put k j) d))
def P9 (d ty tx:TE):TE:=λσ H Q=>d σ H λx c=>∃a,x=.ref a/\HS c a/\ty σ c λy e=>tx σ e λz b=>∃kvs k,b a=U (.dK kvs)/\y=kV k/\⇑kvs<sizeLine /\
 (∀v,kK kvs k=U v->Q v b)/\(kK kvs k=O->Q z (upd b a (.dK (kQ kvs k z))))
def Zfi {o e f:Expr}{n ty tx:TE}{l j:Pos}(ho:PE X o n)(he:PE X e ty)(p:PE X f tx)(m:M2 X o "setdefault" l e f j):PE X (.Call (.Attribute o "setdefault" l) [e,f] [] j) (P9 n ty tx):=by
 intro c s σ H Q I h;calc wpAny_Call_method m.base m.few m.line HH PySem.F.slot_dict_setdefault PySem.F.type_dict_setdefault (uW (ho c s σ H _ I h) λu G S=>?_);let#[x,N,i,rx,a,F,d,t]:=S;subst F;obtain rfl:u=dy a:=rx;let#[K,E,_]:=J7 i d;calc#[K,E,?_];rw[m.trees];refine He Z (IC (C9 (uW (he c G σ N _ i t) λiv V ⟨y,q,D,W,w⟩=>
  C9 (uW (p c V σ q _ D w) λfv s3 ⟨z,B,I3,g,A,k,P,ey,hz,T,M⟩=>FK ?_))))
 subst ey;calc Zht I3 P W g hz (λx w' C v r b=>#[x,B,b,r,T x v]) λL C b=>#[z,_,b,g,M L]
end
end L2
namespace PySem
section
variable {prog:AG}{w:AI}{K:Type}[DecidableEq K]{knd:HeapKind prog w K}{A:AH}{E:vY}{s:AE}
end
end PySem
namespace L2
open PySem PySem.Spec PyProof.Rows
section
end
end L2
namespace L2
open PySem PySem.Spec PyProof.Rows PySem.W
section
end
section
end
section
end
def KV.getV (r:KV kvs vs):∀ {i:Nat} {p:uQ×V},kvs[i]?=U p->∃v,vs[i]?=U (p.1,v)/\kP p.2 v:=by
 induction r with
 | nil=>intro i p h;simp at h
 | cons c _ f=>
  intro i p h;cases i with
  | zero=>
   rename_i b a _ _ _
   let h:b=p:=by simpa using h
   subst h;exact#[a.2,by show U a=U (b.1,a.2);rw[c.1],c.2]
  | succ i=>
   let#[v,e,d]:=f (~~~h);calc#[v,~~~e,d]
noncomputable def Ko (o:Obj)(kvs:List (uQ×V))(a:AD):It:=
 #[λi H=>H a=U (.frz o (.dK kvs))/\i<⇑kvs,λi H x b=>b=H/\∃p,kvs[i]?=U p/\x=p.2,λi H=>H a=U (.frz o (.dK kvs))/\⇑kvs<=i]
def ZhL {P:AG}{w:AI}{K:uH}{tg:Expr}{o:Obj}{es:Array DictEntry}{ep:Nat}{kvs:List (uQ×V)}(a it:AD)(t:o.data=.dict es ep):o5 P w K tg (Ko o kvs a) [it] it (λi h=>h.IsValIter it a i ⇑kvs ep) where
 mem:=by simp
 obj:=λi h f b j=>by
  let e:b=it:=by simpa using j
  subst e;let#[o,e,c,d]:=f;exact#[o,e,λv z=>by rw[d]at z;cases z]
 keep:=λi h p f k=>let ⟨o,ho,r⟩:=f;#[o,k it {} o ho,r]
 item:=by intro X S D L hc i W s σ H E I q f x;subst S D L;let#[M,m]:=x;let#[e,z,y,vs,r,o',F,Q,n,C,l,B]:=I.hok a _ M;rw[e]at n;cases n;rw[t]at l;cases l;let#[v,hv,rv]:=KV.getV r (vK m);let#[u,A,f2,G,N,T]:=q it {};rw[⇑r]at f;calc wpAny_pyNext_values_item f #[o,es,e,C,t,B] hv λp g sb=>?_;let I1:uB X W σ H { s with heap:=p }:=I.turned (t':=s.toks) (λb o j e=>(sb.2 b j).trans e) u A G N T;let#[oi,ei,ci,di]:=id g;rw[<-⇑r]at g;exact#[v,Z,GQ (s:={ s with heap:=p }) ei ci di ⋯ #[kvs[i].2,H,I1,rv,#[Z,_,vK m,Z],g,λb j=>(q b j).1]]
 done:=by intro X S D L hc i W s σ H E I q f x;subst S D L;let#[M,m]:=x;let#[e,z,y,vs,r,o',F,Q,n,C,l,B]:=I.hok a _ M;rw[e]at n;cases n;rw[t]at l;cases l;let#[u,A,f2,G,N,T]:=q it {};rw[⇑r]at f m;exact wpAny_pyNext_values_end (I.ok.hd hc) f #[o,es,e,C,t,B] (Ci m) λp eb=>#[Z,I.turned (t':=s.toks) (λb o j e=>eb b o j e) u A G N T]
 self:=λ_ _ _ _ _ f h=>wpAny_pyIter_valiter f h
section
def MW (c:TE):TI:=λσ H d=>c σ H λx b=>∃a kvs,x=.ref a/\b a=U (.dK kvs)/\∀o,d (Ko o kvs a) (upd b a (.frz o (.dK kvs)))
def ZkF (Q:PE X o td)(c:‹attributeBase o "values" X.env (eval o X.env)=eval o X.env›)(f:‹(ap.endLine == cp.line)=Y›):PI X tg (.Call (.Attribute o "values" ap) [] [] cp) (MW td):=by
 intro t s σ H V I h;calc wpAny_Call_method (T:="dict") (id:="dict.values") c Z f HH PySem.F.slot_dict_values PySem.F.type_dict_values (uW (Q t s σ H _ I h) λu d L=>?_);let#[x,K,n,S,a,kvs,D,y,q]:=L;subst D;obtain rfl:u=dy a:=S;let#[hz,F,v,r,dd]:=Hb n.hok y;let#[j,E,N,k,p,l,M]:=id dd;refine#[dd.typeIs,λb z=>?_,?_]
 .cases z;exact#[j,k,p.2.1]
 calc method_meetsIn PySem.F.slot_dict_values PySem.F.entry_dict_values Z (PySem.evalArgs_none #[Z,dd.typeIs,PySem.F.args_dict_values_1 _,_,meets_dict_values _ a F,#[v,dd],?_]);let#[W,B,P,g,i,A]:=n.freezeD y;rw[k]at i;cases i;rw[l]at g;cases g;generalize hg2:d.heap.push { cls:=.type "dict_values",data:=.fields ↑[.ref a] }=g2;let w:∀b o,d.heap.get? b=U o->g2.get? b=U o:=λb o e=>by rw[<-hg2];exact vy _ e
 let C:g2.IsValuesView ↥d a:=#[_,by rw[<-hg2];calc wB _ Z,Z,Z];let m:uB X t σ (upd K a (.frz j (.dK kvs))) { d with heap:=g2 }:=A.kept (t':=d.toks) w;calc wpAny_pyIter_values (s:={ d with heap:=g2 }) C (show g2.DictAt (wb X.prog X.w) a v N from#[j,E,w _ _ k,p,l,M]) ?_;calc#[g2.objs.size,[g2.objs.size],_,_,_,Z,m.kept (t':=d.toks) λb o e=>vy _ e,ZhL (kvs:=kvs) a _ l,#[_,wB _ Z,Z,by rw[⇑r];rfl],λb G=>?_,q j];let e:b=g2.objs.size:=by simpa using G
 subst e;calc m.fpOk (uV _) (m.hok.fresh (uV _))
end
section
end
section
end
end L2
namespace PySem
noncomputable def sS (h:Heap)(d:AD)(es:Array DictEntry)(a:Nat):Prop:=∃o,h.get? d=U o/\o.ExactDict/\o.data=.dict es a
section
def sS.at (x:sS h d es ep)(e:∀o,h.get? d=U o->h'.get? d=U o):sS h' d es ep:=let ⟨o,ho,r⟩:=x;#[o,e _ ho,r]
end
end PySem
namespace L2
open PySem PySem.Spec PyProof.Rows PySem.W
def KT.at (r:KT H kvs xs):∀(i:Nat)(x:List uQ×V)(u:List uQ×AD×bU),kvs[i]?=U x->xs[i]?=U u->kP x.2 u.2.2:=by
 induction r with
 | nil=>intro i x u h;simp at h
 | cons e _ d=>
  intro i x u b a;cases i with
  | zero=>
   let c:=cx b;let f:=cx a;rw[<-c,<-f];exact e.2.2
  | succ i=>calc d i x u (~~~b) (~~~a)
section
end
end L2
namespace L2
open PySem PySem.Spec PyProof.Rows
section
def kF.keys (b:Nat->Bool)(f:Nat->V)(K:⇑kvs<=100000)(z:H a=U (.frz o (.dK kvs)))
  (C:∀i p c j,kvs[i]?=U p->ky H c->(∀H'',ky c H''->j (b i) H'')->tt (τ0.set 0 (U (kV p.1))) c j)
  (D:∀i p c j,kvs[i]?=U p->b i=Y->ky H c->(∀H'',ky c H''->j (f i) H'')->te (τ0.set 0 (U (kV p.1))) c j)
  (B:∀p c,ky H c->H p=O->c p=U (.lst (((cc ⇑kvs).filter b).map f))->Q (.ref p) c):kF (Hx o kvs a) τ0 (xW 0) tt te H Q:=by
 intro g s;calc#[λi m τ n=>i<=⇑kvs/\m=⇑kvs-i/\(∀w:Option V,τ.set 0 w=τ0.set 0 w)/\ky H n/\n g=U (.lst (((cc i).filter b).map f)),#[⇑kvs,wf _,Z,λ_=>rfl,vG s,uN],?_];rintro i m τ n ⟨I,rfl,t,h,r⟩;by_cases u:i<⇑kvs
 .refine .inr #[#[h _ _ z,u],λl c=>(∀w:Option V,l.set 0 w=τ0.set 0 w)/\ky H c/\c g=U (.lst (((cc (i+1)).filter b).map f)),λl c q=>#[⇑kvs-(i+1),∅,u,Z,q],λx E y=>?_];let#[Z,p,v,Z]:=y;show tt (τ.set 0 (U (kV p.1))) _ _;rw[t];let d:∀w:Option V,(τ0.set 0 (U (kV p.1))).set 0 w=τ0.set 0 w:=λw=>by rw[List.set_set]
  calc C i p _ _ v h λG k=>?_;cases hb:b i with
  | false=>
   rw[uI vC];calc#[d,h.trans k,?_];rw[k _ _ r,CD,Dc];simp[hb]
  | true=>
   rw[uM Z];refine D i p _ _ v hb (h.trans k) λF A=>#[_,A _ _ (k _ _ r),?_,d,ny s ((h.trans k).trans A),?_]
   .rw[uO];have:=yA b (cc i);rw[Bp]at this;rw[bA];nofun
   .rw[uN,CD,Dc];simp[hb]
 .let e:i=⇑kvs:=by nofun
  subst e;calc .inl #[#[h _ _ z,uV _],B g n h s r]
end
section
end
instance (l w:uz) (i:Nat):Decidable (wX l w i):=by unfold wX;infer_instance
theorem DC {α:Type}[DecidableEq α]:∀(l m:List α),l.Nodup->(∀x∈l,x∈m)->⇑l<=⇑m
 | [],m,_,_=>wf _
 | x::l,m,nd,h=>by
  let hx:=h x xy;let a:=y4.mp nd;have:=DC l (m.erase x) a.2 λy b=>(List.mem_erase_of_ne (λe=>by rw[e]at b;calc a.1 b)).mpr (h y (wU _ b));rw[List.length_erase_of_mem hx]at this;let c:0<⇑m:=List.length_pos_of_mem hx;rw[vQ]
  nofun
def Rd.same (h:Rd H a u)(s:ky H H'):Rd H' a u:=h.elim (λh=>.inl (s _ _ h)) λ⟨o,h⟩=>.inr #[o,s _ _ h]
structure Firs {κ:Type}(f:uz->κ)(ks ds:uG):Prop where
 srt:ds.Pairwise lS
 sub:∀d∈ds,d∈ks
 all:∀w∈ks,∃u∈ds,f u=f w/\¬lS w u
 one:∀u∈ds,∀v∈ds,f u=f v->u=v
def Firs.nil (f:uz->κ):Firs f [] []:=#[.nil,(λ_ h=>by cases h),(λ_ h=>by cases h),(λ_ h=>by cases h)]
open PySem.W (Frag)
section
end
end L2
namespace L2
open PySem PySem.Spec PyProof.Rows PySem.W
section
end
end L2
namespace L2
open PySem PySem.Spec PyProof.Rows
structure oq (W:List Wd)(g s:Wd):Prop where
 av:Av W g
 iff:∀x,Av W (g++x)↔Av W (s++x)
def oq.start (h:Av W []):oq W [] []:=#[h,λx=>Iff.rfl]
def oq.step (h:oq W g s)(a:Av W (s++[c]))(d:zq W (s++[c]) e):oq W (g++[c]) e:=by
 calc#[(h.iff [c]).mpr a,λx=>?_];let b:g++[c]++x=g++c::x:=by simp
 rw[b,h.iff,Eo d];calc#[λk=>k.2,λk=>#[a,k]]
def EY (y:Wd):Nat->Wd
 | 0=>[]
 | n+1=>y++EY y n
def KI.stay (h:KI N o ⇑es es f){s:Wd}(a:s∈N)(b:s∉es):∃t∈o s,t∉es:=by have:=mt (h.zero s a).mpr b;rw[h.left s a,zM,Qz]at this;simpa using this
def KU {W:List Wd}{m:Wd}{es:List Wd}{o:Wd->List Wd}(a:∀(s:Wd)(c:Nat),c∈m->Av W (s++[c])->∃e∈o s,zq W (s++[c]) e)(b:∀(k:Nat)(s:Wd),es[k]?=U s->∀t∈o s,t∈es.take k):
  ∀(k:Nat)(s:Wd),es[k]?=U s->∀x:Wd,(∀c∈x,c∈m)->Av W (s++x)->⇑x<=k:=by
 intro k;induction k using Nat.strongRecOn with
 | _ k q=>
  intro s n x g f;cases x with
  | nil=>exact wf _
  | cons c x=>
   let p:Av W (s++[c]):=f.inf (by
    have:s++c::x=(s++[c])++x:=by simp
    rw[this];calc Gg _ _)
   let#[e,r,l]:=a s c (g c xy) p;let#[j,i,h]:=yK (b k s n e r);rw[xw]at i;rw[List.getElem_take]at h;have:=q j ∅ e (vT.mpr #[∅,h]) x (λd u=>g d (wU _ u)) ((Eo l).mp f).2;rw[vQ]
   nofun
theorem RS {W:List Wd}{m:Wd}{es N:List Wd}{o:Wd->List Wd}(b:∀s t,t∈o s->t∈N/\∃c∈m,Av W (s++[c])/\zq W (s++[c]) t)(e:∀s∈N,Av W s)(a:∀s∈N,s∉es->∃t∈o s,t∉es):
  ∀(n:Nat)(s:Wd),s∈N->s∉es->∃x:Wd,⇑x=n/\(∀c∈x,c∈m)/\Av W (s++x)
 | 0,s,hN,_=>#[[],Z,λc hc=>(by cases hc),by rw[zd];calc e s hN]
 | n+1,s,hN,hs=>by
  let#[t,ht,nt]:=a s hN hs;let#[j,c,hc,h,k]:=b s t ht;let#[x,g,i,f]:=RS b e a n t j nt;calc#[c::x,by rw[vQ,g],λd l=>?_,(Eo k).mpr #[h,f]];rcases vg.mp l with z | z
  .rw[z];exact hc
  .exact i d z
structure LF (W:List Wd)(m s x:Wd):Prop where
 mem:∀c∈x,c∈m
 av:Av W (s++x)
 max:∀y:Wd,(∀c∈y,c∈m)->Av W (s++y)->⇑y<=⇑x
 fst:∀y:Wd,(∀c∈y,c∈m)->Av W (s++y)->⇑y=⇑x->¬y<x
structure PF (W:List Wd)(m s:Wd)(cs:uz)(x:Wd):Prop where
 mem:∀c∈x,c∈m
 av:Av W (s++x)
 max:∀(c:Nat)(y:Wd),c∈cs->(∀c∈y,c∈m)->Av W (s++c::y)->⇑y+1<=⇑x
 fst:∀(c:Nat)(y:Wd),c∈cs->(∀c∈y,c∈m)->Av W (s++c::y)->⇑y+1=⇑x->¬(c::y)<x
 hd:∀(b:Nat)(x':Wd),x=b::x'->b∈cs
def PF.start (h:Av W s):PF W m s [] []:=
 #[λc a=>(by cases a),(by rw[zd];calc h),λc y a=>(by cases a),λc y a=>(by cases a),λb d e=>(by cases e)]
def PF.done (h:PF W m s cs x)(i:∀c∈m,Av W (s++[c])->c∈cs):LF W m s x:=by
 let f:∀(c:Nat)(y:Wd),Av W (s++c::y)->Av W (s++[c]):=λc y a=>a.inf (by
  have:s++c::y=(s++[c])++y:=by simp
  rw[this];calc Gg _ _)
 refine#[h.mem,h.av,λy b a=>?_,λy b a e=>?_]
 .cases y with
  | nil=>exact wf _
  | cons c y=>exact h.max c y (i c (b c xy) (f c y a)) (λd g=>b d (wU _ g)) a
 .cases y with
  | nil=>
   have:x=[]:=Cq.mp e.symm;rw[this];exact List.lt_irrefl _
  | cons c y=>calc h.fst c y (i c (b c xy) (f c y a)) (λd g=>b d (wU _ g)) a e
def PF.next (h:PF W m s cs x)(v:∀d∈cs,d<c)(p:c∈m)(w:Av W (s++[c]))(o:zq W (s++[c]) e)(i:LF W m e z):
  (⇑x<⇑(c::z)->PF W m s (cs++[c]) (c::z))/\(¬⇑x<⇑(c::z)->PF W m s (cs++[c]) x):=by
 let A:⇑(c::z)=⇑z+1:=vQ;constructor
 .intro u;refine#[λd g=>?_,(Eo o).mpr #[w,i.av],λd y g f a=>?_,λd y g f a j=>?_,λb n e=>?_]
  .rcases vg.mp g with q | q
   .rw[q];exact p
   .exact i.mem d q
  .rcases wM.mp g with q | q
   .have:=h.max d y q f a
    nofun
   .rw[vI.mp q]at a;have:=i.max y f ((Eo o).mp a).2
    nofun
  .rcases wM.mp g with q | q
   .have:=h.max d y q f a
    nofun
   .let r:=vI.mp q;subst r;intro l;have:y<z:=by
     cases l with
     | rel k=>exact Sa k (xB _)
     | cons k=>exact k
    exact i.fst y f ((Eo o).mp a).2 ∅ this
  .cases e;simp
 .intro u;refine#[h.mem,h.av,λd y g f a=>?_,λd y g f a j=>?_,λb n e=>GI _ (h.hd b n e)]
  .rcases wM.mp g with q | q
   .exact h.max d y q f a
   .rw[vI.mp q]at a;have:=i.max y f ((Eo o).mp a).2
    nofun
  .rcases wM.mp g with q | q
   .exact h.fst d y q f a j
   .let r:=vI.mp q;subst r;intro l;cases hx:x with
    | nil=>rw[hx]at j;simp at j
    | cons b n=>
     let t:=v b (h.hd b n hx);rw[hx]at l;cases l with
     | rel k=>exact Sa (Nat.lt_trans k t) (xB _)
     | cons k=>calc Sa t (xB _)
inductive Lv (W:List Wd)(m:Wd):Nat->Wd->Prop
 | zero:Lv W m 0 []
 | step {k:Nat} {s e:Wd} {c:Nat}:Lv W m k s->c∈m->Av W (s++[c])->zq W (s++[c]) e->Lv W m (k+1) e
theorem Lv.of {W:List Wd}{m:Wd}(h:Av W []):∀(k:Nat)(g:Wd),⇑g=k->(∀c∈g,c∈m)->Av W g->∃s,Lv W m k s/\oq W g s
 | 0,g,hl,_,_=>by
  have:g=[]:=Cq.mp hl;subst this;exact#[[],.zero,oq.start h]
 | k+1,g,hl,hm,ha=>by
  let a:g≠[]:=λe=>by rw[e]at hl;cases hl
  let b:=GA a;let j:Av W g.dropLast:=ha.inf (by rw[<-b];rw[Ga];calc Gg _ _);let#[s,i,r]:=Lv.of h k g.dropLast (by rw[zA,hl];rfl) (λc l=>hm c (List.dropLast_subset _ l)) j;let#[e,f]:=Ka W (s++[g.getLast a]);let d:Av W (s++[g.getLast a]):=(r.iff _).mp (by rw[b];calc ha);calc#[e,.step i (hm _ (List.getLast_mem a)) d f,by rw[<-b];calc r.step d f]
end L2
set_option maxHeartbeats 400000000
namespace Pk88
open PySem L2
def sz (k:Nat)(h:k<=9000):k<=sizeLine:=u8 h (by rw[bA];decide)
noncomputable def uX (i:Nat):Stmt:=PySem.Challenge.pw_lackword_k88_lines_refused.main.body.getD i (.Pass #[0,0,0,0])
#synth [qN 25,rO 26,sW 27,qJ 28,rY 29,sP 30,sV 31,qV 34,uf 35,tK 37,qH 41,sA 44,LI 46,rF 47,qU 48,sU 51,ua 55,sB 56,si 58,sR 59,rX 60,tE 61,qA 62,sI 63,tD 64,rM 65,qF 66,sK 73,sv 78,re 85,qQ 86,sj 87,tJ 88,qO 89,sJ 90,qG 91,sZ 94,ug 106,uq 107,tQ 108,rS 111,uc 112,rq 113,sT 115,t8 116,qI 117,rD 118,tw 119,tI 120,qX 121,qT 122,qR 123,rp 124,tO 125,r6 126,qM 127,sk 128,sX 129,rA 130,rG 131,rB 135,sg 136,tz 137,oh 138,oz 139,rn 140,ub 141,ri 142,rE 143,tP 144,qS 145,tF 146,JT 147,Lf 4000,KW 5000,Jp 6000,Lz 7000,Jn 8000,KZ 9000,Kc 10000,LG 11000,JY 12000,Jx 13000,Ld 14000,sL 39000,qE 39001,ur 39002,qY 39003,sY 39004,rR 39006,qL 39007,rP 39008,uj 40000,qC 80000,rj 80001,rZ 80002,sQ 80003,t7 80004,rV 80005,tU 80006,tZ 80007,tH 80008,sD 80009,ud 80010,qz 80011,ui 100000,qP 103000,tS 110000,rC 110001,rL 110003,t9 110004,uh 110005,rN 110006,rH 110007,qZ 110008,so 110009,t5 134000,tV 134001]
noncomputable abbrev eZ (C L:AD):List Value:=[.ref C,.ref L,.type "ValueError",.type "Exception",.type "BaseException",.type "object"]
set_option genInjectivity false
structure Ad where
 (c_LL c_M0 c_LZ c_MH c_MZ c_MX c_MI c_MU c_NL c_MD c_MY c_LM c_MG c_NZ c_NX c_MV c_MW c_NW c_NJ c_NK c_MF c_N0 c_NM c_NY ax ak ao ay az aq aA aE aw aB aj cI cJ cK cL cN cO cP cQ cg cj cR cS cT cU cV cW cX cY c5 c6 c7 ck cn cq c9 de df dh dj dm dw dz cu dB f_L1 f_L3 f_MR f_LS f_LF f_LW f_KT f_L2 f_NI f_NP f_NS f_LU f_ask f_LD f_LR f_L9 f_LV f_NB f_MA f_NV f_NC f_N5 f_NQ f_LX f_MS f_MT f_MB f_LG f_MQ f_LE f_LT f_MO f_L0 f_MP f_MC f_N2 f_N1 f_NR f_NE f_NH f_LH f_KU f_KV f_MN f_M9 f_NO f_M2 f_M1 f_M3 f_MK f_NA f_MJ f_NN f_ML f_M5 f_M4 f_MM f_M6 f_M7 f_M8 f_NT f_NU f_NG f_L5 f_L8 f_L6 f_L7 f_ND f_NF f_N3 f_N4 f_L4 f_law t_L2 k_L2 v_FORMS v_ANSWERS:AD)
 (aL aD aG aM aN aH aO aY aI aQ aC eJ eK eN eO eP eQ eR eU eV eY fb fg fh fk fm fq fz fA fB fC fD fE fF fG fH fJ fK fL fM fN fO fP fQ fR d_L1 d_L3 d_MR d_LS d_LF d_LW d_KT d_L2 d_NI d_NP d_NS d_LU d_ask d_LD d_LR d_L9 d_LV d_NB d_MA d_NV d_NC d_N5 d_NQ d_LX d_MS d_MT d_MB d_LG d_MQ d_LE d_LT d_MO d_L0 d_MP d_MC d_N2 d_N1 d_NR d_NE d_NH d_LH d_KU d_KV d_MN d_M9 d_NO d_M2 d_M1 d_M3 d_MK d_NA d_MJ d_NN d_ML d_M5 d_M4 d_MM d_M6 d_M7 d_M8 d_NT d_NU d_NG d_L5 d_L8 d_L6 d_L7 d_ND d_NF d_N3 d_N4 d_L4 d_law:AF)
structure Txt (K:uH)(mg:AB)(a:Ad):Prop where
 gX:DF K mg "has_only" qN a.f_L1 a.d_L1 ["text","letters"]
 iL:DF K mg "is_kinds" rO a.f_L3 a.d_L3 ["thing"]
 gZ:DF K mg "is_word" sW a.f_MR a.d_MR ["thing","kinds","most"]
 ir:DF K mg "is_letter" qJ a.f_LS a.d_LS ["thing","kinds"]
 gR:DF K mg "need_kinds" rY a.f_LF a.d_LF ["thing"]
 gY:DF K mg "need_word" sP a.f_LW a.d_LW ["thing","kinds","most"]
 g8:DF K mg "need_letter" sV a.f_KT a.d_KT ["thing","kinds"]
 gS:DF K mg "in_order" qV a.f_L2 a.d_L2 ["words"]
 jD:DF K mg "pieces" uf a.f_NI a.d_NI ["text","length"]
 jO:DF K mg "lacking_among" tK a.f_NP a.d_NP ["shorter","standing","kinds"]
 jP:DF K mg "lacks" qH a.f_NS a.d_NS ["text","word"]
 hO:DF K mg "is_within" sA a.f_LU a.d_LU ["thing","least","most"]
 j8:DF K mg "ask" LI a.f_ask a.d_ask ["band","word"]
 hW:DF K mg "all_places" rF a.f_LD a.d_LD ["strip","word"]
 iy:DF K mg "how_often" qU a.f_LR a.d_LR ["strip","word"]
 iM:DF K mg "oftenest" sU a.f_L9 a.d_L9 ["strip","length"]
 iz:DF K mg "need_list" ua a.f_LV a.d_LV ["words","kinds"]
 jj:DF K mg "avoids" sB a.f_NB a.d_NB ["words","word"]
 iN:DF K mg "refuse_inside" si a.f_MA a.d_MA ["words"]
 jQ:DF K mg "stems_of" sR a.f_NV a.d_NV ["words"]
 jE:DF K mg "ending_stem" rX a.f_NC a.d_NC ["stems","text"]
 jU:DF K mg "ways_between" tE a.f_N5 a.d_N5 ["words","kinds"]
 jR:DF K mg "stems_that_end" qA a.f_NQ a.d_NQ ["ways"]
 iA:DF K mg "refuse_endless" sI a.f_LX a.d_LX ["ways","ended"]
 jk:DF K mg "longest_word" tD a.f_MS a.d_MS ["ways","ended"]
 jn:DF K mg "refuse_split" rM a.f_MT a.d_MT ["words","kinds","text"]
 iO:DF K mg "strip_of" qF a.f_MB a.d_MB ["words","kinds"]
 hZ:DF K mg "need_same_kinds" sK a.f_LG a.d_LG ["one","other"]
 ii:DF K mg "is_name" sv a.f_MQ a.d_MQ ["thing"]
 ia:DF K mg "is_letters" re a.f_LE a.d_LE ["word"]
 hU:DF K mg "is_number" qQ a.f_LT a.d_LT ["word"]
 jo:DF K mg "is_as_told" sj a.f_MO a.d_MO ["word","form"]
 iP:DF K mg "forms_of" tJ a.f_L0 a.d_L0 ["verb","many"]
 jp:DF K mg "is_line" qO a.f_MP a.d_MP ["words"]
 iQ:DF K mg "value_of" sJ a.f_MC a.d_MC ["word"]
 jV:DF K mg "read" qG a.f_N2 a.d_N2 ["line"]
 jW:DF K mg "lone" sZ a.f_N1 a.d_N1 ["strip","place"]
 jL:DF K mg "fresh_words" ug a.f_NR a.d_NR ["lesser","longer"]
 jq:DF K mg "filled" uq a.f_NE a.d_NE ["lesser","longer","reason"]
 jr:DF K mg "opened" tQ a.f_NH a.d_NH ["lesser","longer","kinds","reason"]
 gM:DF K mg "told_parts" rS a.f_LH a.d_LH ["parts"]
 hG:DF K mg "told_beside" uc a.f_KU a.d_KU ["one","other"]
 gT:DF K mg "told_change" rq a.f_KV a.d_KV ["change"]
 ij:DF K mg "answer_strip" sT a.f_MN a.d_MN ["shelf","given"]
 iR:DF K mg "answer_take" t8 a.f_M9 a.d_M9 ["shelf","given"]
 js:DF K mg "answer_put" qI a.f_NO a.d_NO ["shelf","given"]
 iS:DF K mg "answer_drop" rD a.f_M2 a.d_M2 ["shelf","given"]
 iT:DF K mg "answer_back" tw a.f_M1 a.d_M1 ["shelf","given"]
 iU:DF K mg "answer_from" tI a.f_M3 a.d_M3 ["shelf","given"]
 ik:DF K mg "answer_names" qX a.f_MK a.d_MK ["shelf","given"]
 iV:DF K mg "answer_text" qT a.f_NA a.d_NA ["shelf","given"]
 io:DF K mg "answer_lacks" qR a.f_MJ a.d_MJ ["shelf","given"]
 jt:DF K mg "answer_ask" rp a.f_NN a.d_NN ["shelf","given"]
 ip:DF K mg "answer_often" tO a.f_ML a.d_ML ["shelf","given"]
 iW:DF K mg "answer_most" r6 a.f_M5 a.d_M5 ["shelf","given"]
 iX:DF K mg "answer_lone" qM a.f_M4 a.d_M4 ["shelf","given"]
 iq:DF K mg "answer_rooms" sk a.f_MM a.d_MM ["shelf","given"]
 iY:DF K mg "answer_near" sX a.f_M6 a.d_M6 ["shelf","given"]
 iZ:DF K mg "answer_ring" rA a.f_M7 a.d_M7 ["shelf","given"]
 i5:DF K mg "answer_same" rG a.f_M8 a.d_M8 ["shelf","given"]
 jM:DF K mg "_law_cell_at" rB a.f_NT a.d_NT ["_law_script","_law_k"]
 ib:DF K mg "_law_mixed" sg a.f_NU a.d_NU ["_law_cell","_law_k"]
 jF:DF K mg "_law_names" tz a.f_NG a.d_NG ["_law_cell","_law_many"]
 i8:DF K mg "_law_no_lines" oh a.f_L5 a.d_L5 ["_law_names_here","_law_a"]
 i9:DF K mg "_law_of_names" oz a.f_L8 a.d_L8 ["_law_names_here","_law_a"]
 ja:DF K mg "_law_of_calls" rn a.f_L6 a.d_L6 ["_law_names_here","_law_a"]
 jb:DF K mg "_law_of_lists" ub a.f_L7 a.d_L7 ["_law_none","_law_a","_law_b","_law_rest"]
 jG:DF K mg "_law_fields" ri a.f_ND a.d_ND ["_law_e"]
 jH:DF K mg "_law_class" rE a.f_NF a.d_NF ["_law_e"]
 jN:DF K mg "_law_said" tP a.f_N3 a.d_N3 ["_law_desk","_law_line"]
 jT:DF K mg "_law_seen" qS a.f_N4 a.d_N4 ["_law_desk","_law_names_here"]
 jc:DF K mg "_law_no_kinds" tF a.f_L4 a.d_L4 ["_law_thing"]
 jY:DF K mg "law" JT a.f_law a.d_law ["_law_script"]
 b7:mg "LackError"=U (.ref a.c_LL)
 k_LL:lA K a.c_LL [.ref a.c_LL,.type "ValueError",.type "Exception",.type "BaseException",.type "object"]
 cb:mf K a.c_LL "__init__" (.builtin "ValueError.__init__")
 fX:mg "NoWord"=U (.ref a.c_M0)
 cz:Xm K a.c_M0
 gg:Xi K a.c_M0
 k_M0:lA K a.c_M0 (eZ a.c_M0 a.c_LL)
 fY:fw K (.ref a.c_M0) "__init__"=U (U (.ref a.ax))
 fS:isFn K (.ref a.ax)=Y
 bh:kE K a.c_M0 "word"
 fi_M0:xk K "__init__" "NoWord.__init__" Lf a.ax a.aL
 b_M0:lD K a.aL ["self","word"] []
 m_LZ:mg "NoLength"=U (.ref a.c_LZ)
 dY:Xm K a.c_LZ
 gi:Xi K a.c_LZ
 k_LZ:lA K a.c_LZ (eZ a.c_LZ a.c_LL)
 i_LZ:fw K (.ref a.c_LZ) "__init__"=U (U (.ref a.ak))
 gj:isFn K (.ref a.ak)=Y
 aR:kE K a.c_LZ "length"
 fi_LZ:xk K "__init__" "NoLength.__init__" KW a.ak a.aD
 b_LZ:lD K a.aD ["self","length"] []
 m_MH:mg "NoPlace"=U (.ref a.c_MH)
 dZ:Xm K a.c_MH
 gk:Xi K a.c_MH
 k_MH:lA K a.c_MH (eZ a.c_MH a.c_LL)
 i_MH:fw K (.ref a.c_MH) "__init__"=U (U (.ref a.ao))
 gm:isFn K (.ref a.ao)=Y
 a9:kE K a.c_MH "place"
 fi_MH:xk K "__init__" "NoPlace.__init__" Jp a.ao a.aG
 b_MH:lD K a.aG ["self","place"] []
 m_MZ:mg "NoRing"=U (.ref a.c_MZ)
 eC:Xm K a.c_MZ
 gn:Xi K a.c_MZ
 k_MZ:lA K a.c_MZ (eZ a.c_MZ a.c_LL)
 i_MZ:fw K (.ref a.c_MZ) "__init__"=U (U (.ref a.ay))
 gq:isFn K (.ref a.ay)=Y
 ba:kE K a.c_MZ "thing"
 fi_MZ:xk K "__init__" "NoRing.__init__" Lz a.ay a.aM
 b_MZ:lD K a.aM ["self","thing"] []
 fZ:mg "NoList"=U (.ref a.c_MX)
 dC:Xm K a.c_MX
 gt:Xi K a.c_MX
 k_MX:lA K a.c_MX (eZ a.c_MX a.c_LL)
 f7:fw K (.ref a.c_MX) "__init__"=U (U (.ref a.az))
 fT:isFn K (.ref a.az)=Y
 bi:kE K a.c_MX "word"
 fi_MX:xk K "__init__" "NoList.__init__" Jn a.az a.aN
 b_MX:lD K a.aN ["self","word"] []
 m_MI:mg "TooLong"=U (.ref a.c_MI)
 fU:Xm K a.c_MI
 gu:Xi K a.c_MI
 k_MI:lA K a.c_MI (eZ a.c_MI a.c_LL)
 i_MI:fw K (.ref a.c_MI) "__init__"=U (U (.ref a.aq))
 gv:isFn K (.ref a.aq)=Y
 bw:kE K a.c_MI "word"
 fi_MI:xk K "__init__" "TooLong.__init__" KZ a.aq a.aH
 b_MI:lD K a.aH ["self","word"] []
 m_MU:mg "Inside"=U (.ref a.c_MU)
 cA:Xm K a.c_MU
 gx:Xi K a.c_MU
 k_MU:lA K a.c_MU (eZ a.c_MU a.c_LL)
 i_MU:fw K (.ref a.c_MU) "__init__"=U (U (.ref a.aA))
 gy:isFn K (.ref a.aA)=Y
 bv:kE K a.c_MU "one"
 bb:kE K a.c_MU "other"
 fi_MU:xk K "__init__" "Inside.__init__" Kc a.aA a.aO
 b_MU:lD K a.aO ["self","one","other"] []
 m_NL:mg "Split"=U (.ref a.c_NL)
 eD:Xm K a.c_NL
 gz:Xi K a.c_NL
 k_NL:lA K a.c_NL (eZ a.c_NL a.c_LL)
 i_NL:fw K (.ref a.c_NL) "__init__"=U (U (.ref a.aE))
 gB:isFn K (.ref a.aE)=Y
 bW:kE K a.c_NL "one"
 bM:kE K a.c_NL "other"
 fi_NL:xk K "__init__" "Split.__init__" LG a.aE a.aY
 b_NL:lD K a.aY ["self","one","other"] []
 m_MD:mg "Endless"=U (.ref a.c_MD)
 eE:Xm K a.c_MD
 gC:Xi K a.c_MD
 k_MD:lA K a.c_MD (eZ a.c_MD a.c_LL)
 i_MD:fw K (.ref a.c_MD) "__init__"=U (U (.ref a.aw))
 gE:isFn K (.ref a.aw)=Y
 bz:kE K a.c_MD "head"
 bO:kE K a.c_MD "lap"
 fi_MD:xk K "__init__" "Endless.__init__" JY a.aw a.aI
 b_MD:lD K a.aI ["self","head","lap"] []
 f9:mg "NoName"=U (.ref a.c_MY)
 dD:Xm K a.c_MY
 gF:Xi K a.c_MY
 k_MY:lA K a.c_MY (eZ a.c_MY a.c_LL)
 gc:fw K (.ref a.c_MY) "__init__"=U (U (.ref a.aB))
 fV:isFn K (.ref a.aB)=Y
 bj:kE K a.c_MY "name"
 fi_MY:xk K "__init__" "NoName.__init__" Jx a.aB a.aQ
 b_MY:lD K a.aQ ["self","name"] []
 m_LM:mg "NameThere"=U (.ref a.c_LM)
 eI:Xm K a.c_LM
 gG:Xi K a.c_LM
 k_LM:lA K a.c_LM (eZ a.c_LM a.c_LL)
 i_LM:fw K (.ref a.c_LM) "__init__"=U (U (.ref a.aj))
 gH:isFn K (.ref a.aj)=Y
 aZ:kE K a.c_LM "name"
 fi_LM:xk K "__init__" "NameThere.__init__" Ld a.aj a.aC
 b_LM:lD K a.aC ["self","name"] []
 m_MG:mg "NoKinds"=U (.ref a.c_MG)
 x_MG:Xm K a.c_MG
 k_MG:lA K a.c_MG (eZ a.c_MG a.c_LL)
 i_MG:fw K (.ref a.c_MG) "__init__"=U (U (.builtin "ValueError.__init__"))
 m_NZ:mg "Full"=U (.ref a.c_NZ)
 x_NZ:Xm K a.c_NZ
 i_NZ:fw K (.ref a.c_NZ) "__init__"=U (U (.builtin "ValueError.__init__"))
 m_NX:mg "Bare"=U (.ref a.c_NX)
 x_NX:Xm K a.c_NX
 gI:Xi K a.c_NX
 k_NX:lA K a.c_NX (eZ a.c_NX a.c_LL)
 i_NX:fw K (.ref a.c_NX) "__init__"=U (U (.builtin "ValueError.__init__"))
 m_MV:mg "NoBack"=U (.ref a.c_MV)
 x_MV:Xm K a.c_MV
 gJ:Xi K a.c_MV
 k_MV:lA K a.c_MV (eZ a.c_MV a.c_LL)
 i_MV:fw K (.ref a.c_MV) "__init__"=U (U (.builtin "ValueError.__init__"))
 m_MW:mg "NoLine"=U (.ref a.c_MW)
 x_MW:Xm K a.c_MW
 gK:Xi K a.c_MW
 k_MW:lA K a.c_MW (eZ a.c_MW a.c_LL)
 i_MW:fw K (.ref a.c_MW) "__init__"=U (U (.builtin "ValueError.__init__"))
 ge:mg "Band"=U (.ref a.c_NW)
 dE:mf K a.c_NW "__init__" (.ref a.cI)
 m_NJ:mg "Plain"=U (.ref a.c_NJ)
 bX:yH K a.c_NJ
 dF:Mk K a.c_NJ a.cg
 aW:lU K a.c_NJ "words" a.cN
 aS:lU K a.c_NJ "laid_out" a.cL
 bd:lU K a.c_NJ "reach" a.cP
 a7:lU K a.c_NJ "lacking" a.cQ
 aJ:kE K a.c_NJ "own_text"
 aT:kE K a.c_NJ "own_kinds"
 m_NK:mg "Shelf"=U (.ref a.c_NK)
 am:yH K a.c_NK
 dG:Mk K a.c_NK a.cj
 bZ:lU K a.c_NK "kinds" a.cR
 cB:lU K a.c_NK "need_free" a.cS
 dH:lU K a.c_NK "lay" a.cT
 dI:lU K a.c_NK "names" a.cU
 b8:lU K a.c_NK "kept" a.cV
 bY:lU K a.c_NK "shown" a.cW
 dJ:lU K a.c_NK "take" a.cX
 dN:lU K a.c_NK "put" a.cY
 dO:lU K a.c_NK "drop" a.c5
 dP:lU K a.c_NK "back" a.c6
 dQ:lU K a.c_NK "ranked" a.c7
 aU:kE K a.c_NK "own_kinds"
 ah:kE K a.c_NK "own_strips"
 m_MF:mg "Machine"=U (.ref a.c_MF)
 dR:Mk K a.c_MF a.ck
 gf:mg "Ring"=U (.ref a.c_N0)
 fW:yH K a.c_N0
 ce:Mk K a.c_N0 a.cn
 bo:kE K a.c_N0 "own_text"
 bg:kE K a.c_N0 "own_kinds"
 m_NM:mg "Strip"=U (.ref a.c_NM)
 ae:yH K a.c_NM
 cC:Mk K a.c_NM a.cq
 aX:lU K a.c_NM "kinds" a.cJ
 aF:lU K a.c_NM "text" a.cK
 dS:lU K a.c_NM "lacking" a.c9
 dU:lU K a.c_NM "put" a.de
 dW:lU K a.c_NM "drop" a.df
 dX:lU K a.c_NM "back" a.dh
 cD:lU K a.c_NM "grow" a.dj
 cE:lU K a.c_NM "shrink" a.dm
 cF:lU K a.c_NM "change" a.dw
 cG:lU K a.c_NM "copied" a.dz
 aV:lU K a.c_NM "place_of" a.cO
 ad:kE K a.c_NM "own_text"
 ag:kE K a.c_NM "own_kinds"
 af:kE K a.c_NM "own_lacking"
 ai:kE K a.c_NM "own_deeds"
 m_NY:mg "Desk"=U (.ref a.c_NY)
 a8:yH K a.c_NY
 cH:Mk K a.c_NY a.cu
 cf:lU K a.c_NY "say" a.dB
 aa:kE K a.c_NY "own_shelf"
 gU:MF K "__init__" "Band.__init__" sL a.cI a.eJ ["self","text","kinds"]
 iH:MF K "kinds" "Band.kinds" qE a.cJ a.eK ["self"]
 hV:MF K "text" "Band.text" ur a.cK a.eN ["self"]
 iD:MF K "laid_out" "Band.laid_out" qY a.cL a.eO ["self","length"]
 iI:MF K "words" "Band.words" sY a.cN a.eP ["self","length"]
 iE:MF K "place_of" "Band.place_of" rR a.cO a.eQ ["self","word"]
 ju:MF K "reach" "Band.reach" qL a.cP a.eR ["self"]
 jd:MF K "lacking" "Band.lacking" rP a.cQ a.eU ["self"]
 jw:MF K "__init__" "Plain.__init__" uj a.cg a.eV ["self","text","kinds"]
 jx:MF K "__init__" "Shelf.__init__" qC a.cj a.eY ["self","kinds"]
 gO:MF K "kinds" "Shelf.kinds" rj a.cR a.fb ["self"]
 gW:MF K "need_free" "Shelf.need_free" rZ a.cS a.fg ["self","name"]
 jI:MF K "lay" "Shelf.lay" sQ a.cT a.fh ["self","name","strip"]
 ji:MF K "names" "Shelf.names" t7 a.cU a.fk ["self"]
 gV:MF K "kept" "Shelf.kept" rV a.cV a.fm ["self","name"]
 gN:MF K "shown" "Shelf.shown" tU a.cW a.fq ["self","name"]
 jy:MF K "take" "Shelf.take" tZ a.cX a.fz ["self","name"]
 jJ:MF K "put" "Shelf.put" tH a.cY a.fA ["self","name","letter"]
 jz:MF K "drop" "Shelf.drop" sD a.c5 a.fB ["self","name"]
 jA:MF K "back" "Shelf.back" ud a.c6 a.fC ["self","name"]
 je:MF K "ranked" "Shelf.ranked" qz a.c7 a.fD ["self","strip"]
 jf:MF K "__init__" "Machine.__init__" ui a.ck a.fE ["self","text","kinds"]
 iB:MF K "__init__" "Ring.__init__" qP a.cn a.fF ["self","text","kinds"]
 iJ:MF K "__init__" "Strip.__init__" tS a.cq a.fG ["self","kinds"]
 iF:MF K "lacking" "Strip.lacking" rC a.c9 a.fH ["self"]
 jK:MF K "put" "Strip.put" rL a.de a.fJ ["self","letter"]
 jB:MF K "drop" "Strip.drop" t9 a.df a.fK ["self"]
 jC:MF K "back" "Strip.back" uh a.dh a.fL ["self"]
 iK:MF K "grow" "Strip.grow" rN a.dj a.fM ["self","longer"]
 ic:MF K "shrink" "Strip.shrink" rH a.dm a.fN ["self","lesser"]
 ie:MF K "change" "Strip.change" qZ a.dw a.fO ["self","text","came","went"]
 ig:MF K "copied" "Strip.copied" so a.dz a.fP ["self"]
 jh:MF K "__init__" "Desk.__init__" t5 a.cu a.fQ ["self","kinds"]
 jg:MF K "say" "Desk.say" tV a.dB a.fR ["self","line"]
 nd:[a.c_LL,a.c_M0,a.c_LZ,a.c_MH,a.c_MZ,a.c_MX,a.c_MI,a.c_MU,a.c_NL,a.c_MD,a.c_MY,a.c_LM,a.c_MG,a.c_NZ,a.c_NX,a.c_MV,a.c_MW].Nodup
 gQ:mg "len"=O
 hJ:mg "range"=O
 gL:mg "isinstance"=O
 j9:mg "all"=O
 kh:mg "max"=O
 km:mg "min"=O
 iG:mg "list"=O
 jZ:mg "set"=O
 iC:mg "sorted"=O
 jS:mg "str"=O
 kg:mg "int"=O
 j7:mg "bool"=O
 jX:mg "dict"=O
 kn:mg "any"=O
 c_KE:∃t,mg "SMALL_LETTERS"=U (.str (fv "abcdefghijklmnopqrstuvwxyz") t)
 c_K1:∃t,mg "MOST_KINDS"=U (.int 4 t)
 c_KD:∃t,mg "MOST_IN_STRIP"=U (.int 40 t)
 c_K0:∃t,mg "MOST_ASKED"=U (.int 60 t)
 c_K2:∃t,mg "MOST_WORDS"=U (.int 200 t)
 c_KI:∃t,mg "MOST_IN_LIST"=U (.int 41 t)
 c_KJ:∃t,mg "MOST_IN_NAME"=U (.int 8 t)
 c_KZ:∃t,mg "EMPTY_WORD"=U (.str "-" t)
 c_ME:∃t,mg "FIGURES"=U (.str "0123456789" t)
 c_KH:∃t,mg "MOST_FIGURES"=U (.int 3 t)
 c_KK:∃t,mg "MOST_IN_RING"=U (.int 20 t)
 v_FORMS:mg "FORMS"=U (.ref a.v_FORMS)
 v_ANSWERS:mg "ANSWERS"=U (.ref a.v_ANSWERS)
 bl:∀(s:AE)(u:bU),BindsTo s a.d_law #[[u],[]] [("_law_script",u)]
structure TL (w:AI)(K:uH)(mg:AB)(base:Heap)(a:Ad)(tb:Str->AD×AD):Prop extends Txt K mg a where
 sd_FORMS:L2.qK w K a.v_FORMS L2.oP
 sd_ANSWERS:L2.Mo w K mg a.v_ANSWERS L2.qo
 L_in_order:nj base mg a.k_L2 a.t_L2
 cd_L2:a.d_L2.code=.ref a.k_L2
 e_L2:a.t_L2=(tb "in_order").2
def lenA {P:AC->Prop}(h:∀a,P [a]):∀us:AC,⇑us=1->P us:=by
 intro us b;cases us with
 | nil=>cases b
 | cons a us=>
  cases us with
  | nil=>exact h a
  | cons _ _=>cases b
local macro_rules | `(tactic| norm_cast) => `(tactic| walk_at "b1")
def lenB {P:AC->Prop}(h:∀a b,P [a,b]):∀us:AC,⇑us=2->P us:=by
 intro us c;cases us with
 | nil=>cases c
 | cons a us=>
  cases us with
  | nil=>cases c
  | cons b us=>
   cases us with
   | nil=>exact h a b
   | cons _ _=>cases c
def lenC {P:AC->Prop}(h:∀a b c,P [a,b,c]):∀us:AC,⇑us=3->P us:=by
 intro us d;cases us with
 | nil=>cases d
 | cons a us=>
  cases us with
  | nil=>cases d
  | cons b us=>
   cases us with
   | nil=>cases d
   | cons c us=>
    cases us with
    | nil=>exact h a b c
    | cons _ _=>cases d
def lenD {P:AC->Prop}(h:∀a b c d,P [a,b,c,d]):∀us:AC,⇑us=4->P us:=by
 intro us e;cases us with
 | nil=>cases e
 | cons a us=>
  cases us with
  | nil=>cases e
  | cons b us=>
   cases us with
   | nil=>cases e
   | cons c us=>
    cases us with
    | nil=>cases e
    | cons d us=>
     cases us with
     | nil=>exact h a b c d
     | cons _ _=>cases e
end Pk88
namespace Pk88
open PySem L2
def MH {v:V}{p:V->Prop}:(∃u,U (U v)=U (U u)/\p u)=p v:=
 propext #[λ⟨_,e,h⟩=>by cases e;calc h,λh=>#[v,Z,h]]
def mK (h:C a b/\Q (g a b) H):rT C g (tx a) (tx b) H Q:=h
noncomputable def lpos:Pos:=#[108,29,108,59]
noncomputable def lq:Str:="in_order.<locals>.<lambda>"
noncomputable def vA:uz:=s!"abcdefghijklmnopqrstuvwxyz"
def yt (l:uz):Bool:=R (1<=⇑l)&&R (⇑l<=4)&&(l.all λc=>vA.contains c)&&R (kZ l=xx (xH (kZ l)))
noncomputable def wv (l m:uz)(most:Int):Bool:=R ((⇑l:Int)<=most)&&l.all λc=>m.contains c
def CQ:uz->uz->Bool
 | _,[]=>Y
 | last,c::r=>R (c∈vA)&&R (last < [c])&&CQ [c] r
def Gr (l:uz):Bool:=R (1<=⇑l)&&R (⇑l<=4)&&CQ [] l
def LV {a b:Nat}:([a] < [b])↔a<b:=by
 constructor
 .intro h;cases h with
  | rel h=>exact h
  | cons h=>cases h
 .exact λh=>List.Lex.rel h
theorem Qy:∀(l:uz)(d:Nat),CQ [d] l=Y↔(∀c∈l,c∈vA)/\(d::l).Pairwise (· < ·)
 | [],d=>by simp[CQ]
 | c::r,d=>by
  rw[CQ,vW,vW,R4,R4,LV,Qy r c];simp only[D2,vg,forall_eq_or_imp];constructor
  .rintro⟨⟨h1,h2⟩,h3,h4,h5⟩;exact#[#[h1,h3],#[h2,λx hx=>Nat.lt_trans h2 (h4 x hx)],h4,h5]
  .rintro⟨⟨h1,h3⟩,⟨h2,_⟩,h4,h5⟩;calc#[#[h1,h2],h3,h4,h5]
def Ig (l:uz):CQ [] l=Y↔(∀c∈l,c∈vA)/\l.Pairwise (· < ·):=by
 cases l with
 | nil=>simp[CQ]
 | cons c r=>
  rw[CQ,vW,vW,R4,R4,Qy r c];simp only[vg,forall_eq_or_imp];constructor
  .rintro⟨⟨b,_⟩,d,a⟩;exact#[#[b,d],a]
  .rintro⟨⟨b,d⟩,a⟩;calc#[#[b,{}],d,a]
theorem Qg:∀(ls acc:uG),(acc++ls).Nodup->ls.foldl mI acc=acc++ls
 | [],acc,_=>by simp
 | x::ls,acc,h=>by
  let hx:¬x∈acc:=by rw[Dz]at h;exact λa=>h.2.2 x a x xy Z
  rw[D9,mI,uI hx,Qg ls (acc++[x]) (~~~h)];simp
def ZhP (h:l.Pairwise (· < ·)):(kZ l).Nodup:=by unfold kZ List.Nodup;rw[CV];calc h.imp λa e=>by injection e with e;nofun
def ZlE (ls:uG):(xH ls).Nodup:=by rw[<-HY];calc GC _
def Zjm (l:uz):kZ l=xx (xH (kZ l))↔l.Pairwise (· < ·):=by
 constructor
 .intro e;let d:(kZ l).Pairwise (λa b=>zE a b=Y):=by rw[e];exact Hy _
  let c:(kZ l).Nodup:=by rw[e];exact(Bq _).nodup_iff.mpr (ZlE _)
  unfold kZ at d;unfold kZ List.Nodup at c;rw[CV]at d c;calc(d.and c).imp ?_;rintro a b ⟨x,y⟩;let i:a≠b:=λe=>y (by rw[e]);let f:¬([b] < [a]):=by simpa [zE] using x
  rw[LV]at f
  nofun
 .intro h;let e:xH (kZ l)=kZ l:=by unfold xH;rw[Qg _ _ (~~~ZhP h)];simp
  rw[e];calc Kg (List.Perm.refl _) ?_;unfold kZ;rw[CV];calc h.imp λ{a b} g=>?_;have:¬([b] < [a]):=by rw[LV];nofun
  simpa [zE] using this
def LK (l:uz):yt l=Gr l:=by
 let b:(l.all λc=>vA.contains c)=R (∀c∈l,c∈vA):=by rw[zo,xT,R4];simp
 let a:R (kZ l=xx (xH (kZ l)))=R (l.Pairwise (· < ·)):=by rw[zo,R4,R4,Zjm]
 let d:CQ [] l=(R (∀c∈l,c∈vA)&&R (l.Pairwise (· < ·))):=by rw[zo,vW,R4,R4,Ig]
 unfold yt Gr;rw[b,a,d,Bool.and_assoc]
def pC (l m:uz):((cc ⇑l).map (λi=>R (l.getD i 0∈m))).all id=l.all λc=>m.contains c:=by
 rw[zo,xT,xT];constructor
 .intro h c d;let#[i,a,Z]:=List.mem_iff_getElem.mp d;have:=h _ (Dy (xM.mpr a));simpa [wj,vK a] using this
 .intro h b e;let#[i,a,Z]:=vJ.mp e;let a:=xM.mp a;have:=h _ (Dl a);simpa [wj,vK a] using this
noncomputable def cell (a:List Int)(k:Int):Int:=a.getD k.toNat 0
def Zpv {a:List Int}{k:Int}(b:0<=k)(c:k<⇑a):ye (a.map V.int) k=U (.int (cell a k)):=by
 let d:k.toNat<⇑a:=by nofun
 unfold ye Dh cell;rw[uO,uM b,uM c,D8,wI,wj,vK d];rfl
def zX (h:⇑l<=1000):qg K (tx l) H ⇑l:=by
 let e:⇑(#[↑l]:Str)=⇑l:=by simp[Str.length]
 have:⇑l<=sizeLine:=u8 h (by rw[bA];decide);calc#[by rw[e];calc this,e.symm]
def cm (h:0<m)(a:m<=2 ^ 64):pY (x % m) y:=.inl #[by have:=Bd x (show m≠0 by nofun);nofun,by have:=Bw x h;nofun]
def Ge:kitOne K t t=U Y:=by unfold kitOne;simp
def Ii (c:0<=i)(b:i<⇑xs):∃v,ye xs i=U v/\v∈xs:=by
 let a:i.toNat<⇑xs:=by nofun
 calc#[xs[i.toNat],?_,Dl a];unfold ye Dh;rw[uM c,uM b,D8,vK a]
def Bv (xs:uG):(xs.map tx).all xG=Y:=by rw[xT];intro v a;let#[x,_,Z]:=vJ.mp a;rfl
def kI (s:ky H H2)(h:H e=O):ky H (upd H2 e o'):=λb u a=>by
 have:b≠e:=λz=>by rw[z,h]at a;cases a
 rw[uF this];calc s _ _ a
def MD (p:α->Bool)(d:α)(ls:List α):((cc ⇑ls).filter λi=>p (ls.getD i d)).map (λi=>ls.getD i d)=ls.filter p:=by
 let e:(cc ⇑ls).map (λi=>ls.getD i d)=ls:=by
  apply z5
  .simp
  .intro i b a;simp[a]
 let h:=List.filter_map (p:=p) (f:=λi=>ls.getD i d) (l:=cc ⇑ls);rw[e]at h;rw[h];rfl
def Cr {ls:uG}{k:Nat}(h:k<⇑ls):(ls.map tx).getD k V.non=tx (ls.getD k []):=by rw[wj,wI,wj,vK h];rfl
def Fi {x:uz}{ls:uG}:E4 (tx x) (ls.map tx)=R (x∈ls):=by
 unfold E4;rw[zo,Bs,R4];constructor
 .rintro⟨y,b,e⟩;let#[l,a,Z]:=vJ.mp b;rw[Mv,R4,GZ]at e;rw[<-e];exact a
 .intro h;calc#[tx x,Dy h,by rw[Mv];calc R5 Z]
theorem Kz:∀(xs ys:uG),deqs ((xs.map tx).map DT.f) ((ys.map tx).map DT.f)=R (xs=ys)
 | [],[]=>by unfold deqs;rfl
 | [],y::ys=>by simp only[vP,Dd];unfold deqs;rfl
 | x::xs,[]=>by simp only[vP,Dd];unfold deqs;rfl
 | x::xs,y::ys=>by
  simp only[vP];unfold deqs;rw[Kz xs ys];let e:wA (DT.f (tx x)) (DT.f (tx y))=R (x=y):=by unfold wA;rw[<-CA];show ((#[↑x]:Str) == #[↑y])=_;rw[zo,Sb,R4];exact#[λh=>by unfold tx;rw[h],λh=>by unfold tx at h;injection h]
  rw[e,zo,vW,R4,R4,R4,List.cons.injEq]
def ZqR {K:uH}{H:Hp}{Q:VK}{a b:AD}{xs:uG}(c:vO K H a (xs.map tx))(d:vO K H b (xs.map tx))(q:Q (.bl J) H):nv K Y (.ref a) (.ref b) H Q:=
 .inr #[_,_,pN c (Bv _),pN d (Bv _),λz=>vC z.1,(tW c (Bv _)).2.2,by unfold wA;rw[Kz,R5 Z];calc q]
def Zro {K:uH}{H:Hp}{Q:VK}{a b:AD}{xs ys:uG}(c:vO K H a (xs.map tx))(d:vO K H b (ys.map tx))(q:Q (.bl (R (xs=ys))) H):nv K J (.ref a) (.ref b) H Q:=
 .inr #[_,_,pN c (Bv _),pN d (Bv _),λz=>vC z.1,(tW c (Bv _)).2.2,by unfold wA;rw[Kz];calc q]
def Md:V.str (fv "abcdefghijklmnopqrstuvwxyz")=tx vA:=R9 V.str nofun
def Zpn (l:uz):⇑(xH (kZ l))<=⇑l:=by
 have:∀(ls a:uG),⇑(ls.foldl mI a)<=⇑a+⇑ls:=by
  intro ls;induction ls with
  | nil=>intro a;simp
  | cons x ls b=>
   intro a;rw[D9];calc u8 (b _) ?_;unfold mI;split<;>simp<;>nofun
 let h:=this (kZ l) [];unfold xH;unfold kZ at h ⊢;simpa using h
def oN (l:uz):⇑(kZ l)=⇑l:=by unfold kZ;rw[uO]
def tX:kitOne K (.type "int") (.type "str")=U J:=by rfl
def Qu:kitOne K (.type "int") (.type "bool")=U J:=by rfl
def o4 (l m:uz):List (Str×V):=kW "own_kinds" (tx m) (kW "own_text" (tx l) [])
def kt:¬(("own_text":Str)="own_kinds"):=by decide +kernel
def RY:(o4 l m).lookup ("own_text":Str)=U (tx l):=by unfold o4;rw[wN,uI kt,wN,uM Z]
def ZjJ:(o4 l m).lookup ("own_kinds":Str)=U (tx m):=by unfold o4;rw[wN,uM Z]
def GJ {l m:uz}{x:Str}(b:¬x="own_text")(a:¬x="own_kinds"):(o4 l m).lookup x=O:=by unfold o4;rw[wN,uI a,wN,uI b];rfl
def Fx (C:AD)(H:Hp)(p:AD)(l m:uz):Prop:=∃a,H p=U (.ins C a (o4 l m))
structure mh (l m:uz):Prop where
 k:yt m=Y
 m1:1<=⇑m
 m4:⇑m<=4
 l40:⇑l<=40
 mem:∀x∈l,x∈m
def QI (ls:uG):⇑(xH ls)<=⇑ls:=by
 have:∀(ls a:uG),⇑(ls.foldl mI a)<=⇑a+⇑ls:=by
  intro ls;induction ls with
  | nil=>intro a;simp
  | cons x ls b=>
   intro a;rw[D9];calc u8 (b _) ?_;unfold mI;split<;>simp<;>nofun
 simpa [xH] using this ls []
def Zq9 (h:mh l m):wv l m 40=Y:=by let b:=h.l40;unfold wv;rw[vW,R4,xT];calc#[∅,λx a=>by simpa using h.mem x a]
def Zrb (d:1<=⇑m)(a:⇑m<=4)(e:∀c∈m,c∈vA)(b:m.Pairwise (· < ·)):yt m=Y:=by rw[LK];unfold Gr;rw[(Ig m).mpr #[e,b]];simp[d,a]
def oG {p q:Prop}[Decidable True](h:p):if True then p else q:=by rw[uM True.intro];calc h
def OV (h:Q (.bl J) H):nv K Y (tx x) (tx x) H Q:=.inl #[Z,by rw[uM Z,R5 Z];calc h]
def Ch (h:Q (.bl Y) H):nv K J (tx x) (tx x) H Q:=.inl #[Z,by rw[uI vC,R5 Z];calc h]
def Zpq (w:uz):xt w O (U (-1))=w.dropLast:=by
 unfold xt;let a:HT.sIx ⇑w ⇑w (U (-1))=⇑w-1:=by
  unfold HT.sIx;simp only[];rw[uM ⋯]
  nofun
 let b:HT.sIx ⇑w 0 O=0:=rfl;rw[a,b,CO,GR];rfl
def JV (w:uz):xt w (U 1) O=w.tail:=by have:=DP w 1;rw[List.drop_one]at this;calc this
def Pm (d:⇑m<=4)(e:⇑l<=40)(c:i<=41):⇑(C4 l m i)<=6724:=by
 let b:∀k,⇑(CI (kY l k) (kY l (k+1)) m)<=164:=λk=>u8 (Zld _ _ _) (u8 (CJ (PZ l k) d) ∅);let a:=GX (f:=λk=>CI (kY l k) (kY l (k+1)) m) b (cc i);rw[Bp]at a;have:i*164<=41*164:=Nat.mul_le_mul_right _ c;unfold C4
 nofun
def HI (a:⇑l<=40)(h:w∈vF l m):⇑w<=41:=by
 have:=(yY.mp h).1.init.len;rw[zA]at this
 nofun
def GD {α:Type}{l:List α}{i:Nat}{x:α}(h:l[i]?=U x):l.take (i+1)=l.take i++[x]:=by rw[List.take_succ,h];rfl
def wa (f:Str):Se->List (Str×V):=λr=>kW f (r.getD 0 .non) []
def DY:(wa f vs).lookup f=U (vs.getD 0 .non):=by unfold wa;rw[wN,uM Z]
def ZrF (K:uH)(H:Hp)(v:V):Prop:=(∃d,Fc K H d v)\/∃(a:AD) (kvs:List (uQ×V)),v=.ref a/\H a=U (.dK kvs)
def Dx (K:uH)(H:Hp)(v:V):Prop:=∃T b,B2 K H v (.type T)/\kitOne K (.type T) (.type "str")=U J/\kitOne K (.type T) (.type "bool")=U b/\ZrF K H v
def oI (K:uH)(H:Hp)(v:V):Prop:=(∃l:uz,v=tx l/\⇑l<=1000/\yt l=J)\/Dx K H v
def Jk (a:Ad)(E:XK)(H:Hp):Prop:=∀e b,ky H b->mU b e a.c_MG []->E (.ref a.c_MG) (U e) b
structure Bk (m:uz):Prop where
 k:yt m=Y
 m1:1<=⇑m
 m4:⇑m<=4
def Zra (h:yt l=Y):1<=⇑l/\⇑l<=4/\l.Pairwise (· < ·):=by rw[LK]at h;unfold Gr at h;rw[vW,vW,Sc,Sc]at h;calc#[h.1.1,h.1.2,((Ig l).mp h.2).2]
def O4 (h:(⇑l:Int)<=most)(b:∀x∈l,x∈m):wv l m most=Y:=by unfold wv;rw[vW,R4,xT];calc#[h,λx a=>by simpa using b x a]
def Gc (h:H e=O):ky H (upd (upd H e o) e o'):=λb u a=>by
 have:b≠e:=λz=>by rw[z,h]at a;cases a
 rw[uF this,uF this];calc a
def Bi (x:yS H e C fs):∃d,H e=U (xo e C d)/\mU (upd H e (xr e C d)) e C fs:=by
 cases x with
 | bare h=>exact#[O,h,.bare uN]
 | @full d _ c b a=>calc#[U d,c,.full uN (by rw[uF a];calc b) a]
def B2.same (h:B2 K H v t)(s:ky H H'):B2 K H' v t:=by
 cases h with
 | pl h=>
  calc .pl ?_;cases h with
  | non=>exact .non
  | bl x=>exact .bl x
  | int i=>exact .int i
  | str x=>exact .str x
  | flt x=>exact .flt x
  | lst e=>exact .lst (s _ _ e)
  | frz e=>exact .frz (s _ _ e)
  | tup e=>exact .tup (s _ _ e)
  | dK e=>exact .dK (s _ _ e)
  | dT e=>exact .dT (s _ _ e)
  | ins e d b c a f=>exact .ins (s _ _ e) d b c a f
 | seqL h=>exact .seqL (s.seq h)
 | seqT h=>exact .seqT (s.seqT h)
 | exc x i=>calc .exc (x.same s) i
def Dx.same (o:Dx K H v)(s:ky H H'):Dx K H' v:=by
 let#[T,b,ty,kt,c,f]:=o;calc#[T,b,B2.same ty s,kt,c,?_];rcases f with⟨d,o⟩|⟨b,a,rfl,e⟩
 .exact .inl #[d,o.same s]
 .exact .inr #[b,a,Z,s _ _ e]
def oI.same (o:oI K H v)(s:ky H H'):oI K H' v:=o.imp id λo=>o.same s
def ZqZ:kitOne K (.type "NoneType") (.type "str")=U J:=by rfl
def Zq0:kitOne K (.type "list") (.type "str")=U J:=by rfl
def ue:kitOne K (.type "NoneType") (.type "bool")=U J:=by rfl
def Zq1:kitOne K (.type "list") (.type "bool")=U J:=by rfl
def ZoF:Dx K H (.int i):=#["int",J,.pl (.int _),tX,Qu,.inl #[_,ownF Z]]
def ZoD:Dx K H .non:=#["NoneType",J,.pl .non,ZqZ,ue,.inl #[_,ownF Z]]
def ZoE (h:H a=U (.lst xs))(b:xs.all xG=Y):Dx K H (.ref a):=#["list",J,.seqL (.mk h),Zq0,Zq1,.inl #[_,tW (.mk h) b]]
def Hn (l x:uz):Bool:=!mH x l&&(mH x.tail l&&mH x.dropLast l)
def ma:ye (x::xs) 0=U x:=by unfold ye Dh;rw[uM (Int.le_refl _),uM (by rw[vQ];nofun)];rfl
noncomputable def lN (c k:Int):Int:=
 (((c % 2147483629*48271+k*7919+104729) % 2147483629*((c % 2147483629*48271+k*7919+104729) % 2147483629) % 2147483629*16807+k*104729+11) % 2147483587)*(((c % 2147483629*48271+k*7919+104729) % 2147483629*((c % 2147483629*48271+k*7919+104729) % 2147483629) % 2147483629*16807+k*104729+11) % 2147483587) % 2147483587
def DW (h:yt m=Y):m.Pairwise (· < ·):=by rw[LK]at h;unfold Gr at h;rw[vW]at h;calc((Ig m).mp h.2).2
def zf (l m:uz):Bool:=wv l m 1&&R ((⇑l:Int)=1)
def Ho:
  PassesOwn (bJ (mv CX P w K mg base N qual scope f cd A outer s H E).prog (mv CX P w K mg base N qual scope f cd A outer s H E).w) (mv CX P w K mg base N qual scope f cd A outer s H E).A (mv CX P w K mg base N qual scope f cd A outer s H E).env (mv CX P w K mg base N qual scope f cd A outer s H E).xe:=PassesOwn.leaving
def zx (C:AD)(E:XK)(H:Hp):Prop:=∀e a,ky H a->mU a e C []->E (.ref C) (U e) a
def zx.same (x:zx C E H)(s:ky H H'):zx C E H':=λe b a h=>x e b (s.trans a) h
def Bk.kinds (h:Bk m):nJ m:=#[h.k,h.m1,h.m4,DW h.k]
def Zle (h:nJ m):Bk m:=#[h.k,h.m1,h.m4]
def Zo6 (h:c∈m):zf [c] m=Y:=by unfold zf;rw[O4 (by show ((1:Nat):Int)<=1;decide) (λx a=>by rw[vI.mp a];calc h)];rfl
def OW (d:x≠[]):Hn l x=Y↔ou l x:=by
 unfold Hn;rw[vW,vW,Bool.not_eq_true',P8,CB,CB];constructor
 .rintro⟨a,b,c⟩;exact#[d,c,b,a]
 .rintro⟨_,c,b,a⟩;calc#[a,b,c]
noncomputable def yE (L:uz)(i:Nat):uG:=(cc i).flatMap λk=>[L.take (k+1),L.drop (⇑L-(k+1))]
def RH (L:uz)(i:Nat):yE L (i+1)=yE L i++[L.take (i+1),L.drop (⇑L-(i+1))]:=by unfold yE;rw[CD,List.flatMap_append,List.flatMap_singleton]
theorem IF (L:uz):∀i,⇑(yE L i)=2*i
 | 0=>rfl
 | i+1=>by rw[RH,vn,IF L i];simp;nofun
def Ru:w∈yE L i↔∃k,1<=k/\k<=i/\(w=L.take k\/w=L.drop (⇑L-k)):=by
 unfold yE;rw[Gz];constructor
 .rintro⟨k,a,h⟩;let a:=xM.mp a;simp only[vg,xD,or_false]at h;exact#[k+1,∅,∅,h]
 .rintro⟨k,c,b,h⟩;calc#[k-1,xM.mpr ∅,?_];let e:k-1+1=k:=by nofun
  rw[e];simpa using h
def Jr (h:lX H zs rs){i:Nat}(a:i<⇑zs):∃t u,zs.getD i .non=.ref t/\H t=U (.tup [tx ((rs.map (·.1)).getD i []),u]):=by let#[r,d,t,b,e,c,_]:=h.2 i zs[i] (vK a);calc#[t,.ref b,by rw[wj,vK a];calc e,?_];rw[c,wj,wI,d];rfl
def Lo {a:List (uz×Se)}{n:Nat}(h:n=⇑a):((cc n).filter λ_=>Y).map (λi=>tx ((a.map (·.1)).getD i []))=(a.map (·.1)).map tx:=by
 subst h;rw[List.filter_eq_self.mpr (λ_ _=>rfl)];apply z5 {};intro i d b;let c:i<⇑a:=by simpa using b
 simp[wj,vK c]
def Zh6 {kvs:List (uQ×V)}{k:uQ}{v:V}(h:kK kvs k=U v):k∈kvs.map (·.1):=by
 unfold kK at h;let#[p,a,_]:=Option.map_eq_some_iff.mp h;let e:p.1=k:=by simpa using List.find?_some a
 rw[<-e];calc Dy (List.mem_of_find?_eq_some a)
def Zmv (l:List (uQ×V))(v:V)(h:k∈l.map (·.1)):(kQ l k v).map (·.1)=l.map (·.1):=by
 unfold kQ;let b:(l.any λa=>R (a.1=k))=Y:=by let#[p,c,e]:=vJ.mp h;exact Bs.mpr #[p,c,R5 e]
 rw[uM b,wE];calc EF λp _=>?_;show (if p.1=k then (p.1,v) else p).1=p.1;split<;>rfl
structure DI (H:Hp)(s L rs:uz)(S:uz->Prop)(kvs:List (uQ×V))(ws:uG):Prop where
 keys:kvs.map (·.1)=ws.map uJ
 nd:ws.Nodup
 mem:∀w,w∈ws↔ou L w/\S w
 val:∀w∈ws,∃b,kK kvs (uJ w)=U (.ref b)/\H b=U (.tup [tx rs,tx (oM s w),.int (Ct L (oM s w):Nat)])
def DI.grow (h:DI H s L rs S kvs ws)(d:∀b us,H b=U (.tup us)->H' b=U (.tup us))(c:∀w,ou L w->(S w↔S' w)):DI H' s L rs S' kvs ws:=
 #[h.keys,h.nd,λw=>(h.mem w).trans #[λ⟨a,b⟩=>#[a,(c w a).mp b],λ⟨a,b⟩=>#[a,(c w a).mpr b]],λw e=>let ⟨b,h1,h2⟩:=h.val w e;#[b,h1,d _ _ h2]]
def DI.put (h:DI H s L rs S kvs ws)(l:ou L x)(g:H b=U (.tup [tx rs,tx (oM s x),.int (Ct L (oM s x):Nat)])):
  ∃ws',DI H s L rs (λw=>S w\/w=x) (kQ kvs (uJ x) (.ref b)) ws':=by
 by_cases d:x∈ws
 .refine#[ws,?_,h.nd,λw=>?_,λw f=>?_]
  .rw[Zmv,h.keys];rw[h.keys];exact Dy d
  .rw[h.mem];constructor
   .rintro⟨a,c⟩;exact#[a,.inl c]
   .rintro⟨a,c | rfl⟩
    .exact#[a,c]
    .exact(h.mem w).mp d
  .rw[y6];by_cases e:w=x
   .subst e;exact#[b,by rw[uM Z],g]
   .rw[uI (λz=>e (xI z))];exact h.val w f
 .let k:kK kvs (uJ x)=O:=by
   cases e:kK kvs (uJ x) with
   | none=>rfl
   | some v=>
    exfalso;have:=Zh6 e;rw[h.keys]at this;let#[y,m,n]:=vJ.mp this;exact d (xI n▸m)
  refine#[ws++[x],?_,?_,λw=>?_,λw f=>?_]
  .rw[EX _ k,xO,h.keys,xO];rfl
  .rw[Dz];calc#[h.nd,{},λa i c j e=>?_];rw[vI.mp j]at e;exact d (e▸i)
  .rw[wM,vI,h.mem];constructor
   .rintro (⟨a,c⟩ | rfl)
    .exact#[a,.inl c]
    .exact#[l,.inr Z]
   .rintro⟨a,c | rfl⟩
    .exact .inl #[a,c]
    .exact .inr Z
  .rw[y6];by_cases e:w=x
   .subst e;exact#[b,by rw[uM Z],g]
   .rw[uI (λz=>e (xI z))];rcases wM.mp f with z | z
    .exact h.val w z
    .exact Sa (vI.mp z) e
def ZlU (T:lZ H P pos q)(k:∀b o,H b=U o->b≠pd->H' b=U o)(h:H pd=U o0)(t:zt o0=J)(x:Ic o0=J):lZ H' P pos q:=by let#[g,e,d,i]:=T;calc#[g,k _ _ e (λz=>by rw[z,h]at e;cases e;cases t),d,i.imp id ?_];rintro⟨c,f,a⟩;calc#[c,f,k _ _ a (λz=>by rw[z,h]at a;unfold Cm at a;cases a;cases x)]
def F4 (a s L m:uz):(D6 a s L m).map (·.1)=oj s L m:=by unfold D6;rw[wE];calc List.map_id' _
def Ha (a s L m:uz):(E7 a s L m).map (·.1)=pM s L m:=by unfold E7;rw[wE];calc List.map_id' _
def PM 
  (u:kH C H p la da l m ds) (j:we [da] H H3) (h:H3 da=U (.lst ts2)) (s:lW H3 ts2 ds2) (ch:we [p] H3 H4) (y:DQ C H4 p la2 da l2 m) (x:H4 la2=U (.lst ((vF l2 m).map tx))) (a:ph H3 H4 t c g la2 rc rg) (i:Cb m ds2 l2):
  we [p,da] H H4/\kH C H4 p la2 da l2 m ds2/\ph H H4 t c g la2 rc rg:=by
 let#[#[F,f],D,#[E,w,A],_,q,o]:=id u;let d:p≠da:=λz=>by rw[z,w]at f;cases f
 let v:=j _ _ f (~~~d) Z;let e:∀r,Nw H3 r->Nw H r:=λr n=>n.chg j λb k=>by obtain rfl:=vI.mp k;exact#[_,h,Z]
 calc#[(j.mono {}).trans (ch.mono {}),#[y,x,#[ts2,ch _ _ h (~~~uZ d) Z,s.chg ch λb k B z=>by rw[vI.mp k,v]at z;cases z],i,q,uZ (a.nl.ne h Z)],#[a.tup,a.came,a.went,e _ a.nc,e _ a.ng,e _ a.nl,a.ncg,a.ncl,a.ngl]]
def FH (h:kH C H p la da l m ds):mh l m:=#[h.ok.k,h.ok.m1,h.ok.m4,h.run.len,h.run.mem]
noncomputable def QG (x:Str):Bool:=!R (x="own_text")&&!R (x="own_kinds")&&!R (x="own_lacking")&&!R (x="own_deeds")
def sN (h:autoParam (QG x=Y) Xu._auto_1):(sF l m la da).lookup x=O:=by unfold QG at h;simp only[vW,Bool.not_eq_true',R8]at h;calc ZsR h.1.1.1 h.1.1.2 h.1.2 h.2
def B4 (ws:uG)(w:uz):Bool:=!(ws.any λp=>mH p w)
noncomputable def oO (s:uz):List uQ:=s.map λ(i:Nat)=>(Sum.inl ((i:Nat):Int):uQ)
def xI (e:uJ x=uJ y):x=y:=by unfold uJ at e;injection e with e;injection e with e;injection e
def IS {kvs:List (uQ×V)}{k a:uQ}{v:V}(h:(kK kvs a).isSome=Y\/a=k):(kK (kQ kvs k v) a).isSome=Y:=by
 rw[y6];split
 .rfl
 .rcases h with h | h
  .exact h
  .exact Sa h (by assumption)
def Pk {kvs:List (uQ×V)}{k:uQ}(v:V)(a:(kvs.map (·.1)).Nodup):((kQ kvs k v).map (·.1)).Nodup:=by
 cases h:kK kvs k with
 | none=>exact ZoS v a h
 | some x=>
  let e:(kQ kvs k v).map (·.1)=kvs.map (·.1):=by unfold kQ;rw[uM (by let#[b,c,d]:=vJ.mp (ZnQ h);calc Bs.mpr #[b,c,R5 d]),wE];calc EF λp _=>?_;show (if p.1=k then (p.1,v) else p).1=p.1;split<;>rfl
  rw[e];calc a
def TT (a:Ad)(H:Hp):Prop:=lZ H a.t_L2 lpos lq/\True
def TT.same (t:TT a H)(s:ky H H'):TT a H':=#[t.1.same s,trivial]
def TT.upd (t:TT a H)(h:H b=U o)(d:zt o=J)(c:Ic o=J):TT a (upd H b o'):=#[t.1.upd h d c,trivial]
def HQ (T:TT a H)(k:∀b o,H b=U o->b≠pd->H' b=U o)(h:H pd=U o0)(t:zt o0=J)(x:Ic o0=J):TT a H':=#[ZlU T.1 k h t x,trivial]
def pH (a:Ad)(H:Hp)(p:AD)(l m:uz):Prop:=Fx a.c_NJ H p l m\/∃b c ds,kH a.c_NM H p b c l m ds
def pH.l {a:Ad}{H b:Hp}{p:AD}{l m:uz}(h:pH a H p l m)(s:lJ H b):pH a b p l m:=by
 rcases h with⟨f,h⟩|⟨d,c,e,h⟩
 .exact .inl #[f,s _ _ h Z]
 .exact .inr #[d,c,e,h.l s]
structure LsOk (xs:uG):Prop where
 srt:xs.Pairwise lS
 len:⇑xs<=200
 w:∀w∈xs,1<=⇑w/\⇑w<=41
def lsOk (a:mh l m):LsOk (vF l m):=by
 calc#[Bz (DW a.k),u8 (Ei (DW a.k)) (u8 (CJ a.m4 (Nat.succ_le_succ a.l40)) ⋯),λw d=>?_];let b:=(yY.mp d).1;let c:=b.tail.len;rw[EJ]at c;let e:=EC.mpr b.ne;have:=a.l40
 nofun
def XC (C:AD)(fs:List (Str×V))(E:XK)(H:Hp):Prop:=∀e a,ky H a->mU a e C fs->E (.ref C) (U e) a
def XC.same (x:XC C fs E H)(s:ky H H'):XC C fs E H':=λe b a h=>x e b (s.trans a) h
def Jm (a:Ad)(E:XK)(H:Hp)(n:uz):Prop:=XC a.c_MY (wa "name" [tx n]) E H
def Fa (a:Ad)(E:XK)(H:Hp)(n:uz):Prop:=XC a.c_LM (wa "name" [tx n]) E H
def XW (a:Ad)(E:XK)(H:Hp)(u:uz):Prop:=XC a.c_M0 (wa "word" [tx u]) E H
def XV (a:Ad)(C:AD)(fs:List (Str×V))(E:XK)(H:Hp):Prop:=∀e b,lJ H b->TT a b->mU b e C fs->E (.ref C) (U e) b
def XV.xc (x:XV a C fs E H)(t:TT a H):XC C fs E H:=λe b s h=>x e b s.l (t.same s) h
def XV.l (x:XV a C fs E H)(s:lJ H H'):XV a C fs E H':=λe c b t h=>x e c (s.trans b) t h
def yV (f g:Str):Se->List (Str×V):=λr=>kW g (r.getD 1 .non) (kW f (r.getD 0 .non) [])
def Zuh (h:¬f=g):(yV f g vs).lookup f=U (vs.getD 0 .non):=by unfold yV;rw[wN,uI h,wN,uM Z]
def Zug:(yV f g vs).lookup g=U (vs.getD 1 .non):=by unfold yV;rw[wN,uM Z]
def Iu (h:⇑l<=9000):qg K (tx l) H ⇑l:=by
 let e:⇑(#[↑l]:Str)=⇑l:=by simp[Str.length]
 have:⇑l<=sizeLine:=u8 h (by rw[bA];decide);calc#[by rw[e];calc this,e.symm]
structure GL (m:uz)(ws:uG):Prop where
 nd:ws.Nodup
 len:⇑ws<=200
 ne:∀w∈ws,w≠[]
 w41:∀w∈ws,⇑w<=41
 wm:∀w∈ws,∀c∈w,c∈m
def GL.perm (h:GL m ws)(p:vs.Perm ws):GL m vs:=
 #[p.nodup_iff.mpr h.nd,by rw[p.length_eq];calc h.len,λw a=>h.ne w (p.mem_iff.mp a),λw a=>h.w41 w (p.mem_iff.mp a),λw a=>h.wm w (p.mem_iff.mp a)]
def GL.stemAv (h:GL m ws)(a:mO ws){u:uz}(b:mD ws u):Av ws u:=Zn2 a h.ne b
structure KO (m:uz):Prop where
 k:yt m=Y
 m1:1<=⇑m
 m4:⇑m<=4
def Dm:B4 ws w=Y↔Av ws w:=by unfold B4 Av;rw[Bool.not_eq_true',List.any_eq_false];calc#[λa v c b=>a v c (CB.mpr b),λa v c b=>a v c (CB.mp b)]
structure oS (ws:uG)(kvs:List (uQ×V)):Prop where
 key:∀kv∈kvs,∃u:uz,kv.1=uJ u/\mD ws u
 has:∀u,mD ws u->(kK kvs (uJ u)).isSome=Y
 nd:(kvs.map (·.1)).Nodup
 len:⇑kvs<=8201
def IE {kvs:List (uQ×V)}{k:uQ}(h:(kK kvs k).isSome=Y):∃a∈kvs,a.1=k:=by
 unfold kK at h;cases e:kvs.find? λa=>R (a.1=k) with
 | none=>rw[e]at h;cases h
 | some a=>calc#[a,List.mem_of_find?_eq_some e,by simpa using List.find?_some e]
def oS.iff (h:oS ws kvs)(u:uz):(kK kvs (uJ u)).isSome=Y↔mD ws u:=by
 constructor
 .intro z;let#[a,c,e]:=IE z;let#[v,b,d]:=h.key a c;rw[xI (e.symm.trans b)];exact d
 .exact h.has u
noncomputable def lL (ws:uG)(u:uz):uz:=Classical.choose (Ka ws u)
def Dp (ws:uG)(u:uz):zq ws u (lL ws u):=Classical.choose_spec (Ka ws u)
def lK (ws:uG)(m u:uz):uz:=m.filter λc=>B4 ws (u++[c])
noncomputable def wg (ws:uG)(m u:uz):List (Nat×uz):=(lK ws m u).map λc=>(c,lL ws (u++[c]))
noncomputable def k7 (ws:uG)(m u:uz):uG:=(wg ws m u).map (·.2)
def me (x:Nat×uz):uQ×V:=(uJ [x.1],tx x.2)
def lY (H:Hp)(p:AD)(b:List (uQ×V))(ws:uG)(m:uz)(ss:uG):Prop:=⇑b=⇑ss/\∀(i:Nat)(u:uz),ss[i]?=U u->∃a,b[i]?=U (uJ u,.ref a)/\a≠p/\H a=U (.dK ((wg ws m u).map me))
structure oo (ws ss:uG):Prop where
 nd:ss.Nodup
 iff:∀u,u∈ss↔mD ws u
 len:⇑ss<=8201
structure oU (ws:uG)(m:uz)(ss es:uG):Prop where
 nd:es.Nodup
 sub:∀s∈es,s∈ss
 stay:∀s∈ss,s∉es->∃t∈k7 ws m s,t∉es
 ord:∀(k:Nat)(s:uz),es[k]?=U s->∀t∈k7 ws m s,t∈es.take k
def lY.chg (h:lY H p kw ws m ss)(s:∀b o,b≠p->H b=U o->H' b=U o):lY H' p kw ws m ss:=#[h.1,λi u d=>by let#[a,e,n,c]:=h.2 i u d;calc#[a,e,n,s _ _ n c]]
def lY.same (h:lY H p kw ws m ss)(s:ky H H'):lY H' p kw ws m ss:=h.chg λb o _ e=>s b o e
def lY.snoc (h:lY H p kw ws m ss)(n:a≠p)(d:H a=U (.dK ((wg ws m u).map me))):lY H p (kw++[(uJ u,.ref a)]) ws m (ss++[u]):=by
 calc#[by rw[vn,vn,h.1,xf,xf],λi v b=>?_];by_cases c:i<⇑ss
 .rw[zh c]at b;rw[zh (by rw[h.1];calc c)];exact h.2 i v b
 .let f:=(vT.mp b).1;rw[vn,xf]at f;let e:i=⇑ss:=by nofun
  subst e;rw[zu (uV _),Cz]at b;cases b;calc#[a,?_,n,d];rw[<-h.1,zu (uV _),Cz];rfl
def lY.keys (h:lY H p kw ws m ss):kw.map (·.1)=ss.map uJ:=by
 apply Fm;intro i;rw[wI,wI];cases e:ss[i]? with
 | none=>
  have:kw[i]?=O:=by rw[List.getElem?_eq_none_iff]at e ⊢;rw[h.1];exact e
  rw[this];rfl
 | some u=>
  let#[a,b,_]:=h.2 i u e;rw[b];rfl
def ZqP {α:Type}{es:List α}{n:Nat}{r:α}(d:es.Nodup)(h:es[n]?=U r):r∉es.take n:=by intro c;let#[k,b,e]:=yK c;rw[xw]at b;rw[List.getElem_take]at e;let#[a,f]:=vT.mp h;have:=(List.nodup_iff_pairwise_ne.mp d);rw[IK]at this;calc this k n ∅ a ∅ (by rw[e,f])
def NO {kvs:List (uQ×V)}{k:uQ}(h:k∉kvs.map (·.1)):kK kvs k=O:=by
 cases e:kK kvs k with
 | none=>rfl
 | some v=>
  let#[a,b,c]:=IE (kvs:=kvs) (k:=k) (by rw[e];rfl);calc Sa (vJ.mpr #[a,b,c]) h
theorem JO:∀(xs a:List (uQ×V)),((a++xs).map (·.1)).Nodup->yX a xs=a++xs
 | [],a,_=>by rw[zd];rfl
 | x::xs,a,h=>by
  let e:a++x::xs=(a++[x])++xs:=by simp
  let c:x.1∉a.map (·.1):=by rw[xO,Dz]at h;exact λb=>h.2.2 x.1 b x.1 {} Z
  let r:=JO xs (a++[x]) (by rw[<-e];calc h);rw[e,<-r];show yX (kQ a x.1 x.2) xs=_;rw[EX _ (NO c)]
def JG (b:m.Pairwise (· < ·)):(((wg ws m u).map me).map (·.1)).Nodup:=by unfold wg lK;rw[wE,wE];have:(m.filter λc=>B4 ws (u++[c])).Nodup:=(b.imp λh=>wk h).filter _;calc E9 this ?_;intro x _ y _ e;let a:uJ [x]=uJ [y]:=e;have:=xI a;simpa using this
def OZ (P:Nat->Bool)(g:Nat->α)(l:uz):((cc ⇑l).filter λi=>P (l.getD i 0)).map (λi=>g (l.getD i 0))=(l.filter P).map g:=by
 let e:l=(cc ⇑l).map λi=>l.getD i 0:=by apply z5 {};intro i a b;simp[wj,a]
 conv=>rhs;rw[e]
 rw[List.filter_map,wE];rfl
def Ey {ws:uG}{i:Nat}{x:V}(h:(ws.map tx)[i]?=U x):∃y,ws[i]?=U y/\x=tx y:=by
 rw[wI]at h;cases e:ws[i]? with
 | none=>rw[e]at h;cases h
 | some y=>rw[e]at h;cases h;calc#[y,Z,Z]
structure mm (ws:uG)(i j:Nat)(kvs:List (uQ×V)):Prop where
 key:∀kv∈kvs,∃u:uz,kv.1=uJ u/\mD ws u
 nil:(kK kvs (uJ [])).isSome=Y
 has:∀(a:Nat)(w:uz),ws[a]?=U w->∀k,k<⇑w->(a<i\/(a=i/\k<j))->(kK kvs (uJ (w.take k))).isSome=Y
 nd:(kvs.map (·.1)).Nodup
def NW {kvs:List (uQ×V)}{k:uQ}{v:V}{a:uQ×V}(h:a∈kQ kvs k v):a.1=k\/∃p∈kvs,p.1=a.1:=by
 unfold kQ at h;split at h
 .obtain⟨p,b,e⟩:=vJ.mp h;split at e
  .exact .inr #[p,b,by rw[<-e]]
  .exact .inr #[p,b,by rw[<-e]]
 .rcases wM.mp h with z | z
  .exact .inr #[a,z,Z]
  .rw[vI.mp z];calc .inl Z
def mm.start (ws:uG):mm ws 0 0 (yX [] [(uJ [],.bl Y)]) where
 key:=λc h=>by
  rcases NW (kvs:=[]) h with z | ⟨p,b,_⟩
  .exact#[[],z,.inl Z]
  .cases b
 nil:=IS (kvs:=[]) (.inr Z)
 has:=λa w _ k _ h=>by rcases h with z | ⟨_,z⟩<;>nofun
 nd:=Pk (kvs:=[]) (.bl Y) List.nodup_nil
def mm.put {ws:uG}{i j:Nat}{kvs:List (uQ×V)}{w:uz}(h:mm ws i j kvs)(d:ws[i]?=U w)(f:j<⇑w):mm ws i (j+1) (kQ kvs (uJ (w.take j)) (.bl Y)) where
 key:=λs n=>by
  rcases NW n with z | ⟨p,g,e⟩
  .exact#[w.take j,z,.inr #[w,wL d,j,f,Z]]
  .obtain⟨u,r,q⟩:=h.key p g;exact#[u,e▸r,q]
 nil:=IS (.inl h.nil)
 has:=λa v b k l z=>by
  by_cases c:a<i\/(a=i/\k<j)
  .exact IS (.inl (h.has a v b k l c))
  .let m:a=i:=by nofun
   let o:k=j:=by nofun
   subst m o;rw[d]at b;cases b;exact IS (.inr Z)
 nd:=Pk _ h.nd
def mm.one (h:mm ws i 0 kvs)(f:ws[i]?=U w):mm ws i (1+0) kvs:=
 ⟨h.key,h.nil,λa v e k d z=>by
  by_cases c:a<i
  .exact h.has a v e k d (.inl c)
  .let b:k=0:=by nofun
   subst b;rw[CW];calc h.nil,h.nd⟩
def mm.next (h:mm ws i j kvs)(f:ws[i]?=U w)(g:⇑w<=j):mm ws (i+1) 0 kvs:=
 ⟨h.key,h.nil,λa v b k d z=>by
  calc h.has a v b k d ?_;by_cases c:a<i
  .exact .inl c
  .let e:a=i:=by nofun
   subst e;rw[f]at b;cases b;calc .inr ⟨Z,∅⟩,h.nd⟩
def mm.done (h:mm ws ⇑ws 0 kvs)(c:⇑kvs<=8201):oS ws kvs:=
 ⟨h.key,λu g=>by
  rcases g with rfl | ⟨v,f,k,d,rfl⟩
  .exact h.nil
  .obtain⟨a,b,e⟩:=yK f;calc h.has a v (vT.mpr ⟨b,e⟩) k d (.inl b),h.nd,c⟩
def mC (p:AD)(H a:Hp):Prop:=∀b o,b≠p->H b=U o->a b=U o
def ZsP (s:ky H H'):mC p H H':=λb o _ e=>s b o e
def mC.trans (s:mC p H H1)(t:mC p H1 H2):mC p H H2:=λb o n e=>t b o n (s b o n e)
def mC.updX (s:mC p H H'):mC p H (upd H' p o):=λb u n e=>by rw[uF n];calc s b u n e
def mC.updN (s:mC p H H')(h:H a=O):mC p H (upd H' a o):=λb u n e=>by rw[uF (vp e h)];calc s b u n e
def mC.same (s:mC p H H')(h:H p=U o)(h':H' p=U o):ky H H':=λb u e=>by
 by_cases c:b=p
 .subst c;rw[h]at e;cases e;exact h'
 .exact s b u c e
noncomputable def edges (ws:uG)(m:uz)(ss:uG):List (uz×uz):=ss.flatMap λs=>(k7 ws m s).map λr=>(r,s)
noncomputable def lH (E:List (uz×uz))(r:uz):uG:=(E.filter λe=>R (e.1=r)).map (·.2)
structure mq (H H':Hp)(pS pL:AD)(kS:List (uQ×V))(E:List (uz×uz)):Prop where
 no:∀r,kK kS (uJ r)=O->lH E r=[]
 yes:∀r v,kK kS (uJ r)=U v->∃a,v=.ref a/\H a=O/\a≠pS/\a≠pL/\H' a=U (.lst ((lH E r).map tx))
 inj:∀r r' a,kK kS (uJ r)=U (.ref a)->kK kS (uJ r')=U (.ref a)->r=r'
 len:⇑kS<=⇑E
def GE (a:List (uQ×V))(ss:uG)(f:uz->Nat):Prop:=∀s∈ss,kK a (uJ s)=U (.int (f s:Nat))
def Zpf (b:Nat->St->Hp->Prop)(s:b 0 σ H)(d:∀i σ H,b i σ H->H a=U (.frz o (.dK kvs)))
  (j:∀i p σ H,kvs[i]?=U p->b i σ H->g p.2 σ H λσ2 H2=>tb { D with nx:=b (i+1),ct:=b (i+1),bk:=D.nx } σ2 H2) (n:∀σ H,b ⇑kvs σ H->D.nx σ H):kT (Ko o kvs a) g tb D σ H:=by
 calc#[λi m σ H=>m=⇑kvs-i/\i<=⇑kvs/\b i σ H,#[⇑kvs,{},wf _,s],?_];rintro i m σ H ⟨rfl,u,p⟩;let q:=d i σ H p;by_cases c:i<⇑kvs
 .refine .inr #[#[q,c],b (i+1),λk f r=>#[⇑kvs-(i+1),∅,Z,c,r],λx f y=>?_];let#[e,h,t,l]:=y;subst e l;exact j i h σ _ t p
 .let e:i=⇑kvs:=by nofun
  subst e;calc .inl #[#[q,uV _],n σ H p]
theorem FX:∀ {kvs:List (uQ×V)} {i:Nat} {k:uQ} {v:V},(kvs.map (·.1)).Nodup->kvs[i]?=U (k,v)->kK kvs k=U v
 | [],i,k,v,_,h=>by simp at h
 | p::kvs,0,k,v,_,h=>by
  cases h;exact zJ Z
 | p::kvs,i+1,k,v,nd,h=>by rw[vP,y4]at nd;let h':kvs[i]?=U (k,v):=h;have:p.1≠k:=λe=>nd.1 (by rw[e];calc vJ.mpr #[_,wL h',Z]);rw[zk this];calc FX nd.2 h'
def lY.val (h:lY H p kw ws m ss)(g:ss.Nodup)(j:u∈ss):∃a,kK kw (uJ u)=U (.ref a)/\a≠p/\H a=U (.dK ((wg ws m u).map me)):=by let#[i,f,e]:=yK j;let#[a,c,b,d]:=h.2 i u (vT.mpr #[f,e]);calc#[a,FX ?_ c,b,d];rw[h.keys];calc E9 g λx _ y _ e=>xI e
def EQ (E:List (uz×uz))(r s x:uz):lH (E++[(r,s)]) x=if r=x then lH E x++[s] else lH E x:=by
 unfold lH;rw[Dc,xO];by_cases e:r=x
 .simp[e]
 .simp[e]
def mq.keep (h:mq H H' pS pL kS E)(k:∀a xs,H' a=U (.lst xs)->H'' a=U (.lst xs)):mq H H'' pS pL kS E:=
 #[h.no,λr v b=>let ⟨a,e,n,n1,n2,ha⟩:=h.yes r v b;#[a,e,n,n1,n2,k _ _ ha],h.inj,h.len]
def mq.old {H i:Hp}{g j a:AD}{f:List (uQ×V)}{E:List (uz×uz)}{r s:uz}(h:mq H i g j f E)(d:kK f (uJ r)=U (.ref a)):mq H (upd i a (.lst ((lH E r).map tx++[tx s]))) g j f (E++[(r,s)]) where
 no:=λx b=>by
  have:r≠x:=λe=>by rw[e,b]at d;cases d
  rw[EQ,uI this];exact h.no x b
 yes:=λx v b=>by
  let#[k,e,n,m,o,l]:=h.yes x v b;calc#[k,e,n,m,o,?_];by_cases c:r=x
  .subst c;rw[d]at b;cases b;cases e;rw[uN,EQ,uM Z,xO];rfl
  .have:k≠a:=λz=>c (h.inj r x a d (by rw[b,e,z]));rw[uF this,EQ,uI c];exact l
 inj:=h.inj
 len:=u8 h.len (by rw[vn];nofun)
def mq.new {H p H'':Hp}{m q z:AD}{f:List (uQ×V)}{E:List (uz×uz)}{r s:uz}(h:mq H p m q f E)(D:kK f (uJ r)=O)(G:H z=O)(i:p z=O)(I:z≠m)(L:z≠q)
  (k:∀a xs,a≠z->p a=U (.lst xs)->H'' a=U (.lst xs)) (K:H'' z=U (.lst [tx s])):mq H H'' m q (kQ f (uJ r) (.ref z)) (E++[(r,s)]) where
 no:=λx b=>by
  rw[y6]at b;split at b
  .cases b
  .rename_i c
   have:r≠x:=λe=>c (by rw[e]);rw[EQ,uI this];exact h.no x b
 yes:=λx v b=>by
  rw[y6]at b;by_cases c:x=r
  .subst c;rw[uM Z]at b;cases b;calc#[z,Z,G,I,L,?_];rw[K,EQ,uM Z,h.no x D];rfl
  .rw[uI (λe=>c (xI e))]at b;let#[w,e,n,t,C,g]:=h.yes x v b;calc#[w,e,n,t,C,?_];rw[EQ,uI (λe=>c e.symm)];exact k _ _ (λe=>by rw[e,i]at g;cases g) g
 inj:=λx y a b B=>by
  let d:∀x a,kK (kQ f (uJ r) (.ref z)) (uJ x)=U (.ref a)->(x=r/\a=z)\/(x≠r/\kK f (uJ x)=U (.ref a)/\a≠z):=λx a b=>by
   rw[y6]at b;by_cases c:x=r
   .rw[uM (by rw[c])]at b;cases b;exact .inl #[c,Z]
   .rw[uI (λe=>c (xI e))]at b;let#[w,e,n,t,C,g]:=h.yes x _ b;cases e;exact .inr #[c,b,λe=>by rw[e,i]at g;cases g]
  rcases d x a b with⟨u,o⟩|⟨u,o,F⟩
  .rcases d y a B with⟨l,j⟩|⟨l,j,A⟩
   .rw[u,l]
   .exact Sa o A
  .rcases d y a B with⟨l,j⟩|⟨l,j,A⟩
   .exact Sa j F
   .exact h.inj x y a o j
 len:=by
  have:=B1 f (uJ r) (.ref z);have:=h.len;rw[vn,xf]
  nofun
def Zn4 (a:uG)(s r:uz):lH (a.map λt=>(t,s)) r=cw (a.count r) s:=by
 unfold lH;induction a with
 | nil=>rfl
 | cons t a b=>
  rw[vP,Fp,List.count_cons];by_cases e:t=r
  .subst e;simp only[decide_true,if_true,beq_self_eq_true,vP,b,Bj]
  .let c:(t == r)=J:=by simpa using e
   simp only[R6 e,Cy,if_false,c,b,Nat.add_zero]
def Zn5 (E F:List (uz×uz))(r:uz):lH (E++F) r=lH E r++lH F r:=by unfold lH;rw[Dc,xO]
def Nu (h:s∈lH (edges ws m ss) r):s∈ss:=by unfold lH edges at h;let#[e,c,Z]:=vJ.mp h;let#[u,b,a]:=Gz.mp (yU.mp c).1;let#[t,_,Z]:=vJ.mp a;calc b
theorem PX {ws:uG}{m r s:uz}:∀ {ss:uG},ss.Nodup->s∈ss->(lH (edges ws m ss) r).count s=(k7 ws m s).count r
 | [],_,h=>by cases h
 | u::ss,nd,h=>by
  let e:lH (edges ws m (u::ss)) r=cw ((k7 ws m u).count r) u++lH (edges ws m ss) r:=by unfold edges;rw[List.flatMap_cons,Zn5,Zn4]
  let a:=y4.mp nd;rw[e,List.count_append,List.count_replicate];by_cases c:u=s
  .subst c;let z:(lH (edges ws m ss) r).count u=0:=List.count_eq_zero.mpr λz=>a.1 (Nu z);rw[z,uM {}];rfl
  .let b:s∈ss:=by
    rcases vg.mp h with z | z
    .exact Sa z.symm c
    .exact z
   rw[uI (~~~c),Nat.zero_add];calc PX a.2 b
def NN (a:⇑m<=4)(b:⇑ss<=8201):⇑(edges ws m ss)<=32804:=by
 have:⇑(edges ws m ss)<=⇑ss*4:=GX (λs=>by unfold k7 wg lK;rw[uO,uO,uO];calc u8 (yA _ _) a) ss
 nofun
def Zkl (E:List (uz×uz))(r:uz):⇑(lH E r)<=⇑E:=by unfold lH;rw[uO];calc yA _ _
def Dead (ws:uG)(m:uz)(k:Nat)(s:uz):Prop:=∀x:uz,(∀c∈x,c∈m)->Av ws (s++x)->⇑x<k
def ZoC (h:t∈k7 ws m s):∃c∈m,Av ws (s++[c])/\zq ws (s++[c]) t:=by unfold k7 wg lK at h;let#[x,a,Z]:=vJ.mp h;let#[c,b,Z]:=vJ.mp a;have:=yU.mp b;calc#[c,this.1,Dm.mp this.2,Dp _ _]
def IW (h:zq ws u e):mD ws e:=let ⟨_,_,_,hs,_⟩:=h;hs
def ZjN (ws:uG)(m:uz)(ss:uG)(u:uz):edges ws m (ss++[u])=edges ws m ss++(k7 ws m u).map λr=>(r,u):=by unfold edges;rw[List.flatMap_append];simp
def N0 {n:Nat}(h:Q (.bl (R (n=0))) H):nv K J (.int (n:Int)) (.int 0) H Q:=.inl ⟨Z,by
 rw[uI vC];have:R (V.int (n:Int)=V.int 0)=R (n=0):=by
  rw[Sd];constructor
  .intro e;injection e with e;nofun
  .intro e;rw[e];rfl
 rw[this];calc h⟩
def Zlt (d:α)(P:α->Bool)(g:α->β)(l:List α):((cc ⇑l).filter λi=>P (l.getD i d)).map (λi=>g (l.getD i d))=(l.filter P).map g:=by
 let e:l=(cc ⇑l).map λi=>l.getD i d:=by apply z5 {};intro i a b;simp[wj,a]
 conv=>rhs;rw[e]
 rw[List.filter_map,wE];rfl
def MR {kvs:List (uQ×V)}{k:uQ}{v w:V}(h:kK kvs k=U w):⇑(kQ kvs k v)=⇑kvs:=by
 unfold kQ;split
 .rw[uO]
 .rename_i c
  let#[a,b,e]:=IE (kvs:=kvs) (k:=k) (by rw[h];rfl);calc Sa (Bs.mpr #[a,b,~~~e]) c
def IP:c∈lK ws m s↔c∈m/\Av ws (s++[c]):=by unfold lK;rw[yU,Dm]
def Zpl (h:KI ss (k7 ws m) ⇑es es f):oU ws m ss es:=#[h.nd,h.sub,λs a n=>h.stay a n,h.ord]
def X2 (C:AD)(f g:Str)(E:XK)(H:Hp)(x y:uz):Prop:=∀e a,ky H a->mU a e C (yV f g [tx x,tx y])->E (.ref C) (U e) a
def Qx (ws:uG)(x y:uz):Prop:=∃i j:Nat,ws[i]?=U y/\ws[j]?=U x/\x≠y/\ve x y/\∀(b d:Nat)(c a:uz),ws[b]?=U a->ws[d]?=U c->c≠a->ve c a->i<b\/(i=b/\j<=d)
def Rv (ws ls:uG)(w:uz):Prop:=∃i:Nat,ls[i]?=U w/\Av ws w/\∀(j:Nat)(v:uz),j<i->ls[j]?=U v->¬Av ws v
def ZoR (h:∀b:Bool,(b=Y↔x≠y)->Q (.bl b) H):nv K Y (tx x) (tx y) H Q:=.inl #[Z,by rw[uM Z];calc h _ ?_;rw[Bool.not_eq_true',R8,GZ]]
def MT (ws:uG)(m:uz)(D:uz->Prop)(s:uz)(c:Nat):Prop:=∃i:Nat,(lK ws m s)[i]?=U c/\¬D (lL ws (s++[c]))/\∀(j d:Nat),j<i->(lK ws m s)[j]?=U d->D (lL ws (s++[d]))
inductive yC (ws:uG)(m:uz)(D:uz->Prop):uG->uz->uz->Prop
 | nil:yC ws m D [] [] []
 | step {met:uG} {s g:uz} {c:Nat}:yC ws m D met s g->s∉met->MT ws m D s c->yC ws m D (met++[s]) (lL ws (s++[c])) (g++[c])
def pR (ws:uG)(m:uz)(D:uz->Prop)(x y:uz):Prop:=∃(met:uG)(s g:uz)(j:Nat),yC ws m D met s g/\met[j]?=U s/\x=g.take j/\y=g.drop j
def yC.len (h:yC ws m D met s g):⇑g=⇑met:=by
 induction h with
 | nil=>rfl
 | step _ _ _ a=>rw[vn,vn,a];rfl
def yC.nd (h:yC ws m D met s g):met.Nodup:=by
 induction h with
 | nil=>exact List.nodup_nil
 | step _ n _ c=>
  rw[Dz];calc#[c,{},λa d b f e=>?_];rw[vI.mp f]at e;calc n (e▸d)
def yC.stem (h:yC ws m D met s g):mD ws s/\∀t∈met,mD ws t:=by
 induction h with
 | nil=>exact#[.inl Z,λt a=>by cases a]
 | step _ _ _ b=>
  calc#[IW (Dp _ _),λt a=>?_];rcases wM.mp a with z | z
  .exact b.2 t z
  .rw[vI.mp z];calc b.1
def yC.out (h:yC ws m D met s g)(a:¬D []):¬D s:=by
 cases h with
 | nil=>exact a
 | step _ _ f=>
  let#[i,_,n,_]:=f;calc n
def Zjk {es:uG}{s:uz}:(kK (es.map λs=>(uJ s,V.bl Y)) (uJ s)).isSome=R (s∈es):=by
 induction es with
 | nil=>rfl
 | cons u es a=>
  rw[vP];by_cases e:u=s
  .subst e;rw[zJ Z];simp
  .rw[zk (λz=>e (xI z)),a];have:¬s=u:=λz=>e z.symm;simp[this]
structure pD (kM:List (uQ×V))(met:uG):Prop where
 at_:∀(j:Nat)(s:uz),met[j]?=U s->kK kM (uJ s)=U (.int (j:Nat))
 mem:∀s,(kK kM (uJ s)).isSome=Y->s∈met
 len:⇑kM<=⇑met
def pD.some (h:pD kM met)(s:uz):(kK kM (uJ s)).isSome=R (s∈met):=by rw[zo,R4];calc#[h.mem s,λb=>?_];let#[j,a,e]:=yK b;rw[h.at_ j s (vT.mpr #[a,e])];rfl
def pD.put {b:List (uQ×V)}{met:uG}{s:uz}(h:pD b met)(n:s∉met):pD (kQ b (uJ s) (.int (⇑met:Nat))) (met++[s]) where
 at_:=λj u a=>by
  rw[y6];by_cases c:j<⇑met
  .rw[zh c]at a;have:u≠s:=λz=>n (z▸wL a);rw[uI (λz=>this (xI z))];exact h.at_ j u a
  .let d:=(vT.mp a).1;rw[vn,xf]at d;let e:j=⇑met:=by nofun
   subst e;rw[zu (uV _),Cz]at a;cases a;rw[uM Z]
 mem:=λu a=>by
  rw[y6]at a;by_cases c:u=s
  .rw[c];simp
  .rw[uI (λz=>c (xI z))]at a;exact GI _ (h.mem u a)
 len:=by
  have:=B1 b (uJ s) (.int (⇑met:Nat));have:=h.len;rw[vn,xf]
  nofun
theorem RI {P:Nat->Bool}{c:Nat}:∀ {l:uz},(l.filter P)[0]?=U c->∃i:Nat,l[i]?=U c/\P c=Y/\∀(j d:Nat),j<i->l[j]?=U d->P d=J
 | [],h=>by simp at h
 | x::l,h=>by
  rw[Fp]at h;by_cases e:P x=Y
  .rw[uM e]at h;cases h;exact#[0,Z,e,λj d hj=>by nofun]
  .rw[uI e]at h;let#[i,h1,h2,h3]:=RI h;calc#[i+1,h1,h2,λj d hj a=>?_];cases j with
   | zero=>cases a;exact Cw.mpr e
   | succ j=>calc h3 j d ∅ a
def og (ws:uG)(m s:uz):Prop:=∃k,Dead ws m k s
def yC.congr (a:∀s,mD ws s->(D s↔D' s)){met:uG}{s g:uz}(h:yC ws m D met s g):yC ws m D' met s g:=by
 induction h with
 | nil=>exact .nil
 | step _ n f e=>
  let#[i,l,p,o]:=f;calc .step e n #[i,l,λk=>p ((a _ (IW (Dp _ _))).mpr k),λj d b c=>(a _ (IW (Dp _ _))).mp (o j d b c)]
def pR.congr (a:∀s,mD ws s->(D s↔D' s)){x y:uz}(h:pR ws m D x y):pR ws m D' x y:=by let#[met,s,g,j,b,r]:=h;calc#[met,s,g,j,b.congr a,r]
def RB (a:c∈m)(b:Av ws (s++[c])):∃e∈k7 ws m s,zq ws (s++[c]) e:=
 #[lL ws (s++[c]),by unfold k7 wg;calc vJ.mpr #[_,vJ.mpr #[c,IP.mpr #[a,b],Z],Z],Dp _ _]
def Pr (l:GL m ws)(p:mO ws)(b:oo ws ss)(i:oU ws m ss es){s:uz}(f:mD ws s):s∈es↔og ws m s:=by
 constructor
 .intro h;let#[k,q,e]:=yK h;exact#[k+1,λx d a=>Nat.lt_succ_of_le (KU (λs c g a=>RB g a) i.ord k s (vT.mpr #[q,e]) x d a)]
 .rintro⟨k,u⟩;calc D0 λn=>?_;let#[x,v,d,a]:=RS (W:=ws) (m:=m) (es:=es) (N:=ss) (o:=k7 ws m) (λs t r=>by let#[c,g,a,j]:=ZoC r;calc#[(b.iff t).mpr (IW j),c,g,a,j]) (λs f=>l.stemAv p ((b.iff s).mp f)) i.stay k s ((b.iff s).mpr f) n
  have:=u x d a
  nofun
inductive nG (ws:uG)(m:uz):Nat->uz->uz->Prop
 | inside {x y:uz}:Qx ws x y->nG ws m 0 x y
 | endless {x y:uz}:mO ws->¬og ws m []->pR ws m (og ws m) x y->nG ws m 1 x y
 | long {x:uz}:mO ws->og ws m []->LF ws m [] x->40<⇑x->nG ws m 2 (x.take 41) []
 | split {x y:uz}:mO ws->og ws m []->LF ws m [] x->⇑x<=40->Rv ws (vF x m) y->nG ws m 3 x y
 | strip {x:uz}:mO ws->og ws m []->LF ws m [] x->⇑x<=40->(∀w∈vF x m,¬Av ws w)->nG ws m 4 x []
def EZ (p:vs.Perm ws)(w:uz):Av vs w↔Av ws w:=#[λh v a=>h v (p.mem_iff.mpr a),λh v a=>h v (p.mem_iff.mp a)]
def HV (p:vs.Perm ws)(h:mO vs):mO ws:=λv b w a=>h v (p.mem_iff.mpr b) w (p.mem_iff.mpr a)
def Ke (p:vs.Perm ws)(h:LF vs m s x):LF ws m s x:=
 #[h.mem,(EZ p _).mp h.av,λy a b=>h.max y a ((EZ p _).mpr b),λy a b=>h.fst y a ((EZ p _).mpr b)]
inductive Nv (H:Hp)(p:AD)(pS:AD)(pL:AD)(o:Obj)(kw:List (uQ×V))(ws:uG)(ss:uG)(m:uz)(i:Nat)(σ:St)(H':Hp):Prop
 | mk:∀(v3:Option V) (v4:Option V) (kS:List (uQ×V)) (kL:List (uQ×V)),σ=[some (.ref p),some (.ref pS),some (.ref pL),v3,v4,none,none]->mC p H H'->H' p=some (.frz o (.dK kw))->H' pS=some (.dK kS)->mq H H' pS pL kS (edges ws m (ss.take i))->H' pL=some (.dK kL)->GE kL (ss.take i) (λs=>⇑(k7 ws m s))->⇑kL<=i->Nv H p pS pL o kw ws ss m i σ H'
inductive OX (H:Hp)(p:AD)(pS:AD)(pL:AD)(au:AD)(o:Obj)(o1:Obj)(kw:List (uQ×V))(kL4:List (uQ×V))(ws:uG)(ss:uG)(m:uz)(u:uz)(i:Nat)(j:Nat)(σ:St)(H':Hp):Prop
 | mk:∀(v4:Option V) (kS:List (uQ×V)),σ=[some (.ref p),some (.ref pS),some (.ref pL),some (tx u),v4,none,none]->(∀b x,b≠p->b≠au->H b=some x->H' b=some x)->H' p=some (.frz o (.dK kw))->H' au=some (.frz o1 (.dK ((wg ws m u).map me)))->H' pS=some (.dK kS)->mq H H' pS pL kS (edges ws m (ss.take i)++((k7 ws m u).take j).map λr=>(r,u))->H' pL=U (.dK kL4)->OX H p pS pL au o o1 kw kL4 ws ss m u i j σ H'
inductive Qk (H:Hp)(p:AD)(pS:AD)(pL:AD)(pe:AD)(kS:List (uQ×V))(ws:uG)(ss:uG)(m:uz)(σ:St)(H':Hp):Prop
 | mk:∀(v3:Option V) (v4:Option V) (n:Nat) (es:List Wd) (f:Wd->Nat) (kL:List (uQ×V)),σ=[U (.ref p),U (.ref pS),U (.ref pL),v3,v4,U (.ref pe),U (.int n)]->ky H H'->H' pS=U (.dK kS)->mq H H' pS pL kS (edges ws m ss)->H' pL=U (.dK kL)->GE kL ss f->⇑kL<=8201->H' pe=U (.lst (es.map tx))->KI ss (k7 ws m) n es f->Qk H p pS pL pe kS ws ss m σ H'
inductive NT (H:Hp)(p:AD)(pS:AD)(pL:AD)(pe:AD)(al:AD)(kS:List (uQ×V))(ws:uG)(ss:uG)(m:uz)(n:Nat)(r:uz)(j:Nat)(σ:St)(H':Hp):Prop
 | mk:∀(v3:Option V) (es:List Wd) (f:Wd->Nat) (kL:List (uQ×V)),σ=[U (.ref p),U (.ref pS),U (.ref pL),v3,U (tx r),U (.ref pe),U (.int n)]->ky H H'->H' al=U (.lst ((lH (edges ws m ss) r).map tx))->H' pS=U (.dK kS)->mq H H' pS pL kS (edges ws m ss)->H' pL=U (.dK kL)->GE kL ss f->⇑kL<=8201->H' pe=U (.lst (es.map tx))->KJ ss (k7 ws m) n r (lH (edges ws m ss) r) j es f->NT H p pS pL pe al kS ws ss m n r j σ H'
inductive M0 (H1:Hp)(pd:AD)(s_:uz)(L:uz)(m:uz)(rs:uz)(F:uG)(i:Nat)(σ:St)(H':Hp):Prop
 | mk:∀(v5:Option V) (v6:Option V) (v7:Option V) (v8:Option V) (kvs:List (uQ×V)) (ws:uG),σ=[some (tx s_),some (tx L),some (tx m),some (tx rs),some (.ref pd),v5,v6,v7,v8]->(∀b o,H1 b=some o->b≠pd->H' b=some o)->H' pd=some (.dK kvs)->DI H' s_ L rs (λw=>∃sh∈F.take i,∃c∈m,w=sh++[c]\/w=c::sh) kvs ws->⇑kvs<=i*8->M0 H1 pd s_ L m rs F i σ H'
inductive Qi (H1:Hp)(pd:AD)(s_:uz)(L:uz)(m:uz)(rs:uz)(F:uG)(t1:AD)(sh:uz)(i:Nat)(j:Nat)(σ:St)(H':Hp):Prop
 | mk:∀(v7:Option V) (v8:Option V) (kvs:List (uQ×V)) (ws:uG),σ=[some (tx s_),some (tx L),some (tx m),some (tx rs),some (.ref pd),some (tx sh),some (.ref t1),v7,v8]->(∀b o,H1 b=some o->b≠pd->H' b=some o)->H' t1=some (.tup [tx rs,tx sh,.int ((Ct L sh:Nat):Int)])->H' pd=some (.dK kvs)->DI H' s_ L rs (λw=>(∃sh∈F.take i,∃c∈m,w=sh++[c]\/w=c::sh)\/∃c∈m.take j,w=sh++[c]\/w=c::sh) kvs ws->⇑kvs<=i*8+2*j->Qi H1 pd s_ L m rs F t1 sh i j σ H'
inductive MI (H1:Hp)(pd:AD)(s_:uz)(L:uz)(m:uz)(rs:uz)(F:uG)(t1:AD)(pl:AD)(sh:uz)(i:Nat)(j:Nat)(c:Nat)(k:Nat)(σ:St)(H':Hp):Prop
 | mk:∀(v8:Option V) (kvs:List (uQ×V)) (ws:uG),σ=[some (tx s_),some (tx L),some (tx m),some (tx rs),some (.ref pd),some (tx sh),some (.ref t1),some (tx [c]),v8]->(∀b o,H1 b=some o->b≠pd->H' b=some o)->H' t1=some (.tup [tx rs,tx sh,.int ((Ct L sh:Nat):Int)])->H' pl=some (.lst [tx (sh++[c]),tx (c::sh)])->H' pd=some (.dK kvs)->DI H' s_ L rs (λw=>((∃sh∈F.take i,∃c∈m,w=sh++[c]\/w=c::sh)\/∃c∈m.take j,w=sh++[c]\/w=c::sh)\/w∈[sh++[c],c::sh].take k) kvs ws->⇑kvs<=i*8+2*j+k->MI H1 pd s_ L m rs F t1 pl sh i j c k σ H'
inductive M6 (H:Hp)(b:AD)(p0:AD)(pw:AD)(o:Obj)(kvs:List (uQ×V))(ws:uG)(m:uz)(i:Nat)(σ:St)(H':Hp):Prop
 | mk:∀(v4:Option V) (v5:Option V) (kw:List (uQ×V)) (ss:uG),σ=[U (.ref b),U (tx m),U (.ref p0),U (.ref pw),v4,v5]->ky H H'->H' p0=U (.frz o (.dK kvs))->H' pw=U (.dK kw)->lY H' pw kw ws m ss->ss.map uJ=(kvs.map (·.1)).take i->M6 H b p0 pw o kvs ws m i σ H'
inductive NJ (H:Hp)(b:AD)(p:AD)(ws:uG)(i:Nat)(σ:St)(H':Hp):Prop
 | mk:∀(v2:Option V) (v3:Option V) (kvs:List (uQ×V)),σ=[U (.ref b),U (.ref p),v2,v3]->ky H H'->H' p=U (.dK kvs)->mm ws i 0 kvs->⇑kvs<=1+41*i->NJ H b p ws i σ H'
inductive N2 (H:Hp)(b:AD)(p:AD)(ws:uG)(w_:uz)(i:Nat)(j:Nat)(σ:St)(H':Hp):Prop
 | mk:∀(v3:Option V) (kvs:List (uQ×V)),σ=[U (.ref b),U (.ref p),U (tx w_),v3]->ky H H'->H' p=U (.dK kvs)->mm ws i (1+j) kvs->⇑kvs<=1+41*i+j->N2 H b p ws w_ i j σ H'
inductive Qb (H:Hp)(p:AD)(pf:AD)(l:uz)(m:uz)(i:Nat)(σ:St)(H':Hp):Prop
 | mk:∀(v3:Option V)(v4:Option V)(q0:AD),σ=[U (.ref p),U (.ref pf),U (.ref q0),v3,v4]->ky H H'->H' pf=U (.lst ((C4 l m i).map tx))->H' q0=U (.lst ((kY l i).map tx))->pf≠q0->Qb H p pf l m i σ H'
noncomputable def mS (l:uz):uz:=if l=[] then [45] else l
theorem IX (a:uz):∀ws:uG,⇑(glue a ws)<=(ws.map fu).sum+⇑ws*⇑a
 | []=>wf _
 | [x]=>by simp[glue]
 | x::y::r=>by
  have:=IX a (y::r);show ⇑(x++a++glue a (y::r))<=_;rw[vn,vn,vP,Fq,vQ,Nat.succ_mul]
  nofun
def Rk (h:⇑l<=n):⇑(mS l)<=n+1:=by
 unfold mS;split
 .simp
 .lia
structure Kp where
 n:uz
 p:AD
 la:AD
 da:AD
 l:uz
 ds:List (Bool×Nat)
structure Cv (r s:Kp):Prop where
 p:r.p≠s.p
 ll:r.la≠s.la
 ld:r.la≠s.da
 dl:r.da≠s.la
 dd:r.da≠s.da
def vX (n:uz):Bool:=wv n vA 8&&R (n≠[])
def lQ (p:AD)(H a:Hp):Prop:=∀b o,H b=U o->b≠p->a b=U o
def lQ.chg (k:lQ p H H'):we [p] H H':=λb o e n _=>k b o e (~~~n)
def lQ.tt (k:lQ p H H')(t:TT a H)(h:H p=U (.dK kvs)):TT a H':=HQ t k h Z Z
def DE (m:uz)(dA:AD):List (Str×V):=kW "own_strips" (.ref dA) (kW "own_kinds" (tx m) [])
def mG (F:List Kp):List (uQ×V):=F.map λr=>(uJ r.n,V.ref r.p)
structure kR (a:Ad)(H:Hp)(p dA:AD)(m:uz)(F:List Kp):Prop where
 fld:∃dx,H p=U (.ins a.c_NK dx (DE m dA))
 dct:H dA=U (.dK (mG F))
 str:∀r∈F,kH a.c_NM H r.p r.la r.da r.l m r.ds
 nm:∀r∈F,vX r.n=Y
 nd:(F.map (·.n)).Nodup
 kok:Bk m
def shK:(DE m dA).lookup ("own_kinds":Str)=U (tx m):=by unfold DE;rw[wN,uI nofun,wN,uM Z]
def F8:(DE m dA).lookup ("own_strips":Str)=U (.ref dA):=by unfold DE;rw[wN,uM Z]
def wZ {m:uz}{dA:AD}{x:Str}(b:autoParam (¬x="own_strips") Xu._auto_1)(a:autoParam (¬x="own_kinds") Xu._auto_1):(DE m dA).lookup x=O:=by unfold DE;rw[wN,uI b,wN,uI a];rfl
def yj (h:vX n=Y):⇑n<=8:=by
 unfold vX wv at h;rw[vW,vW,R4]at h
 nofun
def LW (h:∀r∈F,r.n≠n):kK (mG F) (uJ n)=O:=by
 induction F with
 | nil=>rfl
 | cons r F a=>
  rw[show mG (r::F)=(uJ r.n,V.ref r.p)::mG F from Z,zk (λe=>h r {} (xI e))];calc a λs b=>h s (by simp[b])
def ZqW {α:Type}{f:α->uz}{g:α->V}{F:List α}(a:(F.map f).Nodup){r:α}(b:r∈F):kK (F.map λr=>(uJ (f r),g r)) (uJ (f r))=U (g r):=by
 induction F with
 | nil=>cases b
 | cons s F c=>
  rw[vP,y4]at a;rw[vP];rcases vg.mp b with rfl | z
  .exact zJ Z
  .rw[zk (λe=>a.1 (by rw[show f s=f r from xI e];calc Dy z))];calc c a.2 z
def QQ (a:(F.map (·.n)).Nodup){r:Kp}(b:r∈F):kK (mG F) (uJ r.n)=U (.ref r.p):=ZqW (f:=Kp.n) (g:=λr=>V.ref r.p) a b
def Zo1 (F:List Kp)(n:uz):Ck (mG F) (uJ n)=mG (F.filter λx=>R (x.n≠n)):=by unfold Ck mG;rw[List.filter_map];congr 1;calc List.filter_congr λx _=>?_;show R (uJ x.n≠uJ n)=R (x.n≠n);rw[Sd];calc#[λh e=>h (by rw[e]),λh e=>h (xI e)]
def ZqX (F:List Kp):⇑(mG F)=⇑F:=by unfold mG;rw[uO]
def Zo0 (F:List Kp):(mG F).map (·.1)=(F.map (·.n)).map uJ:=by unfold mG;rw[wE,wE];rfl
def Dg (h:kH C H p la da l m ds):(∃a fs,H p=U (.ins C a fs))/\(∃xs,H la=U (.lst xs))/\∃xs,H da=U (.lst xs):=by let#[#[a,f],k,#[c,b,_],_]:=h;calc#[#[a,_,f],#[_,k],c,b]
def kR.l (h:kR a H p dA m F)(s:lJ H H'):kR a H' p dA m F:=by let#[#[g,f],d,e,b,i,k]:=h;calc#[#[g,s _ _ f Z],s _ _ d Z,λr c=>(e r c).l s,b,i,k]
def kR.same (h:kR a H p dA m F)(s:ky H H'):kR a H' p dA m F:=h.l s.l
def Jz (st:kH C H q la da l m ds)(k:lQ dA H H')(d:H dA=U (.dK kvs)):kH C H' q la da l m ds:=by
 let#[#[_,_,f],#[_,h],_,g]:=Dg st;let a:∀ {b o},H b=U o->(∀kvs,o≠.dK kvs)->b∉[dA]:=λe n z=>by rw[vI.mp z,d]at e;exact n _ (cx e).symm
 calc st.chg k.chg (λb c i z=>by rw[vI.mp c,d]at z;cases z) (a f λ_ z=>by cases z) (a h λ_ z=>by cases z) (a g λ_ z=>by cases z)
def PY (f:H p=U (.ins C dx fs))(k:lQ dA H H')(d:H dA=U (.dK kvs)):H' p=U (.ins C dx fs):=k _ _ f λz=>by rw[z,d]at f;cases f
def kR.lay (h:kR a H p dA m F)(s:ky H H')(st:kH a.c_NM H' r.p r.la r.da r.l m r.ds)(q:vX r.n=Y)(l:∀s∈F,s.n≠r.n):
  kR a (upd H' dA (.dK (kQ (mG F) (uJ r.n) (.ref r.p)))) p dA m (F++[r])/\lQ dA H (upd H' dA (.dK (kQ (mG F) (uJ r.n) (.ref r.p)))):=by
 let d:=h.same s;let g:=d.dct;let k:lQ dA H' (upd H' dA (.dK (kQ (mG F) (uJ r.n) (.ref r.p)))):=λb o e i=>by rw[uF i];exact e
 let#[u,f]:=d.fld;refine#[#[#[u,PY f k g],?_,λt c=>?_,λt c=>?_,?_,h.kok],λb o e i=>k _ _ (s _ _ e) i]
 .rw[uN,EX _ (LW l)];unfold mG;rw[xO];rfl
 .rcases wM.mp c with z | z
  .exact Jz (d.str t z) k g
  .rw[vI.mp z];exact Jz st k g
 .rcases wM.mp c with z | z
  .exact h.nm t z
  .rw[vI.mp z];exact q
 .rw[xO,Dz];calc#[h.nd,{},λx n y j e=>?_];let#[t,c,Z]:=vJ.mp n;rw[El,vI]at j;calc l t c (e.trans j)
def kR.take (h:kR a H p dA m F)(s:ky H H'):
  kR a (upd H' dA (.dK (Ck (mG F) (uJ n)))) p dA m (F.filter λx=>R (x.n≠n))/\lQ dA H (upd H' dA (.dK (Ck (mG F) (uJ n)))):=by
 let c:=h.same s;let i:=c.dct;let k:lQ dA H' (upd H' dA (.dK (Ck (mG F) (uJ n)))):=λb o e g=>by rw[uF g];exact e
 let#[j,f]:=c.fld;calc#[#[#[j,PY f k i],by rw[uN,Zo1],λr d=>Jz (c.str r (yU.mp d).1) k i,λr d=>h.nm r (yU.mp d).1,h.nd.sublist (List.filter_sublist.map _),h.kok],λb o e g=>k _ _ (s _ _ e) g]
def Zpw (h:ph H1 H2 t c g la rc rg)(s:ky H H1):ph H H2 t c g la rc rg:={ h with nc:=h.nc.same s,ng:=h.ng.same s,nl:=h.nl.same s }
def mZ (a:Ad)(H:Hp)(m:uz)(A:List Kp):Prop:=(∀r∈A,kH a.c_NM H r.p r.la r.da r.l m r.ds)/\A.Pairwise Cv
def zQ (b a:AD)(l:uz)(ds:List (Bool×Nat))(r:Kp):Kp:=if r.p=b then #[r.n,r.p,a,r.da,l,ds] else r
def Cv.symm (h:Cv r s):Cv s r:=#[uZ h.p,uZ h.ll,uZ h.dl,uZ h.ld,uZ h.dd]
def Qv {α:Type}{a:α->α->Prop}(g:∀ {x y},a x y->a y x){A:List α}(h:A.Pairwise a){r s:α}(c:r∈A)(e:s∈A):r=s\/a r s:=by
 induction A with
 | nil=>cases c
 | cons x A f=>
  let#[b,d]:=D2.mp h;rcases vg.mp c with rfl | z<;>rcases vg.mp e with rfl | y
  .exact .inl Z
  .exact .inr (b s y)
  .exact .inr (g (b r z))
  .exact f d z y
def mZ.ap (h:mZ a H m A){r s:Kp}(c:r∈A)(b:s∈A)(n:s.p≠r.p):Cv r s:=(Qv Cv.symm h.2 c b).resolve_left λe=>n (by rw[e])
def mZ.one (h:mZ a H m A){r s:Kp}(c:r∈A)(b:s∈A)(e:s.p=r.p):s=r:=((Qv Cv.symm h.2 b c).resolve_right λz=>z.p e)
def mZ.tup (h:mZ a H m A){r:Kp}(e:r∈A):∀b∈[r.p,r.da],∀us,H b≠U (.tup us):=λb d us z=>by
 let#[#[_,_,c],_,_,f]:=Dg (h.1 r e);rcases vg.mp d with y | y
 .rw[y,c]at z;cases z
 .rw[vI.mp y,f]at z;cases z
def mZ.moved (h:mZ a H m A)(b:r∈A)(c:we [r.p,r.da] H H2)(st:kH a.c_NM H2 r.p la2 r.da l2 m ds2)(d:Nw H la2):mZ a H2 m (A.map (zQ r.p la2 l2 ds2)):=by
 let#[#[_,_,n],#[_,C],_,w]:=Dg (h.1 r b);refine#[λs u=>?_,?_]
 .obtain⟨t,g,rfl⟩:=vJ.mp u;unfold zQ;by_cases e:t.p=r.p
  .rw[uM e,h.one b g e];exact st
  .rw[uI e];let k:=h.ap b g e;let#[#[_,_,o],#[_,j],_,i]:=Dg (h.1 t g);calc(h.1 t g).chg c (h.tup b) ?_ ?_ ?_<;>simp only[vg,xD,or_false,not_or]
   .exact#[e,λz=>by rw[z,w]at o;cases o]
   .exact#[λz=>(by rw[z,n]at j;cases j),uZ k.dl]
   .exact#[λz=>(by rw[z,n]at i;cases i),uZ k.dd]
 .rw[CV];calc h.2.imp_of_mem λ{x y} q B k=>?_;let#[_,#[_,j],_,i]:=Dg (h.1 x q);let#[_,#[_,p],_,v]:=Dg (h.1 y B);unfold zQ;by_cases l:x.p=r.p
  .let f:y.p≠r.p:=λz=>k.p (by rw[l,z]);rw[uM l,uI f];exact#[k.p,uZ (d.ne p Z),uZ (d.ne v Z),k.dl,k.dd]
  .rw[uI l];by_cases f:y.p=r.p
   .rw[uM f];exact#[k.p,d.ne j Z,k.ld,d.ne i Z,k.dd]
   .rw[uI f];calc k
def EL (r:Kp):(zQ p0 la l ds r).n=r.n/\(zQ p0 la l ds r).p=r.p/\(zQ p0 la l ds r).da=r.da:=by unfold zQ;split<;>calc#[Z,Z,Z]
def ZqY (A:List Kp):mG (A.map (zQ p0 la l ds))=mG A:=by unfold mG;rw[wE];calc EF λs _=>?_;show (uJ (zQ p0 la l ds s).n,V.ref (zQ p0 la l ds s).p)=_;rw[(EL s).1,(EL s).2.1]
def kk (r:Kp):uz×uz×List (Bool×Nat):=(r.n,r.l,r.ds)
def Zre {H:Hp}{p q C D e c:AD}{fs b:List (Str×V)}(x:Str)(a:H p=U (.ins C e fs))(d:H q=U (.ins D c b))(n:fs.lookup x≠b.lookup x):p≠q:=λz=>by rw[z,d]at a;injection a with a;injection a with _ _ a;calc n (by rw[a])
noncomputable abbrev qh:uz:=s!"put"
noncomputable abbrev FW:uz:=s!"drop"
noncomputable abbrev GK:uz:=s!"back"
noncomputable abbrev Iy:uz:=s!"strip"
noncomputable abbrev K7:uz:=s!"take"
noncomputable abbrev zi:uz:=s!"from"
noncomputable abbrev FS:uz:=s!"names"
noncomputable abbrev Dt:uz:=s!"text"
noncomputable abbrev Dw:uz:=s!"lacks"
noncomputable abbrev tG:uz:=s!"ask"
noncomputable abbrev LP:uz:=s!"often"
noncomputable abbrev Km:uz:=s!"most"
noncomputable abbrev Kt:uz:=s!"lone"
noncomputable abbrev L8:uz:=s!"rooms"
noncomputable abbrev La:uz:=s!"near"
noncomputable abbrev NI:uz:=s!"ring"
noncomputable abbrev On:uz:=s!"same"
noncomputable abbrev QW:uz:=s!"ok"
abbrev IH:=List (uz×Se)
def D4 (a:IH):Prop:=⇑a<=400/\∀x∈a,x.1≠[]/\⇑x.1<=50
def Ea (a:Ad)(H:Hp)(m:uz)(p h:AD)(j:uz)(e:List (Bool×Nat))(Q:VK):Prop:=∀(t c g d:AD)(i f:IH)(b:Hp),we [p,h] H b->kH a.c_NM b p d h j m e->ph H b t c g d i f->D4 i->D4 f->TT a b->Q (.ref t) b
def ED (a:Ad)(H:Hp)(m:uz)(p e:AD)(f:uz)(d:List (Bool×Nat))(Q:VK):Prop:=∀(out:uz)(b:AD)(c:Hp),we [p,e] H c->kH a.c_NM c p b e f m d->Nw H b->TT a c->Q (tx out) c
def Ea.same (h:Ea a H m p da l2 ds2 Q)(s:ky H H1):Ea a H1 m p da l2 ds2 Q:=
 λt c g b n d f l o i k e j=>h t c g b n d f (s.chg.trans l) o (Zpw i s) k e j
def ED.same (h:ED a H m p da l2 ds2 Q)(s:ky H H1):ED a H1 m p da l2 ds2 Q:=
 λb c d f g n e=>h b c d (s.chg.trans f) g (n.same s) e
def tch (a b:IH):uz:=mS (glue [32] (a.map (·.1)))++s!" / "++mS (glue [32] (b.map (·.1)))
def pE (a:Ad)(H:Hp)(p dA:AD)(m n l:uz)(ds:List (Bool×Nat))(F:List Kp)(out:uz)(Q:VK):Prop:=(∀r∈F,r.n≠n)->∀(r:Kp)(b:Hp),r.n=n->r.l=l->r.ds=ds->Nw H r.p->Nw H r.la->Nw H r.da->we [dA] H b->TT a b->kR a b p dA m (F++[r])->Q (tx out) b
def pE.same (h:pE a H p dA m n l ds F out Q)(s:ky H H1):pE a H1 p dA m n l ds F out Q:=
 λk r e f o j g i b c t d=>h k r e f o j (g.same s) (i.same s) (b.same s) (s.chg.trans c) t d
inductive yp (a:Ad)(H:Hp)(p g dA:AD)(m:uz)(F:List Kp)(gs:Se):Prop
 | mk:kR a H p dA m F->H g=U (.lst gs)->TT a H->⇑F<=60->yp a H p g dA m F gs
def RF (a:Ad)(E:XK)(H:Hp)(F:List Kp)(n:uz)(P:Kp->Prop):Prop:=vX n=Y/\(((∀r∈F,r.n≠n)/\Jm a E H n)\/∃r∈F,r.n=n/\P r)
def RF.imp (h:RF a E H F n P)(x:Jm a E H n->Jm a E' H' n)(k:∀r∈F,r.n=n->P r->P' r):RF a E' H' F n P':=
 #[h.1,h.2.elim (λz=>.inl #[z.1,x z.2]) λ⟨r,b,e,z⟩=>.inr #[r,b,e,k r b e z]]
def pO (a:Ad)(E:XK)(H:Hp):Nat->uz->uz->Prop
 | 0,x,y=>XV a a.c_MU (yV "one" "other" [tx x,tx y]) E H
 | 1,x,y=>XV a a.c_MD (yV "head" "lap" [tx x,tx y]) E H
 | 2,x,_=>XV a a.c_MI (wa "word" [tx x]) E H
 | 3,x,y=>XV a a.c_NL (yV "one" "other" [tx x,tx y]) E H
 | _,_,_=>False
inductive Bt (a:Ad)(m:uz)(E:XK)(H:Hp):uG->Prop
 | bad:∀ {xs rest:uG} {x:uz},GL m xs->⇑x<=900->(wv x m 41=J\/x=[]\/x∈xs)->XC a.c_MX (wa "word" [tx x]) E H->Bt a m E H (xs++x::rest)
 | no:∀ {ws:uG},GL m ws->(∀vs k x y,vs.Perm ws->vs.Pairwise lS->nG vs m k x y->pO a E H k x y)->Bt a m E H ws
def x5 (m u:uz):Bool:=!wv u m 20 || R (u=[])
def Fu (p:AD):List (Str×V):=kW "own_shelf" (.ref p) []
structure lV (a:Ad)(H:Hp)(dk p dA:AD)(m:uz)(F:List Kp):Prop where
 dsk:∃dx,H dk=U (.ins a.c_NY dx (Fu p))
 sh:kR a H p dA m F
inductive wS (a:Ad)(H:Hp)(p dA:AD)(m:uz)(F:List Kp)(Q:VK)(E:XK):uz->Se->Prop
 | strip:∀ {n},vX n=Y->pE a H p dA m n [] [] F QW Q->(∀r∈F,r.n=n->Fa a E H n)->wS a H p dA m F Q E Iy [tx n]
 | take:∀ {n},RF a E H F n (λ_=>False)->wS a H p dA m F Q E K7 [tx n]
 | put:∀ {n u},⇑u<=100->RF a E H F n (λr=>(zf u m=J/\XW a E H u)\/∃c0∈m,u=[c0]/\r.l=[]/\r.ds=[]/\ED a H m r.p r.da [c0] [(Y,c0)] Q)->wS a H p dA m F Q E qh [tx n,tx u]
 | drop:∀ {n},RF a E H F n (λr=>r.l=[]/\zx a.c_NX E H)->wS a H p dA m F Q E FW [tx n]
 | back:∀ {n},RF a E H F n (λr=>(r.ds=[]/\zx a.c_MV E H)\/∃c0,r.l=[c0]/\r.ds=[(Y,c0)]/\ED a H m r.p r.da [] [] Q)->wS a H p dA m F Q E GK [tx n]
 | from:∀ {n us},vX n=Y->⇑us<=50->(((∃r∈F,r.n=n)/\Fa a E H n)\/((∀r∈F,r.n≠n)/\Bt a m E H us))->wS a H p dA m F Q E zi (tx n::us.map tx)
 | names:(∀H2,ky H H2->Q (tx (mS (glue [32] (xx (F.map (·.n)))))) H2)->wS a H p dA m F Q E FS []
 | text:∀ {n},RF a E H F n (λr=>∀H2,ky H H2->Q (tx (mS r.l)) H2)->wS a H p dA m F Q E Dt [tx n]
 | lacks:∀ {n},RF a E H F n (λr=>∀H2,ky H H2->Q (tx (mS (glue [32] (vF r.l m)))) H2)->wS a H p dA m F Q E Dw [tx n]
 | ask:∀ {n u},⇑u<=100->RF a E H F n (λ_=>wv u m 60=J/\XW a E H u)->wS a H p dA m F Q E tG [tx n,tx u]
 | often:∀ {n u},⇑u<=100->RF a E H F n (λ_=>wv u m 60=J/\XW a E H u)->wS a H p dA m F Q E LP [tx n,tx u]
 | most:∀ {n} {k:Int},RF a E H F n (λr=>¬(1<=k/\k<=⇑r.l)/\XC a.c_LZ (wa "length" [.int k]) E H)->wS a H p dA m F Q E Km [tx n,.int k]
 | lone:∀ {n} {k:Int},RF a E H F n (λr=>¬(0<=k/\k<=⇑r.l-1)/\XC a.c_MH (wa "place" [.int k]) E H)->wS a H p dA m F Q E Kt [tx n,.int k]
 | rooms:∀ {n},RF a E H F n (λ_=>False)->wS a H p dA m F Q E L8 [tx n]
 | near:∀ {n},RF a E H F n (λ_=>False)->wS a H p dA m F Q E La [tx n]
 | ring:∀ {u},⇑u<=100->x5 m u=Y->XC a.c_MZ (wa "thing" [tx u]) E H->wS a H p dA m F Q E NI [tx u]
 | samev:∀ {u w},⇑u<=100->⇑w<=100->((x5 m u=Y/\XC a.c_MZ (wa "thing" [tx u]) E H)\/(x5 m u=J/\x5 m w=Y/\XC a.c_MZ (wa "thing" [tx w]) E H))->wS a H p dA m F Q E On [tx u,tx w]
noncomputable abbrev vS:uz:=s!"NAME"
noncomputable abbrev vR:uz:=s!"LETTERS"
noncomputable abbrev FB:uz:=s!"NUMBER"
noncomputable abbrev yk:uz:=s!".."
def FT:List (uz×uG):=[(Iy,[vS]),(K7,[vS]),(qh,[vS,vR]),(FW,[vS]),(GK,[vS]),(zi,[vS,vR,yk]),(FS,[]),(Dt,[vS]),(Dw,[vS]),(tG,[vS,vR]),(LP,[vS,vR]),(Km,[vS,FB]),(Kt,[vS,FB]),(L8,[vS]),(La,[vS]),(NI,[vR]),(On,[vR,vR])]
noncomputable def Ip:uz:=s!"0123456789"
def nZ (w:uz):Bool:=if w=[] then J else if 3<⇑w then J else if (w.all λc=>Ip.contains c)=Y then (if w=[48] then Y else R (w.head?≠U 48)) else J
def oR (w:uz):Bool:=if w=[45] then Y else if w=[] then J else w.all λc=>vA.contains c
def zZ (w f:uz):Bool:=if f=vS then vX w else if f=FB then nZ w else oR w
def yc (fs:uG)(n:Nat):uG:=if yk∈fs then [vS,vR]++cw (n-2) vR else fs
def zR (us a:uG):Bool:=if ⇑us=⇑a then (cc ⇑a).all λi=>zZ (us.getD i []) (a.getD i []) else J
def CK:uG->Bool
 | []=>J
 | vb::us=>match FT.lookup vb with
  | none=>J
  | some fs=>zR us (yc fs ⇑us)
def vo (w:uz):V:=if nZ w=Y then .int ((intText? #[↑w]).getD 0) else if w=[45] then tx [] else tx w
def IM (w:uz):Prop:=nZ w=Y->(intText? #[↑w]).isSome=Y
structure Ln (ws:uG):Prop where
 ne:ws≠[]
 n50:⇑ws<=50
 w100:∀w∈ws,⇑w<=100
 sp:∀w∈ws,32∉w
def nQ (a:Ad)(H:Hp)(p dA:AD)(m:uz)(F:List Kp)(Q:VK)(E:XK)(ws:uG):Prop:=
 (CK ws=J/\XC a.c_MW [] E H)\/∃b us,ws=b::us/\CK ws=Y/\(∀w∈us,IM w)/\wS a H p dA m F Q E b (us.map vo)
noncomputable def CL (a:Ad):List AD:=[a.c_MW,a.c_NX,a.c_MV,a.c_MD,a.c_MI,a.c_NL,a.c_LM,a.c_MY,a.c_M0,a.c_LZ,a.c_MH,a.c_MZ,a.c_MX,a.c_MU]
def Fd:Nat->List (Str×V)->uz->Prop
 | 0,fs,d=>fs=[]/\d=s!"line"
 | 1,fs,d=>fs=[]/\d=s!"bare"
 | 2,fs,d=>fs=[]/\d=s!"none"
 | 3,_,d=>d=s!"endless"
 | 4,_,d=>d=s!"long"
 | 5,_,d=>d=s!"split"
 | 6,fs,d=>∃n:uz,⇑n<=900/\fs=wa "name" [tx n]/\d=s!"there "++n
 | 7,fs,d=>∃n:uz,⇑n<=900/\fs=wa "name" [tx n]/\d=s!"no "++n
 | 8,fs,d=>∃n:uz,⇑n<=900/\fs=wa "word" [tx n]/\d=s!"word "++n
 | 9,fs,d=>∃(k:Int)(w:uz),V.str (toString k)=tx w/\k.natAbs.log2<1920/\⇑w<=900/\fs=wa "length" [.int k]/\d=s!"length "++w
 | 10,fs,d=>∃(k:Int)(w:uz),V.str (toString k)=tx w/\k.natAbs.log2<1920/\⇑w<=900/\fs=wa "place" [.int k]/\d=s!"place "++w
 | 11,fs,d=>∃n:uz,⇑n<=900/\fs=wa "thing" [tx n]/\d=s!"ring "++n
 | 12,fs,d=>∃n:uz,⇑n<=900/\fs=wa "word" [tx n]/\d=s!"list "++n
 | 13,fs,d=>∃n u:uz,⇑n<=900/\⇑u<=900/\fs=yV "one" "other" [tx n,tx u]/\d=s!"inside "++n++[32]++u
 | _,_,_=>False
def XT (a:Ad)(Q:VK):XK:=λc f b=>∃(e C:AD) (i:Nat) (fs:List (Str×V)) (d:uz),c=.ref C/\f=U e/\(CL a)[i]?=U C/\Fd i fs d/\mU b e C fs/\Q (tx d) b
def xP (a:Ad)(p dA:AD)(m:uz)(F:List Kp)(b c:uz):Prop:=∃(ws:uG)(i:Nat)(C:AD),b=glue [32] ws/\Ln ws/\(CL a)[i]?=U C/\∀(H:Hp)(Q:VK)(E:XK),TT a H->(∀fs,Fd i fs c->XV a C fs E H)->nQ a H p dA m F Q E ws
def lP (a:Ad)(p dA:AD)(m:uz)(F:List Kp)(H:Hp)(vs:Se):Prop:=∀v∈vs,∃(t:AD)(b c:uz),v=.ref t/\H t=U (.tup [tx b,tx c])/\xP a p dA m F b c
inductive yF (c:Nat)(one two non:uz):List Kp->Prop
 | mk:∀ {r1 r2:Kp},r1.n=one->r1.l=[c]->r1.ds=[(Y,c)]->r2.n=two->r2.l=[]->r2.ds=[]->one≠two->one≠non->two≠non->vX one=Y->vX two=Y->vX non=Y->yF c one two non [r1,r2]
def KL (m:uz)(F:List Kp):uG:=mS (glue [32] (xx (F.map (·.n))))::F.flatMap λr=>[mS r.l,mS (glue [32] (vF r.l m))]
noncomputable def KM:uG:=[s!"ab",s!"cxz",s!"pq",s!"mnos"]
structure K8 (m:uz)(c:Nat):Prop where
 mem:m∈KM
 hd:m.head?=U c
structure K9 (m:uz)(c d:Nat)(rs:uz):Prop where
 mem:m∈KM
 eq:m=c::(rs++[d])
theorem Gw {c:Nat}:∀ {xs:uz},(∀x∈xs,x<=c)->xs.sum<=⇑xs*c
 | [],_=>wf _
 | x::r,h=>by
  have:=Gw (xs:=r) λy a=>h y (by simp[a]);have:=h x {};rw[Fq,vQ,Nat.succ_mul]
  nofun
def ZmL (i:kH a.c_NM H p la da l m ds)(f:H p=U (.ins a.c_NM dx (sF l m la da)))(c:H da=U (.lst ts))(k:lW H ts ds)(s:ky H H2)(h:H2 td=U (.tup (Gs d)))(tk:TT a H):
  ∃H3,upd H2 da (.lst (ts++[.ref td]))=H3/\we [da] H H3/\H3 da=U (.lst (ts++[.ref td]))/\lW H3 (ts++[.ref td]) (ds++[d])/\H3 p=U (.ins a.c_NM dx (sF l m la da))/\H3 la=U (.lst ((vF l m).map tx))/\TT a H3:=by
 let g:p≠da:=λz=>by rw[z,c]at f;cases f
 let e:we [da] H (upd H2 da (.lst (ts++[.ref td]))):=s.chg.trans (we.upd {});calc#[_,Z,e,uN,?_,e _ _ f (~~~g) Z,e _ _ i.lack (~~~i.ne) Z,(tk.same s).upd (s _ _ c) Z Z];calc(k.chg e (λb j n z=>by rw[vI.mp j,c]at z;cases z)).snoc ?_;rw[uF (λz=>by rw[z,s _ _ c]at h;cases h)];calc h
def Zmg (F:List Kp)(n:uz):(∃r∈F,r.n=n)\/∀r∈F,r.n≠n:=by
 by_cases h:∃r∈F,r.n=n
 .exact .inl h
 .exact .inr λr a e=>h #[r,a,e]
def Kh (s:ky H H')(h:H' b=O):Nw H b:=.of (s.free h)
def C2 (n:x≠y)(h:Q (.bl J) H):nv K J (tx x) (tx y) H Q:=.inl #[Z,by rw[uI vC,CA,R6 n];calc h]
def R0 (e:H c=U (.lst ys))(d:lX H ys rc)(n:⇑rc<=9000)(q:∀r a,ky H a->H r=O->a r=U (.lst ((rc.map (·.1)).map tx))->Q (.ref r) a):(∃xs,vO K H c xs)/\kF (By K c) [O] (xW 0) oV (Fj (pW K) (pU 0) (tC (V.int 0))) H Q:=by let p:=d.1;calc#[#[_,.mk e],kF.listM (xs:=ys) (λ_=>Y) (λi=>tx ((rc.map (·.1)).getD i [])) ∅ (.mk e) (λi f x _ _ q=>q f (ky.refl _)) ?_ λr k g l b=>q r k g l (by rw[Lo p]at b;calc b)];intro i o w m _ j s;let#[t,u,h,v]:=Jr d m;rw[h];calc#[t,_,_,_,Z,Z,.mk (j _ _ v),ma,s o (ky.refl _)]
def D4.le (h:D4 rc):⇑(rc.map (·.1))<=1000/\((rc.map (·.1)).map fu).sum<=100000/\∀w∈rc.map (·.1),w≠[]:=by
 let#[f,d]:=h;refine#[by rw[uO];nofun,u8 (Gw (c:=50) λx e=>?_) ?_,λw b=>?_]
 .obtain⟨w,b,rfl⟩:=vJ.mp e;let#[r,a,Z]:=vJ.mp b;exact(d r a).2
 .rw[uO,uO];nofun
 .obtain⟨r,a,rfl⟩:=vJ.mp b;calc(d r a).1
def made (a:H p=O)(c:H dx=O)(k:∀b x,upd (upd H dx o) p o' b=U x->b≠p->H1 b=U x):ky H H1:=λb x e=>k b x (by rw[uF (vp e a),uF (vp e c)];calc e) (vp e a)
def NE (a:H p=O)(c:H dx=O)(h:upd (upd H dx o) p o' b=O):H b=O:=by
 cases e:H b with
 | none=>rfl
 | some x=>rw[uF (vp e a),uF (vp e c),e]at h;cases h
def ZoY (d:mh l m):⇑(vF l m)<=1000/\((vF l m).map fu).sum<=100000/\∀w∈vF l m,w≠[]:=by
 let#[_,g,b]:=lsOk d;refine#[∅,u8 (Gw (c:=41) λx f=>?_) ?_,λw a e=>?_]
 .obtain⟨w,a,rfl⟩:=vJ.mp f;exact(b w a).2
 .rw[uO];nofun
 .have:=(b w a).1;rw[e]at this;calc Sa this ⋯
def Jc {x m:uz}{p:uz->Bool}{f:uz->Se}(a:mh x m):D4 (((vF x m).filter p).map λw=>(w,f w)):=by let#[_,g,b]:=lsOk a;calc#[by rw[uO];calc u8 (yA _ _) ∅,λr c=>?_];let#[w,d,Z]:=vJ.mp c;have:=b w (yU.mp d).1;calc#[λe=>by rw[show w=[] from e]at this;calc Sa this.1 ⋯,u8 this.2 ⋯]
def Rn (n:x≠y)(h:Q (.bl Y) H):nv K Y (tx x) (tx y) H Q:=.inl #[Z,by rw[uM Z,CA,R6 n];calc h]
def Rz:V.str (fv "-")=tx [45]:=rfl
def Zpj:V.str (fv "0123456789")=tx s!"0123456789":=rfl
theorem Il {α β:Type}[BEq α][LawfulBEq α]{x:α}{y:β}:∀ {L:List (α×β)},L.lookup x=U y->(x,y)∈L
 | [],h=>by cases h
 | (u,v)::L,h=>by
  rw[Bl]at h;cases e:x == u with
  | true=>
   rw[e]at h;cases h;rw[show x=u from eq_of_beq e];exact xy
  | false=>
   rw[e]at h;calc wU _ (Il h)
def NA (h:qK w K v oP):∃kvs,yW w K v kvs/\(∀ {vb:uz} {fs:uG},FT.lookup vb=U fs->∃b,kK kvs (uJ vb)=U (.ref b)/\∀H,wP K H b (fs.map tx))/\∀ {vb:uz},FT.lookup vb=O->kK kvs (uJ vb)=O:=by
 let#[kvs,j,h,k]:=h;let a:∀p∈FT,(qa p.1,p.2.map qa)∈oP:=by decide +kernel
 refine#[kvs,j,λ{vb fs} e=>?_,λ{vb} e=>k _ λz=>?_]
 .obtain⟨b,d,c⟩:=h _ (a _ (Il e));exact#[b,d,λH=>by have:=c H;rw[wE]at this;calc this]
 .let g:oP.map (·.1)=(FT.map (·.1)).map qa:=by decide +kernel
  rw[g]at z;let#[y,i,c]:=vJ.mp z;obtain rfl:y=vb:=R9 Array.toList (R9 Str.cps c);let#[q,f,Z]:=vJ.mp i;rw[List.lookup_eq_none_iff]at e;calc Sa (e q f) {}
def Zru:E4 (tx s!"..") [tx vS,tx vR,tx yk]=Y:=by show E4 (tx s!"..") ([vS,vR,yk].map tx)=Y;rw[Fi];decide
def R3 {α:Type}{xs:List α}{i:Nat}{x:α}(h:xs[i]?=U x):ye xs (i:Int)=U x:=Gh h
def ZmE (n:Nat):(cw n [tx vR]).flatten=(cw n vR).map tx:=by
 induction n with
 | zero=>rfl
 | succ n a=>rw[Bj,Er,Bj,vP,<-a];rfl
def ZrE (h:Mo w K mg v qo):∃kvs,yW w K v kvs/\∀ {a:uz} {y:Str} {f:AD},(qa a,y)∈qo->mg y=U (.ref f)->kK kvs (uJ a)=U (.ref f):=by let#[kvs,g,h]:=h;calc#[kvs,g,λ{a y f} d e=>?_];let#[b,c,i]:=h _ d;cases e.symm.trans i;calc c
def yT:(Fu p).lookup ("own_shelf":Str)=U (.ref p):=by unfold Fu;rw[wN,uM Z]
def Kv {p:AD}{x:Str}(h:¬x="own_shelf"):(Fu p).lookup x=O:=by unfold Fu;rw[wN,uI h];rfl
def yP {w:AI}{K:uH}{H:Hp}{t b f:AD}{c:uz}{g:V}{kvs:List (uQ×V)}{P:V->Hp->Prop}(d:H t=U (.tup [tx c,g]))(i:yW w K b kvs)(e:kK kvs (uJ c)=U (.ref f))(h:P (.ref f) H):pW K (V.ref t) (V.int 0) H λy H2=>∃a kvs k v,V.ref b=V.ref a/\yW w K a kvs/\y=kV k/\kK kvs k=U v/\P v H2:=
 #[t,_,_,_,Z,Z,.mk d,ma,b,kvs,uJ c,_,Z,i,Z,e,h]
def oB (C L:AD):AC:=(eZ C L)
def Zpk (c:lA K C (oB C L)):exmOne K (.ref C) (.ref C)=U Y:=M9 c c (by simp[oB,DO]) (by simp[oB,DO])
def IL {H:Hp}{d b:AD}{kvs:List (uQ×V)}{o:HO}(e:H d=U (.dK kvs))(h:H b=U o)(n:∀kvs,o≠.dK kvs):b∉[d]:=λz=>by rw[vI.mp z,e]at h;calc n _ (cx h).symm
def Zrf (f:H p=U (.ins C dx fs))(c:we [d] H H')(e:H d=U (.dK kvs)):H' p=U (.ins C dx fs):=c _ _ f (IL e f λ_ z=>by cases z) Z
def Zub {a:Ad}{H:Hp}{m:uz}{s r:Kp}(st:kH a.c_NM H s.p s.la s.da s.l m s.ds)(f:Nw H r.p)(c:Nw H r.la)(b:Nw H r.da):Cv s r:=by let#[#[_,_,g],#[_,e],_,d]:=Dg st;calc#[f.ne g Z,c.ne e Z,b.ne e Z,c.ne d Z,b.ne d Z]
def Kb (st:kH C H q la da l m ds)(h:H b=U o)(n:(∃kvs,o=.dK kvs)\/∃D c fs,o=.ins D c fs/\fs.lookup ("own_text":Str)=O):b∉[q,da]:=by
 let#[_,#[_,_],_,d]:=Dg st;let#[e,a]:=id st.fld;simp only[vg,xD,or_false,not_or];rcases n with⟨kvs,rfl⟩|⟨D,c,fs,rfl,z⟩
 .exact#[λz=>(by rw[z,a]at h;cases h),λz=>(by rw[z,d]at h;cases h)]
 .refine#[Zre "own_text" h a ?_,λz=>by rw[z,d]at h;cases h];rw[z,B8];calc λz=>by cases z
def Zpm (h:lV a H dk p dA m F)(st:kH a.c_NM H q la da l m' ds)(c:we [q,da] H H'):(∃b,H' dk=U (.ins a.c_NY b (Fu p)))/\(∃b,H' p=U (.ins a.c_NK b (DE m dA)))/\H' dA=U (.dK (mG F)):=by let#[#[b,f],#[d,g],dd,_]:=h;calc#[#[b,c _ _ f (Kb st f (.inr #[_,_,_,Z,Kv nofun])) Z],#[d,c _ _ g (Kb st g (.inr #[_,_,_,Z,wZ])) Z],c _ _ dd (Kb st dd (.inl #[_,Z])) Z]
def lV.l (h:lV a H dk p dA m F)(s:lJ H H'):lV a H' dk p dA m F:=let ⟨⟨dx,f⟩,sh⟩:=h;#[#[dx,s _ _ f Z],sh.l s]
def Ob (h:vX n=Y):n≠[]/\⇑n<=8/\(n.all λc=>vA.contains c)=Y:=by let a:=yj h;unfold vX wv at h;rw[vW,vW,R4,R4]at h;calc#[h.2,a,h.1.2]
def Zmm {F:List Kp}(f:∀r∈F,vX r.n=Y)(g:⇑F<=900):⇑(xx (F.map (·.n)))<=1000/\((xx (F.map (·.n))).map fu).sum<=100000/\∀w∈xx (F.map (·.n)),w≠[]:=by
 let a:∀w∈xx (F.map (·.n)),vX w=Y:=λw b=>by let#[t,e,Z]:=vJ.mp ((Bq _).mem_iff.mp b);exact f t e
 refine#[by rw[(Bq _).length_eq,uO];nofun,u8 (Gw (c:=8) λx d=>?_) ?_,λw b=>(Ob (a w b)).1]
 .obtain⟨w,b,rfl⟩:=vJ.mp d;exact yj (a w b)
 .rw[uO,(Bq _).length_eq,uO];nofun
def PD (a:1<=⇑w)(c:⇑w<=8)(h:∀x∈w,x∈vA):vX w=Y:=by unfold vX wv;rw[vW,vW,R4,R4,xT];calc#[#[∅,λx b=>C7.mpr (h x b)],λe=>by rw[e]at a;calc Sa a ⋯]
def Ie (b:0<=i)(c:i<26):vA.getD i.toNat 0∈vA/\ye vA i=U (vA.getD i.toNat 0):=by
 let#[j,Z]:=Int.eq_ofNat_of_zero_le b;let a:j<⇑vA:=by show j<26;nofun
 let e:vA[j]?=U (vA.getD j 0):=by rw[wj,vK a];rfl
 rw[Gy];calc#[wL e,Gh e]
def Zmy (h:c∈m):ve [c] m:=by let#[i,a]:=List.mem_iff_getElem?.mp h;let b:=(vT.mp a).1;calc#[i,by show i+1<=_;nofun,?_];rw[Gp b,(vT.mp a).2];rfl
def QJ (e:x=y)(h:Q (.bl Y) H):nv K J (.int x) (.int y) H Q:=.inl #[Z,by rw[uI vC,R5 (by rw[e])];calc h]
def Rp (e:x≠y)(h:Q (.bl J) H):nv K J (.int x) (.int y) H Q:=.inl #[Z,by rw[uI vC,R6 (λz=>e (V.int.inj z))];calc h]
def Kx (X:List AD)(H a:Hp):Prop:=∀b∈X,∀o,H b=U o->zt o=J->a b=U o
def Kx.trans (h:Kx X H H1)(g:Kx X H1 H2):Kx X H H2:=λb a o e t=>g b a o (h b a o e t) t
def sq_x (h:vO K H b xs):∃e:List AD,(∀c∈e,∃o,H c=U o/\zt o=J)/\∀a,Kx e H a->vO K a b xs:=by
 rcases h with (h | ⟨o,h⟩) | h
 .exact#[[b],λc d=>by rw[vI.mp d];calc#[_,h,Z],λa k=>.inl (.inl (k b {} _ h Z))]
 .exact#[[b],λc d=>by rw[vI.mp d];calc#[_,h,Z],λa k=>.inl (.inr #[o,k b {} _ h Z])]
 .exact#[[],{},λa _=>.inr h]
def Oh (h:Q (.bl J) H):nv K Y (tx x) (tx x) H Q:=.inl #[Z,by rw[uM Z,CA,R5 Z];calc h]
def Zpc (h:FT.lookup vb=U fs)(d:yk∈fs):fs=[vS,vR,yk]:=by
 let a:∀p∈FT,yk∈p.2->p.2=[vS,vR,yk]:=by decide
 calc a _ (Il h) d
def Zmp (us:uG):(cc ⇑us).map (λi=>vo (us.getD i []))=us.map vo:=by apply z5 {};intro i b a;simp[wj,vK (show i<⇑us by simpa using a)]
noncomputable def Ln.glue (h:Ln ws):⇑(glue [32] ws)<=100000:=by
 calc u8 (IX [32] ws) ?_;have:=Gw (c:=100) (xs:=ws.map fu) λx a=>by let#[w,b,Z]:=vJ.mp a;exact h.w100 w b
 have:=h.n50;rw[uO]at *;rw[xf]
 nofun
inductive Mt (H1:Hp)(b:AD)(pd:AD)(ws:uG)(m:uz)(i:Nat)(σ:St)(H':Hp):Prop
 | mk:∀(v3:Option V) (kvs:List (uQ×V)),σ=[U (.ref b),U (tx m),U (.ref pd),v3]->ky H1 H'->H' pd=U (.dK kvs)->i<=⇑ws->⇑kvs<=i->(∀w,(kK kvs (uJ w)).isSome=Y↔w∈ws.take i)->Mt H1 b pd ws m i σ H'
def XV.same (x:XV a C fs E H)(s:ky H H'):XV a C fs E H':=x.l s.l
def pO.same (h:pO a E H k x y)(s:ky H H'):pO a E H' k x y:=by
 match k,h with
 | 0,h=>exact XV.same h s
 | 1,h=>exact XV.same h s
 | 2,h=>exact XV.same h s
 | 3,h=>calc XV.same h s
def Bt.same (h:Bt a m E H ws)(s:ky H H'):Bt a m E H' ws:=by
 cases h with
 | bad g b f e=>exact .bad g b f (e.same s)
 | no g q=>calc .no g λc k x y p w d=>(q c k x y p w d).same s
def RF.same (h:RF a E H F n P)(s:ky H H')(k:∀r,P r->P' r):RF a E H' F n P':=h.imp (λz=>z.same s) λr _ _=>k r
def wS.same (h:wS a H p dA m F Q E vb gs)(s:ky H H1):wS a H1 p dA m F Q E vb gs:=by
 cases h with
 | strip i q x=>exact .strip i (q.same s) λr l e=>(x r l e).same s
 | take q=>exact .take (q.same s λ_=>id)
 | put i q=>exact .put i (q.same s λr z=>z.imp (λy=>#[y.1,y.2.same s]) λ⟨d,k,g,n,o,f⟩=>#[d,k,g,n,o,f.same s])
 | drop q=>exact .drop (q.same s λr z=>#[z.1,z.2.same s])
 | back q=>exact .back (q.same s λr z=>z.imp (λy=>#[y.1,y.2.same s]) λ⟨d,k,g,f⟩=>#[d,k,g,f.same s])
 | «from» i j q=>exact .from i j (q.imp (λz=>#[z.1,z.2.same s]) λz=>#[z.1,z.2.same s])
 | names q=>exact .names λc b=>q c (s.trans b)
 | text q=>exact .text (q.same s λr z c b=>z c (s.trans b))
 | lacks q=>exact .lacks (q.same s λr z c b=>z c (s.trans b))
 | ask i q=>exact .ask i (q.same s λr z=>#[z.1,z.2.same s])
 | often i q=>exact .often i (q.same s λr z=>#[z.1,z.2.same s])
 | most q=>exact .most (q.same s λr z=>#[z.1,z.2.same s])
 | lone q=>exact .lone (q.same s λr z=>#[z.1,z.2.same s])
 | rooms q=>exact .rooms (q.same s λ_=>id)
 | near q=>exact .near (q.same s λ_=>id)
 | ring i j q=>exact .ring i j (q.same s)
 | samev i j q=>calc .samev i j (q.imp (λz=>#[z.1,z.2.same s]) λz=>#[z.1,z.2.1,z.2.2.same s])
def XC.mono (x:XC C fs E H)(b:∀c e a,E c e a->E' c e a):XC C fs E' H:=λe a s h=>b _ _ _ (x e a s h)
def RF.mono (h:RF a E H F n P)(d:∀c e b,E c e b->E' c e b)(k:∀r,P r->P' r):RF a E' H F n P':=h.imp (λz=>XC.mono z d) λr _ _=>k r
def Bt.mono (h:Bt a m E H ws)(f:∀c e b,E c e b->E' c e b):Bt a m E' H ws:=by
 let d:∀ {C fs},XV a C fs E H->XV a C fs E' H:=λx e b s t y=>f _ _ _ (x e b s t y);cases h with
 | bad g i o n=>exact .bad g i o (n.mono f)
 | no g q=>
  refine .no g λj k x y p w l=>?_
  match k,q j k x y p w l with
  | 0,h=>exact d h
  | 1,h=>exact d h
  | 2,h=>exact d h
  | 3,h=>calc d h
def wS.mono (h:wS a H p dA m F Q E vb gs)(f:∀v d,Q v d->Q' v d)(b:∀c e d,E c e d->E' c e d):wS a H p dA m F Q' E' vb gs:=by
 let D:∀ {C},zx C E H->zx C E' H:=λx e d s y=>b _ _ _ (x e d s y);cases h with
 | strip i q x=>exact .strip i (λW r d G K I N S T c t L=>f _ _ (q W r d G K I N S T c t L)) λr V e=>XC.mono (x r V e) b
 | take q=>exact .take (q.mono b λ_=>id)
 | put i q=>exact .put i (q.mono b λr z=>z.imp (λy=>#[y.1,XC.mono y.2 b]) λ⟨u,B,A,P,M,w⟩=>#[u,B,A,P,M,λo l d c t n k=>f _ _ (w o l d c t n k)])
 | drop q=>exact .drop (q.mono b λr z=>#[z.1,D z.2])
 | back q=>exact .back (q.mono b λr z=>z.imp (λy=>#[y.1,D y.2]) λ⟨u,B,A,w⟩=>#[u,B,A,λo l d c t n k=>f _ _ (w o l d c t n k)])
 | «from» i j q=>exact .from i j (q.imp (λz=>#[z.1,XC.mono z.2 b]) λz=>#[z.1,z.2.mono b])
 | names q=>exact .names λd g=>f _ _ (q d g)
 | text q=>exact .text (q.mono b λr z d g=>f _ _ (z d g))
 | lacks q=>exact .lacks (q.mono b λr z d g=>f _ _ (z d g))
 | ask i q=>exact .ask i (q.mono b λr z=>#[z.1,XC.mono z.2 b])
 | often i q=>exact .often i (q.mono b λr z=>#[z.1,XC.mono z.2 b])
 | most q=>exact .most (q.mono b λr z=>#[z.1,z.2.mono b])
 | lone q=>exact .lone (q.mono b λr z=>#[z.1,z.2.mono b])
 | rooms q=>exact .rooms (q.mono b λ_=>id)
 | near q=>exact .near (q.mono b λ_=>id)
 | ring i j q=>exact .ring i j (q.mono b)
 | samev i j q=>calc .samev i j (q.imp (λz=>#[z.1,z.2.mono b]) λz=>#[z.1,z.2.1,z.2.2.mono b])
def nQ.mono (h:nQ a H p dA m F Q E ws)(k:∀v b,Q v b->Q' v b)(d:∀c e b,E c e b->E' c e b):nQ a H p dA m F Q' E' ws:=
 h.imp (λz=>#[z.1,z.2.mono d]) λ⟨n,f,i,g,j,l⟩=>#[n,f,i,g,j,l.mono k d]
def Lx:uG->Prop
 | []=>True
 | w::r=>(32∉w/\⇑w<=100)/\Lx r
def Ln.of:∀ {ws:uG},ws≠[]->⇑ws<=50->Lx ws->Ln ws:=λ{ws} d c b=>by
 have:∀ws,Lx ws->∀w∈ws,32∉w/\⇑w<=100:=λws=>by
  induction ws with
  | nil=>intro _ w h;cases h
  | cons x r e=>
   intro h w a;rcases vg.mp a with rfl | z
   .exact h.1
   .exact e h.2 w z
 calc#[d,c,λw a=>(this ws b w a).2,λw a=>(this ws b w a).1]
def Lw (w:uz):Prop:=32∉w/\⇑w<=100
def Oe {w:uz}{c:Nat}(h:(w.all λc=>vA.contains c)=Y)(a:vA.contains c=J):c∉w:=λz=>by have:=xT.mp h c z;rw[a]at this;cases this
structure Wz (w f:uz)(v:V):Prop where
 told:zZ w f=Y
 val:vo w=v
 num:IM w
 lw:Lw w
def ZoV (a:w≠[])(h:(w.all λc=>vA.contains c)=Y):nZ w=J:=by
 unfold nZ;rw[uI a];split
 .rfl
 .rw[uI];intro z;cases w with
  | nil=>exact a Z
  | cons c r=>
   rw[zW,vW]at h z;have:∀x∈vA,Ip.contains x=J:=by decide
   rw[this c (C7.mp h.1)]at z;cases z.1
def Ez (b:w≠[])(h:(w.all λc=>vA.contains c)=Y)(l:⇑w<=100):Wz w vR (tx w):=by
 let a:=ZoV b h;let d:w≠[45]:=λz=>Oe h (c:=45) ⋯ (by rw[z];simp);refine#[?_,?_,λz=>Sa z (by rw[a];decide),Oe h ⋯,l]
 .show oR w=Y;unfold oR;rw[uI d,uI b];exact h
 .unfold vo;rw[uI (by rw[a];decide),uI d]
def xY (h:vX n=Y):Wz n vS (tx n):=by let#[a,l,b]:=Ob h;let k:=Ez a b ∅;calc#[h,k.val,k.num,k.lw]
def Dk (e:fv (toString k)=#[↑w])(a:0<=k)(c:k<10 ^ 10)(b:nZ w=Y)(l:Lw w):Wz w FB (.int k):=by let r:=PySem.W.KIN.num_reads a c;rw[e]at r;calc#[b,?_,λ_=>by rw[r];rfl,l];unfold vo;rw[uM b,r];rfl
def FP (h:FT.lookup vb=U fs):CK (vb::us)=zR us (yc fs ⇑us):=by show (match FT.lookup vb with | none=>J | some fs=>zR us (yc fs ⇑us))=_;rw[h]
def Zmr (h:FT.lookup vb=O):CK (vb::us)=J:=by show (match FT.lookup vb with | none=>J | some a=>zR us (yc a ⇑us))=_;rw[h]
def Gj:Wz [45] vR (tx []):=#[Z,Z,λz=>Sa z ⋯,⋯,⋯]
def Ec (h:FT.lookup vb=U fs):Lw vb:=by
 let a:∀p∈FT,32∉p.1/\⇑p.1<=100:=by decide
 calc a _ (Il h)
section
def xP.of0 (e:line=glue [32] ws)(l:Ln ws)(h:CK ws=J):xP a p dA m F line s!"line":=#[ws,0,_,e,l,Z,λH Q E b x=>.inl #[h,(x [] #[Z,Z]).xc b]]
def xP.of1 (g:FT.lookup vb=U [f])(n:f≠yk)(c:Wz u f v)(j:(CL a)[i]?=U C)(l:Fd i fs d)(h:∀H Q E,TT a H->XV a C fs E H->wS a H p dA m F Q E vb [v]){b:uz}(e:b=vb++32::u):xP a p dA m F b d:=by
 refine#[[vb,u],i,C,by rw[e,zn];rfl,#[{},by show 2<=50;decide,?_,?_],j,λH Q E k x=>.inr #[vb,[u],Z,?_,?_,?_]]
 .simp only[vg,xD,or_false,forall_eq_or_imp,forall_eq];exact#[(Ec g).2,c.lw.2]
 .simp only[vg,xD,or_false,forall_eq_or_imp,forall_eq];exact#[(Ec g).1,c.lw.1]
 .rw[FP g];show zR [u] (yc [f] 1)=Y;rw[show yc [f] 1=[f] from uI (by simp[uZ n])];show (zZ u f&&Y)=Y;rw[c.told];rfl
 .simp only[vI,forall_eq];exact c.num
 .rw[El,c.val];calc h H Q E k (x fs l)
def xP.of2 (k:FT.lookup vb=U [f,g])(q:yk∉[f,g])(j:Wz u f v)(c:Wz w g v')(l:(CL a)[i]?=U C)(o:Fd i fs d)(h:∀H Q E,TT a H->XV a C fs E H->wS a H p dA m F Q E vb [v,v']){b:uz}(e:b=vb++32::(u++32::w)):xP a p dA m F b d:=by
 refine#[[vb,u,w],i,C,by rw[e,zn,zn];rfl,#[{},by show 3<=50;decide,?_,?_],l,λH Q E n x=>.inr #[vb,[u,w],Z,?_,?_,?_]]
 .simp only[vg,xD,or_false,forall_eq_or_imp,forall_eq];exact#[(Ec k).2,j.lw.2,c.lw.2]
 .simp only[vg,xD,or_false,forall_eq_or_imp,forall_eq];exact#[(Ec k).1,j.lw.1,c.lw.1]
 .rw[FP k];show zR [u,w] (yc [f,g] 2)=Y;rw[show yc [f,g] 2=[f,g] from uI q];show (zZ u f&&(zZ w g&&Y))=Y;rw[j.told,c.told];rfl
 .simp only[vg,xD,or_false,forall_eq_or_imp,forall_eq];exact#[j.num,c.num]
 .rw[vP,El,j.val,c.val];calc h H Q E n (x fs o)
def xP.ofL {n:uz}{us vs:uG}(y:vX n=Y)(q:1<=⇑us)(u:⇑us<=40)(r:∀i w,us[i]?=U w->Wz w vR (tx (vs.getD i [])))(t:⇑vs=⇑us)(z:(CL a)[i]?=U C)(h:∀H Q E,TT a H->(∀fs,Fd i fs d->XV a C fs E H)->wS a H p dA m F Q E zi (tx n::vs.map tx)){b:uz}(e:b=glue [32] (zi::n::us)):xP a p dA m F b d:=by
 let g:=xY y;let o:∀w∈us,∃v,Wz w vR v:=λw f=>by let#[j,l]:=List.mem_iff_getElem?.mp f;exact#[_,r j w l]
 refine#[zi::n::us,i,C,e,#[{},by rw[vQ,vQ];nofun,?_,?_],z,λH Q E A x=>.inr #[zi,n::us,Z,?_,?_,?_]]
 .simp only[vg,forall_eq_or_imp];exact#[⋯,g.lw.2,λw f=>(o w f).choose_spec.lw.2]
 .simp only[vg,forall_eq_or_imp];exact#[⋯,g.lw.1,λw f=>(o w f).choose_spec.lw.1]
 .show zR (n::us) (yc [vS,vR,yk] (⇑us+1))=Y;rw[show yc [vS,vR,yk] (⇑us+1)=vS::cw ⇑us vR by unfold yc;rw[uM {}];obtain⟨k,B⟩:∃k,⇑us=k+1:=#[⇑us-1,∅];rw[B];rfl]
  unfold zR;rw[uM (by rw[vQ,vQ,Fe]),xT];intro j l;rw[xM,vQ,Fe]at l;cases j with
  | zero=>exact g.told
  | succ j=>
   let c:j<⇑us:=by nofun
   show zZ (us.getD j []) ((cw ⇑us vR).getD j [])=Y;rw[wj,wj,List.getElem?_replicate,uM c,vK c];exact(r j _ (vK c)).told
 .simp only[vg,forall_eq_or_imp];exact#[g.num,λw f=>(o w f).choose_spec.num]
 .let e:us.map vo=vs.map tx:=by apply z5 (by rw[uO,uO,t]);intro j q s;rw[uO]at q s;rw[List.getElem_map,List.getElem_map,(r j _ (vK q)).val,wj,vK s];rfl
  rw[vP,g.val,e];calc h H Q E A x
end
section
def K8.let (h:K8 m c):vA.contains c=Y/\c∈m/\Bk m:=by
 let#[f,e]:=h;have:∀m∈KM,(∀c∈m,vA.contains c=Y)/\m.Pairwise (· < ·)/\1<=⇑m/\⇑m<=4:=by decide +kernel
 let#[d,g,b,a]:=this m f;let cm:=List.mem_of_mem_head? e;calc#[d c cm,cm,Zrb b a (λc i=>C7.mp (d c i)) g,b,a]
def K8.w (h:K8 m c):119∉m:=by
 have:∀m∈KM,119∉m:=by decide
 calc this m h.mem
def oZ (h:vA.contains c=Y):Wz [c] vR (tx [c]):=Ez {} (by rw[zW,h];rfl) (by show 1<=100;decide)
def pB:Wz [119] vR (tx [119]):=oZ ⋯
def wd_9:Wz [57] FB (.int 9):=Dk Z ⋯ ⋯ Z #[⋯,⋯]
def yF.rf (st:yF c one two non F){E:XK}{H:Hp}(tk:TT a H)(x:XV a a.c_MY (wa "name" [tx non]) E H){P:Kp->Prop}:RF a E H F non P:=by
 cases st with
 | mk e _ _ h _ _ _ f g _ _ d=>
  calc#[d,.inl #[λr b=>?_,x.xc tk]];simp only[vg,xD,or_false]at b;rcases b with rfl | rfl
  .rw[e];exact f
  .rw[h];calc g
def yF.nms (st:yF c one two non F):vX one=Y/\vX two=Y/\vX non=Y:=by cases st with | mk _ _ _ _ _ _ _ _ _ b a d=>calc⟨b,a,d⟩
def Zui (h:vX n=Y):Fd 7 (wa "name" [tx n]) (s!"no "++n):=#[n,by have:=yj h;nofun,Z,Z]
def Rh (h:vX n=Y):Fd 6 (wa "name" [tx n]) (s!"there "++n):=#[n,by have:=yj h;nofun,Z,Z]
end
section
noncomputable def nA (a b non:uz)(c:Nat):uG:=[[],[32],s!"names ",s!" names",s!"Names",s!"names x",s!"strip",s!"strip A",(((s!"strip "++a)++[32])++non)]
noncomputable def nB (a b non:uz)(c:Nat):uG:=[s!"strip a1",s!"strip abcdefghi",(s!"put "++a),(((s!"put  "++a)++[32])++[c]),((s!"put "++a)++s!" A")]
noncomputable def nC (a b non:uz)(c:Nat):uG:=[(((((s!"put "++a)++[32])++[c])++[32])++[c]),(s!"from "++non),((s!"most "++a)++s!" 01"),((s!"most "++a)++s!" -1")]
noncomputable def nD (a b non:uz)(c:Nat):uG:=[((s!"most "++a)++s!" x"),((s!"most "++a)++s!" 1000"),((s!"lone "++a)++s!" +0"),((s!"ask "++a)++s!" a--")]
noncomputable def nE (a b non:uz)(c:Nat):uG:=[(s!"same "++[c]),s!"ring",((s!"rooms "++a)++s!" 1"),s!"near",((s!"lacks "++b)++s!" -"),((s!"most "++a)++s!" -")]
noncomputable def nW (a b non:uz)(c:Nat):List uG:=[[[]],[[],[]],[s!"names",[]],[[],s!"names"],[s!"Names"],[s!"names",[120]],[s!"strip"],[s!"strip",[65]],[s!"strip",a,non],[s!"strip",s!"a1"],[s!"strip",s!"abcdefghi"],[s!"put",a],[s!"put",[],a,[c]],[s!"put",a,[65]],[s!"put",a,[c],[c]],[s!"from",non],[s!"most",a,s!"01"],[s!"most",a,s!"-1"],[s!"most",a,[120]],[s!"most",a,s!"1000"],[s!"lone",a,s!"+0"],[s!"ask",a,s!"a--"],[s!"same",[c]],[s!"ring"],[s!"rooms",a,[49]],[s!"near"],[s!"lacks",b,[45]],[s!"most",a,[45]]]
def Zud (b:Wz one vS (tx one))(e:Wz two vS (tx two))(a:Wz non vS (tx non))(f:Wz [c] vR (tx [c])):∀ws∈nW one two non c,Ln ws/\CK ws=J:=by
 let d:∀ {l:uz},R (32∉l/\⇑l<=100)=Y->Lw l:=λ{l} h=>R7 (p:=32∉l/\⇑l<=100) h;simp only[nW,vg,xD,or_false,forall_eq_or_imp,forall_eq];repeat' apply And.intro
 all_goals first
  | exact .of {} (vk Z) (by repeat' first | calc trivial | calc b.lw | calc e.lw | calc a.lw | calc f.lw | calc d Z | calc#[?_,?_])
  | rfl
  | (show (vX one&&(J&&Y))=J;rw[zg,CF])
def Zrt (e:Wz one vS (tx one))(g:Wz two vS (tx two))(b:Wz non vS (tx non))(h:Wz [c] vR (tx [c])):∀x∈nA one two non c++nB one two non c++nC one two non c++nD one two non c++nE one two non c,xP a p dA m F x s!"line":=by rw[show nA one two non c++nB one two non c++nC one two non c++nD one two non c++nE one two non c=(nW one two non c).map (glue [32]) by simp[nA,nB,nC,nD,nE,nW,glue]];intro x d;let#[f,i,Z]:=vJ.mp d;have:=Zud e g b h f i;calc .of0 Z this.1 this.2
def Ml (h:vA.contains c=Y)(n:Int):((li [c] n).all λc=>vA.contains c)=Y:=by
 unfold li;generalize n.toNat=k;induction k with
 | zero=>rfl
 | succ k a=>rw[Bj,Er,List.all_append,a,zW,h];rfl
def Kj (h:most<(⇑(li [c] k):Int)):wv (li [c] k) m most=J:=by unfold wv;rw[R6 ∅,zg]
def Zlx (st:yF c one two non F)(C:K8 m c):∀x∈[(((s!"put "++one)++s!" w"),s!"word w"),(((s!"put "++one)++s!" -"),s!"word "),(((((s!"put "++one)++[32])++[c])++[c]),((s!"word "++[c])++[c])),((s!"drop "++two),s!"bare"),((s!"back "++two),s!"none"),(((s!"ask "++one)++s!" w"),s!"word w"),((((s!"often "++one)++[32])++(li [c] 61)),(s!"word "++(li [c] 61))),(((s!"most "++two)++s!" 1"),s!"length 1"),(((s!"most "++one)++s!" 0"),s!"length 0"),(((s!"most "++one)++s!" 2"),s!"length 2"),(((s!"most "++one)++s!" 100"),s!"length 100"),(((s!"lone "++one)++s!" 999"),s!"place 999"),(((s!"lone "++one)++s!" 1"),s!"place 1"),(((s!"lone "++two)++s!" 0"),s!"place 0"),(s!"ring -",s!"ring "),(s!"ring w",s!"ring w"),(((s!"same "++[c])++s!" -"),s!"ring "),(s!"same w -",s!"ring w"),((s!"ring "++(li [c] 21)),(s!"ring "++(li [c] 21)))],xP a p dA m F x.1 x.2:=by
 let#[d,j,_]:=st.nms;let f:=xY d;let t:=xY j;let#[q,cm,I]:=C.let;let G:=oZ q;let K:m.contains 119=J:=by rw[Cw];exact λz=>C.w (C7.mp z)
 let h:∀ {k:Int},wv [119] m k=J:=λ{k}=>by unfold wv;rw[zW,K,zg,CF]
 let u:zf [119] m=J:=by unfold zf;rw[h];rfl
 let B:zf ([c]++[c]) m=J:=by unfold zf wv;rfl
 let n:x5 m []=Y:=by unfold x5;rw[R5 Z,Bool.or_true]
 let o:x5 m [119]=Y:=by unfold x5;rw[h];rfl
 let v:x5 m (li [c] 21)=Y:=by unfold x5;rw[show wv (li [c] 21) m 20=J from Kj (k:=21) (Int.ofNat_lt.mpr (vk Z))];rfl
 let A:x5 m [c]=J:=by unfold x5 wv;rw[zW,C7.mpr cm];rfl
 cases st with
 | @mk g s e l _ r y D _ _ _ _ _ _=>
 simp only[vg,xD,or_false,forall_eq_or_imp,forall_eq];exact⟨.of2 (i:=8) Z ⋯ f pB Z ⟨[119],vk Z,Z,Z⟩ (λH Q E b x=>.put (vk Z) ⟨d,.inr ⟨g,{},e,.inl ⟨u,x.xc b⟩⟩⟩) {},
  .of2 (i:=8) Z ⋯ f Gj Z #[[],vk Z,Z,Z] (λH Q E b x=>.put (vk Z) #[d,.inr #[g,{},e,.inl #[Z,x.xc b]]]) {},
  .of2 (i:=8) Z ⋯ f (Ez (w:=[c]++[c]) (List.cons_ne_nil _ _) (by show ([c,c].all λc=>vA.contains c)=Y;rw[zW,zW,q];rfl) (by show 2<=100;decide)) Z #[([c]++[c]),vk Z,Z,Z] (λH Q E b x=>.put (vk Z) #[d,.inr #[g,{},e,.inl #[B,x.xc b]]]) {},
  .of1 (i:=1) Z ⋯ t Z #[Z,Z] (λH Q E b x=>.drop #[j,.inr #[s,{},r,y,x.xc b]]) {},
  .of1 (i:=2) Z ⋯ t Z #[Z,Z] (λH Q E b x=>.back #[j,.inr #[s,{},r,.inl #[D,x.xc b]]]) {},
  .of2 (i:=8) Z ⋯ f pB Z #[[119],vk Z,Z,Z] (λH Q E b x=>.ask (vk Z) #[d,.inr #[g,{},e,h,x.xc b]]) {},
  .of2 (i:=8) Z ⋯ f (Ez (w:=(li [c] 61)) (List.cons_ne_nil _ _) (Ml q _) (vk Z)) Z #[(li [c] 61),vk Z,Z,Z] (λH Q E b x=>.often (vk Z) #[d,.inr #[g,{},e,Kj (k:=61) (Int.ofNat_lt.mpr (vk Z)),x.xc b]]) {},
  .of2 (i:=9) Z ⋯ t (Dk (w:=[49]) (k:=1) Z ⋯ ⋯ Z #[⋯,⋯]) Z #[1,[49],Z,⋯,⋯,Z,Z] (λH Q E b x=>.most (k:=1) #[j,.inr #[s,{},r,by rw[y];show ¬(1<=(1:Int)/\(1:Int)<=((0:Nat):Int));decide,x.xc b]]) {},
  .of2 (i:=9) Z ⋯ f (Dk (w:=[48]) (k:=0) Z ⋯ ⋯ Z #[⋯,⋯]) Z #[0,[48],Z,⋯,⋯,Z,Z] (λH Q E b x=>.most (k:=0) #[d,.inr #[g,{},e,by rw[l];show ¬(1<=(0:Int)/\(0:Int)<=((1:Nat):Int));decide,x.xc b]]) {},
  .of2 (i:=9) Z ⋯ f (Dk (w:=[50]) (k:=2) Z ⋯ ⋯ Z #[⋯,⋯]) Z #[2,[50],Z,⋯,⋯,Z,Z] (λH Q E b x=>.most (k:=2) #[d,.inr #[g,{},e,by rw[l];show ¬(1<=(2:Int)/\(2:Int)<=((1:Nat):Int));decide,x.xc b]]) {},
  .of2 (i:=9) Z ⋯ f (Dk (w:=s!"100") (k:=100) Z ⋯ ⋯ Z #[⋯,⋯]) Z #[100,s!"100",Z,⋯,⋯,Z,Z] (λH Q E b x=>.most (k:=100) #[d,.inr #[g,{},e,by rw[l];show ¬(1<=(100:Int)/\(100:Int)<=((1:Nat):Int));decide,x.xc b]]) {},
  .of2 (i:=10) Z ⋯ f (Dk (w:=s!"999") (k:=999) Z ⋯ ⋯ Z #[⋯,⋯]) Z #[999,s!"999",Z,⋯,⋯,Z,Z] (λH Q E b x=>.lone (k:=999) #[d,.inr #[g,{},e,by rw[l];show ¬(0<=(999:Int)/\(999:Int)<=((1:Nat):Int)-1);decide,x.xc b]]) {},
  .of2 (i:=10) Z ⋯ f (Dk (w:=[49]) (k:=1) Z ⋯ ⋯ Z #[⋯,⋯]) Z #[1,[49],Z,⋯,⋯,Z,Z] (λH Q E b x=>.lone (k:=1) #[d,.inr #[g,{},e,by rw[l];show ¬(0<=(1:Int)/\(1:Int)<=((1:Nat):Int)-1);decide,x.xc b]]) {},
  .of2 (i:=10) Z ⋯ t (Dk (w:=[48]) (k:=0) Z ⋯ ⋯ Z #[⋯,⋯]) Z #[0,[48],Z,⋯,⋯,Z,Z] (λH Q E b x=>.lone (k:=0) #[j,.inr #[s,{},r,by rw[y];show ¬(0<=(0:Int)/\(0:Int)<=((0:Nat):Int)-1);decide,x.xc b]]) {},
  .of1 (i:=11) Z ⋯ Gj Z #[[],vk Z,Z,Z] (λH Q E b x=>.ring (vk Z) n (x.xc b)) {},
  .of1 (i:=11) Z ⋯ pB Z #[[119],vk Z,Z,Z] (λH Q E b x=>.ring (vk Z) o (x.xc b)) {},
  .of2 (i:=11) Z ⋯ G Gj Z #[[],vk Z,Z,Z] (λH Q E b x=>.samev (vk Z) (vk Z) (.inr #[A,n,x.xc b])) {},
  .of2 (i:=11) Z ⋯ pB Gj Z #[[119],vk Z,Z,Z] (λH Q E b x=>.samev (vk Z) (vk Z) (.inl #[o,x.xc b])) {},
  .of1 (i:=11) Z ⋯ (Ez (w:=(li [c] 21)) (List.cons_ne_nil _ _) (Ml q _) (vk Z)) Z ⟨(li [c] 21),vk Z,Z,Z⟩ (λH Q E b x=>.ring (vk Z) v (x.xc b)) {}⟩
def zG:List (uz×uz):=[(K7,[]),(qh,s!" w"),(FW,[]),(GK,[]),(Dt,[]),(Dw,[]),(tG,s!" w"),(LP,s!" w"),(Km,s!" 9"),(Kt,s!" 0"),(L8,[]),(La,[])]
def Re (st:yF c one two non F):∀x∈zG,xP a p dA m F (x.1++32::(non++x.2)) (s!"no "++non):=by let#[_,_,j]:=st.nms;let n:=xY j;let g:=Zui j;let b:∀ {f:uz},FT.lookup f=U [vS]->(∀H Q E,RF a E H F non (λ_=>False)->wS a H p dA m F Q E f [tx non])->xP a p dA m F (f++32::(non++[])) (s!"no "++non):=λh k=>.of1 h ⋯ n Z g (λH Q E e x=>k H Q E (st.rf e x)) (by rw[zd]);let i:∀ {f:uz},FT.lookup f=U [vS,vR]->(∀H Q E,RF a E H F non (λ_=>False)->wS a H p dA m F Q E f [tx non,tx [119]])->xP a p dA m F (f++32::(non++s!" w")) (s!"no "++non):=λh k=>.of2 h ⋯ n pB Z g (λH Q E e x=>k H Q E (st.rf e x)) Z;unfold zG;simp only[vg,xD,or_false,forall_eq_or_imp,forall_eq];let d:∀ {H:Hp} {E:XK} {P:Kp->Prop},RF a E H F non (λ_=>False)->RF a E H F non P:=λh=>h.imp id λ_ _ _ z=>z.elim;calc#[b Z λ_ _ _ r=>.take r,i Z λ_ _ _ r=>.put ⋯ (d r),b Z λ_ _ _ r=>.drop (d r),b Z λ_ _ _ r=>.back (d r),b Z λ_ _ _ r=>.text (d r),b Z λ_ _ _ r=>.lacks (d r),i Z λ_ _ _ r=>.ask ⋯ (d r),i Z λ_ _ _ r=>.often ⋯ (d r),.of2 Z ⋯ n wd_9 Z g (λH Q E e x=>.most (st.rf e x)) Z,.of2 Z ⋯ n (Dk (w:=[48]) (k:=0) Z ⋯ ⋯ Z #[⋯,⋯]) Z g (λH Q E e x=>.lone (k:=0) (st.rf e x)) Z,b Z λ_ _ _ r=>.rooms r,b Z λ_ _ _ r=>.near r]
def Zlv (st:yF c one two non F):xP a p dA m F (s!"strip "++one) (s!"there "++one)/\∀d,vA.contains d=Y->xP a p dA m F (zi++32::(one++32::[d])) (s!"there "++one)/\xP a p dA m F (zi++32::(two++32::[d])) (s!"there "++two):=by
 let#[b,s,v]:=st.nms;cases st with
 | @mk f k o _ _ u _ _ _ z A _ _ _=>
  let q:∀ {n:uz} {d:Nat},vX n=Y->vA.contains d=Y->(∃r∈[f,k],r.n=n)->xP a p dA m [f,k] (zi++32::(n++32::[d])) (s!"there "++n):=λ{n d} i g h=>
   .ofL (us:=[[d]]) (vs:=[[d]]) i (vk Z) (vk Z) (λj w e=>by cases j with | zero=>cases e;calc oZ g | succ j=>cases e) Z Z (λH Q E l x=>.from i (by show 1<=50;decide) (.inl #[h,(x _ (Rh i)).xc l])) (by rw[zn,zn];rfl)
  calc#[.of1 Z ⋯ (xY b) Z (Rh b) (λH Q E l x=>.strip b (λt=>Sa o (t f {})) λr y e=>x.xc l) Z,λd g=>#[q b g #[f,{},o],q s g #[k,{},u]]]
end
def nG.of (p:vs.Perm ws)(h:nG vs m k x y):(k=0/\x∈ws/\y∈ws/\x≠y/\ve x y)\/(mO ws/\((k=1/\¬og ws m [])\/(og ws m []/\∃z,LF ws m [] z/\(k=2/\40<⇑z\/⇑z<=40/\(k=3\/k=4/\∀w∈vF z m,¬Av ws w))))):=by
 let n:og vs m []->og ws m []:=λ⟨k,h⟩=>#[k,λx c b=>h x c ((EZ p _).mpr b)];cases h with
 | inside f=>
  let#[i,j,q,c,o,g,_]:=f;exact .inl #[Z,p.mem_iff.mp (wL c),p.mem_iff.mp (wL q),o,g]
 | endless a e _=>exact .inr #[HV p a,.inl #[Z,λ⟨k,h⟩=>e #[k,λx c b=>h x c ((EZ p _).mp b)]]]
 | long a e d l=>exact .inr #[HV p a,.inr #[n e,_,Ke p d,.inl #[Z,l]]]
 | split a e d l _=>exact .inr #[HV p a,.inr #[n e,_,Ke p d,.inr #[l,.inl Z]]]
 | strip a e d l no=>calc .inr #[HV p a,.inr #[n e,_,Ke p d,.inr #[l,.inr #[Z,λw r b=>no w r ((EZ p _).mpr b)]]]]
noncomputable def KT:List (Nat×Nat×uz):=[(97,98,[]),(99,122,[120]),(112,113,[]),(109,115,s!"no")]
def K9.kt (h:K9 m c d rs):(c,d,rs)∈KT:=by
 let#[b,Z]:=h;let g:∀ {l:uz} {x y:Nat},rs++[d]=l++[y]->c=x->(c,d,rs)=(x,y,l):=λ{l x y} e a=>by let#[i,f]:=List.append_inj' e Z;cases f;rw[a,i]
 unfold KM at b;unfold KT;simp only[vg,xD,or_false]at b ⊢;rcases b with h | h | h | h<;>injection h with e1 a
 .exact .inl (g (l:=[]) a e1)
 .exact .inr (.inl (g (l:=[120]) a e1))
 .exact .inr (.inr (.inl (g (l:=[]) a e1)))
 .exact .inr (.inr (.inr (g (l:=s!"no") a e1)))
def Ik (W:uG):Bool:=W.all λv=>W.all λw=>!mH v w || R (v=w)
def Jv (h:Ik W=Y):mO W:=λv c w b a=>by have:=xT.mp (xT.mp h v c) w b;rw[CB.mpr a,Bool.not_true,Bool.false_or]at this;calc R7 this
noncomputable def w6 (t:Nat×Nat×uz):uG:=[[t.1]++[t.1],[t.2.1]++[t.2.1]]
noncomputable def w7 (t:Nat×Nat×uz):uG:=[[t.1]++[t.2.1],[t.2.1]++[t.1],[t.1]++[t.1],[t.2.1]++[t.2.1]]++t.2.2.map λx=>[x]
def w8 (t:Nat×Nat×uz):uG:=[[t.2.1]++[t.1],li [t.1] 41,li [t.2.1] 41]++t.2.2.map λx=>[x]
noncomputable def mT (t:Nat×Nat×uz):uz:=t.1::(t.2.2++[t.2.1])
def P5 (h:wX l w i)(a:w[j]?=U x):l[i+j]?=U x:=by
 have:=h.2;rw[<-this]at a;rw[Fb]at a;split at a
 .rw[EG]at a;exact a
 .cases a
def Lk (b:mO W)(a:x∈W)(e:y∈W)(d:x≠y)(c:ve x y):False:=d (b x a y e c)
theorem LO {c d:Nat}:∀(n i x:Nat),(EY [c,d] n)[i]?=U x->x=if i % 2=0 then c else d
 | 0,_,_,h=>by cases h
 | n+1,0,_,h=>by cases h;rfl
 | n+1,1,_,h=>by cases h;rfl
 | n+1,i+2,x,h=>by rw[LO n i x h,Nat.add_mod_right]
def ls6 (g:t∈KT){vs:uG}{k:Nat}{x y:uz}(p:vs.Perm (w6 t))(h:nG vs (mT t) k x y):k=1:=by
 let s:mO (w6 t):=Jv ((by decide +kernel:∀t∈KT,Ik (w6 t)=Y) t g);let f:t.1≠t.2.1:=(by decide +kernel:∀t∈KT,t.1≠t.2.1) t g;rcases h.of p with⟨_,r,q,w,A⟩|⟨_,⟨h,_⟩|⟨⟨k,u⟩,_⟩⟩
 .exact(Lk s r q w A).elim
 .exact h
 .let l:∀n,∀e∈EY [t.1,t.2.1] n,e∈mT t:=λn=>by
   induction n with
   | zero=>intro e h;cases h
   | succ n d=>
    intro e h;show e∈t.1::(t.2.2++[t.2.1]);rcases wM.mp h with h | h
    .simp only[vg,xD,or_false]at h;rcases h with rfl | rfl<;>simp
    .exact d e h
  let m:∀n,⇑(EY [t.1,t.2.1] n)=2*n:=λn=>by
   induction n with
   | zero=>rfl
   | succ n d=>show ⇑([t.1,t.2.1]++EY [t.1,t.2.1] n)=_;rw[vn,d];show 2+2*n=_;nofun
  have:=u (EY [t.1,t.2.1] k) (l k) (λv c b=>by
   let#[i,b]:=b;obtain⟨e,rfl⟩:∃e,v=[e]++[e]:=by
    unfold w6 at c;simp only[vg,xD,or_false]at c;rcases c with rfl | rfl
    .exact#[_,Z]
    .exact#[_,Z]
   let o:=LO k _ _ (P5 (j:=0) b Z);let a:=LO k _ _ (P5 (j:=1) b Z);rw[o]at a;rcases Nat.mod_two_eq_zero_or_one i with z | z
   .rw[uM ∅,uI ∅]at a;exact f a
   .rw[uI ∅,uM ∅]at a;calc f a.symm)
  rw[m]at this
  nofun
def ls7 (g:t∈KT){vs:uG}{k:Nat}{x y:uz}(p:vs.Perm (w7 t))(h:nG vs (mT t) k x y):k=3:=by
 let w:mO (w7 t):=Jv ((by decide +kernel:∀t∈KT,Ik (w7 t)=Y) t g);let G:=(by decide +kernel:∀t∈KT,∀e∈mT t,∀f∈mT t,B4 (w7 t) [e,f]=J) t g;let B:=(by decide +kernel:∀t∈KT,∃e∈mT t,B4 (w7 t) [e]=Y) t g;let I:=(by decide +kernel:∀t∈KT,∀e∈mT t,∃f∈mT t,mH [f] [e]=J/\B4 (w7 t) [f]=Y) t g;let j:∀z,(∀c∈z,c∈mT t)->Av (w7 t) z->⇑z<2:=λz b a=>by
  match z,b,a with
  | [],_,_=>exact vk Z
  | [_],_,_=>exact vk Z
  | e::f::r,b,a=>
   have:=Dm.mpr (a.inf (u:=[e,f]) #[0,by show 0+2<=_+1+1;nofun,Z]);rw[G e (b e {}) f (b f {})]at this;cases this
 rcases h.of p with⟨_,F,E,C,A⟩|⟨_,⟨_,h⟩|⟨_,z,d,h⟩⟩
 .exact(Lk w F E C A).elim
 .exact(h #[2,λz b a=>j z b a]).elim
 .let s:=j z d.mem d.av;rcases h with⟨_,h⟩|⟨_,h | ⟨_,no⟩⟩
  .lia
  .exact h
  .obtain⟨e,H,a⟩:=B;have:=d.max [e] (λc i=>by rw[vI.mp i];calc H) (Dm.mp a)
   match z,d,s,this,no with
   | [e],d,_,_,no=>
    let#[f,o,n,a]:=I e (d.mem e {});let#[v,q,D]:=Zga (l:=[e]) (m:=mT t) 1 [f] Z (λc i=>by rw[vI.mp i];calc o) (λz=>by rw[CB.mpr z]at n;cases n);calc(no v q ((Dm.mp a).inf D)).elim
def Nd {c:Nat}{x:uz}{i n:Nat}(f:1<=n)(h:∀j,j<n->x[i+j]?=U c):wX x (li [c] n) i:=by
 let e:li [c] n=cw n c:=by
  unfold li;rw[Gy];clear h f;induction n with
  | zero=>rfl
  | succ n b=>rw[Bj,Er,b];rfl
 let a:∀j,j<n->i+j<⇑x:=λj d=>(vT.mp (h j d)).1;rw[e];refine#[?_,?_]
 .rw[Fe];have:=a (n-1) ∅
  nofun
 .apply Fm;intro j;rw[Fe,Fb,EG,List.getElem?_replicate];split
  .rename_i z;exact h j z
  .rfl
def ls8 (m:t∈KT){vs:uG}{k:Nat}{x y:uz}(p:vs.Perm (w8 t))(h:nG vs (mT t) k x y):k=2:=by
 let w:mO (w8 t):=Jv ((by decide +kernel:∀t∈KT,Ik (w8 t)=Y) t m);let o:=(by decide +kernel:∀t∈KT,B4 (w8 t) (li [t.1] 40++li [t.2.1] 40)=Y/\((li [t.1] 40++li [t.2.1] 40).all λe=>(mT t).contains e)=Y/\⇑(li [t.1] 40++li [t.2.1] 40)=80) t m;let v:∀e∈mT t,e=t.1\/e=t.2.1\/[e]∈w8 t:=λe a=>by
  unfold mT at a;rcases vg.mp a with h | h
  .exact .inl h
  .rcases wM.mp h with h | h
   .exact .inr (.inr (Cc _ (vJ.mpr #[e,h,Z])))
   .exact .inr (.inl (vI.mp h))
 let B:t.1≠t.2.1:=(by decide +kernel:∀t∈KT,t.1≠t.2.1) t m;let d:Dead (w8 t) (mT t) 81 []:=λz G f=>D0 λI=>by
  rw[CC]at f;let l:∀j e,z[j]?=U e->e=t.1\/e=t.2.1:=λj e a=>by
   let E:=wL a;rcases v e (G e E) with h | h | h
   .exact .inl h
   .exact .inr h
   .refine(f _ h #[j,?_,?_]).elim
    .have:=(vT.mp a).1;show j+1<=_;nofun
    .obtain⟨i,g⟩:=vT.mp a;show (z.drop j).take 1=[e];rw[Gp i,g];rfl
  let r:∀n j,z[j]?=U t.2.1->j+n<⇑z->z[j+n]?=U t.2.1:=λn=>by
   induction n with
   | zero=>intro j h _;exact h
   | succ n D=>
    intro j h s;let u:=D j h ∅;let q:=vK s;rcases l _ _ q with h | h
    .refine(f ([t.2.1]++[t.1]) (by unfold w8;simp) #[j+n,by show j+n+2<=_;nofun,?_]).elim;let#[i,g]:=vT.mp u;show (z.drop (j+n)).take 2=[t.2.1,t.1];rw[Gp i,Gp (show j+n+1<⇑z from s),g,show z[j+n+1]=t.1 from h];rfl
    .rw[q,h]
  let b:40<⇑z:=by nofun
  rcases l 40 _ (vK b) with h | h
  .refine f (li [t.1] 41) (by unfold w8;simp) #[0,Nd (n:=41) ⋯ λj F=>?_];let c:0+j<⇑z:=by nofun
   rcases l _ _ (vK c) with e | e
   .rw[vK c,e]
   .have:=r (40-j) (0+j) (by rw[vK c,e]) ∅;rw[show 0+j+(40-j)=40 by nofun,vK b,h]at this;exact Sa (cx this) B
  .exact f (li [t.2.1] 41) (by unfold w8;simp) #[40,Nd (n:=41) ⋯ λj F=>r j 40 (by rw[vK b,h]) ∅]
 rcases h.of p with⟨_,i,g,C,A⟩|⟨_,⟨_,h⟩|⟨_,z,H,h⟩⟩
 .exact(Lk w i g C A).elim
 .exact(h #[81,d]).elim
 .have:=H.max _ (λe a=>C7.mp (xT.mp o.2.1 e a)) (Dm.mp o.1);rw[o.2.2]at this;rcases h with⟨h,_⟩|⟨h,_⟩
  .exact h
  .lia
def ls5 (l:c≠d){vs:uG}{k:Nat}{x y:uz}(p:vs.Perm [[c],[c]++[d]])(h:nG vs m k x y):k=0/\x=[c]/\y=[c]++[d]:=by
 rcases h.of p with⟨j,b,a,e,i⟩|⟨g,_⟩
 .simp only[vg,xD,or_false]at b a;let f:=i.len;rcases b with rfl | rfl<;>rcases a with rfl | rfl
  .exact(e Z).elim
  .exact#[j,Z,Z]
  .exact Sa f (by show ¬2<=1;decide)
  .exact(e Z).elim
 .have:=g [c] {} ([c]++[d]) {} (Gg [c] [d]);cases this
def D3 (m:uz)(W:uG):Bool:=(R W.Nodup&&R (⇑W<=40)&&R (1<=⇑W))&&W.all λw=>(R (w≠[])&&R (⇑w<=41))&&w.all λe=>m.contains e&&vA.contains e
def ZqO (h:D3 m W=Y):GL m W/\1<=⇑W/\⇑W<=40/\∀w∈W,Wz w vR (tx w):=by unfold D3 at h;simp only[vW,R4,xT]at h;let#[#[#[f,d],g],b]:=h;calc#[#[f,∅,λw a=>(b w a).1.1,λw a=>(b w a).1.2,λw a e c=>C7.mp ((b w a).2 e c).1],g,d,λw a=>Ez (b w a).1.1 (xT.mpr λe c=>((b w a).2 e c).2) (by have:=(b w a).1.2;nofun)]
def Zlw (st:yF c one two non F)(L:K9 m c d rs):∀x∈[([[45]],s!"list "),([[c],[c]],s!"list "++[c]),([[119],[c]],s!"list w"),([li [c] 42],s!"list "++li [c] 42),([[c],[c]++[d]],(((s!"inside "++[c])++[32])++[c])++[d]),([[c]++[c],[d]++[d]],s!"endless"),([[c]++[d],[d]++[c],[c]++[c],[d]++[d]]++rs.map λx=>[x],s!"split"),([[d]++[c],li [c] 41,li [d] 41]++rs.map λx=>[x],s!"long")],xP a p dA m F (glue [32] (zi::non::x.1)) x.2:=by
 let kt:=L.kt;obtain rfl:m=mT (c,d,rs):=L.eq;let#[o,q,s,D,I,cd,mw]:=(by decide +kernel:∀t∈KT,D3 (mT t) [[t.1],[t.1]++[t.2.1]]=Y/\D3 (mT t) (w6 t)=Y/\D3 (mT t) (w7 t)=Y/\D3 (mT t) (w8 t)=Y/\vA.contains t.1=Y/\t.1≠t.2.1/\wv [119] (mT t) 41=J) _ kt;let n:=st.nms.2.2;let N:∀r∈F,r.n≠non:=by
  cases st with
  | mk S _ _ X _ _ _ n1 n2 _ _ _=>
   simp only[vg,xD,or_false,forall_eq_or_imp,forall_eq];exact#[by rw[S];calc n1,by rw[X];calc n2]
 let l:∀ {W:uG} {i:Nat} {C:AD} {due:uz},D3 (mT (c,d,rs)) W=Y->(CL a)[i]?=U C->(∀H E,(∀fs,Fd i fs due->XV a C fs E H)->∀vs k x y,vs.Perm W->nG vs (mT (c,d,rs)) k x y->pO a E H k x y)->xP a p dA (mT (c,d,rs)) F (glue [32] (zi::non::W)) due:=λ{W i C due} P hC h=>by let#[T,v,f,z]:=ZqO P;exact .ofL (us:=W) (vs:=W) n v f (λj w e=>by rw[wj,e];calc z w (wL e)) Z hC (λH Q E K x=>.from n ∅ (.inr #[N,.no T λvs k u y p _ b=>h H E x vs k u y p b])) Z
 let bad:∀ {us xs rest:uG} {x:uz},GL (mT (c,d,rs)) xs->⇑us<=40->1<=⇑us->(∀i w,us[i]?=U w->Wz w vR (tx ((xs++x::rest).getD i [])))->⇑(xs++x::rest)=⇑us->⇑x<=900->(wv x (mT (c,d,rs)) 41=J\/x=[]\/x∈xs)->xP a p dA (mT (c,d,rs)) F (glue [32] (zi::non::us)) (s!"list "++x):=λ{us xs rest x} g f v z M G V=>
  .ofL (i:=12) n v f z M Z (λH Q E K y=>.from n (by rw[M];nofun) (.inr #[N,.bad g G V ((y _ #[x,G,Z,Z]).xc K)])) Z
 let A:GL (mT (c,d,rs)) []:=#[List.nodup_nil,⋯,{},{},{}];let g1:GL (mT (c,d,rs)) [[c]]:=#[{},by show 1<=200;decide,{},{},by simp[mT]];let B:=oZ I;simp only[vg,xD,or_false,forall_eq_or_imp,forall_eq];refine#[?_,?_,?_,?_,?_,?_,?_,?_]
 .exact bad (us:=[[45]]) (xs:=[]) (x:=[]) (rest:=[]) A ⋯ ⋯ (λj w e=>by cases j with | zero=>cases e;calc Gj | succ j=>cases e) Z ⋯ (.inr (.inl Z))
 .exact bad (us:=[[c],[c]]) (xs:=[[c]]) (x:=[c]) (rest:=[]) g1 (by show 2<=40;decide) (by show 1<=2;decide) (λj w e=>by match j,e with | 0,e=>cases e;calc B | 1,e=>cases e;calc B) Z (by show 1<=900;decide) (.inr (.inr {}))
 .exact bad (us:=[[119],[c]]) (xs:=[]) (x:=[119]) (rest:=[[c]]) A (by show 2<=40;decide) (by show 1<=2;decide) (λj w e=>by match j,e with | 0,e=>cases e;calc pB | 1,e=>cases e;calc B) Z ⋯ (.inl mw)
 .exact bad (us:=[li [c] 42]) (xs:=[]) (x:=li [c] 42) (rest:=[]) A (by show 1<=40;decide) (by show 1<=1;decide) (λj w e=>by cases j with | zero=>cases e;calc Ez (w:=li [c] 42) (List.cons_ne_nil _ _) (Ml I _) (vk Z) | succ j=>cases e) Z (vk Z) (.inl (Kj (k:=42) (Int.ofNat_lt.mpr (vk Z))))
 .refine l (i:=13) o Z λH E x vs k u y p b=>?_;let#[Z,Z,Z]:=ls5 cd p b;exact x _ #[[c],[c]++[d],by show 1<=900;decide,by show 2<=900;decide,Z,Z]
 .refine l (i:=3) q Z λH E x vs k u y p b=>?_;obtain rfl:=ls6 kt p b;exact x _ Z
 .refine l (i:=5) s Z λH E x vs k u y p b=>?_;obtain rfl:=ls7 kt p b;exact x _ Z
 .refine l (i:=4) D Z λH E x vs k u y p b=>?_;obtain rfl:=ls8 kt p b;calc x _ Z
def ndI {L:List AD}{n:Nat}(h:L.Nodup)(q:⇑L=n)(d:AD):∀I:List Nat,I.Nodup->(∀i∈I,i<n)->(I.map λi=>L.getD i d).Nodup:=by
 intro I m b;unfold List.Nodup at m ⊢;rw[List.pairwise_map];calc m.imp_of_mem ?_;intro i j hi hj ne e;rw[List.getD_eq_getElem?_getD,List.getD_eq_getElem?_getD,List.getElem?_eq_getElem (q▸b i hi),List.getElem?_eq_getElem (q▸b j hj)]at e;exact ne ((List.getElem_inj h).mp e)
def ndJ {L:List AD}{x:AD}{n:Nat}(h:(x::L).Nodup)(q:⇑L=n)(d:AD)(i:Nat)(b:i<n):L.getD i d≠x:=by
 intro e;rw[List.getD_eq_getElem?_getD,List.getElem?_eq_getElem (q▸b)]at e;exact(List.nodup_cons.mp h).1 (e▸List.getElem_mem (q▸b))
def edC {K:uH}{L D:AD}{l:List AD}(a:Xi K D)(b:lA K D (oB D L))(c:D≠L)(h:∀x∈l,Xi K x/\lA K x (oB x L)/\x≠L):∀x∈D::l,Xi K x/\lA K x (oB x L)/\x≠L:=by
 intro x hx;rcases List.mem_cons.mp hx with rfl | y;exact#[a,b,c];exact h x y
structure Ed (K:uH)(a:Ad):Prop where
 nd:(CL a).Nodup
 xi:∀D∈CL a,Xi K D/\lA K D (oB D a.c_LL)/\D≠a.c_LL
def Ed.of (T:TL w K mg base a tb):Ed K a:=by
 let b:=T.nd;let c:=ndJ b (n:=16) rfl a.c_LL;exact#[ndI b (n:=17) rfl a.c_LL [16,14,15,9,6,8,11,10,1,2,3,4,5,7] ⋯ ⋯,edC T.gK T.k_MW (c 15 ⋯) (edC T.gI T.k_NX (c 13 ⋯) (edC T.gJ T.k_MV (c 14 ⋯) (edC T.gC T.k_MD (c 8 ⋯) (edC T.gu T.k_MI (c 5 ⋯) (edC T.gz T.k_NL (c 7 ⋯) (edC T.gG T.k_LM (c 10 ⋯) (edC T.gF T.k_MY (c 9 ⋯) (edC T.gg T.k_M0 (c 0 ⋯) (edC T.gi T.k_LZ (c 1 ⋯) (edC T.gk T.k_MH (c 2 ⋯) (edC T.gn T.k_MZ (c 3 ⋯) (edC T.gt T.k_MX (c 4 ⋯) (edC T.gx T.k_MU (c 6 ⋯) (λ_ h=>nomatch h))))))))))))))]
def Ed.kit (h:Ed K a){i j:Nat}{C D:AD}(b:(CL a)[i]?=U C)(c:(CL a)[j]?=U D):kitOne K (.ref C) (.ref D)=U (R (i=j)):=by
 let#[_,k,_]:=h.xi C (wL b);let#[_,f,g]:=h.xi D (wL c);let e:C=D↔i=j:=by let#[n,d]:=vT.mp b;let#[m,l]:=vT.mp c;rw[<-d,<-l];exact List.getElem_inj h.nd
 calc Zo2 k f ?_ λz=>R5 (e.mp z);by_cases z:i=j
 .rw[R5 z,e.mpr z];simp[oB]
 .rw[R6 z];have:D≠C:=λy=>z (e.mp y.symm);simp[oB,DO,this,g]
def Zrm (c:lA K C (oB C L))(d:lA K L [.ref L,.type "ValueError",.type "Exception",.type "BaseException",.type "object"]):exmOne K (.ref C) (.ref L)=U Y:=M9 c d (by simp[DO]) (by simp[oB,DO])
def Dv (a:Ad)(p dA:AD)(m:uz)(F:List Kp)(H:Hp)(v:V):Prop:=∃(t:AD)(b c:uz),v=.ref t/\H t=U (.tup [tx b,tx c])/\xP a p dA m F b c
def Dv.same (h:Dv a p dA m F H v)(s:ky H H'):Dv a p dA m F H' v:=let ⟨t,l,d,e,ht,k⟩:=h;#[t,l,d,e,s _ _ ht,k]
def lP.same (h:lP a p dA m F H vs)(s:ky H H'):lP a p dA m F H' vs:=λv b=>Dv.same (h v b) s
def lP.app (h:lP a p dA m F H vs)(g:lP a p dA m F H us):lP a p dA m F H (vs++us):=λv b=>(wM.mp b).elim (h v) (g v)
def lP.upd (h:lP a p dA m F H vs)(b:H r=U (.lst xs)):lP a p dA m F (upd H r (.lst ys)) vs:=λv c=>
 let ⟨t,l,d,e,ht,k⟩:=h v c;#[t,l,d,e,by rw[uF (λz=>by rw[z,b]at ht;cases ht)];calc ht,k]
def lP.one (h:Dv a p dA m F H v):lP a p dA m F H [v]:=λw b=>by rw[vI.mp b];calc h
def lP.cons (h:Dv a p dA m F H v)(g:lP a p dA m F H vs):lP a p dA m F H (v::vs):=λw b=>(vg.mp b).elim (λe=>e▸h) (g w)
def Zqe:∀x∈zG,Txt.replace #[↑(x.1++32::78::x.2)] #[↑[78]] #[↑z]=#[↑(x.1++32::(z++x.2))]:=by
 let b:∀x∈zG,Txt.split #[↑(x.1++32::78::x.2)] #[↑[78]]=[#[↑(x.1++[32])],#[↑x.2]]:=by decide +kernel
 intro x a;show Txt.replace _ #[↑[78]] _=_;rw[PySem.StrLaws.replace_one,b x a];calc(E1 z [x.1++[32],x.2]).trans ?_;show (#[↑((x.1++[32])++z++x.2)]:Str)=_;simp
def Ff (l:List (uz×uz)):Se:=l.map λx=>tx (x.1++32::78::x.2)
inductive Hu (a:Ad)(p dA:AD)(m:uz)(F:List Kp)(H:Hp)(b g r pl:AD)(c t1 t2 t3 k:Nat)(one two non:uz)(xs:Se)(n0:Nat)(i:Nat)(σ:St)(H':Hp):Prop
 | mk:∀(v6:Option V)(k':Nat)(ys:Se),σ=[U (.ref b),U (tx [c]),U (.tok #[↑one] t1),U (.tok #[↑two] t2),U (.tok #[↑non] t3),U (.ref r),v6]->lQ g H H'->H' g=U (.gho k')->k<=k'->H' r=U (.lst ys)->lP a p dA m F H' ys->⇑ys<=n0+i->H' pl=U (.lst xs)->Hu a p dA m F H b g r pl c t1 t2 t3 k one two non xs n0 i σ H'
def Nq (st:yF c one two non F)(h3:t3<k)(h0:0<t3)(T:H r=O)(K:y∈zG)(kp:lQ g H H')(h:H' g=U (.gho k'))(hk:k<=k')(f:H' r=U (.lst ys))(L:lP a p dA m F H' ys)(aa:⇑ys<=n0+i)(nb:n0+i<=50)(j:H' pl=U (.lst xs))(E:pl≠r)(t I:Nat)(C:k'<=t)(P:t<I):
  ∃(l q z:uz)(u v:Tok),tx (y.1++32::78::y.2)=tx l/\[V.tok #[↑[78]] t,V.tok #[↑non] t3]=[V.tok #[↑q] u,V.tok #[↑z] v]/\0<u/\0<v/\u≠v/\q≠z/\⇑l<=100/\⇑z<=100/\∀w:uz,(#[↑w]:Str)=Txt.replace #[↑l] #[↑q] #[↑z]->3+⇑non<=sizeLine/\2<=sizeLine/\ly [tx w,tx (110::111::32::non)] (upd H' g (.gho I)) λx H1=>pz (V.ref r) [x] H1 λ_ H1=>Hu a p dA m F H b g r pl c t1 t2 t3 k one two non xs n0 (i+1) [U (.ref b),U (tx [c]),U (.tok #[↑one] t1),U (.tok #[↑two] t2),U (.tok #[↑non] t3),U (.ref r),U (tx (y.1++32::78::y.2))] H1:=by
 let#[_,_,D]:=st.nms;let v8:=yj D;let ln:∀y∈zG,⇑(y.1++32::78::y.2)<=100:=by decide
 calc#[_,[78],non,t,t3,Z,Z,∅,h0,∅,λe=>by rw[<-e]at D;calc Sa D ⋯,ln y K,∅,λw e=>#[sz _ ∅,sz 2 ⋯,ly.of λu G B mu X=>?_]];let W:w=y.1++32::(non++y.2):=by simpa using R9 (λs:Str=>s.cps.toList) (e.trans (Zqe y K))
 let N:r≠g:=λz=>by rw[z,h]at f;cases f
 let S:pl≠g:=λz=>by rw[z,h]at j;cases j
 let A:G r=U (.lst ys):=B _ _ (by rw[uF N];calc f);let M:lP a p dA m F G ys:=lP.same (λv Q=>let ⟨t,l,d,e,C,k⟩:=L v Q;#[t,l,d,e,by rw[uF (λz=>by rw[z,h]at C;cases C)];calc C,k]) B;calc#[r,ys,_,Z,Z,A,sz _ ∅,.mk _ I (ys++[.ref u]) Z (λb o e n=>by rw[uF (λz=>by rw[z,T]at e;cases e)];calc B _ _ (by rw[uF n];calc kp b o e n)) (by rw[uF N.symm];calc B _ _ uN) ∅ uN ((M.app (.one #[u,_,_,Z,X,by rw[W];calc Re st y K])).upd A) (by rw[vn,xf];nofun) (by rw[uF E];calc B _ _ (by rw[uF S];calc j))]
def ZlZ (st:yF c one two non F):∀(i:Nat)(b:uz),[FS,Dt++32::one,Dw++32::one,Dt++32::two,Dw++32::two][i]?=U b->∃ws,b=glue [32] ws/\Ln ws/\∀(H:Hp)(Q:VK)(E:XK),(∀t,ky H t->Q (tx ((KL m F).getD i [])) t)->nQ a H p dA m F Q E ws:=by
 let o:∀ {d n:uz} {Q:VK} {E:XK} {H:Hp},FT.lookup d=U [vS]->vX n=Y->wS a H p dA m F Q E d [tx n]->nQ a H p dA m F Q E [d,n]:=λ{d n Q E H} r k h=>.inr #[d,[n],Z,by rw[FP r];show zR [n] [vS]=Y;show (vX n&&Y)=Y;rw[k];rfl,by simp only[vI,forall_eq];calc(xY k).num,by rw[El,(xY k).val];calc h]
 let f:∀ {d n:uz},FT.lookup d=U [vS]->vX n=Y->d++32::n=glue [32] [d,n]/\Ln [d,n]:=λ{d n} r k=>#[by rw[zn];rfl,.of {} (vk Z) #[Ec r,(xY k).lw,trivial]];cases st with
 | @mk l j u _ _ w _ _ _ _ _ g e _=>
  let s:l∈[l,j]:=by simp
  let v:j∈[l,j]:=by simp
  intro i b h
  match i,h with
  | 0,h=>
   cases h;exact#[[FS],Z,.of {} ⋯ #[#[⋯,⋯],trivial],λH Q E q=>.inr #[FS,[],Z,Z,{},.names q]]
  | 1,h=>
   cases h;exact#[_,(f Z g).1,(f Z g).2,λH Q E q=>o Z g (.text #[g,.inr #[l,s,u,q]])]
  | 2,h=>
   cases h;exact#[_,(f Z g).1,(f Z g).2,λH Q E q=>o Z g (.lacks #[g,.inr #[l,s,u,q]])]
  | 3,h=>
   cases h;exact#[_,(f Z e).1,(f Z e).2,λH Q E q=>o Z e (.text #[e,.inr #[j,v,w,q]])]
  | 4,h=>
   cases h;calc#[_,(f Z e).1,(f Z e).2,λH Q E q=>o Z e (.lacks #[e,.inr #[j,v,w,q]])]
def Dq (a b:uz):uG:=[FS,Dt++32::a,Dw++32::a,Dt++32::b,Dw++32::b]
inductive Rx (H:Hp)(dk b g2:AD)(t1 t2:Nat)(one two:uz)(i:Nat)(σ:St)(H':Hp):Prop
 | mk:∀(r:AD)(v3:Option V),σ=[U (.ref dk),U (.ref b),U (.ref r),v3]->ky H H'->H' g2=U (.lst [.tok #[↑one] t1,.tok #[↑two] t2])->H' r=U (.lst (((Dq one two).take (1+2*i)).map tx))->Rx H dk b g2 t1 t2 one two i σ H'
inductive C8 (H:Hp)(g acc:AD)(k0:Nat)(f:Nat->uz)(i:Nat)(ys:Se)(H':Hp):Prop
 | mk:∀kk:Nat,H' g=U (.gho kk)->k0<=kk->lQ g H H'->H' acc=U (.lst ys)->(∀j y,ys[j]?=U y->∃t:Nat,y=V.tok #[↑(f j)] t/\0<t/\t<kk)->C8 H g acc k0 f i ys H'
def C8.step {H c:Hp}{g a:AD}{m:Nat}{f:Nat->uz}{i:Nat}{ys:Se}{kk t d:Nat}(w:H a=O)(q:c g=U (.gho kk))(C:m<=kk)(x:lQ g H c)(l:c a=U (.lst ys))(r:∀j y,ys[j]?=U y->∃t:Nat,y=V.tok #[↑(f j)] t/\0<t/\t<kk)(E:⇑ys=i)(u:0<t)(A:t<d)(D:kk<=d):
  upd c g (.gho d) a=U (.lst ys)/\C8 H g a m f (i+1) (ys++[V.tok #[↑(f i)] t]) (upd (upd c g (.gho d)) a (.lst (ys++[V.tok #[↑(f i)] t]))):=by
 let p:a≠g:=λz=>by rw[z,q]at l;cases l
 calc#[by rw[uF p];calc l,.mk d (by rw[uF p.symm];calc uN) ∅ (λb o e n=>by rw[uF (λz=>by rw[z,w]at e;cases e),uF n];calc x b o e n) uN λj y k=>?_];by_cases z:j<⇑ys
 .rw[zh z]at k;let#[t,e,s,B]:=r j y k;exact#[t,e,s,∅]
 .rw[zu ∅]at k;let#[h,e]:=vT.mp k;let v:j-⇑ys=0:=by simpa using h
  have:j=i:=by nofun
  subst this;calc#[t,?_,u,A];rw[<-e];simp[v]
def C8.three (h:C8 H g acc k0 f i ys H')(n:⇑ys=3):∃(c b a kk:Nat),H' g=U (.gho kk)/\lQ g H H'/\H' acc=U (.lst [V.tok #[↑(f 0)] c,V.tok #[↑(f 1)] b,V.tok #[↑(f 2)] a])/\0<a/\a<kk:=by
 let#[kk,m,o,j,e,d]:=h
 match ys,n with
 | [y0,y1,y2],_=>
  let#[c,Z,_]:=d 0 y0 Z;let#[b,Z,_]:=d 1 y1 Z;let#[a,Z,l,k]:=d 2 y2 Z;calc#[c,b,a,kk,m,j,e,l,k]
def Ev (B:uz)(S A y i:Nat):uz:=B.take A++[vA.getD (((y:Int)+(i:Int)) % 26).toNat 0]++(B.drop (A+1)).take (S-(A+1))
def Jw (b:y<26)(c:i<3)(a:j<3)(n:i≠j):Ev B S A y i≠Ev B S A y j:=λe=>by
 let e:=List.append_cancel_left (List.append_cancel_right e);let d:∀y:Nat,y<26->∀i:Nat,i<3->∀j:Nat,j<3->i≠j->vA.getD (((y:Int)+(i:Int)) % 26).toNat 0≠vA.getD (((y:Int)+(j:Int)) % 26).toNat 0:=by decide +kernel
 calc d y b i c j a n (List.cons.inj e).1
inductive MB (H:Hp)(g pn:AD)(k0 tB:Nat)(c:Int)(B:uz)(S A y:Nat)(i:Nat)(σ:St)(H':Hp):Prop
 | mk:∀(v7 v8:Option V)(ys:Se),σ=[U (.int c),U (.int 3),U (tx vA),U (V.tok #[↑B] tB),U (.int S),U (.int A),U (.ref pn),v7,v8]->⇑ys=i->C8 H g pn k0 (Ev B S A y) i ys H'->MB H g pn k0 tB c B S A y i σ H'
def ZoW (a:x∈vA)(h:wX vA [x] j):j=x-97/\x-97<26:=by
 let d:∀x∈vA,∀j:Nat,j<26->(vA.drop j).take 1=[x]->j=x-97/\x-97<26:=by decide +kernel
 let b:j+1<=26:=h.1;calc d x a j ∅ h.2
def ZqV (a:x∈vA):x-97<26:=by
 let d:∀x∈vA,x-97<26:=by decide
 calc d x a
def K9.rl (h:K9 m c d rs):⇑rs<=4:=by
 let k:∀m∈KM,⇑m<=4:=by decide +kernel
 have:=k m h.mem;rw[h.eq]at this;simp only[vQ,vn,yZ]at this
 nofun
def Bn (c d:Nat)(a:uz):List (uG×uz):=[([[45]],s!"list "),([[c],[c]],s!"list "++[c]),([[119],[c]],s!"list w"),([li [c] 42],s!"list "++li [c] 42),([[c],[c]++[d]],(((s!"inside "++[c])++[32])++[c])++[d]),([[c]++[c],[d]++[d]],s!"endless"),([[c]++[d],[d]++[c],[c]++[c],[d]++[d]]++a.map λx=>[x],s!"split"),([[d]++[c],li [c] 41,li [d] 41]++a.map λx=>[x],s!"long")]
section
def qe (b:FT.lookup vb=U [f])(a:Wz u f v):Ln [vb,u]:=.of {} (by show 2<=50;decide) #[Ec b,a.lw,trivial]
def ln_2 (c:FT.lookup vb=U [f,g])(a:Wz u f v)(b:Wz w g v'):Ln [vb,u,w]:=.of {} (by show 3<=50;decide) #[Ec c,a.lw,b.lw,trivial]
def Jl (d:FT.lookup vb=U [f])(c:f≠yk)(b:Wz u f v)(h:wS a H p dA m F Q E vb [v]):nQ a H p dA m F Q E [vb,u]:=by
 refine .inr #[vb,[u],Z,?_,?_,?_]
 .rw[FP d];show zR [u] (yc [f] 1)=Y;rw[show yc [f] 1=[f] from uI (by simp[uZ c])];show (zZ u f&&Y)=Y;rw[b.told];rfl
 .simp only[vI,forall_eq];exact b.num
 .rw[El,b.val];calc h
def ZsO (e:FT.lookup vb=U [f,g])(d:yk∉[f,g])(c:Wz u f v)(b:Wz w g v')(h:wS a H p dA m F Q E vb [v,v']):nQ a H p dA m F Q E [vb,u,w]:=by
 refine .inr #[vb,[u,w],Z,?_,?_,?_]
 .rw[FP e];show zR [u,w] (yc [f,g] 2)=Y;rw[show yc [f,g] 2=[f,g] from uI d];show (zZ u f&&(zZ w g&&Y))=Y;rw[c.told,b.told];rfl
 .simp only[vg,xD,or_false,forall_eq_or_imp,forall_eq];exact#[c.num,b.num]
 .rw[vP,El,c.val,b.val];calc h
end
structure mV (a:Ad)(dk p dA:AD)(m:uz)(H0 H:Hp)(F:List Kp):Prop where
 dsk:lV a H dk p dA m F
 tk:TT a H
 ch:we [dA] H0 H
 nw:∀r∈F,Nw H0 r.p/\Nw H0 r.da
 ap:F.Pairwise Cv
section
def mV.al (h:mV a dk p dA m H0 H F):mZ a H m F:=#[h.dsk.sh.str,h.ap]
def mV.lay (h:mV a dk p dA m H0 H F)(g:Nw H r.p)(k:Nw H r.la)(e:Nw H r.da)(c:we [dA] H H2)(t:TT a H2)(j:kR a H2 p dA m (F++[r])):mV a dk p dA m H0 H2 (F++[r]):=by
 let#[#[u,f],s]:=id h.dsk;let o:∀ {q},Nw H q->Nw H0 q:=λn=>n.chg h.ch λb i=>by rw[vI.mp i];exact#[_,s.dct,Z]
 refine#[#[#[u,Zrf f c s.dct],j],t,h.ch.trans c,λx d=>?_,List.pairwise_append.mpr #[h.ap,{},λx d y l=>?_]]
 .rcases wM.mp d with z | z
  .exact h.nw x z
  .rw[vI.mp z];exact#[o g,o e]
 .rw[vI.mp l];calc Zub (s.str x d) g k e
def mV.move (h:mV a dk p dA m H0 H F)(i:r∈F)(c:we [r.p,r.da] H H2)(st:kH a.c_NM H2 r.p la2 r.da l2 m ds2)(q:Nw H la2)(t:TT a H2):mV a dk p dA m H0 H2 (F.map (zQ r.p la2 l2 ds2)):=by
 let d:=h.al.moved i c st q;let#[x,w,k]:=Zpm h.dsk (h.al.1 r i) c;let f:=h.dsk.sh;refine#[#[x,w,by rw[ZqY];calc k,d.1,λt j=>?_,?_,f.kok],t,λb o e n u=>?_,λt j=>?_,d.2]
 .obtain⟨y,g,rfl⟩:=vJ.mp j;rw[(EL y).1];exact f.nm y g
 .rw[wE,show (Kp.n ∘ zQ r.p la2 l2 ds2)=Kp.n from funext λs=>(EL s).1];exact f.nd
 .refine c b o (h.ch b o e n u) ?_ u;let#[l,v]:=h.nw r i;simp only[vg,xD,or_false,not_or];exact#[l.ne e u,v.ne e u]
 .obtain⟨y,g,rfl⟩:=vJ.mp j;rw[(EL y).2.1,(EL y).2.2];calc h.nw y g
end
inductive oJ (c:Nat)(one two:uz):Nat->List Kp->Prop
 | z:oJ c one two 0 []
 | o:∀ {r:Kp},r.n=one->r.l=[]->r.ds=[]->oJ c one two 1 [r]
 | t:∀ {r s:Kp},r.n=one->r.l=[]->r.ds=[]->s.n=two->s.l=[]->s.ds=[]->oJ c one two 2 [r,s]
 | e:∀ {r s:Kp},r.n=one->r.l=[c]->r.ds=[(Y,c)]->s.n=two->s.l=[]->s.ds=[]->oJ c one two 3 [r,s]
noncomputable def Pw (c:Nat)(a b:uz):uG:=[s!"strip "++a,s!"strip "++b,((s!"put "++a)++[32])++[c]]
def Po (n:s.p≠r.p):[r,s].map (zQ r.p la l ds)=[#[r.n,r.p,la,r.da,l,ds],s]:=by show [if r.p=r.p then _ else _,if s.p=r.p then _ else _]=_;rw[uM Z,uI n]
def Zot (n:K8 m c)(b:vX one=Y)(v:vX two=Y)(P:one≠two)(M:oJ c one two i F)(h:mV a dk p dA m H0 H F)(j:(Pw c one two)[i]?=U line):
  ∃ws,line=glue [32] ws/\Ln ws/\⇑F<=60/\∀(Q:VK)(E:XK),(∀out d D,oJ c one two (i+1) D->mV a dk p dA m H0 d D->Q (tx out) d)->nQ a H p dA m F Q E ws:=by
 cases M with
 | z=>
  cases j;exact#[[Iy,one],by rw[zn];rfl,qe Z (xY b),⋯,λQ E q=>Jl Z ⋯ (xY b) (.strip b (λ_ r d k u l y A C c t w=>q _ _ _ (.o k u l) (h.lay y A C c t w)) {})]
 | @o r f x B=>
  cases j;exact#[[Iy,two],by rw[zn];rfl,qe Z (xY v),vk Z,λQ E q=>Jl Z ⋯ (xY v) (.strip v (λ_ r d k u l y A C c t w=>q _ _ _ (.t f x B k u l) (h.lay y A C c t w)) (λs T e=>by rw[vI.mp T,f]at e;calc Sa e P))]
 | @t r s f x B L I V=>
  cases j;let G:s.p≠r.p:=λz=>(List.rel_of_pairwise_cons h.ap (by simp:s∈[s])).p z.symm;exact#[[qh,one,[c]],by simp[glue],ln_2 (g:=vR) Z (xY b) (oZ n.let.1),vk Z,λQ E q=>ZsO (g:=vR) Z ⋯ (xY b) (oZ n.let.1) (.put (by show 1<=100;decide) #[b,.inr #[r,{},f,.inr #[c,n.let.2.1,Z,x,B,λout S d K N W t=>q _ _ _ (by rw[Po G];calc .e f Z Z L I V) (h.move {} K N W t)]]])]
 | e=>cases j
def oJ.st (h:oJ c one two 3 F)(l:vX one=Y)(a:vX two=Y)(d:vX non=Y)(o:one≠two)(m:one≠non)(b:two≠non):yF c one two non F:=by
 cases h with
 | e i g j k f n=>calc .mk i g j k f n o m b l a d
def ZmH (st:yF c one two non F)(f:mV a dk p dA m H0 H F){Q:VK}{E:XK}(q:∀out e b,mV a dk p dA m H0 e b->⇑b<=60->(∃r∈b,r.n=one/\r.l=[])->Q (tx out) e):nQ a H p dA m F Q E [GK,one]:=by
 cases st with
 | @mk r s h i l v o u _ _ _ g _ _=>
  let n:s.p≠r.p:=λz=>(List.rel_of_pairwise_cons f.ap (by simp:s∈[s])).p z.symm;calc Jl Z ⋯ (xY g) (.back #[g,.inr #[r,{},h,.inr #[c,i,l,λout d e k st j t=>q _ _ _ (f.move {} k st j t) (vk Z) #[#[r.n,r.p,d,r.da,[],[]],by rw[Po n];simp,h,Z]]]])
def ZmG (b:vX one=Y)(h:∃r∈F,r.n=one/\r.l=[]){Q:VK}{E:XK}(x:zx a.c_NX E H):nQ a H p dA m F Q E [FW,one]:=by let#[r,d,e,c]:=h;calc Jl Z ⋯ (xY b) (.drop #[b,.inr #[r,d,e,c,x]])
inductive Q0 (a:Ad)(dk p dA:AD)(m one two:uz)(c:Nat)(H0:Hp)(b bN:AD)(r0:Int)(i:Nat)(σ:St)(H':Hp):Prop
 | mk:∀(v6:Option V)(F:List Kp),σ=[U (.ref b),U (.int r0),U (.ref bN),U (tx m),U (tx [c]),U (.ref dk),v6,O,O,O,O]->oJ c one two i F->mV a dk p dA m H0 H' F->Q0 a dk p dA m one two c H0 b bN r0 i σ H'
def lP.kb (h:lP a p dA m F H vs)(e:lQ g H H')(b:H g=U (.gho k)):lP a p dA m F H' vs:=λv c=>let ⟨t,l,d,ev,ht,x⟩:=h v c;#[t,l,d,ev,e _ _ ht (λz=>by rw[z,b]at ht;cases ht),x]
def lV.kb (h:lV a H dk p dA m F)(e:lQ g H H')(j:H g=U (.gho k)):lV a H' dk p dA m F:=by
 let n:∀ {b o},H b=U o->(∀k,o≠HO.gho k)->b≠g:=λx n z=>by rw[z,j]at x;exact n _ (cx x).symm
 let#[#[y,f],#[q,l],d,i,w,A,kk]:=h;calc#[#[y,e _ _ f (n f λ_ z=>by cases z)],#[q,e _ _ l (n l λ_ z=>by cases z)],e _ _ d (n d λ_ z=>by cases z),λr c=>?_,w,A,kk];let#[#[_,_,t],#[_,v],_,u]:=Dg (i r c);calc(i r c).chg e.chg (λb s B z=>by rw[vI.mp s,j]at z;cases z) (by simpa using n t λ_ z=>by cases z) (by simpa using n v λ_ z=>by cases z) (by simpa using n u λ_ z=>by cases z)
def mV.one (h:lV a H dk p dA m F)(t:TT a H)(i:F.Pairwise Cv)(g:H0 b=U o)(e:H b=U o)(d:∀r∈F,Nw H0 r.p/\Nw H0 r.da):mV a dk p dA m (λx=>if x=b then H0 x else O) H F:=by
 let n:∀ {q},Nw H0 q->Nw (λx=>if x=b then H0 x else O) q:=λ{q} n o e=>by
  change (if q=b then H0 q else O)=U o at e
  split at e
  .exact n o e
  .cases e
 refine#[h,t,λx u c _ _=>?_,λr f=>#[n (d r f).1,n (d r f).2],i]
 change (if x=b then H0 x else O)=U u at c
 split at c
 .rename_i z
  rw[z]at c ⊢;rw[e,<-g,c]
 .cases c
inductive Pj (a:Ad)(b bN dk se rh:AD)(m:uz)(c:Nat)(r0:Int)(H:Hp)(i:Nat)(σ:St)(H':Hp):Prop
 | mk:∀(v6 v9 v10:Option V),σ=[U (.ref b),U (.int r0),U (.ref bN),U (tx m),U (tx [c]),U (.ref dk),v6,U (.ref se),U (.ref rh),v9,v10]->lJ H H'->TT a H'->Pj a b bN dk se rh m c r0 H i σ H'
def Ce (h:k<=9000):k<=sizeLine:=u8 h (by rw[bA];decide)
local macro_rules | `(tactic| symm) => `(tactic| (refine Ce ?_;first | exact vk rfl | ((try simp only [List.length_append, List.length_cons, List.length_nil, List.length_map]); lia)))
def Is (M:uG)(S:ky H G)(b:G r=U (.lst (L.map tx)))(e:ky G G')(f:G' x=O)(k:∀a,ky H a->a x=U (.lst ((L++M).map tx))->T D σ a):CN T D σ (upd G' x (.lst (L.map tx++M.map tx))):=k _ ((S.trans e).trans (vG f)) (by rw[uN,xO])
def Fw (S:ky H G)(g:lP a p dA m F G ys)(d:⇑ys=n)(e:ky G G')(f:G' x=O)(h:lP a p dA m F G' us)(k:∀(b:Hp)(c:Se),ky H b->b x=U (.lst c)->lP a p dA m F b c->⇑c=n+⇑us->H x=O->T D σ b):CN T D σ (upd G' x (.lst (ys++us))):=
 k _ _ ((S.trans e).trans (vG f)) uN (((g.same e).app h).same (vG f)) (by rw[vn,d]) ((S.trans e).free f)
abbrev SQ (_:uH)(_:Ad)(_:Se)(_:Hp)(_:VK)(_:XK):=Prop
section
variable (K:uH)(a:Ad)(vs:Se)(H:Hp)(Q:VK)(E:XK)
inductive sp_L1:SQ K a vs H Q E
 | mk:∀l m,vs=[tx l,tx m]->⇑l<=1000->(∀H2,ky H H2->Q (.bl (l.all λc=>m.contains c)) H2)->sp_L1
inductive sp_L3:SQ K a vs H Q E
 | mk:∀v,vs=[v]->((∃l,v=tx l/\⇑l<=1000/\∀H2,ky H H2->Q (.bl (yt l)) H2)\/(Dx K H v/\Q (.bl J) H))->sp_L3
inductive sp_MR:SQ K a vs H Q E
 | mk:∀l m most,vs=[tx l,tx m,.int most]->⇑l<=1000->(∀H2,ky H H2->Q (.bl (wv l m most)) H2)->sp_MR
inductive sp_LS:SQ K a vs H Q E
 | mk:∀l m,vs=[tx l,tx m]->⇑l<=1000->(∀H2,ky H H2->Q (.bl (zf l m)) H2)->sp_LS
inductive sp_LF:SQ K a vs H Q E
 | mk:∀v,vs=[v]->((∃l,v=tx l/\⇑l<=1000/\yt l=Y/\∀H2,ky H H2->Q .non H2)\/(oI K H v/\Jk a E H))->sp_LF
inductive sp_LW:SQ K a vs H Q E
 | mk:∀(l m:uz)(most:Int),vs=[tx l,tx m,.int most]->⇑l<=1000->(wv l m most=Y->∀H2,ky H H2->Q .non H2)->(wv l m most=J->XW a E H l)->sp_LW
inductive sp_KT:SQ K a vs H Q E
 | mk:∀(l m:uz),vs=[tx l,tx m]->⇑l<=1000->(zf l m=Y->∀H2,ky H H2->Q .non H2)->(zf l m=J->XW a E H l)->sp_KT
inductive sp_L2:SQ K a vs H Q E
 | mk:∀(p:AD)(ws:uG),vs=[.ref p]->H p=some (.lst (ws.map tx))->(∀w∈ws,⇑w<=1000)->⇑ws<64->TT a H->(∀(ws':uG)(r:AD)(H2:Hp),ws'.Perm ws->ws'.Pairwise (λa b=>¬lS b a)->lJ H H2->TT a H2->H r=O->H2 r=U (.lst (ws'.map tx))->Q (.ref r) H2)->sp_L2
inductive sp_NI:SQ K a vs H Q E
 | mk:∀(l:uz)(n:Nat),vs=[tx l,.int n]->⇑l<=200->n<=⇑l+1->⇑l<n+63->(∀p H2,ky H H2->H p=O->H2 p=U (.lst ((kY l n).map tx))->Q (.ref p) H2)->sp_NI
inductive sp_NP:SQ K a vs H Q E
 | mk:∀(b1 b2:AD)(sh st:uG)(m:uz),vs=[.ref b1,.ref b2,tx m]->H b1=U (.lst (sh.map tx))->H b2=U (.lst (st.map tx))->⇑sh<=100->⇑m<=4->(∀w∈sh,⇑w<=100)->(∀p H2,ky H H2->H p=O->H2 p=U (.lst ((CI sh st m).map tx))->Q (.ref p) H2)->sp_NP
inductive sp_LI:SQ K a vs H Q E
 | mk:∀(p dx C:AD)(l m:uz),vs=[.ref p,tx l,tx m]->(C=a.c_NJ\/C=a.c_NM\/C=a.c_N0)->H p=U (.ins C dx [])->(∀H2,H2 p=U (.ins C dx (kW "own_kinds" (tx m) (kW "own_text" (tx l) [])))->(∀b o,H b=U o->b≠p->H2 b=U o)->Q .non H2)->sp_LI
inductive sp_KW:SQ K a vs H Q E
 | mk:∀(p la da:AD) (l m:uz) (ds:List (Bool×Nat)),vs=[.ref p]->kH a.c_NM H p la da l m ds->Q (tx m) H->sp_KW
inductive sp_LJ:SQ K a vs H Q E
 | mk:∀(p la da:AD) (l m:uz) (ds:List (Bool×Nat)),vs=[.ref p]->kH a.c_NM H p la da l m ds->Q (tx l) H->sp_LJ
inductive sp_KB:SQ K a vs H Q E
 | mk:∀(p:AD)(l m:uz)(n:Nat),vs=[.ref p,.int n]->Fx a.c_NJ H p l m->Q (tx l) H->sp_KB
inductive sp_KY:SQ K a vs H Q E
 | mk:∀(p:AD)(l m:uz)(n:Nat),vs=[.ref p,.int n]->Fx a.c_NJ H p l m->mh l m->n<=⇑l+1->(∀q H2,ky H H2->H q=O->H2 q=U (.lst ((kY l n).map tx))->Q (.ref q) H2)->sp_KY
inductive sp_KC:SQ K a vs H Q E
 | mk:∀(p la da:AD) (l m:uz) (ds:List (Bool×Nat)) (u:uz),vs=[.ref p,tx u]->kH a.c_NM H p la da l m ds->⇑u<=100->wv u m 60=J->XW a E H u->sp_KC
inductive sp_KX:SQ K a vs H Q E
 | mk:∀(p:AD)(l m:uz),vs=[.ref p]->Fx a.c_NJ H p l m->mh l m->Q (.int ((⇑l:Nat)+1)) H->sp_KX
inductive sp_KG:SQ K a vs H Q E
 | mk:∀(p:AD)(l m:uz),vs=[.ref p]->Fx a.c_NJ H p l m->mh l m->(∀q H2,ky H H2->H2 q=U (.lst ((vF l m).map tx))->Q (.ref q) H2)->sp_KG
inductive sp_K3:SQ K a vs H Q E
 | mk:∀(p dx:AD)(l m:uz),vs=[.ref p,tx l,tx m]->H p=U (.ins a.c_NJ dx [])->mh l m->(∀H2,Fx a.c_NJ H2 p l m->(∀b o,H b=U o->b≠p->H2 b=U o)->Q .non H2)->sp_K3
inductive sp_NS:SQ K a vs H Q E
 | mk:∀(l x:uz),vs=[tx l,tx x]->⇑l<=1000->⇑x<=1000->Q (.bl (Hn l x)) H->sp_NS
inductive sp_LU:SQ K a vs H Q E
 | mk:∀(x lo hi:Int),vs=[.int x,.int lo,.int hi]->Q (.bl (R (lo<=x/\x<=hi))) H->sp_LU
inductive sp_ask:SQ K a vs H Q E
 | mk:∀(p la da:AD) (l m:uz) (ds:List (Bool×Nat)) (u:uz),vs=[.ref p,tx u]->kH a.c_NM H p la da l m ds->⇑u<=100->wv u m 60=J->XW a E H u->sp_ask
inductive sp_LD:SQ K a vs H Q E
 | mk:∀(p la da:AD) (l m:uz) (ds:List (Bool×Nat)) (u:uz),vs=[.ref p,tx u]->kH a.c_NM H p la da l m ds->⇑u<=100->wv u m 60=J->XW a E H u->sp_LD
inductive sp_LR:SQ K a vs H Q E
 | mk:∀(p la da:AD) (l m:uz) (ds:List (Bool×Nat)) (u:uz),vs=[.ref p,tx u]->kH a.c_NM H p la da l m ds->⇑u<=100->wv u m 60=J->XW a E H u->sp_LR
inductive sp_L9:SQ K a vs H Q E
 | mk:∀(p la da:AD) (l m:uz) (ds:List (Bool×Nat)) (k:Int),vs=[.ref p,.int k]->kH a.c_NM H p la da l m ds->¬(1<=k/\k<=⇑l)->XC a.c_LZ (wa "length" [.int k]) E H->sp_L9
inductive sp_LV:SQ K a vs H Q E
 | mk:∀(b:AD)(ws:uG)(m:uz),vs=[.ref b,tx m]->H b=U (.lst (ws.map tx))->Bk m->⇑ws<=200->((GL m ws/\∀H2,ky H H2->Q .non H2)\/∃(xs rest:uG)(x:uz),ws=xs++x::rest/\GL m xs/\⇑x<=900/\(wv x m 41=J\/x=[]\/x∈xs)/\XC a.c_MX (wa "word" [tx x]) E H)->sp_LV
inductive sp_NB:SQ K a vs H Q E
 | mk:∀(b:AD)(ws:uG)(w:uz),vs=[.ref b,tx w]->H b=U (.lst (ws.map tx))->⇑ws<=1000->⇑w<=1000->(∀H2,ky H H2->Q (.bl (B4 ws w)) H2)->sp_NB
inductive sp_MA:SQ K a vs H Q E
 | mk:∀(b:AD)(ws:uG)(m:uz),vs=[.ref b]->H b=U (.lst (ws.map tx))->GL m ws->(mO ws->∀H2,ky H H2->Q .non H2)->(∀x y,Qx ws x y->X2 a.c_MU "one" "other" E H x y)->sp_MA
inductive sp_NV:SQ K a vs H Q E
 | mk:∀(b:AD)(ws:uG),vs=[.ref b]->H b=U (.lst (ws.map tx))->⇑ws<=200->(∀w∈ws,⇑w<=41)->(∀(p:AD) (kvs:List (uQ×V)) (H2:Hp),ky H H2->H p=O->H2 p=U (.dK kvs)->oS ws kvs->Q (.ref p) H2)->sp_NV
inductive sp_NC:SQ K a vs H Q E
 | mk:∀(p:AD) (kvs:List (uQ×V)) (ws:uG) (u:uz),vs=[.ref p,tx u]->Rd H p (.dK kvs)->oS ws kvs->⇑u<=1000->(∀e H2,ky H H2->zq ws u e->Q (tx e) H2)->sp_NC
inductive sp_N5:SQ K a vs H Q E
 | mk:∀(b:AD)(ws:uG)(m:uz),vs=[.ref b,tx m]->H b=U (.lst (ws.map tx))->KO m->GL m ws->(∀(p:AD) (kw:List (uQ×V)) (ss:uG) (H2:Hp),ky H H2->H p=O->H2 p=U (.dK kw)->lY H2 p kw ws m ss->oo ws ss->Q (.ref p) H2)->sp_N5
inductive sp_NQ:SQ K a vs H Q E
 | mk:∀(p:AD) (kw:List (uQ×V)) (ws ss:uG) (m:uz),vs=[.ref p]->H p=U (.dK kw)->lY H p kw ws m ss->oo ws ss->KO m->GL m ws->(∀(q:AD)(es:uG)(H2:Hp),ky H H2->H q=O->H2 q=U (.lst (es.map tx))->oU ws m ss es->Q (.ref q) H2)->sp_NQ
inductive sp_LX:SQ K a vs H Q E
 | mk:∀(p q:AD) (kw:List (uQ×V)) (ws ss es:uG) (m:uz),vs=[.ref p,.ref q]->H p=some (.dK kw)->lY H p kw ws m ss->oo ws ss->KO m->GL m ws->mO ws->H q=some (.lst (es.map tx))->oU ws m ss es->[]∉es->(∀x y,pR ws m (λs=>s∈es) x y->X2 a.c_MD "head" "lap" E H x y)->sp_LX
inductive sp_MS:SQ K a vs H Q E
 | mk:∀(p q:AD) (kw:List (uQ×V)) (ws ss es:uG) (m:uz),vs=[.ref p,.ref q]->H p=U (.dK kw)->lY H p kw ws m ss->oo ws ss->KO m->GL m ws->mO ws->H q=U (.lst (es.map tx))->oU ws m ss es->[]∈es->(∀x H2,ky H H2->LF ws m [] x->Q (tx x) H2)->sp_MS
inductive sp_MT:SQ K a vs H Q E
 | mk:∀(b:AD)(ws:uG)(m:uz)(x:uz),vs=[.ref b,tx m,tx x]->H b=U (.lst (ws.map tx))->GL m ws->mh x m->((∀w∈vF x m,¬Av ws w)->∀H2,ky H H2->Q .non H2)->(∀w,Rv ws (vF x m) w->X2 a.c_NL "one" "other" E H x w)->sp_MT
inductive sp_MB:SQ K a vs H Q E
 | mk:∀(b:AD)(ws:uG)(m:uz),vs=[.ref b,tx m]->H b=U (.lst (ws.map tx))->Bk m->⇑ws<=50->TT a H->Bt a m E H ws->sp_MB
inductive sp_LG:SQ K a vs H Q E
 | mk:∀(p q dA la da:AD) (l m:uz) (ds:List (Bool×Nat)) (F:List Kp),vs=[.ref p,.ref q]->kR a H p dA m F->kH a.c_NM H q la da l m ds->Q .non H->sp_LG
inductive sp_MQ:SQ K a vs H Q E
 | mk:∀n:uz,vs=[tx n]->⇑n<=1000->(∀H2,ky H H2->Q (.bl (vX n)) H2)->sp_MQ
inductive sp_K6:SQ K a vs H Q E
 | mk:∀(p dx:AD)(u:V),vs=[.ref p,u]->H p=U (.ins a.c_NK dx [])->((∃m,u=tx m/\Bk m/\∀dA H2,kR a H2 p dA m []->H dA=O->(∀b o,H b=U o->b≠p->H2 b=U o)->Q .non H2)\/(oI K H u/\Jk a E H))->sp_K6
inductive sp_KQ:SQ K a vs H Q E
 | mk:∀(p dA:AD)(m:uz)(F:List Kp),vs=[.ref p]->kR a H p dA m F->Q (tx m) H->sp_KQ
inductive sp_KA:SQ K a vs H Q E
 | mk:∀(p dA:AD)(m n:uz)(F:List Kp),vs=[.ref p,tx n]->kR a H p dA m F->vX n=Y->((∀r∈F,r.n≠n)->∀H2,ky H H2->Q .non H2)->(∀r∈F,r.n=n->Fa a E H n)->sp_KA
inductive sp_LO:SQ K a vs H Q E
 | mk:∀(p dA q la da:AD) (l m n:uz) (ds:List (Bool×Nat)) (F:List Kp),vs=[.ref p,tx n,.ref q]->kR a H p dA m F->kH a.c_NM H q la da l m ds->vX n=Y->⇑F<=1000->((∀r∈F,r.n≠n)->∀(r:Kp)(H2:Hp),r.n=n->r.l=l->r.ds=ds->H r.p=O->H r.la=O->H r.da=O->lQ dA H H2->kR a H2 p dA m (F++[r])->Q .non H2)->(∀r∈F,r.n=n->Fa a E H n)->sp_LO
inductive sp_KR:SQ K a vs H Q E
 | mk:∀(p dA:AD)(m:uz)(F:List Kp),vs=[.ref p]->kR a H p dA m F->⇑F<=60->(∀r H2,ky H H2->H r=O->H2 r=U (.lst ((xx (F.map (·.n))).map tx))->Q (.ref r) H2)->sp_KR
inductive sp_K7:SQ K a vs H Q E
 | mk:∀(p dA:AD)(m n:uz)(F:List Kp),vs=[.ref p,tx n]->kR a H p dA m F->RF a E H F n (λr=>∀H2,ky H H2->Q (.ref r.p) H2)->sp_K7
inductive sp_KS:SQ K a vs H Q E
 | mk:∀(p dA:AD)(m n:uz)(F:List Kp),vs=[.ref p,tx n]->kR a H p dA m F->RF a E H F n (λr=>∀(p2 la2 da2:AD)(H2:Hp),ky H H2->kH a.c_NM H2 p2 la2 da2 r.l m r.ds->H p2=O->H la2=O->H da2=O->Q (.ref p2) H2)->sp_KS
inductive sp_K8:SQ K a vs H Q E
 | mk:∀(p dA:AD)(m n:uz)(F:List Kp),vs=[.ref p,tx n]->kR a H p dA m F->RF a E H F n (λ_=>False)->sp_K8
inductive sp_LP:SQ K a vs H Q E
 | mk:∀(p dA:AD)(m n:uz)(F:List Kp)(u:uz),vs=[.ref p,tx n,tx u]->kR a H p dA m F->TT a H->⇑u<=1000->RF a E H F n (λr=>(zf u m=J/\XW a E H u)\/∃c0∈m,u=[c0]/\r.l=[]/\r.ds=[]/\Ea a H m r.p r.da [c0] [(Y,c0)] Q)->sp_LP
inductive sp_K5:SQ K a vs H Q E
 | mk:∀(p dA:AD)(m n:uz)(F:List Kp),vs=[.ref p,tx n]->kR a H p dA m F->RF a E H F n (λr=>r.l=[]/\zx a.c_NX E H)->sp_K5
inductive sp_K4:SQ K a vs H Q E
 | mk:∀(p dA:AD)(m n:uz)(F:List Kp),vs=[.ref p,tx n]->kR a H p dA m F->TT a H->RF a E H F n (λr=>(r.ds=[]/\zx a.c_MV E H)\/∃c0,r.l=[c0]/\r.ds=[(Y,c0)]/\Ea a H m r.p r.da [] [] Q)->sp_K4
inductive sp_KM:SQ K a vs H Q E
 | mk:∀(x y:V),vs=[x,y]->False->sp_KM
inductive sp_LE:SQ K a vs H Q E
 | mk:∀w:uz,vs=[tx w]->⇑w<=1000->(∀H2,ky H H2->Q (.bl (oR w)) H2)->sp_LE
inductive sp_LT:SQ K a vs H Q E
 | mk:∀w:uz,vs=[tx w]->⇑w<=1000->(∀H2,ky H H2->Q (.bl (nZ w)) H2)->sp_LT
inductive sp_MO:SQ K a vs H Q E
 | mk:∀w f:uz,vs=[tx w,tx f]->⇑w<=1000->(∀H2,ky H H2->Q (.bl (zZ w f)) H2)->sp_MO
inductive sp_L0:SQ K a vs H Q E
 | mk:∀(vb:uz)(n:Nat)(fs:uG),vs=[tx vb,.int n]->FT.lookup vb=U fs->n<=900->(∀(r:AD) H2,ky H H2->H r=O->H2 r=U (.lst ((yc fs n).map tx))->Q (.ref r) H2)->sp_L0
inductive sp_MP:SQ K a vs H Q E
 | mk:∀(b:AD)(ws:uG),vs=[.ref b]->H b=U (.lst (ws.map tx))->Ln ws->(∀H2,ky H H2->Q (.bl (CK ws)) H2)->sp_MP
inductive sp_MC:SQ K a vs H Q E
 | mk:∀w:uz,vs=[tx w]->⇑w<=100->IM w->(∀H2,ky H H2->Q (vo w) H2)->sp_MC
inductive sp_N2:SQ K a vs H Q E
 | mk:∀(ws:uG),vs=[tx (glue [32] ws)]->Ln ws->(CK ws=J->XC a.c_MW [] E H)->(CK ws=Y->(∀w∈ws.tail,IM w)/\∀(t g:AD)(vb:uz)(us:uG)(H2:Hp),ws=vb::us->ky H H2->H2 t=U (.tup [tx vb,.ref g])->H2 g=U (.lst (us.map vo))->Q (.ref t) H2)->sp_N2
inductive sp_N1:SQ K a vs H Q E
 | mk:∀(p la da:AD) (l m:uz) (ds:List (Bool×Nat)) (k:Int),vs=[.ref p,.int k]->kH a.c_NM H p la da l m ds->¬(0<=k/\k<=⇑l-1)->XC a.c_MH (wa "place" [.int k]) E H->sp_N1
inductive sp_KL:SQ K a vs H Q E
 | mk:∀(x y z:V),vs=[x,y,z]->False->sp_KL
inductive sp_LN:SQ K a vs H Q E
 | mk:∀(p dx:AD)(l m:uz),vs=[.ref p,tx l,tx m]->H p=U (.ins a.c_N0 dx [])->Bk m->⇑l<=1000->(x5 m l=J->∀H2,(∀b o,H b=U o->b≠p->H2 b=U o)->Q .non H2)->(x5 m l=Y->XC a.c_MZ (wa "thing" [tx l]) E H)->sp_LN
inductive sp_NR:SQ K a vs H Q E
 | mk:∀(s L:uz),vs=[tx s,tx L]->⇑L<=3->yo s L->TT a H->(∀(F:uG)(r:AD)(H2:Hp),F.Pairwise lS->(∀w,w∈F↔xE s L w)->lJ H H2->TT a H2->Nw H r->H2 r=U (.lst (F.map tx))->Q (.ref r) H2)->sp_NR
inductive sp_NE:SQ K a vs H Q E
 | mk:∀(s L rs m:uz),vs=[tx s,tx L,tx rs]->⇑L<=3->yo s L->(∀x∈L,x∈m)->m.Pairwise (· < ·)->TT a H->(∀(ys:Se)(r:AD)(H2:Hp),lJ H H2->TT a H2->Nw H r->H2 r=U (.lst ys)->lX H2 ys (E7 rs s L m)->Q (.ref r) H2)->sp_NE
inductive sp_NH:SQ K a vs H Q E
 | mk:∀(s L rs m:uz),vs=[tx s,tx L,tx m,tx rs]->⇑L<=3->yo s L->(∀x∈L,x∈m)->m.Pairwise (· < ·)->⇑m<=4->TT a H->(∀(ys:Se)(r:AD)(H2:Hp),lJ H H2->TT a H2->Nw H r->H2 r=U (.lst ys)->lX H2 ys (D6 rs s L m)->Q (.ref r) H2)->sp_NH
inductive sp_LC:SQ K a vs H Q E
 | mk:∀(p dx:AD)(m:uz),vs=[.ref p,tx m]->H p=U (.ins a.c_NM dx [])->Bk m->(∀la da H2,kH a.c_NM H2 p la da [] m []->H la=O->H da=O->(∀b o,H b=U o->b≠p->H2 b=U o)->Q .non H2)->sp_LC
inductive sp_KF:SQ K a vs H Q E
 | mk:∀(p la da:AD) (l m:uz) (ds:List (Bool×Nat)),vs=[.ref p]->kH a.c_NM H p la da l m ds->(∀r,H r=O->Q (.ref r) (upd H r (.lst ((vF l m).map tx))))->sp_KF
inductive sp_LQ:SQ K a vs H Q E
 | mk:∀(p la da:AD) (l m:uz) (ds:List (Bool×Nat)) (u:uz),vs=[.ref p,tx u]->kH a.c_NM H p la da l m ds->TT a H->⇑u<=1000->((zf u m=J/\XW a E H u)\/∃c0∈m,u=[c0]/\l=[]/\ds=[]/\Ea a H m p da [c0] [(Y,c0)] Q)->sp_LQ
inductive sp_LA:SQ K a vs H Q E
 | mk:∀(p la da:AD) (l m:uz) (ds:List (Bool×Nat)),vs=[.ref p]->kH a.c_NM H p la da l m ds->l=[]->zx a.c_NX E H->sp_LA
inductive sp_K9:SQ K a vs H Q E
 | mk:∀(p la da:AD) (l m:uz) (ds:List (Bool×Nat)),vs=[.ref p]->kH a.c_NM H p la da l m ds->TT a H->((ds=[]/\zx a.c_MV E H)\/∃c0,l=[c0]/\ds=[(Y,c0)]/\Ea a H m p da [] [] Q)->sp_K9
inductive sp_LB:SQ K a vs H Q E
 | mk:∀(p la da:AD)(s L m:uz),vs=[.ref p,tx L]->DQ a.c_NM H p la da s m->H la=U (.lst ((vF s m).map tx))->⇑L<=3->yo s L->(∀x∈L,x∈m)->nJ m->TT a H->(∀(t c g la2:AD)(H2:Hp),we [p] H H2->DQ a.c_NM H2 p la2 da L m->H2 la2=U (.lst ((vF L m).map tx))->ph H H2 t c g la2 (D6 s!"first" s L m) (E7 s!"stands" s L m)->TT a H2->Q (.ref t) H2)->sp_LB
inductive sp_KP:SQ K a vs H Q E
 | mk:∀(p la da:AD)(s L m:uz),vs=[.ref p,tx s]->DQ a.c_NM H p la da L m->H la=U (.lst ((vF L m).map tx))->⇑L<=3->yo s L->(∀x∈L,x∈m)->nJ m->TT a H->(∀(t c g la2:AD)(H2:Hp),we [p] H H2->DQ a.c_NM H2 p la2 da s m->H2 la2=U (.lst ((vF s m).map tx))->ph H H2 t c g la2 (E7 s!"stood" s L m) (D6 s!"last" s L m)->TT a H2->Q (.ref t) H2)->sp_KP
inductive sp_KN:SQ K a vs H Q E
 | mk:∀(p la da c g:AD) (l l2 m:uz) (old new:uG) (ys zs:Se) (rc rg:List (uz×Se)),vs=[.ref p,tx l2,.ref c,.ref g]->DQ a.c_NM H p la da l m->H la=U (.lst (old.map tx))->H c=U (.lst ys)->lX H ys rc->H g=U (.lst zs)->lX H zs rg->old.Pairwise lS->new.Pairwise lS->(rc.map (·.1)).Nodup->(∀w,w∈rc.map (·.1)↔w∈new/\w∉old)->(∀w,w∈rg.map (·.1)↔w∈old/\w∉new)->⇑old<=30->⇑rc<=30->⇑rg<=9000->(∀w∈old,⇑w<=1000)->(∀w∈new,⇑w<=1000)->TT a H->(∀(t la2:AD)(H2:Hp),we [p] H H2->DQ a.c_NM H2 p la2 da l2 m->Nw H la2->H2 la2=U (.lst (new.map tx))->H2 t=U (.tup [.ref c,.ref g])->TT a H2->Q (.ref t) H2)->sp_KN
inductive sp_KO:SQ K a vs H Q E
 | mk:∀(p la da:AD) (l m:uz) (ds:List (Bool×Nat)),vs=[.ref p]->kH a.c_NM H p la da l m ds->(∀(p2 la2 da2:AD)(H2:Hp),ky H H2->kH a.c_NM H2 p2 la2 da2 l m ds->H p2=O->H la2=O->H da2=O->Q (.ref p2) H2)->sp_KO
inductive sp_LH:SQ K a vs H Q E
 | mk:∀(b:AD)(ws:uG),vs=[.ref b]->H b=U (.lst (ws.map tx))->⇑ws<=1000->(ws.map fu).sum<=100000->(∀H2,ky H H2->Q (tx (mS (glue [32] ws))) H2)->sp_LH
inductive sp_KU:SQ K a vs H Q E
 | mk:∀(b c:AD)(ws us:uG),vs=[.ref b,.ref c]->H b=U (.lst (ws.map tx))->H c=U (.lst (us.map tx))->⇑ws<=1000->(ws.map fu).sum<=100000->⇑us<=1000->(us.map fu).sum<=100000->(∀H2,ky H H2->Q (tx (mS (glue [32] ws)++s!" / "++mS (glue [32] us))) H2)->sp_KU
inductive sp_KV:SQ K a vs H Q E
 | mk:∀(t c g:AD)(ys zs:Se)(rc rg:IH),vs=[.ref t]->H t=U (.tup [.ref c,.ref g])->H c=U (.lst ys)->H g=U (.lst zs)->lX H ys rc->lX H zs rg->D4 rc->D4 rg->(∀H2,ky H H2->Q (tx (tch rc rg)) H2)->sp_KV
inductive sp_MN:SQ K a vs H Q E
 | mk:∀(p g dA:AD)(m n:uz)(F:List Kp),vs=[.ref p,.ref g]->yp a H p g dA m F [tx n]->vX n=Y->pE a H p dA m n [] [] F QW Q->(∀r∈F,r.n=n->Fa a E H n)->sp_MN
inductive sp_M9:SQ K a vs H Q E
 | mk:∀(p g dA:AD)(m n:uz)(F:List Kp),vs=[.ref p,.ref g]->yp a H p g dA m F [tx n]->RF a E H F n (λ_=>False)->sp_M9
inductive sp_NO:SQ K a vs H Q E
 | mk:∀(p g dA:AD)(m n:uz)(F:List Kp)(u:uz),vs=[.ref p,.ref g]->yp a H p g dA m F [tx n,tx u]->⇑u<=100->RF a E H F n (λr=>(zf u m=J/\XW a E H u)\/∃c0∈m,u=[c0]/\r.l=[]/\r.ds=[]/\ED a H m r.p r.da [c0] [(Y,c0)] Q)->sp_NO
inductive sp_M2:SQ K a vs H Q E
 | mk:∀(p g dA:AD)(m n:uz)(F:List Kp),vs=[.ref p,.ref g]->yp a H p g dA m F [tx n]->RF a E H F n (λr=>r.l=[]/\zx a.c_NX E H)->sp_M2
inductive sp_M1:SQ K a vs H Q E
 | mk:∀(p g dA:AD)(m n:uz)(F:List Kp),vs=[.ref p,.ref g]->yp a H p g dA m F [tx n]->RF a E H F n (λr=>(r.ds=[]/\zx a.c_MV E H)\/∃c0,r.l=[c0]/\r.ds=[(Y,c0)]/\ED a H m r.p r.da [] [] Q)->sp_M1
inductive sp_M3:SQ K a vs H Q E
 | mk:∀(p g dA:AD)(m n:uz)(F:List Kp)(us:uG),vs=[.ref p,.ref g]->yp a H p g dA m F (tx n::us.map tx)->vX n=Y->⇑us<=50->(((∃r∈F,r.n=n)/\Fa a E H n)\/((∀r∈F,r.n≠n)/\Bt a m E H us))->sp_M3
inductive sp_MK:SQ K a vs H Q E
 | mk:∀(p g dA:AD)(m:uz)(F:List Kp),vs=[.ref p,.ref g]->yp a H p g dA m F []->(∀H2,ky H H2->Q (tx (mS (glue [32] (xx (F.map (·.n)))))) H2)->sp_MK
inductive sp_NA:SQ K a vs H Q E
 | mk:∀(p g dA:AD)(m n:uz)(F:List Kp),vs=[.ref p,.ref g]->yp a H p g dA m F [tx n]->RF a E H F n (λr=>∀H2,ky H H2->Q (tx (mS r.l)) H2)->sp_NA
inductive sp_MJ:SQ K a vs H Q E
 | mk:∀(p g dA:AD)(m n:uz)(F:List Kp),vs=[.ref p,.ref g]->yp a H p g dA m F [tx n]->RF a E H F n (λr=>∀H2,ky H H2->Q (tx (mS (glue [32] (vF r.l m)))) H2)->sp_MJ
inductive sp_NN:SQ K a vs H Q E
 | mk:∀(p g dA:AD)(m n:uz)(F:List Kp)(u:uz),vs=[.ref p,.ref g]->yp a H p g dA m F [tx n,tx u]->⇑u<=100->RF a E H F n (λ_=>wv u m 60=J/\XW a E H u)->sp_NN
inductive sp_ML:SQ K a vs H Q E
 | mk:∀(p g dA:AD)(m n:uz)(F:List Kp)(u:uz),vs=[.ref p,.ref g]->yp a H p g dA m F [tx n,tx u]->⇑u<=100->RF a E H F n (λ_=>wv u m 60=J/\XW a E H u)->sp_ML
inductive sp_M5:SQ K a vs H Q E
 | mk:∀(p g dA:AD)(m n:uz)(F:List Kp)(k:Int),vs=[.ref p,.ref g]->yp a H p g dA m F [tx n,.int k]->RF a E H F n (λr=>¬(1<=k/\k<=⇑r.l)/\XC a.c_LZ (wa "length" [.int k]) E H)->sp_M5
inductive sp_M4:SQ K a vs H Q E
 | mk:∀(p g dA:AD)(m n:uz)(F:List Kp)(k:Int),vs=[.ref p,.ref g]->yp a H p g dA m F [tx n,.int k]->RF a E H F n (λr=>¬(0<=k/\k<=⇑r.l-1)/\XC a.c_MH (wa "place" [.int k]) E H)->sp_M4
inductive sp_MM:SQ K a vs H Q E
 | mk:∀(p g dA:AD)(m n:uz)(F:List Kp),vs=[.ref p,.ref g]->yp a H p g dA m F [tx n]->RF a E H F n (λ_=>False)->sp_MM
inductive sp_M6:SQ K a vs H Q E
 | mk:∀(p g dA:AD)(m n:uz)(F:List Kp),vs=[.ref p,.ref g]->yp a H p g dA m F [tx n]->RF a E H F n (λ_=>False)->sp_M6
inductive sp_M7:SQ K a vs H Q E
 | mk:∀(p g dA:AD)(m u:uz)(F:List Kp),vs=[.ref p,.ref g]->yp a H p g dA m F [tx u]->⇑u<=100->x5 m u=Y->XC a.c_MZ (wa "thing" [tx u]) E H->sp_M7
inductive sp_M8:SQ K a vs H Q E
 | mk:∀(p g dA:AD)(m u w:uz)(F:List Kp),vs=[.ref p,.ref g]->yp a H p g dA m F [tx u,tx w]->⇑u<=100->⇑w<=100->((x5 m u=Y/\XC a.c_MZ (wa "thing" [tx u]) E H)\/(x5 m u=J/\x5 m w=Y/\XC a.c_MZ (wa "thing" [tx w]) E H))->sp_M8
inductive sp_LK:SQ K a vs H Q E
 | mk:∀(dk dx:AD)(u:V),vs=[.ref dk,u]->H dk=U (.ins a.c_NY dx [])->((∃m,u=tx m/\Bk m/\∀p dA H2,lV a H2 dk p dA m []->H p=O->H dA=O->(∀b o,H b=U o->b≠dk->H2 b=U o)->Q .non H2)\/(oI K H u/\Jk a E H))->sp_LK
inductive sp_LY:SQ K a vs H Q E
 | mk:∀(dk p dA:AD)(m:uz)(F:List Kp)(ws:uG),vs=[.ref dk,tx (glue [32] ws)]->lV a H dk p dA m F->TT a H->⇑F<=60->Ln ws->nQ a H p dA m F Q E ws->sp_LY
inductive sp_NT:SQ K a vs H Q E
 | mk:∀(b:AD)(ns:List Int)(k:Int),vs=[.ref b,.int k]->vO K H b (ns.map V.int)->0<=k->(∀r:Int,Q (.int r) H)->sp_NT
inductive sp_NU:SQ K a vs H Q E
 | mk:∀(c k:Int),vs=[.int c,.int k]->Q (.int (lN c k)) H->sp_NU
inductive sp_NG:SQ K a vs H Q E
 | mk:∀(c:Int)(g:AD)(k:Nat),vs=[.int c,.int 3]->H g=U (.gho k)->1<=k->(∀(one two non:uz)(t1 t2 t3 k2:Nat)(r:AD)(H2:Hp),(∀b o,H b=U o->b≠g->H2 b=U o)->H2 g=U (.gho k2)->H r=O->H2 r=U (.lst [.tok #[↑one] t1,.tok #[↑two] t2,.tok #[↑non] t3])->0<t3->t3<k2->vX one=Y->vX two=Y->vX non=Y->one≠two->one≠non->two≠non->Q (.ref r) H2)->sp_NG
inductive sp_L5:SQ K a vs H Q E
 | mk:∀(p dA b g:AD)(m one two non:uz)(c t1 t2 t3 k:Nat)(F:List Kp),vs=[.ref b,tx [c]]->H b=U (.lst [.tok #[↑one] t1,.tok #[↑two] t2,.tok #[↑non] t3])->yF c one two non F->K8 m c->H g=U (.gho k)->t3<k->0<t3->(∀(r:AD) (ys:Se) (k2:Nat) H2,(∀b o,H b=U o->b≠g->H2 b=U o)->H2 g=U (.gho k2)->k<=k2->H2 r=U (.lst ys)->lP a p dA m F H2 ys->⇑ys<=60->Q (.ref r) H2)->sp_L5
inductive sp_L8:SQ K a vs H Q E
 | mk:∀(p dA b g:AD)(m one two non:uz)(c t1 t2 t3 k:Nat)(F:List Kp),vs=[.ref b,tx [c]]->H b=U (.lst [.tok #[↑one] t1,.tok #[↑two] t2,.tok #[↑non] t3])->yF c one two non F->K8 m c->H g=U (.gho k)->t3<k->0<t3->(∀(r:AD) (ys:Se) (k2:Nat) H2,(∀b o,H b=U o->b≠g->H2 b=U o)->H2 g=U (.gho k2)->k<=k2->H2 r=U (.lst ys)->lP a p dA m F H2 ys->⇑ys<=60->Q (.ref r) H2)->sp_L8
inductive sp_L6:SQ K a vs H Q E
 | mk:∀(p dA b g:AD)(m one two non:uz)(c t1 t2 t3 k:Nat)(F:List Kp),vs=[.ref b,tx [c]]->H b=U (.lst [.tok #[↑one] t1,.tok #[↑two] t2,.tok #[↑non] t3])->yF c one two non F->K8 m c->H g=U (.gho k)->t3<k->0<t3->(∀(r:AD) (ys:Se) (k2:Nat) H2,(∀b o,H b=U o->b≠g->H2 b=U o)->H2 g=U (.gho k2)->k<=k2->H2 r=U (.lst ys)->lP a p dA m F H2 ys->⇑ys<=60->Q (.ref r) H2)->sp_L6
inductive sp_L7:SQ K a vs H Q E
 | mk:∀(p dA b:AD)(m one two non:uz)(c d t3:Nat)(rs:uz)(F:List Kp),vs=[.tok ⟨↑non⟩ t3,tx [c],tx [d],.ref b]->H b=some (.lst (rs.map λx=>tx [x]))->yF c one two non F->K9 m c d rs->(∀(r:AD) (ys:Se) H2,ky H H2->H2 r=U (.lst ys)->lP a p dA m F H2 ys->0<⇑ys->⇑ys<=60->Q (.ref r) H2)->sp_L7
inductive sp_ND:SQ K a vs H Q E
 | mk:∀(e C:AD) (i:Nat) (fs:List (Str×V)) (d:uz),vs=[.ref e]->(CL a)[i]?=U C->Fd i fs d->6<=i->mU H e C fs->Q (tx d) H->sp_ND
inductive sp_NF:SQ K a vs H Q E
 | mk:∀(e C:AD) (i:Nat) (fs:List (Str×V)) (d:uz),vs=[.ref e]->(CL a)[i]?=U C->Fd i fs d->mU H e C fs->Q (tx d) H->sp_NF
inductive sp_N3:SQ K a vs H Q E
 | mk:∀(dk p dA:AD)(m:uz)(F:List Kp)(ws:uG),vs=[.ref dk,tx (glue [32] ws)]->lV a H dk p dA m F->TT a H->⇑F<=60->Ln ws->nQ a H p dA m F (λ_ H2=>Q (tx s!"made") H2) (XT a Q) ws->sp_N3
inductive sp_N4:SQ K a vs H Q E
 | mk:∀(dk p dA b:AD)(m one two non:uz)(c t1 t2 t3:Nat)(F:List Kp),vs=[.ref dk,.ref b]->lV a H dk p dA m F->TT a H->yF c one two non F->H b=U (.lst [.tok #[↑one] t1,.tok #[↑two] t2,.tok #[↑non] t3])->(∀(r:AD) H2,ky H H2->H2 r=U (.lst ((KL m F).map tx))->Q (.ref r) H2)->sp_N4
inductive sp_L4:SQ K a vs H Q E
 | mk:∀v,vs=[v]->oI K H v->(∀H2,ky H H2->Q (.bl Y) H2)->sp_L4
end
def spLaw (K:uH)(tb:Str->AD×AD):Sp:=λc H Q _=>∃(b:AD)(a:List Int),c=[.ref b]/\vO K H b (a.map V.int)/\⇑a<=63/\lZ H (tb "in_order").2 lpos lq/\∀d,Q (.bl Y) d
section
local macro_rules | `(tactic| walk_at "r0") => do
 let l<-("qb pJ Fj Pg pU tC xW um Iz tRet tIfS QF tB tNot tAnd Pf Rr tOrV NP My Py pZ Mf ZsW ZsT ZsV ZsU Na Hf KK Ny Nf KD tBM0 Pq QM pA qr L2.start cxK bxK cxPr cxWo suxK ZrM ZrL Nm tTry Qm PR Pl qm LM Ol Qh Ix ZsX Zqj OM Ql KS Qa qc oY Option.bind_some Option.bind_none Option.join_some Option.join_none List.map_cons List.map_nil List.length_cons List.length_nil Nat.zero_add Nat.reduceAdd Nat.reduceSub List.replicate_succ List.replicate_zero List.cons_append List.nil_append List.append_nil List.getElem?_cons_zero List.getElem?_cons_succ List.set_cons_zero List.set_cons_succ q_I q_I0 q_U q_T EB ut rK Zor Oy Lq qD sFld PP tAug Qq P2 pI QT NY tDIn Rs ND RE O9 MC Os OJ P9 rDct MW MH NH tOr2 gLst Ro MJ N9 OP N7 KH".splitOn " ").toArray.mapM λs=>do return Lean.mkIdent (`_root_++((<-Lean.Macro.resolveGlobalName s.toName).head!.1))
 `(tactic| simp only [$[$l:ident],*])
local macro_rules | `(tactic| walk_at "r1") => do
 let some t <-Lean.Macro.expandMacro? (<-`(tactic| walk_at "r0")) | Lean.Macro.throwUnsupported
 match (⟨t⟩:Lean.TSyntax `tactic) with
 | `(tactic| simp only[$l,*])=>let d:=⟨l.elemsAndSeps⟩;`(tactic| dsimp only[$d,*])
 | _=>Lean.Macro.throwUnsupported
def Zms (h:let T:=CN t;qb s T D σ H):qb s (CN t) D σ H:=h
local macro_rules | `(tactic| omega) => `(tactic| ((try (with_reducible refine Zms ?_; intro)); first | (walk_at "r1"; try walk_at "r0") | walk_at "r0"))
abbrev ux (k:Nat)(l:List Str)(s:Stmt):=ku l (l.take k) (xh s)
def scB (N P:AJ)(c:Scope):Bool:=R N.Nodup&&P.all (λx=>R (c.names.lookup x=U .local\/c.names.lookup x=U .cell))&&c.names.all λy=>R (y.2≠.free)
def kuO {N P:AJ}{c:Scope}(a:c.kind=.function)(b:c.isCoroutine=J)(d:c.isGenerator=J)(e:N.take ⇑P=P)(h:scB N P c=Y):ku N P c:=by unfold scB at h;simp only[Bool.and_eq_true,List.all_eq_true,decide_eq_true_eq]at h;exact#[a,b,d,h.1.1,e,h.1.2,h.2]
local macro_rules | `(tactic| ac_rfl) => `(tactic| exact kuO rfl rfl rfl rfl (by decide +kernel))
local macro_rules | `(tactic| cutsat) => `(tactic| (refine vv ?_;omega))
local macro_rules | `(tactic| walk_at "ln") => `(tactic| (intro _ _ _ _ h; rcases h with ⟨⟩; subst_vars; rfl))
#synth [Zst 2 qN text letters,Zfc 2 Lf self word,Zss 1 qV words,ZrR 2 uf text length,F7 3 tK shorter standing kinds found head letter word,ZrO 2 qH text word,Zr9 3 sA thing least most,ZsH 2 qY self length,Zsv 1 qL self,ZsF 1 rC self,Zsi 1 ur self,Zsw 1 qE self,Zef 2 KW self length,Zff 2 Jn self word,ZrU 2 sB words word,Zfh 3 Kc self one other,IJ 1 sR words stems word size,LL 2 rX stems text start,CM 1 qA ways sources left stem reached ended "at",ZeD 3 JY self head lap,Hj 2 tD ways ended longest stem letter word,ZfS 3 LG self one other,Zsj 3 sL self text kinds,ZeA 2 KZ self word,Ll 2 tJ verb many forms needed,ZeB 2 Jp self place,PJ 1 rS parts told,ZsC 1 rj self,Zfe 2 Jx self name,ZdV 2 Ld self name,ZsB 1 t7 self,Zfd 2 Lz self thing,ZrN 2 rB _law_script _law_k,J0 2 sg _law_cell _law_k _law_number,Db 2 oh _law_names_here _law_a _law_one _law_two _law_none _law_some,EE 2 oz _law_names_here _law_a _law_one _law_two _law_none _law_some _law_line,Cf 2 rn _law_names_here _law_a _law_one _law_two _law_none _law_some,Jd 4 ub _law_none _law_a _law_b _law_rest _law_some,ZrT 1 ri _law_e,Zsr 1 rO thing,ZrW 3 sW thing kinds most,Zsu 2 sY self length,Gv 2 tE words kinds stems ways stem onward,Zsk 2 sK one other,Zsm 1 re word,Zsa 1 qQ word,KQ 2 ug lesser longer edges size,Zsy 2 uc one other,LN 4 qZ self text came went gone kept,Zr0 2 qX shelf given,DB 2 tz _law_cell _law_many _law_letters _law_base _law_size _law_at _law_names_here _law_k _law_sign,ZrS 1 rE _law_e,Zsb 2 qJ thing kinds,Zsl 1 rY thing,Zr8 3 sP thing kinds most,Fh 1 rP self found shorter length standing,LB 1 si words other one,Dr 2 sI ways ended stopping stem gone met letter,ZrX 1 sv thing,Zr2 1 sJ word,RX 2 sZ strip place text length start word,RG 3 uq lesser longer reason word,Fg 4 tQ lesser longer kinds reason found shorter told letter word,Zsx 1 rq change,ZsD 2 qz self strip ranks name share ahead,Zsz 2 sV thing kinds,ZsG 2 rR self word found,Zsn 2 rF strip word,LX 2 ua words kinds ahead word,ZsN 3 uj self text kinds,ZrY 2 sj word form,Zso 2 tS self kinds,ZsI 2 rZ self name,ZsJ 2 rV self name,Mm 2 rN self longer came went,KA 2 rH self lesser came went,ZsE 3 ui self text kinds,Zsg 3 qP self text kinds,ZsK 2 qC self kinds,Qs 2 LI band word place found,Zsc 2 qU strip word,JU 1 qO words given forms,Oc 2 tZ self name strip,Zsd 2 rL self letter,Zsp 1 t9 self,Ox 1 uh self deed,NQ 3 rM words kinds text word,QB 1 qG line words,O3 1 so self twin,Zr3 2 t8 shelf given,Zse 3 tH self name letter,ZsL 2 sD self name,ZsM 2 ud self name,QD 2 rA shelf given ring,JQ 2 rG shelf given one other,Zsh 2 t5 self kinds,Go 2 qF words kinds ordered ways ended text,Zsf 3 sQ self name strip,ZrP 2 qI shelf given,Zr6 2 rD shelf given,Zr7 2 tw shelf given,ZsA 2 tU self name,Zsq 2 sU strip length word,ZrZ 2 sT shelf given,MZ 2 tI shelf given text strip letter,ZrV 2 qT shelf given,Zr1 2 qR shelf given,ZrQ 2 rp shelf given,Ja 2 tO shelf given strip word times,Zr5 2 qM shelf given,ON 2 sk shelf given machine,QA 2 sX shelf given ranks,K0 1 tF _law_thing _law_found,Zr4 2 r6 shelf given,Ly 2 tV self line told answer,Iq 2 tP _law_desk _law_line _law_found _law_e,IY 2 qS _law_desk _law_names_here _law_asked _law_name,zP 1 JT _law_script _law_cell _law_names_here _law_kinds _law_a _law_desk _law_line _law_seen_here _law_some _law_k _law_due]
local macro_rules | `($f:ident $a*)=>do
 let k:=f.getId.toString++" "
 let some r:=("uD 5 2 0;uP 3 1 0;uK 3 1 0;uY 4 1 0;wc 4 1 0;vh 7 4 0;uL 8 3 0;vM 8 3 0;vd 3 3 4;uy 5 2 1;yu 12 6 5".splitOn ";").find? (k.isPrefixOf ·) | Lean.Macro.throwUnsupported
 let n:=((r.splitOn " ").tail!.map (·.toNat!)).toArray
 if a.size != n[1]! then Lean.Macro.throwUnsupported
 let u<-`(_)
 let z<-`(by rfl)
 let mut l:=(List.replicate n[0]! u).toArray
 let mut b:=a
 let mut e:=(List.replicate n[2]! z).toArray
 if k=="vd " then
  if !a[0]!.raw.isOfKind ``Lean.Parser.Term.namedArgument then Lean.Macro.throwUnsupported
  l:=l.push (.mk a[0]!.raw[3])++[u,u,u].toArray
  b:=[a[1]!,a[2]!].toArray
  e:=[z,<-`(by exact i0 rfl),z,<-`(by first | exact .inl rfl | exact .inr rfl)].toArray
 let c<-`(@$f)
 return Lean.Syntax.mkApp c (l++b++e)
variable (T:TL w K mg base a tb)
include T
def Iv:kz P w K mg base vf 1 a.f_L1 a.d_L1 ["text","letters"] (sp_L1 K a):=by
 calc T.gX.u.ok Zst (λo A c s H n Q E t h=>?_);let#[l,m,Z,f,q]:=h;calc#[_,(uK (uY (vE (Qo Z) Z T.j9 Pd (uy (yn (N:=["sign","letters"]) (ix:=[O,U 1]) Z (xQ Z) Z (Jj (pv 0)) (λ_ _ _ _=>(vD (i:=0) (show (["sign","letters"]:AJ).Nodup from by decide +kernel) Z (i0 Z) (jl Z))) (λ_ _ _ _=>yI) (λ_ _ _ _=>(yG Zju (pv 0) (pv 1) Z))) uA)))),?_];omega;refine#[l,Z,kF.text (λ_=>Y) (λi=>.bl (R (l.getD i 0∈m))) f ?_ ?_ ?_]
 .intro i b k j e d;exact d b (ky.refl _)
 .intro i b k j _ e d;omega;exact#[_,m,Z,Z,d b (ky.refl _)]
 .intro p b e r g;refine#[p,(cc ⇑l).map (λi=>R (l.getD i 0∈m)),Z,?_,?_]
  .rw[g,mE,wE];rfl
  .rw[pC];calc q b e
def Ms:kz P w K mg base vf 1 a.ax a.aL ["self","word"] (yL K a.c_M0 1 (wa "word")):=by
 refine T.fi_M0.ok Zfc (λu A f s H m Q E v h=>?_) (λm H Q E h=>by let#[e,r,Z,c,_]:=h;simp[c])
 .obtain⟨e,r,rfl,c,i,q⟩:=h;obtain⟨x,rfl⟩:∃x,r=[x]:=by match r,c with | [x],_=>exact#[x,Z]
  refine⟨_,(uD (vV (Bx Z T.b7 T.cb (uy (pv 0) (uy (uE (l:=s!"this is no word of these kinds, or has too many letters")) uA))))
   (uK (zC (pv 0) (pv 1) Z))),?_⟩
  omega;calc#[e,a.c_M0,O,_,Z,i,T.cz,(by show 1<=1000;decide),e,a.c_M0,[],Z,.bare i,T.cz.c,T.bh,(by show 0<1000;decide),λn p t _=>?_];calc q n p λb o k g=>t b o k g λd j=>by rw[i]at j;calc Sa j zK
def Ia:kz P w K mg base vf 1 a.f_L2 a.d_L2 ["words"] (sp_L2 K a):=by calc T.gS.u.okC T.cd_L2 Zss (λA f s H t Q E l h=>?_);let#[p,n,Z,i,o,g,m,q]:=h;calc#[_,(uK (uY (ZkH (q:="in_order.<locals>.<lambda>") l T.L_in_order Z Z T.iC T.gQ (uy (pv 0) uA) Z Z (by kernel_rfl) #[Z,Z,Z,Z,Z,Z] (λ_ _ _ _ _=>.of_eq Z)))),?_];let sz:∀k:Nat,k<=1000->k<=sizeLine:=λk h=>u8 h (by rw[bA];decide);omega;calc#[p,n,Z,i,λw h=>sz _ (o w h),g,m.1,λe r j a b c d=>q e r j a b c.1 #[d,trivial]]
def Zs8:kz P w K mg base vf 1 a.f_NI a.d_NI ["text","length"] (sp_NI K a):=by
 calc T.jD.u.ok ZrR (λD A b s H F Q E M h=>?_);let#[l,n,Z,z,G,v,q]:=h;calc#[_,(uK (uY (vE (JD Z) Z T.iC Ib (uy (yM (JA Z) Z T.jZ LZ (uy (yn (N:=["start","length","text"]) (ix:=[O,U 1,U 0]) Z (xQ Z) Z (EH Z T.hJ (uy (uL y8 (uL IT (vE (w4 (K:=K) Z) Z T.gQ wW (uy (pv 0) uA)) (pv 1)) uR) uA)) (λ_ _ _ _=>(vD (i:=0) (show (["start","length","text"]:AJ).Nodup from by decide +kernel) Z (i0 Z) (jl Z))) (λ_ _ _ _=>yI) (λ_ _ _ _=>(xJ zr (pv 2) (xp (pv 0)) (xp (uL y8 (pv 0) (pv 1)))))) uA)) uA)))),?_];omega;let sz:⇑l<=sizeLine:=u8 z (by rw[bA];decide);let m:((⇑l:Int)-(n:Nat)+1).toNat=⇑l+1-n:=by nofun
 calc#[_,_,Z,zX ∅,_,Z,∅,∅,?_];rw[m];refine kF.rangeA (λi=>tx ((l.drop i).take n)) ∅ ?_ ?_
 .intro i d C I c k;omega;calc#[_,Z,_,Z,l,Z,sz,?_];let j:(0+(i:Int))=((i:Nat):Int):=by nofun
  let t:((i:Nat):Int)+(n:Nat)=((i+n:Nat):Int):=by nofun
  rw[j,t,OF];let r:i+n-i=n:=by nofun
  rw[r];exact k d (ky.refl _)
 .intro p d c L u;calc#[(cc (⇑l+1-n)).map (λi=>(l.drop i).take n),by simp;nofun,.inr #[p,Z,.mk (by rw[u,wE];rfl)],λg e=>#[g,_,Z,uN,?_,kU.of λf o x B y=>q f o (c.trans ((vG e).trans x)) ((c.trans (vG e)).free B) y]];calc GS (QI _) ?_;rw[uO,Bp]
  nofun
def Zs5:kz P w K mg base vf 1 a.f_NP a.d_NP ["shorter","standing","kinds"] (sp_NP K a):=by
 calc T.jO.u.ok F7 (λBP A G s H vs Q E hr h=>?_);let⟨v,D,d,g,m,rfl,l,I,aa,hm,hw,q⟩:=h;refine⟨_,(uD (vd (i:=3) F7.nd (wc uA))
  (uD (xC xL Z (wY (K:=K) Z (pv 0)) (vD (i:=4) F7.nd Z (i0 Z))
  (uK (xC xL Z (Jj (pv 2)) (vD (i:=5) F7.nd Z (i0 Z))
  (uD (vd (i:=6) F7.nd (uL uU (pv 4) (pv 5)))
  (uK (vM (PW.pt (Px (wQ (Zjv (K:=K) Z) (xJ zr (pv 6) (xp uR) xX) (pv 0) Z) (MY (wQ (Jf (K:=K) Z) (pv 6) (pv 1) Z)))) (uK (vV (yu zL Bg Br zY (pv 3) (uy (pv 6) uA)))) vN))))))
  (uK (uY (pv 3))))),?_⟩
 omega;refine#[wf _,kU.of λr H1 N V lf=>#[v,Z,#[_,.mk (N _ _ l)],kT.list (xs:=d.map tx) (λi σ p=>∃F o k,σ=[U (.ref v),U (.ref D),U (tx m),U (.ref r),F,o,k]/\ky H p/\p r=U (.lst (((d.take i).flatMap (De d g m)).map tx))) #[_,_,_,Z,N,lf] (λi σ p _ ⟨_,_,_,_,s',_⟩=>.mk (s' _ _ l)) ?_ ?_]]
 .rintro i x σ M u ⟨F,o,k,rfl,L,C⟩;obtain⟨h,S,rfl⟩:∃h,d[i]?=U h/\x=tx h:=by
   rw[wI]at u;cases e:d[i]? with
   | none=>rw[e]at u;cases u
   | some h=>rw[e]at u;exact#[h,Z,(cx u).symm]
  let X:=hw h (wL S);let fl:=GX (f:=De d g m) (b:=4) (λx=>u8 (RJ _ _ _ _) hm) (d.take i);let tl:⇑(d.take i)<=100:=by rw[xw];nofun
  omega;refine#[m,Z,kT.text (λj σ p=>∃o k,σ=[U (.ref v),U (.ref D),U (tx m),U (.ref r),U (tx h),o,k]/\ky H p/\p r=U (.lst (((d.take i).flatMap (De d g m)++((m.take j).filter (zD d g h)).map (λc=>h++[c])).map tx))) #[_,_,Z,L,~~~C] ?_ ?_]
  .rintro j c σ W hc ⟨o,k,rfl,n,t⟩;let fj:=yA (zD d g h) (m.take j);rw[xw]at fj;let fe:(m.take (j+1)).filter (zD d g h)=(m.take j).filter (zD d g h)++if zD d g h c=Y then [c] else []:=by
    rw[GD hc,Dc];congr 1;by_cases z:zD d g h c=Y
    .rw[uM z,List.filter_cons_of_pos z];rfl
    .rw[uI z,List.filter_cons_of_neg z];rfl
   rw[fe];omega;calc#[by rw[bA];nofun,_,Z,_,Z,by rw[vn,xf,bA];nofun,?_];rw[JV];calc#[v,_,Z,.inl (.mk (n _ _ l)),Z,Bv _,?_];rw[uI vC,Fi];by_cases B:(h++[c]).tail∈d
   .rw[R5 B];calc lE #[D,_,Z,.inl (.mk (n _ _ I)),Z,Bv _,?_];rw[uM Z,Fi];by_cases y:h++[c]∈g
    .let e:¬zD d g h c=Y:=by unfold zD;rw[R5 y];simp
     rw[R5 y,Bool.not_true,uI e,zd];exact lm #[_,_,Z,n,t]
    .let e:zD d g h c=Y:=by unfold zD;rw[R5 B,R6 y];rfl
     rw[R6 y,Bool.not_false,uM e];calc lE #[.inl #[Z,_,.mk t],r,_,_,Z,Z,t,by rw[uO,vn,uO,bA];nofun,_,_,Z,kI n V,?_];rw[uN];simp
   .let e:¬zD d g h c=Y:=by unfold zD;rw[R6 B];simp
    rw[R6 B,uI e,zd];exact lm (lm #[_,_,Z,n,t])
  .rintro σ W ⟨o,k,rfl,n,t⟩;calc#[_,_,_,Z,n,?_];rw[t,GD S,List.flatMap_append,List.flatMap_singleton,zM];rfl
 .rintro σ M ⟨F,o,k,rfl,L,C⟩;omega;rw[uO,zM]at C;calc q r M L V C
def Zs3:kz P w K mg base vf 1 a.f_NS a.d_NS ["text","word"] (sp_NS K a):=by
 calc T.jP.u.ok ZrO (λj A d s H i Q E k h=>?_);let#[l,x,Z,g,f,q]:=h;calc#[_,(uK (uY (B7 (yG OG (pv 1) (pv 0) Z) (B7 (yG HR (xJ zr (pv 1) (xp uR) xX) (pv 0) Z) (B3 (yG HR (xJ zr (pv 1) xX (xp (Fz FE uR))) (pv 0) Z)))))),?_];omega;let e:⇑x<=sizeLine:=u8 f (by rw[bA];decide);unfold Hn at q;refine#[x,l,Z,Z,lT (λc=>#[_,Z,x,Z,e,_,l,Z,Z,lT (λb=>#[_,Z,x,Z,e,_,l,Z,Z,?_]) (λb=>?_)]) (λc=>?_)]
 .rw[JV]at b;rw[Zpq];rw[c,b,BZ,BZ]at q;exact q
 .rw[JV]at b;rw[c,Cw.mpr b,zg,CF]at q;exact q
 .rw[Cw.mpr c,zg]at q;calc q
def O0:kz P w K mg base vf 1 a.f_LU a.d_LU ["thing","least","most"] (sp_LU K a):=by
 calc T.hO.u.ok Zr9 (λf A b s H e Q E g h=>?_);let⟨x,c,d,rfl,q⟩:=h;refine⟨_,(uD (vM (PW.pt (Ca (wH (vE (yh (K:=K) Z) Z T.gL yf (uy (pv 0) (uy (EO (v:=.ty "bool") Z T.j7 Zpt Z) uA)))) (CT (za (wH (vE (yh (K:=K) Z) Z T.gL yf (uy (pv 0) (uy (EO (v:=.ty "int") Z T.kg Mz Z) uA)))))))) (uK (uY Ba)) vN)
  (uK (uY (B7 (yG JI (pv 1) (pv 0) (wy _)) (B3 (yG JI (pv 0) (pv 2) (wy _))))))),?_⟩
 omega;calc#[_,_,_,_,J,Z,Z,.ty (.pl (.int _)),Qu,lm #[_,_,_,_,Y,Z,Z,.ty (.pl (.int _)),Ge,lm ?_]];by_cases h:c<=x
 .rw[R5 h];calc lE ?_;rw[show R (c<=x/\x<=d)=R (x<=d) by rw[Sd];calc#[And.right,And.intro h]]at q;exact q
 .rw[R6 h];calc lm ?_;rw[R6 (λz=>h z.1)]at q;calc q
def Zt4:kz P w K mg base vf 1 a.cL a.eO ["self","length"] (sp_KB K a):=by calc T.iD.u.ok ZsH (λf A c s H e Q E g h=>?_);let#[p,l,m,n,Z,b,q]:=h;calc#[_,(uK (uY (vL (K:=K) Z (pv 0) Z))),?_];let#[d,b]:=b;omega;calc#[p,_,d,_,_,Z,b,T.bX,T.aJ,RY,q]
def ZtV:kz P w K mg base vf 1 a.cP a.eR ["self"] (sp_KX K a):=by calc T.ju.u.ok Zsv (λi A c s H g Q E j h=>?_);let#[p,l,m,Z,b,d,q]:=h;calc#[_,(uK (uY (uL y8 (vE (w4 (K:=K) Z) Z T.gQ wW (uy (vL (K:=K) Z (pv 0) Z) uA)) uR))),?_];let#[f,b]:=b;let e:=d.l40;omega;calc#[p,_,f,_,_,Z,b,T.bX,T.aJ,RY,_,_,Z,zX ∅,q]
def Zt2:kz P w K mg base vf 1 a.c9 a.fH ["self"] (sp_KF K a):=by calc T.iF.u.ok ZsF (λi A b s H g Q E j h=>?_);let#[p,d,k,l,m,n,Z,c,q]:=h;calc#[_,(uK (uY (yM (IR (K:=K) Z) Z T.iG CS (uy (vL (K:=K) Z (pv 0) Z) uA)))),?_];let#[e,f]:=c.fld;omega;calc#[p,_,e,_,_,Z,f,T.ae,T.af,Mh,d,_,Z,.inl (.mk c.lack),q]
def Ih:kz P w K mg base vf 1 a.cK a.eN ["self"] (sp_LJ K a):=by calc T.hV.u.ok Zsi (λg A b s H e Q E i h=>?_);let#[p,k,j,l,m,n,Z,c,q]:=h;calc#[_,(uK (uY (vL (K:=K) Z (pv 0) Z))),?_];let#[d,f]:=c.fld;omega;calc#[p,_,d,_,_,Z,f,T.ae,T.ad,B8,q]
def Pb:kz P w K mg base vf 1 a.cJ a.eK ["self"] (sp_KW K a):=by calc T.iH.u.ok Zsw (λg A b s H e Q E i h=>?_);let#[p,k,j,l,m,n,Z,c,q]:=h;calc#[_,(uK (uY (vL (K:=K) Z (pv 0) Z))),?_];let#[d,f]:=c.fld;omega;calc#[p,_,d,_,_,Z,f,T.ae,T.ag,FQ,q]
def Zeg:kz P w K mg base vf 1 a.ak a.aD ["self","length"] (yL K a.c_LZ 1 (wa "length")):=by
 refine T.fi_LZ.ok Zef (λu A f s H m Q E v h=>?_) (λm H Q E h=>by let#[e,r,Z,c,_]:=h;simp[c])
 .obtain⟨e,r,rfl,c,i,q⟩:=h;obtain⟨x,rfl⟩:∃x,r=[x]:=by match r,c with | [x],_=>exact#[x,Z]
  refine⟨_,(uD (vV (Bx Z T.b7 T.cb (uy (pv 0) (uy (uE (l:=s!"this is no length of words of the strip")) uA))))
   (uK (zC (pv 0) (pv 1) Z))),?_⟩
  omega;calc#[e,a.c_LZ,O,_,Z,i,T.dY,(by show 1<=1000;decide),e,a.c_LZ,[],Z,.bare i,T.dY.c,T.aR,(by show 0<1000;decide),λn p t _=>?_];calc q n p λb o k g=>t b o k g λd j=>by rw[i]at j;calc Sa j zK
def M5:kz P w K mg base vf 1 a.az a.aN ["self","word"] (yL K a.c_MX 1 (wa "word")):=by
 refine T.fi_MX.ok Zff (λu A f s H m Q E v h=>?_) (λm H Q E h=>by let#[e,r,Z,c,_]:=h;simp[c])
 .obtain⟨e,r,rfl,c,i,q⟩:=h;obtain⟨x,rfl⟩:∃x,r=[x]:=by match r,c with | [x],_=>exact#[x,Z]
  refine⟨_,(uD (vV (Bx Z T.b7 T.cb (uy (pv 0) (uy (uE (l:=s!"this is no list of words over these kinds")) uA))))
   (uK (zC (pv 0) (pv 1) Z))),?_⟩
  omega;calc#[e,a.c_MX,O,_,Z,i,T.dC,(by show 1<=1000;decide),e,a.c_MX,[],Z,.bare i,T.dC.c,T.bi,(by show 0<1000;decide),λn p t _=>?_];calc q n p λb o k g=>t b o k g λd j=>by rw[i]at j;calc Sa j zK
def Qe:kz P w K mg base vf 1 a.f_NB a.d_NB ["words","word"] (sp_NB K a):=by
 calc T.jj.u.ok ZrU (λu A f s H x Q E B h=>?_);let#[b,c,w_,Z,l,y,v,q]:=h;calc#[_,(uK (uY (Zqo (vE (ZlK Z) Z T.kn ZrD (uy (yn (N:=["piece","word"]) (ix:=[O,U 1]) Z (xQ Z) Z (wY (K:=K) Z (pv 0)) (λ_ _ _ _=>(vD (i:=0) (show (["piece","word"]:AJ).Nodup from by decide +kernel) Z (i0 Z) (jl Z))) (λ_ _ _ _=>yI) (λ_ _ _ _=>(yG HR (pv 0) (pv 1) Z))) uA))))),?_];omega;refine#[b,Z,#[_,.mk l],kF.listM (xs:=c.map tx) (λ_=>Y) (λi=>.bl (mH (c.getD i []) w_)) (by rw[uO];nofun) (.mk l) (λi n r _ _ q=>q n (ky.refl _)) ?_ ?_]
 .intro i g t d _ k m;rw[uO]at d;rw[Cr d];omega;exact#[_,w_,Z,Z,m g (ky.refl _)]
 .intro p g k z j;rw[mE,uO]at j;refine#[p,c.map λp=>mH p w_,Z,?_,?_]
  .rw[j,wE];congr 2;apply z5 {};intro i C o;let d:i<⇑c:=by simpa using o
   simp[wj,vK d]
  .let e:(c.map λp=>mH p w_).any id=c.any λp=>mH p w_:=by rw[List.any_map];rfl
   rw[e];calc q g k
def Zfk:kz P w K mg base vf 1 a.aA a.aO ["self","one","other"] (yL K a.c_MU 2 (yV "one" "other")):=by
 refine T.fi_MU.ok Zfh (λI A k s H B Q E M h=>?_) (λB H Q E h=>by let#[e,r,Z,n,_]:=h;simp[n])
 .obtain⟨e,r,rfl,n,i,q⟩:=h;obtain⟨x,y,rfl⟩:∃x y,r=[x,y]:=by match r,n with | [x,y],_=>exact#[x,y,Z]
  refine⟨_,(uD (vV (Bx Z T.b7 T.cb (uy (pv 0) (uy (uE (l:=s!"one word of the list stands in another one")) uA))))
   (uD (zC (pv 0) (pv 1) Z)
   (uK (zC (pv 0) (pv 2) Z)))),?_⟩
  omega;calc#[e,a.c_MU,O,_,Z,i,T.cA,(by show 1<=1000;decide),e,a.c_MU,[],Z,.bare i,T.cA.c,T.bv,(by show 0<1000;decide),λC u F G=>?_];let kk:∀b o,H b=U o->b≠e->C b=U o:=λb o g c=>F b o g c λd f=>by rw[i]at f;exact Sa f zK
  calc#[e,a.c_MU,_,Z,u,T.cA.c,T.bb,(by show 1<1000;decide),λp v D _=>?_];calc q p v λb o g c=>D b o (kk b o g c) c λd f z=>?_;subst z;let#[L,j,m]:=G;rw[j]at f;let t:=JM f;subst t;rcases m with z | z
  .rw[i]at z;exact zK z
  .rw[g]at z;cases z
def Zs2:kz P w K mg base vf 1 a.f_NV a.d_NV ["words"] (sp_NV K a):=by
 calc T.jQ.u.ok IJ (λBP A n s H vs Q E hr h=>?_);let r:=Cg hr;let⟨b,f,rfl,G,hn,t,q⟩:=h;refine⟨_,(uD (vd (i:=1) IJ.nd (ZoA (Zma (uE (l:=[])) Ba Zou) Z Z {} ⋯))
  (uD (xC xL Z (wY (K:=K) Z (pv 0)) (vD (i:=2) IJ.nd Z (i0 Z))
  (uK (xC xL Z (Ls Z T.hJ (uy uR (uy (vE (w4 (K:=K) Z) Z T.gQ wW (uy (pv 2) uA)) uA))) (vD (i:=3) IJ.nd Z (i0 Z))
  (uK (CZ r (pv 1) (xJ zr (pv 2) xX (xp (pv 3))) Ba Z)))))
  (uK (uY (pv 1))))),?_⟩
 omega;intro p o;let g:ky H (upd (upd H p (.dK [])) p (.dK (yX [] [(uJ [],.bl Y)]))):=Gc o;let D:upd (upd H p (.dK [])) p (.dK (yX [] [(uJ [],.bl Y)])) p=U (.dK (yX [] [(uJ [],.bl Y)])):=uN;calc#[uN,[(uJ [],.bl Y)],Z,by show (1:Nat)<=15;decide,b,Z,#[_,.mk (g _ _ G)],?_];let L:mm f 0 0 (yX [] [(uJ [],.bl Y)]):=mm.start f;let W:⇑(yX [] [(uJ [],.bl Y)])<=1:=HP _ _;generalize yX [] [(uJ [],.bl Y)]=kv0 at g D L W;generalize upd (upd H p (.dK [])) p (.dK kv0)=H1 at g D;refine kT.list (xs:=f.map tx) (NJ H b p f) #[_,_,_,Z,g,D,L,∅] (λi σ H' _ hh=>by let#[_,_,_,_,V,_]:=hh;calc .mk (V _ _ G)) ?_ ?_
 .rintro i x σ F X ⟨v2,y,c,rfl,z,C,m,I⟩;let#[d,e,Z]:=Ey X;let M:=t d (wL e);let hi:=(vT.mp e).1;omega;calc#[_,_,Z,zX ∅,_,_,Z,#[∅,∅,∅,∅],?_];refine kT.range (N2 H b p f d i) #[_,_,Z,z,C,m.one e,∅] ?_ ?_
  .rintro j σ S hj ⟨y,c,rfl,u,v,B,n3⟩;let N:(1+(j:Int))=((1+j:Nat):Int):=by nofun
   let aa:j<=41:=by nofun
   omega;calc#[_,Z,d,Z,sz _ ∅,?_];rw[N,ET];refine#[p,_,Z,mY.k (k:=uJ (d.take (1+j))) v (xj (show _<9000 by nofun) (sz 9000 (uV _))),_,_,Z,kI u o,uN,?_,?_]
   .have:=B.put e (show 1+j<⇑d by nofun);rw[show 1+(j+1)=1+j+1 by nofun];exact this
   .have:=B1 c (uJ (d.take (1+j))) (.bl Y)
    nofun
  .rintro σ S ⟨y,c,rfl,u,v,B,n3⟩;exact#[_,_,_,Z,u,v,B.next e ∅,∅]
 .rintro σ F ⟨v2,y,c,rfl,z,C,m,I⟩;omega;rw[uO]at m I;calc q p c F z o C (m.done ∅)
def Ztc:kz P w K mg base vf 1 a.f_NC a.d_NC ["stems","text"] (sp_NC K a):=by
 calc T.jE.u.ok LL (λN A g s H S Q E I h=>?_);let l:=Cg I;let⟨p,b,t,u,rfl,C,x,y,q⟩:=h;refine⟨_,(uD (vd (i:=2) LL.nd uR)
  (uD (K3 xL (Em (Hs l (xJ zr (pv 1) (xp (pv 2)) xX) (pv 0)))
  (uK (Nl (i:=2) LL.nd Z (i0 Z) uR NC)))
  (uK (uY (xJ zr (pv 1) (xp (pv 2)) xX))))),?_⟩
 let sz:∀k:Nat,k<=1000->k<=sizeLine:=λk h=>u8 h (by rw[bA];decide);omega;refine mJ.by (λσ r=>∃d:Nat,σ=[U (.ref p),U (tx u),U (.int d)]/\ky H r/\d<=⇑u/\∀j,j<d->¬mD t (u.drop j)) (λσ r=>match σ with | [_,_,some (.int d)]=>⇑u-d.toNat | _=>0) #[0,Z,ky.refl _,wf _,λj h=>by nofun] ?_
 rintro σ F ⟨d,rfl,f,D,o⟩;refine#[!(kK b (uJ (u.drop d))).isSome,λM L=>?_,λB m=>?_]
 .omega;calc#[_,Z,u,Z,sz _ y,?_];rw[DP];exact#[p,_,Z,.inl #[b,uJ (u.drop d),C.same f,Z,Z],L F (ky.refl _)]
 .cases e:(kK b (uJ (u.drop d))).isSome with
  | true=>
   calc lm ?_;omega;calc#[_,Z,u,Z,sz _ y,?_];rw[DP];exact q _ B (f.trans m) #[d,D,Z,(x.iff _).mp e,o]
  | false=>
   calc lE ?_;let n:¬mD t (u.drop d):=λz=>by rw[(x.iff _).mpr z]at e;cases e
   let v:d<⇑u:=by
    by_cases c:d<⇑u
    .exact c
    .exact Sa (.inl (ER ∅)) n
   omega
   first | refine⟨_,_,rfl,rfl,⟨d+1,rfl,f.trans m,v,λj G=>?_⟩,?_⟩ | refine⟨⟨d+1,rfl,f.trans m,v,λj G=>?_⟩,?_⟩
   .by_cases c:j=d
    .subst c;exact n
    .exact o j ∅
   .show ⇑u-((d:Int)+1).toNat<⇑u-(d:Int).toNat
    nofun
def Zs4:kz P w K mg base vf 1 a.f_NQ a.d_NQ ["ways"] (sp_NQ K a):=by
 calc T.jR.u.ok CM (λBP A a9 s H vs Q E hr h=>?_);let BS:=hr.units;let W:=Cg hr;let⟨p,l,ws,ss,m,rfl,hp,wl,sl,ok,lk,q⟩:=h;refine⟨_,(uD (vd (i:=1) CM.nd DD)
  (uP (uD (Bf (i:=2) CM.nd Z (jl Z) DD)
  (uD (Hd (xC xL Z (GU (pv 0)) (vD (i:=3) CM.nd Z (i0 Z))
  (uP (uD (CZ W (pv 2) (pv 3) (vE ZlI Z T.gQ wW (uy (yB W (pv 0) (pv 3) (λ_ _=>rfl)) uA)) Z)
  (uK (Hd (xC xL Z (ZkF (yB W (pv 0) (pv 3) (λ_ _=>rfl))) (vD (i:=4) CM.nd Z (i0 Z))
  (uP (uK (vV (yu zL Bg Br zY (Zfi (pv 1) (pv 4) (wc uA) #[Z,Z,Z,Z]) (uy (pv 3) uA))))))))))))
  (uD (Hd (Lp (i:=5) (N:=["stem","left"]) (ix:=[O,U 2]) Z CM.nd Z Z Z (xQ Z) Z (GU (pv 0)) (λ_ _ _ _=>(vD (i:=0) (show (["stem","left"]:AJ).Nodup from by decide +kernel) Z (i0 Z) (jl Z))) (λ_ _ _ _=>(Hh (wQ (x6 (K:=K) Z BS) (yB W (pv 1) (pv 0) (λ_ _=>rfl)) uR (wy _)))) (λ_ _ _ _=>(pv 0))))
  (uP (uD (vd (i:=6) CM.nd uR)
  (uP (uD (K3 xL (wQ JZ (pv 6) (vE (w4 (K:=K) Z) Z T.gQ wW (uy (pv 5) uA)) (wy _))
  (uD (vd (i:=4) CM.nd (vh (wq (K:=K) Z) (pv 5) (pv 6) (λ_ _=>rfl)))
  (uP (uD (xC xL Z (wY (K:=K) Z (Zmf W (pv 1) (pv 4) (wc uA) #[Z,Z,Z,Z])) (vD (i:=3) CM.nd Z (i0 Z))
  (uD (Zos W (pv 2) (pv 3) uR Zrg (λ_ _ _=>rfl))
  (uP (uK (vM (wQ (x6 (K:=K) Z BS) (yB W (pv 2) (pv 3) (λ_ _=>rfl)) uR (wy _)) (uP (uK (vV (yu zL Bg Br zY (pv 5) (uy (pv 3) uA))))) vN)))))
  (uP (uK (Nl (i:=6) CM.nd Z (i0 Z) uR NC)))))))
  (uK (uY (pv 5)))))))))))),?_⟩
 let sz:∀k:Nat,k<=100000->k<=sizeLine:=λk h=>u8 h (by rw[bA];decide);let m4:=ok.m4;let bf:=sl.len;omega;intro pS nS;let s1:ky H (upd H pS (.dK [])):=vG nS;let l1:upd H pS (.dK []) pS=U (.dK []):=uN;generalize upd H pS (.dK [])=H1 at s1 l1;cutsat;intro pL nL;let s2:ky H1 (upd H1 pL (.dK [])):=vG nL;let l2:upd H1 pL (.dK []) pL=U (.dK []):=uN;let ao:H pL=O:=s1.free nL;let aq:pS≠pL:=vp l1 nL;generalize upd H1 pL (.dK [])=H2 at s2 l2;let aI:=s1.trans s2;let ax:p≠pS:=vp hp nS;let am:p≠pL:=vp hp ao;let aT:=aI _ _ hp;refine#[p,l,aT,p,l,Z,aT,λo=>kT.dict (Nv H p pS pL o l ws ss m) #[_,_,[],[],Z,?_,uN,?_,?_,?_,?_,?_] (λi σ H' hh=>by let#[_,_,_,_,_,_,h,_]:=hh;calc h) ?_ ?_]
 .exact(ZsP aI).updX
 .rw[uF (uZ ax)];exact s2 _ _ l1
 .rw[CW];exact#[λr _=>rfl,λr v h=>(by cases h),λr r' a h=>(by cases h),wf _]
 .rw[uF (uZ am)];exact l2
 .rw[CW];exact λs h=>(by cases h)
 .exact uV _
 .rintro i kv σ M C ⟨v3,v4,L,g,rfl,s3,f3,h3,sr,ak,la,nk⟩;let il:=(vT.mp C).1;let bk:i<⇑ss:=by rw[<-wl.1];exact il
  obtain⟨u,hu⟩:∃u,ss[i]?=U u:=#[_,vK (by rw[<-wl.1];calc il)];let#[au,F,na,ae]:=wl.2 i u hu;rw[C]at F;cases F;rw[Eg];omega;cutsat;let mu:u∈ss:=wL hu;let v3:kK l (uJ u)=U (.ref au):=FX (by rw[wl.keys];calc E9 sl.nd λx _ y _ e=>xI e) C;let aW:M au=U (.dK ((wg ws m u).map me)):=s3 _ _ na ae;let ai:au≠pS:=vp ae nS;let ah:au≠pL:=vp ae ao;let aE:ss.take (i+1)=ss.take i++[u]:=DV hu;let bh:u∉ss.take i:=FI sl.nd hu;calc#[p,.ref au,Z,.inl #[l,uJ u,.inr #[o,f3],Z,v3.symm],au,_,Z,aW,pL,_,Z,mY.k (k:=uJ u) ak (xj (show _<100000 by nofun) (sz 100000 (uV _))),?_];let lo:⇑((wg ws m u).map me)=⇑(k7 ws m u):=by unfold k7;rw[uO,uO]
  rw[lo];let aV:GE (kQ g (uJ u) (.int (⇑(k7 ws m u):Nat))) (ss.take (i+1)) (λs=>⇑(k7 ws m s)):=λs hs=>by
   rw[y6];by_cases e:s=u
   .rw[uM (by rw[e]),e]
   .rw[uI (λz=>e (xI z))];rw[aE]at hs;rcases wM.mp hs with z | z
    .exact la s z
    .exact Sa (vI.mp z) e
  let aS:⇑(kQ g (uJ u) (.int (⇑(k7 ws m u):Nat)))<=i+1:=by
   have:=B1 g (uJ u) (.int (⇑(k7 ws m u):Nat))
   nofun
  let s4:mC p H (upd M pL (.dK (kQ g (uJ u) (.int (⇑(k7 ws m u):Nat))))):=s3.updN ao;let p4:upd M pL (.dK (kQ g (uJ u) (.int (⇑(k7 ws m u):Nat)))) p=U (.frz o (.dK l)):=by rw[uF am];exact f3
  let S4:upd M pL (.dK (kQ g (uJ u) (.int (⇑(k7 ws m u):Nat)))) pS=U (.dK L):=by rw[uF aq];exact h3
  let L4:upd M pL (.dK (kQ g (uJ u) (.int (⇑(k7 ws m u):Nat)))) pL=U (.dK (kQ g (uJ u) (.int (⇑(k7 ws m u):Nat)))):=uN;let ab:mq H (upd M pL (.dK (kQ g (uJ u) (.int (⇑(k7 ws m u):Nat))))) pS pL L (edges ws m (ss.take i)):=sr.keep λD xs e=>by
   let n':D≠pL:=λz=>by rw[z,ak]at e;cases e
   rw[uF n'];exact e
  let a4:upd M pL (.dK (kQ g (uJ u) (.int (⇑(k7 ws m u):Nat)))) au=U (.dK ((wg ws m u).map me)):=by rw[uF ah];exact aW
  generalize upd M pL (.dK (kQ g (uJ u) (.int (⇑(k7 ws m u):Nat))))=H4 at s4 p4 S4 L4 ab a4;generalize kQ g (uJ u) (.int (⇑(k7 ws m u):Nat))=kL4 at aV aS L4;refine#[au,_,a4,p,.ref au,Z,.inl #[l,uJ u,.inr #[o,p4],Z,v3.symm],au,_,Z,a4,λo1=>Zpf (OX H p pS pL au o o1 l kL4 ws ss m u i) #[_,L,Z,?_,?_,uN,?_,?_,?_] (λj σ H' hh=>by let#[_,_,_,_,_,h,_]:=hh;calc h) ?_ ?_]
  .intro b x n1 n2 e;rw[uF n2];exact s4 b x n1 e
  .rw[uF (uZ na)];exact p4
  .rw[uF (uZ ai)];exact S4
  .rw[CW,Dd,zd];exact ab.keep λD xs e=>by
    let n':D≠au:=λz=>by rw[z,a4]at e;cases e
    rw[uF n'];exact e
  .rw[uF (uZ ah)];exact L4
  .rintro j kv σ H5 G ⟨v4,I,rfl,s5,p5,a5,S5,X,L5⟩;obtain⟨x,hx,rfl⟩:∃x,(wg ws m u)[j]?=U x/\kv=me x:=by
    rw[wI]at G;cases e:(wg ws m u)[j]? with
    | none=>rw[e]at G;cases G
    | some x=>rw[e]at G;cases G;exact#[x,Z,Z]
   let hr:(k7 ws m u)[j]?=U x.2:=by unfold k7;rw[wI,hx];rfl
   show xW 4 (tx x.2) _ _ _;generalize x.2=r at hr;omega;cutsat;let a7:⇑I<100000:=by
    have:=X.len;let e1:=NN (ws:=ws) (m:=m) (ss:=ss.take i) m4 (by rw[xw];nofun);rw[vn,uO,xw]at this;let e2:⇑(k7 ws m u)<=4:=by unfold k7 wg lK;rw[uO,uO];exact u8 (yA _ _) m4
    nofun
   let tj:((k7 ws m u).take (j+1)).map (λr=>(r,u))=((k7 ws m u).take j).map (λr=>(r,u))++[(r,u)]:=by rw[DV hr,xO];rfl
   refine#[pS,Z,.inl #[I,.inl S5],wf _,kU.of λz H6 s6 nz z6=>#[I,uJ r,s6 _ _ S5,Z,xj a7 (sz 100000 (uV _)),λv hv=>?_,λhv=>?_]]
   .obtain⟨D,rfl,aw,bc,a6,ha⟩:=X.yes r v hv;let aL:=s6 _ _ ha;let a3:=(X.keep (H'':=H6) λa xs e=>s6 _ _ e).old (s:=u) hv;refine#[.inl #[Z,_,.mk aL],D,_,tx u,Z,Z,aL,?_,_,I,Z,?_,?_,?_,?_,?_,?_]
    .rw[uO];let e0:=Zkl (edges ws m (ss.take i)++((k7 ws m u).take j).map λr=>(r,u)) r;let e1:=NN (ws:=ws) (m:=m) (ss:=ss.take i) m4 (by rw[xw];nofun);let e2:⇑(k7 ws m u)<=4:=by unfold k7 wg lK;rw[uO,uO];exact u8 (yA _ _) m4
     rw[vn,uO,xw]at e0;exact xj (show _<100000 by nofun) (sz 100000 (uV _))
    .intro b x n1 n2 e;rw[uF (vp e aw)];exact s6 _ _ (s5 b x n1 n2 e)
    .rw[uF (vp hp aw)];exact s6 _ _ p5
    .rw[uF (vp ae aw)];exact s6 _ _ a5
    .rw[uF (uZ bc)];exact s6 _ _ S5
    .rw[tj,<-FA];exact a3
    .rw[uF (uZ a6)];exact s6 _ _ L5
   .let ar:pS≠z:=vp S5 nz;let aH:pL≠z:=vp L5 nz;let aF:p≠z:=vp p5 nz;let aA:au≠z:=vp a5 nz;let ay:H z=O:=by
     cases e:H z with
     | none=>rfl
     | some x=>rw[s5 z x (uZ aF) (uZ aA) e]at nz;cases nz
    let z7:upd H6 pS (.dK (kQ I (uJ r) (.ref z))) z=U (.lst []):=by rw[uF (uZ ar)];exact z6
    refine#[.inl #[Z,_,.mk z7],z,[],tx u,Z,Z,z7,sz 1 ⋯,_,kQ I (uJ r) (.ref z),Z,?_,?_,?_,?_,?_,?_]
    .intro b x n1 n2 e;rw[uF (vp e ay),uF (vp e nS)];exact s6 _ _ (s5 b x n1 n2 e)
    .rw[uF aF,uF ax];exact s6 _ _ p5
    .rw[uF aA,uF ai];exact s6 _ _ a5
    .rw[uF ar,uN]
    .rw[tj,<-FA];calc X.new hv ay nz (uZ ar) (uZ aH) (λa xs n e=>?_) uN;let e6:=s6 _ _ e;let bd:a≠pS:=λz=>by rw[z,S5]at e;cases e
     rw[uF n,uF bd];exact e6
    .rw[uF aH,uF (uZ aq)];exact s6 _ _ L5
  .rintro σ H5 ⟨v4,I,rfl,s5,p5,a5,S5,X,L5⟩;let bb:⇑((wg ws m u).map me)=⇑(k7 ws m u):=lo;rw[bb,zM,<-ZjN,<-aE]at X;refine#[o1,_,a5,_,_,I,kL4,Z,?_,?_,?_,?_,?_,aV,aS]
   .intro b x n e;by_cases c:b=au
    .subst c;rw[ae]at e;cases e;rw[uN]
    .rw[uF c];exact s5 b x n c e
   .rw[uF (uZ na)];exact p5
   .rw[uF (uZ ai)];exact S5
   .exact X.keep λD xs e=>by
     let n':D≠au:=λz=>by rw[z,a5]at e;cases e
     rw[uF n'];exact e
   .rw[uF (uZ ah)];exact L5
 .rintro σ M ⟨v3,v4,L,g,rfl,s3,f3,h3,sr,ak,la,nk⟩;rw[wl.1,zM]at sr la;calc#[o,l,f3,?_];omega;let s4:ky H (upd M p (.dK l)):=s3.updX.same hp uN;let S4:upd M p (.dK l) pS=U (.dK L):=by rw[uF (uZ ax)];exact h3
  let L4:upd M p (.dK l) pL=U (.dK g):=by rw[uF (uZ am)];exact ak
  let ab:mq H (upd M p (.dK l)) pS pL L (edges ws m ss):=sr.keep λD xs e=>by
   let n':D≠p:=λz=>by rw[z,f3]at e;cases e
   rw[uF n'];exact e
  let p4:upd M p (.dK l) p=U (.dK l):=uN;generalize upd M p (.dK l)=H4 at s4 S4 L4 ab p4;refine#[p,l,p4,p,l,Z,p4,λo2=>kF.keys (λi=>R (⇑(k7 ws m (ss.getD i []))=0)) (λi=>tx (ss.getD i [])) (by rw[wl.1];nofun) uN ?_ ?_ ?_]
  .intro i kv H5 Q5 C s5 q5;let il:=(vT.mp C).1;obtain⟨u,hu⟩:∃u,ss[i]?=U u:=#[_,vK (by rw[<-wl.1];calc il)];let#[au,F,_]:=wl.2 i u hu;rw[C]at F;cases F;let gd:ss.getD i []=u:=by rw[wj,hu];rfl
   rw[gd]at q5;let L5:H5 pL=U (.dK g):=s5 _ _ (by rw[uF (uZ am)];calc L4);rw[Eg];omega;refine#[pL,_,Z,.inl #[g,uJ u,.inl L5,Z,(la u (wL hu)).symm],N0 (q5 H5 (ky.refl _))]
  .intro i kv H5 Q5 C _ s5 q5;let il:=(vT.mp C).1;obtain⟨u,hu⟩:∃u,ss[i]?=U u:=#[_,vK (by rw[<-wl.1];calc il)];let#[au,F,_]:=wl.2 i u hu;rw[C]at F;cases F;let gd:ss.getD i []=u:=by rw[wj,hu];rfl
   rw[gd]at q5;rw[Eg];omega;exact q5 H5 (ky.refl _)
  .intro pe H5 s5 n5 l5;rw[wl.1,Zlt [] (λs=>R (⇑(k7 ws m s)=0)) tx ss]at l5;let aQ:pe≠p:=λz=>by rw[z,uN]at n5;cases n5
   let n4:H4 pe=O:=by rw[uF aQ]at n5;exact n5
   let nH:H pe=O:=s4.free n4;let aG:pS≠pe:=vp S4 n4;let ap:pL≠pe:=vp L4 n4;let aa:∀r a,kK L (uJ r)=U (.ref a)->a≠pe:=λr a hv=>by let#[D,e,_,_,_,ha]:=ab.yes r _ hv;cases e;exact vp ha n4
   calc#[o2,l,s5 _ _ uN,?_];let ad:ky H4 (upd H5 p (.dK l)):=ky.thaw p4 s5;let aD:upd H5 p (.dK l) pe=U (.lst ((ss.filter λs=>R (⇑(k7 ws m s)=0)).map tx)):=by rw[uF aQ];exact l5
   generalize upd H5 p (.dK l)=H6 at ad aD;omega;cutsat;cutsat;let aX:⇑g<=8201:=by rw[wl.1]at nk;nofun
   refine mJ.by (Qk H p pS pL pe L ws ss m) (λσ _=>match σ with | [_,_,_,_,_,_,some (.int n)]=>⇑ss-n.toNat | _=>0) #[_,_,0,_,λs=>⇑(k7 ws m s),g,Z,s4.trans ad,ad _ _ S4,ab.keep λa xs e=>ad _ _ e,ad _ _ L4,la,aX,aD,KI.start sl.nd λs _=>rfl] ?_
   rintro σ H7 ⟨v3,v4,n,B,f,g,rfl,s7,S7,a8,L7,a0,ba,e7,ki⟩;let bi:⇑B<=⇑ss:=DC B ss ki.nd ki.sub;refine#[R (n<⇑B),λQ' hq=>?_,λH8 s8=>?_]
   .omega;calc#[_,_,Z,.inl #[_,.mk e7,Z],?_];rw[uO];let e:R ((n:Int)<((⇑B:Nat):Int))=R (n<⇑B):=by rw[Sd];nofun
    rw[e];exact hq H7 (ky.refl _)
   .by_cases c:n<⇑B
    .rw[R5 c];calc lE ?_;omega;obtain⟨r,hr⟩:∃r,B[n]?=U r:=#[_,vK c];calc#[pe,B.map tx,n,tx r,Z,Z,.mk (s8 _ _ e7),Gh (by rw[wI,hr];rfl),?_];show CN _ _ _ _;cutsat;let bj:=s7.trans s8;calc#[pS,Z,.inl #[L,.inl (s8 _ _ S7)],wf _,kU.of λz H9 s9 nz z9=>#[_,.inl #[L,uJ r,.inl (s9 _ _ (s8 _ _ S7)),Z,Z],?_]];let ag:=s8.trans s9;let L9:=ag _ _ L7;let e9:=ag _ _ e7;let as:mq H H9 pS pL L (edges ws m ss):=a8.keep λa xs e=>ag _ _ e;obtain⟨al,a2,az,aK,aN⟩:∃al,((kK L (uJ r)).getD (.ref z))=.ref al/\H9 al=U (.lst ((lH (edges ws m ss) r).map tx))/\al≠pL/\al≠pe:=by
      cases hv:kK L (uJ r) with
      | none=>
       calc#[z,Z,?_,uZ (vp (s8 _ _ L7) nz),uZ (vp (s8 _ _ e7) nz)];rw[as.no r hv];exact z9
      | some v=>
       let#[D,Z,h1,h2,h3,h4]:=as.yes r v hv;exact#[D,Z,h4,h3,aa r D hv]
     rw[a2];let a1:=s7.trans ag;let kj:=ki.enter (S:=lH (edges ws m ss) r) hr (λs hs=>PX sl.nd hs);refine#[al,Z,#[_,.mk az],kT.list (xs:=(lH (edges ws m ss) r).map tx) (NT H p pS pL pe al L ws ss m n r) #[_,B,f,g,Z,a1,az,ag _ _ S7,as,L9,a0,ba,e9,kj] (λj σ H' _ hh=>by let#[_,_,_,_,_,_,h,_]:=hh;calc .mk h) ?_ ?_]
     .rintro j x σ G1 hx ⟨v3,B,f,g,rfl,g1,aB,S1,aj,L1,af,an,e1,kj⟩;let#[d,hs,Z]:=Ey hx;let ms:d∈ss:=Nu (wL hs);let fp:=kj.pos hs ms;let vs:=af d ms;omega;calc#[pL,_,Z,.inl #[g,uJ d,.inl L1,Z,vs.symm],_,_,Z,Z,_,mY.k (k:=uJ d) L1 (xj (show _<100000 by nofun) (sz 100000 (uV _))),?_];let fe:((f d:Nat):Int)-1=((f d-1:Nat):Int):=by nofun
      rw[fe];let g2:ky H (upd G1 pL (.dK (kQ g (uJ d) (.int ((f d-1:Nat):Int))))):=kI g1 ao;let av:upd G1 pL (.dK (kQ g (uJ d) (.int ((f d-1:Nat):Int)))) al=U (.lst ((lH (edges ws m ss) r).map tx)):=by rw[uF aK];exact aB
      let S2:upd G1 pL (.dK (kQ g (uJ d) (.int ((f d-1:Nat):Int)))) pS=U (.dK L):=by rw[uF aq];exact S1
      let ac:mq H (upd G1 pL (.dK (kQ g (uJ d) (.int ((f d-1:Nat):Int))))) pS pL L (edges ws m ss):=aj.keep λD xs e=>by
       let n':D≠pL:=λz=>by rw[z,L1]at e;cases e
       rw[uF n'];exact e
      let L2:upd G1 pL (.dK (kQ g (uJ d) (.int ((f d-1:Nat):Int)))) pL=U (.dK (kQ g (uJ d) (.int ((f d-1:Nat):Int)))):=uN;let e2:upd G1 pL (.dK (kQ g (uJ d) (.int ((f d-1:Nat):Int)))) pe=U (.lst (B.map tx)):=by rw[uF (uZ ap)];exact e1
      generalize upd G1 pL (.dK (kQ g (uJ d) (.int ((f d-1:Nat):Int))))=G2 at g2 av S2 ac L2 e2;let aM:⇑(kQ g (uJ d) (.int ((f d-1:Nat):Int)))<=8201:=by rw[MR vs];exact an
      let#[k0,k1]:=kj.next hs ms (λt=>if t=d then f d-1 else f t) (λt=>rfl)
      let gs:(if d=d then f d-1 else f d)=f d-1:=uM Z;let aP:GE (kQ g (uJ d) (.int ((f d-1:Nat):Int))) ss (λt=>if t=d then f d-1 else f t):=λt ht=>by
       show _=U (V.int ((if t=d then f d-1 else f t:Nat):Int));rw[y6];by_cases e:t=d
       .rw[uM (by rw[e]),uM e]
       .rw[uI (λz=>e (xI z)),uI e];exact af t ht
      let v2:kK (kQ g (uJ d) (.int ((f d-1:Nat):Int))) (uJ d)=U (.int ((f d-1:Nat):Int)):=by rw[y6,uM Z]
      (try calc vv ?_);(try omega);refine#[pL,_,Z,.inl #[_,uJ d,.inl L2,Z,v2.symm],N0 (lT (λh0=>vv ?_) (λh0=>?_))]
      .let z0:f d-1=0:=R7 h0;let be:=k0 (gs.trans z0);let bg:=DC B ss kj.nd kj.sub;omega;calc#[.inl #[Z,_,.mk e2],pe,_,_,Z,Z,e2,by rw[uO];calc xj (show _<100000 by nofun) (sz 100000 (uV _)),_,B++[d],_,_,Z,kI g2 nH,by rw[uF aN];calc av,by rw[uF aG];calc S2,?_,by rw[uF ap];calc L2,aP,aM,by rw[uN,xO];rfl,be];calc#[ac.no,λr v hv=>?_,ac.inj,ac.len];let#[D,Z,h1,h2,h3,h4]:=ac.yes r v hv;exact#[D,Z,h1,h2,h3,by rw[uF (aa r D hv)];calc h4]
      .let z0:f d-1≠0:=λz=>h0 (R5 z);exact#[_,B,_,_,Z,g2,av,S2,ac,L2,aP,aM,e2,k1 (by rw[gs];calc z0)]
     .rintro σ G1 ⟨v3,B,f,g,rfl,g1,aB,S1,aj,L1,af,an,e1,kj⟩;rw[uO]at kj;let aC:=kj.leave;cutsat
      first | refine#[_,Z,_,_,Z,Z,#[_,_,n+1,B,f,g,Z,g1,S1,aj,L1,af,an,e1,aC],?_] | refine#[#[_,_,n+1,B,f,g,Z,g1,S1,aj,L1,af,an,e1,aC],?_]
      show ⇑ss-((n:Int)+1).toNat<⇑ss-(n:Int).toNat
      nofun
    .rw[R6 c];calc lm ?_;omega;let en:n=⇑B:=by have:=ki.le;nofun
     subst en;calc q pe B H8 (s7.trans s8) nH (s8 _ _ e7) (Zpl ki)
def ZeQ:kz P w K mg base vf 1 a.aw a.aI ["self","head","lap"] (yL K a.c_MD 2 (yV "head" "lap")):=by
 refine T.fi_MD.ok ZeD (λI A k s H B Q E M h=>?_) (λB H Q E h=>by let#[e,r,Z,n,_]:=h;simp[n])
 .obtain⟨e,r,rfl,n,i,q⟩:=h;obtain⟨x,y,rfl⟩:∃x y,r=[x,y]:=by match r,n with | [x,y],_=>exact#[x,y,Z]
  refine⟨_,(uD (vV (Bx Z T.b7 T.cb (uy (pv 0) (uy (uE (l:=s!"words without end avoid the list")) uA))))
   (uD (zC (pv 0) (pv 1) Z)
   (uK (zC (pv 0) (pv 2) Z)))),?_⟩
  omega;calc#[e,a.c_MD,O,_,Z,i,T.eE,(by show 1<=1000;decide),e,a.c_MD,[],Z,.bare i,T.eE.c,T.bz,(by show 0<1000;decide),λC u F G=>?_];let kk:∀b o,H b=U o->b≠e->C b=U o:=λb o g c=>F b o g c λd f=>by rw[i]at f;exact Sa f zK
  calc#[e,a.c_MD,_,Z,u,T.eE.c,T.bO,(by show 1<1000;decide),λp v D _=>?_];calc q p v λb o g c=>D b o (kk b o g c) c λd f z=>?_;subst z;let#[L,j,m]:=G;rw[j]at f;let t:=JM f;subst t;rcases m with z | z
  .rw[i]at z;exact zK z
  .rw[g]at z;cases z
def Zti:kz P w K mg base vf 1 a.f_MS a.d_MS ["ways","ended"] (sp_MS K a):=by
 calc T.jk.u.ok Hj (λBP A ag s H vs Q E hr h=>?_);let r:=Cg hr;let⟨p,pq,kw,f,ss,es,m,rfl,hp,wl,sl,ok,lk,an,hq,he,ad,q⟩:=h;refine⟨_,(uD (vd (i:=2) Hj.nd DD)
  (uD (xC xL Z (wY (K:=K) Z (pv 1)) (vD (i:=3) Hj.nd Z (i0 Z))
  (uP (uD (CZ r (pv 2) (pv 3) (uE (l:=[])) Z)
  (uP (uK (Hd (xC xL Z (GU (yB r (pv 0) (pv 3) (λ_ _=>rfl))) (vD (i:=4) Hj.nd Z (i0 Z))
  (uP (uD (vd (i:=5) Hj.nd (uL uU (pv 4) (yB r (pv 2) (yB r (yB r (pv 0) (pv 3) (λ_ _=>rfl)) (pv 4) (λ_ _=>rfl)) (λ_ _=>rfl))))
  (uK (vM (wQ Gd (vE (w4 (K:=K) Z) Z T.gQ wW (uy (pv 5) uA)) (vE (w4 (K:=K) Z) Z T.gQ wW (uy (yB r (pv 2) (pv 3) (λ_ _=>rfl)) uA)) (wy _)) (uP (uK (CZ r (pv 2) (pv 3) (pv 5) Z))) vN)))))))))))
  (uP (uK (uY (yB r (pv 2) (uE (l:=[])) (λ_ _=>rfl))))))),?_⟩
 let sz:∀k:Nat,k<=100000->k<=sizeLine:=λk h=>u8 h (by rw[bA];decide);let m4:=ok.m4;let aj:=sl.len;let ak:⇑es<=⇑ss:=DC es ss he.nd he.sub;omega;intro pl nl;let s1:ky H (upd H pl (.dK [])):=vG nl;let l1:upd H pl (.dK []) pl=U (.dK []):=uN;generalize upd H pl (.dK [])=H1 at s1 l1;refine#[pq,Z,#[_,.mk (s1 _ _ hq)],kT.list (xs:=es.map tx) (λi σ I=>∃(v3 N M:Option V) (g:List (uQ×V)),σ=[U (.ref p),U (.ref pq),U (.ref pl),v3,N,M]/\ky H I/\I pl=U (.dK g)/\⇑g<=i/\∀s∈es.take i,∃x,kK g (uJ s)=U (tx x)/\LF f m s x/\⇑x<=8200) #[_,_,_,[],Z,s1,l1,uV _,λs h=>by rw[CW]at h;cases h] (λi σ I _ ⟨_,_,_,_,_,s',_⟩=>.mk (s' _ _ hq)) ?_ ?_]
 .rintro i x σ H2 hx ⟨v3,N,M,g,rfl,s2,l2,n2,la⟩;let#[s_,S,Z]:=Ey hx;let il:=(vT.mp S).1;let ms:s_∈ss:=he.sub s_ (wL S);let af:=(sl.iff s_).mp ms;let#[F,va,na,D]:=wl.val sl.nd ms;let L:F≠pl:=vp D nl;let al:p≠pl:=vp hp nl;let ni:s_∉es.take i:=FI he.nd S;omega;cutsat;calc#[pl,_,Z,mY.k (k:=uJ s_) l2 (xj (show _<100000 by nofun) (sz 100000 (uV _))),vv ?_];let s3:ky H (upd H2 pl (.dK (kQ g (uJ s_) (tx [])))):=kI s2 nl;let l3:upd H2 pl (.dK (kQ g (uJ s_) (tx []))) pl=U (.dK (kQ g (uJ s_) (tx []))):=uN;let n3:⇑(kQ g (uJ s_) (tx []))<=i+1:=by
   have:=B1 g (uJ s_) (tx [])
   nofun
  let aa:∀s∈es.take i,∃x,kK (kQ g (uJ s_) (tx [])) (uJ s)=U (tx x)/\LF f m s x/\⇑x<=8200:=λs t=>by have:s≠s_:=λz=>ni (z▸t);rw[y6,uI (λz=>this (xI z))];exact la s t
  let ac:kK (kQ g (uJ s_) (tx [])) (uJ s_)=U (tx []):=by rw[y6,uM Z]
  generalize upd H2 pl (.dK (kQ g (uJ s_) (tx [])))=H3 at s3 l3;generalize kQ g (uJ s_) (tx [])=kO3 at l3 n3 aa ac;omega;refine#[F,_,s3 _ _ D,p,.ref F,Z,.inl #[kw,uJ s_,.inl (s3 _ _ hp),Z,va.symm],F,_,Z,s3 _ _ D,λo=>kT.dict (λj σ I=>∃(N M:Option V) (g:List (uQ×V)) (x:uz),σ=[U (.ref p),U (.ref pq),U (.ref pl),U (tx s_),N,M]/\(∀b y,b≠F->H b=U y->I b=U y)/\I F=U (.frz o (.dK ((wg f m s_).map me)))/\I pl=U (.dK g)/\⇑g<=i+1/\(∀s∈es.take i,∃x,kK g (uJ s)=U (tx x)/\LF f m s x/\⇑x<=8200)/\kK g (uJ s_)=U (tx x)/\PF f m s_ ((lK f m s_).take j) x/\⇑x<=8201) #[_,_,kO3,[],Z,?_,uN,?_,n3,aa,ac,by rw[CW];calc PF.start (lk.stemAv an af),wf _] (λj σ I ⟨_,_,_,_,_,_,h,_⟩=>h) ?_ ?_]
  .intro b y n e;rw[uF n];exact s3 _ _ e
  .rw[uF (uZ L)];exact l3
  .rintro j kv σ H4 u ⟨N,M,v,x,rfl,s4,a4,X,n4,C,B,pw,xl⟩;obtain⟨c,G,rfl⟩:∃c,(lK f m s_)[j]?=U c/\kv=me (c,lL f (s_++[c])):=by
    unfold wg at u;rw[wE,wI]at u;cases e:(lK f m s_)[j]? with
    | none=>rw[e]at u;cases u
    | some c=>rw[e]at u;cases u;exact#[c,Z,Z]
   let eo:lL f (s_++[c])∈k7 f m s_:=by unfold k7 wg;exact vJ.mpr #[_,vJ.mpr #[c,wL G,Z],Z]
   let et:=he.ord i s_ S _ eo;let#[z,vz,lz,ai]:=C _ et;let ab:=IP.mp (wL G);let tk:(lK f m s_).take (j+1)=(lK f m s_).take j++[c]:=by rw[List.take_add_one,G];rfl
   let ae:∀d∈(lK f m s_).take j,d<c:=λd hd=>by let#[k,hk,e]:=yK hd;rw[xw]at hk;rw[List.getElem_take]at e;let#[hj,e2]:=vT.mp G;let ah:(lK f m s_).Pairwise (· < ·):=(DW ok.k).filter _;rw[<-e,<-e2];exact IK.mp ah k j ∅ hj ∅
   let vc:kK ((wg f m s_).map me) (uJ [c])=U (tx (lL f (s_++[c]))):=FX (JG (DW ok.k)) u;let p4:H4 p=U (.dK kw):=s4 _ _ (uZ na) hp;let#[w1,w2]:=pw.next ae ab.1 ab.2 (Dp f (s_++[c])) lz
   rw[<-tk]at w1 w2;show xW 4 (kV (uJ [c])) _ _ _;rw[Eg];omega;cutsat;calc#[p,.ref F,Z,.inl #[kw,uJ s_,.inl p4,Z,va.symm],F,_,Z,.inl #[_,uJ [c],.inr #[o,a4],Z,vc.symm],pl,_,Z,.inl #[v,uJ (lL f (s_++[c])),.inl X,Z,vz.symm],mK #[sz _ (by rw[xf];nofun),?_]];refine#[_,_,Z,Iu (by rw[vn,xf];nofun),pl,_,Z,.inl #[v,uJ s_,.inl X,Z,B.symm],_,_,Z,Iu ∅,lT (λh0=>vv ?_) (λh0=>?_)]
   .let lt:⇑x<⇑(c::z):=by have:=R7 h0;rw[vn,xf]at this;rw[vQ];nofun
    omega;refine#[pl,_,Z,mY.k (k:=uJ s_) X (xj (show _<100000 by nofun) (sz 100000 (uV _))),_,_,kQ v (uJ s_) (tx (c::z)),c::z,Z,?_,by rw[uF L];calc a4,uN,by rw[MR B];calc n4,λs t=>?_,by rw[y6,uM Z],w1 lt,by rw[vQ];nofun]
    .intro b y n e;rw[uF (vp e nl)];exact s4 b y n e
    .have:s≠s_:=λz=>ni (z▸t);rw[y6,uI (λz=>this (xI z))];exact C s t
   .let lt:¬⇑x<⇑(c::z):=λq=>h0 (R5 (by rw[vn,xf];rw[vQ]at q;nofun));exact#[_,_,v,x,Z,s4,a4,X,n4,C,B,w2 lt,xl]
  .rintro σ H4 ⟨N,M,v,x,rfl,s4,a4,X,n4,C,B,pw,xl⟩;let lo:⇑((wg f m s_).map me)=⇑(lK f m s_):=by unfold wg;rw[uO,uO]
   rw[lo,zM]at pw;let lf:=pw.done λc G ha=>IP.mpr #[G,ha];let dp:=KU (W:=f) (m:=m) (es:=es) (o:=k7 f m) (λs c G ha=>#[lL f (s++[c]),by unfold k7 wg;calc vJ.mpr #[_,vJ.mpr #[c,IP.mpr #[G,ha],Z],Z],Dp _ _]) he.ord i s_ S x lf.mem lf.av;refine#[o,_,a4,_,_,_,v,Z,?_,by rw[uF (uZ L)];calc X,n4,λs t=>?_]
   .intro b y e;by_cases c:b=F
    .subst c;rw[D]at e;cases e;rw[uN]
    .rw[uF c];exact s4 b y c e
   .rw[DV S]at t;rcases wM.mp t with z | z
    .exact C s z
    .rw[vI.mp z];exact#[x,B,lf,∅]
 .rintro σ H2 ⟨v3,N,M,g,rfl,s2,l2,n2,la⟩;rw[uO,zM]at la;let#[x,vx,lx,_]:=la [] ad;omega;cutsat;calc#[pl,_,Z,.inl #[g,uJ [],.inl l2,Z,vx.symm],q x H2 s2 lx]
def Zf1:kz P w K mg base vf 1 a.aE a.aY ["self","one","other"] (yL K a.c_NL 2 (yV "one" "other")):=by
 refine T.fi_NL.ok ZfS (λI A k s H B Q E M h=>?_) (λB H Q E h=>by let#[e,r,Z,n,_]:=h;simp[n])
 .obtain⟨e,r,rfl,n,i,q⟩:=h;obtain⟨x,y,rfl⟩:∃x y,r=[x,y]:=by match r,n with | [x,y],_=>exact#[x,y,Z]
  refine⟨_,(uD (vV (Bx Z T.b7 T.cb (uy (pv 0) (uy (uE (l:=s!"two words avoid the list and stand together in no word that does")) uA))))
   (uD (zC (pv 0) (pv 1) Z)
   (uK (zC (pv 0) (pv 2) Z)))),?_⟩
  omega;calc#[e,a.c_NL,O,_,Z,i,T.eD,(by show 1<=1000;decide),e,a.c_NL,[],Z,.bare i,T.eD.c,T.bW,(by show 0<1000;decide),λC u F G=>?_];let kk:∀b o,H b=U o->b≠e->C b=U o:=λb o g c=>F b o g c λd f=>by rw[i]at f;exact Sa f zK
  calc#[e,a.c_NL,_,Z,u,T.eD.c,T.bM,(by show 1<1000;decide),λp v D _=>?_];calc q p v λb o g c=>D b o (kk b o g c) c λd f z=>?_;subst z;let#[L,j,m]:=G;rw[j]at f;let t:=JM f;subst t;rcases m with z | z
  .rw[i]at z;exact zK z
  .rw[g]at z;cases z
def Me:kz P w K mg base vf 1 a.cI a.eJ ["self","text","kinds"] (sp_LI K a):=by
 calc T.gU.u.ok Zsj (λk A g s H j Q E n h=>?_);let⟨p,d,C,l,m,rfl,i,f,q⟩:=h;refine⟨_,(uD (Be (pv 0) (pv 1) Z)
  (uK (Be (pv 0) (pv 2) Z))),?_⟩
 omega;rcases i with rfl | rfl | rfl
 .exact#[p,a.c_NJ,d,[],Z,f,T.bX,T.aJ,(by show 0<1000;decide),p,a.c_NJ,d,_,Z,uN,T.bX,T.aT,(by show 1<1000;decide),q _ uN (λb o e c=>by rw[uF c,uF c];calc e)]
 .exact#[p,a.c_NM,d,[],Z,f,T.ae,T.ad,(by show 0<1000;decide),p,a.c_NM,d,_,Z,uN,T.ae,T.ag,(by show 1<1000;decide),q _ uN (λb o e c=>by rw[uF c,uF c];calc e)]
 .exact#[p,a.c_N0,d,[],Z,f,T.fW,T.bo,(by show 0<1000;decide),p,a.c_N0,d,_,Z,uN,T.fW,T.bg,(by show 1<1000;decide),q _ uN (λb o e c=>by rw[uF c,uF c];calc e)]
def ZeO:kz P w K mg base vf 1 a.aq a.aH ["self","word"] (yL K a.c_MI 1 (wa "word")):=by
 refine T.fi_MI.ok ZeA (λu A f s H m Q E v h=>?_) (λm H Q E h=>by let#[e,r,Z,c,_]:=h;simp[c])
 .obtain⟨e,r,rfl,c,i,q⟩:=h;obtain⟨x,rfl⟩:∃x,r=[x]:=by match r,c with | [x],_=>exact#[x,Z]
  refine⟨_,(uD (vV (Bx Z T.b7 T.cb (uy (pv 0) (uy (uE (l:=s!"a word with too many letters avoids the list")) uA))))
   (uK (zC (pv 0) (pv 1) Z))),?_⟩
  omega;calc#[e,a.c_MI,O,_,Z,i,T.fU,(by show 1<=1000;decide),e,a.c_MI,[],Z,.bare i,T.fU.c,T.bw,(by show 0<1000;decide),λn p t _=>?_];calc q n p λb o k g=>t b o k g λd j=>by rw[i]at j;calc Sa j zK
def ZtU:kz P w K mg base vf 1 a.f_L0 a.d_L0 ["verb","many"] (sp_L0 K a):=by
 calc T.iP.u.ok Ll (λBP A m s H vs Q E hr h=>?_);let⟨M,n,p,rfl,F,hn,q⟩:=h;refine⟨_,(uD (vd (i:=2) Ll.nd (yM (IR (K:=K) Z) Z T.iG CS (uy (NG (K:=K) (w:=w) Z Z (yr (v:=.ref a.v_FORMS) Z T.v_FORMS Z) (pv 0) (λ_ _=>rfl)) uA)))
  (uP (uD (vM (wQ (Jf (K:=K) Z) (uE (l:=s!"..")) (pv 2) Z) (uK (uY (pv 2))) vN)
  (uP (uD (vd (i:=3) Ll.nd (xJ (E5 (K:=K) Z) (pv 2) xX (xp (Fz FE uR))))
  (uP (uK (uY (uL xR (pv 3) (uL Zqs (xJ (E5 (K:=K) Z) (pv 3) (xp (Fz FE uR)) xX) (uL IT (pv 1) (vE (w4 (K:=K) Z) Z T.gQ wW (uy (pv 3) uA))))))))))))),?_⟩
 let#[d,L,W,_]:=NA T.sd_FORMS;omega;let#[b,x,C]:=W F;by_cases j:yk∈p
 .obtain rfl:=Zpc F j;calc#[_,d,uJ M,_,Z,L,Z,x,b,_,Z,.inr (C H),λl k=>vv ?_];omega;calc#[l,_,Z,.inl (.mk uN),Z,Z,?_];rw[uM Z,Zru];calc lm (vv ?_);omega;calc#[_,Z,l,_,Z,.mk uN,λc r=>?_];let V:=vG (o:=.lst [tx vS,tx vR,tx yk]) k;let D:=V.trans (vG (o:=.lst [tx vS,tx vR]) r);let u:upd (upd H l (.lst [tx vS,tx vR,tx yk])) c (.lst [tx vS,tx vR]) c=U (.lst [tx vS,tx vR]):=uN;show CN _ _ _ (upd (upd H l (.lst [tx vS,tx vR,tx yk])) c (.lst [tx vS,tx vR]));generalize upd (upd H l (.lst [tx vS,tx vR,tx yk])) c (.lst [tx vS,tx vR])=H2 at D u;cutsat;calc#[_,Z,c,_,Z,.mk u,λt g=>?_];let S:=D.trans (vG (o:=.lst [tx vR]) g);let X:upd H2 t (.lst [tx vR]) t=U (.lst [tx vR]):=uN;let G:=vG (o:=.lst [tx vR]) g _ _ u;calc#[_,_,Z,.inl #[_,.mk G,Z],?_];obtain⟨z,I,B⟩:∃z:Int,((n:Nat):Int)-(⇑[tx vS,tx vR]:Nat)=z/\z.toNat=n-2:=#[_,Z,by show (((n:Nat):Int)-((2:Nat):Int)).toNat=_;nofun];let zb:-2<=z/\z<=900:=by rw[<-I];show -2<=((n:Nat):Int)-((2:Nat):Int)/\((n:Nat):Int)-((2:Nat):Int)<=900;nofun
  rw[I];calc#[t,_,_,Z,Z,X,∅,∅,sz _ (by rw[B];show 1*(n-2)<=9000;nofun),λl4 e=>?_];rw[B,ZmE];let y:=S.trans (vG (o:=.lst ((cw (n-2) vR).map tx)) e);calc#[c,l4,_,_,Z,Z,vG e _ _ G,uN,sz _ (by rw[uO,Fe];show 2+(n-2)<=9000;nofun),λN f=>q N _ (y.trans (vG f)) (y.free f) ?_];rw[uN,show yc [vS,vR,yk] n=[vS,vR]++cw (n-2) vR from uM j];rfl
 .refine#[_,d,uJ M,_,Z,L,Z,x,b,_,Z,.inr (C H),λl k=>vv ?_];omega;calc#[l,_,Z,.inl (.mk uN),Z,Bv _,?_];rw[uM Z,Fi,R6 j];calc lE (q l _ (vG k) k (by rw[uN,show yc p n=p from uI j]))
def ZeP:kz P w K mg base vf 1 a.ao a.aG ["self","place"] (yL K a.c_MH 1 (wa "place")):=by
 refine T.fi_MH.ok ZeB (λu A f s H m Q E v h=>?_) (λm H Q E h=>by let#[e,r,Z,c,_]:=h;simp[c])
 .obtain⟨e,r,rfl,c,i,q⟩:=h;obtain⟨x,rfl⟩:∃x,r=[x]:=by match r,c with | [x],_=>exact#[x,Z]
  refine⟨_,(uD (vV (Bx Z T.b7 T.cb (uy (pv 0) (uy (uE (l:=s!"this is no place of the strip")) uA))))
   (uK (zC (pv 0) (pv 1) Z))),?_⟩
  omega;calc#[e,a.c_MH,O,_,Z,i,T.dZ,(by show 1<=1000;decide),e,a.c_MH,[],Z,.bare i,T.dZ.c,T.a9,(by show 0<1000;decide),λn p t _=>?_];calc q n p λb o k g=>t b o k g λd j=>by rw[i]at j;calc Sa j zK
def DS:kz P w K mg base vf 1 a.f_LH a.d_LH ["parts"] (sp_LH K a):=by
 calc T.gM.u.ok PJ (λC A g s H D Q E u h=>?_);let v:=u.units;let⟨b,c,rfl,m,y,n,q⟩:=h;refine⟨_,(uD (vd (i:=1) PJ.nd (Gx (K:=K) Z CG PySem.F.slot_str_join PySem.F.type_str_join OD (uE (l:=[32])) (uy (yn (N:=["part"]) (ix:=[O]) Z (xQ Z) Z (wY (K:=K) Z (pv 0)) (λ_ _ _ _=>(vD (i:=0) (show (["part"]:AJ).Nodup from by decide +kernel) Z (i0 Z) (jl Z))) (λ_ _ _ _=>yI) (λ_ _ _ _=>(yM Zim Z T.jS Fo (uy (pv 0) uA)))) uA)))
  (uK (uY (Rc (wQ (x6 (K:=K) Z v) (pv 1) (uE (l:=[])) (wy _)) (DX Z T.c_KZ) (pv 1))))),?_⟩
 omega;refine#[Z,b,Z,#[_,.mk m],kF.listM (xs:=c.map tx) (λ_=>Y) (λi=>tx (c.getD i [])) (by rw[uO];nofun) (.mk m) (λi o B _ _ q=>q o (ky.refl _)) ?_ ?_]
 .intro i d x f _ k p;rw[uO]at f;rw[Cr f];omega;exact#[_,Z,p d (ky.refl _)]
 .intro j d k F r;let e:d j=U (.lst (c.map tx)):=by
   rw[r,mE,uO];congr 2;apply z5 {};intro i G t;let f:i<⇑c:=by simpa using t
   simp[wj,f]
  calc#[[32],j,c,Z,Z,e,by rw[xf];nofun,.inl #[Z,?_]];rw[uI vC,CA];have:=q d k;unfold mS at this;refine lT (λh=>?_) (λh=>?_)
  .rw[uM (R7 h)]at this;exact this
  .rw[uI (λz=>h (R5 z))]at this;calc this
def Ej:kz P w K mg base vf 1 a.cR a.fb ["self"] (sp_KQ K a):=by calc T.gO.u.ok ZsC (λg A b s H e Q E j h=>?_);let#[p,i,m,F,Z,c,q]:=h;calc#[_,(uK (uY (vL (K:=K) Z (pv 0) Z))),?_];let#[d,f]:=c.fld;omega;calc#[p,_,d,_,_,Z,f,T.am,T.aU,shK,q]
def Nk:kz P w K mg base vf 1 a.aB a.aQ ["self","name"] (yL K a.c_MY 1 (wa "name")):=by
 refine T.fi_MY.ok Zfe (λu A f s H m Q E v h=>?_) (λm H Q E h=>by let#[e,r,Z,c,_]:=h;simp[c])
 .obtain⟨e,r,rfl,c,i,q⟩:=h;obtain⟨x,rfl⟩:∃x,r=[x]:=by match r,c with | [x],_=>exact#[x,Z]
  refine⟨_,(uD (vV (Bx Z T.b7 T.cb (uy (pv 0) (uy (uE (l:=s!"this is no name, or no strip has it")) uA))))
   (uK (zC (pv 0) (pv 1) Z))),?_⟩
  omega;calc#[e,a.c_MY,O,_,Z,i,T.dD,(by show 1<=1000;decide),e,a.c_MY,[],Z,.bare i,T.dD.c,T.bj,(by show 0<1000;decide),λn p t _=>?_];calc q n p λb o k g=>t b o k g λd j=>by rw[i]at j;calc Sa j zK
def Zd0:kz P w K mg base vf 1 a.aj a.aC ["self","name"] (yL K a.c_LM 1 (wa "name")):=by
 refine T.fi_LM.ok ZdV (λu A f s H m Q E v h=>?_) (λm H Q E h=>by let#[e,r,Z,c,_]:=h;simp[c])
 .obtain⟨e,r,rfl,c,i,q⟩:=h;obtain⟨x,rfl⟩:∃x,r=[x]:=by match r,c with | [x],_=>exact#[x,Z]
  refine⟨_,(uD (vV (Bx Z T.b7 T.cb (uy (pv 0) (uy (uE (l:=s!"a strip has this name already")) uA))))
   (uK (zC (pv 0) (pv 1) Z))),?_⟩
  omega;calc#[e,a.c_LM,O,_,Z,i,T.eI,(by show 1<=1000;decide),e,a.c_LM,[],Z,.bare i,T.eI.c,T.aZ,(by show 0<1000;decide),λn p t _=>?_];calc q n p λb o k g=>t b o k g λd j=>by rw[i]at j;calc Sa j zK
def ZtY:kz P w K mg base vf 1 a.cU a.fk ["self"] (sp_KR K a):=by calc T.ji.u.ok ZsB (λn A b s H l Q E t h=>?_);let#[p,g,m,F,Z,c,o,q]:=h;calc#[_,(uK (uY (vE (Zgu Z) Z T.iC Ib (uy (vL (K:=K) Z (pv 0) Z) uA)))),?_];let#[j,f]:=c.fld;omega;calc#[p,_,j,_,_,Z,f,T.am,T.ah,F8,g,_,_,Z,.inl c.dct,Zo0 F,by rw[uO];nofun,kU.of λr e d i k=>q r e d i k]
def Zfj:kz P w K mg base vf 1 a.ay a.aM ["self","thing"] (yL K a.c_MZ 1 (wa "thing")):=by
 refine T.fi_MZ.ok Zfd (λu A f s H m Q E v h=>?_) (λm H Q E h=>by let#[e,r,Z,c,_]:=h;simp[c])
 .obtain⟨e,r,rfl,c,i,q⟩:=h;obtain⟨x,rfl⟩:∃x,r=[x]:=by match r,c with | [x],_=>exact#[x,Z]
  refine⟨_,(uD (vV (Bx Z T.b7 T.cb (uy (pv 0) (uy (uE (l:=s!"this is no text of a ring")) uA))))
   (uK (zC (pv 0) (pv 1) Z))),?_⟩
  omega;calc#[e,a.c_MZ,O,_,Z,i,T.eC,(by show 1<=1000;decide),e,a.c_MZ,[],Z,.bare i,T.eC.c,T.ba,(by show 0<1000;decide),λn p t _=>?_];calc q n p λb o k g=>t b o k g λd j=>by rw[i]at j;calc Sa j zK
def OC:kz P w K mg base vf 1 a.f_NT a.d_NT ["_law_script","_law_k"] (sp_NT K a):=by
 calc T.jM.u.ok ZrN (λj A c s H i Q E l h=>?_);let⟨b,g,k,rfl,d,f,q⟩:=h;refine⟨_,(uD (vM (wQ JZ (pv 1) (vE (w4 (K:=K) Z) Z T.gQ wW (uy (pv 0) uA)) (wy _)) (uK (uY (vh (wq (K:=K) Z) (pv 0) (pv 1) (λ_ _=>rfl)))) vN)
  (uK (uY uR))),?_⟩
 omega;calc#[_,_,Z,.inl #[_,d,Z],?_];rw[uO];refine lT (λh=>?_) (λh=>?_)
 .let e:k<⇑g:=R7 h;exact#[b,_,k,_,Z,Z,d,Zpv f e,q _]
 .exact q _
def Ew:kz P w K mg base vf 1 a.f_NU a.d_NU ["_law_cell","_law_k"] (sp_NU K a):=by
 calc T.ib.u.ok J0 (λe A b s H d Q E f h=>?_);let⟨c,k,rfl,q⟩:=h;refine⟨_,(uD (vd (i:=2) J0.nd (uL zF (uL y8 (uL y8 (uL EW (uL zF (pv 0) uR) uR) (uL EW (pv 1) uR)) uR) uR))
  (uD (vd (i:=2) J0.nd (uL zF (uL y8 (uL y8 (uL EW (uL zF (uL EW (pv 2) (pv 2)) uR) uR) (uL EW (pv 1) uR)) uR) uR))
  (uK (uY (uL zF (uL EW (pv 2) (pv 2)) uR))))),?_⟩
 omega;calc#[⋯,.inr #[⋯,⋯],.inr #[⋯,⋯],⋯,cm ⋯ ⋯,⋯,.inr #[⋯,⋯],.inr #[⋯,⋯],⋯,cm ⋯ ⋯,⋯,q]
def ZtR:kz P w K mg base vf 1 a.f_L5 a.d_L5 ["_law_names_here","_law_a"] (sp_L5 K a):=by
 calc T.i8.u.ok Db (λBP A G s H z Q E j h=>?_);let#[p,dA,b,g,m,d,f,non,c,t1,t2,t3,k,F,Z,hb,st,k8,hg,h3,h0,q]:=h;obtain⟨y,n⟩:∃M,M=Nc ((wT oh).getD 1 (.Pass #[0,0,0,0])):=#[_,Z];let V:wT oh=[(wT oh).getD 0 (.Pass #[0,0,0,0]),QC y ((wT oh).getD 1 (.Pass #[0,0,0,0])),(wT oh).getD 2 (.Pass #[0,0,0,0]),(wT oh).getD 3 (.Pass #[0,0,0,0]),(wT oh).getD 4 (.Pass #[0,0,0,0]),(wT oh).getD 5 (.Pass #[0,0,0,0]),(wT oh).getD 6 (.Pass #[0,0,0,0])]:=by rw[n];kernel_rfl
 rw[V];refine' ⟨_,(uD (HK (pv 0) (Kl Z (zS (vD (i:=2) Db.nd Z (i0 Z)) (zS (vD (i:=3) Db.nd Z (i0 Z)) (zS (vD (i:=4) Db.nd Z (i0 Z)) GF)))))
  (uP (uD (vd (i:=5) Db.nd (Ry ?disp0))
  (uP (uD (vd (i:=5) Db.nd (uL xR (pv 5) (wc (uy (uE (l:=s!"strip a1")) (uy (uE (l:=s!"strip abcdefghi")) (uy (uL uU (uE (l:=s!"put ")) (vU (pv 2))) (uy (uL uU (uL uU (uL uU (uE (l:=s!"put  ")) (vU (pv 2))) (uE (l:=[32]))) (pv 1)) (uy (uL uU (uL uU (uE (l:=s!"put ")) (vU (pv 2))) (uE (l:=s!" A"))) uA))))))))
  (uP (uD (vd (i:=5) Db.nd (uL xR (pv 5) (wc (uy (uL uU (uL uU (uL uU (uL uU (uL uU (uE (l:=s!"put ")) (vU (pv 2))) (uE (l:=[32]))) (pv 1)) (uE (l:=[32]))) (pv 1)) (uy (uL uU (uE (l:=s!"from ")) (vU (pv 4))) (uy (uL uU (uL uU (uE (l:=s!"most ")) (vU (pv 2))) (uE (l:=s!" 01"))) (uy (uL uU (uL uU (uE (l:=s!"most ")) (vU (pv 2))) (uE (l:=s!" -1"))) uA)))))))
  (uP (uD (vd (i:=5) Db.nd (uL xR (pv 5) (wc (uy (uL uU (uL uU (uE (l:=s!"most ")) (vU (pv 2))) (uE (l:=s!" x"))) (uy (uL uU (uL uU (uE (l:=s!"most ")) (vU (pv 2))) (uE (l:=s!" 1000"))) (uy (uL uU (uL uU (uE (l:=s!"lone ")) (vU (pv 2))) (uE (l:=s!" +0"))) (uy (uL uU (uL uU (uE (l:=s!"ask ")) (vU (pv 2))) (uE (l:=s!" a--"))) uA)))))))
  (uP (uD (vd (i:=5) Db.nd (uL xR (pv 5) (wc (uy (uL uU (uE (l:=s!"same ")) (pv 1)) (uy (uE (l:=s!"ring")) (uy (uL uU (uL uU (uE (l:=s!"rooms ")) (vU (pv 2))) (uE (l:=s!" 1"))) (uy (uE (l:=s!"near")) (uy (uL uU (uL uU (uE (l:=s!"lacks ")) (vU (pv 3))) (uE (l:=s!" -"))) (uy (uL uU (uL uU (uE (l:=s!"most ")) (vU (pv 2))) (uE (l:=s!" -"))) uA)))))))))
  (uP (uK (uY (yn (N:=["_law_line"]) (ix:=[O]) Z (xQ Z) Z (wY (K:=K) Z (pv 5)) (λ_ _ _ _=>(vD (i:=0) (show (["_law_line"]:AJ).Nodup from by decide +kernel) Z (i0 Z) (jl Z))) (λ_ _ _ _=>yI) (λ_ _ _ _=>(vZ (uy (pv 0) (uy (uE (l:=s!"line")) uA))))))))))))))))))),?_⟩
 case disp0=>
  rw[n];exact(yD (uE (l:=[])) (yD (uE (l:=[32])) (yD (uE (l:=s!"names ")) (yD (uE (l:=s!" names")) (yD (uE (l:=s!"Names")) (yD (uE (l:=s!"names x")) (yD (uE (l:=s!"strip")) (yD (uE (l:=s!"strip A")) (yD (uL uU (uL uU (uL uU (uE (l:=s!"strip ")) (vU (pv 2))) (uE (l:=[32]))) (vU (pv 4))) Ov)))))))))
 let#[i1,i2,i3]:=st.nms;let o8:=yj i1;let w8:=yj i2;let v8:=yj i3;let dL:=Zrt (a:=a) (p:=p) (dA:=dA) (m:=m) (F:=F) (xY i1) (xY i2) (xY i3) (oZ k8.let.1);omega;calc#[b,_,Z,.mk hb,Z,_,_,Z,_,_,Z,_,_,Z,Z,vv ?_];omega;calc#[by symm,by symm,by symm,by symm,kU.of λr G0 S nr j=>?_];let j:G0 r=U (.lst ((nA d f non c).map tx)):=j;cutsat
 (iterate 7 calc#[by symm,?_])
 calc kU.of λz1 G1 X m1 l1=>#[r,z1,_,_,Z,Z,X _ _ j,l1,Ce (vk Z),λx1 f1=>Is (nB d f non c) S j X f1 λJ1 S j=>vv ?_];omega
 (iterate 11 calc#[by symm,?_])
 calc kU.of λz2 G2 e2 m2 l2=>#[x1,z2,_,_,Z,Z,e2 _ _ j,l2,Ce (vk Z),λx2 f2=>Is (nC d f non c) S j e2 f2 λJ2 S j=>vv ?_];omega
 (iterate 9 calc#[by symm,?_])
 calc kU.of λz3 G3 e3 m3 l3=>#[x2,z3,_,_,Z,Z,e3 _ _ j,l3,Ce (vk Z),λx3 f3=>Is (nD d f non c) S j e3 f3 λJ3 S j=>vv ?_];omega
 (iterate 8 calc#[by symm,?_])
 calc kU.of λz4 G4 e4 m4 l4=>#[x3,z4,_,_,Z,Z,e4 _ _ j,l4,Ce (vk Z),λx4 f4=>Is (nE d f non c) S j e4 f4 λJ4 S j=>?_];omega;let D:⇑(nA d f non c++nB d f non c++nC d f non c++nD d f non c++nE d f non c)=28:=rfl;generalize nA d f non c++nB d f non c++nC d f non c++nD d f non c++nE d f non c=L at dL j D;refine#[x4,Z,#[_,.mk j],kF.tupsM (xs:=L.map tx) (λi z=>∃x,L[i]?=U x/\z=[tx x,tx s!"line"]) (by rw[uO,D];decide) (.mk j) ?_ ?_]
 .intro i W Q5 u B q5;rw[uO]at u;rw[Cr u];omega;exact#[by symm,ly.of λt H6 s6 n6 l6=>q5 t _ H6 s6 l6 #[_,by rw[wj,vK u];rfl,Z]]
 .intro p5 ys W B n5 l5 C I;calc q p5 ys k W (λb o e _=>B _ _ (S _ _ e)) (B _ _ (S _ _ hg)) (uV _) l5 (λv hv=>?_) (by rw[C,uO,D];decide);let#[i,u]:=List.mem_iff_getElem?.mp hv;let#[t,z,Z,ht,x,hx,Z]:=I i v u;calc#[t,x,_,Z,ht,dL x (wL hx)]
def ZtO:kz P w K mg base vf 1 a.f_L8 a.d_L8 ["_law_names_here","_law_a"] (sp_L8 K a):=by
 calc T.i9.u.ok EE (λBP A ae s H vs Q E C h=>?_);let#[p,dA,b,g,m,ad,aa,non,c,t1,t2,t3,k,F,Z,hb,st,k8,hg,h3,h0,q]:=h;obtain⟨ac,v⟩:∃af,af=Nc ((wT oz).getD 3 (.Pass #[0,0,0,0])):=#[_,Z];let ah:wT oz=[(wT oz).getD 0 (.Pass #[0,0,0,0]),(wT oz).getD 1 (.Pass #[0,0,0,0]),(wT oz).getD 2 (.Pass #[0,0,0,0]),QC ac ((wT oz).getD 3 (.Pass #[0,0,0,0])),(wT oz).getD 4 (.Pass #[0,0,0,0]),(wT oz).getD 5 (.Pass #[0,0,0,0])]:=by rw[v];kernel_rfl
 rw[ah];refine' ⟨_,(uP (uD (HK (pv 0) (Kl Z (zS (vD (i:=2) EE.nd Z (i0 Z)) (zS (vD (i:=3) EE.nd Z (i0 Z)) (zS (vD (i:=4) EE.nd Z (i0 Z)) GF)))))
  (uP (uD (vd (i:=5) EE.nd (wc (uy (vZ (uy (uL uU (uE (l:=s!"strip ")) (vU (pv 2))) (uy (uL uU (uE (l:=s!"there ")) (vU (pv 2))) uA))) (uy (vZ (uy (uL uU (uL uU (uL uU (uE (l:=s!"from ")) (vU (pv 3))) (uE (l:=[32]))) (pv 1)) (uy (uL uU (uE (l:=s!"there ")) (vU (pv 3))) uA))) uA))))
  (uP (uD (vV (yu zL Bg Br zY (pv 5) (uy (vZ (uy (uL uU (uL uU (uE (l:=s!"from ")) (vU (pv 2))) (uE (l:=s!" w"))) (uy (uL uU (uE (l:=s!"there ")) (vU (pv 2))) uA))) uA)))
  (uP (uD (xC xL Z (wY (K:=K) Z (Ry ?disp0)) (vD (i:=6) EE.nd Z (i0 Z))
  (uP (uK (vV (yu zL Bg Br zY (pv 5) (uy (vZ (uy (yu CG PySem.F.slot_str_replace PySem.F.type_str_replace NU (pv 6) (uy (Pu (l:=[78]) nofun) (uy (pv 4) uA))) (uy (uL uU (uE (l:=s!"no ")) (vU (pv 4))) uA))) uA))))))
  (uP (uD (xC xL Z (wY (K:=K) Z (wc (uy (uE (l:=s!"lone N 0")) (uy (uE (l:=s!"rooms N")) (uy (uE (l:=s!"near N")) uA))))) (vD (i:=6) EE.nd Z (i0 Z))
  (uP (uK (vV (yu zL Bg Br zY (pv 5) (uy (vZ (uy (yu CG PySem.F.slot_str_replace PySem.F.type_str_replace NU (pv 6) (uy (Pu (l:=[78]) nofun) (uy (pv 4) uA))) (uy (uL uU (uE (l:=s!"no ")) (vU (pv 4))) uA))) uA))))))
  (uP (uK (uY (pv 5)))))))))))))),?_⟩
 case disp0=>
  rw[v];exact(yD (uE (l:=s!"take N")) (yD (uE (l:=s!"put N w")) (yD (uE (l:=s!"drop N")) (yD (uE (l:=s!"back N")) (yD (uE (l:=s!"text N")) (yD (uE (l:=s!"lacks N")) (yD (uE (l:=s!"ask N w")) (yD (uE (l:=s!"often N w")) (yD (uE (l:=s!"most N 9")) Ov)))))))))
 let#[i1,i2,i3]:=st.nms;let o8:=yj i1;let w8:=yj i2;let v8:=yj i3;let#[cl,cm,ai]:=k8.let;let dt:=Zlv (a:=a) (p:=p) (dA:=dA) (m:=m) st;let dn:=Re (a:=a) (p:=p) (dA:=dA) (m:=m) st;let d0:=dt.1;let d1:=(dt.2 c cl).2;let d2:=(dt.2 119 ⋯).1;omega;calc#[b,_,Z,.mk hb,Z,_,_,Z,_,_,Z,_,_,Z,Z,?_];dsimp only;cutsat;calc#[(by symm),(by symm),sz 2 ⋯,ly.of λu1 G1 e1 m1 l1=>#[(by symm),(by symm),(by symm),(by symm),sz 2 ⋯,ly.of λu2 G2 e2 m2 l2=>#[sz _ ⋯,kU.of λr G3 e3 nr C=>?_]]];let S:=e1.trans (e2.trans (e3));let nr:=(e1.trans (e2)).free nr;let W:lP a p dA m F G3 _:=.cons (Dv.same #[u1,_,_,Z,l1,~~~d0] (e2.trans (e3))) (.one (Dv.same #[u2,_,_,Z,l2,~~~d1] (e3)));obtain⟨ys,ey,yl⟩:∃ys,ys=[V.ref u1,V.ref u2]/\⇑ys=2:=#[_,Z,Z];rw[<-ey]at C W;cutsat;calc#[.inl #[Z,_,.mk C],(by symm),(by symm),(by symm),sz 2 ⋯,ly.of λD G4 e4 m4 l4=>#[r,_,_,Z,Z,e4 _ _ C,by rw[yl];calc sz _ ⋯,?_]];let S:ky H (upd G4 r (.lst (ys++[V.ref D]))):=kI (S.trans e4) nr;let W:=((W.same e4).app (.one (#[D,_,_,Z,l4,~~~d2]))).upd (ys:=ys++[V.ref D]) (e4 _ _ C);let C:upd G4 r (.lst (ys++[V.ref D])) r=U (.lst (ys++[V.ref D])):=uN;show CN _ _ _ (upd G4 r (.lst (ys++[V.ref D])));generalize upd G4 r (.lst (ys++[V.ref D]))=J4 at S W C ⊢;let yl:⇑(ys++[V.ref D])=3:=by rw[vn,yl];rfl
 generalize ys++[V.ref D]=ys at C W yl;cutsat;refine#[sz 9 ⋯,kU.of λpl G5 e5 n5 l5=>#[pl,Z,#[_,.mk l5],kT.list (xs:=Ff (zG.take 9)) (Hu a p dA m F H b g r pl c t1 t2 t3 k ad aa non (Ff (zG.take 9)) 3) #[_,k,ys,Z,λb o e _=>e5 _ _ (S _ _ e),e5 _ _ (S _ _ hg),uV _,e5 _ _ C,W.same e5,by rw[yl];calc uV _,l5] (λi σ X _ B=>by cases B with | mk _ _ _ _ _ _ _ _ _ _ e=>calc .mk e) ?_ ?_]]
 .intro i x σ X hx B;obtain⟨y,N,rfl⟩:∃y∈zG,x=tx (y.1++32::78::y.2):=by let#[y,N,e]:=vJ.mp (wL hx);exact#[y,Ep N,e.symm]
  cases B with
  | mk v6 L ys G M f I d t j u=>
  subst G;omega;cutsat;exact#[.inl #[Z,_,.mk d],Z,g,L,f,Nq st h3 h0 nr N M f I d t j (by have:=(vT.mp hx).1;have:⇑(Ff (zG.take 9))=9:=rfl;nofun) u (λz=>by rw[z,C]at n5;cases n5)]
 .intro σ X B;cases B with
  | mk v6 L ys G M f I d t j u=>
  subst G;(try omega);cutsat;let ag:=d;refine#[sz 3 ⋯,kU.of λab G6 e6 n6 l6=>#[ab,Z,#[_,.mk l6],kT.list (xs:=Ff (zG.drop 9)) (Hu a p dA m F H b g r ab c t1 t2 t3 k ad aa non (Ff (zG.drop 9)) 12) #[_,L,ys,Z,λb o e n=>e6 _ _ (M b o e n),e6 _ _ f,I,e6 _ _ d,t.same e6,j,l6] (λi σ X _ B=>by cases B with | mk _ _ _ _ _ _ _ _ _ _ e=>calc .mk e) ?_ ?_]]
  .intro i x σ X hx B;obtain⟨y,N,rfl⟩:∃y∈zG,x=tx (y.1++32::78::y.2):=by let#[y,N,e]:=vJ.mp (wL hx);exact#[y,List.mem_of_mem_drop N,e.symm]
   cases B with
   | mk v6 L ys G M f I d t j u=>
   subst G;omega;cutsat;exact#[.inl #[Z,_,.mk d],Z,g,L,f,Nq st h3 h0 nr N M f I d t j (by have:=(vT.mp hx).1;have:⇑(Ff (zG.drop 9))=3:=rfl;nofun) u (λz=>by rw[z,ag]at n6;cases n6)]
  .intro σ X B;cases B with
   | mk v6 L ys G M f I d t j u=>
   subst G;(try omega);cutsat;calc q r ys L X M f I d t (u8 j ⋯)
def ZtQ:kz P w K mg base vf 1 a.f_L6 a.d_L6 ["_law_names_here","_law_a"] (sp_L6 K a):=by
 calc T.ja.u.ok Cf (λBP A aI s H vs Q E f h=>?_);let⟨p,dA,b,g,m,bn,bV,non,c,t1,t2,t3,k,F,rfl,hb,st,k8,hg,h3,h0,q⟩:=h;refine⟨_,(uD (HK (pv 0) (Kl Z (zS (vD (i:=2) Cf.nd Z (i0 Z)) (zS (vD (i:=3) Cf.nd Z (i0 Z)) (zS (vD (i:=4) Cf.nd Z (i0 Z)) GF)))))
  (uP (uD (vd (i:=5) Cf.nd (wc (uy (vZ (uy (uL uU (uL uU (uE (l:=s!"put ")) (vU (pv 2))) (uE (l:=s!" w"))) (uy (uE (l:=s!"word w")) uA))) (uy (vZ (uy (uL uU (uL uU (uE (l:=s!"put ")) (vU (pv 2))) (uE (l:=s!" -"))) (uy (uE (l:=s!"word ")) uA))) uA))))
  (uP (uD (vV (yu zL Bg Br zY (pv 5) (uy (vZ (uy (uL uU (uL uU (uL uU (uL uU (uE (l:=s!"put ")) (vU (pv 2))) (uE (l:=[32]))) (pv 1)) (pv 1)) (uy (uL uU (uL uU (uE (l:=s!"word ")) (pv 1)) (pv 1)) uA))) uA)))
  (uP (uD (vd (i:=5) Cf.nd (uL xR (pv 5) (wc (uy (vZ (uy (uL uU (uE (l:=s!"drop ")) (vU (pv 3))) (uy (uE (l:=s!"bare")) uA))) (uy (vZ (uy (uL uU (uE (l:=s!"back ")) (vU (pv 3))) (uy (uE (l:=s!"none")) uA))) (uy (vZ (uy (uL uU (uL uU (uE (l:=s!"ask ")) (vU (pv 2))) (uE (l:=s!" w"))) (uy (uE (l:=s!"word w")) uA))) uA))))))
  (uP (uD (vd (i:=5) Cf.nd (uL xR (pv 5) (wc (uy (vZ (uy (uL uU (uL uU (uL uU (uE (l:=s!"often ")) (vU (pv 2))) (uE (l:=[32]))) (uL DH (pv 1) uR)) (uy (uL uU (uE (l:=s!"word ")) (uL DH (pv 1) uR)) uA))) (uy (vZ (uy (uL uU (uL uU (uE (l:=s!"most ")) (vU (pv 3))) (uE (l:=s!" 1"))) (uy (uE (l:=s!"length 1")) uA))) uA)))))
  (uP (uD (vd (i:=5) Cf.nd (uL xR (pv 5) (wc (uy (vZ (uy (uL uU (uL uU (uE (l:=s!"most ")) (vU (pv 2))) (uE (l:=s!" 0"))) (uy (uE (l:=s!"length 0")) uA))) (uy (vZ (uy (uL uU (uL uU (uE (l:=s!"most ")) (vU (pv 2))) (uE (l:=s!" 2"))) (uy (uE (l:=s!"length 2")) uA))) uA)))))
  (uP (uD (vd (i:=5) Cf.nd (uL xR (pv 5) (wc (uy (vZ (uy (uL uU (uL uU (uE (l:=s!"most ")) (vU (pv 2))) (uE (l:=s!" 100"))) (uy (uE (l:=s!"length 100")) uA))) (uy (vZ (uy (uL uU (uL uU (uE (l:=s!"lone ")) (vU (pv 2))) (uE (l:=s!" 999"))) (uy (uE (l:=s!"place 999")) uA))) uA)))))
  (uP (uD (vd (i:=5) Cf.nd (uL xR (pv 5) (wc (uy (vZ (uy (uL uU (uL uU (uE (l:=s!"lone ")) (vU (pv 2))) (uE (l:=s!" 1"))) (uy (uE (l:=s!"place 1")) uA))) (uy (vZ (uy (uL uU (uL uU (uE (l:=s!"lone ")) (vU (pv 3))) (uE (l:=s!" 0"))) (uy (uE (l:=s!"place 0")) uA))) (uy (vZ (uy (uE (l:=s!"ring -")) (uy (uE (l:=s!"ring ")) uA))) uA))))))
  (uP (uD (vd (i:=5) Cf.nd (uL xR (pv 5) (wc (uy (vZ (uy (uE (l:=s!"ring w")) (uy (uE (l:=s!"ring w")) uA))) (uy (vZ (uy (uL uU (uL uU (uE (l:=s!"same ")) (pv 1)) (uE (l:=s!" -"))) (uy (uE (l:=s!"ring ")) uA))) (uy (vZ (uy (uE (l:=s!"same w -")) (uy (uE (l:=s!"ring w")) uA))) uA))))))
  (uP (uK (uY (uL xR (pv 5) (wc (uy (vZ (uy (uL uU (uE (l:=s!"ring ")) (uL DH (pv 1) uR)) (uy (uL uU (uE (l:=s!"ring ")) (uL DH (pv 1) uR)) uA))) uA))))))))))))))))))))))),?_⟩
 let dc:=Zlx (a:=a) (p:=p) (dA:=dA) st k8;simp only[vg,xD,or_false,forall_eq_or_imp,forall_eq]at dc;let#[d0,d1,d2,d3,d4,d5,d6,d7,d8,d9,ax,an,ap,bc,aA,aj,aN,ak,aP]:=dc;let#[i1,i2,i3]:=st.nms;let o8:=yj i1;let w8:=yj i2;let b6:⇑(li [c] 61)=61:=rfl;let bH:⇑(li [c] 21)=21:=rfl;omega;calc#[b,_,Z,.mk hb,Z,_,_,Z,_,_,Z,_,_,Z,Z,vv ?_];omega;calc#[by symm,by symm,by symm,ly.of λu1 G1 e1 m1 l1=>#[by symm,by symm,by symm,ly.of λu2 G2 e2 m2 l2=>#[by symm,kU.of λr G3 e3 v f=>?_]]];let S:=e1.trans (e2.trans (e3));let v:=(e1.trans (e2)).free v;let j:lP a p dA m F G3 _:=.cons (Dv.same #[u1,_,_,Z,l1,~~~d0] (e2.trans (e3))) (.one (Dv.same #[u2,_,_,Z,l2,~~~d1] (e3)));obtain⟨ys,ey,d⟩:∃ys,ys=[V.ref u1,V.ref u2]/\⇑ys=2:=#[_,Z,Z];rw[<-ey]at f j;cutsat;calc#[.inl #[Z,_,.mk f],by symm,by symm,by symm,by symm,by symm,by symm,by symm,ly.of λG G4 e4 m4 l4=>#[r,_,_,Z,Z,e4 _ _ f,by rw[d];calc sz _ ⋯,?_]];let S:ky H (upd G4 r (.lst (ys++[V.ref G]))):=kI (S.trans e4) v;let j:=((j.same e4).app (.one (#[G,_,_,Z,l4,~~~d2]))).upd (ys:=ys++[V.ref G]) (e4 _ _ f);let f:upd G4 r (.lst (ys++[V.ref G])) r=U (.lst (ys++[V.ref G])):=uN;show CN _ _ _ (upd G4 r (.lst (ys++[V.ref G])));generalize upd G4 r (.lst (ys++[V.ref G]))=J4 at S j f ⊢;let d:⇑(ys++[V.ref G])=3:=by rw[vn,d];rfl
 generalize ys++[V.ref G]=ys at f j d;cutsat;calc#[by symm,by symm,ly.of λu5 G5 e5 m5 l5=>#[by symm,by symm,ly.of λu6 G6 e6 m6 l6=>#[by symm,by symm,by symm,ly.of λu7 G7 e7 m7 l7=>#[by symm,kU.of λz8 G8 e8 m8 l8=>#[r,z8,_,_,Z,Z,(e5.trans (e6.trans (e7.trans (e8)))) _ _ f,l8,by rw[d];calc Ce (vk Z),λx8 f8=>Fw S j d (e5.trans (e6.trans (e7.trans (e8)))) f8 (.cons (Dv.same #[u5,_,_,Z,l5,~~~d3] (e6.trans (e7.trans (e8)))) (.cons (Dv.same #[u6,_,_,Z,l6,~~~d4] (e7.trans (e8))) (.one (Dv.same #[u7,_,_,Z,l7,~~~d5] (e8))))) λJ8 ys S f j d v=>vv ?_]]]]];omega;calc#[by symm,by symm,[c],61,Z,Z,⋯,⋯,vk Z,by symm,[c],61,Z,Z,⋯,⋯,vk Z,by symm,by symm,ly.of λu9 G9 e9 m9 l9=>#[by symm,by symm,by symm,ly.of λa6 bG N bi ba=>#[by symm,kU.of λaV bB x bN aC=>#[x8,aV,_,_,Z,Z,(e9.trans (N.trans (x))) _ _ f,aC,by rw[d];calc Ce (vk Z),λaQ bg=>Fw S j d (e9.trans (N.trans (x))) bg (.cons (Dv.same #[u9,_,_,Z,l9,~~~d6] (N.trans (x))) (.one (Dv.same #[a6,_,_,Z,ba,~~~d7] (x)))) λb0 ys S f j d v=>vv ?_]]]];omega;calc#[by symm,by symm,by symm,ly.of λaB b7 af bj bf=>#[by symm,by symm,by symm,ly.of λbe bL W b2 aS=>#[by symm,kU.of λaz bs D bF aE=>#[aQ,az,_,_,Z,Z,(af.trans (W.trans (D))) _ _ f,aE,by rw[d];calc Ce (vk Z),λaq ao=>Fw S j d (af.trans (W.trans (D))) ao (.cons (Dv.same #[aB,_,_,Z,bf,~~~d8] (W.trans (D))) (.one (Dv.same #[be,_,_,Z,aS,~~~d9] (D)))) λb1 ys S f j d v=>vv ?_]]]];omega;calc#[by symm,by symm,by symm,ly.of λa1 bK ab bp aX=>#[by symm,by symm,by symm,ly.of λa9 bo L bm aM=>#[by symm,kU.of λas bz y bS av=>#[aq,as,_,_,Z,Z,(ab.trans (L.trans (y))) _ _ f,av,by rw[d];calc Ce (vk Z),λaF au=>Fw S j d (ab.trans (L.trans (y))) au (.cons (Dv.same #[a1,_,_,Z,aX,~~~ax] (L.trans (y))) (.one (Dv.same #[a9,_,_,Z,aM,~~~an] (y)))) λbD ys S f j d v=>vv ?_]]]];omega;calc#[by symm,by symm,by symm,ly.of λar bh ac bW aG=>#[by symm,by symm,by symm,ly.of λaD bM X b3 a4=>#[by symm,ly.of λal bC C br ah=>#[by symm,kU.of λaW bE t bv aT=>#[aF,aW,_,_,Z,Z,(ac.trans (X.trans (C.trans (t)))) _ _ f,aT,by rw[d];calc Ce (vk Z),λa5 bd=>Fw S j d (ac.trans (X.trans (C.trans (t)))) bd (.cons (Dv.same #[ar,_,_,Z,aG,~~~ap] (X.trans (C.trans (t)))) (.cons (Dv.same #[aD,_,_,Z,a4,~~~bc] (C.trans (t))) (.one (Dv.same #[al,_,_,Z,ah,~~~aA] (t))))) λb5 ys S f j d v=>vv ?_]]]]];omega;calc#[by symm,ly.of λaL bu ae bT aw=>#[by symm,by symm,by symm,ly.of λbb b4 M bt am=>#[by symm,ly.of λa7 bQ I bq a0=>#[by symm,kU.of λay bI u bX aH=>#[a5,ay,_,_,Z,Z,(ae.trans (M.trans (I.trans (u)))) _ _ f,aH,by rw[d];calc Ce (vk Z),λaK a2=>Fw S j d (ae.trans (M.trans (I.trans (u)))) a2 (.cons (Dv.same #[aL,_,_,Z,aw,~~~aj] (M.trans (I.trans (u)))) (.cons (Dv.same #[bb,_,_,Z,am,~~~aN] (I.trans (u))) (.one (Dv.same #[a7,_,_,Z,a0,~~~ak] (u))))) λbA ys S f j d v=>?_]]]]];omega;calc#[[c],21,Z,Z,⋯,⋯,vk Z,by symm,[c],21,Z,Z,⋯,⋯,vk Z,by symm,by symm,ly.of λn bw aa bP a8=>#[by symm,kU.of λa3 ag B bk ai=>#[aK,a3,_,_,Z,Z,(aa.trans (B)) _ _ f,ai,by rw[d];calc sz _ (vk Z),λz ad=>?_]]];let S:=S.trans (aa.trans (B));let sx:=vG (o:=.lst (ys++[V.ref n])) ad;let j:lP a p dA m F (upd ag z (.lst (ys++[V.ref n]))) (ys++[V.ref n]):=((j.same (aa.trans (B))).app (.one (Dv.same #[n,_,_,Z,a8,~~~aP] (B)))).same sx;let v:=S.free ad;let f:upd ag z (.lst (ys++[V.ref n])) z=U (.lst (ys++[V.ref n])):=uN;let S:=S.trans sx;calc q z _ k _ (λb o e _=>S b o e) (S _ _ hg) (uV _) f j (by rw[vn,d];calc vk Z)
def ZtP:kz P w K mg base vf 1 a.f_L7 a.d_L7 ["_law_none","_law_a","_law_b","_law_rest"] (sp_L7 K a):=by
 calc T.jb.u.ok Jd (λBP A ap s H vs Q E hr h=>?_);let⟨p,dA,b,m,av,aw,non,c,d,t3,rs,F,rfl,hb,st,k9,q⟩:=h;refine⟨_,(uD (vd (i:=4) Jd.nd (wc (uy (vZ (uy (wc (uy (uE (l:=[45])) uA)) (uy (uE (l:=s!"list ")) uA))) (uy (vZ (uy (wc (uy (pv 1) (uy (pv 1) uA))) (uy (uL uU (uE (l:=s!"list ")) (pv 1)) uA))) (uy (vZ (uy (wc (uy (uE (l:=[119])) (uy (pv 1) uA))) (uy (uE (l:=s!"list w")) uA))) (uy (vZ (uy (wc (uy (uL DH (pv 1) uR) uA)) (uy (uL uU (uE (l:=s!"list ")) (uL DH (pv 1) uR)) uA))) uA))))))
  (uP (uD (vd (i:=4) Jd.nd (uL xR (pv 4) (wc (uy (vZ (uy (wc (uy (pv 1) (uy (uL uU (pv 1) (pv 2)) uA))) (uy (uL uU (uL uU (uL uU (uL uU (uE (l:=s!"inside ")) (pv 1)) (uE (l:=[32]))) (pv 1)) (pv 2)) uA))) (uy (vZ (uy (wc (uy (uL uU (pv 1) (pv 1)) (uy (uL uU (pv 2) (pv 2)) uA))) (uy (uE (l:=s!"endless")) uA))) uA)))))
  (uP (uD (vd (i:=4) Jd.nd (uL xR (pv 4) (wc (uy (vZ (uy (uL xR (wc (uy (uL uU (pv 1) (pv 2)) (uy (uL uU (pv 2) (pv 1)) (uy (uL uU (pv 1) (pv 1)) (uy (uL uU (pv 2) (pv 2)) uA))))) (pv 3)) (uy (uE (l:=s!"split")) uA))) (uy (vZ (uy (uL xR (wc (uy (uL uU (pv 2) (pv 1)) (uy (uL DH (pv 1) uR) (uy (uL DH (pv 2) uR) uA)))) (pv 3)) (uy (uE (l:=s!"long")) uA))) uA)))))
  (uP (uK (uY (yn (N:=["_law_words","_law_due","_law_none"]) (ix:=[O,O,U 0]) Z (xQ Z) Z (wY (K:=K) Z (pv 4)) (λ_ _ _ _=>(Zow (K:=K) 2 Z Z (zS (vD (i:=0) (show (["_law_words","_law_due","_law_none"]:AJ).Nodup from by decide +kernel) Z (i0 Z) (jl Z)) (zS (vD (i:=1) (show (["_law_words","_law_due","_law_none"]:AJ).Nodup from by decide +kernel) Z (i0 Z) (jl Z)) GF)))) (λ_ _ _ _=>yI) (λ_ _ _ _=>(vZ (uy (Gx (K:=K) Z CG PySem.F.slot_str_join PySem.F.type_str_join OD (uE (l:=[32])) (uy (uL xR (wc (uy (uE (l:=s!"from")) (uy (vU (pv 2)) uA))) (pv 0)) uA)) (uy (pv 1) uA))))))))))))),?_⟩
 omega;calc#[sz 1 ⋯,kU.of λp1 G1 e1 m1 l1=>#[sz 2 ⋯,ly.of λg G2 e2 m2 l2=>#[sz 2 ⋯,kU.of λp2 G3 e3 m3 l3=>#[sz 6 ⋯,sz 2 ⋯,ly.of λo G4 e4 m4 l4=>#[sz 2 ⋯,kU.of λp3 G5 e5 m5 l5=>#[sz 2 ⋯,ly.of λB G6 e6 m6 l6=>#[[c],42,Z,Z,⋯,⋯,vk Z,sz 1 ⋯,kU.of λp4 G7 e7 m7 l7=>#[[c],42,Z,Z,⋯,⋯,vk Z,sz _ (by show 5+⇑(li [c] 42)<=9000;rw[show ⇑(li [c] 42)=42 from Z];decide),sz 2 ⋯,ly.of λj G8 e8 m8 l8=>#[sz 4 ⋯,kU.of λr G9 e9 nr hr=>?_]]]]]]]]];cutsat;calc#[sz 2 ⋯,sz 2 ⋯,kU.of λp5 J1 f1 k1 j1=>#[sz 8 ⋯,sz 9 ⋯,sz 10 ⋯,sz 11 ⋯,sz 2 ⋯,ly.of λu J2 f2 k2 j2=>#[sz 2 ⋯,sz 2 ⋯,sz 2 ⋯,kU.of λp6 J3 f3 k3 j3=>#[sz 2 ⋯,ly.of λn J4 f4 k4 j4=>#[sz 2 ⋯,kU.of λz1 J5 f5 k5 j5=>#[r,z1,_,_,Z,Z,f5 _ _ (f4 _ _ (f3 _ _ (f2 _ _ (f1 _ _ hr)))),j5,sz _ (vk Z),λr2 n2=>?_]]]]]];calc vv ?_;let M:upd J5 r2 (HO.lst ([V.ref g,V.ref o,V.ref B,V.ref j]++[V.ref u,V.ref n])) b=U (.lst (rs.map λx=>tx [x])):=vG n2 _ _ (f5 _ _ (f4 _ _ (f3 _ _ (f2 _ _ (f1 _ _ (e9 _ _ (e8 _ _ (e7 _ _ (e6 _ _ (e5 _ _ (e4 _ _ (e3 _ _ (e2 _ _ (e1 _ _ hb))))))))))))));let an:upd J5 r2 (HO.lst ([V.ref g,V.ref o,V.ref B,V.ref j]++[V.ref u,V.ref n])) r2=U (.lst ([V.ref g,V.ref o,V.ref B,V.ref j]++[V.ref u,V.ref n])):=uN;let rl:⇑rs<=4:=k9.rl;omega;calc#[sz 2 ⋯,sz 2 ⋯,sz 2 ⋯,sz 2 ⋯,sz 4 ⋯,kU.of λp7 L1 g1 h1 i1=>#[p7,b,_,_,Z,Z,i1,g1 _ _ M,sz _ (by simp only[vQ,yZ,uO];nofun),λp8 n8=>#[sz 2 ⋯,ly.of λL L3 g3 h3 i3=>#[sz 2 ⋯,[c],41,Z,Z,⋯,⋯,vk Z,[d],41,Z,Z,⋯,⋯,vk Z,sz 3 ⋯,kU.of λp9 L4 g4 h4 i4=>#[p9,b,_,_,Z,Z,i4,g4 _ _ (g3 _ _ (vG n8 _ _ (g1 _ _ M))),sz _ (by simp only[vQ,yZ,uO];nofun),λf S=>#[sz 2 ⋯,ly.of λI L6 g6 h6 i6=>#[sz 2 ⋯,kU.of λz2 L7 g7 h7 i7=>#[r2,z2,_,_,Z,Z,g7 _ _ (g6 _ _ (vG S _ _ (g4 _ _ (g3 _ _ (vG n8 _ _ (g1 _ _ an)))))),i7,sz _ (vk Z),λr3 n3=>?_]]]]]]]];calc vv ?_;let D:∀x∈Bn c d rs,xP a p dA m F (glue [32] (zi::non::x.1)) x.2:=Zlw st k9;let#[_,_,as]:=st.nms;let v8:=yj as;let cZ:ky L7 (upd L7 r3 (HO.lst [V.ref g,V.ref o,V.ref B,V.ref j,V.ref u,V.ref n,V.ref L,V.ref I])):=vG n3;let G:upd L7 r3 (HO.lst [V.ref g,V.ref o,V.ref B,V.ref j,V.ref u,V.ref n,V.ref L,V.ref I]) r3=U (HO.lst [V.ref g,V.ref o,V.ref B,V.ref j,V.ref u,V.ref n,V.ref L,V.ref I]):=uN;omega;generalize upd L7 r3 (HO.lst [V.ref g,V.ref o,V.ref B,V.ref j,V.ref u,V.ref n,V.ref L,V.ref I])=Hc at cZ G ⊢;let c8:=g7.trans cZ;let C:=g6.trans c8;let c4:=(vG S).trans C;let c3:=g4.trans c4;let ae:=g3.trans c3;let ao:=(vG n8).trans ae;let cM:=g1.trans ao;let aq:=(vG n2).trans cM;let ai:=f5.trans aq;let W:=f4.trans ai;let X:=f3.trans W;let ah:=f2.trans X;let ar:=f1.trans ah;let am:=e9.trans ar;let ad:=e8.trans am;let af:=e7.trans ad;let ak:=e6.trans af;let aa:=e5.trans ak;let ab:=e4.trans aa;let ac:=e3.trans ab;let aj:=e2.trans ac;let sm:∀rs:uz,((rs.map λx=>[x]).map fu).sum=⇑rs:=λrs=>by
  induction rs with
  | nil=>rfl
  | cons x rs ih=>simp only[vP,Fq,vQ,yZ]at ih ⊢;nofun
 let au:∀x:Nat,⇑(li [x] 41)=41:=λ_=>rfl;let ag:∀i,i<8->∃t,[V.ref g,V.ref o,V.ref B,V.ref j,V.ref u,V.ref n,V.ref L,V.ref I][i]?=U (.ref t)/\Hc t=U (.tup [.ref ([p1,p2,p3,p4,p5,p6,p8,f].getD i 0),tx ((Bn c d rs).getD i ([],[])).2])/\Hc ([p1,p2,p3,p4,p5,p6,p8,f].getD i 0)=U (.lst (((Bn c d rs).getD i ([],[])).1.map tx))/\(((Bn c d rs).getD i ([],[])).1.map fu).sum+⇑((Bn c d rs).getD i ([],[])).1<=1000:=by
  intro i h
  match i,h with
  | 0,_=>exact#[g,Z,ac _ _ l2,aj _ _ l1,vk Z]
  | 1,_=>exact#[o,Z,aa _ _ l4,ab _ _ l3,vk Z]
  | 2,_=>exact#[B,Z,af _ _ l6,ak _ _ l5,vk Z]
  | 3,_=>exact#[j,Z,am _ _ l8,ad _ _ l7,vk Z]
  | 4,_=>exact#[u,Z,X _ _ j2,ah _ _ j1,vk Z]
  | 5,_=>exact#[n,Z,ai _ _ j4,W _ _ j3,vk Z]
  | 6,_=>
   calc#[L,Z,c3 _ _ i3,ae _ _ (by show upd L1 p8 _ p8=_;rw[uN];simp[Bn,Function.comp_def]),?_];show (([[c]++[d],[d]++[c],[c]++[c],[d]++[d]]++rs.map λx=>[x]).map fu).sum+⇑([[c]++[d],[d]++[c],[c]++[c],[d]++[d]]++rs.map λx=>[x])<=1000;rw[xO,List.sum_append,sm];simp only[vP,Dd,Fq,List.sum_nil,vQ,yZ,vn,uO];nofun
  | 7,_=>
   calc#[I,Z,c8 _ _ i6,C _ _ (by show upd L4 f _ f=_;rw[uN];simp[Bn,Function.comp_def]),?_];show (([[d]++[c],li [c] 41,li [d] 41]++rs.map λx=>[x]).map fu).sum+⇑([[d]++[c],li [c] 41,li [d] 41]++rs.map λx=>[x])<=1000;rw[xO,List.sum_append,sm];simp only[vP,Dd,Fq,List.sum_nil,vQ,yZ,vn,uO,au];nofun
 refine#[r3,Z,#[_,.mk G],kF.pairsD (λi=>.ref ([p1,p2,p3,p4,p5,p6,p8,f].getD i 0)) (λi=>tx ((Bn c d rs).getD i ([],[])).2) (λH y _=>Dv a p dA m F H y) (λH1 H2 y i k ⟨t,l,du,e,ht,z⟩=>#[t,l,du,e,k _ _ ht,z]) (vk Z) (.mk G) (λi h=>by let#[t,x1,x2,_]:=ag i h;calc#[t,x1,x2]) ?_ ?_]
 .intro i H' Q' hi s' q';let#[t,_,_,hl,hb]:=ag i hi;let hm:(Bn c d rs).getD i ([],[])∈Bn c d rs:=by let h:i<⇑(Bn c d rs):=hi;rw[wj,vK h];exact Dl h
  let D1:=D _ hm;generalize (Bn c d rs).getD i ([],[])=x at hl hb D1 ⊢;omega;calc#[Z,sz 2 ⋯,kU.of λy1 M1 a1 b1 w1=>#[y1,_,_,_,Z,Z,w1,a1 _ _ (s' _ _ hl),sz _ (by simp only[vQ,yZ,uO];nofun),λy2 z2=>#[[32],y2,zi::non::x.1,Z,Z,(by rw[uN];rfl),?_,sz 2 ⋯,ly.of λy3 M3 a3 b3 w3=>q' _ M3 (a1.trans ((vG z2).trans a3)) #[y3,_,_,Z,w3,D1]]]];simp only[vP,Fq,vQ,yZ];have:⇑zi=4:=rfl
  nofun
 .intro r4 ys H4 s4 n4 l4 yl al;calc q r4 ys H4 (e1.trans (aj.trans s4)) l4 (λv hv=>?_) (by rw[yl];calc vk Z) (by rw[yl];calc vk Z);let#[k,hk]:=List.getElem?_of_mem hv;calc al k v hk
def Ztb:pj P w K mg base vf 1 a.f_ND a.d_ND ["_law_e"] (sp_ND K a):=by
 calc T.jG.u.okH ZrT (λS A r s H X Q E hr h=>?_);let⟨e,C,i,V,d,rfl,b,g,F,c,q⟩:=h;refine⟨_,(uD (vM (wH (vE (yh (K:=K) Z) Z T.gL yf (uy (pv 0) (uy (yr (v:=.ref a.c_LM) Z T.m_LM Z) uA)))) (uK (uY (uL uU (uE (l:=s!"there ")) (CY (K:=K) Z (pv 0) Z)))) vN)
  (uP (uD (vM (wH (vE (yh (K:=K) Z) Z T.gL yf (uy (pv 0) (uy (yr (v:=.ref a.c_MY) Z T.f9 Z) uA)))) (uK (uY (uL uU (uE (l:=s!"no ")) (CY (K:=K) Z (pv 0) Z)))) vN)
  (uP (uD (vM (wH (vE (yh (K:=K) Z) Z T.gL yf (uy (pv 0) (uy (yr (v:=.ref a.c_M0) Z T.fX Z) uA)))) (uK (uY (uL uU (uE (l:=s!"word ")) (CY (K:=K) Z (pv 0) Z)))) vN)
  (uP (uD (vM (wH (vE (yh (K:=K) Z) Z T.gL yf (uy (pv 0) (uy (yr (v:=.ref a.c_LZ) Z T.m_LZ Z) uA)))) (uK (uY (uL uU (uE (l:=s!"length ")) (yM PK Z T.jS Fo (uy (CY (K:=K) Z (pv 0) Z) uA))))) vN)
  (uP (uD (vM (wH (vE (yh (K:=K) Z) Z T.gL yf (uy (pv 0) (uy (yr (v:=.ref a.c_MH) Z T.m_MH Z) uA)))) (uK (uY (uL uU (uE (l:=s!"place ")) (yM PK Z T.jS Fo (uy (CY (K:=K) Z (pv 0) Z) uA))))) vN)
  (uP (uD (vM (wH (vE (yh (K:=K) Z) Z T.gL yf (uy (pv 0) (uy (yr (v:=.ref a.c_MZ) Z T.m_MZ Z) uA)))) (uK (uY (uL uU (uE (l:=s!"ring ")) (CY (K:=K) Z (pv 0) Z)))) vN)
  (uP (uD (vM (wH (vE (yh (K:=K) Z) Z T.gL yf (uy (pv 0) (uy (yr (v:=.ref a.c_MX) Z T.fZ Z) uA)))) (uK (uY (uL uU (uE (l:=s!"list ")) (CY (K:=K) Z (pv 0) Z)))) vN)
  (uP (uD (vM (wH (vE (yh (K:=K) Z) Z T.gL yf (uy (pv 0) (uy (yr (v:=.ref a.c_MU) Z T.m_MU Z) uA)))) (uK (uY (uL uU (uL uU (uL uU (uE (l:=s!"inside ")) (CY (K:=K) Z (pv 0) Z)) (uE (l:=[32]))) (CY (K:=K) Z (pv 0) Z)))) vN)
  (uP (uK (uY (uE (l:=s!"other")))))))))))))))))))),?_⟩
 let f:=Ed.of T;let#[m,_,_]:=f.xi C (wL b);omega;refine#[_,_,_,_,_,Z,Z,.exc c m,f.kit (j:=6) b Z,lT (λh=>?_) (λF=>vv ?_)]
 .obtain rfl:i=6:=R7 h;cases b;let#[n,o,Z,Z]:=g;exact#[e,_,_,_,Z,c,T.eI.c,T.aZ,DY,mK #[sz _ (by show 6+⇑n<=9000;nofun),q]]
 omega;refine#[_,_,_,_,_,Z,Z,.exc c m,f.kit (j:=7) b Z,lT (λh=>?_) (λI=>vv ?_)]
 .obtain rfl:i=7:=R7 h;cases b;let#[n,o,Z,Z]:=g;exact#[e,_,_,_,Z,c,T.dD.c,T.bj,DY,mK #[sz _ (by show 3+⇑n<=9000;nofun),q]]
 omega;refine#[_,_,_,_,_,Z,Z,.exc c m,f.kit (j:=8) b Z,lT (λh=>?_) (λM=>vv ?_)]
 .obtain rfl:i=8:=R7 h;cases b;let#[n,o,Z,Z]:=g;exact#[e,_,_,_,Z,c,T.cz.c,T.bh,DY,mK #[sz _ (by show 5+⇑n<=9000;nofun),q]]
 omega;refine#[_,_,_,_,_,Z,Z,.exc c m,f.kit (j:=9) b Z,lT (λh=>?_) (λL=>vv ?_)]
 .obtain rfl:i=9:=R7 h;cases b;let#[k,x,t,B,G,Z,Z]:=g;calc#[e,_,_,_,Z,c,T.dY.c,T.aR,DY,k,Z,B,?_];rw[t];exact mK #[sz _ (by show 7+⇑x<=9000;nofun),q]
 omega;refine#[_,_,_,_,_,Z,Z,.exc c m,f.kit (j:=10) b Z,lT (λh=>?_) (λz=>vv ?_)]
 .obtain rfl:i=10:=R7 h;cases b;let#[k,x,t,B,G,Z,Z]:=g;calc#[e,_,_,_,Z,c,T.dZ.c,T.a9,DY,k,Z,B,?_];rw[t];exact mK #[sz _ (by show 6+⇑x<=9000;nofun),q]
 omega;refine#[_,_,_,_,_,Z,Z,.exc c m,f.kit (j:=11) b Z,lT (λh=>?_) (λD=>vv ?_)]
 .obtain rfl:i=11:=R7 h;cases b;let#[n,o,Z,Z]:=g;exact#[e,_,_,_,Z,c,T.eC.c,T.ba,DY,mK #[sz _ (by show 5+⇑n<=9000;nofun),q]]
 omega;refine#[_,_,_,_,_,Z,Z,.exc c m,f.kit (j:=12) b Z,lT (λh=>?_) (λy=>vv ?_)]
 .obtain rfl:i=12:=R7 h;cases b;let#[n,o,Z,Z]:=g;exact#[e,_,_,_,Z,c,T.dC.c,T.bi,DY,mK #[sz _ (by show 5+⇑n<=9000;nofun),q]]
 omega;refine#[_,_,_,_,_,Z,Z,.exc c m,f.kit (j:=13) b Z,lT (λh=>?_) (λp=>vv ?_)]
 .obtain rfl:i=13:=R7 h;cases b;let#[n,u,o,W,Z,Z]:=g;exact#[e,_,_,_,Z,c,T.cA.c,T.bv,Zuh nofun,mK #[sz _ (by show 7+⇑n<=9000;nofun),mK #[sz _ (by rw[vn];show 7+⇑n+1<=9000;nofun),e,_,_,_,Z,c,T.cA.c,T.bb,Zug,mK #[sz _ (by rw[vn,vn];show 7+⇑n+1+⇑u<=9000;nofun),q]]]]
 omega;let#[N,_]:=vT.mp b;simp only[R4]at F I M L z D y p;have:i<14:=N
 nofun
def ZtT:kz P w K mg base vf 2 a.f_L3 a.d_L3 ["thing"] (sp_L3 K a):=by
 calc T.iL.u.ok Zsr (λD A d s H F Q E n h=>?_);let y:=n.units;let⟨v,rfl,q⟩:=h;refine⟨_,(uD (vM (za (wH (vE (yh (K:=K) Z) Z T.gL yf (uy (pv 0) (uy (EO (v:=.ty "str") Z T.jS Fo Z) uA))))) (uK (uY Ba)) vN)
  (uD (vM (PW.pt (Ca (wQ JZ (vE (w4 (K:=K) Z) Z T.gQ wW (uy (pv 0) uA)) uR (wy _)) (CT (wQ Gd (vE (w4 (K:=K) Z) Z T.gQ wW (uy (pv 0) uA)) (Bb Z T.c_K1) (wy _))))) (uK (uY Ba)) vN)
  (uK (uY (B7 (u3 (Iv T) (hM n) Z T.gX uT (uy (pv 0) (uy (DX Z T.c_KE) uA))) (B3 (yG (x6 (K:=K) Z y) (yM (JF Z) Z T.iG CS (uy (pv 0) uA)) (vE (JD Z) Z T.iC Ib (uy (yM (JA Z) Z T.jZ LZ (uy (pv 0) uA)) uA)) (wy _)))))))),?_⟩
 omega;rcases q with⟨l,rfl,b,q⟩|⟨⟨G,_,ty,kt,_⟩,q⟩
 .refine#[_,_,_,_,Y,Z,Z,.ty (.pl (.str _)),Ge,lm ?_];calc#[_,_,Z,zX b,?_];refine lT (λh=>oG ?_) (λh=>?_)
  .let i:¬1<=⇑l:=by have:=R7 h;nofun
   let e:=q H (ky.refl _);unfold yt at e;rw[R6 i,zg,zg,zg]at e;exact e
  .let i:1<=⇑l:=by have:¬((⇑l:Nat):Int)<1:=λz=>h (R5 z);nofun
   calc#[_,_,Z,zX b,?_];refine lT (λc=>?_) (λc=>?_)
   .let f:¬⇑l<=4:=by have:=R7 c;nofun
    let e:=q H (ky.refl _);unfold yt at e;rw[R6 f,CF,zg,zg]at e;exact e
   .let f:⇑l<=4:=by have:¬4<((⇑l:Nat):Int):=λz=>c (R5 z);nofun
    calc#[l,vA,by rw[Md],b,λo m=>?_];refine lT (λg=>?_) (λg=>?_)
    .refine#[l,Z,b,kU.of λC B t I x=>?_];calc#[kZ l,by rw[oN];calc b,.inl #[l,Z,Z],λp j=>?_];calc#[p,xH (kZ l),Z,uN,GS (Zpn l) ∅,kU.of λM u k L r=>?_];calc Zro (.mk ((vG j).trans k _ _ x)) (.mk r) ?_;let e:=q u (m.trans (t.trans ((vG j).trans k)));unfold yt at e;rw[R5 i,R5 f,g,BZ,BZ,BZ]at e;exact e
    .let e:=q o m;unfold yt at e;rw[Cw.mpr g,CF,zg]at e;exact e
 .exact#[_,_,_,_,J,Z,Z,.ty ty,kt,lE q]
def GG:kz P w K mg base vf 2 a.f_MR a.d_MR ["thing","kinds","most"] (sp_MR K a):=by
 calc T.gZ.u.ok ZrW (λj A b s H i Q E g h=>?_);let#[l,m,most,Z,c,q]:=h;calc#[_,(uK (uY (B7 (vE (yh (K:=K) Z) Z T.gL yf (uy (pv 0) (uy (EO (v:=.ty "str") Z T.jS Fo Z) uA))) (B7 (yG JI (vE (w4 (K:=K) Z) Z T.gQ wW (uy (pv 0) uA)) (pv 2) (wy _)) (B3 (u3 (Iv T) (hM g) Z T.gX uT (uy (pv 0) (uy (pv 1) uA)))))))),?_];omega;calc#[_,_,_,_,Y,Z,Z,.ty (.pl (.str _)),Ge,lE ?_];calc#[_,_,Z,zX c,?_];refine lT (λh=>?_) (λh=>?_)
 .refine#[l,m,Z,c,λf d=>?_];let e:=q f d;unfold wv at e;rw[h,BZ]at e;exact e
 .let e:=q H (ky.refl _);unfold wv at e;rw[Cw.mpr h,zg]at e;calc e
def O6:kz P w K mg base vf 2 a.cN a.eP ["self","length"] (sp_KY K a):=by calc T.iI.u.ok Zsu (λj A c s H i Q E d h=>?_);let#[p,l,m,n,Z,b,f,k,q]:=h;calc#[_,(uK (uY (u3 (Zs8 T) (hM d) Z T.jD uT (uy (wK (pv 0) T.bX T.aS (Zt4 T) (hM d) T.iD.b .nil uT (uy (pv 1) uA)) (uy (pv 1) uA))))),?_];let#[e,b]:=b;let g:=f.l40;omega;calc#[p,e,_,Z,b,GJ nofun nofun,p,l,m,n,Z,#[e,b],l,n,Z,∅,∅,∅,q]
def Zte:kz P w K mg base vf 2 a.f_N5 a.d_N5 ["words","kinds"] (sp_N5 K a):=by
 calc T.jU.u.ok Gv (λBP A ab s H vs Q E hr h=>?_);let aa:=Cg hr;let⟨b,f,m,rfl,hb,ok,lk,q⟩:=h;refine⟨_,(uD (Bf (i:=2) Gv.nd Z (jl Z) (u3 (Zs2 T) (hM hr) Z T.jQ uT (uy (pv 0) uA)))
  (uP (uD (vd (i:=3) Gv.nd DD)
  (uP (uD (Hd (xC xL Z (GU (pv 2)) (vD (i:=4) Gv.nd Z (jl Z))
  (uD (Lp (i:=5) (N:=["letter","stem","words"]) (ix:=[O,U 4,U 0]) Z Gv.nd Z Z Z (xQ Z) Z (Jj (pv 1)) (λ_ _ _ _=>(vD (i:=0) (show (["letter","stem","words"]:AJ).Nodup from by decide +kernel) Z (i0 Z) (jl Z))) (λ_ _ _ _=>(Hh (wH (u3 (Qe T) (hM hr) Z T.jj uT (uy (pv 2) (uy (uL uU (pv 1) (pv 0)) uA)))))) (λ_ _ _ _=>(pv 0)))
  (uP (uK (CZ aa (pv 3) (pv 4) (yM (QO Z) Z T.jX Nz (uy (yn (N:=["letter","stem","stems"]) (ix:=[O,U 4,U 2]) Z (xQ Z) Z (wY (K:=K) Z (pv 5)) (λ_ _ _ _=>(vD (i:=0) (show (["letter","stem","stems"]:AJ).Nodup from by decide +kernel) Z (i0 Z) (jl Z))) (λ_ _ _ _=>yI) (λ_ _ _ _=>(vZ (uy (pv 0) (uy (u3 (Ztc T) (hM hr) Z T.jE uT (uy (pv 2) (uy (uL uU (pv 1) (pv 0)) uA))) uA))))) uA)) Z))))))
  (uP (uK (uY (pv 3))))))))),?_⟩
 let ln:=lk.len;let m4:=ok.m4;omega;calc#[b,f,Z,hb,∅,λw hw=>lk.w41 w hw,λp0 g H1 s1 n0 h0 l=>?_];show CN _ _ _ _;cutsat;intro pw p;let s2:ky H1 (upd H1 pw (.dK [])):=vG p;let l2:upd H1 pw (.dK []) pw=U (.dK []):=uN;let nw:H pw=O:=s1.free p;let ne:p0≠pw:=vp h0 p;generalize upd H1 pw (.dK [])=H2 at s2 l2;cutsat;refine#[p0,g,s2 _ _ h0,p0,g,Z,s2 _ _ h0,λo=>kT.dict (M6 H b p0 pw o g f m) #[_,_,[],[],Z,kI (s1.trans s2) n0,uN,by rw[uF (uZ ne)];calc l2,#[Z,λi u h=>by simp at h],{}] (λi σ H' hh=>by let#[_,_,_,_,_,_,h,_]:=hh;calc h) ?_ ?_]
 .rintro i kv σ H3 F ⟨v4,v5,W,S,rfl,s3,f3,w3,G,X⟩;let#[u,M,V]:=l.key kv (wL F);let ul:⇑u<=41:=by
   rcases V with rfl | ⟨v,hv,k,hk,rfl⟩
   .exact wf _
   .have:=lk.w41 _ hv;rw[xw];nofun
  rw[M,Eg];omega;refine#[m,Z,kF.text (λi=>B4 f (u++[m.getD i 0])) (λi=>tx [m.getD i 0]) ∅ ?_ ?_ ?_]
  .intro j H4 Q4 C L q4;let sl:⇑(u++[m.getD j 0])<=42:=by rw[vn,xf];nofun
   omega;exact#[sz _ ∅,b,f,_,Z,L _ _ (s3 _ _ hb),∅,∅,λr I=>q4 r I]
  .intro j H4 Q4 C _ L q4;omega;exact q4 H4 (ky.refl _)
  .intro p1 H4 L n4 l4;rw[OZ (λc=>B4 f (u++[c])) (λc=>tx [c]) m]at l4;cutsat;let ol:⇑(lK f m u)<=4:=u8 (yA _ _) m4;refine#[p1,Z,#[_,.mk l4],kF.tupsM (xs:=(lK f m u).map λc=>tx [c]) (λj vs=>∃c,(lK f m u)[j]?=U c/\vs=[tx [c],tx (lL f (u++[c]))]) (by rw[uO];nofun) (.mk l4) ?_ ?_]
   .intro j r Q5 C I q5;rw[uO]at C;let hc:(lK f m u)[j]?=U ((lK f m u).getD j 0):=by rw[wj,vK C];rfl
    let eg:((lK f m u).map λc=>tx [c]).getD j .non=tx [(lK f m u).getD j 0]:=by simp[wj,C]
    rw[eg];generalize (lK f m u).getD j 0=c at hc;let sl:⇑(u++[c])<=42:=by rw[vn,xf];nofun
    omega;calc#[sz _ ∅,p0,g,f,u++[c],Z,.inr #[o,I _ _ (L _ _ f3)],l,∅,λe H6 B he=>?_];calc#[sz _ ⋯,ly.of λpt H7 s7 n7 l7=>q5 pt _ H7 (B.trans s7) l7 #[c,hc,?_]];rw[Zll he (Dp _ _)]
   .intro p2 ys r I n5 l5 yl hy;refine#[p2,ys,(wg f m u).map me,Z,l5,#[by unfold wg;rw[yl,uO,uO,uO],λj y C=>?_],λd hd=>?_]
    .obtain⟨t,vs,rfl,ht,c,hc,rfl⟩:=hy j y C;calc#[me (c,lL f (u++[c])),t,?_,Z,ht];unfold wg;rw[wE,wI,hc];rfl
    .rw[JO _ [] (by rw[CC];calc JG (DW ok.k)),CC];let w5:=I _ _ (L _ _ w3);let dn:d≠pw:=uZ (vp w5 hd);let ki:(g.map (·.1))[i]?=U (uJ u):=by rw[wI,F,<-M];rfl
     let nk:kK W (uJ u)=O:=NO (by rw[G.keys,X];calc ZqP l.nd ki);let kl:⇑W<=i:=by have:=R9 fu X;rw[uO,xw]at this;rw[G.1];nofun
     let il:=(vT.mp F).1;let sl:=l.len;let D:=L.trans I;let B:ky r (upd r d (.dK ((wg f m u).map me))):=vG hd;let d6:upd r d (.dK ((wg f m u).map me)) d=U (.dK ((wg f m u).map me)):=uN;generalize upd r d (.dK ((wg f m u).map me))=H6 at B d6;refine#[pw,_,Z,mY.k (k:=uJ u) (B _ _ w5) (xj (show _<9000 by nofun) (sz 9000 (uV _))),_,_,W++[(uJ u,.ref d)],S++[u],Z,kI (s3.trans (D.trans B)) nw,by rw[uF ne];calc B _ _ (D _ _ f3),by rw[uN,EX _ nk],?_,?_]
     .refine lY.snoc ((G.same (D.trans B)).chg λb o n e=>by rw[uF n];calc e) dn ?_;rw[uF dn];exact d6
     .rw[xO,X,List.take_add_one,ki];rfl
 .rintro σ H3 ⟨v4,v5,W,S,rfl,s3,f3,w3,G,X⟩;calc#[o,g,f3,?_];omega;cutsat;let e4:S.map uJ=g.map (·.1):=by rw[X,Fs (by rw[uO];calc uV _)]
  let hm:∀v,v∈S↔mD f v:=λv=>by
   constructor
   .intro hv;have:uJ v∈g.map (·.1):=by rw[<-e4];exact Dy hv
    let#[kv,hk,M]:=vJ.mp this;let#[u,eu,V]:=l.key kv hk;rw[xI (M.symm.trans eu)];exact V
   .intro hv;let#[kv,hk,M]:=IE (l.has v hv);have:uJ v∈S.map uJ:=by rw[e4,<-M];exact Dy hk
    let#[x,hx,ex]:=vJ.mp this;rw[<-xI ex];exact hx
  refine q pw W S (upd H3 p0 (.dK g)) (kI s3 n0) nw (by rw[uF (uZ ne)];calc w3) #[G.1,λi u V=>?_] #[?_,hm,?_]
  .obtain⟨a',h1,h2,h3⟩:=G.2 i u V;let n3:a'≠p0:=by rintro rfl;let z:=h3.symm.trans f3;exact nomatch z
   calc#[a',h1,h2,?_];rw[uF n3];exact h3
  .have:=l.nd;rw[<-e4]at this;exact List.Pairwise.imp (λh e=>h (by rw[e])) (CV.mp this)
  .have:=R9 fu e4;rw[uO,uO]at this;have:=l.len
   nofun
def ZtJ:kz P w K mg base vf 2 a.f_LG a.d_LG ["one","other"] (sp_LG K a):=by calc T.hZ.u.ok Zsk (λx A b s H v Q E c h=>?_);let t:=c.units;let#[p,i,k,o,n,l,m,r,F,Z,d,e,q]:=h;calc#[_,(uK (vM (wQ (En (K:=K) Z t) (xV (pv 0) T.am T.bZ (Ej T) (hM c) T.gO.b .nil uT) (xV (pv 1) T.ae T.aX (Pb T) (hM c) T.iH.b .nil uT) (wy _)) (uK wV) vN)),?_];let#[u,f]:=d.fld;let#[j,g]:=id e.fld;omega;calc#[p,u,_,Z,f,wZ,p,k,m,F,Z,d,i,j,_,Z,g,sN,i,o,n,l,m,r,Z,e,OV (lm q)]
def ZtK:kz P w K mg base vf 2 a.f_LE a.d_LE ["word"] (sp_LE K a):=by
 calc T.ia.u.ok Zsm (λo A f s H n Q E g h=>?_);let i:=g.units;let#[b,Z,m,q]:=h;calc#[_,(uK (uY (P6 (yG (x6 (K:=K) Z i) (pv 0) (DX Z T.c_KZ) (wy _)) (B3 (B7 (yG (En (K:=K) Z i) (pv 0) (uE (l:=[])) (wy _)) (B3 (u3 (Iv T) (hM g) Z T.gX uT (uy (pv 0) (uy (DX Z T.c_KE) uA))))))))),?_];omega;rw[Rz,Md];by_cases h:b=[45]
 .let e:=q H (ky.refl _);rw[show oR b=Y from uM h]at e;subst h;exact Ch (lE e)
 calc C2 h (lm ?_);by_cases d:b=[]
 .let e:=q H (ky.refl _);rw[show oR b=J by unfold oR;rw[uI h,uM d]]at e;subst d;exact Oh (lm e)
 .refine Rn d (lE #[b,vA,Z,m,λk j=>?_]);let e:=q k j;rw[show oR b=b.all λc=>vA.contains c by unfold oR;rw[uI h,uI d]]at e;calc e
def Mx:kz P w K mg base vf 2 a.f_LT a.d_LT ["word"] (sp_LT K a):=by
 calc T.hU.u.ok Zsa (λt A f s H p Q E j h=>?_);let g:=j.units;let⟨b,rfl,o,q⟩:=h;refine⟨_,(uD (vM (PW.pt (Ca (wQ (x6 (K:=K) Z g) (pv 0) (uE (l:=[])) (wy _)) (Ca (wQ Gd (vE (w4 (K:=K) Z) Z T.gQ wW (uy (pv 0) uA)) (Bb Z T.c_KH) (wy _)) (CT (za (wH (u3 (Iv T) (hM j) Z T.gX uT (uy (pv 0) (uy (DX Z T.c_ME) uA))))))))) (uK (uY Ba)) vN)
  (uP (uK (uY (P6 (yG (x6 (K:=K) Z g) (pv 0) (uE (l:=[48])) (wy _)) (B3 (yG (En (K:=K) Z g) (vh EU (pv 0) uR (λ_ _=>rfl)) (uE (l:=[48])) (wy _)))))))),?_⟩
 omega;by_cases h:b=[]
 .let e:=q H (ky.refl _);rw[show nZ b=J from uM h]at e;subst h;exact Ch (lE (oG e))
 calc C2 h (lm #[_,_,Z,zX ∅,?_]);by_cases k:3<⇑b
 .let e:=q H (ky.refl _);rw[show nZ b=J by unfold nZ;rw[uI h,uM k]]at e;rw[R5 ∅];exact lE (oG e)
 rw[R6 ∅,Zpj];calc lm #[b,_,Z,∅,λn m=>?_];let e:=q n m;unfold nZ at e;rw[uI h,uI k]at e;cases ha:b.all λc=>s!"0123456789".contains c with
 | false=>
  rw[uI (λz=>by rw[show (b.all λc=>Ip.contains c)=J from ha]at z;cases z)]at e;exact lE e
 | true=>
  rw[uM (show (b.all λc=>Ip.contains c)=Y from ha)]at e;calc lm (vv ?_);omega;by_cases d:b=[48]
  .rw[uM d]at e;subst d;exact Ch (lE e)
  .rw[uI d]at e;calc C2 d (lm ?_);cases b with
   | nil=>exact Sa Z h
   | cons c r=>
    calc#[c::r,0,c,Z,Z,u8 o (by rw[bA];decide),ma,?_];by_cases i:c=48
    .subst i;rw[show R ((48::r).head?≠U 48)=J from R6 λz=>z Z]at e;exact Oh e
    .rw[show R ((c::r).head?≠U 48)=Y from R5 λz=>i (cx z)]at e;calc Rn (λz=>i (List.cons.inj z).1) e
def RK:kz P w K mg base vf 2 a.f_NR a.d_NR ["lesser","longer"] (sp_NR K a):=by
 calc T.jL.u.ok KQ (λBP A m s H vs Q E hr h=>?_);let⟨d,L,rfl,hL,ex,W,q⟩:=h;refine⟨_,(uD (vd (i:=2) KQ.nd (wc uA))
  (uP (uD (xC xL Z (Ls Z T.hJ (uy uR (uy (uL y8 (vE (w4 (K:=K) Z) Z T.gQ wW (uy (pv 1) uA)) uR) uA))) (vD (i:=3) KQ.nd Z (i0 Z))
  (uD (vV (yu zL Bg Br zY (pv 2) (uy (xJ zr (pv 1) xX (xp (pv 3))) uA)))
  (uK (vV (yu zL Bg Br zY (pv 2) (uy (xJ zr (pv 1) (xp (uL IT (vE (w4 (K:=K) Z) Z T.gQ wW (uy (pv 1) uA)) (pv 3))) xX) uA))))))
  (uP (uK (uY (u3 (Ia T) (hM hr) Z T.gS uT (uy (vE (JD Z) Z T.iC Ib (uy (yM (JA Z) Z T.jZ LZ (uy (yn (N:=["word","lesser"]) (ix:=[O,U 0]) Z (xQ Z) Z (wY (K:=K) Z (pv 2)) (λ_ _ _ _=>(vD (i:=0) (show (["word","lesser"]:AJ).Nodup from by decide +kernel) Z (i0 Z) (jl Z))) (λ_ _ _ _=>(Hh (wQ OG (pv 0) (pv 1) Z))) (λ_ _ _ _=>(pv 0))) uA)) uA)) uA)))))))),?_⟩
 omega;calc#[wf _,kU.of λk H1 s1 D le=>?_];cutsat;calc#[_,_,Z,zX ∅,_,_,Z,#[⋯,⋯,∅,∅],?_];let ej:((⇑L:Int)+1-1).toNat=⇑L:=by nofun
 rw[ej];refine kT.range (λi σ G=>∃x,σ=[U (tx d),U (tx L),U (.ref k),x]/\ky H G/\G k=U (.lst ((yE L i).map tx))) #[_,Z,s1,le] ?_ ?_
 .rintro i σ S g ⟨x,rfl,y,j⟩;let el:=IF L i;let B:(1+(i:Int))=((i+1:Nat):Int):=by nofun
  let e2:(⇑L:Int)-(1+(i:Int))=((⇑L-(i+1):Nat):Int):=by nofun
  omega;refine#[.inl #[Z,_,.mk j],_,Z,L,Z,sz _ ∅,k,_,_,Z,Z,j,by rw[uO];calc sz _ ∅,.inl #[Z,_,.mk uN],_,_,Z,zX ∅,_,Z,L,Z,sz _ ∅,k,_,_,Z,Z,uN,by rw[vn,uO];calc sz _ (by rw[xf];nofun),_,Z,?_,?_]
  .exact kI (kI y D) D
  .rw[uN,B,ET,<-B,e2,DP,RH,xO,FA];rfl
 .rintro σ S ⟨x,rfl,y,j⟩;(try omega);cutsat;let el:=IF L ⇑L;refine#[k,Z,#[_,.mk j],kF.listM (xs:=(yE L ⇑L).map tx) (λi=>!mH ((yE L ⇑L).getD i []) d) (λi=>tx ((yE L ⇑L).getD i [])) (by rw[uO];nofun) (.mk j) ?_ ?_ ?_]
  .intro i l V g n u;rw[uO]at g;rw[Cr g];omega;exact#[_,_,Z,Z,u l (ky.refl _)]
  .intro i l V g _ n u;rw[uO]at g;rw[Cr g];omega;exact u l (ky.refl _)
  .intro I l n n3 z;let M:((cc ⇑((yE L ⇑L).map tx)).filter λi=>!mH ((yE L ⇑L).getD i []) d).map (λi=>tx ((yE L ⇑L).getD i []))=((yE L ⇑L).filter λv=>!mH v d).map tx:=by rw[uO,<-MD (λv=>!mH v d) [] (yE L ⇑L),wE];rfl
   rw[M]at z;let fl:=yA (λv=>!mH v d) (yE L ⇑L);generalize hF:(yE L ⇑L).filter (λv=>!mH v d)=F0 at z fl;let C:∀w,w∈F0↔xE d L w:=λw=>by rw[<-hF,yU,Ru,OH ex,Bool.not_eq_true',P8]
   let dl:=QI F0;calc#[F0,∅,.inr #[I,Z,.mk z],λX n4=>#[X,_,Z,uN,∅,kU.of λp5 H5 s5 n5 l5=>?_]];let f:ky H H5:=y.trans (n.trans ((vG n4).trans s5));let c:=Bq (xH F0);refine#[p5,_,Z,l5,λw hw=>?_,(by rw[c.length_eq];nofun),W.same f,λws r H6 F pw sl p nr lr=>?_]
   .have:=((C w).mp (Mg.mp (c.mem_iff.mp hw))).1.len
    nofun
   .refine q ws r H6 (HX F pw (c.nodup_iff.mpr (ZkW F0))) (λw=>?_) (λb o e t=>sl _ _ (f _ _ e) t) p ((Nw.of nr).same f) lr;rw[F.mem_iff,c.mem_iff,Mg,C]
def ZtW:kz P w K mg base vf 2 a.f_KU a.d_KU ["one","other"] (sp_KU K a):=by calc T.hG.u.ok Zsy (λz A d s H y Q E g h=>?_);let#[b,c,i,f,Z,j,t,m,u,p,v,q]:=h;calc#[_,(uK (uY (uL uU (uL uU (u3 (DS T) (hM g) Z T.gM uT (uy (pv 0) uA)) (uE (l:=s!" / "))) (u3 (DS T) (hM g) Z T.gM uT (uy (pv 1) uA))))),?_];let sz:∀k:Nat,k<=1000000->k<=sizeLine:=λk h=>u8 h (by rw[bA];decide);omega;let x:=Rk (IX [32] i);let n:=Rk (IX [32] f);rw[xf]at x n;calc#[b,i,Z,j,m,u,λB e=>mK #[sz _ (by simp only[vQ,yZ];nofun),c,f,Z,e _ _ t,p,v,λr o=>mK #[sz _ (by simp only[vn,vQ,yZ];nofun),q r (e.trans o)]]]
def P0:kz P w K mg base vf 2 a.dw a.fO ["self","text","came","went"] (sp_KN K a):=by
 calc T.ie.u.ok LN (λBP A ab s H vs Q E hr h=>?_);let⟨p,la,S,c,g,l,l2,m,b,ac,ys,zs,rc,n,rfl,hp,B,hc,F,hg,z,ho,hn,nd,mc,aa,lo,lc,lg,wo,wn,tk,q⟩:=h;refine⟨_,(uP (uD (Bf (i:=4) LN.nd Z (jl Z) (yn (N:=["told"]) (ix:=[O]) Z (xQ Z) Z (wY (K:=K) Z (pv 3)) (λ_ _ _ _=>(vD (i:=0) (show (["told"]:AJ).Nodup from by decide +kernel) Z (i0 Z) (jl Z))) (λ_ _ _ _=>yI) (λ_ _ _ _=>(vh (xA (K:=K) Z) (pv 0) uR (λ_ _=>rfl)))))
  (uP (uD (Lp (i:=5) (N:=["word","gone"]) (ix:=[O,U 4]) Z LN.nd Z Z Z (xQ Z) Z (wY (K:=K) Z (vL (K:=K) Z (pv 0) Z)) (λ_ _ _ _=>(vD (i:=0) (show (["word","gone"]:AJ).Nodup from by decide +kernel) Z (i0 Z) (jl Z))) (λ_ _ _ _=>(Hh (wQ (Jf (K:=K) Z) (pv 0) (pv 1) Z))) (λ_ _ _ _=>(pv 0)))
  (uP (uD (Be (pv 0) (u3 (Ia T) (hM hr) Z T.gS uT (uy (uL xR (pv 5) (yn (N:=["told"]) (ix:=[O]) Z (xQ Z) Z (wY (K:=K) Z (pv 2)) (λ_ _ _ _=>(vD (i:=0) (show (["told"]:AJ).Nodup from by decide +kernel) Z (i0 Z) (jl Z))) (λ_ _ _ _=>yI) (λ_ _ _ _=>(vh (xA (K:=K) Z) (pv 0) uR (λ_ _=>rfl))))) uA)) Z)
  (uP (uD (Be (pv 0) (pv 1) Z)
  (uK (uY (vZ (uy (pv 2) (uy (pv 3) uA))))))))))))),?_⟩
 let sz:∀k:Nat,k<=30000->k<=sizeLine:=λk h=>u8 h (by rw[bA];decide);let#[L,f]:=hp;omega;cutsat;let zl:=z.1;let yl:=F.1;refine#[g,Z,#[_,.mk hg],kF.listM (xs:=zs) (λ_=>Y) (λi=>tx ((n.map (·.1)).getD i [])) ∅ (.mk hg) (λi H' Q' _ _ q=>q H' (ky.refl _)) ?_ ?_]
 .intro i H1 Q1 e _ x q1;let#[t,u,X,C]:=Jr z e;rw[X];omega;exact#[t,_,_,_,Z,Z,.mk (x _ _ C),ma,q1 H1 (ky.refl _)]
 .intro pg H1 x n1 l1;rw[Lo zl]at l1;cutsat;refine#[p,_,L,_,_,Z,x _ _ f,T.ae,T.af,Mh,la,Z,#[_,.mk (x _ _ B)],kF.listM (xs:=b.map tx) (λi=>!R (b.getD i []∈n.map (·.1))) (λi=>tx (b.getD i [])) (by rw[uO];nofun) (.mk (x _ _ B)) ?_ ?_ ?_]
  .intro i G Q2 e M q2;rw[uO]at e;rw[Cr e];omega;calc#[pg,_,Z,.inl (.mk (M _ _ l1)),Z,Bv _,?_];rw[uM Z,Fi];exact q2 G (ky.refl _)
  .intro i G Q2 e _ M q2;rw[uO]at e;rw[Cr e];omega;exact q2 G (ky.refl _)
  .intro pk G M n2 o;let eh:((cc ⇑(b.map tx)).filter λi=>!R (b.getD i []∈n.map (·.1))).map (λi=>tx (b.getD i []))=(b.filter λv=>!R (v∈n.map (·.1))).map tx:=by rw[uO,<-MD (λv=>!R (v∈n.map (·.1))) [] b,wE];rfl
   let C:(b.filter λv=>!R (v∈n.map (·.1)))=b.filter λv=>R (v∉n.map (·.1)):=by congr 1;funext v;rw[decide_not]
   rw[eh,C]at o;let fl:=yA (λv=>R (v∉n.map (·.1))) b;generalize hk:b.filter (λv=>R (v∉n.map (·.1)))=kept at o fl;let j:=x.trans M;cutsat;refine#[c,Z,#[_,.mk (j _ _ hc)],kF.listM (xs:=ys) (λ_=>Y) (λi=>tx ((rc.map (·.1)).getD i [])) ∅ (.mk (j _ _ hc)) (λi H' Q' _ _ q=>q H' (ky.refl _)) ?_ ?_]
   .intro i H3 Q3 e _ I q3;let#[t,u,X,C]:=Jr F e;rw[X];omega;exact#[t,_,_,_,Z,Z,.mk ((j.trans I) _ _ C),ma,q3 H3 (ky.refl _)]
   .intro pc H3 I n3 l3;rw[Lo yl]at l3;rw[Na];calc#[_,_,I _ _ o,l3,by rw[uO,uO,uO];calc sz _ ∅,kU.of λpw H4 s4 n4 l4=>?_];let d:ky H H4:=j.trans (I.trans s4);rw[<-xO]at l4;refine#[pw,_,Z,l4,λw hw=>?_,(by rw[vn,uO];nofun),tk.same d,λws r H5 pm W sl V nr lr=>?_]
    .rcases wM.mp hw with h | h
     .rw[<-hk]at h;exact wo w (yU.mp h).1
     .exact wn w ((mc w).mp h).1
    .rw[<-hk]at pm;let en:=Zo3 ho hn mc nd aa pm W;rw[en]at lr;let f5:=sl _ _ (d _ _ f) Z;calc#[p,_,L,_,Z,f5,T.ae,T.af,(by show 4<1000;decide),?_];rw[show kW (fv "own_lacking") (.ref r) (sF l m la S)=sF l m r S from O5];cutsat;calc#[p,_,L,_,Z,uN,T.ae,T.ad,(by show 4<1000;decide),sz 2 ⋯,ly.of λt H7 D n7 l7=>?_];rw[show kW (fv "own_text") (tx l2) (sF l m r S)=sF l2 m r S from P3]at D;let y:p≠r:=vp (d _ _ f) nr;refine q t r H7 ?_ #[L,D _ _ uN] ((Nw.of nr).same d) (D _ _ (by rw[uF (uZ y),uF (uZ y)];calc lr)) l7 ?_
     .exact d.chg.trans (sl.chg.trans ((we.upd {}).trans ((we.upd {}).trans D.chg)))
     .exact((V.upd f5 Z Z).upd uN Z Z).same D
def Zto:kz P w K mg base vf 2 a.f_MK a.d_MK ["shelf","given"] (sp_MK K a):=by calc T.ik.u.ok Zr0 (λz A b s H B Q E d h=>?_);let#[p,g,k,m,F,Z,e,q]:=h;calc#[_,(uK (uY (u3 (DS T) (hM d) Z T.gM uT (uy (xV (pv 0) T.am T.dI (ZtY T) (hM d) T.ji.b .nil uT) uA)))),?_];let#[c,y,x,C]:=e;let#[o,f]:=c.fld;let#[u,n,_]:=Zmm c.nm ∅;omega;calc#[p,o,_,Z,f,wZ,p,k,m,F,Z,c,∅,λr v t D l=>#[r,_,Z,l,u,n,λi j=>q i (t.trans j)]]
def Zs9:kz P w K mg base vf 2 a.f_NG a.d_NG ["_law_cell","_law_many"] (sp_NG K a):=by
 calc T.jF.u.ok DB (λBP A ac s H vs Q E hr h=>?_);let BS:=hr.units;let⟨c,g,k,rfl,hg,k1,q⟩:=h;refine⟨_,(uD (Bf (i:=2) DB.nd Z (jl Z) (uE (l:=s!"abcdefghijklmnopqrstuvwxyz")))
  (uP (uD (Bf (i:=3) DB.nd Z (jl Z) (yu CG PySem.F.slot_str_join PySem.F.type_str_join Zmn (uE (l:=[])) (uy (yn (N:=["_law_j","_law_cell","_law_letters"]) (ix:=[O,U 0,U 2]) Z (xQ Z) Z (EH Z T.hJ (uy uR uA)) (λ_ _ _ _=>(vD (i:=0) (show (["_law_j","_law_cell","_law_letters"]:AJ).Nodup from by decide +kernel) Z (i0 Z) (jl Z))) (λ_ _ _ _=>yI) (λ_ _ _ _=>(vh EU (pv 2) (uL zF (u3 (Ew T) (hM hr) Z T.ib uT (uy (pv 1) (uy (uL y8 uR (pv 0)) uA))) uR) (λ_ _=>rfl)))) uA)))
  (uP (uD (vM (wQ (x6 (K:=K) Z BS) (uL zF (u3 (Ew T) (hM hr) Z T.ib uT (uy (pv 0) (uy uR uA))) uR) uR (wy _)) (uK (uY (yn (N:=["_law_k","_law_base","_law_cell"]) (ix:=[O,U 3,U 0]) Z (xQ Z) Z (EH Z T.hJ (uy (pv 1) uA)) (λ_ _ _ _=>(vD (i:=0) (show (["_law_k","_law_base","_law_cell"]:AJ).Nodup from by decide +kernel) Z (i0 Z) (jl Z))) (λ_ _ _ _=>yI) (λ_ _ _ _=>(xJ JR (pv 1) xX (xp (uL y8 uR (uL zF (uL y8 (pv 0) (u3 (Ew T) (hM hr) Z T.ib uT (uy (pv 2) (uy uR uA)))) uR)))))))) vN)
  (uP (uD (vd (i:=4) DB.nd (uL y8 uR (uL zF (u3 (Ew T) (hM hr) Z T.ib uT (uy (pv 0) (uy uR uA))) uR)))
  (uP (uD (vd (i:=5) DB.nd (uL zF (u3 (Ew T) (hM hr) Z T.ib uT (uy (pv 0) (uy uR uA))) (pv 4)))
  (uP (uD (vd (i:=6) DB.nd (wc uA))
  (uP (uD (xC xL Z (EH Z T.hJ (uy (pv 1) uA)) (vD (i:=7) DB.nd Z (i0 Z))
  (uD (vd (i:=8) DB.nd (vh Zq6 (pv 2) (uL zF (uL y8 (Gx (K:=K) Z CG PySem.F.slot_str_index PySem.F.type_str_index Zmo (pv 2) (uy (vh EU (vU (pv 3)) (pv 5) (λ_ _=>rfl)) uA)) (pv 7)) uR) (λ_ _=>rfl)))
  (uK (vV (yu zL Bg Br zY (pv 6) (uy (uL Rm (uL Rm (xJ JR (pv 3) xX (xp (pv 5))) (pv 8)) (xJ JR (pv 3) (xp (uL y8 (pv 5) uR)) (xp (pv 4)))) uA))))))
  (uP (uK (uY (pv 6))))))))))))))))),?_⟩
 omega;cutsat;refine#[Z,_,Z,⋯,⋯,kF.rangeA (λi=>tx [vA.getD (lN c (20+i) % 26).toNat 0]) ⋯ ?_ ?_]
 .intro i H1 Q1 hi G q1;omega;rw[Int.zero_add];refine#[c,20+i,Z,(by show (0:Int)<26;decide),vA,_,_,Z,Z,sz 26 ⋯,(Ie (Bd _ ⋯) (Bw _ ⋯)).2,q1 H1 (ky.refl _)]
 intro p H1 G n1 l1;let ef:((cc 8).map λi:Nat=>[vA.getD (lN c (20+i) % 26).toNat 0]).flatten=(cc 8).map λi:Nat=>vA.getD (lN c (20+i) % 26).toNat 0:=by rw[<-List.flatMap_def,<-List.map_eq_flatMap]
 refine#[[],p,g,(cc 8).map (λi:Nat=>[vA.getD (lN c (20+i) % 26).toNat 0]),k,Z,Z,?_,{},?_,G _ _ hg,k1,?_]
 .rw[show ((8:Int)).toNat=8 from Z]at l1;rw[l1,wE];rfl
 .rw[<-List.length_flatten,ef];simp
 rw[Rw,ef];obtain⟨B,eB,lB,mB⟩:∃B,B=((cc 8).map λi:Nat=>vA.getD (lN c (20+i) % 26).toNat 0)/\⇑B=8/\∀x∈B,x∈vA:=#[_,Z,by rw[uO,Bp],λx hx=>by let#[i,_,Z]:=vJ.mp hx;calc(Ie (Bd _ ⋯) (Bw _ ⋯)).1]
 rw[<-eB];clear eB ef l1 n1;intro tB kB af ad ae;cutsat;calc#[c,17,Z,(by show (0:Int)<3;decide),?_];by_cases z:lN c 17 % 3=0
 .refine QJ z (lE #[_,Z,⋯,⋯,?_]);let gb:∀b o,H b=U o->b≠g->upd H1 g (.gho kB) b=U o:=λb o e n=>by rw[uF n];exact G _ _ e
  refine kF.invR ⋯ (λr=>C8 H g r kB (λi=>B.take (1+((i:Int)+lN c 18) % 8).toNat)) (λr C=>?_) ?_ ?_
  .let D:r≠g:=λz=>by rw[z,uN]at C;cases C
   rw[uF D]at C;exact .mk kB (by rw[uF D.symm];calc uN) (uV _) (λb o e n=>by rw[uF (λz=>by rw[z,G.free C]at e;cases e)];calc gb b o e n) uN (λj y hy=>by simp at hy)
  .intro r i ys H' Q' C hi I L q';let D:r≠g:=λz=>by rw[z,uN]at C;cases C
   rw[uF D]at C;cases L with
   | mk kk d M v m X=>
   omega;rw[Int.zero_add];let V:=Bd ((i:Int)+lN c 18) (show (8:Int)≠0 by decide);calc#[c,18,Z,(by show (0:Int)<8;decide),_,Z,B,tB,kk,g,Z,sz _ ∅,d,∅,∅,λt k2 h0 h1 h2=>?_];obtain⟨y,ey⟩:∃y:Nat,1+((i:Int)+lN c 18) % 8=(y:Int):=#[(1+((i:Int)+lN c 18) % 8).toNat,∅];let ex:xt B O (U (1+((i:Int)+lN c 18) % 8))=B.take (1+((i:Int)+lN c 18) % 8).toNat:=by rw[ey,ET,Gy]
   let#[z1,z2]:=C8.step (f:=λi=>B.take (1+((i:Int)+lN c 18) % 8).toNat) (G.free C) d M v m X I h0 h1 h2;rw[ex];exact q' _ _ z1 z2
  .intro r ys H' C I L;let D:r≠g:=λz=>by rw[z,uN]at C;cases C
   rw[uF D]at C;let#[t1,t2,t3,kk,d,v,m,V,a2]:=L.three I;let md:∀i:Nat,0<=((i:Int)+lN c 18) % 8/\((i:Int)+lN c 18) % 8<8:=λi=>#[Bd _ ⋯,Bw _ ⋯];let ln:∀i:Nat,⇑(B.take (1+((i:Int)+lN c 18) % 8).toNat)=(1+((i:Int)+lN c 18) % 8).toNat:=λi=>by rw[xw];have:=md i;nofun
   let W:∀i:Nat,vX (B.take (1+((i:Int)+lN c 18) % 8).toNat)=Y:=λi=>PD (by rw[ln i];have:=md i;nofun) (by rw[ln i];have:=md i;nofun) λx hx=>mB x (Ep hx);let ne:∀i j:Nat,i<j->j<i+8->B.take (1+((i:Int)+lN c 18) % 8).toNat≠B.take (1+((j:Int)+lN c 18) % 8).toNat:=λi j h1 h2 e=>by let e:=R9 fu e;rw[ln,ln]at e;have:=md i;have:=md j;nofun
   exact q _ _ _ t1 t2 t3 kk r H' v d (G.free C) m V a2 (W 0) (W 1) (W 2) (ne 0 1 ⋯ ⋯) (ne 0 2 ⋯ ⋯) (ne 1 2 ⋯ ⋯)
 .refine Rp z (lm (vv ?_));omega;calc#[c,18,Z,(by show (0:Int)<8;decide),?_];dsimp only[Cs,GV];obtain⟨S,eS,S1,S8⟩:∃S:Nat,1+lN c 18 % 8=(S:Int)/\1<=S/\S<=8:=by let V:=Bd (lN c 18) (show (8:Int)≠0 by decide);let a2:=Bw (lN c 18) (show (0:Int)<8 by decide);exact#[(1+lN c 18 % 8).toNat,∅,∅,∅]
  rw[eS];cutsat;calc#[c,19,Z,(by show (0:Int)<(S:Int);nofun),?_];dsimp only;obtain⟨A,eA,hA⟩:∃A:Nat,lN c 19 % (S:Int)=(A:Int)/\A<S:=by let V:=Bd (lN c 19) (show (S:Int)≠0 by nofun);let a2:=Bw (lN c 19) (show (0:Int)<(S:Int) by nofun);exact#[(lN c 19 % (S:Int)).toNat,∅,∅]
  rw[eA];cutsat;calc#[wf _,kU.of λpn H2 s2 n2 l2=>vv ?_];let D:pn≠g:=λz=>by rw[z,uN]at n2;cases n2
  let aa:H pn=O:=by rw[uF D]at n2;exact G.free n2
  omega;let#[x,hx,xm]:=Ii (xs:=B) (i:=(A:Int)) ∅ ∅;let xl:=mB x xm;calc#[_,Z,⋯,⋯,?_];refine kT.range (MB H g pn kB tB c B S A (x-97)) (.mk _ _ [] Z Z (.mk kB (s2 _ _ uN) (uV _) (λb o e n=>s2 _ _ (by rw[uF n];calc G _ _ e)) l2 (λj y hy=>by simp at hy))) ?_ ?_
  .intro i σ H3 hi L;cases L with
   | mk v7 v8 ys es I hp=>
   subst es;cases hp with
   | mk kk d M v m X=>
   omega;calc#[Z,B,_,x,Z,Z,sz _ ∅,hx,vA,[x],Z,Z,Zmy (mB x xm),λj hj _=>#[⋯,vA,_,_,kk,g,Z,Z,sz 26 ⋯,(Ie (Bd _ ⋯) (Bw _ ⋯)).2,d,∅,λts ks a0 V a2=>?_]];let ab:pn≠g:=D;obtain rfl:=(ZoW xl hj).1;let e1:xt B O (U (A:Int))=B.take A:=ET B A;let e2:xt B (U ((A:Int)+1)) (U (S:Int))=(B.drop (A+1)).take (S-(A+1)):=OF B (A+1) S;let l1:⇑(B.take A)<=8:=by rw[xw];nofun
   let l2:⇑((B.drop (A+1)).take (S-(A+1)))<=8:=by rw[xw,yR];nofun
   calc#[.inl #[Z,_,.mk (by rw[uF ab];calc m)],_,Z,B,tB,ks,g,Z,sz _ ∅,uN,∅,∅,λtb kb b0 b1 b2=>?_];rw[e1];calc#[B.take A,[vA.getD ((((x-97:Nat):Int)+(0+(i:Int))) % 26).toNat 0],tb,ts,kb,g,Z,Z,uN,b0,b1,a0,∅,sz _ (by rw[xf];nofun),λtc kc c0 c1 c2=>#[_,Z,_,Z,B,tB,kc,g,Z,sz _ ∅,uN,∅,∅,λtd kd d0 d1 d2=>?_]];rw[e2];calc#[_,(B.drop (A+1)).take (S-(A+1)),tc,td,kd,g,Z,Z,uN,c0,∅,d0,d1,sz _ (by rw[vn,xf];nofun),λte ke f0 f1 f2=>?_];rw[IB,IB,IB,IB];let#[z1,z2]:=C8.step (f:=Ev B S A (x-97)) aa d M v m X I f0 f1 (show kk<=ke by nofun);rw[Int.zero_add];refine#[pn,ys,_,Z,Z,z1,sz _ ∅,.mk _ _ _ Z (by rw[vn,I];rfl) z2]
  .intro σ H3 L;cases L with
   | mk v7 v8 ys es I hp=>
   subst es;let#[t1,t2,t3,kk,d,v,m,V,a2]:=hp.three I;(try omega);cutsat;let W:∀i:Nat,vX (Ev B S A (x-97) i)=Y:=λi=>by
    let ym:vA.getD ((((x-97:Nat):Int)+(i:Int)) % 26).toNat 0∈vA:=(Ie (Bd _ ⋯) (Bw _ ⋯)).1;refine PD ?_ ?_ λu F=>?_
    .rw[Ev,vn,vn,xf];nofun
    .rw[Ev,vn,vn,xf,xw,xw,yR];nofun
    .rcases wM.mp F with F | F
     .rcases wM.mp F with F | F
      .exact mB u (Ep F)
      .rw[vI.mp F];exact ym
     .exact mB u (List.mem_of_mem_drop (Ep F))
   let xb:x-97<26:=ZqV (mB x xm);calc q _ _ _ t1 t2 t3 kk pn H3 v d aa m V a2 (W 0) (W 1) (W 2) (Jw xb ⋯ ⋯ ⋯) (Jw xb ⋯ ⋯ ⋯) (Jw xb ⋯ ⋯ ⋯)
def Zta:pj P w K mg base vf 2 a.f_NF a.d_NF ["_law_e"] (sp_NF K a):=by
 calc T.jH.u.okH ZrS (λB A m s H D Q E p h=>?_);let⟨e,C,i,x,d,rfl,b,c,g,q⟩:=h;refine⟨_,(uD (vM (wH (vE (yh (K:=K) Z) Z T.gL yf (uy (pv 0) (uy (yr (v:=.ref a.c_MW) Z T.m_MW Z) uA)))) (uK (uY (uE (l:=s!"line")))) vN)
  (uP (uD (vM (wH (vE (yh (K:=K) Z) Z T.gL yf (uy (pv 0) (uy (yr (v:=.ref a.c_NX) Z T.m_NX Z) uA)))) (uK (uY (uE (l:=s!"bare")))) vN)
  (uP (uD (vM (wH (vE (yh (K:=K) Z) Z T.gL yf (uy (pv 0) (uy (yr (v:=.ref a.c_MV) Z T.m_MV Z) uA)))) (uK (uY (uE (l:=s!"none")))) vN)
  (uP (uD (vM (wH (vE (yh (K:=K) Z) Z T.gL yf (uy (pv 0) (uy (yr (v:=.ref a.c_MD) Z T.m_MD Z) uA)))) (uK (uY (uE (l:=s!"endless")))) vN)
  (uP (uD (vM (wH (vE (yh (K:=K) Z) Z T.gL yf (uy (pv 0) (uy (yr (v:=.ref a.c_MI) Z T.m_MI Z) uA)))) (uK (uY (uE (l:=s!"long")))) vN)
  (uP (uD (vM (wH (vE (yh (K:=K) Z) Z T.gL yf (uy (pv 0) (uy (yr (v:=.ref a.c_NL) Z T.m_NL Z) uA)))) (uK (uY (uE (l:=s!"split")))) vN)
  (uP (uK (uY (QK (Ztb T) p.le Z T.jG (uy (pv 0) uA)))))))))))))))),?_⟩
 let f:=Ed.of T;let#[k,_,_]:=f.xi C (wL b);omega;refine#[_,_,_,_,_,Z,Z,.exc g k,f.kit (j:=0) b Z,lT (λh=>?_) (λy=>vv ?_)]
 .obtain rfl:i=0:=R7 h;let#[_,Z]:=c;exact q
 omega;refine#[_,_,_,_,_,Z,Z,.exc g k,f.kit (j:=1) b Z,lT (λh=>?_) (λt=>vv ?_)]
 .obtain rfl:i=1:=R7 h;let#[_,Z]:=c;exact q
 omega;refine#[_,_,_,_,_,Z,Z,.exc g k,f.kit (j:=2) b Z,lT (λh=>?_) (λo=>vv ?_)]
 .obtain rfl:i=2:=R7 h;let#[_,Z]:=c;exact q
 omega;refine#[_,_,_,_,_,Z,Z,.exc g k,f.kit (j:=3) b Z,lT (λh=>?_) (λr=>vv ?_)]
 .obtain rfl:i=3:=R7 h;obtain rfl:=c;exact q
 omega;refine#[_,_,_,_,_,Z,Z,.exc g k,f.kit (j:=4) b Z,lT (λh=>?_) (λu=>vv ?_)]
 .obtain rfl:i=4:=R7 h;obtain rfl:=c;exact q
 omega;refine#[_,_,_,_,_,Z,Z,.exc g k,f.kit (j:=5) b Z,lT (λh=>?_) (λn=>vv ?_)]
 .obtain rfl:i=5:=R7 h;obtain rfl:=c;exact q
 omega;calc#[e,C,i,x,d,Z,b,c,D0 λz=>?_,g,q];simp only[R4]at y t o r u n
 nofun
def ZtE:kz P w K mg base vf 3 a.f_LS a.d_LS ["thing","kinds"] (sp_LS K a):=by
 calc T.ir.u.ok Zsb (λk A b s H j Q E f h=>?_);let i:=f.units;let#[l,m,Z,c,q]:=h;calc#[_,(uK (uY (B7 (u3 (GG T) (hM f) Z T.gZ uT (uy (pv 0) (uy (pv 1) (uy uR uA)))) (B3 (yG (x6 (K:=K) Z i) (vE (w4 (K:=K) Z) Z T.gQ wW (uy (pv 0) uA)) uR (wy _)))))),?_];omega;refine#[l,m,1,Z,c,λd g=>(lT (λh=>?_) (λh=>?_))]
 .refine#[_,_,Z,zX c,.inl #[Z,?_]];let e:=q d g;unfold zf at e;rw[h,BZ]at e;rw[uI vC];simpa using e
 .let e:=q d g;unfold zf at e;rw[Cw.mpr h,zg]at e;calc e
def GN:kz P w K mg base (vt P w) 3 a.f_LF a.d_LF ["thing"] (sp_LF K a):=by
 calc T.gR.u.okX Zsl (λt A i s H r Q E m h=>?_);let#[v,Z,q]:=h;calc#[_,(uK (vM (za (wH (u3 (ZtT T) (hM m) Z T.iL uT (uy (pv 0) uA)))) (uK (yw yx Z (F5 T.x_MG T.i_MG Z T.m_MG (uy (uE (l:=s!"kinds are one to four unlike small letters, rising")) uA)))) vN)),?_];omega;let k:∀b,ky H b->Jk a E H->(1<=1000/\HU a.c_MG b λv b=>∃e C d,v=.ref e/\b e=U (xo e C d)/\Xm K C/\E (.ref C) (U e) (upd b e (xr e C d))):=λb p z=>
  #[⋯,λe n=>#[e,_,O,Z,uN,T.x_MG,z e _ (p.trans (Gc n)) (.bare uN)]]
 rcases q with⟨l,e,c,j,q⟩|⟨⟨l,e,c,j⟩ | o,q⟩
 .exact#[_,Z,.inl #[l,e,c,λg f=>(by rw[j];calc lm (q g f))]]
 .exact#[_,Z,.inl #[l,e,c,λg f=>(by rw[j];calc lE (k g f q))]]
 .exact#[_,Z,.inr #[o,lE (k H (ky.refl _) q)]]
def JN:kz P w K mg base (vt P w) 3 a.f_LW a.d_LW ["thing","kinds","most"] (sp_LW K a):=by
 calc T.gY.u.okX Zr8 (λt A b s H r Q E f h=>?_);let#[l,m,most,Z,g,q,x]:=h;calc#[_,(uK (vM (za (wH (u3 (GG T) (hM f) Z T.gZ uT (uy (pv 0) (uy (pv 1) (uy (pv 2) uA)))))) (uK (yw yx Z (zy T.cz T.fY T.fS (Ms T) (hM f) T.b_M0 uT Z T.fX (uy (pv 0) uA)))) vN)),?_];omega;calc#[l,m,most,Z,g,λk c=>?_];cases hk:wv l m most with
 | true=>exact lm (q hk k c)
 | false=>
  calc lE #[⋯,yi.of Z λe u n i o=>?_];let#[d,p,j]:=Bi o;calc#[e,_,d,Z,p,T.cz,x hk e _ (c.trans (kI n i)) j]
def Zt1:kz P w K mg base vf 3 a.cQ a.eU ["self"] (sp_KG K a):=by
 calc T.jd.u.ok Fh (λBP A z s H vs Q E x h=>?_);let⟨p,l,m,rfl,b,e,q⟩:=h;refine⟨_,(uD (vd (i:=1) Fh.nd (wc uA))
  (uD (vd (i:=2) Fh.nd (wK (pv 0) T.bX T.aW (O6 T) (hM x) T.iI.b .nil uT (uy uR uA)))
  (uD (xC xL Z (Ls Z T.hJ (uy uR (uy (uL y8 (xV (pv 0) T.bX T.bd (ZtV T) (hM x) T.ju.b .nil uT) uR) uA))) (vD (i:=3) Fh.nd Z (i0 Z))
  (uD (vd (i:=4) Fh.nd (wK (pv 0) T.bX T.aW (O6 T) (hM x) T.iI.b .nil uT (uy (pv 3) uA)))
  (uD (vV (yu zL PySem.F.slot_list_extend PySem.F.type_list_extend Zk2 (pv 1) (uy (u3 (Zs5 T) (hM x) Z T.jO uT (uy (pv 2) (uy (pv 4) (uy (vL (K:=K) Z (pv 0) Z) uA)))) uA)))
  (uK (vd (i:=2) Fh.nd (pv 4))))))
  (uK (uY (pv 1)))))),?_⟩
 let#[c,b]:=b;let g:=e.l40;let y:=e.m4;omega;calc#[wf _,kU.of λt H1 j nf G=>?_];calc#[p,c,_,Z,j _ _ b,GJ nofun nofun,p,l,m,0,Z,#[c,j _ _ b],e,wf _,λo H2 v X S=>?_];calc#[p,c,_,Z,(j.trans v) _ _ b,GJ nofun nofun,p,l,m,Z,#[c,(j.trans v) _ _ b],e,?_];omega;let N:((⇑l:Nat)+1+1-1:Int).toNat=⇑l+1:=by nofun
 calc#[_,_,Z,#[∅,∅,∅,∅],?_];rw[N];refine kT.range (Qb H p t l m) #[_,_,o,Z,j.trans v,v _ _ G,S,vp G X] ?_ ?_
 .rintro i σ D hi ⟨v3,L,o,rfl,d,u,F,B⟩;let M:(1+(i:Int))=((i+1:Nat):Int):=by nofun
  let ll:=Pm (l:=l) (m:=m) (i:=i) y g ∅;let la:=Pm (l:=l) (m:=m) (i:=i+1) y g ∅;rw[QS,vn]at la;rw[M];omega;calc#[p,c,_,Z,d _ _ b,GJ nofun nofun,p,l,m,i+1,Z,#[c,d _ _ b],e,∅,λq1 H4 n W I=>?_];let k:=n _ _ u;let f:t≠q1:=vp u W;calc#[.inl #[Z,_,.mk k],p,_,c,_,_,Z,(d.trans n) _ _ b,T.bX,T.aT,ZjJ,?_];calc#[o,q1,kY l i,kY l (i+1),m,Z,n _ _ F,I,by have:=PZ l i;nofun,y,λw V=>by have:=(Dj (l:=l) ∅).mp V;nofun,λr H5 C n5 e5=>?_];refine#[t,r,_,_,Z,Z,C _ _ k,e5,by rw[uO,uO,bA];nofun,_,_,q1,Z,kI (d.trans (n.trans C)) nf,?_,?_,f]
  .rw[uN,QS,xO]
  .rw[uF (uZ f)];exact C _ _ I
 .rintro σ D ⟨v3,L,o,rfl,d,u,F,B⟩;omega;calc q t D d u
def Zts:kz P w K mg base (vt P w) 3 a.f_MA a.d_MA ["words"] (sp_MA K a):=by
 calc T.iN.u.okX LB (λBP A ab s H vs Q E hr h=>?_);let BS:=hr.units;let⟨b,G,m,rfl,hb,lk,q,qx⟩:=h;refine⟨_,(uK (xC Ho Z (wY (K:=K) Z (pv 0)) (vD (i:=1) LB.nd Z (i0 Z))
  (uK (xC Ho Z (wY (K:=K) Z (pv 0)) (vD (i:=2) LB.nd Z (i0 Z))
  (uK (vM (PW.pt (Px (wQ (En (K:=K) Z BS) (pv 2) (pv 1) (wy _)) (MY (wQ HR (pv 2) (pv 1) Z)))) (uK (yw yx Z (zy T.cA T.i_MU T.gy (Zfk T) (hM hr) T.b_MU uT Z T.m_MU (uy (pv 2) (uy (pv 1) uA))))) vN)))))),?_⟩
 let up:∀(x y:uz) o,ky H o->X2 a.c_MU "one" "other" E H x y->(2<=1000/\yi (yL K a.c_MU 2 (yV (fv "one") (fv "other"))) E0 a.c_MU [tx x,tx y] o λv o=>∃e C d,v=.ref e/\o e=U (xo e C d)/\Xm K C/\E (.ref C) (U e) (upd o e (xr e C d))):=λx y o F z=>
  #[⋯,yi.of Z λe H2 B n2 x2=>by let#[d,hd,hx]:=Bi x2;calc#[e,_,d,Z,hd,T.cA,z e _ (F.trans (kI B n2)) hx]]
 omega;refine#[b,Z,#[_,.mk hb],kT.list (xs:=G.map tx) (λi σ N=>∃v1 u,σ=[U (.ref b),v1,u]/\ky H N/\∀(l g:Nat)(f r:uz),l<i->G[l]?=U r->G[g]?=U f->f≠r->¬ve f r) #[_,_,Z,ky.refl _,λl g f r h=>by nofun] (λi σ N _ ⟨_,_,_,s',_⟩=>.mk (s' _ _ hb)) ?_ ?_]
 .rintro i x σ o hx ⟨v1,u,rfl,F,p⟩;let#[y,hy,Z]:=Ey hx;omega;refine#[b,Z,#[_,.mk (F _ _ hb)],kT.list (xs:=G.map tx) (λj σ N=>∃u,σ=[U (.ref b),U (tx y),u]/\ky H N/\∀(g:Nat)(f:uz),g<j->G[g]?=U f->f≠y->¬ve f y) #[_,Z,F,λg f h=>by nofun] (λi σ N _ ⟨_,_,s',_⟩=>.mk (s' _ _ hb)) ?_ ?_]
  .rintro j x σ H2 aa ⟨u,rfl,B,n⟩;let#[z,hz,Z]:=Ey aa;let W:(z=y\/¬ve z y)->∀(g:Nat)(f:uz),g<j+1->G[g]?=U f->f≠y->¬ve f y:=λh g f hj t X S=>by
    by_cases c:g<j
    .exact n g f c t X S
    .let e:g=j:=by nofun
     subst e;rw[hz]at t;cases t;rcases h with k | k
     .exact X k
     .exact k S
   omega;calc ZoR λk hk=>(lT (λe=>#[z,y,Z,Z,lT (λe2=>?_) (λe2=>#[_,Z,B,W (.inr λh=>e2 (CB.mpr h))])]) (λe=>lm #[_,Z,B,W (.inl (D0 λh=>e (hk.mpr h)))]));let fi:ve z y:=CB.mp e2;calc up z y H2 B (qx z y #[i,j,hy,hz,hk.mp e,fi,λl g f r D I V M=>?_]);by_cases c:l<i
   .exact Sa M (p l g f r c D I V)
   .by_cases c2:l=i
    .subst c2;rw[hy]at D;cases D;exact .inr #[Z,D0 λk=>n g f ∅ I V M]
    .exact .inl ∅
  .rintro σ H2 ⟨u,rfl,B,n⟩;calc#[_,_,Z,B,λl g f r S D I V M=>?_];by_cases c:l<i
   .exact p l g f r c D I V M
   .let e:l=i:=by nofun
    subst e;rw[hy]at D;cases D;let hj:=(vT.mp I).1;exact n g f (by rw[uO];calc hj) I V M
 .rintro σ o ⟨v1,u,rfl,F,p⟩;calc q (λv hv w hw S=>D0 λne=>?_) o F;let#[j,hj,ej]:=yK hv;let#[i,L,ei]:=yK hw;calc p i j v w (by rw[uO];calc L) (vT.mpr #[L,ei]) (vT.mpr #[hj,ej]) ne S
def ZtC:kz P w K mg base (vt P w) 3 a.f_LX a.d_LX ["ways","ended"] (sp_LX K a):=by
 calc T.iA.u.okX Dr (λBP A al s H vs Q E hr h=>?_);let f:=Cg hr;let⟨p,pq,kw,b,ss,es,m,rfl,hp,wl,sl,ok,lk,an,hq,he,hn,qx⟩:=h;refine⟨_,(uD (Bf (i:=2) Dr.nd Z (jl Z) (yM (QO Z) Z T.jX Nz (uy (yn (N:=["stem"]) (ix:=[O]) Z (xQ Z) Z (wY (K:=K) Z (pv 1)) (λ_ _ _ _=>(vD (i:=0) (show (["stem"]:AJ).Nodup from by decide +kernel) Z (i0 Z) (jl Z))) (λ_ _ _ _=>yI) (λ_ _ _ _=>(vZ (uy (pv 0) (uy Ba uA))))) uA)))
  (uP (uD (Bf (i:=3) Dr.nd Z (jl Z) (uE (l:=[])))
  (uP (uD (vd (i:=4) Dr.nd (uE (l:=[])))
  (uP (uD (vd (i:=5) Dr.nd DD)
  (uP (uD (K3 Ho (Em (Hs f (pv 3) (pv 5)))
  (uD (CZ f (pv 5) (pv 3) (vE (w4 (K:=K) Z) Z T.gQ wW (uy (pv 4) uA)) Z)
  (uP (uD (vd (i:=6) Dr.nd (vh (wq (K:=K) Z) (Zox (yn (N:=["each","stem","stopping","ways"]) (ix:=[O,U 3,U 2,U 0]) Z (xQ Z) Z (GU (yB f (pv 0) (pv 3) (λ_ _=>rfl))) (λ_ _ _ _=>(vD (i:=0) (show (["each","stem","stopping","ways"]:AJ).Nodup from by decide +kernel) Z (i0 Z) (jl Z))) (λ_ _ _ _=>(Hh (Em (Hs f (yB f (yB f (pv 3) (pv 1) (λ_ _=>rfl)) (pv 0) (λ_ _=>rfl)) (pv 2))))) (λ_ _ _ _=>(pv 0)))) uR (λ_ _=>rfl)))
  (uP (uD (Bf (i:=3) Dr.nd Z (jl Z) (yB f (yB f (pv 0) (pv 3) (λ_ _=>rfl)) (pv 6) (λ_ _=>rfl)))
  (uP (uK (vd (i:=4) Dr.nd (uL uU (pv 4) (pv 6)))))))))))
  (uP (uK (yw yx Z (zy T.eE T.i_MD T.gE (ZeQ T) (hM hr) T.b_MD uT Z T.m_MD (uy (xJ zr (pv 4) xX (xp (yB f (pv 5) (pv 3) (λ_ _=>rfl)))) (uy (xJ zr (pv 4) (xp (yB f (pv 5) (pv 3) (λ_ _=>rfl))) xX) uA))))))))))))))),?_⟩
 let up:∀(x y:uz) F,ky H F->X2 a.c_MD "head" "lap" E H x y->(2<=1000/\yi (yL K a.c_MD 2 (yV (fv "head") (fv "lap"))) E0 a.c_MD [tx x,tx y] F λv F=>∃e C d,v=.ref e/\F e=U (xo e C d)/\Xm K C/\E (.ref C) (U e) (upd F e (xr e C d))):=λx y F s1 z=>
  #[⋯,yi.of Z λe G s2 n2 x2=>by let#[d,hd,hx]:=Bi x2;calc#[e,_,d,Z,hd,T.eE,z e _ (s1.trans (kI s2 n2)) hx]]
 let sz:∀k:Nat,k<=100000->k<=sizeLine:=λk h=>u8 h (by rw[bA];decide);let m4:=ok.m4;let ap:=sl.len;let ar:⇑es<=⇑ss:=DC es ss he.nd he.sub;omega;refine#[pq,Z,#[_,.mk hq],kF.tupsM (xs:=es.map tx) (λj vs=>∃s,es[j]?=U s/\vs=[tx s,.bl Y]) (by rw[uO];nofun) (.mk hq) ?_ ?_]
 .intro j F Q1 I s1 q1;rw[uO]at I;rw[Cr I];let S:es[j]?=U (es.getD j []):=by rw[wj,vK I];rfl
  generalize es.getD j []=s_ at S;omega;exact#[sz _ ⋯,ly.of λpt G s2 n2 l2=>q1 pt _ G s2 l2 #[s_,S,Z]]
 .intro p1 ys F s1 n1 l1 yl hy;refine#[p1,ys,es.map λs=>(uJ s,.bl Y),Z,l1,#[by rw[yl,uO,uO],λj y I=>?_],λW nd=>?_]
  .obtain⟨t,vs,rfl,L,s_,hs,rfl⟩:=hy j y I;exact#[(uJ s_,.bl Y),t,by rw[wI,hs];rfl,Z,L]
  .rw[JO _ [] (by rw[CC,wE];calc E9 he.nd λx _ y _ e=>xI e),CC];let s2:ky F (upd F W (.dK (es.map λs=>(uJ s,.bl Y)))):=vG nd;let l2:upd F W (.dK (es.map λs=>(uJ s,.bl Y))) W=U (.dK (es.map λs=>(uJ s,.bl Y))):=uN;generalize upd F W (.dK (es.map λs=>(uJ s,.bl Y)))=G at s2 l2;let ae:=s1.trans s2;cutsat;cutsat;cutsat;intro B ah;let s3:ky G (upd G B (.dK [])):=vG ah;let l3:upd G B (.dK []) B=U (.dK []):=uN;generalize upd G B (.dK [])=H3 at s3 l3;cutsat;refine mJ.by (λσ H'=>∃(v6:Option V) (met:uG) (s_ g:uz) (u:List (uQ×V)),σ=[U (.ref p),U (.ref pq),U (.ref W),U (tx s_),U (tx g),U (.ref B),v6]/\ky G H'/\H' B=U (.dK u)/\yC b m (λs=>s∈es) met s_ g/\pD u met) (λ_ H'=>match H' B with | some (.dK k)=>⇑ss-⇑k | _=>0) #[_,[],[],[],[],Z,s3,l3,.nil,#[λj s h=>(by simp at h),λs h=>(by cases h),uV _]] ?_
   rintro σ H4 ⟨v6,met,s_,g,u,rfl,s4,l4,q,md⟩;let ac:=q.stem;let ms:s_∈ss:=(sl.iff s_).mpr ac.1;let aq:⇑met<=⇑ss:=DC met ss q.nd λt L=>(sl.iff t).mpr (ac.2 t L);let gl:=q.len;refine#[!R (s_∈met),λQ' hq=>?_,λH5 s5=>?_]
   .omega;calc#[B,_,Z,.inl #[u,uJ s_,.inl l4,Z,Z],?_];rw[md.some];exact hq H4 (ky.refl _)
   .by_cases c:s_∈met
    .rw[R5 c];calc lm ?_;omega;cutsat;let#[j,I,ej]:=yK c;let ad:met[j]?=U s_:=vT.mpr #[I,ej];let l5:=s5 _ _ l4;let vj:=md.at_ j s_ ad;calc#[B,_,Z,.inl #[u,uJ s_,.inl l5,Z,vj.symm],_,Z,g,Z,sz _ ∅,B,_,Z,.inl #[u,uJ s_,.inl l5,Z,vj.symm],_,Z,g,Z,sz _ ∅,?_];rw[ET,DP];exact up _ _ H5 (ae.trans (s4.trans s5)) (qx _ _ #[met,s_,g,j,q,ad,Z,Z])
    .rw[R6 c];calc lE ?_;omega;let l5:=s5 _ _ l4;calc#[_,_,Z,Iu ∅,B,_,Z,mY.k (k:=uJ s_) l5 (xj (show _<100000 by have:=md.len;nofun) (sz 100000 (uV _))),?_];rw[gl];let ao:=md.put c;let s6:ky G (upd H5 B (.dK (kQ u (uJ s_) (.int (⇑met:Nat))))):=kI (s4.trans s5) ah;let l6:upd H5 B (.dK (kQ u (uJ s_) (.int (⇑met:Nat)))) B=U (.dK (kQ u (uJ s_) (.int (⇑met:Nat)))):=uN;generalize upd H5 B (.dK (kQ u (uJ s_) (.int (⇑met:Nat))))=H6 at s6 l6;cutsat;let#[au,va,na,ab]:=wl.val sl.nd ms;let af:=ae.trans s6;let a6:=af _ _ ab;let p6:=af _ _ hp;let d6:=s6 _ _ l2;let M:∀(i:Nat)(X:uQ×V),((wg b m s_).map me)[i]?=U X->∃c,(lK b m s_).getD i 0=c/\(lK b m s_)[i]?=U c/\X=me (c,lL b (s_++[c])):=λi X n=>by
      unfold wg at n;rw[wE,wI]at n;cases e:(lK b m s_)[i]? with
      | none=>rw[e]at n;cases n
      | some c=>rw[e]at n;cases n;exact#[c,by rw[wj,e];rfl,Z,Z]
     let ag:∀(i:Nat)(c:Nat),(lK b m s_)[i]?=U c->kK ((wg b m s_).map me) (uJ [c])=U (tx (lL b (s_++[c]))):=λi c S=>FX (i:=i) (JG (DW ok.k)) (by unfold wg;rw[wE,wI,S];rfl);let aj:p≠au:=uZ na;let ai:W≠au:=λz=>by let e:=vp (s1 _ _ ab) nd;exact e z.symm
     refine#[au,_,a6,p,.ref au,Z,.inl #[kw,uJ s_,.inl p6,Z,va.symm],au,_,Z,a6,λo=>kF.keys (λi=>!R (lL b (s_++[(lK b m s_).getD i 0])∈es)) (λi=>tx [(lK b m s_).getD i 0]) (by unfold wg;rw[uO,uO];calc u8 (yA _ _) ∅) uN ?_ ?_ ?_]
     .intro i X H7 Q7 n s7 q7;let#[c0,eg,S,Z]:=M i X n;rw[eg]at q7;show tB _ (List.set _ 0 (U (kV (uJ [c0])))) _ _;rw[Eg];omega;calc#[p,.ref au,Z,.inl #[kw,uJ s_,.inl (s7 _ _ (by rw[uF aj];calc p6)),Z,va.symm],au,_,Z,.inl #[_,uJ [c0],.inr #[o,s7 _ _ uN],Z,(ag i c0 S).symm],W,_,Z,.inl #[_,uJ (lL b (s_++[c0])),.inl (s7 _ _ (by rw[uF ai];calc d6)),Z,Z],?_];rw[Zjk];exact q7 H7 (ky.refl _)
     .intro i X H7 Q7 n _ s7 q7;let#[c0,eg,S,Z]:=M i X n;rw[eg]at q7;show pU 0 (List.set _ 0 (U (kV (uJ [c0])))) _ _;rw[Eg];omega;exact q7 H7 (ky.refl _)
     .intro pf H7 s7 n7 l7;let lo:⇑((wg b m s_).map me)=⇑(lK b m s_):=by unfold wg;rw[uO,uO]
      rw[lo,OZ (λc=>!R (lL b (s_++[c])∈es)) (λc=>tx [c]) (lK b m s_)]at l7;calc#[o,_,s7 _ _ uN,?_];let am:pf≠au:=λz=>by rw[z,uN]at n7;cases n7
      let D:ky H6 (upd H7 au (.dK ((wg b m s_).map me))):=ky.thaw a6 s7;let l8:upd H7 au (.dK ((wg b m s_).map me)) pf=U (.lst (((lK b m s_).filter λc=>!R (lL b (s_++[c])∈es)).map λc=>tx [c])):=by rw[uF am];exact l7
      generalize upd H7 au (.dK ((wg b m s_).map me))=H8 at D l8;let ns:s_∉es:=q.out hn;let#[t,L,nt]:=he.stay s_ ms ns;obtain⟨c0,aa⟩:∃c0,((lK b m s_).filter λc=>!R (lL b (s_++[c])∈es))[0]?=U c0:=by
       unfold k7 wg at L;let#[x,hx,Z]:=vJ.mp L;let#[d,hd,Z]:=vJ.mp hx;have:d∈(lK b m s_).filter λc=>!R (lL b (s_++[c])∈es):=yU.mpr #[hd,~~~nt];cases e:(lK b m s_).filter λc=>!R (lL b (s_++[c])∈es) with
       | nil=>rw[e]at this;cases this
       | cons c0 r=>exact#[c0,Z]
      let#[i,hi,pi,mn]:=RI aa;let fc:MT b m (λs=>s∈es) s_ c0:=#[i,hi,~~~pi,λj d I hd=>by simpa using mn j d I hd];calc#[pf,_,0,tx [c0],Z,Z,.mk l8,Gh (j:=0) (by rw[wI,aa];rfl),?_];cutsat;calc#[p,.ref au,Z,.inl #[kw,uJ s_,.inl (D _ _ p6),Z,va.symm],au,_,Z,.inl #[_,uJ [c0],.inl (D _ _ a6),Z,(ag i c0 hi).symm],vv ?_];omega;calc#[sz _ ∅,#[_,met++[s_],lL b (s_++[c0]),g++[c0],_,Z,s6.trans D,D _ _ l6,.step q c fc,ao],?_];rw[D _ _ l6,l4];let nk:kK u (uJ s_)=O:=by
       cases e:kK u (uJ s_) with
       | none=>rfl
       | some v=>exact Sa (md.mem s_ (by rw[e];rfl)) c
      let pl:⇑(kQ u (uJ s_) (.int (⇑met:Nat)))=⇑u+1:=by rw[EX _ nk,vn];rfl
      let ak:⇑(met++[s_])<=⇑ss:=DC _ ss (yC.step q c fc).nd λt L=>(sl.iff t).mpr ((yC.step q c fc).stem.2 t L);rw[vn,xf]at ak;have:=md.len;show ⇑ss-⇑(kQ u (uJ s_) (.int (⇑met:Nat)))<⇑ss-⇑u;rw[pl];nofun
def Ks:kz P w K mg base vf 3 a.f_MQ a.d_MQ ["thing"] (sp_MQ K a):=by
 calc T.ii.u.ok ZrX (λk A b s H j Q E c h=>?_);let i:=c.units;let#[n,Z,f,q]:=h;calc#[_,(uK (uY (B7 (u3 (GG T) (hM c) Z T.gZ uT (uy (pv 0) (uy (DX Z T.c_KE) (uy (Bb Z T.c_KJ) uA)))) (B3 (yG (En (K:=K) Z i) (pv 0) (uE (l:=[])) (wy _)))))),?_];omega;rw[Md];calc#[_,vA,8,Z,f,λg d=>?_];let e:=q g d;unfold vX at e;cases h:wv n vA 8 with
 | false=>rw[h,zg]at e;exact lm e
 | true=>
  rw[h,BZ]at e;calc lE (.inl #[Z,by rw[uM Z,CA,<-decide_not];calc e])
def Ztq:kz P w K mg base vf 3 a.f_MC a.d_MC ["word"] (sp_MC K a):=by
 calc T.iQ.u.ok Zr2 (λp A d s H o Q E g h=>?_);let m:=g.units;let⟨b,rfl,r,j,q⟩:=h;refine⟨_,(uD (vM (wH (u3 (Mx T) (hM g) Z T.hU uT (uy (pv 0) uA))) (uK (uY (yM ZlJ Z T.kg Mz (uy (pv 0) uA)))) vN)
  (uK (uY (Rc (wQ (x6 (K:=K) Z m) (pv 0) (DX Z T.c_KZ) (wy _)) (uE (l:=[])) (pv 0))))),?_⟩
 omega;calc#[b,Z,∅,λk i=>?_];let e:=q k i;unfold vo at e;cases h:nZ b with
 | true=>
  rw[uM h]at e;let#[n,f]:=Option.isSome_iff_exists.mp (j h);rw[f]at e;exact lE #[b,n,Z,f,∅,e]
 | false=>
  rw[uI (by rw[h];decide)]at e;calc lm ?_;rw[Rz];try unfold HC
  by_cases c:b=[45]
  .rw[uM c]at e;subst c;exact Ch (lE e)
  .rw[uI c]at e;calc C2 c (lm e)
def Ztg:kz P w K mg base (vt P w) 3 a.f_N1 a.d_N1 ["strip","place"] (sp_N1 K a):=by
 calc T.jW.u.okX RX (λI A b s H L Q E g h=>?_);let⟨p,C,B,l,m,n,k,rfl,j,u,x⟩:=h;refine⟨_,(uD (vd (i:=2) RX.nd (xV (pv 0) T.ae T.aF (Ih T) (hM g) T.hV.b .nil uT))
  (uP (uD (vM (za (wH (u3 (O0 T) (hM g) Z T.hO uT (uy (pv 1) (uy uR (uy (uL IT (vE (w4 (K:=K) Z) Z T.gQ wW (uy (pv 2) uA)) uR) uA)))))) (uK (yw yx Z (zy T.dZ T.i_MH T.gm (ZeP T) (hM g) T.b_MH uT Z T.m_MH (uy (pv 1) uA)))) vN)
  (uD wV
  (uK wV))))),?_⟩
 let#[#[v,f],z,_,c,F,_]:=id j;let o:=c.len;omega;calc#[p,v,_,Z,f,sN,p,C,B,l,m,n,Z,j,vv ?_];omega;calc#[_,_,Z,zX ∅,k,0,_,Z,?_];rw[R6 u];calc lE #[⋯,yi.of Z λe G r y D=>?_];let#[d,t,q]:=Bi D;calc#[e,_,d,Z,t,T.dZ,x e _ (kI r y) q]
def QE:kz P w K mg base vf 3 a.f_NE a.d_NE ["lesser","longer","reason"] (sp_NE K a):=by
 calc T.jq.u.ok RG (λBP A e s H vs Q E hr h=>?_);let⟨D,L,rs,m,rfl,I,l,hm,b,M,q⟩:=h;refine⟨_,(uD (vd (i:=3) RG.nd (vh (wq (K:=K) Z) (u3 (RK T) (hM hr) Z T.jL uT (uy (pv 0) (uy (pv 1) uA))) uR (λ_ _=>rfl)))
  (uK (uY (wc (uy (vZ (uy (pv 3) (uy (vZ (uy (pv 2) (uy (Gx (K:=K) Z CG PySem.F.slot_str_find PySem.F.type_str_find NK (pv 1) (uy (pv 3) uA)) uA))) uA))) uA))))),?_⟩
 omega;calc#[D,L,Z,I,l,M,λF r H1 pw j v n nr V=>?_];(try omega);obtain⟨w0,F',rfl⟩:∃w0 F',F=w0::F':=by
  have:L∈F:=(j L).mpr #[ve.refl L,λz=>by have:=z.len;have:=l.len;nofun];cases F with
  | nil=>cases this
  | cons x F'=>exact#[x,F',Z]
 let t:=(j w0).mp xy;let d:∀w,xE D L w->¬lS w w0:=λw W B=>by
  rcases vg.mp ((j w).mpr W) with rfl | h
  .exact F6 B
  .exact O7 B ((D2.mp pw).1 w h)
 let G:=ZmF l hm b t d;calc#[r,_,_,_,Z,Z,.mk V,ma,Z,L,w0,Z,Z,λk hk=>#[sz _ ⋯,ly.of λt1 H2 C n2 l2=>#[sz _ ⋯,ly.of λu H3 g n3 l3=>#[sz _ ⋯,kU.of λN X f n4 l4=>?_]]]];let S:k=((Ct L w0:Nat):Int):=by
  rcases hk with⟨_,no⟩|⟨i,rfl,o,mn⟩
  .exact Sa t.1 no
  .rw[Nr o mn]
 let c:=C.trans (g.trans f);calc q [.ref u] N X (v.trans c.l) (n.same c) ((((Nw.of n4).same g).same C).l v) l4 ?_;subst S;unfold E7;rw[G];refine#[Z,λi y p=>?_]
 match i,p with
 | 0,p=>
  cases p;calc#[_,Z,u,t1,Z,f _ _ l3,(g.trans f) _ _ l2]
def Nn:kz P w K mg base vf 3 a.f_NH a.d_NH ["lesser","longer","kinds","reason"] (sp_NH K a):=by
 calc T.jr.u.ok Fg (λBP A ak s H vs Q E hr h=>?_);let ad:=Cg hr;let⟨g,L,rs,m,rfl,hL,ex,hm,aa,m4,tk,q⟩:=h;refine⟨_,(uD (Bf (i:=4) Fg.nd Z (jl Z) DD)
  (uP (uD (xC xL Z (wY (K:=K) Z (u3 (RK T) (hM hr) Z T.jL uT (uy (pv 0) (uy (pv 1) uA)))) (vD (i:=5) Fg.nd Z (i0 Z))
  (uD (vd (i:=6) Fg.nd (vZ (uy (pv 3) (uy (pv 5) (uy (Gx (K:=K) Z CG PySem.F.slot_str_find PySem.F.type_str_find NK (pv 1) (uy (pv 5) uA)) uA)))))
  (uK (xC xL Z (Jj (pv 2)) (vD (i:=7) Fg.nd Z (i0 Z))
  (uK (xC xL Z (wY (K:=K) Z (wc (uy (uL uU (pv 5) (pv 7)) (uy (uL uU (pv 7) (pv 5)) uA)))) (vD (i:=8) Fg.nd Z (i0 Z))
  (uK (vM (wH (u3 (Zs3 T) (hM hr) Z T.jP uT (uy (pv 1) (uy (pv 8) uA)))) (uP (uK (CZ ad (pv 4) (pv 8) (pv 6) Z))) vN))))))))
  (uK (uY (yn (N:=["word","found"]) (ix:=[O,U 4]) Z (xQ Z) Z (wY (K:=K) Z (u3 (Ia T) (hM hr) Z T.gS uT (uy (yM (ZjQ Z) Z T.iG CS (uy (pv 4) uA)) uA))) (λ_ _ _ _=>(vD (i:=0) (show (["word","found"]:AJ).Nodup from by decide +kernel) Z (i0 Z) (jl Z))) (λ_ _ _ _=>yI) (λ_ _ _ _=>(vZ (uy (pv 0) (uy (yB ad (pv 1) (pv 0) (λ_ _=>rfl)) uA)))))))))),?_⟩
 omega;intro pd ae;cutsat;let s0:ky H (upd H pd (.dK [])):=vG ae;let h0:upd H pd (.dK []) pd=U (.dK []):=uN;generalize upd H pd (.dK [])=H0 at s0 h0;calc#[g,L,Z,hL,ex,tk.same s0,λF pF H1 pw mF sl ai nF lF=>?_];let d1:=sl _ _ h0 Z;let al:pd≠pF:=λz=>by rw[z,lF]at d1;cases d1
 let FL:⇑F<=6:=by
  let nd:F.Nodup:=Ht pw;let hs:∀w∈F,w∈yE L ⇑L:=λw B=>Ru.mpr ((OH ex).mp ((mF w).mp B)).1;have:=JK F _ nd hs;rw[IF]at this
  nofun
 refine#[pF,Z,#[_,.mk lF],kT.list (xs:=F.map tx) (M0 H1 pd g L m rs F) #[_,_,_,_,[],[],Z,λb o e _=>e,d1,#[Z,{},λw=>by simp,{}],{}] (λi σ H' _ hh=>by let#[_,_,_,_,_,_,_,k',_]:=hh;calc .mk (k' _ _ lF (uZ al))) ?_ ?_]
 .rintro i x σ H2 hx ⟨v5,v6,v7,v8,f,l,rfl,k2,d2,G,n2⟩;obtain⟨sh,W,rfl⟩:∃sh,F[i]?=U sh/\x=tx sh:=by
   rw[wI]at hx;cases e:F[i]? with
   | none=>rw[e]at hx;cases hx
   | some sh=>rw[e]at hx;exact#[sh,Z,(cx hx).symm]
  let X:=(mF sh).mp (wL W);let as:=X.1.len;let hi:i<⇑F:=(vT.mp W).1;omega;calc#[Z,L,sh,Z,Z,λr hr=>#[sz _ ⋯,ly.of λt1 H3 C n3 l3=>?_]];let er:r=((Ct L sh:Nat):Int):=by
   rcases hr with⟨_,no⟩|⟨i,rfl,aj,mn⟩
   .exact Sa X.1 no
   .rw[Nr aj mn]
  subst er;let d3:=C _ _ d2;refine#[m,Z,kT.text (Qi H1 pd g L m rs F t1 sh i) #[_,_,_,_,Z,λb o e u=>C _ _ (k2 b o e u),l3,d3,G.grow (λb us e=>C _ _ e) (λw _=>by simp),∅] ?_ ?_]
  .rintro j c σ H4 hc ⟨v7,v8,f,l,rfl,k4,t4,d4,i4,n4⟩;let ar:c∈m:=wL hc;let hj:j<⇑m:=(vT.mp hc).1;omega;calc#[sz _ ∅,sz _ ∅,sz _ ⋯,kU.of λpl H5 n n5 l5=>?_];let nl:pd≠pl:=vp d4 n5;refine#[pl,Z,#[_,.mk l5],kT.list (xs:=[tx (sh++[c]),tx (c::sh)]) (MI H1 pd g L m rs F t1 pl sh i j c) #[_,_,_,Z,λb o e u=>n _ _ (k4 b o e u),n _ _ t4,l5,n _ _ d4,i4.grow (λb us e=>n _ _ e) (λw _=>by simp),∅] (λk σ H' _ hh=>by let#[_,_,_,_,_,_,l',_]:=hh;calc .mk l') ?_ ?_]
   .rintro k y σ H6 M ⟨v8,f,l,rfl,k6,v,l6,I,i6,n6⟩;obtain⟨z,hz,rfl,ez⟩:∃z,[sh++[c],c::sh][k]?=U z/\y=tx z/\(z=sh++[c]\/z=c::sh):=by
     match k,M with
     | 0,M=>cases M;exact#[_,Z,Z,.inl Z]
     | 1,M=>cases M;exact#[_,Z,Z,.inr Z]
    let zl:⇑z=⇑sh+1:=by rcases ez with rfl | rfl<;>simp
    let ag:z≠[]:=λe=>by rw[e]at zl;simp at zl
    let hk:k<2:=(vT.mp hz).1;omega;calc#[L,z,Z,∅,∅,?_];let ac:∀w,w∈[sh++[c],c::sh].take (k+1)↔(w∈[sh++[c],c::sh].take k\/w=z):=λw=>by rw[GD hz,wM,vI]
    cases hb:Hn L z with
    | false=>
     let nm:¬ou L z:=λh=>by rw[(OW ag).mpr h]at hb;cases hb
     calc lm #[_,f,l,Z,k6,v,l6,I,i6.grow (λ_ _ e=>e) (λw mw=>?_),∅];rw[ac];constructor
     .rintro (h | h)
      .exact .inl h
      .exact .inr (.inl h)
     .rintro (h | h | h)
      .exact .inl h
      .exact .inr h
      .exact Sa (h▸mw) nm
    | true=>
     let mz:=(OW ag).mp hb;calc lE ?_;cutsat;let es:oM g z=sh:=Zqr ex X ez mz;let#[ab,i7]:=i6.put (x:=z) (b:=t1) mz (by rw[es];calc v);let np:pd≠pl:=λe=>by rw[e,l6]at I;cases I
     let nt:t1≠pd:=λe=>by rw[e,I]at v;cases v
     let lp:=B1 f (uJ z) (.ref t1);refine#[pd,_,Z,mY.k (k:=uJ z) I (xj (show _<9000 by nofun) (sz 9000 (uV _))),_,kQ f (uJ z) (.ref t1),ab,Z,λb o e u=>by rw[uF u];calc k6 b o e u,by rw[uF nt];calc v,by rw[uF (uZ np)];calc l6,uN,i7.grow (λb us e=>?_) (λw _=>?_),∅]
     .rw[uF (λe2=>by rw[e2,I]at e;cases e)];exact e
     .rw[ac];constructor
      .rintro ((h | h) | h)
       .exact .inl h
       .exact .inr (.inl h)
       .exact .inr (.inr h)
      .rintro (h | h | h)
       .exact .inl (.inl h)
       .exact .inl (.inr h)
       .exact .inr h
   .rintro σ H6 ⟨v8,f,l,rfl,k6,v,l6,I,i6,n6⟩;calc#[_,_,f,l,Z,k6,v,I,i6.grow (λ_ _ e=>e) (λw _=>?_),by simp at n6;nofun];rw[GD hc];simp only[wM,vI];constructor
    .rintro ((h | ⟨d,hd,h⟩) | h)
     .exact .inl h
     .exact .inr #[d,.inl hd,h]
     .exact .inr #[c,.inr Z,~~~h]
    .rintro (h | ⟨d,hd | rfl,h⟩)
     .exact .inl (.inl h)
     .exact .inl (.inr #[d,hd,h])
     .exact .inr (~~~h)
  .rintro σ H4 ⟨v7,v8,f,l,rfl,k4,t4,d4,i4,n4⟩;calc#[_,_,_,_,f,l,Z,k4,d4,i4.grow (λ_ _ e=>e) (λw _=>?_),∅];rw[zM,GD W];simp only[wM,vI];constructor
   .rintro (⟨s',hs,h⟩ | h)
    .exact#[s',.inl hs,h]
    .exact#[sh,.inr Z,h]
   .rintro⟨s',hs | rfl,h⟩
    .exact .inl #[s',hs,h]
    .exact .inr h
 .rintro σ H2 ⟨v5,v6,v7,v8,f,l,rfl,k2,d2,G,n2⟩;omega;rw[uO,zM]at G;let e3:f.map (λp=>kV p.1)=l.map tx:=by
   have:f.map (λp=>kV p.1)=(f.map (·.1)).map kV:=by rw[wE];rfl
   rw[this,G.keys,wE];rfl
  calc#[pd,f,Z,.inl d2,kU.of λp3 H3 C n3 l3=>?_];rw[e3]at l3;let V:∀w,w∈l↔w∈oj g L m:=λw=>by
   rw[G.mem,JJ,<-ZoG ex hm];constructor
   .rintro⟨ms,sh,h1,c,h2,h3⟩;exact#[sh,c,(mF sh).mp h1,h2,h3,ms]
   .rintro⟨sh,c,h1,h2,h3,ms⟩;exact#[ms,sh,(mF sh).mpr h1,c,h2,h3]
  let an:=HQ ai k2 d1 Z Z;refine#[p3,l,Z,l3,λw B=>?_,?_,an.same C,λab r H4 pm ap D ah nr lr=>?_]
  .have:=((G.mem w).mp B).1.init.len;rw[zA]at this
   nofun
  .have:=R9 fu e3;rw[uO,uO]at this;rw[uO]at n2
   nofun
  .let ew:ab=oj g L m:=Gq (HX pm ap G.nd) ((Bz aa).filter _) λw=>by rw[pm.mem_iff,V]
   subst ew;let d4:=D _ _ (C _ _ d2) Z;let ol:⇑(oj g L m)<=9000:=by
    have:=pm.length_eq;let e5:=R9 fu e3;rw[uO,uO]at e5;rw[uO]at n2
    nofun
   refine#[r,Z,#[_,.mk lr],kF.tupsM (xs:=(oj g L m).map tx) (λi vs=>∃w b,(oj g L m)[i]?=U w/\vs=[tx w,.ref b]/\kK f (uJ w)=U (.ref b)) (by rw[uO];nofun) (.mk lr) ?_ ?_]
   .intro i H5 Q5 hi n q5;rw[uO]at hi;rw[Cr hi];let B:(oj g L m)[i]?=U ((oj g L m).getD i []):=by rw[wj,vK hi];rfl
    let#[b,hv,_]:=G.val _ ((V _).mpr (wL B));omega;let dg:=mQ.k (k:=uJ ((oj g L m).getD i [])) (n _ _ d4);rw[hv]at dg;refine#[pd,_,Z,dg,sz _ ⋯,ly.of λv H6 s6 n6 l6=>q5 v _ H6 s6 l6 #[_,b,B,Z,hv]]
   .intro p5 ys H5 n n5 l5 yl am;let ao:Nw H p5:=((((Nw.of n5).l D).same C).chg (S:=[pd]) (H:=H1) (λb o e u _=>k2 b o e (~~~u)) (λb hb=>by obtain rfl:=vI.mp hb;calc#[_,d2,Z])).l (s0.l.trans sl);refine q ys p5 H5 (λb o e t=>?_) (ah.same n) ao l5 #[?_,λi y M=>?_]
    .let u:b≠pd:=vp e ae;exact n _ _ (D _ _ (C _ _ (k2 _ _ (sl _ _ (s0 _ _ e) t) u)) t)
    .unfold D6;rw[uO,yl,uO]
    .obtain⟨t,vs,rfl,ht,w,b,B,rfl,hv⟩:=am i y M;let#[b',af,aq]:=G.val w ((V w).mpr (wL B));obtain rfl:b=b':=by rw[hv]at af;injection af with e;injection e
     calc#[_,by unfold D6;rw[wI,B];rfl,t,b,Z,ht,n _ _ (D _ _ (C _ _ aq) Z)]
def Ku:kz P w K mg base vf 3 a.f_KV a.d_KV ["change"] (sp_KV K a):=by calc T.gT.u.ok Zsx (λW A d s H X Q E F h=>?_);let#[t,c,g,G,zs,M,rg,Z,k,z,m,D,o,f,e,q]:=h;calc#[_,(uK (uY (u3 (ZtW T) (hM F) Z T.hG uT (uy (yn (N:=["told"]) (ix:=[O]) Z (xQ Z) Z (wY (K:=K) Z (vh (xA (K:=K) Z) (pv 0) uR (λ_ _=>rfl))) (λ_ _ _ _=>(vD (i:=0) (show (["told"]:AJ).Nodup from by decide +kernel) Z (i0 Z) (jl Z))) (λ_ _ _ _=>yI) (λ_ _ _ _=>(vh (xA (K:=K) Z) (pv 0) uR (λ_ _=>rfl)))) (uy (yn (N:=["told"]) (ix:=[O]) Z (xQ Z) Z (wY (K:=K) Z (vh (xA (K:=K) Z) (pv 0) uR (λ_ _=>rfl))) (λ_ _ _ _=>(vD (i:=0) (show (["told"]:AJ).Nodup from by decide +kernel) Z (i0 Z) (jl Z))) (λ_ _ _ _=>yI) (λ_ _ _ _=>(vh (xA (K:=K) Z) (pv 0) uR (λ_ _=>rfl)))) uA))))),?_];let#[r,l,S]:=f.le;let#[B,u,g3]:=e.le;let n1:=f.1;let n2:=e.1;omega;calc#[t,_,_,_,Z,Z,.mk k,ma,c,Z,R0 z D ∅ λx H1 b L p=>#[t,_,_,_,Z,Z,.mk (b _ _ k),Z,g,Z,R0 (b _ _ m) (o.same b) ∅ λy I j V C=>?_]];calc#[x,y,_,_,Z,j _ _ p,C,r,l,B,u,λn v=>q n (b.trans (j.trans v))]
def ZtZ:kz P w K mg base vf 3 a.c7 a.fD ["self","strip"] (sp_KM K a):=by
 calc T.je.u.ok ZsD (λd A b s H c Q E e h=>?_);let⟨x,y,rfl,q⟩:=h;refine⟨_,(uD wV
  (uD wV
  (uD wV
  (uK wV)))),?_⟩
 calc q.elim
def ZtX:kz P w K mg base (vt P w) 4 a.f_KT a.d_KT ["thing","kinds"] (sp_KT K a):=by
 calc T.g8.u.okX Zsz (λt A b s H r Q E f h=>?_);let#[l,m,Z,g,q,x]:=h;calc#[_,(uK (vM (za (wH (u3 (ZtE T) (hM f) Z T.ir uT (uy (pv 0) (uy (pv 1) uA))))) (uK (yw yx Z (zy T.cz T.fY T.fS (Ms T) (hM f) T.b_M0 uT Z T.fX (uy (pv 0) uA)))) vN)),?_];omega;calc#[l,m,Z,g,λk c=>?_];cases hk:zf l m with
 | true=>exact lm (q hk k c)
 | false=>
  calc lE #[⋯,yi.of Z λe u n i o=>?_];let#[d,p,j]:=Bi o;calc#[e,_,d,Z,p,T.cz,x hk e _ (c.trans (kI n i)) j]
def Zt3:kz P w K mg base (vt P w) 4 a.cO a.eQ ["self","word"] (sp_KC K a):=by
 calc T.iE.u.okX ZsG (λj A b s H i Q E d h=>?_);let⟨p,n,k,l,m,o,u,rfl,c,q,g,x⟩:=h;refine⟨_,(uD (vV (u3 (JN T) (hM d) Z T.gY vB (uy (pv 1) (uy (vL (K:=K) Z (pv 0) Z) (uy (Bb Z T.c_K0) uA)))))
  (uD wV
  (uK wV))),?_⟩
 let#[#[e,f],_]:=id c;omega;calc#[p,_,e,_,_,Z,f,T.ae,T.ag,FQ,u,m,60,Z,∅,λz=>Sa z (by rw[g];decide),λ_=>x]
def ZtL:kz P w K mg base (vt P w) 4 a.f_LD a.d_LD ["strip","word"] (sp_LD K a):=by
 calc T.hW.u.okX Zsn (λo A b s H n Q E d h=>?_);let⟨p,g,e,l,m,i,u,rfl,c,q,k,x⟩:=h;refine⟨_,(uD (vV (u3 (JN T) (hM d) Z T.gY vB (uy (pv 1) (uy (xV (pv 0) T.ae T.aX (Pb T) (hM d) T.iH.b .nil uT) (uy (Bb Z T.c_K0) uA)))))
  (uK wV)),?_⟩
 let#[#[j,f],_]:=id c;omega;calc#[p,j,_,Z,f,sN,p,g,e,l,m,i,Z,c,u,m,60,Z,∅,λz=>Sa z (by rw[k];decide),λ_=>x]
def ZtD:kz P w K mg base (vt P w) 4 a.f_LV a.d_LV ["words","kinds"] (sp_LV K a):=by
 calc T.iz.u.okX LX (λBP A W s H vs Q E t h=>?_);let BS:=t.units;let D:=Cg t;let⟨b,ws,m,rfl,hb,ok,hn,q⟩:=h;refine⟨_,(uD (vV (u3 (GN T) (hM t) Z T.gR vB (uy (pv 1) uA)))
  (uP (uD (vM (PW.pt (Ca (za (wH (vE (yh (K:=K) Z) Z T.gL yf (uy (pv 0) (uy (EO (v:=.ty "list") Z T.iG CS Z) uA))))) (CT (wQ Gd (vE (w4 (K:=K) Z) Z T.gQ wW (uy (pv 0) uA)) (Bb Z T.c_K2) (wy _))))) (uK (yw yx Z (zy T.dC T.f7 T.fT (M5 T) (hM t) T.b_MX uT Z T.fZ (uy Qf uA)))) vN)
  (uP (uD (vd (i:=2) LX.nd DD)
  (uP (uK (xC Ho Z (wY (K:=K) Z (pv 0)) (vD (i:=3) LX.nd Z (i0 Z))
  (uD (vM (PW.pt (Ca (za (wH (u3 (GG T) (hM t) Z T.gZ uT (uy (pv 3) (uy (pv 1) (uy (Bb Z T.c_KI) uA)))))) (Ca (wQ (x6 (K:=K) Z BS) (pv 3) (uE (l:=[])) (wy _)) (CT (Em (OU D (pv 3) (pv 2))))))) (uK (yw yx Z (zy T.dC T.f7 T.fT (M5 T) (hM t) T.b_MX uT Z T.fZ (uy (pv 3) uA)))) vN)
  (uK (CZ D (pv 2) (pv 3) Ba Z))))))))))),?_⟩
 let sz:∀k:Nat,k<=1000->k<=sizeLine:=λk h=>u8 h (by rw[bA];decide);let m4:=ok.m4;obtain⟨us,r,ew,F,q⟩:∃us r,ws=us++r/\GL m us/\((r=[]/\∀L,ky H L->Q .non L)\/∃x rest,r=x::rest/\⇑x<=900/\(wv x m 41=J\/x=[]\/x∈us)/\XC a.c_MX (wa "word" [tx x]) E H):=by
  rcases q with⟨g,q⟩|⟨xs,rest,x,e,g,x9,X,y⟩
  .exact#[ws,[],by rw[zd],g,.inl #[Z,q]]
  .exact#[xs,x::rest,e,g,.inr #[x,rest,Z,x9,X,y]]
 let up:∀(x:uz) f,ky H f->XC a.c_MX (wa "word" [tx x]) E H->(1<=1000/\yi (yL K a.c_MX 1 (wa (fv "word"))) E0 a.c_MX [tx x] f λv f=>∃e C d,v=.ref e/\f e=U (xo e C d)/\Xm K C/\E (.ref C) (U e) (upd f e (xr e C d))):=λx f G z=>
  #[⋯,yi.of Z λe L I n2 x2=>by let#[d,hd,hx]:=Bi x2;calc#[e,_,d,Z,hd,T.dC,z e _ (G.trans (kI I n2)) hx]]
 omega;calc#[_,Z,.inl #[m,Z,∅,ok.k,λf G=>?_]];let V:=G _ _ hb;show CN _ _ _ _;cutsat;calc#[_,_,_,_,Y,Z,Z,.ty (.seqL (.mk V)),Ge,lm #[_,_,Z,.inl #[_,.mk V,Z],lT (λh=>Sa (R7 h) (by rw[uO];nofun)) (λ_=>vv ?_)]];omega;intro n u;let I:ky f (upd f n (.dK [])):=vG u;let l2:upd f n (.dK []) n=U (.dK []):=uN;generalize upd f n (.dK [])=L at I l2;cutsat;refine#[b,Z,#[_,.mk (I _ _ V)],kT.list (xs:=ws.map tx) (Mt f b n us m) #[_,[],Z,I,l2,wf _,uV _,λw=>by rw[CW];calc Iff.intro (λz=>Bool.noConfusion z) (λz=>nomatch z)] (λi σ H' _ hh=>by let#[_,_,_,s,_]:=hh;calc .mk (s _ _ V)) ?_ ?_]
 .rintro i x σ H3 hx ⟨v3,j,rfl,N,h3,iu,nk,M⟩;let#[c,o,Z]:=Ey hx;omega;by_cases BY:i<⇑us
  .rw[ew,zh BY]at o;let mw:=wL o;let aa:=F.w41 _ mw;let ni:c∉us.take i:=FI F.nd o;let un:=F.len;calc#[c,m,41,Z,∅,λS B=>?_];rw[O4 ∅ (F.wm _ mw)];calc lm (C2 (F.ne _ mw) ?_);let h4:=B _ _ h3;calc lm #[n,_,Z,mQ.k (k:=uJ c) h4,?_];let ev:(kK j (uJ c)).isSome=J:=Cw.mpr λz=>ni ((M c).mp z);rw[ev];refine lm #[n,_,Z,mY.k (k:=uJ c) h4 (xj (show _<1000 by nofun) (sz 1000 (uV _))),_,kQ j (uJ c) (.bl Y),Z,kI (N.trans B) u,uN,BY,?_,λw'=>?_]
   .have:=B1 j (uJ c) (.bl Y);nofun
   .rw[y6,DV o,wM,vI];by_cases e:w'=c
    .rw[uM (by rw[e])];exact Iff.intro (λ_=>.inr e) (λ_=>rfl)
    .rw[uI (λz=>e (xI z)),M];exact Iff.intro .inl (λz=>z.elim id (λz=>Sa z e))
  .let ei:i=⇑us:=by nofun
   subst ei;rw[ew,zu (uV _),Cz]at o;rcases q with⟨rfl,_⟩|⟨x,rest,rfl,x9,X,y⟩
   .cases o
   cases o;calc#[c,m,41,Z,∅,λS B=>?_];let p:=(G.trans N).trans B;cases hk:wv c m 41 with
   | false=>exact lE (up c S p y)
   | true=>
    calc lm ?_;by_cases e:c=[]
    .subst e;exact Ch (lE (up [] S p y))
    calc C2 e (lm #[n,_,Z,mQ.k (k:=uJ c) (B _ _ h3),?_]);let mx:c∈us:=(X.resolve_left (by rw[hk];decide)).resolve_left e;rw[show (kK j (uJ c)).isSome=Y from(M c).mpr (by rw[zM];calc mx)];exact lE (up c S p y)
 .rintro σ H3 ⟨v3,j,rfl,N,h3,iu,nk,M⟩;rw[uO,ew,vn]at iu;rcases q with⟨rfl,q⟩|⟨x,rest,rfl,_⟩
  .exact q H3 (G.trans N)
  .rw[vQ]at iu;nofun
def Zua:kz P w K mg base vf 4 a.cg a.eV ["self","text","kinds"] (sp_K3 K a):=by
 calc T.jw.u.ok ZsN (λB A d s H C Q E f h=>?_);let⟨p,i,l,m,rfl,n,c,q⟩:=h;refine⟨_,(uD (vV (u3 (GN T) (hM f) Z T.gR EM (uy (pv 2) uA)))
  (uD (vV (u3 (JN T) (hM f) Z T.gY EM (uy (pv 1) (uy (pv 2) (uy (Bb Z T.c_KD) uA)))))
  (uK (vV (Mq Z T.ge T.dE (Me T) (hM f) T.gU.u.kp T.gU.b .nil uT (uy (pv 0) (uy (pv 1) (uy (pv 2) uA)))))))),?_⟩
 omega;let x:=c.m4;let t:=c.l40;calc#[_,Z,.inl #[m,Z,∅,c.k,λD j=>?_]];(try omega);calc#[l,m,40,Z,∅,λ_ y g=>?_,λz=>Sa (Zq9 c) (by rw[z];decide)];(try omega);calc#[p,i,_,l,m,Z,.inl Z,j.trans g _ _ n,λv r k=>q v #[i,r] λb o e u=>k b o (j.trans g _ _ e) u]
def Ztk:kz P w K mg base vf 4 a.f_MO a.d_MO ["word","form"] (sp_MO K a):=by
 calc T.jo.u.ok ZrY (λo A g s H n Q E d h=>?_);let j:=d.units;let⟨e,f,rfl,i,q⟩:=h;refine⟨_,(uD (vM (wQ (x6 (K:=K) Z j) (pv 1) (uE (l:=s!"NAME")) (wy _)) (uK (uY (u3 (Ks T) (hM d) Z T.ii uT (uy (pv 0) uA)))) vN)
  (uD (vM (wQ (x6 (K:=K) Z j) (pv 1) (uE (l:=s!"NUMBER")) (wy _)) (uK (uY (u3 (Mx T) (hM d) Z T.hU uT (uy (pv 0) uA)))) vN)
  (uK (uY (u3 (ZtK T) (hM d) Z T.ia uT (uy (pv 0) uA)))))),?_⟩
 omega;by_cases h:f=vS
 .subst h;exact Ch (lE #[e,Z,i,λm k=>q m k])
 calc C2 h (lm ?_);let b:=q;unfold zZ at b;rw[uI h]at b;by_cases c:f=FB
 .rw[uM c]at b;subst c;exact Ch (lE #[e,Z,i,b])
 .rw[uI c]at b;calc C2 c (lm #[e,Z,i,b])
def Qj:kz P w K mg base vf 4 a.cq a.fG ["self","kinds"] (sp_LC K a):=by
 calc T.iJ.u.ok Zso (λBP A t s H vs Q E M h=>?_);let⟨p,g,m,rfl,S,f,q⟩:=h;refine⟨_,(uD (vV (u3 (GN T) (hM M) Z T.gR EM (uy (pv 1) uA)))
  (uP (uD (vV (Mq Z T.ge T.dE (Me T) (hM M) T.gU.u.kp T.gU.b .nil uT (uy (pv 0) (uy (uE (l:=[])) (uy (pv 1) uA)))))
  (uP (uD (Be (pv 0) (yM (JF Z) Z T.iG CS (uy (pv 1) uA)) Z)
  (uP (uK (Be (pv 0) (wc uA) Z)))))))),?_⟩
 omega;let m4:=f.m4;calc#[_,Z,.inl #[m,Z,∅,f.k,λV C=>?_]];show CN _ _ _ _;cutsat;calc#[p,g,_,[],m,Z,.inr (.inl Z),C _ _ S,λN F I=>?_];show CN _ _ _ _;cutsat;calc#[m,Z,∅,kU.of λla u x L X=>?_];let W:=x _ _ F;calc#[p,_,g,_,Z,W,T.ae,T.af,(by show 2<1000;decide),?_];cutsat;calc#[wf _,kU.of λda H4 v k l4=>?_];let d:p≠la:=vp F L;let G:=f.kinds;let f4:=v _ _ (uN (H:=u) (a:=p) (o:=.ins a.c_NM g (kW (fv "own_lacking") (.ref la) (kW "own_kinds" (tx m) (kW "own_text" (tx []) [])))));let j:upd u p (.ins a.c_NM g (kW (fv "own_lacking") (.ref la) (kW "own_kinds" (tx m) (kW "own_text" (tx []) [])))) la=U (.lst ((kZ m).map tx)):=by rw[uF (uZ d)];exact X
 let c:p≠da:=vp uN k;let B:la≠da:=vp j k;let r:u da=O:=by rw[uF (uZ c)]at k;exact k
 let back:∀b,b≠p->N b=O->H b=O:=λb D e=>by
  cases z:V b with
  | none=>exact C.free z
  | some o=>rw[I b o z D]at e;cases e
 refine#[p,_,g,_,Z,f4,T.ae,T.ai,(by show 3<1000;decide),q la da _ #[#[g,?_],?_,#[[],?_,Z,λi y h=>by simp at h],.nil,G,B] (back la (uZ d) L) (back da (uZ c) (x.free r)) λb o D n=>?_]
 .rw[uN];exact R9 (λz=>U (HO.ins a.c_NM g z)) Mr
 .rw[uF (uZ d),Zmu G.rise];exact v _ _ j
 .rw[uF (uZ c)];exact l4
 .rw[uF n];calc v _ _ (by rw[uF n];calc x _ _ (I _ _ (C _ _ D) n))
def MQ:kz P w K mg base (vt P w) 4 a.cS a.fg ["self","name"] (sp_KA K a):=by
 calc T.gW.u.okX ZsI (λG A j s H D Q E b h=>?_);let i:=Cg b;let⟨p,y,m,n,F,rfl,g,k,q,x⟩:=h;refine⟨_,(uD (vM (za (wH (u3 (Ks T) (hM b) Z T.ii uT (uy (pv 1) uA)))) (uK (yw yx Z (zy T.dD T.gc T.fV (Nk T) (hM b) T.b_MY uT Z T.f9 (uy (pv 1) uA)))) vN)
  (uP (uK (vM (Em (OU i (pv 1) (vL (K:=K) Z (pv 0) Z))) (uK (yw yx Z (zy T.eI T.i_LM T.gH (Zd0 T) (hM b) T.b_LM uT Z T.m_LM (uy (pv 1) uA)))) vN)))),?_⟩
 let#[C,f]:=g.fld;omega;calc#[n,Z,by have:=yj k;nofun,λu c=>?_];rw[k];calc lm ?_;show CN _ _ _ _;cutsat;calc#[p,_,C,_,_,Z,c _ _ f,T.am,T.ah,F8,y,_,Z,.inl #[_,uJ n,.inl (c _ _ g.dct),Z,Z],?_];rcases Zmg F n with⟨r,b,rfl⟩ | l
 .rw[QQ g.nd b];calc lE #[⋯,yi.of Z λe I v o z=>?_];let#[d,B,t]:=Bi z;exact#[e,_,d,Z,B,T.eI,x r b Z e _ (c.trans (kI v o)) t]
 .rw[LW l];calc lm (q l u c)
def GB:kz P w K mg base (vt P w) 4 a.cV a.fm ["self","name"] (sp_K7 K a):=by
 calc T.gV.u.okX ZsJ (λL A j s H M Q E i h=>?_);let b:=Cg i;let⟨p,t,m,n,F,rfl,k,q⟩:=h;refine⟨_,(uD (vM (PW.pt (Ca (za (wH (u3 (Ks T) (hM i) Z T.ii uT (uy (pv 1) uA)))) (CT (Em (Hs b (pv 1) (vL (K:=K) Z (pv 0) Z)))))) (uK (yw yx Z (zy T.dD T.gc T.fV (Nk T) (hM i) T.b_MY uT Z T.f9 (uy (pv 1) uA)))) vN)
  (uK (uY (yB b (vL (K:=K) Z (pv 0) Z) (pv 1) (λ_ _=>rfl))))),?_⟩
 let#[u,f]:=k.fld;let#[o,q]:=q;omega;calc#[n,Z,by have:=yj o;nofun,λv c=>?_];rw[o];let l:=c _ _ k.dct;calc lm #[p,_,u,_,_,Z,c _ _ f,T.am,T.ah,F8,t,_,Z,.inl #[_,uJ n,.inl l,Z,Z],?_];rcases q with⟨G,x⟩|⟨r,i,rfl,q⟩
 .rw[LW G];calc lE #[⋯,yi.of Z λe I z C D=>?_];let#[d,B,y]:=Bi D;exact#[e,_,d,Z,B,T.dD,x e _ (c.trans (kI z C)) y]
 .let g:=QQ k.nd i;rw[g];calc lm #[p,_,u,_,_,Z,c _ _ f,T.am,T.ah,F8,t,_,Z,.inl #[_,uJ r.n,.inl l,Z,g.symm],q v c]
def Rg:kz P w K mg base vf 4 a.dj a.fM ["self","longer"] (sp_LB K a):=by
 calc T.iK.u.ok Mm (λBP A C s H vs Q E hr h=>?_);let⟨p,la,da,y,L,m,rfl,hp,D,hL,u,hm,j,tk,q⟩:=h;refine⟨_,(uP (uD (vd (i:=2) Mm.nd (u3 (Nn T) (hM hr) Z T.jr uT (uy (vL (K:=K) Z (pv 0) Z) (uy (pv 1) (uy (vL (K:=K) Z (pv 0) Z) (uy (uE (l:=s!"first")) uA))))))
  (uP (uD (vd (i:=3) Mm.nd (u3 (QE T) (hM hr) Z T.jq uT (uy (vL (K:=K) Z (pv 0) Z) (uy (pv 1) (uy (uE (l:=s!"stands")) uA)))))
  (uP (uK (uY (wK (pv 0) T.ae T.cF (P0 T) (hM hr) T.ie.b .nil uT (uy (pv 1) (uy (pv 2) (uy (pv 3) uA))))))))))),?_⟩
 let#[v,f]:=hp;let x:=j.m4;omega;cutsat;calc#[p,_,v,_,_,Z,f,T.ae,T.ad,B8,p,_,v,_,_,Z,f,T.ae,T.ag,FQ,?_];calc#[y,L,_,m,Z,∅,u,hm,j.rise,x,tk,λys c H1 k ac n1 l1 r1=>?_];cutsat;let F:=k _ _ f Z;calc#[p,_,v,_,_,Z,F,T.ae,T.ad,B8,?_];calc#[y,L,_,m,Z,∅,u,hm,j.rise,ac,λzs g H2 d G W X r2=>?_];cutsat;let M:=d _ _ F Z;let r:=d _ _ l1 Z;let aa:=d _ _ (k _ _ D Z) Z;let n:=k.trans d;let N:c≠g:=W.ne l1 Z;refine#[p,v,_,Z,M,sN,p,la,da,c,g,y,L,m,vF y m,vF L m,ys,zs,_,_,Z,#[v,M],aa,r,r1.l d,X,r2,Bz j.rise,Bz j.rise,?_,?_,?_,?_,?_,?_,?_,?_,G,?_]
 .rw[F4];exact Ht ((Bz j.rise).filter _)
 .intro w;rw[F4,JJ]
 .intro w;rw[Ha,Ki]
 .exact u8 (Ei j.rise) (u8 (CJ x (show _<=4 from by have:=u.len;nofun)) ⋯)
 .rw[<-uO (f:=(·.1)),F4];exact u8 (yA _ _) (u8 (Ei j.rise) (u8 (CJ x (show _<=4 from by nofun)) ⋯))
 .rw[<-uO (f:=(·.1)),Ha];exact u8 (yA _ _) (u8 (Ei j.rise) (u8 (CJ x (show _<=4 from by have:=u.len;nofun)) ⋯))
 .intro w S;have:=HI (by have:=u.len;nofun) S;nofun
 .intro w S;have:=HI ∅ S;nofun
 .intro t B H3 e f3 o e3 t3 ab;let np:∀us,H2 p≠U (.tup us):=λus z=>by rw[M]at z;cases z
  let I:p≠c:=n1.ne f Z;let ad:p≠g:=W.ne F Z;calc q t c g B H3 (n.chg.trans e) f3 e3 #[t3,#[ys,e _ _ r (~~~uZ I) Z,(r1.l d).chg e (λb V us=>by rw[vI.mp V];calc np us)],#[zs,e _ _ X (~~~uZ ad) Z,r2.chg e (λb V us=>by rw[vI.mp V];calc np us)],n1,W.l k,o.l n,N,o.ne r Z,o.ne X Z] ab
def Mw:kz P w K mg base vf 4 a.dm a.fN ["self","lesser"] (sp_KP K a):=by
 calc T.ic.u.ok KA (λBP A D s H vs Q E hr h=>?_);let⟨p,la,da,B,L,m,rfl,hp,F,hL,y,hm,j,tk,q⟩:=h;refine⟨_,(uD (vd (i:=2) KA.nd (u3 (QE T) (hM hr) Z T.jq uT (uy (pv 1) (uy (vL (K:=K) Z (pv 0) Z) (uy (uE (l:=s!"stood")) uA)))))
  (uD (vd (i:=3) KA.nd (u3 (Nn T) (hM hr) Z T.jr uT (uy (pv 1) (uy (vL (K:=K) Z (pv 0) Z) (uy (vL (K:=K) Z (pv 0) Z) (uy (uE (l:=s!"last")) uA))))))
  (uK (uY (wK (pv 0) T.ae T.cF (P0 T) (hM hr) T.ie.b .nil uT (uy (pv 1) (uy (pv 2) (uy (pv 3) uA)))))))),?_⟩
 let#[u,f]:=hp;let v:=j.m4;omega;calc#[p,_,u,_,_,Z,f,T.ae,T.ad,B8,?_];calc#[B,L,_,m,Z,∅,y,hm,j.rise,tk,λys c H1 k ac n1 l1 r1=>?_];(try omega);let x:=k _ _ f Z;calc#[p,_,u,_,_,Z,x,T.ae,T.ad,B8,p,_,u,_,_,Z,x,T.ae,T.ag,FQ,?_];calc#[B,L,_,m,Z,∅,y,hm,j.rise,v,ac,λzs g H2 d G W X r2=>?_];(try omega);let M:=d _ _ x Z;let r:=d _ _ l1 Z;let aa:=d _ _ (k _ _ F Z) Z;let n:=k.trans d;let N:c≠g:=W.ne l1 Z;refine#[p,u,_,Z,M,sN,p,la,da,c,g,L,B,m,vF L m,vF B m,ys,zs,_,_,Z,#[u,M],aa,r,r1.l d,X,r2,Bz j.rise,Bz j.rise,?_,?_,?_,?_,?_,?_,?_,?_,G,?_]
 .rw[Ha];exact Ht ((Bz j.rise).filter _)
 .intro w;rw[Ha,Ki]
 .intro w;rw[F4,JJ]
 .exact u8 (Ei j.rise) (u8 (CJ v (show _<=4 from by nofun)) ⋯)
 .rw[<-uO (f:=(·.1)),Ha];exact u8 (yA _ _) (u8 (Ei j.rise) (u8 (CJ v (show _<=4 from by have:=y.len;nofun)) ⋯))
 .rw[<-uO (f:=(·.1)),F4];exact u8 (yA _ _) (u8 (Ei j.rise) (u8 (CJ v (show _<=4 from by nofun)) ⋯))
 .intro w S;have:=HI ∅ S;nofun
 .intro w S;have:=HI (by have:=y.len;nofun) S;nofun
 .intro t C H3 e f3 o e3 t3 ab;let np:∀us,H2 p≠U (.tup us):=λus z=>by rw[M]at z;cases z
  let I:p≠c:=n1.ne f Z;let ad:p≠g:=W.ne x Z;calc q t c g C H3 (n.chg.trans e) f3 e3 #[t3,#[ys,e _ _ r (~~~uZ I) Z,(r1.l d).chg e (λb V us=>by rw[vI.mp V];calc np us)],#[zs,e _ _ X (~~~uZ ad) Z,r2.chg e (λb V us=>by rw[vI.mp V];calc np us)],n1,W.l k,o.l n,N,o.ne r Z,o.ne X Z] ab
def Zt0:kz P w K mg base vf 4 a.ck a.fE ["self","text","kinds"] (sp_KL K a):=by
 calc T.jf.u.ok ZsE (λd A b s H c Q E e h=>?_);let⟨x,y,z,rfl,q⟩:=h;refine⟨_,(uD wV
  (uD wV
  (uD wV
  (uK wV)))),?_⟩
 calc q.elim
def LU:kz P w K mg base (vt P w) 4 a.cn a.fF ["self","text","kinds"] (sp_LN K a):=by
 calc T.iB.u.okX Zsg (λX A n s H vs Q E i h=>?_);let S:=i.units;let⟨p,L,l,m,rfl,B,g,M,q,x⟩:=h;refine⟨_,(uD (vV (u3 (GN T) (hM i) Z T.gR vB (uy (pv 2) uA)))
  (uP (uD (vM (PW.pt (Ca (za (wH (u3 (GG T) (hM i) Z T.gZ uT (uy (pv 1) (uy (pv 2) (uy (Bb Z T.c_KK) uA)))))) (CT (wQ (x6 (K:=K) Z S) (pv 1) (uE (l:=[])) (wy _))))) (uK (yw yx Z (zy T.eC T.i_MZ T.gq (Zfj T) (hM i) T.b_MZ uT Z T.m_MZ (uy (pv 1) uA)))) vN)
  (uP (uK (vV (Mq Z T.ge T.dE (Me T) (hM i) T.gU.u.kp T.gU.b .nil uT (uy (pv 0) (uy (pv 1) (uy (pv 2) uA)))))))))),?_⟩
 let W:=g.m4;omega;calc#[_,Z,.inl #[m,Z,∅,g.k,λj t=>?_]];cutsat;let u:∀c,ky j c->x5 m l=Y->(1<=1000/\yi (yL K a.c_MZ 1 (wa (fv "thing"))) E0 a.c_MZ [tx l] c λv j=>∃e C d,v=.ref e/\j e=U (xo e C d)/\Xm K C/\E (.ref C) (U e) (upd j e (xr e C d))):=λc f z=>
  #[⋯,yi.of Z λe y F N V=>by let#[d,I,D]:=Bi V;calc#[e,_,d,Z,I,T.eC,x z e _ (t.trans (f.trans (kI F N))) D]]
 unfold x5 at u q;calc#[l,m,20,Z,M,λc f=>?_];cases hk:wv l m 20 with
 | false=>exact lE (u c f (by rw[hk];rfl))
 | true=>
  calc lm ?_;unfold HC;by_cases e:l=[]
  .subst e;exact Ch (lE (u c f (by rw[hk];rfl)))
  calc C2 e (lm (vv ?_));omega;calc#[p,L,_,l,m,Z,.inr (.inr Z),(t.trans f) _ _ B,λy r k=>q (by rw[hk,R6 e];rfl) y λb o e G=>k b o ((t.trans f) _ _ e) G]
def Zt7:kz P w K mg base (vt P w) 4 a.cj a.eY ["self","kinds"] (sp_K6 K a):=by
 calc T.jx.u.okX ZsK (λB A i s H C Q E f h=>?_);let⟨p,c,u,rfl,v,q⟩:=h;refine⟨_,(uD (vV (u3 (GN T) (hM f) Z T.gR vB (uy (pv 1) uA)))
  (uP (uD (Be (pv 0) (pv 1) Z)
  (uP (uK (Be (pv 0) DD Z)))))),?_⟩
 omega;rcases q with⟨m,e,d,q⟩|⟨y,x⟩
 .rw[e];let z:=d.m4;calc#[_,Z,.inl #[m,Z,∅,d.k,λj t=>?_]];show CN _ _ _ _;cutsat;calc#[p,_,c,_,Z,t _ _ v,T.am,T.aU,(by show 0<1000;decide),vv ?_];let k:upd j p (.ins a.c_NK c (kW (fv "own_kinds") (tx m) [])) p=U (.ins a.c_NK c (kW "own_kinds" (tx m) [])):=uN;let g:∀b o,H b=U o->b≠p->upd j p (.ins a.c_NK c (kW (fv "own_kinds") (tx m) [])) b=U o:=λb o e n=>by rw[uF n];exact t _ _ e
  generalize upd j p (.ins a.c_NK c (kW (fv "own_kinds") (tx m) []))=H2 at k g;omega;intro dA nA;let l:p≠dA:=vp k nA;refine#[p,_,c,_,Z,by rw[uF l];calc k,T.am,T.ah,(by show 1<1000;decide),q dA _ #[#[c,uN],by rw[uF (uZ l),uN];rfl,λr f=>(by cases f),λr f=>(by cases f),.nil,d] ?_ λb o e n=>?_]
  .cases e:H dA with
   | none=>rfl
   | some o=>rw[g _ _ e (uZ l)]at nA;cases nA
  .rw[uF n,uF (vp (g _ _ e n) nA)];exact g _ _ e n
 .exact#[_,Z,.inr #[y,x]]
def Zqw:kz P w K mg base (vt P w) 5 a.f_ask a.d_ask ["band","word"] (sp_ask K a):=by
 calc T.j8.u.okX Qs (λr A b s H q Q E d h=>?_);let⟨p,g,e,l,m,j,u,rfl,c,o,n,x⟩:=h;refine⟨_,(uD (vd (i:=2) Qs.nd (wK (pv 0) T.ae T.aV (Zt3 T) (hM d) T.iE.b .nil vB (uy (pv 1) uA)))
  (uD wV
  (uD wV
  (uK wV)))),?_⟩
 let#[#[k,f],_]:=id c;omega;calc#[p,k,_,Z,f,sN,p,g,e,l,m,j,u,Z,c,o,n,x]
def ZtF:kz P w K mg base (vt P w) 5 a.f_LR a.d_LR ["strip","word"] (sp_LR K a):=by calc T.iy.u.okX Zsc (λn A b s H k Q E d h=>?_);let#[p,f,e,l,m,g,u,Z,c,j,i,x]:=h;calc#[_,(uK (uY (vE (w4 (K:=K) Z) Z T.gQ wW (uy (u3 (ZtL T) (hM d) Z T.hW vB (uy (pv 0) (uy (pv 1) uA))) uA)))),?_];omega;calc#[p,f,e,l,m,g,u,Z,c,j,i,x]
def Ztj:kz P w K mg base vf 5 a.f_MP a.d_MP ["words"] (sp_MP K a):=by
 calc T.jp.u.ok JU (λBP A p s H vs Q E C h=>?_);let BS:=C.units;let⟨b,I,rfl,B,y,q⟩:=h;refine⟨_,(uD (vM (Em (ZkK (K:=K) (w:=w) Z Z (vh (wq (K:=K) Z) (pv 0) uR (λ_ _=>rfl)) (yr (v:=.ref a.v_FORMS) Z T.v_FORMS Z))) (uK (uY Ba)) vN)
  (uP (uD (Bf (i:=1) JU.nd Z (jl Z) (xJ (E5 (K:=K) Z) (pv 0) (xp uR) xX))
  (uP (uD (Bf (i:=2) JU.nd Z (jl Z) (u3 (ZtU T) (hM C) Z T.iP uT (uy (vh (wq (K:=K) Z) (pv 0) uR (λ_ _=>rfl)) (uy (vE (w4 (K:=K) Z) Z T.gQ wW (uy (pv 1) uA)) uA))))
  (uP (uK (uY (B7 (yG (x6 (K:=K) Z BS) (vE (w4 (K:=K) Z) Z T.gQ wW (uy (pv 1) uA)) (vE (w4 (K:=K) Z) Z T.gQ wW (uy (pv 2) uA)) (wy _)) (B3 (vE (Qo Z) Z T.j9 Pd (uy (yn (N:=["at","forms","given"]) (ix:=[O,U 2,U 1]) Z (xQ Z) Z (EH Z T.hJ (uy (vE (w4 (K:=K) Z) Z T.gQ wW (uy (pv 2) uA)) uA)) (λ_ _ _ _=>(vD (i:=0) (show (["at","forms","given"]:AJ).Nodup from by decide +kernel) Z (i0 Z) (jl Z))) (λ_ _ _ _=>yI) (λ_ _ _ _=>(u3 (Ztk T) (hM C) Z T.jo uT (uy (vh (wq (K:=K) Z) (pv 2) (pv 0) (λ_ _=>rfl)) (uy (vh (wq (K:=K) Z) (pv 1) (pv 0) (λ_ _=>rfl)) uA))))) uA)))))))))))),?_⟩
 let#[u,sd,fa,S]:=NA T.sd_FORMS;obtain⟨c,us,rfl⟩:∃c us,I=c::us:=by cases I with | nil=>exact Sa rfl y.ne | cons x r=>exact⟨x,r,rfl⟩
 let X:=y.n50;rw[vQ]at X;omega;calc#[b,_,_,_,Z,Z,.mk B,ma,_,u,uJ c,Z,sd,Z,?_];cases fo:FT.lookup c with
 | none=>
  rw[S fo];calc lE ?_;let e:=q H (ky.refl _);rw[Zmr fo]at e;exact e
 | some z=>
 let#[b0,M,_]:=fa fo;let V:∀H2,ky H H2->Q (.bl (zR us (yc z ⇑us))) H2:=λH2 d=>by let e:=q H2 d;rw[FP fo]at e;exact e
 clear q;rw[M];calc lm (vv ?_);omega;calc#[_,Z,b,_,Z,.mk B,λg ng=>?_];let m:=vG (o:=.lst (nM ((c::us).map tx) (U 1) O)) ng;let j:upd H g (.lst (nM ((c::us).map tx) (U 1) O)) g=U (.lst (us.map tx)):=by rw[uN];exact R9 (λx=>U (HO.lst x)) (DP ((c::us).map tx) 1)
 generalize upd H g (.lst (nM ((c::us).map tx) (U 1) O))=H1 at m j;cutsat;calc#[b,_,_,_,Z,Z,.mk (m _ _ B),ma,_,_,Z,.inl #[_,.mk j,Z],c,⇑us,z,by rw[uO],fo,∅,λr H2 d n2 n=>?_];cutsat;calc#[_,_,Z,.inl #[_,.mk (d _ _ j),Z],_,_,Z,.inl #[_,.mk n,Z],?_];rw[uO,uO];let f:=V;unfold zR at f;generalize yc z ⇑us=gs at n f;by_cases L:⇑us=⇑gs
 case neg=>
  calc Rp ∅ (lm ?_);let e:=f H2 (m.trans d);rw[uI L]at e;exact e
 rw[uM L]at f;calc QJ ∅ ?_;calc lE #[_,_,Z,.inl #[_,.mk n,Z],_,Z,∅,by rw[uO];nofun,?_];rw[uO,Gy];refine kF.rangeA (λi=>.bl (zZ (us.getD i []) (gs.getD i []))) ∅ ?_ ?_
 .intro i D Q3 hi k t;omega;rw[Int.zero_add];let G:=vK (l:=us) (i:=i) ∅;let F:=vK (l:=gs) (i:=i) hi;calc#[g,_,_,_,Z,Z,.mk ((d.trans k) _ _ j),(R3 (by rw[wI,G];rfl)),r,_,_,_,Z,Z,.mk (k _ _ n),(R3 (by rw[wI,F];rfl)),us[i],gs[i],Z,by have:=y.w100 us[i] {};nofun,λH4 W=>?_];let e:=t H4 W;rw[wj,wj,G,F]at e;exact e
 .intro r3 D k n3 l3;calc#[r3,(cc ⇑gs).map λi=>zZ (us.getD i []) (gs.getD i []),Z,by rw[l3,wE];rfl,?_];rw[List.all_map];calc f D (m.trans (d.trans k))
def Zt6:kz P w K mg base (vt P w) 5 a.cX a.fz ["self","name"] (sp_K8 K a):=by
 calc T.jy.u.okX Oc (λl A b s H k Q E d h=>?_);let⟨p,g,m,n,F,rfl,c,q⟩:=h;refine⟨_,(uD (vd (i:=2) Oc.nd (wK (pv 0) T.am T.b8 (GB T) (hM d) T.gV.b .nil vB (uy (pv 1) uA)))
  (uP (uD (vV (Zme (vL (K:=K) Z (pv 0) Z) (pv 1) #[Z,Z,Z,Z]))
  (uP (uK (uY (pv 2))))))),?_⟩
 let#[j,f]:=c.fld;omega;calc#[p,j,_,Z,f,wZ,p,g,m,n,F,Z,c,q.imp id λr d e q=>q.elim]
def ZtG:kz P w K mg base (vt P w) 5 a.de a.fJ ["self","letter"] (sp_LQ K a):=by
 calc T.jK.u.okX Zsd (λBP A o s H vs Q E N h=>?_);let⟨p,la,S,l,m,ds,u,rfl,j,tk,V,q⟩:=h;refine⟨_,(uP (uD (vV (u3 (ZtX T) (hM N) Z T.g8 vB (uy (pv 1) (uy (vL (K:=K) Z (pv 0) Z) uA))))
  (uD (vM (wQ Zs0 (vE (w4 (K:=K) Z) Z T.gQ wW (uy (vL (K:=K) Z (pv 0) Z) uA)) (Bb Z T.c_KD) (wy _)) (uP (uK (yw yx Z (F5 T.x_NZ T.i_NZ Z T.m_NZ (uy (uE (l:=s!"the strip has forty letters")) uA))))) vN)
  (uP (uD (vV (yu zL Bg Br zY (vL (K:=K) Z (pv 0) Z) (uy (vZ (uy (uE (l:=s!"put")) (uy (pv 1) uA))) uA)))
  (uK (uY (wK (pv 0) T.ae T.cD (Rg T) (hM N) T.iK.b .nil uT (uy (uL uU (vL (K:=K) Z (pv 0) Z) (pv 1)) uA))))))))),?_⟩
 let sz:∀k:Nat,k<=30000->k<=sizeLine:=λk h=>u8 h (by rw[bA];decide);let#[#[b,f],hk,#[ts,B,I],v,F,W]:=id j;let m4:=F.m4;let tl:=I.1;omega;cutsat;calc#[p,_,b,_,_,Z,f,T.ae,T.ag,FQ,?_];rcases q with⟨hb,x⟩|⟨i,L,rfl,rfl,rfl,q⟩
 .exact#[u,m,Z,V,λz=>Sa z (by rw[hb];decide),λ_=>x]
 calc#[[i],m,Z,V,λ_ H1 n=>?_,λz=>Sa (Zo6 L) (by rw[z];decide)];(try omega);calc#[p,_,b,_,_,Z,n _ _ f,T.ae,T.ad,B8,_,_,Z,zX (wf _),?_];calc lm ?_;cutsat;calc#[p,_,b,_,_,Z,n _ _ f,T.ae,T.ai,Ir,.inl #[Z,_,.mk (n _ _ B)],sz _ ⋯,ly.of λtd H2 s2 n2 l2=>?_];let e:=n.trans s2;calc#[S,_,_,Z,Z,e _ _ B,by rw[tl];calc sz _ ⋯,?_];let#[H3,eH,c3,X,e3,y,k3,D]:=ZmL (d:=(Y,i)) j f B I e l2 tk;rw[eH];let M:=v.put L ⋯;calc#[p,b,_,Z,y,sN,p,_,b,_,_,Z,y,T.ae,T.ad,B8,mK #[sz _ (by show 0+1<=30000;decide),?_]];calc#[p,la,S,[],[i],m,Z,#[b,y],k3,(by show 1<=3;decide),.inl #[i,Z],M.mem,F,D,λt c g C H4 ch f4 l4 an r=>?_];let#[q1,G,q3]:=PM j c3 X e3 ch f4 l4 an M;calc q t c g C _ _ H4 q1 G q3 (Jc (FH G)) (Jc (FH j)) r
def ZtM:kz P w K mg base (vt P w) 5 a.df a.fK ["self"] (sp_LA K a):=by
 calc T.jB.u.okX Zsp (λu A b s H v Q E c h=>?_);let n:=c.units;let⟨p,D,C,l,m,r,rfl,i,k,x⟩:=h;refine⟨_,(uP (uD (vM (wQ (x6 (K:=K) Z n) (vL (K:=K) Z (pv 0) Z) (uE (l:=[])) (wy _)) (uK (yw yx Z (F5 T.x_NX T.i_NX Z T.m_NX (uy (uE (l:=s!"the strip has no letter")) uA)))) vN)
  (uP (uD (vV (yu zL Bg Br zY (vL (K:=K) Z (pv 0) Z) (uy (vZ (uy (uE (l:=s!"drop")) (uy (vh EU (vL (K:=K) Z (pv 0) Z) uR (λ_ _=>rfl)) uA))) uA)))
  (uK (uY (wK (pv 0) T.ae T.cE (Mw T) (hM c) T.ic.b .nil uT (uy (xJ zr (vL (K:=K) Z (pv 0) Z) (xp uR) xX) uA)))))))),?_⟩
 let#[#[j,f],y,#[z,B,t],g,q,d]:=id i;subst k;omega;cutsat;calc#[p,_,j,_,_,Z,f,T.ae,T.ad,B8,.inl #[Z,?_]];rw[uI vC,CA,R5 Z];calc lE #[⋯,λe o=>#[e,_,O,Z,uN,T.x_NX,x e _ (Gc o) (.bare uN)]]
def Zt5:kz P w K mg base (vt P w) 5 a.dh a.fL ["self"] (sp_K9 K a):=by
 calc T.jC.u.okX Ox (λBP A C s H vs Q E M h=>?_);let BS:=M.units;let⟨p,la,da,l,m,ds,rfl,G,tk,q⟩:=h;refine⟨_,(uP (uD (vM (wQ (x6 (K:=K) Z BS) (vE (w4 (K:=K) Z) Z T.gQ wW (uy (vL (K:=K) Z (pv 0) Z) uA)) uR (wy _)) (uK (yw yx Z (F5 T.x_MV T.i_MV Z T.m_MV (uy (uE (l:=s!"there is no deed that stands")) uA)))) vN)
  (uP (uD (vd (i:=1) Ox.nd (Zqq zL PySem.F.slot_list_pop PySem.F.type_list_pop ZqT (vL (K:=K) Z (pv 0) Z)))
  (uP (uD (vM (wQ (x6 (K:=K) Z BS) (vh (xA (K:=K) Z) (pv 1) uR (λ_ _=>rfl)) (uE (l:=s!"put")) (wy _)) (uK (uY (wK (pv 0) T.ae T.cE (Mw T) (hM M) T.ic.b .nil uT (uy (xJ zr (vL (K:=K) Z (pv 0) Z) xX (xp (Fz FE uR))) uA)))) vN)
  (uK (uY (wK (pv 0) T.ae T.cD (Rg T) (hM M) T.iK.b .nil uT (uy (uL uU (vh (xA (K:=K) Z) (pv 1) uR (λ_ _=>rfl)) (vL (K:=K) Z (pv 0) Z)) uA)))))))))),?_⟩
 let sz:∀k:Nat,k<=30000->k<=sizeLine:=λk h=>u8 h (by rw[bA];decide);let#[#[r,f],hk,#[ts,j,d2],F,S,y]:=id G;let m4:=S.m4;let tl:=d2.1;let B:p≠da:=λz=>by rw[z,j]at f;cases f
 omega;cutsat;calc#[p,_,r,_,_,Z,f,T.ae,T.ai,Ir,_,_,Z,.inl #[_,.mk j,Z],.inl #[Z,?_]];rw[uI vC,tl];rcases q with⟨rfl,x⟩|⟨n,rfl,rfl,q⟩
 .rw[show R (V.int ((⇑([]:List (Bool×Nat)):Nat):Int)=V.int 0)=Y from R5 Z];exact lE #[⋯,λe he=>#[e,_,O,Z,uN,T.x_MV,x e _ (Gc he) (.bare uN)]]
 rw[show R (V.int ((⇑[(Y,n)]:Nat):Int)=V.int 0)=J from R6 λe=>Sa (V.int.inj e) (by show ¬((1:Nat):Int)=0;decide)];calc lm ?_;cutsat;let#[d,v,Z,N,h2]:=lW.init (ds:=[]) d2;let o:we [da] H (upd H da (.lst d)):=we.upd {};let W:upd H da (.lst d) da=U (.lst d):=uN;let e3:=h2.chg o (λb hb us z=>by rw[vI.mp hb,j]at z;cases z);let t3:upd H da (.lst d) v=U (.tup (Gs (Y,n))):=by rw[uF (λz=>by rw[z,j]at N;cases N)];exact N
 let u:=tk.upd (o':=.lst d) j Z Z;calc#[p,_,r,_,_,Z,f,T.ae,T.ai,Ir,.inl #[Z,_,.mk j],da,_,_,Z,Z,j,show (d++[V.ref v])[⇑(d++[V.ref v])-1]?=U (V.ref v) from by simp,?_];rw[Ga];generalize upd H da (.lst d)=H3 at o W e3 t3 u;cutsat;let I:=o _ _ f (~~~B) Z;let k3:=o _ _ hk (~~~y) Z;calc#[v,_,_,_,Z,Z,.mk t3,ma,Ch (x:=OE) (lE ?_)];calc#[p,r,_,Z,I,sN,p,_,r,_,_,Z,I,T.ae,T.ad,B8,_,Z,[n],Z,sz _ (by show 1<=30000;decide),?_];calc#[p,la,da,[],[n],m,Z,#[r,I],k3,(by show 1<=3;decide),.inl #[n,Z],F.mem,S,u,λt c g L H4 ch f4 l4 an D=>?_];let#[q1,X,q3]:=PM G o W e3 ch f4 l4 an .nil;calc q t c g L _ _ H4 q1 X q3 (Jc (FH X)) (Jc (FH G)) D
def Zth:kz P w K mg base (vt P w) 6 a.f_MT a.d_MT ["words","kinds","text"] (sp_MT K a):=by
 calc T.jn.u.okX NQ (λBP A B s H vs Q E t h=>?_);let⟨b,ws,m,x,rfl,hb,lk,u,q,qx⟩:=h;refine⟨_,(uK (xC Ho Z (wY (K:=K) Z (xV (C6 T.dF (Zua T) (hM t) Z T.m_NJ T.jw.b .nil uT (uy (pv 2) (uy (pv 1) uA))) T.bX T.a7 (Zt1 T) (hM t) T.jd.b .nil uT)) (vD (i:=3) NQ.nd Z (i0 Z))
  (uK (vM (wH (u3 (Qe T) (hM t) Z T.jj uT (uy (pv 0) (uy (pv 3) uA)))) (uK (yw yx Z (zy T.eD T.i_NL T.gB (Zf1 T) (hM t) T.b_NL uT Z T.m_NL (uy (pv 2) (uy (pv 3) uA))))) vN)))),?_⟩
 let up:∀(x y:uz) H1,ky H H1->X2 a.c_NL "one" "other" E H x y->(2<=1000/\yi (yL K a.c_NL 2 (yV (fv "one") (fv "other"))) E0 a.c_NL [tx x,tx y] H1 λv H1=>∃e C d,v=.ref e/\H1 e=U (xo e C d)/\Xm K C/\E (.ref C) (U e) (upd H1 e (xr e C d))):=λx y H1 n z=>
  #[⋯,yi.of Z λe S p n2 x2=>by let#[d,hd,F]:=Bi x2;calc#[e,_,d,Z,hd,T.eD,z e _ (n.trans (kI p n2)) F]]
 let ln:=lk.len;omega;intro N dr f G aa;calc#[N,dr,x,m,Z,uN,u,λH1 r1 k1=>#[Z,?_]];let n:ky H H1:=λb o e=>k1 b o (by rw[uF (vp e f),uF (vp e G)];calc e) (vp e f);let#[d1,I]:=id r1;calc#[N,d1,_,Z,I,GJ nofun nofun,N,x,m,Z,r1,u,λqw S p X=>?_];refine#[qw,Z,#[_,.mk X],kT.list (xs:=(vF x m).map tx) (λi σ H'=>∃L,σ=[U (.ref b),U (tx m),U (tx x),L]/\ky S H'/\∀(j:Nat)(v:uz),j<i->(vF x m)[j]?=U v->¬Av ws v) #[_,Z,ky.refl _,λj v h=>by nofun] (λi σ H' _ ⟨_,_,s',_⟩=>.mk (s' _ _ X)) ?_ ?_]
 .rintro i y σ V F ⟨L,rfl,g,no⟩;let#[r,l,Z]:=Ey F;let wl:⇑r<=41:=by
   have:=(yY.mp (wL l)).1.tail.len;rw[EJ]at this;have:=u.l40
   nofun
  omega;refine#[b,ws,r,Z,g _ _ (p _ _ (n _ _ hb)),∅,∅,λH4 W=>(lT (λh=>?_) (λh=>#[_,Z,g.trans W,λj v M D=>?_]))]
  .exact up x r H4 (((n.trans p).trans g).trans W) (qx r #[i,l,Dm.mp h,no])
  .by_cases c:j<i
   .exact no j v c D
   .let e:j=i:=by nofun
    subst e;rw[l]at D;cases D;exact λk=>h (Dm.mpr k)
 .rintro σ V ⟨L,rfl,g,no⟩;calc q (λw l=>?_) V ((n.trans p).trans g);let#[j,M,ej]:=yK l;calc no j w (by rw[uO];calc M) (vT.mpr #[M,ej])
def Ztf:kz P w K mg base (vt P w) 6 a.f_N2 a.d_N2 ["line"] (sp_N2 K a):=by
 calc T.jV.u.okX QB (λBP A j s H vs Q E M h=>?_);let⟨F,rfl,d,x,q⟩:=h;refine⟨_,(uD (vM (PW.pt (Ca (za (wH (vE (yh (K:=K) Z) Z T.gL yf (uy (pv 0) (uy (EO (v:=.ty "str") Z T.jS Fo Z) uA))))) (CT (za (wH (u3 (Ztj T) (hM M) Z T.jp uT (uy (yu CG PySem.F.slot_str_split PySem.F.type_str_split O1 (pv 0) (uy (uE (l:=[32])) uA)) uA))))))) (uK (yw yx Z (F5 T.x_MW T.i_MW Z T.m_MW (uy (uE (l:=s!"this is none of the lines that a desk is told")) uA)))) vN)
  (uP (uD (vd (i:=1) QB.nd (yu CG PySem.F.slot_str_split PySem.F.type_str_split O1 (pv 0) (uy (uE (l:=[32])) uA)))
  (uK (uY (vZ (uy (vh (wq (K:=K) Z) (pv 1) uR (λ_ _=>rfl)) (uy (yn (N:=["word"]) (ix:=[O]) Z (xQ Z) Z (wY (K:=K) Z (xJ (E5 (K:=K) Z) (pv 1) (xp uR) xX)) (λ_ _ _ _=>(vD (i:=0) (show (["word"]:AJ).Nodup from by decide +kernel) Z (i0 Z) (jl Z))) (λ_ _ _ _=>yI) (λ_ _ _ _=>(u3 (Ztq T) (hM M) Z T.iQ uT (uy (pv 0) uA)))) uA)))))))),?_⟩
 obtain⟨c,us,rfl⟩:∃c us,F=c::us:=by cases F with | nil=>exact Sa rfl d.ne | cons y r=>exact⟨y,r,rfl⟩
 let h9:=d.n50;let m:=d.sp;let n:=d.glue;rw[vQ]at h9;omega;calc#[_,_,_,_,Y,Z,Z,.ty (.pl (.str _)),Ge,lm #[Z,c::us,Z,trivial,{},m,n,kU.of λb H1 C n1 V=>#[b,_,Z,V,d,λH2 L=>?_]]];cases hl:CK (c::us) with
 | false=>
  exact lE #[⋯,λe he=>#[e,_,O,Z,uN,T.x_MW,x hl e _ ((C.trans L).trans (Gc he)) (.bare uN)]]
 | true=>
 let#[nm,q]:=q hl;calc lm (vv ?_);omega;calc#[Z,c::us,Z,trivial,{},m,n,kU.of λu p W n3 I=>#[u,_,_,_,Z,Z,.mk I,ma,_,Z,u,_,Z,.mk I,λg ng=>?_]];let z:=vG (o:=.lst (nM ((c::us).map tx) (U 1) O)) ng;let k:upd p g (.lst (nM ((c::us).map tx) (U 1) O)) g=U (.lst (us.map tx)):=by rw[uN];exact R9 (λx=>U (HO.lst x)) (DP ((c::us).map tx) 1)
 generalize upd p g (.lst (nM ((c::us).map tx) (U 1) O))=H4 at z k;refine#[g,Z,#[_,.mk k],kF.listM (xs:=us.map tx) (λ_=>Y) (λi=>vo (us.getD i [])) (by rw[uO];nofun) (.mk k) (λi H' Q' _ _ q=>q H' (ky.refl _)) ?_ ?_]
 .intro i X Q5 f _ D q5;rw[uO]at f;rw[Cr f];omega;let B:us.getD i []∈us:=?_;calc#[_,Z,d.w100 _ (wU _ B),nm _ B,q5];rw[wj,vK f];exact Dl f
 .intro g5 X D n5 S;calc#[u8 ⋯ (zU sizeLine_eq.symm),ly.of λt H6 G n6 l6=>q t g5 c us H6 Z (C.trans (L.trans (W.trans (z.trans (D.trans G))))) l6 (G _ _ ?_)];rw[S,mE,uO];congr 2;calc Zmp us
def Ni:kz P w K mg base vf 6 a.dz a.fP ["self"] (sp_KO K a):=by
 calc T.ig.u.ok O3 (λBP A z s H vs Q E hr h=>?_);let⟨p,la,da,l,m,ds,rfl,hp,q⟩:=h;refine⟨_,(uD (vd (i:=1) O3.nd (C6 T.cC (Qj T) (hM hr) Z T.m_NM T.iJ.b .nil uT (uy (vL (K:=K) Z (pv 0) Z) uA)))
  (uP (uD (Be (pv 1) (vL (K:=K) Z (pv 0) Z) Z)
  (uP (uD (Be (pv 1) (yM (IR (K:=K) Z) Z T.iG CS (uy (vL (K:=K) Z (pv 0) Z) uA)) Z)
  (uP (uD (Be (pv 1) (yM (IR (K:=K) Z) Z T.iG CS (uy (vL (K:=K) Z (pv 0) Z) uA)) Z)
  (uP (uK (uY (pv 1))))))))))),?_⟩
 let#[#[y,f],hk,#[r,d1,d2],B,ok,aa]:=id hp;omega;calc#[p,_,y,_,_,Z,f,T.ae,T.ag,FQ,λx I j M ne=>?_];calc#[x,I,m,Z,uN,Zle ok,λg d H2 L ad ac k2=>#[Z,?_]];let s2:ky H H2:=λb o e=>k2 b o (by rw[uF (vp e j),uF (vp e M)];calc e) (vp e j);let#[c,f2]:=L.fld;let ab:p≠x:=vp f j;cutsat;calc#[p,_,y,_,_,Z,s2 _ _ f,T.ae,T.ad,B8,x,_,c,_,Z,f2,T.ae,T.ad,(by show 4<1000;decide),?_];rw[show kW (fv "own_text") (tx l) (sF [] m g d)=sF l m g d from P3];let k:ky H (upd H2 x (.ins a.c_NM c (sF l m g d))):=kI s2 j;let F:upd H2 x (.ins a.c_NM c (sF l m g d)) x=U (.ins a.c_NM c (sF l m g d)):=uN;generalize upd H2 x (.ins a.c_NM c (sF l m g d))=H3 at k F;cutsat;calc#[p,_,y,_,_,Z,k _ _ f,T.ae,T.af,Mh,la,_,Z,.inl (.mk (k _ _ hk)),λl4 D=>?_];let C:ky H3 (upd H3 l4 (.lst ((vF l m).map tx))):=vG D;let e4:upd H3 l4 (.lst ((vF l m).map tx)) l4=U (.lst ((vF l m).map tx)):=uN;generalize upd H3 l4 (.lst ((vF l m).map tx))=H4 at C e4;let t:x≠l4:=vp F D;calc#[x,_,c,_,Z,C _ _ F,T.ae,T.af,(by show 4<1000;decide),?_];rw[show kW (fv "own_lacking") (.ref l4) (sF l m g d)=sF l m l4 d from O5];let n:ky H (upd H4 x (.ins a.c_NM c (sF l m l4 d))):=kI (k.trans C) j;let W:upd H4 x (.ins a.c_NM c (sF l m l4 d)) x=U (.ins a.c_NM c (sF l m l4 d)):=uN;let N:upd H4 x (.ins a.c_NM c (sF l m l4 d)) l4=U (.lst ((vF l m).map tx)):=by rw[uF (uZ t)];exact e4
 generalize upd H4 x (.ins a.c_NM c (sF l m l4 d))=H5 at n W N;cutsat;calc#[p,_,y,_,_,Z,n _ _ f,T.ae,T.ai,Ir,da,_,Z,.inl (.mk (n _ _ d1)),λl6 u=>?_];let v:ky H5 (upd H5 l6 (.lst r)):=vG u;let X:upd H5 l6 (.lst r) l6=U (.lst r):=uN;generalize upd H5 l6 (.lst r)=H6 at v X;let G:x≠l6:=vp W u;let V:l4≠l6:=vp N u;calc#[x,_,c,_,Z,v _ _ W,T.ae,T.ai,(by show 4<1000;decide),?_];rw[show kW (fv "own_deeds") (.ref l6) (sF l m l4 d)=sF l m l4 l6 from Zl6];cutsat;let s7:ky H (upd H6 x (.ins a.c_NM c (sF l m l4 l6))):=kI (n.trans v) j;refine q x l4 l6 _ s7 #[#[c,uN],?_,#[r,?_,d2.chg s7.chg (S:=[]) {}],B,ok,V] j (k.free D) (n.free u)
 .rw[uF (uZ t)];exact v _ _ N
 .rw[uF (uZ G)];calc X
def Ztt:kz P w K mg base (vt P w) 6 a.f_M9 a.d_M9 ["shelf","given"] (sp_M9 K a):=by
 calc T.iR.u.okX Zr3 (λo A b s H r Q E e h=>?_);let⟨p,g,d,m,n,F,rfl,i,q⟩:=h;refine⟨_,(uD (vV (wK (pv 0) T.am T.dJ (Zt6 T) (hM e) T.jy.b .nil vB (uy (vh (wq (K:=K) Z) (pv 1) uR (λ_ _=>rfl)) uA)))
  (uP (uK (uY (uE (l:=s!"ok")))))),?_⟩
 let#[c,j,u,t]:=i;let#[k,f]:=c.fld;omega;calc#[p,k,_,Z,f,wZ,g,_,_,_,Z,Z,.mk j,ma,p,d,m,n,F,Z,c,q]
def ZtH:kz P w K mg base (vt P w) 6 a.cY a.fA ["self","name","letter"] (sp_LP K a):=by calc T.jJ.u.okX Zse (λI A d s H L Q E c h=>?_);let#[p,x,m,n,F,u,Z,i,o,G,q]:=h;calc#[_,(uK (uY (wK (wK (pv 0) T.am T.b8 (GB T) (hM c) T.gV.b .nil vB (uy (pv 1) uA)) T.ae T.dU (ZtG T) (hM c) T.jK.b .nil vB (uy (pv 2) uA)))),?_];let#[B,f]:=i.fld;omega;calc#[p,B,_,Z,f,wZ,p,x,m,n,F,Z,i,q.imp id λr c e q M b=>?_];let j:=(i.str r c).same b;let#[t,g]:=id j.fld;calc#[r.p,t,_,Z,g,sN,r.p,r.la,r.da,r.l,m,r.ds,u,Z,j,o.same b,G,q.imp (λz=>#[z.1,z.2.same b]) λ⟨k,D,C,y,v,l⟩=>#[k,D,C,y,v,l.same b]]
def Zt8:kz P w K mg base (vt P w) 6 a.c5 a.fB ["self","name"] (sp_K5 K a):=by calc T.jz.u.okX ZsL (λu A d s H t Q E b h=>?_);let#[p,l,m,n,F,Z,c,q]:=h;calc#[_,(uK (uY (xV (wK (pv 0) T.am T.b8 (GB T) (hM b) T.gV.b .nil vB (uy (pv 1) uA)) T.ae T.dW (ZtM T) (hM b) T.jB.b .nil vB))),?_];let#[o,f]:=c.fld;omega;calc#[p,o,_,Z,f,wZ,p,l,m,n,F,Z,c,q.imp id λr b e q v j=>?_];let i:=(c.str r b).same j;let#[k,g]:=id i.fld;calc#[r.p,k,_,Z,g,sN,r.p,r.la,r.da,r.l,m,r.ds,Z,i,q.1,q.2.same j]
def Zt9:kz P w K mg base (vt P w) 6 a.c6 a.fC ["self","name"] (sp_K4 K a):=by calc T.jA.u.okX ZsM (λC A i s H B Q E b h=>?_);let#[p,u,m,n,F,Z,d,v,q]:=h;calc#[_,(uK (uY (xV (wK (pv 0) T.am T.b8 (GB T) (hM b) T.gV.b .nil vB (uy (pv 1) uA)) T.ae T.dX (Zt5 T) (hM b) T.jC.b .nil vB))),?_];let#[y,f]:=d.fld;omega;calc#[p,y,_,Z,f,wZ,p,u,m,n,F,Z,d,q.imp id λr b e q D c=>?_];let j:=(d.str r b).same c;let#[l,g]:=id j.fld;calc#[r.p,l,_,Z,g,sN,r.p,r.la,r.da,r.l,m,r.ds,Z,j,v.same c,q.imp (λz=>#[z.1,z.2.same c]) λ⟨k,x,t,o⟩=>#[k,x,t,o.same c]]
def Ztv:kz P w K mg base (vt P w) 6 a.f_M7 a.d_M7 ["shelf","given"] (sp_M7 K a):=by
 calc T.iZ.u.okX QD (λD A d s H G Q E j h=>?_);let⟨p,g,l,m,u,F,rfl,r,M,v,x⟩:=h;refine⟨_,(uD (vd (i:=2) QD.nd (C6 T.ce (LU T) (hM j) Z T.gf T.iB.b .nil vB (uy (vh (wq (K:=K) Z) (pv 1) uR (λ_ _=>rfl)) (uy (xV (pv 0) T.am T.bZ (Ej T) (hM j) T.gO.b .nil uT) uA))))
  (uK wV)),?_⟩
 let#[c,t,L,I]:=r;let#[B,f]:=c.fld;omega;calc#[g,_,_,_,Z,Z,.mk t,ma,p,B,_,Z,f,wZ,p,l,m,F,Z,c,λy k n q C=>?_];calc#[y,k,u,m,Z,uN,c.kok,∅,λz=>Sa v (by rw[z];decide),λ_=>x.same (made n q λb o e _=>e)]
def Ztu:kz P w K mg base (vt P w) 6 a.f_M8 a.d_M8 ["shelf","given"] (sp_M8 K a):=by
 calc T.i5.u.okX JQ (λW A l s H vs Q E j h=>?_);let⟨p,g,t,m,u,w,F,rfl,D,hu,X,q⟩:=h;refine⟨_,(uD (vd (i:=2) JQ.nd (C6 T.ce (LU T) (hM j) Z T.gf T.iB.b .nil vB (uy (vh (wq (K:=K) Z) (pv 1) uR (λ_ _=>rfl)) (uy (xV (pv 0) T.am T.bZ (Ej T) (hM j) T.gO.b .nil uT) uA))))
  (uD (vd (i:=3) JQ.nd (C6 T.ce (LU T) (hM j) Z T.gf T.iB.b .nil vB (uy (vh (wq (K:=K) Z) (pv 1) uR (λ_ _=>rfl)) (uy (xV (pv 0) T.am T.bZ (Ej T) (hM j) T.gO.b .nil uT) uA))))
  (uK wV))),?_⟩
 let#[c,r,V,hF]:=D;let#[C,f]:=c.fld;omega;calc#[g,_,_,_,Z,Z,.mk r,ma,p,C,_,Z,f,wZ,p,t,m,F,Z,c,λy G v B n3=>?_];refine#[y,G,u,m,Z,uN,c.kok,∅,λz S k=>#[Z,?_],λz=>?_]
 .let d:=made v B k;rcases q with⟨h,_⟩|⟨_,N,x⟩
  .rw[z]at h;cases h
  calc#[g,_,_,_,Z,Z,.mk (d _ _ r),Z,p,C,_,Z,d _ _ f,wZ,p,t,m,F,Z,c.same d,λI n L M n6=>?_];exact#[I,n,w,m,Z,uN,c.kok,∅,λz=>Sa N (by rw[z];decide),λ_=>x.same (d.trans (made L M λb o e _=>e))]
 .rcases q with⟨_,x⟩|⟨h,_⟩
  .exact x.same (made v B λb o e _=>e)
  .rw[z]at h;cases h
def Rl:kz P w K mg base (vt P w) 6 a.cu a.fQ ["self","kinds"] (sp_LK K a):=by
 calc T.jh.u.okX Zsh (λM A t s H N Q E i h=>?_);let#[C,B,u,Z,v,q]:=h;calc#[_,(uK (Be (pv 0) (C6 T.dG (Zt7 T) (hM i) Z T.m_NK T.jx.b .nil vB (uy (pv 1) uA)) Z)),?_];omega;intro p y c j S;calc#[p,y,u,Z,uN,?_];rcases q with⟨m,rfl,f,q⟩|⟨G,x⟩
 .refine .inl #[m,Z,f,λL z F I k=>#[Z,?_]];let l:=made c j k;let e:=l _ _ v;let nA:=NE c j I;let#[#[D,g],d,_,_,_,_]:=F;refine#[C,_,B,_,Z,e,T.a8,T.aa,(by show 0<1000;decide),q p L _ #[#[B,uN],#[D,by rw[uF (uZ (vp v c))];calc g],by rw[uF (uZ (vp v nA))];calc d,λr i=>(by cases i),λr i=>(by cases i),.nil,f] c nA λb o e n=>by rw[uF n];calc l _ _ e]
 .exact .inr #[G.same (made c j λb o e _=>e),λe z l h=>x e z ((made c j λb o e _=>e).trans l) h]
def Ztr:kz P w K mg base (vt P w) 7 a.f_MB a.d_MB ["words","kinds"] (sp_MB K a):=by
 calc T.iO.u.okX Go (λBP A aa s H vs Q E p h=>?_);let⟨b,ws,m,rfl,hb,t,hn,tk,q⟩:=h;refine⟨_,(uD (vV (u3 (ZtD T) (hM p) Z T.iz vB (uy (pv 0) (uy (pv 1) uA))))
  (uP (uD (vd (i:=2) Go.nd (u3 (Ia T) (hM p) Z T.gS uT (uy (pv 0) uA)))
  (uP (uD (vV (u3 (Zts T) (hM p) Z T.iN vB (uy (pv 2) uA)))
  (uP (uD (vd (i:=3) Go.nd (u3 (Zte T) (hM p) Z T.jU uT (uy (pv 2) (uy (pv 1) uA))))
  (uP (uD (vd (i:=4) Go.nd (u3 (Zs4 T) (hM p) Z T.jR uT (uy (pv 3) uA)))
  (uP (uD (vM (wQ (Jf (K:=K) Z) (uE (l:=[])) (pv 4) Z) (uK (vV (u3 (ZtC T) (hM p) Z T.iA vB (uy (pv 3) (uy (pv 4) uA))))) vN)
  (uP (uD (vd (i:=5) Go.nd (u3 (Zti T) (hM p) Z T.jk uT (uy (pv 3) (uy (pv 4) uA))))
  (uP (uD (vM (wQ Gd (vE (w4 (K:=K) Z) Z T.gQ wW (uy (pv 5) uA)) (Bb Z T.c_KD) (wy _)) (uK (yw yx Z (zy T.fU T.i_MI T.gv (ZeO T) (hM p) T.b_MI uT Z T.m_MI (uy (xJ zr (pv 5) xX (xp (uL y8 (Bb Z T.c_KD) uR))) uA)))) vN)
  (uP (uD (vV (u3 (Zth T) (hM p) Z T.jn vB (uy (pv 2) (uy (pv 1) (uy (pv 5) uA)))))
  (uK wV)))))))))))))))))),?_⟩
 let ko:KO m:=#[t.k,t.m1,t.m4];omega;calc#[b,ws,m,Z,hb,t,∅,?_];cases q with
 | bad g x9 sp xn=>exact .inr #[_,_,_,Z,g,x9,sp,xn]
 | no lk q=>
 calc .inl #[lk,λH1 s1=>?_];show CN _ _ _ _;cutsat;let S:=s1 _ _ hb;calc#[b,ws,Z,S,λw hw=>u8 (lk.w41 w hw) ⋯,∅,tk.same s1,λws' r H2 pm N s2 G nr h2=>?_];let j:GL m ws':=lk.perm pm;let L:=λk x y (h:nG ws' m k x y)=>q ws' k x y pm (HX pm N lk.nd) h;let V:lJ H H2:=s1.l.trans s2;let x2:∀ {C:AD} {f g:Str} {x y:uz} {H3:Hp},ky H2 H3->XV a C (yV f g [tx x,tx y]) E H->X2 C f g E H3 x y:=λs z e H4 X hx=>z e H4 (V.trans (s.trans X).l) (G.same (s.trans X)) hx;show CN _ _ _ _;cutsat;calc#[r,ws',m,Z,h2,j,λv H3 s3=>?_,λx y f=>x2 (ky.refl _) (L 0 x y (.inside f))];show CN _ _ _ _;cutsat;let h3:=s3 _ _ h2;calc#[r,ws',m,Z,h3,ko,j,λN kw ss H4 X n4 h4 wl F=>?_];show CN _ _ _ _;cutsat;calc#[N,kw,ws',ss,m,Z,h4,wl,F,ko,j,λpe es H5 I n5 h5 B=>?_];show CN _ _ _ _;cutsat;let M:=s3.trans (X.trans I);let hD:∀s,mD ws' s->(s∈es↔og ws' m s):=λs hs=>Pr j v F B hs;calc#[pe,es.map tx,Z,.inl (.mk h5),Z,Bv es,?_];rw[uM Z,Fi];refine lT (λh0=>?_) (λh0=>vv ?_)
 .let hn:[]∉es:=by simpa using h0
  refine#[N,pe,kw,ws',ss,es,m,Z,I _ _ h4,wl.same I,F,ko,j,v,h5,B,hn,λx y f=>x2 M (L 1 x y (.endless v (λk=>hn ((hD [] (.inl Z)).mpr k)) (f.congr hD)))]
 let n:[]∈es:=by simpa using h0
 let u:og ws' m []:=(hD [] (.inl Z)).mp n;omega;calc#[N,pe,kw,ws',ss,es,m,Z,I _ _ h4,wl.same I,F,ko,j,v,h5,B,n,λx H6 s6 D=>?_];let o:=M.trans s6;let xl:⇑x<=8201:=by
  let#[k,hk,e]:=yK n;have:=KU (W:=ws') (m:=m) (λs c hc ha=>RB hc ha) B.ord k [] (vT.mpr #[hk,e]) x D.mem D.av;have:=DC es ss B.nd B.sub;have:=F.len
  nofun
 show CN _ _ _ _;cutsat;refine#[_,_,Z,Iu ∅,lT (λS=>?_) (λS=>vv ?_)]
 .let lt:40<⇑x:=by have:=R7 S;nofun
  calc#[_,Z,x,Z,sz _ ∅,?_];rw[show ((40:Int)+1)=((41:Nat):Int) from Z,ET];exact#[⋯,yi.of Z λe H7 s7 n7 x7=>by let#[d,hd,hx]:=Bi x7;calc#[e,_,d,Z,hd,T.fU,(L 2 _ _ (.long v u D lt)) e _ (V.trans (o.trans (kI s7 n7)).l) (G.same (o.trans (kI s7 n7))) hx]]
 let le:⇑x<=40:=D0 λk=>S (R5 ∅);omega;calc#[r,ws',m,x,Z,o _ _ h2,j,#[t.k,t.m1,t.m4,le,D.mem],λno H7 s7=>?_,λw fa=>x2 o (L 3 x w (.split v u D le fa))];calc(L 4 x [] (.strip v u D le no)).elim
def ZtI:kz P w K mg base (vt P w) 7 a.cT a.fh ["self","name","strip"] (sp_LO K a):=by
 calc T.jI.u.okX Zsf (λBP A t s H vs Q E o h=>?_);let u:=Cg o;let⟨p,z,y,L,I,l,m,n,k,F,rfl,d,G,C,S,q,x⟩:=h;refine⟨_,(uD (vV (wK (pv 0) T.am T.cB (MQ T) (hM o) T.gW.b .nil vB (uy (pv 1) uA)))
  (uP (uD (vV (u3 (ZtJ T) (hM o) Z T.hZ uT (uy (pv 0) (uy (pv 2) uA))))
  (uP (uK (CZ u (vL (K:=K) Z (pv 0) Z) (pv 1) (xV (pv 2) T.ae T.cG (Ni T) (hM o) T.ig.b .nil uT) Z)))))),?_⟩
 let#[D,f]:=d.fld;let#[N,g]:=id G.fld;omega;calc#[p,D,_,Z,f,wZ,p,z,m,n,F,Z,d,C,λM H1 c=>?_,x];let i:=G.same c;show CN _ _ _ _;cutsat;calc#[p,y,z,L,I,l,m,k,F,Z,d.same c,i,?_];show CN _ _ _ _;cutsat;calc#[y,N,_,Z,c _ _ g,sN,y,L,I,l,m,k,Z,i,λB j e H2 s2 v V X n3=>?_];let b:=c.trans s2;let#[k1,W]:=d.lay (r:=#[n,B,j,e,l,k]) b v C M;calc#[p,_,D,_,_,Z,b _ _ f,T.am,T.ah,F8,z,_,Z,.inl #[_,uJ n,b _ _ d.dct,Z,by rw[ZqX];calc GS S (by rw[bA];decide),Z],q M #[n,B,j,e,l,k] _ Z Z Z (c.free V) (c.free X) (c.free n3) W k1]
def Zs6:kz P w K mg base (vt P w) 7 a.f_NO a.d_NO ["shelf","given"] (sp_NO K a):=by calc T.js.u.okX ZrP (λBP A d s H vs Q E l h=>?_);let#[p,g,V,m,n,F,u,Z,D,hu,q]:=h;calc#[_,(uK (uY (u3 (Ku T) (hM l) Z T.gT uT (uy (wK (pv 0) T.am T.dN (ZtH T) (hM l) T.jJ.b .nil vB (uy (vh (wq (K:=K) Z) (pv 1) uR (λ_ _=>rfl)) (uy (vh (wq (K:=K) Z) (pv 1) uR (λ_ _=>rfl)) uA))) uA)))),?_];let#[v,o,C,hF]:=D;let#[dx,f]:=v.fld;omega;calc#[p,dx,_,Z,f,wZ,g,_,_,_,Z,Z,.mk o,ma,g,_,_,_,Z,Z,.mk o,Z,p,V,m,n,F,u,Z,v,C,∅,q.imp id λr l e q=>q.imp id λ⟨x,h1,h2,W,N,y⟩=>#[x,h1,h2,W,N,λt c g' k L rg H2 S st b G z i=>?_]];let#[B,k1,r1]:=b.came;let#[zs,X,M]:=b.went;calc#[t,c,g',B,zs,L,rg,Z,b.tup,k1,X,r1,M,G,z,λI j=>y _ k I (S.trans j.chg) (st.same j) b.nl (i.same j)]
def ZtA:kz P w K mg base (vt P w) 7 a.f_M2 a.d_M2 ["shelf","given"] (sp_M2 K a):=by calc T.iS.u.okX Zr6 (λl A b s H o Q E d h=>?_);let#[p,g,e,m,n,F,Z,i,q]:=h;calc#[_,(uK (uY (u3 (Ku T) (hM d) Z T.gT uT (uy (wK (pv 0) T.am T.dO (Zt8 T) (hM d) T.jz.b .nil vB (uy (vh (wq (K:=K) Z) (pv 1) uR (λ_ _=>rfl)) uA)) uA)))),?_];let#[c,j,t,r]:=i;let#[k,f]:=c.fld;omega;calc#[p,k,_,Z,f,wZ,g,_,_,_,Z,Z,.mk j,ma,p,e,m,n,F,Z,c,q]
def ZtB:kz P w K mg base (vt P w) 7 a.f_M1 a.d_M1 ["shelf","given"] (sp_M1 K a):=by calc T.iT.u.okX Zr7 (λBP A d s H vs Q E l h=>?_);let#[p,g,N,m,n,F,Z,B,q]:=h;calc#[_,(uK (uY (u3 (Ku T) (hM l) Z T.gT uT (uy (wK (pv 0) T.am T.dP (Zt9 T) (hM l) T.jA.b .nil vB (uy (vh (wq (K:=K) Z) (pv 1) uR (λ_ _=>rfl)) uA)) uA)))),?_];let#[o,D,z,hF]:=B;let#[dx,f]:=o.fld;omega;calc#[p,dx,_,Z,f,wZ,g,_,_,_,Z,Z,.mk D,ma,p,N,m,n,F,Z,o,z,q.imp id λr l e q=>q.imp id λ⟨u,h1,h2,v⟩=>#[u,h1,h2,λt c g' k I rg H2 M st b C x i=>?_]];let#[y,W,X]:=b.came;let#[V,S,L]:=b.went;calc#[t,c,g',y,V,I,rg,Z,b.tup,W,S,X,L,C,x,λG j=>v _ k G (M.trans j.chg) (st.same j) b.nl (i.same j)]
def DJ:kz P w K mg base (vt P w) 7 a.cW a.fq ["self","name"] (sp_KS K a):=by calc T.gN.u.okX ZsA (λG A d s H I Q E c h=>?_);let#[p,x,m,n,F,Z,i,q]:=h;calc#[_,(uK (uY (xV (wK (pv 0) T.am T.b8 (GB T) (hM c) T.gV.b .nil vB (uy (pv 1) uA)) T.ae T.cG (Ni T) (hM c) T.ig.b .nil uT))),?_];let#[B,f]:=i.fld;omega;calc#[p,B,_,Z,f,wZ,p,x,m,n,F,Z,i,q.imp id λr c e q L b=>?_];let o:=(i.str r c).same b;let#[v,g]:=id o.fld;calc#[r.p,v,_,Z,g,sN,r.p,r.la,r.da,r.l,m,r.ds,Z,o,λt l k u C j y z D=>q t l k u (b.trans C) j (b.free y) (b.free z) (b.free D)]
def ZtN:kz P w K mg base (vt P w) 8 a.f_L9 a.d_L9 ["strip","length"] (sp_L9 K a):=by
 calc T.iM.u.okX Zsq (λG A b s H I Q E g h=>?_);let⟨p,B,z,l,m,j,k,rfl,i,t,x⟩:=h;refine⟨_,(uD (vM (za (wH (u3 (O0 T) (hM g) Z T.hO uT (uy (pv 1) (uy uR (uy (vE (w4 (K:=K) Z) Z T.gQ wW (uy (xV (pv 0) T.ae T.aF (Ih T) (hM g) T.hV.b .nil uT) uA)) uA)))))) (uK (yw yx Z (zy T.dY T.i_LZ T.gj (Zeg T) (hM g) T.b_LZ uT Z T.m_LZ (uy (pv 1) uA)))) vN)
  (uD wV
  (uK wV))),?_⟩
 let#[#[u,f],y,_,c,D,_]:=id i;let n:=c.len;omega;calc#[p,u,_,Z,f,sN,p,B,z,l,m,j,Z,i,_,_,Z,zX ∅,k,1,_,Z,?_];rw[R6 t];calc lE #[⋯,yi.of Z λe F q v C=>?_];let#[d,r,o]:=Bi C;calc#[e,_,d,Z,r,T.dY,x e _ (kI q v) o]
def Ztl:kz P w K mg base (vt P w) 8 a.f_MN a.d_MN ["shelf","given"] (sp_MN K a):=by
 calc T.ij.u.okX ZrZ (λBP A i s H vs Q E d h=>?_);let⟨p,g,v,m,n,F,rfl,C,S,q,x⟩:=h;refine⟨_,(uD (vV (wK (pv 0) T.am T.dH (ZtI T) (hM d) T.jI.b .nil vB (uy (vh (wq (K:=K) Z) (pv 1) uR (λ_ _=>rfl)) (uy (C6 T.cC (Qj T) (hM d) Z T.m_NM T.iJ.b .nil uT (uy (xV (pv 0) T.am T.bZ (Ej T) (hM d) T.gO.b .nil uT) uA)) uA))))
  (uP (uK (uY (uE (l:=s!"ok")))))),?_⟩
 let#[c,D,B,hF]:=C;let#[y,f]:=c.fld;omega;calc#[p,y,_,Z,f,wZ,g,_,_,_,Z,Z,.mk D,ma,p,y,_,Z,f,wZ,p,v,m,F,Z,c,λu j V W n3=>?_];calc#[u,j,m,Z,uN,c.kok,λla da H2 st n4 n5 k=>#[Z,?_]];let b:=made V W k;calc#[p,v,u,la,da,[],m,n,[],F,Z,c.same b,st,S,∅,λnf r I z M G L N X t o=>?_,λr d e=>(x r d e).same b];cutsat;calc q nf r I z M G (Kh b L) (Kh b N) (Kh b X) (b.chg.trans t.chg) (t.tt (B.same b) (b _ _ c.dct)) o
def Ztz:kz P w K mg base (vt P w) 8 a.f_M3 a.d_M3 ["shelf","given"] (sp_M3 K a):=by
 calc T.iU.u.okX MZ (λN A l s H S Q E b h=>?_);let⟨p,g,y,m,n,F,c,rfl,G,I,M,q⟩:=h;refine⟨_,(uD (vV (wK (pv 0) T.am T.cB (MQ T) (hM b) T.gW.b .nil vB (uy (vh (wq (K:=K) Z) (pv 1) uR (λ_ _=>rfl)) uA)))
  (uP (uD (vd (i:=2) MZ.nd (u3 (Ztr T) (hM b) Z T.iO vB (uy (xJ (E5 (K:=K) Z) (pv 1) (xp uR) xX) (uy (xV (pv 0) T.am T.bZ (Ej T) (hM b) T.gO.b .nil uT) uA))))
  (uD wV
  (uD wV
  (uD wV
  (uK wV))))))),?_⟩
 let#[j,u,D,V]:=G;let#[C,f]:=j.fld;omega;refine#[p,C,_,Z,f,wZ,g,_,_,_,Z,Z,.mk u,ma,p,y,m,n,F,Z,j,I,λt z v=>?_,λr b e=>?_]
 .cutsat;rcases q with⟨⟨r,b,e⟩,_⟩|⟨_,q⟩
  .exact Sa e (t r b)
  calc#[_,Z,g,_,Z,.mk (v _ _ u),λk L=>?_];let d:=v.trans (vG (o:=.lst (nM (tx n::c.map tx) (U 1) O)) L);let B:upd z k (.lst (nM (tx n::c.map tx) (U 1) O)) k=U (.lst (c.map tx)):=by rw[uN];exact R9 (λx=>U (HO.lst x)) (DP (tx n::c.map tx) 1)
  generalize upd z k (.lst (nM (tx n::c.map tx) (U 1) O))=H2 at d B;exact#[p,C,_,Z,d _ _ f,wZ,p,y,m,F,Z,j.same d,k,c,m,Z,B,j.kok,M,D.same d,q.same d]
 .rcases q with⟨_,q⟩|⟨t,_⟩
  .exact q
  .exact Sa e (t r b)
def Ztd:kz P w K mg base (vt P w) 8 a.f_NA a.d_NA ["shelf","given"] (sp_NA K a):=by
 calc T.iV.u.okX ZrV (λS A d s H W Q E c h=>?_);let#[p,g,C,m,n,F,Z,t,q]:=h;calc#[_,(uK (uY (u3 (DS T) (hM c) Z T.gM uT (uy (wc (uy (xV (wK (pv 0) T.am T.bY (DJ T) (hM c) T.gN.b .nil vB (uy (vh (wq (K:=K) Z) (pv 1) uR (λ_ _=>rfl)) uA)) T.ae T.aF (Ih T) (hM c) T.hV.b .nil uT) uA)) uA)))),?_];let#[o,u,M,X]:=t;let#[D,f]:=o.fld;omega;calc#[p,D,_,Z,f,wZ,g,_,_,_,Z,Z,.mk u,ma,p,C,m,n,F,Z,o,q.imp id λr c e q l k i L G j n1 n2 n3=>?_];let#[x,z]:=id j.fld;calc#[l,x,_,Z,z,sN,l,k,i,r.l,m,r.ds,Z,j,u8 ⋯ (zU sizeLine_eq.symm),kU.of λb N y V I=>#[b,[r.l],Z,I,(by show 1<=1000;decide),?_,λB v=>q B (G.trans (y.trans v))]];have:=(FH j).l40;rw[El,List.sum_singleton]
 nofun
def Ztp:kz P w K mg base (vt P w) 8 a.f_MJ a.d_MJ ["shelf","given"] (sp_MJ K a):=by calc T.io.u.okX Zr1 (λS A d s H V Q E c h=>?_);let#[p,g,B,m,n,F,Z,t,q]:=h;calc#[_,(uK (uY (u3 (DS T) (hM c) Z T.gM uT (uy (xV (wK (pv 0) T.am T.bY (DJ T) (hM c) T.gN.b .nil vB (uy (vh (wq (K:=K) Z) (pv 1) uR (λ_ _=>rfl)) uA)) T.ae T.dS (Zt2 T) (hM c) T.iF.b .nil uT) uA)))),?_];let#[o,u,N,W]:=t;let#[G,f]:=o.fld;omega;calc#[p,G,_,Z,f,wZ,g,_,_,_,Z,Z,.mk u,ma,p,B,m,n,F,Z,o,q.imp id λr c e q l k i M I j X n2 n3=>?_];let#[x,y]:=id j.fld;let#[L,D,w3]:=ZoY (FH j);calc#[l,x,_,Z,y,sN,l,k,i,r.l,m,r.ds,Z,j,λb C=>#[b,vF r.l m,Z,uN,L,D,λz v=>q z (I.trans ((vG C).trans v))]]
def Zs7:kz P w K mg base (vt P w) 8 a.f_NN a.d_NN ["shelf","given"] (sp_NN K a):=by calc T.jt.u.okX ZrQ (λD A c s H G Q E b h=>?_);let#[p,g,v,m,n,F,u,Z,t,z,q]:=h;calc#[_,(uK (uY (u3 (DS T) (hM b) Z T.gM uT (uy (u3 (Zqw T) (hM b) Z T.j8 vB (uy (wK (pv 0) T.am T.bY (DJ T) (hM b) T.gN.b .nil vB (uy (vh (wq (K:=K) Z) (pv 1) uR (λ_ _=>rfl)) uA)) (uy (vh (wq (K:=K) Z) (pv 1) uR (λ_ _=>rfl)) uA))) uA)))),?_];let#[k,j,C,I]:=t;let#[y,f]:=k.fld;omega;calc#[p,y,_,Z,f,wZ,g,_,_,_,Z,Z,.mk j,ma,p,v,m,n,F,Z,k,q.imp id λr b e q o i d B l x L M N=>#[g,_,_,_,Z,Z,.mk (l _ _ j),Z,o,i,d,r.l,m,r.ds,u,Z,x,z,q.1,q.2.same l]]
def Ztn:kz P w K mg base (vt P w) 8 a.f_ML a.d_ML ["shelf","given"] (sp_ML K a):=by
 calc T.ip.u.okX Ja (λG A b s H I Q E j h=>?_);let⟨p,g,x,m,n,F,u,rfl,v,B,q⟩:=h;refine⟨_,(uD (vd (i:=2) Ja.nd (wK (pv 0) T.am T.bY (DJ T) (hM j) T.gN.b .nil vB (uy (vh (wq (K:=K) Z) (pv 1) uR (λ_ _=>rfl)) uA)))
  (uP (uD (vd (i:=3) Ja.nd (vh (wq (K:=K) Z) (pv 1) uR (λ_ _=>rfl)))
  (uP (uD (vd (i:=4) Ja.nd (u3 (ZtF T) (hM j) Z T.iy vB (uy (pv 2) (uy (pv 3) uA))))
  (uD wV
  (uK wV))))))),?_⟩
 let#[l,k,D,L]:=v;let#[z,f]:=l.fld;omega;calc#[p,z,_,Z,f,wZ,g,_,_,_,Z,Z,.mk k,ma,p,x,m,n,F,Z,l,q.imp id λr j e q t d c C o y M N S=>?_];cutsat;calc#[g,_,_,_,Z,Z,.mk (o _ _ k),Z,?_];cutsat;calc#[t,d,c,r.l,m,r.ds,u,Z,y,B,q.1,q.2.same o]
def Zty:kz P w K mg base (vt P w) 8 a.f_M4 a.d_M4 ["shelf","given"] (sp_M4 K a):=by calc T.iX.u.okX Zr5 (λC A c s H D Q E b h=>?_);let#[p,g,v,m,n,F,k,Z,u,q]:=h;calc#[_,(uK (uY (u3 (DS T) (hM b) Z T.gM uT (uy (u3 (Ztg T) (hM b) Z T.jW vB (uy (wK (pv 0) T.am T.bY (DJ T) (hM b) T.gN.b .nil vB (uy (vh (wq (K:=K) Z) (pv 1) uR (λ_ _=>rfl)) uA)) (uy (vh (wq (K:=K) Z) (pv 1) uR (λ_ _=>rfl)) uA))) uA)))),?_];let#[l,j,B,G]:=u;let#[y,f]:=l.fld;omega;calc#[p,y,_,Z,f,wZ,g,_,_,_,Z,Z,.mk j,ma,p,v,m,n,F,Z,l,q.imp id λr b e q t i d z o x I L M=>#[g,_,_,_,Z,Z,.mk (o _ _ j),Z,t,i,d,r.l,m,r.ds,k,Z,x,q.1,q.2.same o]]
def Ztm:kz P w K mg base (vt P w) 8 a.f_MM a.d_MM ["shelf","given"] (sp_MM K a):=by
 calc T.iq.u.okX ON (λt A c s H u Q E b h=>?_);let⟨p,g,j,m,n,F,rfl,k,q⟩:=h;refine⟨_,(uD (vd (i:=2) ON.nd (C6 T.dR (Zt0 T) (hM b) Z T.m_MF T.jf.b .nil uT (uy (xV (wK (pv 0) T.am T.bY (DJ T) (hM b) T.gN.b .nil vB (uy (vh (wq (K:=K) Z) (pv 1) uR (λ_ _=>rfl)) uA)) T.ae T.aF (Ih T) (hM b) T.hV.b .nil uT) (uy (xV (pv 0) T.am T.bZ (Ej T) (hM b) T.gO.b .nil uT) uA))))
  (uK wV)),?_⟩
 let#[d,l,x,v]:=k;let#[o,f]:=d.fld;omega;calc#[p,o,_,Z,f,wZ,g,_,_,_,Z,Z,.mk l,ma,p,j,m,n,F,Z,d,q.imp id λr b e q=>q.elim]
def Ztw:kz P w K mg base (vt P w) 8 a.f_M6 a.d_M6 ["shelf","given"] (sp_M6 K a):=by
 calc T.iY.u.okX QA (λt A b s H u Q E c h=>?_);let⟨p,g,k,m,n,F,rfl,l,q⟩:=h;refine⟨_,(uD (vd (i:=2) QA.nd (wK (pv 0) T.am T.dQ (ZtZ T) (hM c) T.je.b .nil uT (uy (wK (pv 0) T.am T.bY (DJ T) (hM c) T.gN.b .nil vB (uy (vh (wq (K:=K) Z) (pv 1) uR (λ_ _=>rfl)) uA)) uA)))
  (uK wV)),?_⟩
 let#[d,o,x,v]:=l;let#[j,f]:=d.fld;omega;calc#[p,j,_,Z,f,wZ,p,j,_,Z,f,wZ,g,_,_,_,Z,Z,.mk o,ma,p,k,m,n,F,Z,d,q.imp id λr c e q=>q.elim]
def ZtS:kz P w K mg base vf 8 a.f_L4 a.d_L4 ["_law_thing"] (sp_L4 K a):=by
 calc T.jc.u.ok K0 (λr A c s H p Q E d h=>?_);let⟨v,rfl,l,q⟩:=h;refine⟨_,(uD (vd (i:=1) K0.nd Ba)
  (uP (uD (Rj Z Z (Qn (OL (Zmd T.cH (Rl T) (hM d) Z T.m_NY T.jh.b .nil (uy (pv 0) uA)))) (Zmb (λ_=>d.hd) Z T.m_MG (λ_=>(uK (vd (i:=1) K0.nd Ba))) Np))
  (uK (uY (pv 1)))))),?_⟩
 omega;cutsat;intro x m f g n;calc#[x,m,v,Z,uN,.inr #[l.same (made f g λb o e _=>e),λe k j h=>#[e,_,Z,Z,_,Zpk T.k_MG,lE (q k ((made f g λb o e _=>e).trans j))]]]
def Ztx:kz P w K mg base (vt P w) 9 a.f_M5 a.d_M5 ["shelf","given"] (sp_M5 K a):=by calc T.iW.u.okX Zr4 (λC A c s H D Q E b h=>?_);let#[p,g,v,m,n,F,k,Z,u,q]:=h;calc#[_,(uK (uY (u3 (DS T) (hM b) Z T.gM uT (uy (u3 (ZtN T) (hM b) Z T.iM vB (uy (wK (pv 0) T.am T.bY (DJ T) (hM b) T.gN.b .nil vB (uy (vh (wq (K:=K) Z) (pv 1) uR (λ_ _=>rfl)) uA)) (uy (vh (wq (K:=K) Z) (pv 1) uR (λ_ _=>rfl)) uA))) uA)))),?_];let#[l,j,B,G]:=u;let#[y,f]:=l.fld;omega;calc#[p,y,_,Z,f,wZ,g,_,_,_,Z,Z,.mk j,ma,p,v,m,n,F,Z,l,q.imp id λr b e q t i d z o x I L M=>#[g,_,_,_,Z,Z,.mk (o _ _ j),Z,t,i,d,r.l,m,r.ds,k,Z,x,q.1,q.2.same o]]
def JH:kz P w K mg base (vt P w) 10 a.dB a.fR ["self","line"] (sp_LY K a):=by
 calc T.jg.u.okX Ly (λBP A z s H vs Q E d h=>?_);let⟨k,p,c,m,F,ws,rfl,X,G,W,M,q⟩:=h;refine⟨_,(uD (vd (i:=2) Ly.nd (u3 (Ztf T) (hM d) Z T.jV vB (uy (pv 1) uA)))
  (uP (uD (vd (i:=3) Ly.nd (NG (K:=K) (w:=w) Z Z (yr (v:=.ref a.v_ANSWERS) Z T.v_ANSWERS Z) (vh (xA (K:=K) Z) (pv 2) uR (λ_ _=>rfl)) (λ_ _=>rfl)))
  (uP (uK (uY (zc (yQ (Ztl T) (hM d) (pv 3) T.ij.u.kp T.ij.b .nil vB (uy (vL (K:=K) Z (pv 0) Z) (uy (vh (xA (K:=K) Z) (pv 2) uR (λ_ _=>rfl)) uA))) (zc (yQ (Ztt T) (hM d) (pv 3) T.iR.u.kp T.iR.b .nil vB (uy (vL (K:=K) Z (pv 0) Z) (uy (vh (xA (K:=K) Z) (pv 2) uR (λ_ _=>rfl)) uA))) (zc (yQ (Zs6 T) (hM d) (pv 3) T.js.u.kp T.js.b .nil vB (uy (vL (K:=K) Z (pv 0) Z) (uy (vh (xA (K:=K) Z) (pv 2) uR (λ_ _=>rfl)) uA))) (zc (yQ (ZtA T) (hM d) (pv 3) T.iS.u.kp T.iS.b .nil vB (uy (vL (K:=K) Z (pv 0) Z) (uy (vh (xA (K:=K) Z) (pv 2) uR (λ_ _=>rfl)) uA))) (zc (yQ (ZtB T) (hM d) (pv 3) T.iT.u.kp T.iT.b .nil vB (uy (vL (K:=K) Z (pv 0) Z) (uy (vh (xA (K:=K) Z) (pv 2) uR (λ_ _=>rfl)) uA))) (zc (yQ (Ztz T) (hM d) (pv 3) T.iU.u.kp T.iU.b .nil vB (uy (vL (K:=K) Z (pv 0) Z) (uy (vh (xA (K:=K) Z) (pv 2) uR (λ_ _=>rfl)) uA))) (zc (yQ (Zto T) (hM d) (pv 3) T.ik.u.kp T.ik.b .nil uT (uy (vL (K:=K) Z (pv 0) Z) (uy (vh (xA (K:=K) Z) (pv 2) uR (λ_ _=>rfl)) uA))) (zc (yQ (Ztd T) (hM d) (pv 3) T.iV.u.kp T.iV.b .nil vB (uy (vL (K:=K) Z (pv 0) Z) (uy (vh (xA (K:=K) Z) (pv 2) uR (λ_ _=>rfl)) uA))) (zc (yQ (Ztp T) (hM d) (pv 3) T.io.u.kp T.io.b .nil vB (uy (vL (K:=K) Z (pv 0) Z) (uy (vh (xA (K:=K) Z) (pv 2) uR (λ_ _=>rfl)) uA))) (zc (yQ (Zs7 T) (hM d) (pv 3) T.jt.u.kp T.jt.b .nil vB (uy (vL (K:=K) Z (pv 0) Z) (uy (vh (xA (K:=K) Z) (pv 2) uR (λ_ _=>rfl)) uA))) (zc (yQ (Ztn T) (hM d) (pv 3) T.ip.u.kp T.ip.b .nil vB (uy (vL (K:=K) Z (pv 0) Z) (uy (vh (xA (K:=K) Z) (pv 2) uR (λ_ _=>rfl)) uA))) (zc (yQ (Ztx T) (hM d) (pv 3) T.iW.u.kp T.iW.b .nil vB (uy (vL (K:=K) Z (pv 0) Z) (uy (vh (xA (K:=K) Z) (pv 2) uR (λ_ _=>rfl)) uA))) (zc (yQ (Zty T) (hM d) (pv 3) T.iX.u.kp T.iX.b .nil vB (uy (vL (K:=K) Z (pv 0) Z) (uy (vh (xA (K:=K) Z) (pv 2) uR (λ_ _=>rfl)) uA))) (zc (yQ (Ztm T) (hM d) (pv 3) T.iq.u.kp T.iq.b .nil vB (uy (vL (K:=K) Z (pv 0) Z) (uy (vh (xA (K:=K) Z) (pv 2) uR (λ_ _=>rfl)) uA))) (zc (yQ (Ztw T) (hM d) (pv 3) T.iY.u.kp T.iY.b .nil vB (uy (vL (K:=K) Z (pv 0) Z) (uy (vh (xA (K:=K) Z) (pv 2) uR (λ_ _=>rfl)) uA))) (zc (yQ (Ztv T) (hM d) (pv 3) T.iZ.u.kp T.iZ.b .nil vB (uy (vL (K:=K) Z (pv 0) Z) (uy (vh (xA (K:=K) Z) (pv 2) uR (λ_ _=>rfl)) uA))) (yQ (Ztu T) (hM d) (pv 3) T.i5.u.kp T.i5.b .nil vB (uy (vL (K:=K) Z (pv 0) Z) (uy (vh (xA (K:=K) Z) (pv 2) uR (λ_ _=>rfl)) uA))))))))))))))))))))))))),?_⟩
 let#[#[o,f],N]:=X;omega;refine#[ws,Z,M,λC=>?_,λC=>?_]
 .rcases q with⟨_,q⟩|⟨_,_,_,h,_⟩
  .exact q
  .rw[C]at h;cases h
 rcases q with⟨h,_⟩|⟨vb,V,rfl,_,nm,q⟩
 .rw[C]at h;cases h
 calc#[nm,λt g S aa H1 L u b B=>?_];injection L with e1 e2;subst e1 e2;let D:=q.same u;let#[I,r,n]:=ZrE T.sd_ANSWERS;cutsat;let l:=u _ _ f;clear q;generalize V.map vo=gs at B D;let e:yp a H1 p g c m F gs:=#[N.same u,B,G.same u,W];clear B;cases D with
 | strip i q x=>
  calc yP b r (n (y:="answer_strip") nofun T.ij.m) (vv (i0 ?_));omega;exact#[trivial,k,_,o,_,_,Z,l,T.a8,T.aa,yT,t,_,_,_,Z,Z,.mk b,Z,p,g,c,m,_,F,Z,e,i,q,x]
 | take q=>
  calc yP b r (n (y:="answer_take") nofun T.iR.m) (vv (jl (i0 ?_)));omega;exact#[trivial,k,_,o,_,_,Z,l,T.a8,T.aa,yT,t,_,_,_,Z,Z,.mk b,Z,p,g,c,m,_,F,Z,e,q]
 | put i q=>
  calc yP b r (n (y:="answer_put") nofun T.js.m) (vv (nat_lit 2));omega;exact#[trivial,k,_,o,_,_,Z,l,T.a8,T.aa,yT,t,_,_,_,Z,Z,.mk b,Z,p,g,c,m,_,F,_,Z,e,i,q]
 | drop q=>
  calc yP b r (n (y:="answer_drop") nofun T.iS.m) (vv (nat_lit 3));omega;exact#[trivial,k,_,o,_,_,Z,l,T.a8,T.aa,yT,t,_,_,_,Z,Z,.mk b,Z,p,g,c,m,_,F,Z,e,q]
 | back q=>
  calc yP b r (n (y:="answer_back") nofun T.iT.m) (vv (nat_lit 4));omega;exact#[trivial,k,_,o,_,_,Z,l,T.a8,T.aa,yT,t,_,_,_,Z,Z,.mk b,Z,p,g,c,m,_,F,Z,e,q]
 | «from» i j q=>
  calc yP b r (n (y:="answer_from") nofun T.iU.m) (vv (nat_lit 5));omega;exact#[trivial,k,_,o,_,_,Z,l,T.a8,T.aa,yT,t,_,_,_,Z,Z,.mk b,Z,p,g,c,m,_,F,_,Z,e,i,j,q]
 | names q=>
  calc yP b r (n (y:="answer_names") nofun T.ik.m) (vv (nat_lit 6));omega;exact#[trivial,k,_,o,_,_,Z,l,T.a8,T.aa,yT,t,_,_,_,Z,Z,.mk b,Z,p,g,c,m,F,Z,e,q]
 | text q=>
  calc yP b r (n (y:="answer_text") nofun T.iV.m) (vv (nat_lit 7));omega;exact#[trivial,k,_,o,_,_,Z,l,T.a8,T.aa,yT,t,_,_,_,Z,Z,.mk b,Z,p,g,c,m,_,F,Z,e,q]
 | lacks q=>
  calc yP b r (n (y:="answer_lacks") nofun T.io.m) (vv (nat_lit 8));omega;exact#[trivial,k,_,o,_,_,Z,l,T.a8,T.aa,yT,t,_,_,_,Z,Z,.mk b,Z,p,g,c,m,_,F,Z,e,q]
 | ask i q=>
  calc yP b r (n (y:="answer_ask") nofun T.jt.m) (vv (nat_lit 9));omega;exact#[trivial,k,_,o,_,_,Z,l,T.a8,T.aa,yT,t,_,_,_,Z,Z,.mk b,Z,p,g,c,m,_,F,_,Z,e,i,q]
 | often i q=>
  calc yP b r (n (y:="answer_often") nofun T.ip.m) (vv (nat_lit 10));omega;exact#[trivial,k,_,o,_,_,Z,l,T.a8,T.aa,yT,t,_,_,_,Z,Z,.mk b,Z,p,g,c,m,_,F,_,Z,e,i,q]
 | most q=>
  calc yP b r (n (y:="answer_most") nofun T.iW.m) (vv (nat_lit 11));omega;exact#[trivial,k,_,o,_,_,Z,l,T.a8,T.aa,yT,t,_,_,_,Z,Z,.mk b,Z,p,g,c,m,_,F,_,Z,e,q]
 | lone q=>
  calc yP b r (n (y:="answer_lone") nofun T.iX.m) (vv (nat_lit 12));omega;exact#[trivial,k,_,o,_,_,Z,l,T.a8,T.aa,yT,t,_,_,_,Z,Z,.mk b,Z,p,g,c,m,_,F,_,Z,e,q]
 | rooms q=>
  calc yP b r (n (y:="answer_rooms") nofun T.iq.m) (vv (nat_lit 13));omega;exact#[trivial,k,_,o,_,_,Z,l,T.a8,T.aa,yT,t,_,_,_,Z,Z,.mk b,Z,p,g,c,m,_,F,Z,e,q]
 | near q=>
  calc yP b r (n (y:="answer_near") nofun T.iY.m) (vv (nat_lit 14));omega;exact#[trivial,k,_,o,_,_,Z,l,T.a8,T.aa,yT,t,_,_,_,Z,Z,.mk b,Z,p,g,c,m,_,F,Z,e,q]
 | ring i j q=>
  calc yP b r (n (y:="answer_ring") nofun T.iZ.m) (vv (nat_lit 15));omega;exact#[trivial,k,_,o,_,_,Z,l,T.a8,T.aa,yT,t,_,_,_,Z,Z,.mk b,Z,p,g,c,m,_,F,Z,e,i,j,q]
 | samev i j q=>
  calc yP b r (n (y:="answer_same") nofun T.i5.m) (vv (jl (jl (jl (jl (jl (jl (jl (jl (jl (jl (jl (jl (jl (jl (jl (jl (?_))))))))))))))))));omega;calc#[trivial,k,_,o,_,_,Z,l,T.a8,T.aa,yT,t,_,_,_,Z,Z,.mk b,Z,p,g,c,m,_,_,F,Z,e,i,j,q]
def JX:kz P w K mg base vf 11 a.f_N3 a.d_N3 ["_law_desk","_law_line"] (sp_N3 K a):=by
 calc T.jN.u.ok Iq (λS A b s H V Q E g h=>?_);let⟨j,p,D,m,F,G,rfl,k,u,B,y,q⟩:=h;refine⟨_,(uD (vd (i:=2) Iq.nd (uE (l:=s!"made")))
  (uP (uD (Rj Z Z (Qn (OL (Zmc (pv 0) T.a8 T.cf (JH T) (hM g) T.jg.b .nil (uy (pv 1) uA)))) (ZsY (i:=3) (λ_=>g.hd) Z T.b7 Iq.nd Z Z (λ_=>(uK (vd (i:=2) Iq.nd (QK (Zta T) g.sx Z T.jH (uy (pv 3) uA))))) Np))
  (uP (uK (uY (pv 2))))))),?_⟩
 let#[#[I,f],N]:=id k;let r:=Ed.of T;omega;cutsat;refine#[j,I,_,Z,f,Kv nofun,j,p,D,m,F,G,Z,k,u,B,y,q.mono (λv t h=>?_) λc M t h=>?_]
 .cutsat;exact h
 let#[e,C,i,z,d,Z,Z,n,o,x,h]:=h;let#[_,L,_]:=r.xi C (wL n);calc#[e,C,Z,Z,Y,Zrm L T.k_LL,lE #[e,C,i,z,d,Z,n,o,x,?_]];cutsat;calc h
def RT:kz P w K mg base vf 11 a.f_N4 a.d_N4 ["_law_desk","_law_names_here"] (sp_N4 K a):=by
 calc T.jT.u.ok IY (λBP A L s H vs Q E hr h=>?_);let⟨C,p,dA,b,m,f,d,non,c,t1,S,t3,F,rfl,hk,tk,D,hb,q⟩:=h;refine⟨_,(uD (vd (i:=2) IY.nd (wc (uy (uE (l:=s!"names")) uA)))
  (uP (uD (xC xL Z (wY (K:=K) Z (xJ (E5 (K:=K) Z) (pv 1) xX (xp uR))) (vD (i:=3) IY.nd Z (i0 Z))
  (uK (vd (i:=2) IY.nd (uL xR (pv 2) (wc (uy (uL uU (uE (l:=s!"text ")) (vU (pv 3))) (uy (uL uU (uE (l:=s!"lacks ")) (vU (pv 3))) uA)))))))
  (uP (uK (uY (yn (N:=["_law_line","_law_desk"]) (ix:=[O,U 0]) Z (xQ Z) Z (wY (K:=K) Z (pv 2)) (λ_ _ _ _=>(vD (i:=0) (show (["_law_line","_law_desk"]:AJ).Nodup from by decide +kernel) Z (i0 Z) (jl Z))) (λ_ _ _ _=>yI) (λ_ _ _ _=>(wK (pv 1) T.a8 T.cf (JH T) (hM hr) T.jg.b .nil EM (uy (pv 0) uA)))))))))),?_⟩
 let#[i1,i2,i3]:=D.nms;let o8:=yj i1;let w8:=yj i2;omega;calc#[u8 ⋯ (zU sizeLine_eq.symm),kU.of λr1 H1 s1 n1 W=>vv ?_];omega;refine#[_,Z,b,_,Z,.mk (s1 _ _ hb),λg2 ng=>#[g2,Z,#[_,.mk uN],kT.list (xs:=[V.tok #[↑f] t1,V.tok #[↑d] S]) (Rx H C b g2 t1 S f d) (.mk r1 O Z (s1.trans (vG ng)) uN (by rw[uF (λz=>by rw[z,ng]at W;cases W)];calc W)) (λi σ H' _ B=>by cases B with | mk _ _ _ _ e _=>calc .mk e) ?_ ?_]]
 .intro i x σ H' o B;obtain⟨n,t,rfl,hn,e2⟩:∃n t,x=V.tok #[↑n] t/\⇑n<=8/\(Dq f d).take (1+2*i)++[Dt++32::n,Dw++32::n]=(Dq f d).take (1+2*(i+1)):=by
   match i,o with
   | 0,o=>cases o;exact#[f,t1,Z,∅,Z]
   | 1,o=>cases o;exact#[d,S,Z,∅,Z]
  cases B with
  | mk r v3 X y v g=>
  subst X;let rl:⇑((Dq f d).take (1+2*i))<=5:=by rw[xw];exact Nat.min_le_right _ _
  omega;refine#[sz _ ∅,sz _ ∅,sz 2 ⋯,kU.of λz1 G1 I m1 lz=>#[r,z1,_,_,Z,Z,I _ _ g,lz,by rw[uO];calc sz _ (by simp only[vQ,yZ];nofun),λx1 f1=>.mk x1 _ Z (y.trans (I.trans (vG f1))) (vG f1 _ _ (I _ _ v)) (by rw[uN,<-e2,xO];rfl)]]
 .intro σ H' B;cases B with
  | mk r v3 X y v g=>
  subst X;(try omega);cutsat;let u:H' r=U (.lst ((Dq f d).map tx)):=g;refine#[r,Z,#[_,.mk u],kF.listM (xs:=(Dq f d).map tx) (λ_=>Y) (λi=>tx ((KL m F).getD i [])) (by rw[uO];show 5<=100000;decide) (.mk u) (λi j Q2 _ _ M=>M j (ky.refl _)) ?_ ?_]
  .intro i j Q2 hi _ G M;rw[uO]at hi;obtain⟨line,hl⟩:∃line,(Dq f d)[i]?=U line:=#[_,vK hi];let#[ws,ew,lw,sw]:=ZlZ (a:=a) (p:=p) (dA:=dA) (m:=m) D i line hl;let ex:((Dq f d).map tx).getD i .non=tx line:=by rw[wj,wI,hl];rfl
   rw[ex];omega;let k:lV a j C p dA m F:=hk.l (y.trans G).l;let#[dx,hf]:=k.1;exact .mk C dx _ Z hf (by rfl) #[C,p,dA,m,F,ws,by rw[ew],k,tk.same (y.trans G),by cases D;calc vk Z,lw,sw j Q2 EN M]
  .intro pr j G nr lr;cases D with
   | mk _ _ _ _ _ _ _ _ _ _ _ _=>calc q pr j (y.trans G) (by rw[lr];rfl)
def ok_law:kz P w K mg base vf 12 a.f_law a.d_law ["_law_script"] (spLaw K tb):=by
 refine T.jY.u.ok zP (λBP A aS s H vs Q E u h=>?_) (λvs H Q E h=>by let#[_,_,Z,_]:=h;rfl)
 .let BS:=u.units;let⟨b,ns,rfl,hS,a9,tk,q⟩:=h;refine⟨_,(uD (vd (i:=1) zP.nd (u3 (OC T) (hM u) Z T.jM uT (uy (pv 0) (uy uR uA))))
   (uP (uD (vM (za (wH (u3 (ZtS T) (hM u) Z T.jc uT (uy (vh (wq (K:=K) Z) (wc (uy (uE (l:=s!"ba")) (uy (uE (l:=[])) (uy (uE (l:=s!"aa")) (uy (uE (l:=s!"abcde")) (uy (uE (l:=[65])) (uy Qf (uy uR (uy (wc (uy (uE (l:=[97])) uA)) uA))))))))) (uL zF (pv 1) uR) (λ_ _=>rfl)) uA)))) (uP (uK (uY Ba))) vN)
   (uP (uD (vd (i:=2) zP.nd (u3 (Zs9 T) (hM u) Z T.jF uT (uy (pv 1) (uy Zoz uA))))
   (uP (uD (vd (i:=3) zP.nd (vh (wq (K:=K) Z) (wc (uy (uE (l:=s!"ab")) (uy (uE (l:=s!"cxz")) (uy (uE (l:=s!"pq")) (uy (uE (l:=s!"mnos")) uA))))) (uL zF (u3 (Ew T) (hM u) Z T.ib uT (uy (pv 1) (uy uR uA))) uR) (λ_ _=>rfl)))
   (uP (uD (vd (i:=4) zP.nd (vh EU (pv 3) uR (λ_ _=>rfl)))
   (uP (uD (vd (i:=5) zP.nd (C6 T.cH (Rl T) (hM u) Z T.m_NY T.jh.b .nil EM (uy (pv 3) uA)))
   (uP (uD (xC xL Z (wY (K:=K) Z (wc (uy (uL uU (uE (l:=s!"strip ")) (vU (vh (wq (K:=K) Z) (pv 2) uR (λ_ _=>rfl)))) (uy (uL uU (uE (l:=s!"strip ")) (vU (vh (wq (K:=K) Z) (pv 2) uR (λ_ _=>rfl)))) (uy (uL uU (uL uU (uL uU (uE (l:=s!"put ")) (vU (vh (wq (K:=K) Z) (pv 2) uR (λ_ _=>rfl)))) (uE (l:=[32]))) (pv 4)) uA))))) (vD (i:=6) zP.nd Z (i0 Z))
   (uP (uK (vV (wK (pv 5) T.a8 T.cf (JH T) (hM u) T.jg.b .nil EM (uy (pv 6) uA))))))
   (uP (uD (vd (i:=7) zP.nd (u3 (RT T) (hM u) Z T.jT uT (uy (pv 5) (uy (pv 2) uA))))
   (uP (uD (vd (i:=8) zP.nd (uL xR (uL xR (u3 (ZtR T) (hM u) Z T.i8 uT (uy (pv 2) (uy (pv 4) uA))) (u3 (ZtO T) (hM u) Z T.i9 uT (uy (pv 2) (uy (pv 4) uA)))) (u3 (ZtQ T) (hM u) Z T.ja uT (uy (pv 2) (uy (pv 4) uA)))))
   (uP (uD (vd (i:=8) zP.nd (uL xR (pv 8) (u3 (ZtP T) (hM u) Z T.jb uT (uy (vh (wq (K:=K) Z) (pv 2) uR (λ_ _=>rfl)) (uy (pv 4) (uy (vh EU (pv 3) (Fz FE uR) (λ_ _=>rfl)) (uy (yM (JF Z) Z T.iG CS (uy (xJ zr (pv 3) (xp uR) (xp (Fz FE uR))) uA)) uA)))))))
   (uP (uD (xC xL Z (EH Z T.hJ (uy (vE (ZlH Z) Z T.kh ZrC (uy uR (uy (vE (ZlG Z) Z T.km ZrB (uy (vE (w4 (K:=K) Z) Z T.gQ wW (uy (pv 0) uA)) (uy uR uA))) uA))) uA)) (vD (i:=9) zP.nd Z (i0 Z))
   (uP (uD (HK (vh (wq (K:=K) Z) (pv 8) (uL zF (u3 (Ew T) (hM u) Z T.ib uT (uy (u3 (OC T) (hM u) Z T.jM uT (uy (pv 0) (uy (pv 9) uA))) (uy (pv 9) uA))) (vE (w4 (K:=K) Z) Z T.gQ wW (uy (pv 8) uA))) (λ_ _=>rfl)) (OQ Z (zS (vD (i:=6) zP.nd Z (i0 Z)) (zS (vD (i:=10) zP.nd Z (i0 Z)) GF))))
   (uP (uK (vM (PW.pt (Ca (wQ (En (K:=K) Z BS) (u3 (JX T) (hM u) Z T.jN uT (uy (pv 5) (uy (pv 6) uA))) (pv 10) (wy _)) (CT (wQ (En (K:=K) Z BS) (u3 (RT T) (hM u) Z T.jT uT (uy (pv 5) (uy (pv 2) uA))) (pv 7) (wy _))))) (uP (uK (uY Ba))) vN))))))
   (uP (uK (uY (B7 (yG (x6 (K:=K) Z BS) (u3 (JX T) (hM u) Z T.jN uT (uy (pv 5) (uy (uL uU (uE (l:=s!"back ")) (vU (vh (wq (K:=K) Z) (pv 2) uR (λ_ _=>rfl)))) uA))) (uE (l:=s!"made")) (wy _)) (B3 (yG (x6 (K:=K) Z BS) (u3 (JX T) (hM u) Z T.jN uT (uy (pv 5) (uy (uL uU (uE (l:=s!"drop ")) (vU (vh (wq (K:=K) Z) (pv 2) uR (λ_ _=>rfl)))) uA))) (uE (l:=s!"bare")) (wy _)))))))))))))))))))))))))))),?_⟩
  rw[<-T.e_L2]at tk;let tk:TT a H:=#[tk,trivial];omega;calc#[b,ns,0,Z,hS,⋯,λr0=>vv ?_];omega;calc#[sz 1 ⋯,kU.of λpa H1 s1 n1 l1=>#[sz 8 ⋯,kU.of λpb H2 s2 n2 l2=>#[⋯,?_]]];let a1:=Bd r0 (show (8:Int)≠0 by decide);let a2:=Bw r0 (show (0:Int)<8 by decide);let#[vb,aD,ar]:=Ii (xs:=[tx s!"ba",tx [],tx s!"aa",tx s!"abcde",tx [65],V.non,V.int 5,V.ref pa]) (i:=r0 % 8) a1 a2;let bk:oI K H2 vb:=by
   let tk:∀l:uz,⇑l<=1000->yt l=J->oI K H2 (tx l):=λl a b=>.inl #[l,Z,a,b];let no:∀l:uz,¬(1<=⇑l/\⇑l<=4/\l.Pairwise (· < ·))->yt l=J:=λl h=>by
    cases e:yt l with
    | false=>rfl
    | true=>exact Sa (Zra e) h
   let aQ:yt [65]=J:=by decide
   simp only[vg,xD,or_false]at ar;rcases ar with rfl | rfl | rfl | rfl | rfl | rfl | rfl | rfl
   .exact tk _ ⋯ (no _ ⋯)
   .exact tk _ ⋯ (no _ ⋯)
   .exact tk _ ⋯ (no _ ⋯)
   .exact tk _ ⋯ (no _ ⋯)
   .exact tk _ ⋯ aQ
   .exact .inr ZoD
   .exact .inr ZoF
   .exact .inr (ZoE (s2 _ _ l1) Z)
  calc#[pb,_,_,vb,Z,Z,.mk l2,aD,vb,Z,bk,λH3 s3=>lm ?_];cutsat;calc#[pb,_,s3 _ _ l2,λk hk=>#[r0,pb,k,Z,uN,hk,λr y non t1 t2 t3 k2 B H4 au aK nN aN h0 h1 i1 i2 i3 d1 d2 d3=>?_]];cutsat;let b1:=Bd (lN r0 5) (show (4:Int)≠0 by decide);let b2:=Bw (lN r0 5) (show (0:Int)<4 by decide);let#[vm,aM,aL]:=Ii (xs:=KM.map tx) (i:=lN r0 5 % 4) b1 b2;let#[m,ac,Z]:=vJ.mp aL;calc#[sz 4 ⋯,kU.of λpk H5 s5 n5 l5=>#[r0,5,Z,(by show (0:Int)<4;decide),pk,_,_,tx m,Z,Z,.mk l5,aM,?_]];obtain⟨c,d,rs,em,ed,an⟩:∃c d rs,m=c::(rs++[d])/\ye m (-1)=U d/\xt m (U 1) (U (-1))=rs:=by
   let k:∀m∈KM,m=m.head!::((m.drop 1).dropLast++[m.getLast!])/\ye m (-1)=U m.getLast!/\xt m (U 1) (U (-1))=(m.drop 1).dropLast:=by decide
   exact#[_,_,_,k m ac]
  let k9:K9 m c d rs:=#[ac,em];let k8:K8 m c:=#[ac,by rw[em];rfl];cutsat;let ml:⇑m<=4:=by
   let k:∀m∈KM,⇑m<=4:=by decide
   exact k m ac
  calc#[m,0,c,Z,Z,sz _ ∅,by rw[em];calc Gh (j:=0) Z,?_];cutsat;let aC:Bk m:=k8.let.2.2;intro N dx n6 n7 n8;calc#[N,dx,tx m,Z,uN,.inl #[m,Z,aC,λp dA H6 aB e6 f6 k6=>#[Z,?_]]];let s6:=made n6 n7 k6;cutsat;let ap:ky H4 H6:=s5.trans s6;let W:=ap _ _ aN;let o8:=yj i1;let w8:=yj i2;calc#[B,_,_,_,Z,Z,.mk W,Z,mK #[sz _ (by show 6+⇑r<=9000;nofun),B,_,_,_,Z,Z,.mk W,Z,mK #[sz _ (by show 6+⇑y<=9000;nofun),B,_,_,_,Z,Z,.mk W,Z,mK #[sz _ (by show 4+⇑r<=9000;nofun),?_]]]];omega;calc#[(by symm),(by symm),sz 3 ⋯,kU.of λpl H7 s7 m7 l7=>#[pl,Z,#[_,.mk l7],?_]];let aA:TT a H4:=HQ ((tk.same (s1.trans (s2.trans s3))).upd (s3 _ _ l2) Z Z) au uN Z Z;let ag:ky H4 H7:=ap.trans s7;let av:mV a N p dA m H7 H7 []:=#[aB.l s7.l,aA.same ag,we.refl _,{},.nil];let d7:=av.dsk.sh.dct;refine kT.list (xs:=(Pw c r y).map tx) (Q0 a N p dA m r y c H7 b B r0) (.mk O [] Z .z av) (λi σ H' _ hh=>by cases hh with | mk _ _ _ _ d=>calc .mk (d.ch _ _ l7 (IL d7 l7 λ_ z=>by cases z) rfl)) ?_ ?_
  .intro i x σ H' hx hh;cases hh with
   | mk v6 F es pf D=>
   subst es;rw[wI]at hx;let#[az,hl,Z]:=Option.map_eq_some_iff.mp hx;let#[ws,ew,lw,lF,sw]:=Zot k8 i1 i2 d1 pf D hl;let#[dx,f]:=id D.dsk.dsk;(try omega);cutsat;refine#[N,dx,_,Z,f,Kv nofun,N,p,dA,m,F,ws,by rw[ew],D.dsk,D.tk,lF,lw,sw _ _ λa0 H2 F2 aH ab=>.mk _ F2 Z aH ab]
  .intro σ H' hh;cases hh with
   | mk v6 F es pf D=>
   subst es;(try omega);cutsat;let st:=pf.st i1 i2 i3 d1 d2 d3;let kx:∀ {b o},H7 b=U o->(∀kvs,o≠.dK kvs)->zt o=J->H' b=U o:=λe n t=>D.ch _ _ e (IL d7 e n) t;let I:=kx (s7 _ _ W) (λ_ z=>by cases z) Z;calc#[N,p,dA,B,m,r,y,non,c,t1,t2,t3,F,Z,D.dsk,D.tk,st,I,λse H8 s8 l8=>?_];cutsat;let G:=s8 _ _ (kx (ag _ _ aK) (λ_ z=>by cases z) Z);let ng:∀ {H:Hp} {b:AD} {o:HO} {k:Nat},H b=U o->H pb=U (.gho k)->(∀k,o≠HO.gho k)->b≠pb:=λe g n z=>by rw[z,g]at e;exact n _ (cx e).symm
   calc#[p,dA,B,pb,m,r,y,non,c,t1,t2,t3,k2,F,Z,s8 _ _ I,st,k8,G,h1,h0,λra S ka H9 al g9 ba la da bb=>?_];let ad:=al _ _ (s8 _ _ I) (ng (s8 _ _ I) G λ_ z=>by cases z);calc#[p,dA,B,pb,m,r,y,non,c,t1,t2,t3,ka,F,Z,ad,st,k8,g9,∅,h0,λrb L kb HA kA gA a8 lb db a5=>?_];let aP:=kA _ _ la (ng la g9 λ_ z=>by cases z);calc#[ra,rb,_,_,Z,Z,aP,lb,sz _ ∅,λrc nc=>?_];let af:=kA _ _ ad (ng ad g9 λ_ z=>by cases z);let sC:=vG (o:=.lst (S++L)) nc;calc#[p,dA,B,pb,m,r,y,non,c,t1,t2,t3,kb,F,Z,sC _ _ af,st,k8,sC _ _ gA,∅,h0,λrd yd kd HD kD gD bc ld dd a3=>?_];let am:upd HA rc (.lst (S++L)) rc=U (.lst (S++L)):=uN;let aW:=kD _ _ am (ng am (sC _ _ gA) λ_ z=>by cases z);calc#[rc,rd,_,_,Z,Z,aW,ld,sz _ (by rw[vn];nofun),λrf nf=>?_];cutsat;let sE:=vG (o:=.lst (S++L++yd)) nf;let aI:=sE _ _ (kD _ _ (sC _ _ af) (ng (sC _ _ af) (sC _ _ gA) λ_ z=>by cases z));calc#[B,_,_,_,Z,Z,.mk aI,Z,_,_,_,Z,Z,sz _ ∅,ed,_,Z,_,Z,_,Z,sz _ ∅,_,Z,by rw[an];calc u8 k9.rl ⋯,kU.of λpx HF sF nF lF=>#[p,dA,px,m,r,y,non,c,d,t3,rs,F,Z,by rw[lF,an];simp[kZ];rfl,st,k9,λrg yg HG sG lG dg bd a4=>#[rf,rg,_,_,Z,Z,sG _ _ (sF _ _ uN),lG,sz _ (by simp only[vn];nofun),λrh nh=>?_]]];cutsat;let aG:=sF _ _ (uN (H:=HD) (a:=rf) (o:=.lst (S++L++yd)));let a7:=sG _ _ aG;let sH:=vG (o:=.lst (S++L++yd++yg)) nh;let ah:ky HG (upd HG rh (.lst (S++L++yd++yg))):=sH;let lh:upd HG rh (.lst (S++L++yd++yg)) rh=U (.lst (S++L++yd++yg)):=uN;generalize upd HG rh (.lst (S++L++yd++yg))=HL at ah lh sH;let ao:ky HD HL:=sE.trans (sF.trans (sG.trans ah));let ay:lQ pb HA HL:=λx o e n=>ao _ _ (kD _ _ (sC _ _ e) n);let ax:lQ pb H9 HL:=λx o e n=>ay _ _ (kA _ _ e n) n;let aa:lQ pb H8 HL:=λx o e n=>ax _ _ (al _ _ e n) n;let aF:∀x o,H x=U o->zt o=J->HL x=U o:=λx o e t=>by
    let e1:=s1 _ _ e;let np:x≠pb:=λz=>by rw[z,n2]at e1;cases e1
    let e4:=au x o (by rw[uF np];calc s3 _ _ (s2 _ _ e1)) np;let nd:x≠dA:=λz=>by have:=s5 _ _ e4;rw[z,NE n6 n7 f6]at this;cases this
    exact aa _ _ (s8 _ _ (D.ch _ _ (ag _ _ e4) (~~~nd) t)) np
   let dL:lV a HL N p dA m F:=(D.dsk.l s8.l).kb aa G;let tL:TT a HL:=HQ (D.tk.same s8) aa G Z Z;let aq:=aa _ _ (s8 _ _ I) (ng (s8 _ _ I) G λ_ z=>by cases z);let aV:=aa _ _ l8 (ng l8 G λ_ z=>by cases z);let ak:lP a p dA m F HL (S++L++yd++yg):=(((da.kb ax g9).app (db.kb ay gA)).app (dd.same ao)).app (dg.same ah);let#[bs,xb,aX]:=sq_x hS;let as:∀H2,lJ HL H2->vO K H2 b (ns.map V.int):=λH2 s=>aX _ λx hx o e t=>s _ _ (aF _ _ e t) t;obtain⟨Z_,eZ⟩:∃Z_,Z_=S++L++yd++yg:=#[_,Z];let Zl:0<⇑Z_/\⇑Z_<=240:=by rw[eZ];simp only[vn];exact#[∅,∅]
   rw[<-eZ]at lh ak;obtain⟨M,eM,a6⟩:∃M:Nat,(if (1:Int)<(if (20:Int)<(⇑ns:Nat) then 20 else ((⇑ns:Nat):Int)) then (if (20:Int)<(⇑ns:Nat) then 20 else ((⇑ns:Nat):Int)) else 1)=(M:Int)/\M<=20:=by
    by_cases h1:(20:Int)<(⇑ns:Nat)
    .rw[uM h1];exact#[20,Z,uV _]
    .rw[uI h1];by_cases h2:(1:Int)<(⇑ns:Nat)
     .rw[uM h2];exact#[⇑ns,Z,∅]
     .rw[uI h2];exact#[1,Z,⋯]
   calc#[_,_,Z,.inl #[_,as _ (ky.refl _).l,Z],_,_,Z,_,_,Z,_,Z,?_];rw[uO];show _/\_/\_;rw[eM];refine#[∅,∅,kT.range (Pj a b B N se rh m c r0 HL) (.mk _ _ _ Z (ky.refl _).l tL) ?_ ?_]
   .intro i σ HM hi hh;cases hh with
    | mk v6 v9 aT es X tM=>
    subst es;(try omega);cutsat;calc#[b,ns,0+(i:Int),Z,as _ X,∅,λr1=>#[r1,0+(i:Int),Z,?_]];let lM:=X _ _ lh Z;let#[v,hv,vm]:=Ii (xs:=Z_) (i:=lN r1 (0+(i:Int)) % (⇑Z_:Nat)) (Bd _ ∅) (Bw _ ∅);let#[t,az,aE,Z,ht,ws,j,C,aj,lw,hC,sw]:=ak v vm;calc#[_,_,Z,.inl #[_,.mk lM,Z],(by show (0:Int)<(⇑Z_:Nat);nofun),rh,_,_,_,Z,Z,.mk lM,hv,t,_,Z,.mk (X _ _ ht Z),Z,_,_,Z,_,_,Z,Z,?_];cutsat;let dM:=dL.l X;let ai:⇑F<=60:=by cases st;exact vk Z
    refine#[N,p,dA,m,F,ws,by rw[aj],dM,tM,ai,lw,sw _ _ _ tM λfs hf e HN sN tN hx=>#[e,C,j,fs,aE,Z,Z,hC,hf,hx,OV (lm #[N,p,dA,B,m,r,y,non,c,t1,t2,t3,F,Z,dM.l sN,tN,st,(X.trans sN) _ _ aq Z,λs9 HO sO lO=>ZqR (.mk lO) (.mk (sO _ _ ((X.trans sN) _ _ aV Z))) (lm (.mk _ _ _ Z ((X.trans sN).trans sO.l) (tN.same sO)))])]]
   .intro σ HM hh;cases hh with
    | mk v6 v9 aT es X tM=>
    subst es;(try omega);cutsat;let aw:=X _ _ aq Z;let ae:=s7 _ _ W;let ai:⇑F<=60:=by cases st;exact vk Z
    calc#[B,_,_,_,Z,Z,.mk aw,Z,mK #[sz _ (by show 5+⇑r<=9000;nofun),N,p,dA,m,F,[GK,r],by rw[zn];rfl,dL.l X,tM,ai,qe Z (xY i1),ZmH st (mV.one (dL.l X) tM D.ap ae aw D.nw) λa0 HN F2 ab f2 u=>Ch (lE ?_)]];calc#[B,_,_,_,Z,Z,.mk (ab.ch B _ ((uM Z).trans ae) (IL d7 ae λ_ z=>by cases z) Z),Z,mK #[sz _ (by show 5+⇑r<=9000;nofun),N,p,dA,m,F2,[FW,r],by rw[zn];rfl,ab.dsk,ab.tk,f2,qe Z (xY i1),ZmG i1 u λe HO sO hx=>#[e,_,1,[],_,Z,Z,Z,#[Z,Z],hx,Ch (q _)]]]
end
end Pk88
open PySem PySem.W PyProof.Rows
open L2(MG XG vi wJ)
open Pk88(eZ)
set_option maxRecDepth 100000 in
set_option maxHeartbeats 0 in
theorem PySem.Challenge.cw_lackword_k88_lines_refused_holds : PySem.Challenge.rw_lackword_k88_lines_refused.Holds := by
 w_on;o_law;k_head;(case hw=>w_witness2)
 k_fill
 refine L2.uu (l:=PySem.Challenge.rw_lackword_k88_lines_refused) (n:=63) (k:=12) (x:="_law_script") (CX:=L2.vf) (sp:=Pk88.spLaw) ["in_order"] Z ⋯ Z #[Z,⋯,⋯] (λw h Y_=>HK.i Y_) (λ_=>by kernel_rfl) (by kernel_rfl) ?F ?S ?C
 case F=>
  intro w mg fa h tb KX G hmg hT;let T:∃t,Pk88.Txt (L2.KOf KX) mg t/\t.t_L2=(tb "in_order").2/\t.k_L2=(tb "in_order").1:=by
   dsimp only[L2.KOf];refine' #[Pk88.Ad.mk ..,?Q,Z,Z];case Q=>
    refine' { gX:=vi KX G ?_ ?_,iL:=vi KX G ?_ ?_,gZ:=vi KX G ?_ ?_,ir:=vi KX G ?_ ?_,gR:=vi KX G ?_ ?_,gY:=vi KX G ?_ ?_,g8:=vi KX G ?_ ?_,gS:=vi KX G ?_ ?_,jD:=vi KX G ?_ ?_,jO:=vi KX G ?_ ?_,jP:=vi KX G ?_ ?_,hO:=vi KX G ?_ ?_,j8:=vi KX G ?_ ?_,hW:=vi KX G ?_ ?_,iy:=vi KX G ?_ ?_,iM:=vi KX G ?_ ?_,iz:=vi KX G ?_ ?_,jj:=vi KX G ?_ ?_,iN:=vi KX G ?_ ?_,jQ:=vi KX G ?_ ?_,jE:=vi KX G ?_ ?_,jU:=vi KX G ?_ ?_,jR:=vi KX G ?_ ?_,iA:=vi KX G ?_ ?_,jk:=vi KX G ?_ ?_,jn:=vi KX G ?_ ?_,iO:=vi KX G ?_ ?_,hZ:=vi KX G ?_ ?_,ii:=vi KX G ?_ ?_,ia:=vi KX G ?_ ?_,hU:=vi KX G ?_ ?_,jo:=vi KX G ?_ ?_,iP:=vi KX G ?_ ?_,jp:=vi KX G ?_ ?_,iQ:=vi KX G ?_ ?_,jV:=vi KX G ?_ ?_,jW:=vi KX G ?_ ?_,jL:=vi KX G ?_ ?_,jq:=vi KX G ?_ ?_,jr:=vi KX G ?_ ?_,gM:=vi KX G ?_ ?_,hG:=vi KX G ?_ ?_,gT:=vi KX G ?_ ?_,ij:=vi KX G ?_ ?_,iR:=vi KX G ?_ ?_,js:=vi KX G ?_ ?_,iS:=vi KX G ?_ ?_,iT:=vi KX G ?_ ?_,iU:=vi KX G ?_ ?_,ik:=vi KX G ?_ ?_,iV:=vi KX G ?_ ?_,io:=vi KX G ?_ ?_,jt:=vi KX G ?_ ?_,ip:=vi KX G ?_ ?_,iW:=vi KX G ?_ ?_,iX:=vi KX G ?_ ?_,iq:=vi KX G ?_ ?_,iY:=vi KX G ?_ ?_,iZ:=vi KX G ?_ ?_,i5:=vi KX G ?_ ?_,jM:=vi KX G ?_ ?_,ib:=vi KX G ?_ ?_,jF:=vi KX G ?_ ?_,i8:=vi KX G ?_ ?_,i9:=vi KX G ?_ ?_,ja:=vi KX G ?_ ?_,jb:=vi KX G ?_ ?_,jG:=vi KX G ?_ ?_,jH:=vi KX G ?_ ?_,jN:=vi KX G ?_ ?_,jT:=vi KX G ?_ ?_,jc:=vi KX G ?_ ?_,jY:=vi KX G ?_ ?_,b7:=wx KX G (?BB:XG _ "LackError" _ [.ref _,.type "ValueError",.type "Exception",.type "BaseException",.type "object"]).a,k_LL:=(?BB).k,cb:=#[?_,?_,?_,Z],fX:=wx KX G (?BL:XG _ "NoWord" _ (eZ _ _)).a,cz:=(?BL).m,gg:=(?BL).i,k_M0:=(?BL).k,fY:=?_,fS:=(?Ae:MG _ _ _ _ _ _).2,bh:=?_,fi_M0:=(?Ae).1,b_M0:=(?Ae).1.binds ?_,m_LZ:=wx KX G (?BF:XG _ "NoLength" _ (eZ _ _)).a,dY:=(?BF).m,gi:=(?BF).i,k_LZ:=(?BF).k,i_LZ:=?_,gj:=(?AY:MG _ _ _ _ _ _).2,aR:=?_,fi_LZ:=(?AY).1,b_LZ:=(?AY).1.binds ?_,m_MH:=wx KX G (?BJ:XG _ "NoPlace" _ (eZ _ _)).a,dZ:=(?BJ).m,gk:=(?BJ).i,k_MH:=(?BJ).k,i_MH:=?_,gm:=(?Ab:MG _ _ _ _ _ _).2,a9:=?_,fi_MH:=(?Ab).1,b_MH:=(?Ab).1.binds ?_,m_MZ:=wx KX G (?BK:XG _ "NoRing" _ (eZ _ _)).a,eC:=(?BK).m,gn:=(?BK).i,k_MZ:=(?BK).k,i_MZ:=?_,gq:=(?Ac:MG _ _ _ _ _ _).2,ba:=?_,fi_MZ:=(?Ac).1,b_MZ:=(?Ac).1.binds ?_,fZ:=wx KX G (?BH:XG _ "NoList" _ (eZ _ _)).a,dC:=(?BH).m,gt:=(?BH).i,k_MX:=(?BH).k,f7:=?_,fT:=(?AZ:MG _ _ _ _ _ _).2,bi:=?_,fi_MX:=(?AZ).1,b_MX:=(?AZ).1.binds ?_,m_MI:=wx KX G (?BN:XG _ "TooLong" _ (eZ _ _)).a,fU:=(?BN).m,gu:=(?BN).i,k_MI:=(?BN).k,i_MI:=?_,gv:=(?Ag:MG _ _ _ _ _ _).2,bw:=?_,fi_MI:=(?Ag).1,b_MI:=(?Ag).1.binds ?_,m_MU:=wx KX G (?BA:XG _ "Inside" _ (eZ _ _)).a,cA:=(?BA).m,gx:=(?BA).i,k_MU:=(?BA).k,i_MU:=?_,gy:=(?AW:MG _ _ _ _ _ _).2,bv:=?_,bb:=?_,fi_MU:=(?AW).1,b_MU:=(?AW).1.binds ?_,m_NL:=wx KX G (?BM:XG _ "Split" _ (eZ _ _)).a,eD:=(?BM).m,gz:=(?BM).i,k_NL:=(?BM).k,i_NL:=?_,gB:=(?Af:MG _ _ _ _ _ _).2,bW:=?_,bM:=?_,fi_NL:=(?Af).1,b_NL:=(?Af).1.binds ?_,m_MD:=wx KX G (?A8:XG _ "Endless" _ (eZ _ _)).a,eE:=(?A8).m,gC:=(?A8).i,k_MD:=(?A8).k,i_MD:=?_,gE:=(?AV:MG _ _ _ _ _ _).2,bz:=?_,bO:=?_,fi_MD:=(?AV).1,b_MD:=(?AV).1.binds ?_,f9:=wx KX G (?BI:XG _ "NoName" _ (eZ _ _)).a,dD:=(?BI).m,gF:=(?BI).i,k_MY:=(?BI).k,gc:=?_,fV:=(?Aa:MG _ _ _ _ _ _).2,bj:=?_,fi_MY:=(?Aa).1,b_MY:=(?Aa).1.binds ?_,m_LM:=wx KX G (?BC:XG _ "NameThere" _ (eZ _ _)).a,eI:=(?BC).m,gG:=(?BC).i,k_LM:=(?BC).k,i_LM:=?_,gH:=(?AX:MG _ _ _ _ _ _).2,aZ:=?_,fi_LM:=(?AX).1,b_LM:=(?AX).1.binds ?_,m_MG:=wx KX G (?BE:XG _ "NoKinds" _ (eZ _ _)).a,x_MG:=(?BE).m,k_MG:=(?BE).k,i_MG:=?_,m_NZ:=wx KX G (?A9:XG _ "Full" _ (eZ _ _)).a,x_NZ:=(?A9).m,i_NZ:=?_,m_NX:=wx KX G (?A7:XG _ "Bare" _ (eZ _ _)).a,x_NX:=(?A7).m,gI:=(?A7).i,k_NX:=(?A7).k,i_NX:=?_,m_MV:=wx KX G (?BD:XG _ "NoBack" _ (eZ _ _)).a,x_MV:=(?BD).m,gJ:=(?BD).i,k_MV:=(?BD).k,i_MV:=?_,m_MW:=wx KX G (?BG:XG _ "NoLine" _ (eZ _ _)).a,x_MW:=(?BG).m,gK:=(?BG).i,k_MW:=(?BG).k,i_MW:=?_,ge:=wx KX G ?_,dE:=#[?_,?_,?_,Z],m_NJ:=wx KX G ?_,bX:=#[?_,?_,?_,?_],dF:=#[?_,?_,(?Ai:MG _ _ _ _ _ _).2,?_],aW:=#[?_,(?AS:MG _ _ _ _ _ _).2,(?AS).1.kp],aS:=#[?_,(?AN:MG _ _ _ _ _ _).2,(?AN).1.kp],bd:=#[?_,(?AQ:MG _ _ _ _ _ _).2,(?AQ).1.kp],a7:=#[?_,(?AM:MG _ _ _ _ _ _).2,(?AM).1.kp],aJ:=?_,aT:=?_,m_NK:=wx KX G ?_,am:=#[?_,?_,?_,?_],dG:=#[?_,?_,(?Am:MG _ _ _ _ _ _).2,?_],bZ:=#[?_,(?Ao:MG _ _ _ _ _ _).2,(?Ao).1.kp],cB:=#[?_,(?Ar:MG _ _ _ _ _ _).2,(?Ar).1.kp],dH:=#[?_,(?Ap:MG _ _ _ _ _ _).2,(?Ap).1.kp],dI:=#[?_,(?Aq:MG _ _ _ _ _ _).2,(?Aq).1.kp],b8:=#[?_,(?An:MG _ _ _ _ _ _).2,(?An).1.kp],bY:=#[?_,(?Aw:MG _ _ _ _ _ _).2,(?Aw).1.kp],dJ:=#[?_,(?Ax:MG _ _ _ _ _ _).2,(?Ax).1.kp],dN:=#[?_,(?As:MG _ _ _ _ _ _).2,(?As).1.kp],dO:=#[?_,(?Al:MG _ _ _ _ _ _).2,(?Al).1.kp],dP:=#[?_,(?Ak:MG _ _ _ _ _ _).2,(?Ak).1.kp],dQ:=#[?_,(?Au:MG _ _ _ _ _ _).2,(?Au).1.kp],aU:=?_,ah:=?_,m_MF:=wx KX G ?_,dR:=#[?_,?_,(?Ah:MG _ _ _ _ _ _).2,?_],gf:=wx KX G ?_,fW:=#[?_,?_,?_,?_],ce:=#[?_,?_,(?Aj:MG _ _ _ _ _ _).2,?_],bo:=?_,bg:=?_,m_NM:=wx KX G ?_,ae:=#[?_,?_,?_,?_],cC:=#[?_,?_,(?A3:MG _ _ _ _ _ _).2,?_],aX:=#[?_,(?AL:MG _ _ _ _ _ _).2,(?AL).1.kp],aF:=#[?_,(?AR:MG _ _ _ _ _ _).2,(?AR).1.kp],dS:=#[?_,(?A4:MG _ _ _ _ _ _).2,(?A4).1.kp],dU:=#[?_,(?A5:MG _ _ _ _ _ _).2,(?A5).1.kp],dW:=#[?_,(?A1:MG _ _ _ _ _ _).2,(?A1).1.kp],dX:=#[?_,(?Ay:MG _ _ _ _ _ _).2,(?Ay).1.kp],cD:=#[?_,(?A2:MG _ _ _ _ _ _).2,(?A2).1.kp],cE:=#[?_,(?A6:MG _ _ _ _ _ _).2,(?A6).1.kp],cF:=#[?_,(?Az:MG _ _ _ _ _ _).2,(?Az).1.kp],cG:=#[?_,(?A0:MG _ _ _ _ _ _).2,(?A0).1.kp],aV:=#[?_,(?AO:MG _ _ _ _ _ _).2,(?AO).1.kp],ad:=?_,ag:=?_,af:=?_,ai:=?_,m_NY:=wx KX G ?_,a8:=#[?_,?_,?_,?_],cH:=#[?_,?_,(?AT:MG _ _ _ _ _ _).2,?_],cf:=#[?_,(?AU:MG _ _ _ _ _ _).2,(?AU).1.kp],aa:=?_,gU:=wJ ?_ ?_,iH:=wJ ?AL ?_,hV:=wJ ?AR ?_,iD:=wJ ?AN ?_,iI:=wJ ?AS ?_,iE:=wJ ?AO ?_,ju:=wJ ?AQ ?_,jd:=wJ ?AM ?_,jw:=wJ ?Ai ?_,jx:=wJ ?Am ?_,gO:=wJ ?Ao ?_,gW:=wJ ?Ar ?_,jI:=wJ ?Ap ?_,ji:=wJ ?Aq ?_,gV:=wJ ?An ?_,gN:=wJ ?Aw ?_,jy:=wJ ?Ax ?_,jJ:=wJ ?As ?_,jz:=wJ ?Al ?_,jA:=wJ ?Ak ?_,je:=wJ ?Au ?_,jf:=wJ ?Ah ?_,iB:=wJ ?Aj ?_,iJ:=wJ ?A3 ?_,iF:=wJ ?A4 ?_,jK:=wJ ?A5 ?_,jB:=wJ ?A1 ?_,jC:=wJ ?Ay ?_,iK:=wJ ?A2 ?_,ic:=wJ ?A6 ?_,ie:=wJ ?Az ?_,ig:=wJ ?A0 ?_,jh:=wJ ?AT ?_,jg:=wJ ?AU ?_,nd:=?_,gQ:=yN KX G ?_,hJ:=yN KX G ?_,gL:=yN KX G ?_,j9:=yN KX G ?_,kh:=yN KX G ?_,km:=yN KX G ?_,iG:=yN KX G ?_,jZ:=yN KX G ?_,iC:=yN KX G ?_,jS:=yN KX G ?_,kg:=yN KX G ?_,j7:=yN KX G ?_,jX:=yN KX G ?_,kn:=yN KX G ?_,c_KE:=#[_,wx KX G ?_],c_K1:=#[_,wx KX G ?_],c_KD:=#[_,wx KX G ?_],c_K0:=#[_,wx KX G ?_],c_K2:=#[_,wx KX G ?_],c_KI:=#[_,wx KX G ?_],c_KJ:=#[_,wx KX G ?_],c_KZ:=#[_,wx KX G ?_],c_ME:=#[_,wx KX G ?_],c_KH:=#[_,wx KX G ?_],c_KK:=#[_,wx KX G ?_],v_FORMS:=wx KX G ?_,v_ANSWERS:=wx KX G ?_,bl:=?bl }
    any_goals ((try dsimp only);first | (intro _ _ _ _ _ _;(first | refine Pk88.lenA ?_ | refine Pk88.lenB ?_ | refine Pk88.lenC ?_ | refine Pk88.lenD ?_);intros;rfl) | (apply L2.xg_mk;(iterate 2 k_is);rfl;(iterate 10 k_is);rfl;rfl) | (apply L2.mg_mk;iterate 4 k_is) | (apply L2.dg_mk;iterate 4 k_is) | k_is | rfl | decide)
    case bl=>exact λs u=>.of_eq Z
  let#[t,T,et_L2,ek_L2]:=T;let e0:=hmg.symm.trans T.jY.m;cases e0;let cd_L2:t.d_L2.code=.ref t.k_L2:=by let#[o,e1,e2]:=T.gS.u.at KX;rw[ek_L2];exact(hT "in_order" {}).codeEq T.gS.m e1 e2
  let S_FORMS:L2.qK w (L2.KOf KX) t.v_FORMS L2.oP:=by
   apply L2.sd_at (p:=λb=>L2.qK w (L2.KOf KX) b L2.oP) KX G (e2:=T.v_FORMS)
   k_is
   (try dsimp only[L2.KOf])
   apply L2.qK.of
   k_is
   (iterate 5 first | rfl | kernel_rfl)
   iterate 17 (apply L2.pG.cons;k_is;k_is;rfl;(first | rfl | kernel_rfl))
   exact .nil
  let S_ANSWERS:L2.Mo w (L2.KOf KX) mg t.v_ANSWERS L2.qo:=by
   apply L2.sd_at (p:=λb=>L2.Mo w (L2.KOf KX) mg b L2.qo) KX G (e2:=T.v_ANSWERS)
   k_is
   (try dsimp only[L2.KOf])
   apply L2.Mo.of KX G
   k_is
   (iterate 4 first | rfl | kernel_rfl)
   iterate 17 (apply L2.pV.cons;k_is;k_is)
   exact .nil
  refine' #[_,?b,λbase kb nb hL=>Pk88.ok_law (tb:=tb) { T with sd_FORMS:=S_FORMS,sd_ANSWERS:=S_ANSWERS,L_in_order:=by rw[et_L2,ek_L2];calc hL "in_order" {},cd_L2:=cd_L2,e_L2:=et_L2 }];exact T.bl
 case S=>exact λK tb H a ns hl hP hS=>#[a,ns,Z,hS,hl,L2.uw (hP "in_order" {}),λ_=>rfl]
 case C=>calc λ_ _ _ _ z=>z
#print axioms PySem.Challenge.cw_lackword_k88_lines_refused_holds
